/-
  The walks of a reader's Byte and Bytes.
-/
import Derived.Test.YtibaejoonmedjaaCom
namespace Go.Proofs.Ytibaejoonmedjaa
open Go.RowKit Oct
set_option linter.unusedVariables false

set_option maxHeartbeats 1000000 in
theorem rByte_none (r g : Nat) (w : World) (hR : Rd w r g []) :
    Calls Try.prog 25 #[.pointer (some ⟨r, 0, none⟩)] w fun e w' => e = .returned (.tuple #[.int .i64 0, .int .i64 2]) ∧ w' = w := by
  obtain ⟨a, n, c, hr, hb, ha, hne, hlt⟩ := hR.open
  have hcell := cell_of_one hr
  have hl := hb.len
  simp at hl
  subst hl
  clear hb hr ha
  go_enter Try.func25, Try.ntmps25
  go_wp2_with fail
  go_ret2
  exact ⟨rfl, rfl⟩

set_option maxHeartbeats 1000000 in
theorem rByte_some (r g : Nat) (y : Int) (zs : List Int) (w : World) (hR : Rd w r g (y :: zs)) :
    Calls Try.prog 25 #[.pointer (some ⟨r, 0, none⟩)] w fun e w' => e = .returned (.tuple #[.int .i64 y, .int .i64 0]) ∧ Rd w' r g zs ∧ w.grownBy w' (some r) := by
  obtain ⟨a, n, c, hr, hb, ha, hne, hlt⟩ := hR.open
  have hcell := cell_of_one hr
  have hfree := free_of_one hr
  have hle := hb.le
  have hmx : c ≤ 9223372036854775807 := by have := hb.max; unfold maxLen at this; omega
  have hl := hb.len
  simp at hl
  obtain ⟨hy0, hy1⟩ := hb.byte y (by simp)
  obtain ⟨b, off, rfl, _, hc⟩ := hb.at (by omega)
  have hbg : b = g := ha _ rfl
  subst hbg
  have g0 := hc 0 (by omega)
  simp at g0
  have HB : Hid (Bytes w (some ⟨b, off, none⟩) n c (y :: zs)) := hb
  have HR : Hid (w.heap[r]? = some (.cells #[.slice (some ⟨b, off, none⟩) n c] 55 (0, 0))) := hr
  have hn1 : 1 ≤ n := by omega
  have hn0 : ((n : Int) == 0) = false := by simp; omega
  clear hb hr ha hc hl
  go_enter Try.func25, Try.ntmps25
  go_wp2_with fail
  all_goals go_ret2
  · exact ⟨rfl, rd_moved (m := 1) HR.out HB.out hne hlt (by omega) (by omega) (by omega) (.inl (by omega))⟩
  · exact ⟨rfl, rd_moved (m := 1) HR.out HB.out hne hlt (by omega) (by omega) (by omega) (.inr rfl)⟩

set_option maxHeartbeats 1000000 in
theorem rBytes_neg (r g : Nat) (zs : List Int) (m : Int) (w : World) (hR : Rd w r g zs) (hm : m < 0) :
    Calls Try.prog 26 #[.pointer (some ⟨r, 0, none⟩), .int .i64 m] w fun e w' => e = .returned (.tuple #[.slice none 0 0, .int .i64 1]) ∧ w' = w := by
  go_enter Try.func26, Try.ntmps26
  go_wp2_with fail
  go_ret2
  exact ⟨rfl, rfl⟩

set_option maxHeartbeats 1000000 in
theorem rBytes_short (r g : Nat) (zs : List Int) (m : Int) (w : World) (hR : Rd w r g zs) (hm0 : 0 ≤ m) (hm : zs.length < m) :
    Calls Try.prog 26 #[.pointer (some ⟨r, 0, none⟩), .int .i64 m] w fun e w' => e = .returned (.tuple #[.slice none 0 0, .int .i64 2]) ∧ w' = w := by
  obtain ⟨a, n, c, hr, hb, ha, hne, hlt⟩ := hR.open
  have hcell := cell_of_one hr
  have hmn : (n : Int) < m := by rw [hb.len] at hm; exact hm
  clear hb hr ha hm
  go_enter Try.func26, Try.ntmps26
  go_wp2_with fail
  go_ret2
  exact ⟨rfl, rfl⟩

set_option maxHeartbeats 1000000 in
theorem rBytes_ok (r g : Nat) (zs ts us : List Int) (m : Nat) (w : World) (hR : Rd w r g zs) (hm : m ≤ zs.length) (hts : zs.take m = ts) (hus : zs.drop m = us) (hsum : zs.length ≤ 281474976710656) :
    Calls Try.prog 26 #[.pointer (some ⟨r, 0, none⟩), .int .i64 m] w fun e w' => e = .returned (.tuple #[.slice (some ⟨w.heap.size + 1, 0, none⟩) m m, .int .i64 0]) ∧ w'.ownsRow w.heap.size 5 1 (.slice (some ⟨w.heap.size + 1, 0, none⟩) m m) m (u8s ts) ∧ Rd w' r g us ∧ w.grownBy w' (some r) := by
  obtain ⟨off, n, c, hr, hb, hne, hlt⟩ := id hR
  have HTS : Hid (zs.take m = ts) := hts
  have HUS : Hid (zs.drop m = us) := hus
  clear hts hus
  have hcell := cell_of_one hr
  have hle := hb.le
  have hmx : c ≤ 9223372036854775807 := by have := hb.max; unfold maxLen at this; omega
  have hl := hb.len
  have hmn : m ≤ n := by omega
  have hnn : n ≤ 281474976710656 := by omega
  have HB : Hid (Bytes w (some ⟨g, off, none⟩) n c zs) := hb
  have HR : Hid (w.heap[r]? = some (.cells #[.slice (some ⟨g, off, none⟩) n c] 55 (0, 0))) := hr
  have hrlt : r < w.heap.size := (Array.getElem?_eq_some_iff.1 hr).1
  clear hb hr hm hsum hl
  go_enter Try.func26, Try.ntmps26
  go_wp2_with fail
  refine (join_one w.heap.size (some ⟨g, off, none⟩) m c ts _ (by simp) ((by rw [← HTS.out]; exact HB.out.take hmn : Bytes w (some ⟨g, off, none⟩) m c ts).later (below_alloc w _)) (by omega)).mono ?_
  rintro e w1 ⟨rfl, hown, hbel⟩
  have HB1 : Hid (Below w.heap.size w w1) := below_step (below_alloc w _) hbel
  have HO1 : Hid (w1.ownsRow w.heap.size 5 1 (.slice (some ⟨w.heap.size + 1, 0, none⟩) m m) m (u8s ts)) := by
    have h : w1.ownsRow (w.heap.size + 1) 5 1 (.slice (some ⟨w.heap.size + 1, 0, none⟩) m m) m (u8s ts) := by simpa using hown
    obtain ⟨h1, h2⟩ := h
    refine ⟨h1, ?_⟩
    rcases h2 with h2 | ⟨g', cap', cur, hv, hg', hh, rest⟩
    · exact .inl h2
    · exact .inr ⟨g', cap', cur, hv, by omega, hh, rest⟩
  have HR1 : Hid (w1.heap[r]? = some (.cells #[.slice (some ⟨g, off, none⟩) n c] 55 (0, 0))) := by
    show _ = _
    rw [HB1.out.block r hrlt]; exact HR.out
  have hcell1 := cell_of_one HR1.out
  have hfree1 := free_of_one HR1.out
  have HS1 : Hid (Bytes w1 (some ⟨g, off, none⟩) n c zs) := HB.out.later HB1.out
  have hlt1 : g < w1.heap.size := Nat.lt_of_lt_of_le hlt HB1.out.size
  clear hown hbel hcell
  have hgr : ∀ u : Value, w.grownBy (w1.setCell ⟨r, 0, none⟩ u) (some r) := fun u =>
    ⟨HB1.out.os, HB1.out.tape, HB1.out.output, by simpa [World.setCell] using HB1.out.size, fun k hk hk' => (Below.heap_setCell _ _ _ _ (fun e => hk' (by rw [e]))).trans (HB1.out.block k hk)⟩
  have hgo := hide hgr
  have hoo : Hid (∀ u : Value, (w1.setCell ⟨r, 0, none⟩ u).ownsRow w.heap.size 5 1 (.slice (some ⟨w.heap.size + 1, 0, none⟩) m m) m (u8s ts)) :=
    fun u => ownsRow_setCell_other HO1.out (a := ⟨r, 0, none⟩) (by simp [Value.ownBlock]; omega) u
  clear hgr
  go_wp2_with fail
  all_goals go_ret2
  · exact ⟨rfl, hoo.out _, by rw [← HUS.out]; exact (rd_moved HR1.out HS1.out hne hlt1 (by omega) (by omega) (by omega) (.inl (by omega))).1, hgo.out _⟩
  · exact ⟨rfl, hoo.out _, by rw [← HUS.out]; exact (rd_moved HR1.out HS1.out hne hlt1 (by omega) (by omega) (by omega) (.inr rfl)).1, hgo.out _⟩

end Go.Proofs.Ytibaejoonmedjaa

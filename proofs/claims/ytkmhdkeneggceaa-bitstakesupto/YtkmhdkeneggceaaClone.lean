/-
  The walks of slices.Clone, Writer.Bytes and Open: bytes in new memory.
-/
import Derived.Test.YtkmhdkeneggceaaPut
import Derived.Lib.SliceRun
namespace Go.Proofs.Ytkmhdkeneggceaa
open Go.RowKit Bt
set_option linter.unusedVariables false

theorem bytes_none {w : World} {n c : Nat} {zs : List Int} (h : Bytes w none n c zs) : n = 0 ∧ c = 0 ∧ zs = [] := by
  have h1 := h.nil rfl
  have h2 := h.le
  have h3 := h.len
  exact ⟨by omega, h1, List.eq_nil_of_length_eq_zero (by omega)⟩

theorem Bytes.news {w : World} {a : Option Addr} {n cap : Nat} {zs : List Int} (h : Bytes w a n cap zs) : ∀ ad, a = some ad → ∀ j u, (u8s zs)[j]? = some u → w.cell? (ad.add j) = some u := by
  intro ad ha j u hu
  have hj : j < n := by
    have := (List.getElem?_eq_some_iff.1 hu).1
    simpa [h.len] using this
  obtain ⟨b, off, ha', _, hc⟩ := h.at (by omega)
  rw [ha] at ha'
  cases ha'
  rw [Addr.add_lit, hc j hj]
  have hl := h.len
  simp only [u8s, List.getElem?_map] at hu
  rw [List.getElem?_eq_getElem (by omega)] at hu
  simp only [Option.map_some, Option.some.injEq] at hu
  rw [← hu]
  simp [List.getD, hl, hj]

set_option maxHeartbeats 1000000 in
theorem clone_any (a : Option Addr) (n c : Nat) (zs : List Int) (w : World) (hb : Bytes w a n c zs) (hn : n ≤ 140737488355328) :
    Calls Try.prog 33 #[.slice a n c] w fun e w' => ∃ v, e = .returned v ∧ w'.ownsRow w.heap.size 5 1 v n (u8s zs) ∧ Below w.heap.size w w' := by
  obtain ⟨i0, hi, hz0, hz1, hz2⟩ := info_parts info5
  have HB := hide hb
  have heq : ∀ (w : World) (a : Option Addr) (n c : Nat), (binOp .eql 34 (.slice a n c) (.slice none 0 0)).run Try.prog w = .ok (.bool a.isNone) w := fun w a n c => Lib.run_eql_slice_nil w 34 5 a n c 0 0 Try.underlying34
  cases a with
  | none =>
    obtain ⟨rfl, rfl, rfl⟩ := bytes_none hb
    clear hb
    go_enter Try.func33, Try.ntmps33
    go_wp2_with fail
    go_ret
    exact ⟨_, rfl, ⟨rfl, .inl ⟨rfl, rfl⟩⟩, Below.refl _ _⟩
  | some ad =>
    have hl : (u8s zs).length = n * 1 := by simpa using hb.len
    have hbel : Below w.heap.size w (w.alloc (.cells #[] 5)) := (Below.refl _ _).alloc (Nat.le_refl _) _
    have HBel := hide hbel
    have HN := hide (hb.later hbel).news
    have HO : Hid ((w.alloc (.cells #[] 5)).ownsRow w.heap.size 5 1 (.slice (some ⟨w.heap.size, 0, none⟩) 0 0) 0 []) := hide ⟨rfl, .inr ⟨w.heap.size, 0, #[], rfl, Nat.le_refl _, heap_alloc_new w _, Nat.le_refl _, Nat.zero_le _, rfl, rfl⟩⟩
    clear hb hbel
    go_enter Try.func33, Try.ntmps33
    go_wp2_with (at_builtin; refine wpList_append_kept _ rfl _ _ 34 rfl w.heap.size 5 i0 (.int .u8 0) 1 Try.underlying34 hi hz0 hz1 hz2 rfl (.slice (some ⟨w.heap.size, 0, none⟩) 0 0) 0 [] rfl HO.out (some ad) n c (u8s zs) rfl hl (fun h => by cases h) HN.out (ints_oneCell _ _) (by unfold maxLen; omega) (by omega) (by simp) ?_; intro v' w2 hown' hgr0; have hgr := hide hgr0; clear hgr0)
    have HO2 : Hid (w2.ownsRow w.heap.size 5 1 v' n (u8s zs)) := hide (by simpa using hown')
    have HB2 : Hid (Below w.heap.size w w2) := hide (by
      rcases hgr.out with ⟨g, cap, hv, hv', hg⟩ | ⟨hg, _⟩
      · simp only [Value.slice.injEq, Option.some.injEq, Addr.mk.injEq, and_true] at hv
        exact HBel.out.grown hg HBel.out.size (fun k h => by cases h; omega)
      · exact HBel.out.grown hg HBel.out.size (fun k h => by cases h))
    clear hown' hgr
    go_wp2_with fail
    go_ret
    exact ⟨v', rfl, HO2.out, HB2.out⟩

/-- The bytes of a writer, in new memory. -/
theorem wbytes_any (base r : Nat) (v : Value) (bs : List Int) (w : World) (hW : Wr base w r v bs) (hlen : bs.length < 1125899906842624) :
    Calls Try.prog 13 #[.pointer (some ⟨r, 0, none⟩)] w fun e w' => ∃ v', e = .returned v' ∧ w'.ownsRow w.heap.size 5 1 v' ((bs.length + 7) / 8) (u8s (pack bs)) ∧ Below w.heap.size w w' := by
  have hc0 := two_cell0 hW.heap
  obtain ⟨a, c, rfl, hB, _⟩ := Bytes.of_owns hW.own (pack_byte hW.bin)
  go_enter Try.func13, Try.ntmps13
  go_wp2_with fail
  refine (clone_any a _ c _ w hB (by omega)).mono ?_
  rintro e w1 ⟨v', rfl, hown, hbel⟩
  have HO := hide hown
  have HBel := hide hbel
  clear hown hbel hB
  go_wp2_with fail
  go_ret
  exact ⟨v', rfl, HO.out, HBel.out⟩

theorem wbytes_b (base r : Nat) (v : Value) (bs : List Int) (w : World) (hW : Wr base w r v bs) (hlen : bs.length < 1125899906842624) :
    Calls Try.prog 13 #[.pointer (some ⟨r, 0, none⟩)] w fun e w' => ∃ a m c, e = .returned (.slice a m c) ∧ w'.ownsRow w.heap.size 5 1 (.slice a m c) m (u8s (pack bs)) ∧ Bytes w' a m c (pack bs) ∧ Below w.heap.size w w' :=
  (wbytes_any base r v bs w hW hlen).mono fun e w' ⟨v', he, ho, hb⟩ => by
    obtain ⟨a, c, rfl, hB, _⟩ := Bytes.of_owns ho (pack_byte hW.bin)
    exact ⟨a, _, c, he, ho, hB, hb⟩

theorem wbytes_nil (w : World) : Calls Try.prog 13 #[.pointer none] w fun e w' => e = .returned (.slice none 0 0) ∧ w' = w := by
  go_enter Try.func13, Try.ntmps13
  go_wp2_with fail
  go_ret
  exact ⟨rfl, rfl⟩

/-- The reader in block r: its bytes zs lie in memory of their own; it has read at bits. -/
structure Rd (base : Nat) (w : World) (r : Nat) (v : Value) (zs : List Int) (at' : Nat) : Prop where
  heap : w.heap[r]? = some (.cells #[v, .int .i64 (at' : Nat)] 62 (0, 0))
  own : w.ownsRow base 5 1 v zs.length (u8s zs)
  base : base ≤ r
  byte : ∀ z ∈ zs, 0 ≤ z ∧ z ≤ 255
  le : at' ≤ 8 * zs.length
  short : zs.length ≤ 140737488355328

theorem Rd.lt {base : Nat} {w : World} {r : Nat} {v : Value} {zs : List Int} {at' : Nat} (h : Rd base w r v zs at') : r < w.heap.size := lt_of_block h.heap
theorem Rd.ne {base : Nat} {w : World} {r : Nat} {v : Value} {zs : List Int} {at' : Nat} (h : Rd base w r v zs at') : v.ownBlock ≠ some r := owns_not h.own h.heap (by decide)

theorem Keeps.rd {w w' : World} {S : Nat → Prop} {base r : Nat} {v : Value} {zs : List Int} {at' : Nat} (hk : Keeps w w' S) (h : Rd base w r v zs at') (hS : ∀ k, Its r v k → ¬ S k) : Rd base w' r v zs at' :=
  ⟨by rw [hk.block r h.lt (hS r (.inl rfl))]; exact h.heap, hk.owns h.own (fun g hg => hS g (.inr hg)), h.base, h.byte, h.le, h.short⟩
theorem Rd.later {base : Nat} {w w' : World} {r : Nat} {v : Value} {zs : List Int} {at' : Nat} (h : Rd base w r v zs at') (hb : Below w.heap.size w w') : Rd base w' r v zs at' :=
  (Keeps.of_below (S := fun _ => False) hb (fun k hk h' => by omega)).rd h (fun _ _ hf => hf)

theorem Rd.moved {base : Nat} {w : World} {r : Nat} {v : Value} {zs : List Int} {at' : Nat} (h : Rd base w r v zs at') {x : Int} {y : Nat} (hx : x = (y : Int)) (hy : y ≤ 8 * zs.length) : Rd base (w.setCell ⟨r, 1, none⟩ (.int .i64 x)) r v zs y ∧ w.grownBy (w.setCell ⟨r, 1, none⟩ (.int .i64 x)) (some r) := by
  subst hx
  exact ⟨⟨two_set1 h.heap, ownsRow_setCell_other h.own h.ne _, h.base, h.byte, hy, h.short⟩, grownBy_setCell ..⟩

set_option maxHeartbeats 400000 in
theorem open_any (a : Option Addr) (n c : Nat) (zs : List Int) (w : World) (hb : Bytes w a n c zs) (hn : n ≤ 140737488355328) :
    Calls Try.prog 18 #[.slice a n c] w fun e w' => ∃ r v, e = .returned (.pointer (some ⟨r, 0, none⟩)) ∧ Rd w.heap.size w' r v zs 0 ∧ Below w.heap.size w w' := by
  have hl := hb.len
  go_enter Try.func18, Try.ntmps18
  go_wp2_with fail
  refine (clone_any a n c zs w hb hn).mono ?_
  rintro e w1 ⟨v', rfl, hown, hbel⟩
  obtain ⟨a', c', rfl, _, _⟩ := Bytes.of_owns hown hb.byte
  generalize hv' : Value.slice a' n c' = v' at *
  have hbel2 : Below w.heap.size w (w1.alloc (.cells #[v', .int .i64 0] 62)) := hbel.alloc hbel.size _
  have hown2 : (w1.alloc (.cells #[v', .int .i64 0] 62)).ownsRow w.heap.size 5 1 v' n (u8s zs) := hown.kept (World.grownBy_alloc w1 _ none) (Decidable.em _)
  have HR : Hid (Rd w.heap.size (w1.alloc (.cells #[v', .int .i64 0] 62)) w1.heap.size v' zs 0) := hide ⟨heap_alloc_new w1 _, by rw [hl]; exact hown2, hbel.size, hb.byte, Nat.zero_le _, by rw [hl]; exact hn⟩
  have HBel := hide hbel2
  clear hbel hbel2 hown hown2 hb hl
  subst hv'
  go_wp2_with fail
  go_ret
  exact ⟨_, _, rfl, HR.out, HBel.out⟩

end Go.Proofs.Ytkmhdkeneggceaa

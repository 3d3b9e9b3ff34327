/-
  The walk of damasklaw01.reads, the rest: Bytes, Left, Done, and steps that are none.
-/
import Derived.Test.YtibaejoonmedjaaReads
namespace Go.Proofs.Ytibaejoonmedjaa
open Go.RowKit Oct
set_option linter.unusedVariables false

theorem grown_new {w w1 w2 : World} {row : Option Nat} {x : Nat} (h1 : w.grownBy w1 row) (h2 : w1.grownBy w2 (some x)) (hx : w.heap.size ≤ x) : w.grownBy w2 row :=
  ⟨h2.os.trans h1.os, h2.tape.trans h1.tape, h2.output.trans h1.output, Nat.le_trans h1.size h2.size, fun k hk hk' => (h2.block k (Nat.lt_of_lt_of_le hk h1.size) (by simp; omega)).trans (h1.block k hk hk')⟩

set_option maxHeartbeats 4000000 in
set_option maxRecDepth 100000 in
theorem reads_bytes (r g : Nat) (zs : List Int) (a : Option Addr) (n c m : Nat) (w : World) (hR : Rd w r g zs) (hB : Bytes w a n c zs) (hab : ∀ x, a = some x → n ≠ 0 → x.block ≠ r) (hm : m ≤ n) (hsum : n ≤ 281474976710656) :
    Calls Try.prog 20 #[.pointer (some ⟨r, 0, none⟩), .slice a n c, .agg #[.int .i64 4, .int .i64 m]] w fun e w' => ∃ a' n' c', e = .returned (.tuple #[.slice a' n' c', .bool true]) ∧ Left w w' r g a n c zs a' n' c' := by
  have hmx : c ≤ 9223372036854775807 := by have := hB.max; unfold maxLen at this; omega
  have hle := hB.le
  have HN : Hid (a = none → c = 0) := hB.nil
  have HM : Hid (c ≤ maxLen) := hB.max
  have HL : Hid (zs.length = n) := hB.len
  have HR : Hid (Rd (w.alloc (.cells #[.int .i64 4, .int .i64 m] 42)) r g zs) := hR.later (below_alloc w _)
  have HB : Hid (Bytes w a n c zs) := hB
  have HBA : Hid (∀ wx, (w.alloc (.cells #[.int .i64 4, .int .i64 m] 42)).grownBy wx (some r) → Bytes wx a n c zs) := fun wx hx => (hB.later (below_alloc w _)).kept hx (fun x hx hn e => hab x hx hn (by simpa using e))
  have hlt := hR.lt
  have hrlt := hlt.2
  have hglt := hlt.1
  have HX : Hid (∀ wx, (w.alloc (.cells #[.int .i64 4, .int .i64 m] 42)).grownBy wx (some r) → wx.cell? ⟨w.heap.size, 1, none⟩ = some (.int .i64 m)) := fun wx hx =>
    (World.cell?_of_block (a := ⟨w.heap.size, 1, none⟩) (hx.block w.heap.size (by simp) (by simp; omega))).trans (by simp)
  clear hR hB hab hlt
  go_enter Try.func20, Try.ntmps20
  go_wp2_with fail
  refine (rBytes_ok r g zs _ _ m _ HR.out (by rw [HL.out]; exact hm) rfl rfl (by rw [HL.out]; exact hsum)).mono ?_
  rintro e w1 ⟨rfl, hown, hR1, hg1⟩
  have HO1 := hide hown
  have HR1 := hide hR1
  have HG1 := hide hg1
  clear hown hR1 hg1
  have x1 := HX.out _ HG1.out
  go_wp2_with fail
  clear x1
  have HS1 : Hid (Bytes w1 (some ⟨w.heap.size + 1 + 1, 0, none⟩) m m (zs.take m)) := by
    obtain ⟨a9, c9, hv, hB9, _⟩ := Bytes.of_owns HO1.out (fun z hz => HB.out.byte z (List.mem_of_mem_take hz))
    simp only [Value.slice.injEq] at hv
    obtain ⟨rfl, _, rfl⟩ := hv
    exact hide (by simpa using hB9)
  refine (same_self (some ⟨w.heap.size + 1 + 1, 0, none⟩) a m m m c (zs.take m) _ HS1.out ((HBA.out _ HG1.out).take hm)).mono ?_
  rintro e w2 ⟨rfl, q, rfl⟩
  have HO2 : Hid ((w1.drewN q).ownsRow (w.heap.size + 1) 5 1 (.slice (some ⟨w.heap.size + 1 + 1, 0, none⟩) m m) m (u8s (zs.take m))) := by
    have h : w1.ownsRow (w.heap.size + 1) 5 1 (.slice (some ⟨w.heap.size + 1 + 1, 0, none⟩) m m) m (u8s (zs.take m)) := by simpa using HO1.out
    exact owns_later h (below_drewN (Below.refl _ _) q)
  have HR2 : Hid (Rd (w1.drewN q) r g (zs.drop m)) := rd_drewN HR1.out q
  have HG2 : Hid ((w.alloc (.cells #[.int .i64 4, .int .i64 m] 42)).grownBy (w1.drewN q) (some r)) := grown_drewN HG1.out q
  clear HS1 HO1 HR1 HG1
  have hmi : m ≤ 9223372036854775807 := by omega
  go_wp2_with fail
  go_loopw [23] (fun i wr => ∃ (k : Nat) (xs : List Value), k ≤ m ∧ i = .int .i64 k ∧ wr.ownsRow (w.heap.size + 1) 5 1 (.slice (some ⟨w.heap.size + 1 + 1, 0, none⟩) m m) m xs ∧ Rd wr r g (zs.drop m) ∧ (w.alloc (.cells #[.int .i64 4, .int .i64 m] 42)).grownBy wr (some r))
    (fun i _ => m - (intOf i).toNat)
  case atStart => exact ⟨0, _, Nat.zero_le _, rfl, HO2.out, HR2.out, HG2.out⟩
  case round =>
    clear HO2 HR2 HG2
    obtain ⟨k, xs, hk, rfl, hown, hRr, hGr⟩ := hrel
    have HO := hide hown
    have HRr := hide hRr
    have HGr := hide hGr
    clear hown hRr hGr
    by_cases hlt : k < m
    · have hcl : ∃ u, wr.cell? ⟨w.heap.size + 1 + 1, k, none⟩ = some u := by
        have h1 := HO.out.cellAt k (by omega)
        have h2 := HO.out.1
        exact ⟨_, h1.trans (List.getElem?_eq_getElem (by omega))⟩
      obtain ⟨u, hu⟩ := hcl
      have hfz := HO.out.frozenAt k
      go_wp2_with fail
      have hst := HO.out.stored k (.int .u8 7)
      go_roundw
      case rel => exact ⟨k + 1, _, by omega, by go_num, hst.1, HRr.out.kept hst.2 (by simp; omega) (by simp; omega), grown_new HGr.out hst.2 (by simp)⟩
      case measure => simp [intOf]; omega
    · have x2 := HX.out _ HGr.out
      by_cases hn : n = 0
      · subst hn
        obtain rfl : m = 0 := by omega
        go_wp2_with fail
        go_ret2
        exact ⟨_, _, _, rfl, Left.box ⟨0, Nat.le_refl _, tail_empty HN.out HM.out, HRr.out, HGr.out⟩⟩
      · obtain ⟨b, off, rfl, _, _⟩ := HB.out.at hn
        go_wp2_with fail
        all_goals go_ret2
        · exact ⟨_, _, _, rfl, Left.box ⟨m, hm, tail_cut hm (by omega) (by omega) (.inl (by omega)), HRr.out, HGr.out⟩⟩
        · exact ⟨_, _, _, rfl, Left.box ⟨m, hm, tail_cut hm (by omega) (by omega) (.inr rfl), HRr.out, HGr.out⟩⟩

set_option maxHeartbeats 4000000 in
set_option maxRecDepth 100000 in
theorem reads_neg (r g : Nat) (zs : List Int) (a : Option Addr) (n c : Nat) (N : Int) (w : World) (hR : Rd w r g zs) (hB : Bytes w a n c zs) (hN : N < 0) :
    Calls Try.prog 20 #[.pointer (some ⟨r, 0, none⟩), .slice a n c, .agg #[.int .i64 4, .int .i64 N]] w fun e w' => ∃ a' n' c', e = .returned (.tuple #[.slice a' n' c', .bool true]) ∧ Left w w' r g a n c zs a' n' c' := by
  have hmx : n ≤ 9223372036854775807 := by have := hB.le; have := hB.max; unfold maxLen at this; omega
  have HL : Hid (zs.length = n) := hB.len
  have HR : Hid (Rd (w.alloc (.cells #[.int .i64 4, .int .i64 N] 42)) r g zs) := hR.later (below_alloc w _)
  clear hR hB
  go_enter Try.func20, Try.ntmps20
  go_wp2_with fail
  refine (rBytes_neg r g zs N _ HR.out hN).mono ?_
  rintro e w1 ⟨rfl, rfl⟩
  go_wp2_with fail
  go_ret2
  exact ⟨_, _, _, rfl, Left.box ⟨0, Nat.zero_le _, Tail.refl _ _ _, HR.out, World.grownBy.refl _ _⟩⟩

set_option maxHeartbeats 4000000 in
set_option maxRecDepth 100000 in
theorem reads_over (r g : Nat) (zs : List Int) (a : Option Addr) (n c : Nat) (N : Int) (w : World) (hR : Rd w r g zs) (hB : Bytes w a n c zs) (hN0 : 0 ≤ N) (hN : (n : Int) < N) :
    Calls Try.prog 20 #[.pointer (some ⟨r, 0, none⟩), .slice a n c, .agg #[.int .i64 4, .int .i64 N]] w fun e w' => ∃ a' n' c', e = .returned (.tuple #[.slice a' n' c', .bool true]) ∧ Left w w' r g a n c zs a' n' c' := by
  have hmx : n ≤ 9223372036854775807 := by have := hB.le; have := hB.max; unfold maxLen at this; omega
  have HL : Hid (zs.length = n) := hB.len
  have HR : Hid (Rd (w.alloc (.cells #[.int .i64 4, .int .i64 N] 42)) r g zs) := hR.later (below_alloc w _)
  clear hR hB
  go_enter Try.func20, Try.ntmps20
  go_wp2_with fail
  refine (rBytes_short r g zs N _ HR.out hN0 (by rw [HL.out]; exact hN)).mono ?_
  rintro e w1 ⟨rfl, rfl⟩
  go_wp2_with fail
  go_ret2
  exact ⟨_, _, _, rfl, Left.box ⟨0, Nat.zero_le _, Tail.refl _ _ _, HR.out, World.grownBy.refl _ _⟩⟩

set_option maxHeartbeats 4000000 in
set_option maxRecDepth 100000 in
theorem reads_left (r g : Nat) (zs : List Int) (a : Option Addr) (n c : Nat) (N : Int) (w : World) (hR : Rd w r g zs) (hB : Bytes w a n c zs) :
    Calls Try.prog 20 #[.pointer (some ⟨r, 0, none⟩), .slice a n c, .agg #[.int .i64 5, .int .i64 N]] w fun e w' => ∃ a' n' c', e = .returned (.tuple #[.slice a' n' c', .bool true]) ∧ Left w w' r g a n c zs a' n' c' := by
  have hmx : n ≤ 9223372036854775807 := by have := hB.le; have := hB.max; unfold maxLen at this; omega
  have HL : Hid (zs.length = n) := hB.len
  have HR : Hid (Rd (w.alloc (.cells #[.int .i64 5, .int .i64 N] 42)) r g zs) := hR.later (below_alloc w _)
  clear hR hB
  go_enter Try.func20, Try.ntmps20
  go_wp2_with fail
  refine (rLeft_any r g zs _ HR.out).mono ?_
  rw [HL.out]
  rintro e w1 ⟨rfl, rfl⟩
  go_wp2_with fail
  go_ret2
  exact ⟨_, _, _, rfl, Left.box ⟨0, Nat.zero_le _, Tail.refl _ _ _, HR.out, World.grownBy.refl _ _⟩⟩

set_option maxHeartbeats 4000000 in
set_option maxRecDepth 100000 in
theorem reads_done (r g : Nat) (zs : List Int) (a : Option Addr) (n c : Nat) (N : Int) (w : World) (hR : Rd w r g zs) (hB : Bytes w a n c zs) :
    Calls Try.prog 20 #[.pointer (some ⟨r, 0, none⟩), .slice a n c, .agg #[.int .i64 6, .int .i64 N]] w fun e w' => ∃ a' n' c', e = .returned (.tuple #[.slice a' n' c', .bool true]) ∧ Left w w' r g a n c zs a' n' c' := by
  have hmx : n ≤ 9223372036854775807 := by have := hB.le; have := hB.max; unfold maxLen at this; omega
  have HL : Hid (zs.length = n) := hB.len
  have HR : Hid (Rd (w.alloc (.cells #[.int .i64 6, .int .i64 N] 42)) r g zs) := hR.later (below_alloc w _)
  clear hR hB
  by_cases hn : n = 0
  · subst hn
    have HD : Hid (doneE zs.length = 0) := by show _ = _; rw [HL.out]; rfl
    go_enter Try.func20, Try.ntmps20
    go_wp2_with fail
    refine (rDone_any r g zs _ HR.out).mono ?_
    rw [HD.out]
    rintro e w1 ⟨rfl, rfl⟩
    go_wp2_with fail
    go_ret2
    exact ⟨_, _, _, rfl, Left.box ⟨0, Nat.zero_le _, Tail.refl _ _ _, HR.out, World.grownBy.refl _ _⟩⟩
  · have HD : Hid (doneE zs.length = 5) := by show _ = _; rw [HL.out]; unfold doneE; rw [if_neg hn]
    have hn0 : ((n : Int) == 0) = false := by simp; omega
    have hn1 : 0 < n := by omega
    go_enter Try.func20, Try.ntmps20
    go_wp2_with fail
    refine (rDone_any r g zs _ HR.out).mono ?_
    rw [HD.out]
    rintro e w1 ⟨rfl, rfl⟩
    go_wp2_with fail
    go_ret2
    exact ⟨_, _, _, rfl, Left.box ⟨0, Nat.zero_le _, Tail.refl _ _ _, HR.out, World.grownBy.refl _ _⟩⟩

set_option maxHeartbeats 4000000 in
set_option maxRecDepth 100000 in
theorem reads_other (r g : Nat) (zs : List Int) (a : Option Addr) (n c : Nat) (K N : Int) (w : World) (hR : Rd w r g zs) (hB : Bytes w a n c zs) (k1 : (K == 1) = false) (k2 : (K == 2) = false) (k3 : (K == 3) = false) (k4 : (K == 4) = false) (k5 : (K == 5) = false) (k6 : (K == 6) = false) :
    Calls Try.prog 20 #[.pointer (some ⟨r, 0, none⟩), .slice a n c, .agg #[.int .i64 K, .int .i64 N]] w fun e w' => ∃ a' n' c', e = .returned (.tuple #[.slice a' n' c', .bool true]) ∧ Left w w' r g a n c zs a' n' c' := by
  have hmx : n ≤ 9223372036854775807 := by have := hB.le; have := hB.max; unfold maxLen at this; omega
  have HL : Hid (zs.length = n) := hB.len
  have HR : Hid (Rd (w.alloc (.cells #[.int .i64 K, .int .i64 N] 42)) r g zs) := hR.later (below_alloc w _)
  clear hR hB
  go_enter Try.func20, Try.ntmps20
  go_wp2_with fail
  go_ret2
  exact ⟨_, _, _, rfl, Left.box ⟨0, Nat.zero_le _, Tail.refl _ _ _, HR.out, World.grownBy.refl _ _⟩⟩

/-- A step of any kind. -/
theorem reads_any (r g : Nat) (zs : List Int) (a : Option Addr) (n c : Nat) (K N : Int) (w : World) (hR : Rd w r g zs) (hB : Bytes w a n c zs) (hab : ∀ x, a = some x → n ≠ 0 → x.block ≠ r) (hsum : n ≤ 281474976710656) :
    Calls Try.prog 20 #[.pointer (some ⟨r, 0, none⟩), .slice a n c, .agg #[.int .i64 K, .int .i64 N]] w fun e w' => ∃ a' n' c', e = .returned (.tuple #[.slice a' n' c', .bool true]) ∧ Left w w' r g a n c zs a' n' c' := by
  by_cases k1 : K = 1
  · subst k1; exact reads_uint r g zs a n c N w hR hB hab
  by_cases k2 : K = 2
  · subst k2; exact reads_int r g zs a n c N w hR hB hab
  by_cases k3 : K = 3
  · subst k3; exact reads_byte r g zs a n c N w hR hB hab
  by_cases k4 : K = 4
  · subst k4
    by_cases hN : N < 0
    · exact reads_neg r g zs a n c N w hR hB hN
    by_cases hN2 : (n : Int) < N
    · exact reads_over r g zs a n c N w hR hB (by omega) hN2
    obtain ⟨m, rfl⟩ := Int.eq_ofNat_of_zero_le (show 0 ≤ N by omega)
    exact reads_bytes r g zs a n c m w hR hB hab (by omega) hsum
  by_cases k5 : K = 5
  · subst k5; exact reads_left r g zs a n c N w hR hB
  by_cases k6 : K = 6
  · subst k6; exact reads_done r g zs a n c N w hR hB
  exact reads_other r g zs a n c K N w hR hB (by simpa using k1) (by simpa using k2) (by simpa using k3) (by simpa using k4) (by simpa using k5) (by simpa using k6)

end Go.Proofs.Ytibaejoonmedjaa

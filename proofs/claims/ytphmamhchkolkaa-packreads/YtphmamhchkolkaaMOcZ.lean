/-
  The walk of damasklaw01.awake: the bytes that the document names.
-/
import Derived.Test.YtphmamhchkolkaaMOcReader
import Derived.ProofKit
namespace Go.Proofs.Ytphmamhchkolkaa.Ocm
open Go.RowKit Oct
set_option linter.unusedVariables false

/-- Two bytes that have just been laid in a new block. -/
theorem bytes_lit2 (w : World) (x y : Int) (hx : 0 ≤ x ∧ x ≤ 255) (hy : 0 ≤ y ∧ y ≤ 255) : Bytes (w.alloc (.cells #[.int .u8 x, .int .u8 y] 5)) (some ⟨w.heap.size, 0, none⟩) 2 2 [x, y] := by
  refine ⟨rfl, Nat.le_refl _, by decide, (fun h => by cases h), ?_, .inr ⟨w.heap.size, 0, rfl, fun i hi => ?_⟩⟩
  · intro z hz; simp at hz; rcases hz with rfl | rfl
    · exact hx
    · exact hy
  · match i, hi with
    | 0, _ => simp
    | 1, _ => simp
theorem bytes_lit1 (w : World) (x : Int) (hx : 0 ≤ x ∧ x ≤ 255) : Bytes (w.alloc (.cells #[.int .u8 x] 5)) (some ⟨w.heap.size, 0, none⟩) 1 1 [x] := by
  refine ⟨rfl, Nat.le_refl _, by decide, (fun h => by cases h), ?_, .inr ⟨w.heap.size, 0, rfl, fun i hi => ?_⟩⟩
  · intro z hz; simp at hz; subst hz; exact hx
  · match i, hi with
    | 0, _ => simp

theorem below_alloc (w : World) (o : Obj) : Below w.heap.size w (w.alloc o) := (Below.refl _ _).alloc (Nat.le_refl _) o
theorem below_grown {w w' : World} {B r : Nat} (h : w.grownBy w' (some r)) (hr : B ≤ r) (hB : B ≤ w.heap.size) : Below B w w' := (Below.refl _ _).grown h hB (fun k e => by cases e; exact hr)

theorem fact300 : vint 300 = [172, 2] := by decide
theorem factm1 : vint (zz (-1)) = [1] := by decide
theorem factrd : rdU [172, 2] = (300, 2, 0) := by decide

end Go.Proofs.Ytphmamhchkolkaa.Ocm

/-
  The walks of damaskref01.varint, Uint and Int: the document's bytes of every number.
-/
namespace Go.Proofs.Ytphmamhchkolkaa.Ocm
open Go.RowKit Oct
set_option linter.unusedVariables false

theorem owns_later {w w' : World} {base : Nat} {v : Value} {n : Nat} {xs : List Value} (h : w.ownsRow base 5 1 v n xs) (hb : Below w.heap.size w w') : w'.ownsRow base 5 1 v n xs := by
  obtain ⟨h1, h2⟩ := h
  refine ⟨h1, ?_⟩
  rcases h2 with h2 | ⟨g, cap, cur, hv, hg, hh, r⟩
  · exact .inl h2
  · exact .inr ⟨g, cap, cur, hv, hg, by rw [hb.block g (Array.getElem?_eq_some_iff.1 hh).1]; exact hh, r⟩

theorem owns_lit1 (w : World) (base : Nat) (hb : base ≤ w.heap.size) (x : Int) : (w.alloc (.cells #[.int .u8 x] 5)).ownsRow base 5 1 (.slice (some ⟨w.heap.size, 0, none⟩) 1 1) 1 [.int .u8 x] :=
  ⟨rfl, .inr ⟨w.heap.size, 1, #[.int .u8 x], rfl, hb, heap_alloc_new w _, Nat.le_refl _, by decide, rfl, rfl⟩⟩

theorem owns_some {w : World} {base : Nat} {v : Value} {n : Nat} {xs : List Value} (h : w.ownsRow base 5 1 v n xs) (hn : n ≠ 0) : ∃ g cap, v = .slice (some ⟨g, 0, none⟩) n cap ∧ base ≤ g ∧ g < w.heap.size ∧ ∀ j u, xs[j]? = some u → w.cell? ((⟨g, 0, none⟩ : Addr).add j) = some u := by
  have hlt := h.lt
  have hc := fun g hg => h.cells (g := g) hg
  rcases h.2 with ⟨_, h0⟩ | ⟨g, cap, cur, rfl, hb, hh, r⟩
  · exact absurd h0 hn
  · exact ⟨g, cap, rfl, hb, (hlt g rfl).2, hc g rfl⟩

set_option maxRecDepth 100000 in
set_option maxHeartbeats 1000000 in
theorem refVarint_any (k : Nat) : ∀ (x : Int) (w : World), k ≤ 9 → 0 ≤ x → x < lim k → x < 18446744073709551616 →
    Calls Try.prog 53 #[.int .u64 x] w fun e w' => ∃ v, e = .returned v ∧ w'.ownsRow w.heap.size 5 1 v (vb k x).length (u8s (vb k x)) ∧ Below w.heap.size w w' := by
  obtain ⟨i0, hi, hz0, hz1, hz2⟩ := info_parts info5
  induction k with
  | zero =>
    intro x w _ h0 h1 h2
    simp only [lim] at h1
    have HF : Hid (vb 0 x = [x]) := rfl
    go_enter Try.func53, Try.ntmps53
    go_wp2_with fail
    go_ret
    rw [HF.out]
    exact ⟨_, rfl, owns_lit1 w _ (Nat.le_refl _) x, below_alloc _ _⟩
  | succ k ih =>
    intro x w hk9 h0 h1 h2
    by_cases hx : x < 128
    · have HF : Hid (vb (k + 1) x = [x]) := vb_last _ _ hx
      have h1' : Hid (x < lim (k + 1)) := h1
      clear h1 ih
      go_enter Try.func53, Try.ntmps53
      go_wp2_with fail
      go_ret
      rw [HF.out]
      exact ⟨_, rfl, owns_lit1 w _ (Nat.le_refl _) x, below_alloc _ _⟩
    · have HF : Hid (vb (k + 1) x = (x % 128 + 128) :: vb k (x / 128)) := vb_more _ _ (by omega)
      have h1' : Hid (x < lim (k + 1)) := h1
      have IH : Hid (∀ (x : Int) (w : World), k ≤ 9 → 0 ≤ x → x < lim k → x < 18446744073709551616 →
        Calls Try.prog 53 #[.int .u64 x] w fun e w' => ∃ v, e = .returned v ∧ w'.ownsRow w.heap.size 5 1 v (vb k x).length (u8s (vb k x)) ∧ Below w.heap.size w w') := ih
      clear h1 ih
      go_enter Try.func53, Try.ntmps53
      go_wp2_with fail
      refine (IH.out (x / 128) _ (by omega) (by omega) (by have := h1'.out; simp only [lim] at this; omega) (by omega)).mono ?_
      rintro e w1 ⟨v1, rfl, hown1, hb1⟩
      have hl := vb_len k (x / 128)
      obtain ⟨g, cap, rfl, hg1, hg2, hnews⟩ := owns_some hown1 (by omega)
      generalize eL : vb k (x / 128) = L at *
      have hown0 : w1.ownsRow w.heap.size 5 1 (.slice (some ⟨w.heap.size, 0, none⟩) 1 1) 1 [.int .u8 (128 + x % 128)] := owns_later (owns_lit1 w _ (Nat.le_refl _) _) hb1
      have hB : Below w.heap.size w w1 := (below_alloc w _).trans (hb1.mono (by simp))
      have hsz := hB.size
      have HF2 : Hid (vb (k + 1) x = (x % 128 + 128) :: L) := HF.out
      clear eL IH hown1 hb1
      have hnl : (u8s L).length = L.length * 1 := by simp
      go_wp2_with (at_builtin; refine wpList_append_own _ rfl _ _ 28 rfl w.heap.size 5 i0 (.int .u8 0) 1 1 Try.underlying28 hi hz0 hz1 hz2 rfl (by decide) _ 1 _ rfl hown0 ⟨g, 0, none⟩ L.length cap (u8s L) rfl hnl hnews (ints_oneCell _ _) (by unfold maxLen; omega) (by omega) hsz ?_; intro v2 w2 hown2 hgrow2 _)
      go_ret
      rw [HF2.out]
      refine ⟨_, rfl, ?_, hB.grown hgrow2 hsz (fun k h => by cases h; exact Nat.le_refl _)⟩
      have e1 : 1 + L.length = ((x % 128 + 128) :: L).length := by simp; omega
      have e2 : [Value.int .u8 (128 + x % 128)] ++ u8s L = u8s ((x % 128 + 128) :: L) := by simp; omega
      rw [e1, e2] at hown2
      exact hown2

theorem refVint_any (x : Int) (w : World) (h0 : 0 ≤ x) (h1 : x < 18446744073709551616) :
    Calls Try.prog 53 #[.int .u64 x] w fun e w' => ∃ v, e = .returned v ∧ w'.ownsRow w.heap.size 5 1 v (vint x).length (u8s (vint x)) ∧ Below w.heap.size w w' :=
  refVarint_any 9 x w (by omega) h0 (by rw [lim9]; exact h1) h1

set_option maxRecDepth 100000 in
set_option maxHeartbeats 400000 in
theorem refInt_any (n : Int) (w : World) (h0 : -9223372036854775808 ≤ n) (h1 : n ≤ 9223372036854775807) :
    Calls Try.prog 31 #[.int .i64 n] w fun e w' => ∃ v, e = .returned v ∧ w'.ownsRow w.heap.size 5 1 v (vint (zz n)).length (u8s (vint (zz n))) ∧ Below w.heap.size w w' := by
  obtain ⟨hz1, hz2⟩ := zz_range n h0 h1
  go_enter Try.func31, Try.ntmps31
  go_wp2_with (first
    | (go_at_call 54; refine (zigzag_any n _ h0 h1).mono ?_; rintro e w' ⟨rfl, rfl⟩)
    | (go_at_call 53; refine (refVint_any (zz n) _ hz1 hz2).mono ?_; rintro e w' ⟨v, rfl, hown, hbel⟩))
  go_ret
  exact ⟨_, rfl, hown, hbel⟩

set_option maxRecDepth 100000 in
set_option maxHeartbeats 400000 in
theorem refUint_any (n : Int) (w : World) (h0 : 0 ≤ n) (h1 : n ≤ 9223372036854775807) :
    Calls Try.prog 52 #[.int .i64 n] w fun e w' => ∃ v, e = .returned (.tuple #[v, .int .i64 0]) ∧ w'.ownsRow w.heap.size 5 1 v (vint n).length (u8s (vint n)) ∧ Below w.heap.size w w' := by
  go_enter Try.func52, Try.ntmps52
  go_wp2_with (go_at_call 53; refine (refVint_any n _ h0 (by omega)).mono ?_; rintro e w' ⟨v, rfl, hown, hbel⟩)
  go_ret2
  exact ⟨_, rfl, hown, hbel⟩

set_option maxRecDepth 100000 in
set_option maxHeartbeats 400000 in
theorem refUint_neg (n : Int) (w : World) (h0 : n < 0) :
    Calls Try.prog 52 #[.int .i64 n] w fun e w' => e = .returned (.tuple #[.slice none 0 0, .int .i64 1]) ∧ w' = w := by
  go_enter Try.func52, Try.ntmps52
  go_wp2_with fail
  go_ret2
  exact ⟨rfl, rfl⟩

end Go.Proofs.Ytphmamhchkolkaa.Ocm

/-
  What the laws of layer 1 share: contracts of the writers in the form of bytes that are read, small facts on memory.
-/
namespace Go.Proofs.Ytphmamhchkolkaa.Ocm
open Go.RowKit Oct
set_option linter.unusedVariables false

theorem own : ownKnob Try.prog.godebug = none := by kernel_rfl
theorem laidOut : laidOutB Try.prog = true := by kernel_rfl

theorem bytes_nil (w : World) : Bytes w none 0 0 [] := ⟨rfl, Nat.le_refl _, Nat.zero_le _, fun _ => rfl, by simp, .inl rfl⟩

theorem Bytes.drewN {w : World} {a : Option Addr} {n c : Nat} {zs : List Int} (h : Bytes w a n c zs) (q : Nat) : Bytes (w.drewN q) a n c zs := h.later (below_drewN (Below.refl _ _) q)

theorem int_b (n : Int) (w : World) (h0 : -9223372036854775808 ≤ n) (h1 : n ≤ 9223372036854775807) :
    Calls Try.prog 66 #[.int .i64 n] w fun e w' => ∃ a c, e = .returned (.slice a (vint (zz n)).length c) ∧ Bytes w' a (vint (zz n)).length c (vint (zz n)) ∧ Below w.heap.size w w' :=
  (int_any n w h0 h1).mono fun e w' ⟨v, he, ho, hb⟩ => by
    obtain ⟨hz1, hz2⟩ := zz_range n h0 h1
    obtain ⟨a, c, rfl, hB, _⟩ := Bytes.of_owns ho (vint_byte _ hz1 hz2)
    exact ⟨a, c, he, hB, hb⟩
theorem refInt_b (n : Int) (w : World) (h0 : -9223372036854775808 ≤ n) (h1 : n ≤ 9223372036854775807) :
    Calls Try.prog 31 #[.int .i64 n] w fun e w' => ∃ a c, e = .returned (.slice a (vint (zz n)).length c) ∧ Bytes w' a (vint (zz n)).length c (vint (zz n)) ∧ Below w.heap.size w w' :=
  (refInt_any n w h0 h1).mono fun e w' ⟨v, he, ho, hb⟩ => by
    obtain ⟨hz1, hz2⟩ := zz_range n h0 h1
    obtain ⟨a, c, rfl, hB, _⟩ := Bytes.of_owns ho (vint_byte _ hz1 hz2)
    exact ⟨a, c, he, hB, hb⟩
theorem uint_b (n : Int) (w : World) (h0 : 0 ≤ n) (h1 : n ≤ 9223372036854775807) :
    Calls Try.prog 47 #[.int .i64 n] w fun e w' => ∃ a c, e = .returned (.tuple #[.slice a (vint n).length c, .int .i64 0]) ∧ Bytes w' a (vint n).length c (vint n) ∧ Below w.heap.size w w' :=
  (uint_any n w h0 h1).mono fun e w' ⟨v, he, ho, hb⟩ => by
    obtain ⟨a, c, rfl, hB, _⟩ := Bytes.of_owns ho (vint_byte _ h0 (by omega))
    exact ⟨a, c, he, hB, hb⟩
theorem refUint_b (n : Int) (w : World) (h0 : 0 ≤ n) (h1 : n ≤ 9223372036854775807) :
    Calls Try.prog 52 #[.int .i64 n] w fun e w' => ∃ a c, e = .returned (.tuple #[.slice a (vint n).length c, .int .i64 0]) ∧ Bytes w' a (vint n).length c (vint n) ∧ Below w.heap.size w w' :=
  (refUint_any n w h0 h1).mono fun e w' ⟨v, he, ho, hb⟩ => by
    obtain ⟨a, c, rfl, hB, _⟩ := Bytes.of_owns ho (vint_byte _ h0 (by omega))
    exact ⟨a, c, he, hB, hb⟩

theorem same_self (a1 a2 : Option Addr) (n1 n2 c1 c2 : Nat) (z : List Int) (w : World) (h1 : Bytes w a1 n1 c1 z) (h2 : Bytes w a2 n2 c2 z) :
    Calls Try.prog 12 #[.slice a1 n1 c1, .slice a2 n2 c2] w fun e w' => e = .returned (.bool true) ∧ ∃ q, w' = w.drewN q := by
  have h := same_any a1 a2 n1 n2 c1 c2 z z w h1 h2
  simpa using h

theorem below_step {w w1 w2 : World} (h : Below w.heap.size w w1) (h2 : Below w1.heap.size w1 w2) : Below w.heap.size w w2 := h.trans (h2.mono h.size)

theorem wf_i64 {x : Int} (h : (Lit.int .i64 x).wf = true) : -9223372036854775808 ≤ x ∧ x ≤ 9223372036854775807 := by
  simp [Lit.wf, IntKind.min, IntKind.max, IntKind.signed, IntKind.bits] at h
  exact ⟨by omega, by omega⟩

theorem Rd.later {w w' : World} {r g : Nat} {zs : List Int} (h : Rd w r g zs) (hb : Below w.heap.size w w') : Rd w' r g zs := by
  obtain ⟨off, n, c, hr, hB, hne, hlt⟩ := h
  exact ⟨off, n, c, by rw [hb.block r (Array.getElem?_eq_some_iff.1 hr).1]; exact hr, hB.later hb, hne, Nat.lt_of_lt_of_le hlt hb.size⟩

theorem Rd.lt {w : World} {r g : Nat} {zs : List Int} (h : Rd w r g zs) : g < w.heap.size ∧ r < w.heap.size := by
  obtain ⟨off, n, c, hr, hB, hne, hlt⟩ := h
  exact ⟨hlt, (Array.getElem?_eq_some_iff.1 hr).1⟩

theorem Bytes.take {w : World} {a : Option Addr} {n c : Nat} {zs : List Int} (h : Bytes w a n c zs) {k : Nat} (hk : k ≤ n) : Bytes w a k c (zs.take k) := by
  have hl := h.len
  refine ⟨by rw [List.length_take]; omega, Nat.le_trans hk h.le, h.max, h.nil, fun z hz => h.byte z (List.mem_of_mem_take hz), ?_⟩
  by_cases h0 : k = 0
  · exact .inl h0
  · obtain ⟨b, off, ha, _, hc⟩ := h.at (by omega)
    refine .inr ⟨b, off, ha, fun i hi => ?_⟩
    rw [hc i (by omega)]
    simp [List.getD, hi]

end Go.Proofs.Ytphmamhchkolkaa.Ocm

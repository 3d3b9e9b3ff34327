/-
  The walks of damaskref01.varint, Uint and Int: the document's bytes of every number.
-/
import Derived.Test.YtibaejoonmedjaaAwake
namespace Go.Proofs.Ytibaejoonmedjaa
open Go.RowKit Oct
set_option linter.unusedVariables false

theorem owns_later {w w' : World} {base : Nat} {v : Value} {n : Nat} {xs : List Value} (h : w.ownsRow base 5 1 v n xs) (hb : Below w.heap.size w w') : w'.ownsRow base 5 1 v n xs := by
  obtain ⟨h1, h2⟩ := h
  refine ⟨h1, ?_⟩
  rcases h2 with h2 | ⟨g, cap, cur, hv, hg, hh, r⟩
  · exact .inl h2
  · exact .inr ⟨g, cap, cur, hv, hg, by rw [hb.block g (Array.getElem?_eq_some_iff.1 hh).1]; exact hh, r⟩

theorem owns_lit1 (w : World) (base : Nat) (hb : base ≤ w.heap.size) (x : Int) : (w.alloc (.cells #[.int .u8 x] 5)).ownsRow base 5 1 (.slice (some ⟨w.heap.size, 0, none⟩) 1 1) 1 [.int .u8 x] :=
  ⟨rfl, .inr ⟨w.heap.size, 1, #[.int .u8 x], rfl, hb, heap_alloc_new w _, Nat.le_refl _, by decide, rfl, rfl⟩⟩

theorem owns_some {w : World} {base : Nat} {v : Value} {n : Nat} {xs : List Value} (h : w.ownsRow base 5 1 v n xs) (hn : n ≠ 0) : ∃ g cap, v = .slice (some ⟨g, 0, none⟩) n cap ∧ base ≤ g ∧ g < w.heap.size ∧ ∀ j u, xs[j]? = some u → w.cell? ((⟨g, 0, none⟩ : Addr).add j) = some u := by
  have hlt := h.lt
  have hc := fun g hg => h.cells (g := g) hg
  rcases h.2 with ⟨_, h0⟩ | ⟨g, cap, cur, rfl, hb, hh, r⟩
  · exact absurd h0 hn
  · exact ⟨g, cap, rfl, hb, (hlt g rfl).2, hc g rfl⟩

set_option maxHeartbeats 1000000 in
theorem refVarint_any (k : Nat) : ∀ (x : Int) (w : World), k ≤ 9 → 0 ≤ x → x < lim k → x < 18446744073709551616 →
    Calls Try.prog 28 #[.int .u64 x] w fun e w' => ∃ v, e = .returned v ∧ w'.ownsRow w.heap.size 5 1 v (vb k x).length (u8s (vb k x)) ∧ Below w.heap.size w w' := by
  obtain ⟨i0, hi, hz0, hz1, hz2⟩ := info_parts info5
  induction k with
  | zero =>
    intro x w _ h0 h1 h2
    simp only [lim] at h1
    have HF : Hid (vb 0 x = [x]) := rfl
    go_enter Try.func28, Try.ntmps28
    go_wp2_with fail
    go_ret
    rw [HF.out]
    exact ⟨_, rfl, owns_lit1 w _ (Nat.le_refl _) x, below_alloc _ _⟩
  | succ k ih =>
    intro x w hk9 h0 h1 h2
    by_cases hx : x < 128
    · have HF : Hid (vb (k + 1) x = [x]) := vb_last _ _ hx
      have h1' : Hid (x < lim (k + 1)) := h1
      clear h1 ih
      go_enter Try.func28, Try.ntmps28
      go_wp2_with fail
      go_ret
      rw [HF.out]
      exact ⟨_, rfl, owns_lit1 w _ (Nat.le_refl _) x, below_alloc _ _⟩
    · have HF : Hid (vb (k + 1) x = (x % 128 + 128) :: vb k (x / 128)) := vb_more _ _ (by omega)
      have h1' : Hid (x < lim (k + 1)) := h1
      have IH : Hid (∀ (x : Int) (w : World), k ≤ 9 → 0 ≤ x → x < lim k → x < 18446744073709551616 →
        Calls Try.prog 28 #[.int .u64 x] w fun e w' => ∃ v, e = .returned v ∧ w'.ownsRow w.heap.size 5 1 v (vb k x).length (u8s (vb k x)) ∧ Below w.heap.size w w') := ih
      clear h1 ih
      go_enter Try.func28, Try.ntmps28
      go_wp2_with fail
      refine (IH.out (x / 128) _ (by omega) (by omega) (by have := h1'.out; simp only [lim] at this; omega) (by omega)).mono ?_
      rintro e w1 ⟨v1, rfl, hown1, hb1⟩
      have hl := vb_len k (x / 128)
      obtain ⟨g, cap, rfl, hg1, hg2, hnews⟩ := owns_some hown1 (by omega)
      generalize eL : vb k (x / 128) = L at *
      have hown0 : w1.ownsRow w.heap.size 5 1 (.slice (some ⟨w.heap.size, 0, none⟩) 1 1) 1 [.int .u8 (128 + x % 128)] := owns_later (owns_lit1 w _ (Nat.le_refl _) _) hb1
      have hB : Below w.heap.size w w1 := (below_alloc w _).trans (hb1.mono (by simp))
      have hsz := hB.size
      have HF2 : Hid (vb (k + 1) x = (x % 128 + 128) :: L) := HF.out
      clear eL IH hown1 hb1
      have hnl : (u8s L).length = L.length * 1 := by simp
      go_wp2_with (at_builtin; refine wpList_append_own _ rfl _ _ 22 rfl w.heap.size 5 i0 (.int .u8 0) 1 1 Try.underlying22 hi hz0 hz1 hz2 rfl (by decide) _ 1 _ rfl hown0 ⟨g, 0, none⟩ L.length cap (u8s L) rfl hnl hnews (ints_oneCell _ _) (by unfold maxLen; omega) (by omega) hsz ?_; intro v2 w2 hown2 hgrow2 _)
      go_ret
      rw [HF2.out]
      refine ⟨_, rfl, ?_, hB.grown hgrow2 hsz (fun k h => by cases h; exact Nat.le_refl _)⟩
      have e1 : 1 + L.length = ((x % 128 + 128) :: L).length := by simp; omega
      have e2 : [Value.int .u8 (128 + x % 128)] ++ u8s L = u8s ((x % 128 + 128) :: L) := by simp; omega
      rw [e1, e2] at hown2
      exact hown2

theorem refVint_any (x : Int) (w : World) (h0 : 0 ≤ x) (h1 : x < 18446744073709551616) :
    Calls Try.prog 28 #[.int .u64 x] w fun e w' => ∃ v, e = .returned v ∧ w'.ownsRow w.heap.size 5 1 v (vint x).length (u8s (vint x)) ∧ Below w.heap.size w w' :=
  refVarint_any 9 x w (by omega) h0 (by rw [lim9]; exact h1) h1

set_option maxHeartbeats 400000 in
theorem refInt_any (n : Int) (w : World) (h0 : -9223372036854775808 ≤ n) (h1 : n ≤ 9223372036854775807) :
    Calls Try.prog 14 #[.int .i64 n] w fun e w' => ∃ v, e = .returned v ∧ w'.ownsRow w.heap.size 5 1 v (vint (zz n)).length (u8s (vint (zz n))) ∧ Below w.heap.size w w' := by
  obtain ⟨hz1, hz2⟩ := zz_range n h0 h1
  go_enter Try.func14, Try.ntmps14
  go_wp2_with (first
    | (go_at_call 30; refine (zigzag_any n _ h0 h1).mono ?_; rintro e w' ⟨rfl, rfl⟩)
    | (go_at_call 28; refine (refVint_any (zz n) _ hz1 hz2).mono ?_; rintro e w' ⟨v, rfl, hown, hbel⟩))
  go_ret
  exact ⟨_, rfl, hown, hbel⟩

set_option maxHeartbeats 400000 in
theorem refUint_any (n : Int) (w : World) (h0 : 0 ≤ n) (h1 : n ≤ 9223372036854775807) :
    Calls Try.prog 10 #[.int .i64 n] w fun e w' => ∃ v, e = .returned (.tuple #[v, .int .i64 0]) ∧ w'.ownsRow w.heap.size 5 1 v (vint n).length (u8s (vint n)) ∧ Below w.heap.size w w' := by
  go_enter Try.func10, Try.ntmps10
  go_wp2_with (go_at_call 28; refine (refVint_any n _ h0 (by omega)).mono ?_; rintro e w' ⟨v, rfl, hown, hbel⟩)
  go_ret2
  exact ⟨_, rfl, hown, hbel⟩

set_option maxHeartbeats 400000 in
theorem refUint_neg (n : Int) (w : World) (h0 : n < 0) :
    Calls Try.prog 10 #[.int .i64 n] w fun e w' => e = .returned (.tuple #[.slice none 0 0, .int .i64 1]) ∧ w' = w := by
  go_enter Try.func10, Try.ntmps10
  go_wp2_with fail
  go_ret2
  exact ⟨rfl, rfl⟩

end Go.Proofs.Ytibaejoonmedjaa

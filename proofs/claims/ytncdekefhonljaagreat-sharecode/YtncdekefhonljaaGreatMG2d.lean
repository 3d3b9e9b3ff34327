/-
  The document's Order.
-/
import Derived.Test.YtncdekefhonljaaGreatMG2
namespace Go.Proofs.Shr
open Go.RowKit Go.IntWalk YtncdekefhonljaaGreat.Knd
open Cde (In i0 ia kd cd Ins at6 six_of has_new1)
set_option linter.unusedVariables false

set_option maxRecDepth 100000 in
set_option maxHeartbeats 16000000 in
theorem dorder_any (n : In) (W : World) : Calls Tryz.prog 15 #[.agg (ia n)] W fun e W' => e = .returned (.agg (ia (orI n))) ∧ Below W.heap.size W W' := by
  obtain ⟨op, xa, xb, xc, xk, xs⟩ := n
  rcases ew_cases op with ⟨h, h2⟩ | ⟨h, q0, q1, q2, q3, q4, q5, q6, q7, q8⟩
  · by_cases hb : xb < xa
    · rw [or_yes (n := ⟨op, xa, xb, xc, xk, xs⟩) h hb]
      have q : decide (xb < xa) = true := by simpa using hb
      clear h hb
      rcases h2 with rfl | rfl | rfl | rfl | rfl | rfl | rfl | rfl | rfl <;>
      · go_enter Tryz.func15, Tryz.ntmps15
        go_wp2_with fail
        exact bodyPost_ret (v := .agg (ia _)) (by simp [results, Tryz.results15, go_sem]) rfl ⟨rfl, bel (bel1 W _) (bel1 _ _)⟩
    · rw [or_no2 (n := ⟨op, xa, xb, xc, xk, xs⟩) hb]
      have q : decide (xb < xa) = false := by simpa using hb
      clear h hb
      rcases h2 with rfl | rfl | rfl | rfl | rfl | rfl | rfl | rfl | rfl <;>
      · go_enter Tryz.func15, Tryz.ntmps15
        go_wp2_with fail
        exact bodyPost_ret (v := .agg (ia _)) (by simp [results, Tryz.results15, go_sem]) rfl ⟨rfl, bel (bel1 W _) (bel1 _ _)⟩
  · rw [or_no1 (n := ⟨op, xa, xb, xc, xk, xs⟩) h]
    clear h
    by_cases h15 : (15 : Int) ≤ op
    · have g1 : decide ((15 : Int) ≤ op) = true := by simpa using h15
      have g2 : decide (op ≤ (17 : Int)) = false := by simp at q2 q3 q4; simp; omega
      clear h15
      go_enter Tryz.func15, Tryz.ntmps15
      go_wp2_with fail
      exact bodyPost_ret (v := .agg (ia _)) (by simp [results, Tryz.results15, go_sem]) rfl ⟨rfl, bel (bel1 W _) (bel1 _ _)⟩
    · have g1 : decide ((15 : Int) ≤ op) = false := by simpa using h15
      clear h15
      go_enter Tryz.func15, Tryz.ntmps15
      go_wp2_with fail
      exact bodyPost_ret (v := .agg (ia _)) (by simp [results, Tryz.results15, go_sem]) rfl ⟨rfl, bel (bel1 W _) (bel1 _ _)⟩

end Go.Proofs.Shr

/-
 damaskref07.own.
-/
import Derived.Test.YtbgmljmpmemfcaaGreatYWkA
namespace Go.Proofs.YtbgmljmpmemfcaaGreat
open Go.RowKit Go.IntWalk Lx Pz
set_option linter.unusedVariables false

theorem own_iff (x : Nd) (bd : Int) : ownP x bd = true ↔ ((x.op = 3 ∧ (x.co = 2 ∨ (x.co = 1 ∧ x.y = 0)) ∧ x.k = 0 ∧ 0 ≤ x.back ∧ x.back ≤ 2147483647 ∧ -2147483647 ≤ x.x ∧ x.x ≤ 2147483647 ∧ -2147483647 ≤ x.y ∧ x.y ≤ 2147483647) ∨
  (x.op ≠ 3 ∧ x.back = 0 ∧ x.co = 0 ∧ x.x = 0 ∧ x.y = 0 ∧ ((x.op = 1 ∧ 0 ≤ x.k ∧ x.k ≤ 2147483647) ∨ (x.op = 2 ∧ 0 ≤ x.k ∧ x.k ≤ 5) ∨ (x.op = 4 ∧ 0 ≤ x.k ∧ x.k ≤ bd - 1) ∨ (4 < x.op ∧ x.op ≤ 28 ∧ x.k = 0)))) := by
 have hpr : 0 ≤ prZ x.op ↔ (1 ≤ x.op ∧ x.op ≤ 28) := by
  unfold prZ arZ
  repeat' split
  all_goals omega
 unfold ownP
 rw [Bool.and_eq_true, decide_eq_true_eq, hpr]
 unfold fldP
 split
 ·rename_i h3
  simp only [mayP, wthn, MX, Bool.and_eq_true, Bool.or_eq_true, beq_iff_eq, decide_eq_true_eq]
  omega
 ·rename_i h3
  simp only [plc0, wthn, mostZ, MX, Bool.and_eq_true, beq_iff_eq, decide_eq_true_eq]
  repeat' split
  all_goals omega
set_option maxRecDepth 100000 in
set_option maxHeartbeats 8000000 in
theorem own_any (n : Nd) (bd : Int) (W : World) : Calls Tryz.prog 44 #[.agg (ndA n), .int .i64 bd] W fun e W' => e = .returned (.bool (ownP n bd)) ∧ Below W.heap.size W W' := by
 obtain ⟨op, a, b, c, k, back, co, x, y⟩ := n
 go_enter Tryz.func44, Tryz.ntmps44
 go_wp2_with fail
 all_goals
  go_ret
  refine ⟨ret_bool ?_, by first | exact bel1 _ _ | exact bel (bel1 _ _) (bel1 _ _)⟩
  rw [Bool.eq_iff_iff, own_iff]
  simp only [bne_iff_ne, ne_eq, beq_iff_eq, decide_eq_true_eq, bne_eq_false_iff_eq, beq_eq_false_iff_ne, reduceCtorEq, false_iff] at *
  omega

end Go.Proofs.YtbgmljmpmemfcaaGreat

/-
  The document's own Arity, Constants and Word, and the walk of ArithNames.
-/
import Derived.Test.YtlhbgkaknfhlnaaSpValue
namespace Go.Proofs.Ytlhbgkaknfhlnaa.Spn
open Go.RowKit Go.IntWalk
set_option linter.unusedVariables false

theorem ar_out {op : Int} (h : op < 1 ∨ op = 4 ∨ 33 < op) : ar op = -1 := by
  unfold ar
  rw [if_neg (by omega), if_neg (by rw [inB_iff, inB_iff]; omega), if_neg (by rw [inB_iff]; omega), if_neg (by rw [inB_iff]; omega)]
theorem ar_0 {op : Int} (h : op = 1 ∨ op = 2 ∨ op = 3) : ar op = 0 := by
  unfold ar
  rw [if_pos h]
theorem ar_1 {op : Int} (h : 5 ≤ op ∧ op ≤ 7 ∨ 29 ≤ op ∧ op ≤ 33) : ar op = 1 := by
  unfold ar
  rw [if_neg (by omega), if_pos (by rw [inB_iff, inB_iff]; omega)]
theorem ar_2 {op : Int} (h : 8 ≤ op ∧ op ≤ 25) : ar op = 2 := by
  unfold ar
  rw [if_neg (by omega), if_neg (by rw [inB_iff, inB_iff]; omega), if_pos (by rw [inB_iff]; omega)]
theorem ar_3 {op : Int} (h : 26 ≤ op ∧ op ≤ 28) : ar op = 3 := by
  unfold ar
  rw [if_neg (by omega), if_neg (by rw [inB_iff, inB_iff]; omega), if_neg (by rw [inB_iff]; omega), if_pos (by rw [inB_iff]; omega)]

end Go.Proofs.Ytlhbgkaknfhlnaa.Spn

/-
  The walk of awake: two places that the document names, and the greatest sample of eight bits.
-/
import Derived.Test.YtinlknflkgijmaaNumb
namespace Go.Proofs.Ytinlknflkgijmaa
open Go.RowKit
set_option linter.unusedVariables false

theorem num16 : numV 0 8 ⟨0, 2, -1, 0⟩ = .tuple #[.int .i64 16, .bool true] := by
  have : numZ 0 8 ⟨0, 2, -1, 0⟩ = some 16 := by decide +kernel
  rw [numV, this]; rfl
theorem num15 : numV 1 16 ⟨0, 1, -1, 0⟩ = .tuple #[.int .i64 15, .bool true] := by
  have : numZ 1 16 ⟨0, 1, -1, 0⟩ = some 15 := by decide +kernel
  rw [numV, this]; rfl
theorem high255 : highZ 0 8 = 255 := by decide +kernel

set_option maxHeartbeats 2000000 in
theorem awake_any (w : World) : Calls Try.prog 10 #[] w fun e w' => e = .returned (.bool true) ∧ Below w.heap.size w w' := by
  go_enter Try.func10, Try.ntmps10
  go_wp2_with fail
  refine (number_any 0 8 ⟨0, 2, -1, 0⟩ (by unfold Plc.wf wf64; decide) _).mono ?_
  rintro e w1 ⟨rfl, hb1⟩
  rw [num16]
  go_wp2_with fail
  refine (number_any 1 16 ⟨0, 1, -1, 0⟩ (by unfold Plc.wf wf64; decide) _).mono ?_
  rintro e w2 ⟨rfl, hb2⟩
  rw [num15]
  go_wp2_with fail
  refine (high_any 0 8 _).mono ?_
  rintro e w3 ⟨rfl, hb3⟩
  rw [high255]
  go_wp2_with fail
  go_ret
  exact ⟨rfl, bel (bel hb1 hb2) hb3⟩

end Go.Proofs.Ytinlknflkgijmaa

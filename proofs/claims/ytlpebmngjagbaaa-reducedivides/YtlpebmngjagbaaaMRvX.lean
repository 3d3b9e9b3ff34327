/-
  ReduceDivides' walk, whatever the divisor.
-/
import Derived.Test.YtlpebmngjagbaaaMRvW
namespace Go.Proofs.Rdc
open Go.RowKit Go.IntWalk Ytlpebmngjagbaaa.Knd
set_option linter.unusedVariables false

set_option maxRecDepth 100000 in
set_option maxHeartbeats 4000000 in
theorem rdiv_walk (x d : Int) (b : Bool) {W : World} (hx : -2147483648 ≤ x ∧ x ≤ 2147483647) (hd : -2147483648 ≤ d ∧ d ≤ 2147483647) :
    Calls Try.prog 6 #[.int .i32 x, .int .i32 d, .bool b] W fun e w' => e = .returned (.bool true) ∧ Below W.heap.size W w' := by
  by_cases h : d = 0 ∨ d = -1
  · have HA := hide fun V => uawake_any V
    rcases h with rfl | rfl
    all_goals
      go_enter Try.func6, Try.ntmps6
      go_wp2_with fail
      refine (HA.out _).mono ?_
      rintro e V1 ⟨rfl, hb⟩
      have HB1 := hide hb
      clear hb
      go_wp2_with fail
      refine (HA.out _).mono ?_
      rintro e V2 ⟨rfl, hb⟩
      have HB2 := hide (bel HB1.out hb)
      clear hb
      go_wp2_with fail
      go_ret
      exact ⟨rfl, HB2.out⟩
  · cases b
    · exact rdiv_11 x d hx hd (by omega) (by omega)
    · exact rdiv_12 x d hx hd (by omega) (by omega)

end Go.Proofs.Rdc

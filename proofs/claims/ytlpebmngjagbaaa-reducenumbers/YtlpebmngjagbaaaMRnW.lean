/-
  ReduceNumbers' walk.
-/
import Derived.Test.YtlpebmngjagbaaaMUC
namespace Go.Proofs.Rdc
open Go.RowKit Go.IntWalk Ytlpebmngjagbaaa.Knd
set_option linter.unusedVariables false

set_option maxRecDepth 100000 in
set_option maxHeartbeats 4000000 in
theorem rnum_walk (size d : Int) {W : World} :
    Calls Try.prog 3 #[.int .i64 size, .int .i64 d] W fun e w' => e = .returned (.bool true) ∧ Below W.heap.size W w' := by
  have HA := hide fun V => uawake_any V
  have HM := hide fun (w : World) => umagic_any size d w
  have HG := hide fun (w : World) => gmagic_any size d w
  have HP := hide fun (w : World) => upower_any d w
  have HQ := hide fun (w : World) => gpower_any d w
  generalize mgZ size d = Z at *
  obtain ⟨k, s, ok⟩ := Z
  generalize pwZ d = p at *
  dsimp only [mgV] at HM HG
  have q1 : (k == k) = true := by simp
  have q2 : (s == s) = true := by simp
  have q3 : (p == p) = true := by simp
  cases ok
  all_goals
    go_enter Try.func3, Try.ntmps3
    go_wp2_with fail
    refine (HM.out _).mono ?_
    rintro e w' ⟨rfl, rfl⟩
    go_wp2_with fail
    refine (HG.out _).mono ?_
    rintro e w' ⟨rfl, rfl⟩
    go_wp2_with fail
    refine (HA.out _).mono ?_
    rintro e V1 ⟨rfl, hb⟩
    have HB := hide hb
    clear hb
    go_wp2_with fail
    refine (HP.out _).mono ?_
    rintro e w' ⟨rfl, rfl⟩
    go_wp2_with fail
    refine (HQ.out _).mono ?_
    rintro e w' ⟨rfl, rfl⟩
    go_wp2_with fail
    go_ret
    exact ⟨rfl, HB.out⟩

end Go.Proofs.Rdc

/-
  The document's own small functions: size, truth, divide, Power, Floor, chosen.
-/
import Derived.Test.YtlpebmngjagbaaaMSpB
namespace Go.Proofs.Ytlpebmngjagbaaa.Spn
open Go.RowKit Go.IntWalk
set_option linter.unusedVariables false

theorem rpower_any (n : Int) (w : World) (hn : 0 ≤ n ∧ n ≤ 62) :
    Calls Try.prog 23 #[.int .i64 n] w fun e w' => e = .returned (.int .i64 (2 ^ n.toNat)) ∧ w' = w := by
  go_enter Try.func23, Try.ntmps23
  go_wp2
  go_loop [3, 4] (fun x i => ∃ k : Nat, (k : Int) ≤ n ∧ i = .int .i64 k ∧ x = .int .i64 (2 ^ k)) (fun _ i => n.toNat - (intOf i).toNat)
  case atStart => exact ⟨0, by omega, rfl, rfl⟩
  case round =>
    obtain ⟨k, hk, rfl, rfl⟩ := hrel
    have hp := pow_bd k 62 (by omega)
    have hp2 : (2 : Int) ^ (k + 1) = 2 * 2 ^ k := by rw [Int.pow_succ]; omega
    have HP := hide hp2
    clear hp2
    by_cases hlt : (k : Int) < n
    · have hp3 := pow_bd (k + 1) 62 (by omega)
      rw [HP.out] at hp3
      generalize hq : (2 : Int) ^ k = q at *
      have HQ := hide hq
      clear hq
      go_wp2
      go_round
      case rel => exact ⟨k + 1, by omega, by go_num, by rw [HP.out]⟩
      case measure => simp [intOf]; omega
    · obtain rfl : n = (k : Int) := by omega
      go_wp2
      go_ret
      exact ⟨rfl, rfl⟩

theorem floor_neg (a d : Int) (hd : 0 < d) : -((-a + d - 1) / d) = a / d := by
  have h1 := Int.emod_add_mul_ediv a d
  have h2 := Int.emod_nonneg a (show d ≠ 0 by omega)
  have h3 := Int.emod_lt_of_pos a hd
  have h4 : -a + d - 1 = (d - 1 - a % d) + d * (-(a / d)) := by rw [Int.mul_neg]; omega
  rw [h4, Int.add_mul_ediv_left _ _ (by omega), Int.ediv_eq_zero_of_lt (by omega) (by omega)]
  omega

end Go.Proofs.Ytlpebmngjagbaaa.Spn

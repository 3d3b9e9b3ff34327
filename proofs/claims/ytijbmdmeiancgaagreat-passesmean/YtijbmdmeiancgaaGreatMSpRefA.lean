/-
  The document's own small functions: size, truth, divide, Power, Floor, chosen.
-/
import Derived.Test.YtijbmdmeiancgaaGreatMSpB
namespace Go.Proofs.YtijbmdmeiancgaaGreat.Spn
open Go.RowKit Go.IntWalk
set_option linter.unusedVariables false

theorem rsize_any (a : Int) (w : World) (ha : -4611686018427387904 ≤ a ∧ a ≤ 4611686018427387904) :
    Calls Tryz.prog 120 #[.int .i64 a] w fun e w' => e = .returned (.int .i64 (max a (-a))) ∧ w' = w := by
  go_enter Tryz.func120, Tryz.ntmps120
  go_wp2
  all_goals go_ret
  all_goals exact ⟨ret_int (by omega), rfl⟩

theorem rtruth_any (b : Bool) (w : World) :
    Calls Tryz.prog 121 #[.bool b] w fun e w' => e = .returned (.int .i64 (tr b)) ∧ w' = w := by
  cases b <;>
  · go_enter Tryz.func121, Tryz.ntmps121
    go_wp2
    go_ret
    exact ⟨rfl, rfl⟩

theorem rdivide_any (a b : Int) (w : World) (ha : -2147483648 ≤ a ∧ a ≤ 2147483647) (hb : -2147483648 ≤ b ∧ b ≤ 2147483647) (h0 : b ≠ 0) :
    Calls Tryz.prog 122 #[.int .i64 a, .int .i64 b] w fun e w' => e = .returned (.int .i64 (a.tdiv b)) ∧ w' = w := by
  have sa := fun w => rsize_any a w (by omega)
  have sb := fun w => rsize_any b w (by omega)
  have bd := tdiv_bd a b ha
  rcases (show a < 0 ∨ 0 ≤ a by omega) with ga | ga <;> rcases (show b < 0 ∨ 0 ≤ b by omega) with gb | gb
  · have e : a.tdiv b = -a / -b := by
      rw [← Int.neg_tdiv_neg, Int.tdiv_eq_ediv_of_nonneg (by omega)]
    rw [show max a (-a) = -a by omega] at sa
    rw [show max b (-b) = -b by omega] at sb
    rw [e] at bd ⊢
    clear e
    generalize hA : -a = A at *
    generalize hB : -b = B at *
    have hA' : 0 ≤ A ∧ A ≤ 2147483648 := by omega
    have hB' : 1 ≤ B := by omega
    clear hA hB
    have da : decide (a < 0) = true := by simp; omega
    have db : decide (b < 0) = true := by simp; omega
    go_enter Tryz.func122, Tryz.ntmps122
    go_wp2_with fail
    refine (sa _).mono ?_
    rintro e w' ⟨rfl, rfl⟩
    go_wp2_with fail
    refine (sb _).mono ?_
    rintro e w' ⟨rfl, rfl⟩
    go_wp2_with fail
    go_ret
    exact ⟨rfl, rfl⟩
  · have e : a.tdiv b = -(-a / b) := by
      rw [← Int.tdiv_eq_ediv_of_nonneg (by omega), Int.neg_tdiv, Int.neg_neg]
    rw [show max a (-a) = -a by omega] at sa
    rw [show max b (-b) = b by omega] at sb
    rw [e] at bd ⊢
    clear e
    generalize hA : -a = A at *
    have hA' : 0 ≤ A ∧ A ≤ 2147483648 := by omega
    have hB' : 1 ≤ b := by omega
    clear hA
    have da : decide (a < 0) = true := by simp; omega
    have db : decide (b < 0) = false := by simp; omega
    go_enter Tryz.func122, Tryz.ntmps122
    go_wp2_with fail
    refine (sa _).mono ?_
    rintro e w' ⟨rfl, rfl⟩
    go_wp2_with fail
    refine (sb _).mono ?_
    rintro e w' ⟨rfl, rfl⟩
    go_wp2_with fail
    go_ret
    exact ⟨rfl, rfl⟩
  · have e : a.tdiv b = -(a / -b) := by
      rw [← Int.tdiv_eq_ediv_of_nonneg ga, Int.tdiv_neg, Int.neg_neg]
    rw [show max a (-a) = a by omega] at sa
    rw [show max b (-b) = -b by omega] at sb
    rw [e] at bd ⊢
    clear e
    generalize hB : -b = B at *
    have hB' : 1 ≤ B := by omega
    clear hB
    have da : decide (a < 0) = false := by simp; omega
    have db : decide (b < 0) = true := by simp; omega
    go_enter Tryz.func122, Tryz.ntmps122
    go_wp2_with fail
    refine (sa _).mono ?_
    rintro e w' ⟨rfl, rfl⟩
    go_wp2_with fail
    refine (sb _).mono ?_
    rintro e w' ⟨rfl, rfl⟩
    go_wp2_with fail
    go_ret
    exact ⟨rfl, rfl⟩
  · have e : a.tdiv b = a / b := Int.tdiv_eq_ediv_of_nonneg ga
    rw [show max a (-a) = a by omega] at sa
    rw [show max b (-b) = b by omega] at sb
    rw [e] at bd ⊢
    clear e
    have hB' : 1 ≤ b := by omega
    have da : decide (a < 0) = false := by simp; omega
    have db : decide (b < 0) = false := by simp; omega
    go_enter Tryz.func122, Tryz.ntmps122
    go_wp2_with fail
    refine (sa _).mono ?_
    rintro e w' ⟨rfl, rfl⟩
    go_wp2_with fail
    refine (sb _).mono ?_
    rintro e w' ⟨rfl, rfl⟩
    go_wp2_with fail
    go_ret
    exact ⟨rfl, rfl⟩

theorem rpower_any (n : Int) (w : World) (hn : 0 ≤ n ∧ n ≤ 62) :
    Calls Tryz.prog 117 #[.int .i64 n] w fun e w' => e = .returned (.int .i64 (2 ^ n.toNat)) ∧ w' = w := by
  go_enter Tryz.func117, Tryz.ntmps117
  go_wp2
  go_loop [3, 4] (fun x i => ∃ k : Nat, (k : Int) ≤ n ∧ i = .int .i64 k ∧ x = .int .i64 (2 ^ k)) (fun _ i => n.toNat - (intOf i).toNat)
  case atStart => exact ⟨0, by omega, rfl, rfl⟩
  case round =>
    obtain ⟨k, hk, rfl, rfl⟩ := hrel
    have hp := pow_bd k 62 (by omega)
    have hp2 : (2 : Int) ^ (k + 1) = 2 * 2 ^ k := by rw [Int.pow_succ]; omega
    have HP := hide hp2
    clear hp2
    by_cases hlt : (k : Int) < n
    · have hp3 := pow_bd (k + 1) 62 (by omega)
      rw [HP.out] at hp3
      generalize hq : (2 : Int) ^ k = q at *
      have HQ := hide hq
      clear hq
      go_wp2
      go_round
      case rel => exact ⟨k + 1, by omega, by go_num, by rw [HP.out]⟩
      case measure => simp [intOf]; omega
    · obtain rfl : n = (k : Int) := by omega
      go_wp2
      go_ret
      exact ⟨rfl, rfl⟩

theorem floor_neg (a d : Int) (hd : 0 < d) : -((-a + d - 1) / d) = a / d := by
  have h1 := Int.emod_add_mul_ediv a d
  have h2 := Int.emod_nonneg a (show d ≠ 0 by omega)
  have h3 := Int.emod_lt_of_pos a hd
  have h4 : -a + d - 1 = (d - 1 - a % d) + d * (-(a / d)) := by rw [Int.mul_neg]; omega
  rw [h4, Int.add_mul_ediv_left _ _ (by omega), Int.ediv_eq_zero_of_lt (by omega) (by omega)]
  omega

theorem rfloor_any (a d : Int) (w : World) (ha : -4611686018427387904 ≤ a ∧ a ≤ 4611686018427387904) (hd : 1 ≤ d ∧ d ≤ 4611686018427387904) :
    Calls Tryz.prog 116 #[.int .i64 a, .int .i64 d] w fun e w' => e = .returned (.int .i64 (a / d)) ∧ w' = w := by
  by_cases h : a < 0
  · have e := floor_neg a d (by omega)
    have e2 : 0 ≤ (-a + d - 1) / d := Int.ediv_nonneg (by omega) (by omega)
    have e3 := Int.ediv_le_self d (show 0 ≤ -a + d - 1 by omega)
    rw [← e]
    clear e
    have e4 : wrap64 (wrap64 (-a + d) - 1) = -a + d - 1 := by unfold wrap64; omega
    go_enter Tryz.func116, Tryz.ntmps116
    go_wp2
    go_ret
    exact ⟨rfl, rfl⟩
  · go_enter Tryz.func116, Tryz.ntmps116
    go_wp2
    go_ret
    exact ⟨rfl, rfl⟩

end Go.Proofs.YtijbmdmeiancgaaGreat.Spn

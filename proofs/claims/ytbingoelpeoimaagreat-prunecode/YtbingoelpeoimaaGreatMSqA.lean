/-
  The document's own small functions: size, truth, divide, Power, Floor, chosen.
-/
import Derived.Test.YtbingoelpeoimaaGreatMSpB
namespace Go.Proofs.YtbingoelpeoimaaGreat.Spn
open Go.RowKit Go.IntWalk
set_option linter.unusedVariables false

theorem rsize_any (a : Int) (w : World) (ha : -4611686018427387904 ≤ a ∧ a ≤ 4611686018427387904) :
    Calls Tryz.prog 90 #[.int .i64 a] w fun e w' => e = .returned (.int .i64 (max a (-a))) ∧ w' = w := by
  go_enter Tryz.func90, Tryz.ntmps90
  go_wp2
  all_goals go_ret
  all_goals exact ⟨ret_int (by omega), rfl⟩

theorem rtruth_any (b : Bool) (w : World) :
    Calls Tryz.prog 91 #[.bool b] w fun e w' => e = .returned (.int .i64 (tr b)) ∧ w' = w := by
  cases b <;>
  · go_enter Tryz.func91, Tryz.ntmps91
    go_wp2
    go_ret
    exact ⟨rfl, rfl⟩

theorem rdivide_any (a b : Int) (w : World) (ha : -2147483648 ≤ a ∧ a ≤ 2147483647) (hb : -2147483648 ≤ b ∧ b ≤ 2147483647) (h0 : b ≠ 0) :
    Calls Tryz.prog 92 #[.int .i64 a, .int .i64 b] w fun e w' => e = .returned (.int .i64 (a.tdiv b)) ∧ w' = w := by
  have sa := fun w => rsize_any a w (by omega)
  have sb := fun w => rsize_any b w (by omega)
  have bd := tdiv_bd a b ha
  rcases (show a < 0 ∨ 0 ≤ a by omega) with ga | ga <;> rcases (show b < 0 ∨ 0 ≤ b by omega) with gb | gb
  · have e : a.tdiv b = -a / -b := by
      rw [← Int.neg_tdiv_neg, Int.tdiv_eq_ediv_of_nonneg (by omega)]
    rw [show max a (-a) = -a by omega] at sa
    rw [show max b (-b) = -b by omega] at sb
    rw [e] at bd ⊢
    clear e
    generalize hA : -a = A at *
    generalize hB : -b = B at *
    have hA' : 0 ≤ A ∧ A ≤ 2147483648 := by omega
    have hB' : 1 ≤ B := by omega
    clear hA hB
    have da : decide (a < 0) = true := by simp; omega
    have db : decide (b < 0) = true := by simp; omega
    go_enter Tryz.func92, Tryz.ntmps92
    go_wp2_with fail
    refine (sa _).mono ?_
    rintro e w' ⟨rfl, rfl⟩
    go_wp2_with fail
    refine (sb _).mono ?_
    rintro e w' ⟨rfl, rfl⟩
    go_wp2_with fail
    go_ret
    exact ⟨rfl, rfl⟩
  · have e : a.tdiv b = -(-a / b) := by
      rw [← Int.tdiv_eq_ediv_of_nonneg (by omega), Int.neg_tdiv, Int.neg_neg]
    rw [show max a (-a) = -a by omega] at sa
    rw [show max b (-b) = b by omega] at sb
    rw [e] at bd ⊢
    clear e
    generalize hA : -a = A at *
    have hA' : 0 ≤ A ∧ A ≤ 2147483648 := by omega
    have hB' : 1 ≤ b := by omega
    clear hA
    have da : decide (a < 0) = true := by simp; omega
    have db : decide (b < 0) = false := by simp; omega
    go_enter Tryz.func92, Tryz.ntmps92
    go_wp2_with fail
    refine (sa _).mono ?_
    rintro e w' ⟨rfl, rfl⟩
    go_wp2_with fail
    refine (sb _).mono ?_
    rintro e w' ⟨rfl, rfl⟩
    go_wp2_with fail
    go_ret
    exact ⟨rfl, rfl⟩
  · have e : a.tdiv b = -(a / -b) := by
      rw [← Int.tdiv_eq_ediv_of_nonneg ga, Int.tdiv_neg, Int.neg_neg]
    rw [show max a (-a) = a by omega] at sa
    rw [show max b (-b) = -b by omega] at sb
    rw [e] at bd ⊢
    clear e
    generalize hB : -b = B at *
    have hB' : 1 ≤ B := by omega
    clear hB
    have da : decide (a < 0) = false := by simp; omega
    have db : decide (b < 0) = true := by simp; omega
    go_enter Tryz.func92, Tryz.ntmps92
    go_wp2_with fail
    refine (sa _).mono ?_
    rintro e w' ⟨rfl, rfl⟩
    go_wp2_with fail
    refine (sb _).mono ?_
    rintro e w' ⟨rfl, rfl⟩
    go_wp2_with fail
    go_ret
    exact ⟨rfl, rfl⟩
  · have e : a.tdiv b = a / b := Int.tdiv_eq_ediv_of_nonneg ga
    rw [show max a (-a) = a by omega] at sa
    rw [show max b (-b) = b by omega] at sb
    rw [e] at bd ⊢
    clear e
    have hB' : 1 ≤ b := by omega
    have da : decide (a < 0) = false := by simp; omega
    have db : decide (b < 0) = false := by simp; omega
    go_enter Tryz.func92, Tryz.ntmps92
    go_wp2_with fail
    refine (sa _).mono ?_
    rintro e w' ⟨rfl, rfl⟩
    go_wp2_with fail
    refine (sb _).mono ?_
    rintro e w' ⟨rfl, rfl⟩
    go_wp2_with fail
    go_ret
    exact ⟨rfl, rfl⟩

theorem rpower_any (n : Int) (w : World) (hn : 0 ≤ n ∧ n ≤ 62) :
    Calls Tryz.prog 67 #[.int .i64 n] w fun e w' => e = .returned (.int .i64 (2 ^ n.toNat)) ∧ w' = w := by
  go_enter Tryz.func67, Tryz.ntmps67
  go_wp2
  go_loop [3, 4] (fun x i => ∃ k : Nat, (k : Int) ≤ n ∧ i = .int .i64 k ∧ x = .int .i64 (2 ^ k)) (fun _ i => n.toNat - (intOf i).toNat)
  case atStart => exact ⟨0, by omega, rfl, rfl⟩
  case round =>
    obtain ⟨k, hk, rfl, rfl⟩ := hrel
    have hp := pow_bd k 62 (by omega)
    have hp2 : (2 : Int) ^ (k + 1) = 2 * 2 ^ k := by rw [Int.pow_succ]; omega
    have HP := hide hp2
    clear hp2
    by_cases hlt : (k : Int) < n
    · have hp3 := pow_bd (k + 1) 62 (by omega)
      rw [HP.out] at hp3
      generalize hq : (2 : Int) ^ k = q at *
      have HQ := hide hq
      clear hq
      go_wp2
      go_round
      case rel => exact ⟨k + 1, by omega, by go_num, by rw [HP.out]⟩
      case measure => simp [intOf]; omega
    · obtain rfl : n = (k : Int) := by omega
      go_wp2
      go_ret
      exact ⟨rfl, rfl⟩

theorem floor_neg (a d : Int) (hd : 0 < d) : -((-a + d - 1) / d) = a / d := by
  have h1 := Int.emod_add_mul_ediv a d
  have h2 := Int.emod_nonneg a (show d ≠ 0 by omega)
  have h3 := Int.emod_lt_of_pos a hd
  have h4 : -a + d - 1 = (d - 1 - a % d) + d * (-(a / d)) := by rw [Int.mul_neg]; omega
  rw [h4, Int.add_mul_ediv_left _ _ (by omega), Int.ediv_eq_zero_of_lt (by omega) (by omega)]
  omega

theorem rfloor_any (a d : Int) (w : World) (ha : -4611686018427387904 ≤ a ∧ a ≤ 4611686018427387904) (hd : 1 ≤ d ∧ d ≤ 4611686018427387904) :
    Calls Tryz.prog 66 #[.int .i64 a, .int .i64 d] w fun e w' => e = .returned (.int .i64 (a / d)) ∧ w' = w := by
  by_cases h : a < 0
  · have e := floor_neg a d (by omega)
    have e2 : 0 ≤ (-a + d - 1) / d := Int.ediv_nonneg (by omega) (by omega)
    have e3 := Int.ediv_le_self d (show 0 ≤ -a + d - 1 by omega)
    rw [← e]
    clear e
    have e4 : wrap64 (wrap64 (-a + d) - 1) = -a + d - 1 := by unfold wrap64; omega
    go_enter Tryz.func66, Tryz.ntmps66
    go_wp2
    go_ret
    exact ⟨rfl, rfl⟩
  · go_enter Tryz.func66, Tryz.ntmps66
    go_wp2
    go_ret
    exact ⟨rfl, rfl⟩

end Go.Proofs.YtbingoelpeoimaaGreat.Spn

/-
  The document's own bitwise: digit by digit.
-/
namespace Go.Proofs.YtbingoelpeoimaaGreat.Spn
open Go.RowKit Go.IntWalk
set_option linter.unusedVariables false

/-- What the digits below 2 to the k come to. -/
def outK (o : Bop) (a b : Int) (k : Nat) : Int := bw o a b - 2 ^ k * bw o (a / 2 ^ k) (b / 2 ^ k)

theorem outK_0 (o : Bop) (a b : Int) : outK o a b 0 = 0 := by simp [outK]

theorem div_range {a : Int} (ha : -2147483648 ≤ a ∧ a ≤ 2147483647) (k : Nat) : -2147483648 ≤ a / 2 ^ k ∧ a / 2 ^ k ≤ 2147483647 := by
  have hp : (0 : Int) < 2 ^ k := Int.pow_pos (by decide)
  generalize (2 : Int) ^ k = P at *
  constructor
  · exact Int.le_ediv_of_mul_le hp (by omega)
  · have : a / P < 2147483648 := Int.ediv_lt_of_lt_mul hp (by omega)
    omega

theorem div_next (a : Int) (k : Nat) : a / 2 ^ (k + 1) = a / 2 ^ k / 2 := by
  rw [Int.ediv_ediv_of_nonneg (Int.le_of_lt (Int.pow_pos (by decide))), Int.pow_succ]

theorem outK_next (o : Bop) {a b : Int} (ha : -2147483648 ≤ a ∧ a ≤ 2147483647) (hb : -2147483648 ≤ b ∧ b ≤ 2147483647) (k : Nat) :
    outK o a b (k + 1) = outK o a b k + o.dig (a / 2 ^ k % 2) (b / 2 ^ k % 2) * 2 ^ k := by
  have h1 := div_range ha k
  have h2 := div_range hb k
  have h := bw_step o (a / 2 ^ k) (b / 2 ^ k) (by omega) (by omega)
  unfold outK
  rw [div_next, div_next, h, Int.pow_succ, Int.mul_add, Int.mul_comm (o.dig _ _), Int.mul_assoc]
  omega

theorem outK_bd (o : Bop) {a b : Int} (ha : -2147483648 ≤ a ∧ a ≤ 2147483647) (hb : -2147483648 ≤ b ∧ b ≤ 2147483647) : ∀ k : Nat, 0 ≤ outK o a b k ∧ outK o a b k < 2 ^ k
  | 0 => by rw [outK_0]; decide
  | k + 1 => by
    have ih := outK_bd o ha hb k
    have hd := dig_01 o (a / 2 ^ k) (b / 2 ^ k)
    rw [outK_next o ha hb, Int.pow_succ]
    generalize (2 : Int) ^ k = P at *
    rcases (show o.dig (a / P % 2) (b / P % 2) = 0 ∨ o.dig (a / P % 2) (b / P % 2) = 1 by omega) with e | e <;> rw [e] <;> omega

theorem end_32 {a : Int} (ha : -2147483648 ≤ a ∧ a ≤ 2147483647) : a / 2 ^ 32 = 0 ∨ a / 2 ^ 32 = -1 := by omega

theorem outK_32 (o : Bop) {a b : Int} (ha : -2147483648 ≤ a ∧ a ≤ 2147483647) (hb : -2147483648 ≤ b ∧ b ≤ 2147483647) :
    (2147483648 ≤ outK o a b 32 ∧ outK o a b 32 - 4294967296 = bw o a b) ∨ (outK o a b 32 < 2147483648 ∧ outK o a b 32 = bw o a b) := by
  have h1 := bw_wd o ha hb
  have h2 : bw o (a / 2 ^ 32) (b / 2 ^ 32) = 0 ∨ bw o (a / 2 ^ 32) (b / 2 ^ 32) = -1 := by
    rcases end_32 ha with e | e <;> rcases end_32 hb with f | f <;> rw [e, f] <;> rcases o with _ | _ | _ <;> decide
  unfold outK
  omega

/-- The number as 32 digits. -/
def up (a : Int) : Int := if a < 0 then a + 4294967296 else a
theorem up_bd {a : Int} (ha : -2147483648 ≤ a ∧ a ≤ 2147483647) : 0 ≤ up a ∧ up a ≤ 4294967295 := by unfold up; split <;> omega

theorem up_dig {a : Int} (ha : -2147483648 ≤ a ∧ a ≤ 2147483647) (k : Nat) (hk : k < 32) : up a / 2 ^ k % 2 = a / 2 ^ k % 2 := by
  unfold up
  split
  · have e : (4294967296 : Int) = 2 ^ k * (2 * 2 ^ (31 - k)) := by
      rw [show (4294967296 : Int) = 2 ^ (k + (1 + (31 - k))) by rw [show k + (1 + (31 - k)) = 32 by omega]; decide, Int.pow_add, Int.pow_add]
      rfl
    rw [e, Int.add_mul_ediv_left _ _ (Int.ne_of_gt (Int.pow_pos (by decide))), Int.add_mul_emod_self_left]
  · rfl

theorem up_range {a : Int} (ha : -2147483648 ≤ a ∧ a ≤ 2147483647) (k : Nat) : 0 ≤ up a / 2 ^ k ∧ up a / 2 ^ k ≤ 4294967295 := by
  have h := up_bd ha
  have hp : (0 : Int) < 2 ^ k := Int.pow_pos (by decide)
  have := Int.ediv_le_self (2 ^ k) h.1
  exact ⟨Int.ediv_nonneg h.1 (Int.le_of_lt hp), by omega⟩

/-- What a round asks, and what it makes. -/
theorem bit_round (o : Bop) {a b : Int} (ha : -2147483648 ≤ a ∧ a ≤ 2147483647) (hb : -2147483648 ≤ b ∧ b ≤ 2147483647) (k : Nat) (hk : k < 32) :
    ∃ x y t p q m E, x = up a / 2 ^ k ∧ y = up b / 2 ^ k ∧ t = (2 : Int) ^ k ∧ x % 2 = p ∧ y % 2 = q ∧ p * q = m ∧ o.dig p q * t = E ∧ outK o a b (k + 1) = outK o a b k + E ∧ x / 2 = up a / 2 ^ (k + 1) ∧ y / 2 = up b / 2 ^ (k + 1) ∧ 2 * t = (2 : Int) ^ (k + 1) ∧
      (0 ≤ x ∧ x ≤ 4294967295) ∧ (0 ≤ y ∧ y ≤ 4294967295) ∧ (1 ≤ t ∧ t ≤ 2147483648) ∧ (0 ≤ p ∧ p ≤ 1) ∧ (0 ≤ q ∧ q ≤ 1) ∧ (0 ≤ m ∧ m ≤ 1) ∧ (0 ≤ E ∧ E ≤ 2147483648) ∧ (0 ≤ outK o a b k ∧ outK o a b k ≤ 4294967296) := by
  have h1 := pow_bd k 31 (by omega)
  have h2 := up_range ha k
  have h3 := up_range hb k
  have h4 := outK_next o ha hb k
  rw [← up_dig ha k hk, ← up_dig hb k hk] at h4
  have h5 := outK_bd o ha hb k
  have hd := dig_01 o (up a / 2 ^ k) (up b / 2 ^ k)
  refine ⟨_, _, _, _, _, _, _, rfl, rfl, rfl, rfl, rfl, rfl, rfl, h4, (div_next _ _).symm, (div_next _ _).symm, by rw [Int.pow_succ]; omega, h2, h3, ⟨h1.1, by omega⟩, by omega, by omega, ?_, ?_, by omega⟩
  · rcases two_dig (up a / 2 ^ k) with e | e <;> rcases two_dig (up b / 2 ^ k) with f | f <;> rw [e, f] <;> decide
  · rcases (show o.dig (up a / 2 ^ k % 2) (up b / 2 ^ k % 2) = 0 ∨ o.dig (up a / 2 ^ k % 2) (up b / 2 ^ k % 2) = 1 by omega) with e | e <;> rw [e] <;> omega

end Go.Proofs.YtbingoelpeoimaaGreat.Spn

/-
  The walk of the document's own bitwise.
-/
namespace Go.Proofs.YtbingoelpeoimaaGreat.Spn
open Go.RowKit Go.IntWalk
set_option linter.unusedVariables false

set_option maxRecDepth 100000 in
set_option maxHeartbeats 1000000 in
theorem rbit_and_neg_neg (a b : Int) (w : World) (ha : -2147483648 ≤ a ∧ a ≤ 2147483647) (hb : -2147483648 ≤ b ∧ b ≤ 2147483647) (sa : a < 0) (sb : b < 0) :
    Calls Tryz.prog 93 #[.int .i64 15, .int .i64 a, .int .i64 b] w fun e w' => e = .returned (.int .i64 (bw .and a b)) ∧ w' = w := by
  have UA := hide (show a + 4294967296 = up a by unfold up; split <;> omega)
  have UB := hide (show b + 4294967296 = up b by unfold up; split <;> omega)
  have RD := hide (fun k h => bit_round .and ha hb k h)
  have EN := hide (outK_32 .and ha hb)
  go_enter Tryz.func93, Tryz.ntmps93
  go_wp2_with fail
  go_loop [7, 8, 9, 10, 11] (fun x y o t i => ∃ (k : Nat) (X Y O T : Int), k ≤ 32 ∧ x = .int .i64 X ∧ y = .int .i64 Y ∧ o = .int .i64 O ∧ t = .int .i64 T ∧ i = .int .i64 k ∧ X = up a / 2 ^ k ∧ Y = up b / 2 ^ k ∧ O = outK .and a b k ∧ T = 2 ^ k) (fun _ _ _ _ i => 32 - (intOf i).toNat)
  case atStart => exact ⟨0, _, _, _, _, by omega, rfl, rfl, rfl, rfl, rfl, by simpa using UA.out, by simpa using UB.out, (outK_0 _ _ _).symm, rfl⟩
  case round =>
    obtain ⟨k, X, Y, O, T, hk, rfl, rfl, rfl, rfl, rfl, hX, hY, hO, hT⟩ := hrel
    by_cases hlt : k < 32
    · obtain ⟨x, y, t, p, q, m, E, e1, e2, e3, e4, e5, e6, e7, e8, e9, e10, e11, b1, b2, b3, b4, b5, b6, b7, b8⟩ := RD.out k hlt
      obtain rfl : X = x := by rw [hX, e1]
      obtain rfl : Y = y := by rw [hY, e2]
      obtain rfl : T = t := by rw [hT, e3]
      rw [← hO] at e8 b8
      have e7' : m * T = E := by rw [← e7, ← e6]; rfl
      have E8 := hide e8
      have E9 := hide e9
      have E10 := hide e10
      have E11 := hide e11
      clear e1 e2 e3 e7 e8 e9 e10 e11 hX hY hO hT sa sb UA UB RD EN
      go_wp2_with fail
      go_round
      case rel => exact ⟨k + 1, _, _, _, _, by omega, rfl, rfl, rfl, rfl, by go_num, E9.out, E10.out, E8.out.symm, E11.out⟩
      case measure => simp [intOf]; omega
    · obtain rfl : k = 32 := by omega
      have hN := EN.out
      rw [← hO] at hN
      have b0 := hide (outK_bd .and ha hb 32)
      have b1 : 0 ≤ O ∧ O < 4294967296 := by have := b0.out; rw [← hO] at this; omega
      clear hX hY hO hT UA UB RD EN b0 sa sb
      rcases hN with ⟨h1, h2⟩ | ⟨h1, h2⟩
      · have H2 := hide h2
        clear h2
        go_wp2_with fail
        go_ret
        exact ⟨ret_int H2.out, rfl⟩
      · have H2 := hide h2
        clear h2
        go_wp2_with fail
        go_ret
        exact ⟨ret_int H2.out, rfl⟩

set_option maxRecDepth 100000 in
set_option maxHeartbeats 1000000 in
theorem rbit_and_neg_pos (a b : Int) (w : World) (ha : -2147483648 ≤ a ∧ a ≤ 2147483647) (hb : -2147483648 ≤ b ∧ b ≤ 2147483647) (sa : a < 0) (sb : 0 ≤ b) :
    Calls Tryz.prog 93 #[.int .i64 15, .int .i64 a, .int .i64 b] w fun e w' => e = .returned (.int .i64 (bw .and a b)) ∧ w' = w := by
  have UA := hide (show a + 4294967296 = up a by unfold up; split <;> omega)
  have UB := hide (show b = up b by unfold up; split <;> omega)
  have RD := hide (fun k h => bit_round .and ha hb k h)
  have EN := hide (outK_32 .and ha hb)
  go_enter Tryz.func93, Tryz.ntmps93
  go_wp2_with fail
  go_loop [7, 8, 9, 10, 11] (fun x y o t i => ∃ (k : Nat) (X Y O T : Int), k ≤ 32 ∧ x = .int .i64 X ∧ y = .int .i64 Y ∧ o = .int .i64 O ∧ t = .int .i64 T ∧ i = .int .i64 k ∧ X = up a / 2 ^ k ∧ Y = up b / 2 ^ k ∧ O = outK .and a b k ∧ T = 2 ^ k) (fun _ _ _ _ i => 32 - (intOf i).toNat)
  case atStart => exact ⟨0, _, _, _, _, by omega, rfl, rfl, rfl, rfl, rfl, by simpa using UA.out, by simpa using UB.out, (outK_0 _ _ _).symm, rfl⟩
  case round =>
    obtain ⟨k, X, Y, O, T, hk, rfl, rfl, rfl, rfl, rfl, hX, hY, hO, hT⟩ := hrel
    by_cases hlt : k < 32
    · obtain ⟨x, y, t, p, q, m, E, e1, e2, e3, e4, e5, e6, e7, e8, e9, e10, e11, b1, b2, b3, b4, b5, b6, b7, b8⟩ := RD.out k hlt
      obtain rfl : X = x := by rw [hX, e1]
      obtain rfl : Y = y := by rw [hY, e2]
      obtain rfl : T = t := by rw [hT, e3]
      rw [← hO] at e8 b8
      have e7' : m * T = E := by rw [← e7, ← e6]; rfl
      have E8 := hide e8
      have E9 := hide e9
      have E10 := hide e10
      have E11 := hide e11
      clear e1 e2 e3 e7 e8 e9 e10 e11 hX hY hO hT sa sb UA UB RD EN
      go_wp2_with fail
      go_round
      case rel => exact ⟨k + 1, _, _, _, _, by omega, rfl, rfl, rfl, rfl, by go_num, E9.out, E10.out, E8.out.symm, E11.out⟩
      case measure => simp [intOf]; omega
    · obtain rfl : k = 32 := by omega
      have hN := EN.out
      rw [← hO] at hN
      have b0 := hide (outK_bd .and ha hb 32)
      have b1 : 0 ≤ O ∧ O < 4294967296 := by have := b0.out; rw [← hO] at this; omega
      clear hX hY hO hT UA UB RD EN b0 sa sb
      rcases hN with ⟨h1, h2⟩ | ⟨h1, h2⟩
      · have H2 := hide h2
        clear h2
        go_wp2_with fail
        go_ret
        exact ⟨ret_int H2.out, rfl⟩
      · have H2 := hide h2
        clear h2
        go_wp2_with fail
        go_ret
        exact ⟨ret_int H2.out, rfl⟩

set_option maxRecDepth 100000 in
set_option maxHeartbeats 1000000 in
theorem rbit_and_pos_neg (a b : Int) (w : World) (ha : -2147483648 ≤ a ∧ a ≤ 2147483647) (hb : -2147483648 ≤ b ∧ b ≤ 2147483647) (sa : 0 ≤ a) (sb : b < 0) :
    Calls Tryz.prog 93 #[.int .i64 15, .int .i64 a, .int .i64 b] w fun e w' => e = .returned (.int .i64 (bw .and a b)) ∧ w' = w := by
  have UA := hide (show a = up a by unfold up; split <;> omega)
  have UB := hide (show b + 4294967296 = up b by unfold up; split <;> omega)
  have RD := hide (fun k h => bit_round .and ha hb k h)
  have EN := hide (outK_32 .and ha hb)
  go_enter Tryz.func93, Tryz.ntmps93
  go_wp2_with fail
  go_loop [7, 8, 9, 10, 11] (fun x y o t i => ∃ (k : Nat) (X Y O T : Int), k ≤ 32 ∧ x = .int .i64 X ∧ y = .int .i64 Y ∧ o = .int .i64 O ∧ t = .int .i64 T ∧ i = .int .i64 k ∧ X = up a / 2 ^ k ∧ Y = up b / 2 ^ k ∧ O = outK .and a b k ∧ T = 2 ^ k) (fun _ _ _ _ i => 32 - (intOf i).toNat)
  case atStart => exact ⟨0, _, _, _, _, by omega, rfl, rfl, rfl, rfl, rfl, by simpa using UA.out, by simpa using UB.out, (outK_0 _ _ _).symm, rfl⟩
  case round =>
    obtain ⟨k, X, Y, O, T, hk, rfl, rfl, rfl, rfl, rfl, hX, hY, hO, hT⟩ := hrel
    by_cases hlt : k < 32
    · obtain ⟨x, y, t, p, q, m, E, e1, e2, e3, e4, e5, e6, e7, e8, e9, e10, e11, b1, b2, b3, b4, b5, b6, b7, b8⟩ := RD.out k hlt
      obtain rfl : X = x := by rw [hX, e1]
      obtain rfl : Y = y := by rw [hY, e2]
      obtain rfl : T = t := by rw [hT, e3]
      rw [← hO] at e8 b8
      have e7' : m * T = E := by rw [← e7, ← e6]; rfl
      have E8 := hide e8
      have E9 := hide e9
      have E10 := hide e10
      have E11 := hide e11
      clear e1 e2 e3 e7 e8 e9 e10 e11 hX hY hO hT sa sb UA UB RD EN
      go_wp2_with fail
      go_round
      case rel => exact ⟨k + 1, _, _, _, _, by omega, rfl, rfl, rfl, rfl, by go_num, E9.out, E10.out, E8.out.symm, E11.out⟩
      case measure => simp [intOf]; omega
    · obtain rfl : k = 32 := by omega
      have hN := EN.out
      rw [← hO] at hN
      have b0 := hide (outK_bd .and ha hb 32)
      have b1 : 0 ≤ O ∧ O < 4294967296 := by have := b0.out; rw [← hO] at this; omega
      clear hX hY hO hT UA UB RD EN b0 sa sb
      rcases hN with ⟨h1, h2⟩ | ⟨h1, h2⟩
      · have H2 := hide h2
        clear h2
        go_wp2_with fail
        go_ret
        exact ⟨ret_int H2.out, rfl⟩
      · have H2 := hide h2
        clear h2
        go_wp2_with fail
        go_ret
        exact ⟨ret_int H2.out, rfl⟩

set_option maxRecDepth 100000 in
set_option maxHeartbeats 1000000 in
theorem rbit_and_pos_pos (a b : Int) (w : World) (ha : -2147483648 ≤ a ∧ a ≤ 2147483647) (hb : -2147483648 ≤ b ∧ b ≤ 2147483647) (sa : 0 ≤ a) (sb : 0 ≤ b) :
    Calls Tryz.prog 93 #[.int .i64 15, .int .i64 a, .int .i64 b] w fun e w' => e = .returned (.int .i64 (bw .and a b)) ∧ w' = w := by
  have UA := hide (show a = up a by unfold up; split <;> omega)
  have UB := hide (show b = up b by unfold up; split <;> omega)
  have RD := hide (fun k h => bit_round .and ha hb k h)
  have EN := hide (outK_32 .and ha hb)
  go_enter Tryz.func93, Tryz.ntmps93
  go_wp2_with fail
  go_loop [7, 8, 9, 10, 11] (fun x y o t i => ∃ (k : Nat) (X Y O T : Int), k ≤ 32 ∧ x = .int .i64 X ∧ y = .int .i64 Y ∧ o = .int .i64 O ∧ t = .int .i64 T ∧ i = .int .i64 k ∧ X = up a / 2 ^ k ∧ Y = up b / 2 ^ k ∧ O = outK .and a b k ∧ T = 2 ^ k) (fun _ _ _ _ i => 32 - (intOf i).toNat)
  case atStart => exact ⟨0, _, _, _, _, by omega, rfl, rfl, rfl, rfl, rfl, by simpa using UA.out, by simpa using UB.out, (outK_0 _ _ _).symm, rfl⟩
  case round =>
    obtain ⟨k, X, Y, O, T, hk, rfl, rfl, rfl, rfl, rfl, hX, hY, hO, hT⟩ := hrel
    by_cases hlt : k < 32
    · obtain ⟨x, y, t, p, q, m, E, e1, e2, e3, e4, e5, e6, e7, e8, e9, e10, e11, b1, b2, b3, b4, b5, b6, b7, b8⟩ := RD.out k hlt
      obtain rfl : X = x := by rw [hX, e1]
      obtain rfl : Y = y := by rw [hY, e2]
      obtain rfl : T = t := by rw [hT, e3]
      rw [← hO] at e8 b8
      have e7' : m * T = E := by rw [← e7, ← e6]; rfl
      have E8 := hide e8
      have E9 := hide e9
      have E10 := hide e10
      have E11 := hide e11
      clear e1 e2 e3 e7 e8 e9 e10 e11 hX hY hO hT sa sb UA UB RD EN
      go_wp2_with fail
      go_round
      case rel => exact ⟨k + 1, _, _, _, _, by omega, rfl, rfl, rfl, rfl, by go_num, E9.out, E10.out, E8.out.symm, E11.out⟩
      case measure => simp [intOf]; omega
    · obtain rfl : k = 32 := by omega
      have hN := EN.out
      rw [← hO] at hN
      have b0 := hide (outK_bd .and ha hb 32)
      have b1 : 0 ≤ O ∧ O < 4294967296 := by have := b0.out; rw [← hO] at this; omega
      clear hX hY hO hT UA UB RD EN b0 sa sb
      rcases hN with ⟨h1, h2⟩ | ⟨h1, h2⟩
      · have H2 := hide h2
        clear h2
        go_wp2_with fail
        go_ret
        exact ⟨ret_int H2.out, rfl⟩
      · have H2 := hide h2
        clear h2
        go_wp2_with fail
        go_ret
        exact ⟨ret_int H2.out, rfl⟩

set_option maxRecDepth 100000 in
set_option maxHeartbeats 1000000 in
theorem rbit_or_neg_neg (a b : Int) (w : World) (ha : -2147483648 ≤ a ∧ a ≤ 2147483647) (hb : -2147483648 ≤ b ∧ b ≤ 2147483647) (sa : a < 0) (sb : b < 0) :
    Calls Tryz.prog 93 #[.int .i64 16, .int .i64 a, .int .i64 b] w fun e w' => e = .returned (.int .i64 (bw .or a b)) ∧ w' = w := by
  have UA := hide (show a + 4294967296 = up a by unfold up; split <;> omega)
  have UB := hide (show b + 4294967296 = up b by unfold up; split <;> omega)
  have RD := hide (fun k h => bit_round .or ha hb k h)
  have EN := hide (outK_32 .or ha hb)
  go_enter Tryz.func93, Tryz.ntmps93
  go_wp2_with fail
  go_loop [7, 8, 9, 10, 11] (fun x y o t i => ∃ (k : Nat) (X Y O T : Int), k ≤ 32 ∧ x = .int .i64 X ∧ y = .int .i64 Y ∧ o = .int .i64 O ∧ t = .int .i64 T ∧ i = .int .i64 k ∧ X = up a / 2 ^ k ∧ Y = up b / 2 ^ k ∧ O = outK .or a b k ∧ T = 2 ^ k) (fun _ _ _ _ i => 32 - (intOf i).toNat)
  case atStart => exact ⟨0, _, _, _, _, by omega, rfl, rfl, rfl, rfl, rfl, by simpa using UA.out, by simpa using UB.out, (outK_0 _ _ _).symm, rfl⟩
  case round =>
    obtain ⟨k, X, Y, O, T, hk, rfl, rfl, rfl, rfl, rfl, hX, hY, hO, hT⟩ := hrel
    by_cases hlt : k < 32
    · obtain ⟨x, y, t, p, q, m, E, e1, e2, e3, e4, e5, e6, e7, e8, e9, e10, e11, b1, b2, b3, b4, b5, b6, b7, b8⟩ := RD.out k hlt
      obtain rfl : X = x := by rw [hX, e1]
      obtain rfl : Y = y := by rw [hY, e2]
      obtain rfl : T = t := by rw [hT, e3]
      rw [← hO] at e8 b8
      have e7' : (p + q - m) * T = E := by rw [← e7, ← e6]; rfl
      have E8 := hide e8
      have E9 := hide e9
      have E10 := hide e10
      have E11 := hide e11
      clear e1 e2 e3 e7 e8 e9 e10 e11 hX hY hO hT sa sb UA UB RD EN
      go_wp2_with fail
      go_round
      case rel => exact ⟨k + 1, _, _, _, _, by omega, rfl, rfl, rfl, rfl, by go_num, E9.out, E10.out, E8.out.symm, E11.out⟩
      case measure => simp [intOf]; omega
    · obtain rfl : k = 32 := by omega
      have hN := EN.out
      rw [← hO] at hN
      have b0 := hide (outK_bd .or ha hb 32)
      have b1 : 0 ≤ O ∧ O < 4294967296 := by have := b0.out; rw [← hO] at this; omega
      clear hX hY hO hT UA UB RD EN b0 sa sb
      rcases hN with ⟨h1, h2⟩ | ⟨h1, h2⟩
      · have H2 := hide h2
        clear h2
        go_wp2_with fail
        go_ret
        exact ⟨ret_int H2.out, rfl⟩
      · have H2 := hide h2
        clear h2
        go_wp2_with fail
        go_ret
        exact ⟨ret_int H2.out, rfl⟩

set_option maxRecDepth 100000 in
set_option maxHeartbeats 1000000 in
theorem rbit_or_neg_pos (a b : Int) (w : World) (ha : -2147483648 ≤ a ∧ a ≤ 2147483647) (hb : -2147483648 ≤ b ∧ b ≤ 2147483647) (sa : a < 0) (sb : 0 ≤ b) :
    Calls Tryz.prog 93 #[.int .i64 16, .int .i64 a, .int .i64 b] w fun e w' => e = .returned (.int .i64 (bw .or a b)) ∧ w' = w := by
  have UA := hide (show a + 4294967296 = up a by unfold up; split <;> omega)
  have UB := hide (show b = up b by unfold up; split <;> omega)
  have RD := hide (fun k h => bit_round .or ha hb k h)
  have EN := hide (outK_32 .or ha hb)
  go_enter Tryz.func93, Tryz.ntmps93
  go_wp2_with fail
  go_loop [7, 8, 9, 10, 11] (fun x y o t i => ∃ (k : Nat) (X Y O T : Int), k ≤ 32 ∧ x = .int .i64 X ∧ y = .int .i64 Y ∧ o = .int .i64 O ∧ t = .int .i64 T ∧ i = .int .i64 k ∧ X = up a / 2 ^ k ∧ Y = up b / 2 ^ k ∧ O = outK .or a b k ∧ T = 2 ^ k) (fun _ _ _ _ i => 32 - (intOf i).toNat)
  case atStart => exact ⟨0, _, _, _, _, by omega, rfl, rfl, rfl, rfl, rfl, by simpa using UA.out, by simpa using UB.out, (outK_0 _ _ _).symm, rfl⟩
  case round =>
    obtain ⟨k, X, Y, O, T, hk, rfl, rfl, rfl, rfl, rfl, hX, hY, hO, hT⟩ := hrel
    by_cases hlt : k < 32
    · obtain ⟨x, y, t, p, q, m, E, e1, e2, e3, e4, e5, e6, e7, e8, e9, e10, e11, b1, b2, b3, b4, b5, b6, b7, b8⟩ := RD.out k hlt
      obtain rfl : X = x := by rw [hX, e1]
      obtain rfl : Y = y := by rw [hY, e2]
      obtain rfl : T = t := by rw [hT, e3]
      rw [← hO] at e8 b8
      have e7' : (p + q - m) * T = E := by rw [← e7, ← e6]; rfl
      have E8 := hide e8
      have E9 := hide e9
      have E10 := hide e10
      have E11 := hide e11
      clear e1 e2 e3 e7 e8 e9 e10 e11 hX hY hO hT sa sb UA UB RD EN
      go_wp2_with fail
      go_round
      case rel => exact ⟨k + 1, _, _, _, _, by omega, rfl, rfl, rfl, rfl, by go_num, E9.out, E10.out, E8.out.symm, E11.out⟩
      case measure => simp [intOf]; omega
    · obtain rfl : k = 32 := by omega
      have hN := EN.out
      rw [← hO] at hN
      have b0 := hide (outK_bd .or ha hb 32)
      have b1 : 0 ≤ O ∧ O < 4294967296 := by have := b0.out; rw [← hO] at this; omega
      clear hX hY hO hT UA UB RD EN b0 sa sb
      rcases hN with ⟨h1, h2⟩ | ⟨h1, h2⟩
      · have H2 := hide h2
        clear h2
        go_wp2_with fail
        go_ret
        exact ⟨ret_int H2.out, rfl⟩
      · have H2 := hide h2
        clear h2
        go_wp2_with fail
        go_ret
        exact ⟨ret_int H2.out, rfl⟩

set_option maxRecDepth 100000 in
set_option maxHeartbeats 1000000 in
theorem rbit_or_pos_neg (a b : Int) (w : World) (ha : -2147483648 ≤ a ∧ a ≤ 2147483647) (hb : -2147483648 ≤ b ∧ b ≤ 2147483647) (sa : 0 ≤ a) (sb : b < 0) :
    Calls Tryz.prog 93 #[.int .i64 16, .int .i64 a, .int .i64 b] w fun e w' => e = .returned (.int .i64 (bw .or a b)) ∧ w' = w := by
  have UA := hide (show a = up a by unfold up; split <;> omega)
  have UB := hide (show b + 4294967296 = up b by unfold up; split <;> omega)
  have RD := hide (fun k h => bit_round .or ha hb k h)
  have EN := hide (outK_32 .or ha hb)
  go_enter Tryz.func93, Tryz.ntmps93
  go_wp2_with fail
  go_loop [7, 8, 9, 10, 11] (fun x y o t i => ∃ (k : Nat) (X Y O T : Int), k ≤ 32 ∧ x = .int .i64 X ∧ y = .int .i64 Y ∧ o = .int .i64 O ∧ t = .int .i64 T ∧ i = .int .i64 k ∧ X = up a / 2 ^ k ∧ Y = up b / 2 ^ k ∧ O = outK .or a b k ∧ T = 2 ^ k) (fun _ _ _ _ i => 32 - (intOf i).toNat)
  case atStart => exact ⟨0, _, _, _, _, by omega, rfl, rfl, rfl, rfl, rfl, by simpa using UA.out, by simpa using UB.out, (outK_0 _ _ _).symm, rfl⟩
  case round =>
    obtain ⟨k, X, Y, O, T, hk, rfl, rfl, rfl, rfl, rfl, hX, hY, hO, hT⟩ := hrel
    by_cases hlt : k < 32
    · obtain ⟨x, y, t, p, q, m, E, e1, e2, e3, e4, e5, e6, e7, e8, e9, e10, e11, b1, b2, b3, b4, b5, b6, b7, b8⟩ := RD.out k hlt
      obtain rfl : X = x := by rw [hX, e1]
      obtain rfl : Y = y := by rw [hY, e2]
      obtain rfl : T = t := by rw [hT, e3]
      rw [← hO] at e8 b8
      have e7' : (p + q - m) * T = E := by rw [← e7, ← e6]; rfl
      have E8 := hide e8
      have E9 := hide e9
      have E10 := hide e10
      have E11 := hide e11
      clear e1 e2 e3 e7 e8 e9 e10 e11 hX hY hO hT sa sb UA UB RD EN
      go_wp2_with fail
      go_round
      case rel => exact ⟨k + 1, _, _, _, _, by omega, rfl, rfl, rfl, rfl, by go_num, E9.out, E10.out, E8.out.symm, E11.out⟩
      case measure => simp [intOf]; omega
    · obtain rfl : k = 32 := by omega
      have hN := EN.out
      rw [← hO] at hN
      have b0 := hide (outK_bd .or ha hb 32)
      have b1 : 0 ≤ O ∧ O < 4294967296 := by have := b0.out; rw [← hO] at this; omega
      clear hX hY hO hT UA UB RD EN b0 sa sb
      rcases hN with ⟨h1, h2⟩ | ⟨h1, h2⟩
      · have H2 := hide h2
        clear h2
        go_wp2_with fail
        go_ret
        exact ⟨ret_int H2.out, rfl⟩
      · have H2 := hide h2
        clear h2
        go_wp2_with fail
        go_ret
        exact ⟨ret_int H2.out, rfl⟩

set_option maxRecDepth 100000 in
set_option maxHeartbeats 1000000 in
theorem rbit_or_pos_pos (a b : Int) (w : World) (ha : -2147483648 ≤ a ∧ a ≤ 2147483647) (hb : -2147483648 ≤ b ∧ b ≤ 2147483647) (sa : 0 ≤ a) (sb : 0 ≤ b) :
    Calls Tryz.prog 93 #[.int .i64 16, .int .i64 a, .int .i64 b] w fun e w' => e = .returned (.int .i64 (bw .or a b)) ∧ w' = w := by
  have UA := hide (show a = up a by unfold up; split <;> omega)
  have UB := hide (show b = up b by unfold up; split <;> omega)
  have RD := hide (fun k h => bit_round .or ha hb k h)
  have EN := hide (outK_32 .or ha hb)
  go_enter Tryz.func93, Tryz.ntmps93
  go_wp2_with fail
  go_loop [7, 8, 9, 10, 11] (fun x y o t i => ∃ (k : Nat) (X Y O T : Int), k ≤ 32 ∧ x = .int .i64 X ∧ y = .int .i64 Y ∧ o = .int .i64 O ∧ t = .int .i64 T ∧ i = .int .i64 k ∧ X = up a / 2 ^ k ∧ Y = up b / 2 ^ k ∧ O = outK .or a b k ∧ T = 2 ^ k) (fun _ _ _ _ i => 32 - (intOf i).toNat)
  case atStart => exact ⟨0, _, _, _, _, by omega, rfl, rfl, rfl, rfl, rfl, by simpa using UA.out, by simpa using UB.out, (outK_0 _ _ _).symm, rfl⟩
  case round =>
    obtain ⟨k, X, Y, O, T, hk, rfl, rfl, rfl, rfl, rfl, hX, hY, hO, hT⟩ := hrel
    by_cases hlt : k < 32
    · obtain ⟨x, y, t, p, q, m, E, e1, e2, e3, e4, e5, e6, e7, e8, e9, e10, e11, b1, b2, b3, b4, b5, b6, b7, b8⟩ := RD.out k hlt
      obtain rfl : X = x := by rw [hX, e1]
      obtain rfl : Y = y := by rw [hY, e2]
      obtain rfl : T = t := by rw [hT, e3]
      rw [← hO] at e8 b8
      have e7' : (p + q - m) * T = E := by rw [← e7, ← e6]; rfl
      have E8 := hide e8
      have E9 := hide e9
      have E10 := hide e10
      have E11 := hide e11
      clear e1 e2 e3 e7 e8 e9 e10 e11 hX hY hO hT sa sb UA UB RD EN
      go_wp2_with fail
      go_round
      case rel => exact ⟨k + 1, _, _, _, _, by omega, rfl, rfl, rfl, rfl, by go_num, E9.out, E10.out, E8.out.symm, E11.out⟩
      case measure => simp [intOf]; omega
    · obtain rfl : k = 32 := by omega
      have hN := EN.out
      rw [← hO] at hN
      have b0 := hide (outK_bd .or ha hb 32)
      have b1 : 0 ≤ O ∧ O < 4294967296 := by have := b0.out; rw [← hO] at this; omega
      clear hX hY hO hT UA UB RD EN b0 sa sb
      rcases hN with ⟨h1, h2⟩ | ⟨h1, h2⟩
      · have H2 := hide h2
        clear h2
        go_wp2_with fail
        go_ret
        exact ⟨ret_int H2.out, rfl⟩
      · have H2 := hide h2
        clear h2
        go_wp2_with fail
        go_ret
        exact ⟨ret_int H2.out, rfl⟩

set_option maxRecDepth 100000 in
set_option maxHeartbeats 1000000 in
theorem rbit_xor_neg_neg (a b : Int) (w : World) (ha : -2147483648 ≤ a ∧ a ≤ 2147483647) (hb : -2147483648 ≤ b ∧ b ≤ 2147483647) (sa : a < 0) (sb : b < 0) :
    Calls Tryz.prog 93 #[.int .i64 17, .int .i64 a, .int .i64 b] w fun e w' => e = .returned (.int .i64 (bw .xor a b)) ∧ w' = w := by
  have UA := hide (show a + 4294967296 = up a by unfold up; split <;> omega)
  have UB := hide (show b + 4294967296 = up b by unfold up; split <;> omega)
  have RD := hide (fun k h => bit_round .xor ha hb k h)
  have EN := hide (outK_32 .xor ha hb)
  go_enter Tryz.func93, Tryz.ntmps93
  go_wp2_with fail
  go_loop [7, 8, 9, 10, 11] (fun x y o t i => ∃ (k : Nat) (X Y O T : Int), k ≤ 32 ∧ x = .int .i64 X ∧ y = .int .i64 Y ∧ o = .int .i64 O ∧ t = .int .i64 T ∧ i = .int .i64 k ∧ X = up a / 2 ^ k ∧ Y = up b / 2 ^ k ∧ O = outK .xor a b k ∧ T = 2 ^ k) (fun _ _ _ _ i => 32 - (intOf i).toNat)
  case atStart => exact ⟨0, _, _, _, _, by omega, rfl, rfl, rfl, rfl, rfl, by simpa using UA.out, by simpa using UB.out, (outK_0 _ _ _).symm, rfl⟩
  case round =>
    obtain ⟨k, X, Y, O, T, hk, rfl, rfl, rfl, rfl, rfl, hX, hY, hO, hT⟩ := hrel
    by_cases hlt : k < 32
    · obtain ⟨x, y, t, p, q, m, E, e1, e2, e3, e4, e5, e6, e7, e8, e9, e10, e11, b1, b2, b3, b4, b5, b6, b7, b8⟩ := RD.out k hlt
      obtain rfl : X = x := by rw [hX, e1]
      obtain rfl : Y = y := by rw [hY, e2]
      obtain rfl : T = t := by rw [hT, e3]
      rw [← hO] at e8 b8
      have e7' : (p + q) % 2 * T = E := by rw [← e7]; rfl
      have E8 := hide e8
      have E9 := hide e9
      have E10 := hide e10
      have E11 := hide e11
      clear e1 e2 e3 e7 e8 e9 e10 e11 hX hY hO hT sa sb UA UB RD EN
      go_wp2_with fail
      go_round
      case rel => exact ⟨k + 1, _, _, _, _, by omega, rfl, rfl, rfl, rfl, by go_num, E9.out, E10.out, E8.out.symm, E11.out⟩
      case measure => simp [intOf]; omega
    · obtain rfl : k = 32 := by omega
      have hN := EN.out
      rw [← hO] at hN
      have b0 := hide (outK_bd .xor ha hb 32)
      have b1 : 0 ≤ O ∧ O < 4294967296 := by have := b0.out; rw [← hO] at this; omega
      clear hX hY hO hT UA UB RD EN b0 sa sb
      rcases hN with ⟨h1, h2⟩ | ⟨h1, h2⟩
      · have H2 := hide h2
        clear h2
        go_wp2_with fail
        go_ret
        exact ⟨ret_int H2.out, rfl⟩
      · have H2 := hide h2
        clear h2
        go_wp2_with fail
        go_ret
        exact ⟨ret_int H2.out, rfl⟩

set_option maxRecDepth 100000 in
set_option maxHeartbeats 1000000 in
theorem rbit_xor_neg_pos (a b : Int) (w : World) (ha : -2147483648 ≤ a ∧ a ≤ 2147483647) (hb : -2147483648 ≤ b ∧ b ≤ 2147483647) (sa : a < 0) (sb : 0 ≤ b) :
    Calls Tryz.prog 93 #[.int .i64 17, .int .i64 a, .int .i64 b] w fun e w' => e = .returned (.int .i64 (bw .xor a b)) ∧ w' = w := by
  have UA := hide (show a + 4294967296 = up a by unfold up; split <;> omega)
  have UB := hide (show b = up b by unfold up; split <;> omega)
  have RD := hide (fun k h => bit_round .xor ha hb k h)
  have EN := hide (outK_32 .xor ha hb)
  go_enter Tryz.func93, Tryz.ntmps93
  go_wp2_with fail
  go_loop [7, 8, 9, 10, 11] (fun x y o t i => ∃ (k : Nat) (X Y O T : Int), k ≤ 32 ∧ x = .int .i64 X ∧ y = .int .i64 Y ∧ o = .int .i64 O ∧ t = .int .i64 T ∧ i = .int .i64 k ∧ X = up a / 2 ^ k ∧ Y = up b / 2 ^ k ∧ O = outK .xor a b k ∧ T = 2 ^ k) (fun _ _ _ _ i => 32 - (intOf i).toNat)
  case atStart => exact ⟨0, _, _, _, _, by omega, rfl, rfl, rfl, rfl, rfl, by simpa using UA.out, by simpa using UB.out, (outK_0 _ _ _).symm, rfl⟩
  case round =>
    obtain ⟨k, X, Y, O, T, hk, rfl, rfl, rfl, rfl, rfl, hX, hY, hO, hT⟩ := hrel
    by_cases hlt : k < 32
    · obtain ⟨x, y, t, p, q, m, E, e1, e2, e3, e4, e5, e6, e7, e8, e9, e10, e11, b1, b2, b3, b4, b5, b6, b7, b8⟩ := RD.out k hlt
      obtain rfl : X = x := by rw [hX, e1]
      obtain rfl : Y = y := by rw [hY, e2]
      obtain rfl : T = t := by rw [hT, e3]
      rw [← hO] at e8 b8
      have e7' : (p + q) % 2 * T = E := by rw [← e7]; rfl
      have E8 := hide e8
      have E9 := hide e9
      have E10 := hide e10
      have E11 := hide e11
      clear e1 e2 e3 e7 e8 e9 e10 e11 hX hY hO hT sa sb UA UB RD EN
      go_wp2_with fail
      go_round
      case rel => exact ⟨k + 1, _, _, _, _, by omega, rfl, rfl, rfl, rfl, by go_num, E9.out, E10.out, E8.out.symm, E11.out⟩
      case measure => simp [intOf]; omega
    · obtain rfl : k = 32 := by omega
      have hN := EN.out
      rw [← hO] at hN
      have b0 := hide (outK_bd .xor ha hb 32)
      have b1 : 0 ≤ O ∧ O < 4294967296 := by have := b0.out; rw [← hO] at this; omega
      clear hX hY hO hT UA UB RD EN b0 sa sb
      rcases hN with ⟨h1, h2⟩ | ⟨h1, h2⟩
      · have H2 := hide h2
        clear h2
        go_wp2_with fail
        go_ret
        exact ⟨ret_int H2.out, rfl⟩
      · have H2 := hide h2
        clear h2
        go_wp2_with fail
        go_ret
        exact ⟨ret_int H2.out, rfl⟩

set_option maxRecDepth 100000 in
set_option maxHeartbeats 1000000 in
theorem rbit_xor_pos_neg (a b : Int) (w : World) (ha : -2147483648 ≤ a ∧ a ≤ 2147483647) (hb : -2147483648 ≤ b ∧ b ≤ 2147483647) (sa : 0 ≤ a) (sb : b < 0) :
    Calls Tryz.prog 93 #[.int .i64 17, .int .i64 a, .int .i64 b] w fun e w' => e = .returned (.int .i64 (bw .xor a b)) ∧ w' = w := by
  have UA := hide (show a = up a by unfold up; split <;> omega)
  have UB := hide (show b + 4294967296 = up b by unfold up; split <;> omega)
  have RD := hide (fun k h => bit_round .xor ha hb k h)
  have EN := hide (outK_32 .xor ha hb)
  go_enter Tryz.func93, Tryz.ntmps93
  go_wp2_with fail
  go_loop [7, 8, 9, 10, 11] (fun x y o t i => ∃ (k : Nat) (X Y O T : Int), k ≤ 32 ∧ x = .int .i64 X ∧ y = .int .i64 Y ∧ o = .int .i64 O ∧ t = .int .i64 T ∧ i = .int .i64 k ∧ X = up a / 2 ^ k ∧ Y = up b / 2 ^ k ∧ O = outK .xor a b k ∧ T = 2 ^ k) (fun _ _ _ _ i => 32 - (intOf i).toNat)
  case atStart => exact ⟨0, _, _, _, _, by omega, rfl, rfl, rfl, rfl, rfl, by simpa using UA.out, by simpa using UB.out, (outK_0 _ _ _).symm, rfl⟩
  case round =>
    obtain ⟨k, X, Y, O, T, hk, rfl, rfl, rfl, rfl, rfl, hX, hY, hO, hT⟩ := hrel
    by_cases hlt : k < 32
    · obtain ⟨x, y, t, p, q, m, E, e1, e2, e3, e4, e5, e6, e7, e8, e9, e10, e11, b1, b2, b3, b4, b5, b6, b7, b8⟩ := RD.out k hlt
      obtain rfl : X = x := by rw [hX, e1]
      obtain rfl : Y = y := by rw [hY, e2]
      obtain rfl : T = t := by rw [hT, e3]
      rw [← hO] at e8 b8
      have e7' : (p + q) % 2 * T = E := by rw [← e7]; rfl
      have E8 := hide e8
      have E9 := hide e9
      have E10 := hide e10
      have E11 := hide e11
      clear e1 e2 e3 e7 e8 e9 e10 e11 hX hY hO hT sa sb UA UB RD EN
      go_wp2_with fail
      go_round
      case rel => exact ⟨k + 1, _, _, _, _, by omega, rfl, rfl, rfl, rfl, by go_num, E9.out, E10.out, E8.out.symm, E11.out⟩
      case measure => simp [intOf]; omega
    · obtain rfl : k = 32 := by omega
      have hN := EN.out
      rw [← hO] at hN
      have b0 := hide (outK_bd .xor ha hb 32)
      have b1 : 0 ≤ O ∧ O < 4294967296 := by have := b0.out; rw [← hO] at this; omega
      clear hX hY hO hT UA UB RD EN b0 sa sb
      rcases hN with ⟨h1, h2⟩ | ⟨h1, h2⟩
      · have H2 := hide h2
        clear h2
        go_wp2_with fail
        go_ret
        exact ⟨ret_int H2.out, rfl⟩
      · have H2 := hide h2
        clear h2
        go_wp2_with fail
        go_ret
        exact ⟨ret_int H2.out, rfl⟩

set_option maxRecDepth 100000 in
set_option maxHeartbeats 1000000 in
theorem rbit_xor_pos_pos (a b : Int) (w : World) (ha : -2147483648 ≤ a ∧ a ≤ 2147483647) (hb : -2147483648 ≤ b ∧ b ≤ 2147483647) (sa : 0 ≤ a) (sb : 0 ≤ b) :
    Calls Tryz.prog 93 #[.int .i64 17, .int .i64 a, .int .i64 b] w fun e w' => e = .returned (.int .i64 (bw .xor a b)) ∧ w' = w := by
  have UA := hide (show a = up a by unfold up; split <;> omega)
  have UB := hide (show b = up b by unfold up; split <;> omega)
  have RD := hide (fun k h => bit_round .xor ha hb k h)
  have EN := hide (outK_32 .xor ha hb)
  go_enter Tryz.func93, Tryz.ntmps93
  go_wp2_with fail
  go_loop [7, 8, 9, 10, 11] (fun x y o t i => ∃ (k : Nat) (X Y O T : Int), k ≤ 32 ∧ x = .int .i64 X ∧ y = .int .i64 Y ∧ o = .int .i64 O ∧ t = .int .i64 T ∧ i = .int .i64 k ∧ X = up a / 2 ^ k ∧ Y = up b / 2 ^ k ∧ O = outK .xor a b k ∧ T = 2 ^ k) (fun _ _ _ _ i => 32 - (intOf i).toNat)
  case atStart => exact ⟨0, _, _, _, _, by omega, rfl, rfl, rfl, rfl, rfl, by simpa using UA.out, by simpa using UB.out, (outK_0 _ _ _).symm, rfl⟩
  case round =>
    obtain ⟨k, X, Y, O, T, hk, rfl, rfl, rfl, rfl, rfl, hX, hY, hO, hT⟩ := hrel
    by_cases hlt : k < 32
    · obtain ⟨x, y, t, p, q, m, E, e1, e2, e3, e4, e5, e6, e7, e8, e9, e10, e11, b1, b2, b3, b4, b5, b6, b7, b8⟩ := RD.out k hlt
      obtain rfl : X = x := by rw [hX, e1]
      obtain rfl : Y = y := by rw [hY, e2]
      obtain rfl : T = t := by rw [hT, e3]
      rw [← hO] at e8 b8
      have e7' : (p + q) % 2 * T = E := by rw [← e7]; rfl
      have E8 := hide e8
      have E9 := hide e9
      have E10 := hide e10
      have E11 := hide e11
      clear e1 e2 e3 e7 e8 e9 e10 e11 hX hY hO hT sa sb UA UB RD EN
      go_wp2_with fail
      go_round
      case rel => exact ⟨k + 1, _, _, _, _, by omega, rfl, rfl, rfl, rfl, by go_num, E9.out, E10.out, E8.out.symm, E11.out⟩
      case measure => simp [intOf]; omega
    · obtain rfl : k = 32 := by omega
      have hN := EN.out
      rw [← hO] at hN
      have b0 := hide (outK_bd .xor ha hb 32)
      have b1 : 0 ≤ O ∧ O < 4294967296 := by have := b0.out; rw [← hO] at this; omega
      clear hX hY hO hT UA UB RD EN b0 sa sb
      rcases hN with ⟨h1, h2⟩ | ⟨h1, h2⟩
      · have H2 := hide h2
        clear h2
        go_wp2_with fail
        go_ret
        exact ⟨ret_int H2.out, rfl⟩
      · have H2 := hide h2
        clear h2
        go_wp2_with fail
        go_ret
        exact ⟨ret_int H2.out, rfl⟩

theorem rbitwise_any (o : Bop) (op a b : Int) (w : World) (ho : op = match o with | none => 15 | some false => 16 | some true => 17) (ha : -2147483648 ≤ a ∧ a ≤ 2147483647) (hb : -2147483648 ≤ b ∧ b ≤ 2147483647) :
    Calls Tryz.prog 93 #[.int .i64 op, .int .i64 a, .int .i64 b] w fun e w' => e = .returned (.int .i64 (bw o a b)) ∧ w' = w := by
  subst ho
  rcases (show a < 0 ∨ 0 ≤ a by omega) with sa | sa <;> rcases (show b < 0 ∨ 0 ≤ b by omega) with sb | sb <;> rcases o with _ | _ | _
  · exact rbit_and_neg_neg a b w ha hb sa sb
  · exact rbit_or_neg_neg a b w ha hb sa sb
  · exact rbit_xor_neg_neg a b w ha hb sa sb
  · exact rbit_and_neg_pos a b w ha hb sa sb
  · exact rbit_or_neg_pos a b w ha hb sa sb
  · exact rbit_xor_neg_pos a b w ha hb sa sb
  · exact rbit_and_pos_neg a b w ha hb sa sb
  · exact rbit_or_pos_neg a b w ha hb sa sb
  · exact rbit_xor_pos_neg a b w ha hb sa sb
  · exact rbit_and_pos_pos a b w ha hb sa sb
  · exact rbit_or_pos_pos a b w ha hb sa sb
  · exact rbit_xor_pos_pos a b w ha hb sa sb

end Go.Proofs.YtbingoelpeoimaaGreat.Spn

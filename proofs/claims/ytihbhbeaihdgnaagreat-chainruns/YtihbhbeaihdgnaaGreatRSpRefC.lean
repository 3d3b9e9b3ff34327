/-
  The walk of the document's own bitwise.
-/
import Derived.Test.YtihbhbeaihdgnaaGreatRGN
namespace Go.Proofs.YtihbhbeaihdgnaaGreat.Spn
open Go.RowKit Go.IntWalk
set_option linter.unusedVariables false

set_option maxRecDepth 100000 in
set_option maxHeartbeats 1000000 in
theorem rbit_and_neg_neg (a b : Int) (w : World) (ha : -2147483648 ≤ a ∧ a ≤ 2147483647) (hb : -2147483648 ≤ b ∧ b ≤ 2147483647) (sa : a < 0) (sb : b < 0) :
    Calls Tryz.prog 173 #[.int .i64 15, .int .i64 a, .int .i64 b] w fun e w' => e = .returned (.int .i64 (bw .and a b)) ∧ w' = w := by
  have UA := hide (show a + 4294967296 = up a by unfold up; split <;> omega)
  have UB := hide (show b + 4294967296 = up b by unfold up; split <;> omega)
  have RD := hide (fun k h => bit_round .and ha hb k h)
  have EN := hide (outK_32 .and ha hb)
  go_enter Tryz.func173, Tryz.ntmps173
  go_wp2_with fail
  go_loop [7, 8, 9, 10, 11] (fun x y o t i => ∃ (k : Nat) (X Y O T : Int), k ≤ 32 ∧ x = .int .i64 X ∧ y = .int .i64 Y ∧ o = .int .i64 O ∧ t = .int .i64 T ∧ i = .int .i64 k ∧ X = up a / 2 ^ k ∧ Y = up b / 2 ^ k ∧ O = outK .and a b k ∧ T = 2 ^ k) (fun _ _ _ _ i => 32 - (intOf i).toNat)
  case atStart => exact ⟨0, _, _, _, _, by omega, rfl, rfl, rfl, rfl, rfl, by simpa using UA.out, by simpa using UB.out, (outK_0 _ _ _).symm, rfl⟩
  case round =>
    obtain ⟨k, X, Y, O, T, hk, rfl, rfl, rfl, rfl, rfl, hX, hY, hO, hT⟩ := hrel
    by_cases hlt : k < 32
    · obtain ⟨x, y, t, p, q, m, E, e1, e2, e3, e4, e5, e6, e7, e8, e9, e10, e11, b1, b2, b3, b4, b5, b6, b7, b8⟩ := RD.out k hlt
      obtain rfl : X = x := by rw [hX, e1]
      obtain rfl : Y = y := by rw [hY, e2]
      obtain rfl : T = t := by rw [hT, e3]
      rw [← hO] at e8 b8
      have e7' : m * T = E := by rw [← e7, ← e6]; rfl
      have E8 := hide e8
      have E9 := hide e9
      have E10 := hide e10
      have E11 := hide e11
      clear e1 e2 e3 e7 e8 e9 e10 e11 hX hY hO hT sa sb UA UB RD EN
      go_wp2_with fail
      go_round
      case rel => exact ⟨k + 1, _, _, _, _, by omega, rfl, rfl, rfl, rfl, by go_num, E9.out, E10.out, E8.out.symm, E11.out⟩
      case measure => simp [intOf]; omega
    · obtain rfl : k = 32 := by omega
      have hN := EN.out
      rw [← hO] at hN
      have b0 := hide (outK_bd .and ha hb 32)
      have b1 : 0 ≤ O ∧ O < 4294967296 := by have := b0.out; rw [← hO] at this; omega
      clear hX hY hO hT UA UB RD EN b0 sa sb
      rcases hN with ⟨h1, h2⟩ | ⟨h1, h2⟩
      · have H2 := hide h2
        clear h2
        go_wp2_with fail
        go_ret
        exact ⟨ret_int H2.out, rfl⟩
      · have H2 := hide h2
        clear h2
        go_wp2_with fail
        go_ret
        exact ⟨ret_int H2.out, rfl⟩

set_option maxRecDepth 100000 in
set_option maxHeartbeats 1000000 in
theorem rbit_and_neg_pos (a b : Int) (w : World) (ha : -2147483648 ≤ a ∧ a ≤ 2147483647) (hb : -2147483648 ≤ b ∧ b ≤ 2147483647) (sa : a < 0) (sb : 0 ≤ b) :
    Calls Tryz.prog 173 #[.int .i64 15, .int .i64 a, .int .i64 b] w fun e w' => e = .returned (.int .i64 (bw .and a b)) ∧ w' = w := by
  have UA := hide (show a + 4294967296 = up a by unfold up; split <;> omega)
  have UB := hide (show b = up b by unfold up; split <;> omega)
  have RD := hide (fun k h => bit_round .and ha hb k h)
  have EN := hide (outK_32 .and ha hb)
  go_enter Tryz.func173, Tryz.ntmps173
  go_wp2_with fail
  go_loop [7, 8, 9, 10, 11] (fun x y o t i => ∃ (k : Nat) (X Y O T : Int), k ≤ 32 ∧ x = .int .i64 X ∧ y = .int .i64 Y ∧ o = .int .i64 O ∧ t = .int .i64 T ∧ i = .int .i64 k ∧ X = up a / 2 ^ k ∧ Y = up b / 2 ^ k ∧ O = outK .and a b k ∧ T = 2 ^ k) (fun _ _ _ _ i => 32 - (intOf i).toNat)
  case atStart => exact ⟨0, _, _, _, _, by omega, rfl, rfl, rfl, rfl, rfl, by simpa using UA.out, by simpa using UB.out, (outK_0 _ _ _).symm, rfl⟩
  case round =>
    obtain ⟨k, X, Y, O, T, hk, rfl, rfl, rfl, rfl, rfl, hX, hY, hO, hT⟩ := hrel
    by_cases hlt : k < 32
    · obtain ⟨x, y, t, p, q, m, E, e1, e2, e3, e4, e5, e6, e7, e8, e9, e10, e11, b1, b2, b3, b4, b5, b6, b7, b8⟩ := RD.out k hlt
      obtain rfl : X = x := by rw [hX, e1]
      obtain rfl : Y = y := by rw [hY, e2]
      obtain rfl : T = t := by rw [hT, e3]
      rw [← hO] at e8 b8
      have e7' : m * T = E := by rw [← e7, ← e6]; rfl
      have E8 := hide e8
      have E9 := hide e9
      have E10 := hide e10
      have E11 := hide e11
      clear e1 e2 e3 e7 e8 e9 e10 e11 hX hY hO hT sa sb UA UB RD EN
      go_wp2_with fail
      go_round
      case rel => exact ⟨k + 1, _, _, _, _, by omega, rfl, rfl, rfl, rfl, by go_num, E9.out, E10.out, E8.out.symm, E11.out⟩
      case measure => simp [intOf]; omega
    · obtain rfl : k = 32 := by omega
      have hN := EN.out
      rw [← hO] at hN
      have b0 := hide (outK_bd .and ha hb 32)
      have b1 : 0 ≤ O ∧ O < 4294967296 := by have := b0.out; rw [← hO] at this; omega
      clear hX hY hO hT UA UB RD EN b0 sa sb
      rcases hN with ⟨h1, h2⟩ | ⟨h1, h2⟩
      · have H2 := hide h2
        clear h2
        go_wp2_with fail
        go_ret
        exact ⟨ret_int H2.out, rfl⟩
      · have H2 := hide h2
        clear h2
        go_wp2_with fail
        go_ret
        exact ⟨ret_int H2.out, rfl⟩

set_option maxRecDepth 100000 in
set_option maxHeartbeats 1000000 in
theorem rbit_and_pos_neg (a b : Int) (w : World) (ha : -2147483648 ≤ a ∧ a ≤ 2147483647) (hb : -2147483648 ≤ b ∧ b ≤ 2147483647) (sa : 0 ≤ a) (sb : b < 0) :
    Calls Tryz.prog 173 #[.int .i64 15, .int .i64 a, .int .i64 b] w fun e w' => e = .returned (.int .i64 (bw .and a b)) ∧ w' = w := by
  have UA := hide (show a = up a by unfold up; split <;> omega)
  have UB := hide (show b + 4294967296 = up b by unfold up; split <;> omega)
  have RD := hide (fun k h => bit_round .and ha hb k h)
  have EN := hide (outK_32 .and ha hb)
  go_enter Tryz.func173, Tryz.ntmps173
  go_wp2_with fail
  go_loop [7, 8, 9, 10, 11] (fun x y o t i => ∃ (k : Nat) (X Y O T : Int), k ≤ 32 ∧ x = .int .i64 X ∧ y = .int .i64 Y ∧ o = .int .i64 O ∧ t = .int .i64 T ∧ i = .int .i64 k ∧ X = up a / 2 ^ k ∧ Y = up b / 2 ^ k ∧ O = outK .and a b k ∧ T = 2 ^ k) (fun _ _ _ _ i => 32 - (intOf i).toNat)
  case atStart => exact ⟨0, _, _, _, _, by omega, rfl, rfl, rfl, rfl, rfl, by simpa using UA.out, by simpa using UB.out, (outK_0 _ _ _).symm, rfl⟩
  case round =>
    obtain ⟨k, X, Y, O, T, hk, rfl, rfl, rfl, rfl, rfl, hX, hY, hO, hT⟩ := hrel
    by_cases hlt : k < 32
    · obtain ⟨x, y, t, p, q, m, E, e1, e2, e3, e4, e5, e6, e7, e8, e9, e10, e11, b1, b2, b3, b4, b5, b6, b7, b8⟩ := RD.out k hlt
      obtain rfl : X = x := by rw [hX, e1]
      obtain rfl : Y = y := by rw [hY, e2]
      obtain rfl : T = t := by rw [hT, e3]
      rw [← hO] at e8 b8
      have e7' : m * T = E := by rw [← e7, ← e6]; rfl
      have E8 := hide e8
      have E9 := hide e9
      have E10 := hide e10
      have E11 := hide e11
      clear e1 e2 e3 e7 e8 e9 e10 e11 hX hY hO hT sa sb UA UB RD EN
      go_wp2_with fail
      go_round
      case rel => exact ⟨k + 1, _, _, _, _, by omega, rfl, rfl, rfl, rfl, by go_num, E9.out, E10.out, E8.out.symm, E11.out⟩
      case measure => simp [intOf]; omega
    · obtain rfl : k = 32 := by omega
      have hN := EN.out
      rw [← hO] at hN
      have b0 := hide (outK_bd .and ha hb 32)
      have b1 : 0 ≤ O ∧ O < 4294967296 := by have := b0.out; rw [← hO] at this; omega
      clear hX hY hO hT UA UB RD EN b0 sa sb
      rcases hN with ⟨h1, h2⟩ | ⟨h1, h2⟩
      · have H2 := hide h2
        clear h2
        go_wp2_with fail
        go_ret
        exact ⟨ret_int H2.out, rfl⟩
      · have H2 := hide h2
        clear h2
        go_wp2_with fail
        go_ret
        exact ⟨ret_int H2.out, rfl⟩

set_option maxRecDepth 100000 in
set_option maxHeartbeats 1000000 in
theorem rbit_and_pos_pos (a b : Int) (w : World) (ha : -2147483648 ≤ a ∧ a ≤ 2147483647) (hb : -2147483648 ≤ b ∧ b ≤ 2147483647) (sa : 0 ≤ a) (sb : 0 ≤ b) :
    Calls Tryz.prog 173 #[.int .i64 15, .int .i64 a, .int .i64 b] w fun e w' => e = .returned (.int .i64 (bw .and a b)) ∧ w' = w := by
  have UA := hide (show a = up a by unfold up; split <;> omega)
  have UB := hide (show b = up b by unfold up; split <;> omega)
  have RD := hide (fun k h => bit_round .and ha hb k h)
  have EN := hide (outK_32 .and ha hb)
  go_enter Tryz.func173, Tryz.ntmps173
  go_wp2_with fail
  go_loop [7, 8, 9, 10, 11] (fun x y o t i => ∃ (k : Nat) (X Y O T : Int), k ≤ 32 ∧ x = .int .i64 X ∧ y = .int .i64 Y ∧ o = .int .i64 O ∧ t = .int .i64 T ∧ i = .int .i64 k ∧ X = up a / 2 ^ k ∧ Y = up b / 2 ^ k ∧ O = outK .and a b k ∧ T = 2 ^ k) (fun _ _ _ _ i => 32 - (intOf i).toNat)
  case atStart => exact ⟨0, _, _, _, _, by omega, rfl, rfl, rfl, rfl, rfl, by simpa using UA.out, by simpa using UB.out, (outK_0 _ _ _).symm, rfl⟩
  case round =>
    obtain ⟨k, X, Y, O, T, hk, rfl, rfl, rfl, rfl, rfl, hX, hY, hO, hT⟩ := hrel
    by_cases hlt : k < 32
    · obtain ⟨x, y, t, p, q, m, E, e1, e2, e3, e4, e5, e6, e7, e8, e9, e10, e11, b1, b2, b3, b4, b5, b6, b7, b8⟩ := RD.out k hlt
      obtain rfl : X = x := by rw [hX, e1]
      obtain rfl : Y = y := by rw [hY, e2]
      obtain rfl : T = t := by rw [hT, e3]
      rw [← hO] at e8 b8
      have e7' : m * T = E := by rw [← e7, ← e6]; rfl
      have E8 := hide e8
      have E9 := hide e9
      have E10 := hide e10
      have E11 := hide e11
      clear e1 e2 e3 e7 e8 e9 e10 e11 hX hY hO hT sa sb UA UB RD EN
      go_wp2_with fail
      go_round
      case rel => exact ⟨k + 1, _, _, _, _, by omega, rfl, rfl, rfl, rfl, by go_num, E9.out, E10.out, E8.out.symm, E11.out⟩
      case measure => simp [intOf]; omega
    · obtain rfl : k = 32 := by omega
      have hN := EN.out
      rw [← hO] at hN
      have b0 := hide (outK_bd .and ha hb 32)
      have b1 : 0 ≤ O ∧ O < 4294967296 := by have := b0.out; rw [← hO] at this; omega
      clear hX hY hO hT UA UB RD EN b0 sa sb
      rcases hN with ⟨h1, h2⟩ | ⟨h1, h2⟩
      · have H2 := hide h2
        clear h2
        go_wp2_with fail
        go_ret
        exact ⟨ret_int H2.out, rfl⟩
      · have H2 := hide h2
        clear h2
        go_wp2_with fail
        go_ret
        exact ⟨ret_int H2.out, rfl⟩

set_option maxRecDepth 100000 in
set_option maxHeartbeats 1000000 in
theorem rbit_or_neg_neg (a b : Int) (w : World) (ha : -2147483648 ≤ a ∧ a ≤ 2147483647) (hb : -2147483648 ≤ b ∧ b ≤ 2147483647) (sa : a < 0) (sb : b < 0) :
    Calls Tryz.prog 173 #[.int .i64 16, .int .i64 a, .int .i64 b] w fun e w' => e = .returned (.int .i64 (bw .or a b)) ∧ w' = w := by
  have UA := hide (show a + 4294967296 = up a by unfold up; split <;> omega)
  have UB := hide (show b + 4294967296 = up b by unfold up; split <;> omega)
  have RD := hide (fun k h => bit_round .or ha hb k h)
  have EN := hide (outK_32 .or ha hb)
  go_enter Tryz.func173, Tryz.ntmps173
  go_wp2_with fail
  go_loop [7, 8, 9, 10, 11] (fun x y o t i => ∃ (k : Nat) (X Y O T : Int), k ≤ 32 ∧ x = .int .i64 X ∧ y = .int .i64 Y ∧ o = .int .i64 O ∧ t = .int .i64 T ∧ i = .int .i64 k ∧ X = up a / 2 ^ k ∧ Y = up b / 2 ^ k ∧ O = outK .or a b k ∧ T = 2 ^ k) (fun _ _ _ _ i => 32 - (intOf i).toNat)
  case atStart => exact ⟨0, _, _, _, _, by omega, rfl, rfl, rfl, rfl, rfl, by simpa using UA.out, by simpa using UB.out, (outK_0 _ _ _).symm, rfl⟩
  case round =>
    obtain ⟨k, X, Y, O, T, hk, rfl, rfl, rfl, rfl, rfl, hX, hY, hO, hT⟩ := hrel
    by_cases hlt : k < 32
    · obtain ⟨x, y, t, p, q, m, E, e1, e2, e3, e4, e5, e6, e7, e8, e9, e10, e11, b1, b2, b3, b4, b5, b6, b7, b8⟩ := RD.out k hlt
      obtain rfl : X = x := by rw [hX, e1]
      obtain rfl : Y = y := by rw [hY, e2]
      obtain rfl : T = t := by rw [hT, e3]
      rw [← hO] at e8 b8
      have e7' : (p + q - m) * T = E := by rw [← e7, ← e6]; rfl
      have E8 := hide e8
      have E9 := hide e9
      have E10 := hide e10
      have E11 := hide e11
      clear e1 e2 e3 e7 e8 e9 e10 e11 hX hY hO hT sa sb UA UB RD EN
      go_wp2_with fail
      go_round
      case rel => exact ⟨k + 1, _, _, _, _, by omega, rfl, rfl, rfl, rfl, by go_num, E9.out, E10.out, E8.out.symm, E11.out⟩
      case measure => simp [intOf]; omega
    · obtain rfl : k = 32 := by omega
      have hN := EN.out
      rw [← hO] at hN
      have b0 := hide (outK_bd .or ha hb 32)
      have b1 : 0 ≤ O ∧ O < 4294967296 := by have := b0.out; rw [← hO] at this; omega
      clear hX hY hO hT UA UB RD EN b0 sa sb
      rcases hN with ⟨h1, h2⟩ | ⟨h1, h2⟩
      · have H2 := hide h2
        clear h2
        go_wp2_with fail
        go_ret
        exact ⟨ret_int H2.out, rfl⟩
      · have H2 := hide h2
        clear h2
        go_wp2_with fail
        go_ret
        exact ⟨ret_int H2.out, rfl⟩

set_option maxRecDepth 100000 in
set_option maxHeartbeats 1000000 in
theorem rbit_or_neg_pos (a b : Int) (w : World) (ha : -2147483648 ≤ a ∧ a ≤ 2147483647) (hb : -2147483648 ≤ b ∧ b ≤ 2147483647) (sa : a < 0) (sb : 0 ≤ b) :
    Calls Tryz.prog 173 #[.int .i64 16, .int .i64 a, .int .i64 b] w fun e w' => e = .returned (.int .i64 (bw .or a b)) ∧ w' = w := by
  have UA := hide (show a + 4294967296 = up a by unfold up; split <;> omega)
  have UB := hide (show b = up b by unfold up; split <;> omega)
  have RD := hide (fun k h => bit_round .or ha hb k h)
  have EN := hide (outK_32 .or ha hb)
  go_enter Tryz.func173, Tryz.ntmps173
  go_wp2_with fail
  go_loop [7, 8, 9, 10, 11] (fun x y o t i => ∃ (k : Nat) (X Y O T : Int), k ≤ 32 ∧ x = .int .i64 X ∧ y = .int .i64 Y ∧ o = .int .i64 O ∧ t = .int .i64 T ∧ i = .int .i64 k ∧ X = up a / 2 ^ k ∧ Y = up b / 2 ^ k ∧ O = outK .or a b k ∧ T = 2 ^ k) (fun _ _ _ _ i => 32 - (intOf i).toNat)
  case atStart => exact ⟨0, _, _, _, _, by omega, rfl, rfl, rfl, rfl, rfl, by simpa using UA.out, by simpa using UB.out, (outK_0 _ _ _).symm, rfl⟩
  case round =>
    obtain ⟨k, X, Y, O, T, hk, rfl, rfl, rfl, rfl, rfl, hX, hY, hO, hT⟩ := hrel
    by_cases hlt : k < 32
    · obtain ⟨x, y, t, p, q, m, E, e1, e2, e3, e4, e5, e6, e7, e8, e9, e10, e11, b1, b2, b3, b4, b5, b6, b7, b8⟩ := RD.out k hlt
      obtain rfl : X = x := by rw [hX, e1]
      obtain rfl : Y = y := by rw [hY, e2]
      obtain rfl : T = t := by rw [hT, e3]
      rw [← hO] at e8 b8
      have e7' : (p + q - m) * T = E := by rw [← e7, ← e6]; rfl
      have E8 := hide e8
      have E9 := hide e9
      have E10 := hide e10
      have E11 := hide e11
      clear e1 e2 e3 e7 e8 e9 e10 e11 hX hY hO hT sa sb UA UB RD EN
      go_wp2_with fail
      go_round
      case rel => exact ⟨k + 1, _, _, _, _, by omega, rfl, rfl, rfl, rfl, by go_num, E9.out, E10.out, E8.out.symm, E11.out⟩
      case measure => simp [intOf]; omega
    · obtain rfl : k = 32 := by omega
      have hN := EN.out
      rw [← hO] at hN
      have b0 := hide (outK_bd .or ha hb 32)
      have b1 : 0 ≤ O ∧ O < 4294967296 := by have := b0.out; rw [← hO] at this; omega
      clear hX hY hO hT UA UB RD EN b0 sa sb
      rcases hN with ⟨h1, h2⟩ | ⟨h1, h2⟩
      · have H2 := hide h2
        clear h2
        go_wp2_with fail
        go_ret
        exact ⟨ret_int H2.out, rfl⟩
      · have H2 := hide h2
        clear h2
        go_wp2_with fail
        go_ret
        exact ⟨ret_int H2.out, rfl⟩

set_option maxRecDepth 100000 in
set_option maxHeartbeats 1000000 in
theorem rbit_or_pos_neg (a b : Int) (w : World) (ha : -2147483648 ≤ a ∧ a ≤ 2147483647) (hb : -2147483648 ≤ b ∧ b ≤ 2147483647) (sa : 0 ≤ a) (sb : b < 0) :
    Calls Tryz.prog 173 #[.int .i64 16, .int .i64 a, .int .i64 b] w fun e w' => e = .returned (.int .i64 (bw .or a b)) ∧ w' = w := by
  have UA := hide (show a = up a by unfold up; split <;> omega)
  have UB := hide (show b + 4294967296 = up b by unfold up; split <;> omega)
  have RD := hide (fun k h => bit_round .or ha hb k h)
  have EN := hide (outK_32 .or ha hb)
  go_enter Tryz.func173, Tryz.ntmps173
  go_wp2_with fail
  go_loop [7, 8, 9, 10, 11] (fun x y o t i => ∃ (k : Nat) (X Y O T : Int), k ≤ 32 ∧ x = .int .i64 X ∧ y = .int .i64 Y ∧ o = .int .i64 O ∧ t = .int .i64 T ∧ i = .int .i64 k ∧ X = up a / 2 ^ k ∧ Y = up b / 2 ^ k ∧ O = outK .or a b k ∧ T = 2 ^ k) (fun _ _ _ _ i => 32 - (intOf i).toNat)
  case atStart => exact ⟨0, _, _, _, _, by omega, rfl, rfl, rfl, rfl, rfl, by simpa using UA.out, by simpa using UB.out, (outK_0 _ _ _).symm, rfl⟩
  case round =>
    obtain ⟨k, X, Y, O, T, hk, rfl, rfl, rfl, rfl, rfl, hX, hY, hO, hT⟩ := hrel
    by_cases hlt : k < 32
    · obtain ⟨x, y, t, p, q, m, E, e1, e2, e3, e4, e5, e6, e7, e8, e9, e10, e11, b1, b2, b3, b4, b5, b6, b7, b8⟩ := RD.out k hlt
      obtain rfl : X = x := by rw [hX, e1]
      obtain rfl : Y = y := by rw [hY, e2]
      obtain rfl : T = t := by rw [hT, e3]
      rw [← hO] at e8 b8
      have e7' : (p + q - m) * T = E := by rw [← e7, ← e6]; rfl
      have E8 := hide e8
      have E9 := hide e9
      have E10 := hide e10
      have E11 := hide e11
      clear e1 e2 e3 e7 e8 e9 e10 e11 hX hY hO hT sa sb UA UB RD EN
      go_wp2_with fail
      go_round
      case rel => exact ⟨k + 1, _, _, _, _, by omega, rfl, rfl, rfl, rfl, by go_num, E9.out, E10.out, E8.out.symm, E11.out⟩
      case measure => simp [intOf]; omega
    · obtain rfl : k = 32 := by omega
      have hN := EN.out
      rw [← hO] at hN
      have b0 := hide (outK_bd .or ha hb 32)
      have b1 : 0 ≤ O ∧ O < 4294967296 := by have := b0.out; rw [← hO] at this; omega
      clear hX hY hO hT UA UB RD EN b0 sa sb
      rcases hN with ⟨h1, h2⟩ | ⟨h1, h2⟩
      · have H2 := hide h2
        clear h2
        go_wp2_with fail
        go_ret
        exact ⟨ret_int H2.out, rfl⟩
      · have H2 := hide h2
        clear h2
        go_wp2_with fail
        go_ret
        exact ⟨ret_int H2.out, rfl⟩

set_option maxRecDepth 100000 in
set_option maxHeartbeats 1000000 in
theorem rbit_or_pos_pos (a b : Int) (w : World) (ha : -2147483648 ≤ a ∧ a ≤ 2147483647) (hb : -2147483648 ≤ b ∧ b ≤ 2147483647) (sa : 0 ≤ a) (sb : 0 ≤ b) :
    Calls Tryz.prog 173 #[.int .i64 16, .int .i64 a, .int .i64 b] w fun e w' => e = .returned (.int .i64 (bw .or a b)) ∧ w' = w := by
  have UA := hide (show a = up a by unfold up; split <;> omega)
  have UB := hide (show b = up b by unfold up; split <;> omega)
  have RD := hide (fun k h => bit_round .or ha hb k h)
  have EN := hide (outK_32 .or ha hb)
  go_enter Tryz.func173, Tryz.ntmps173
  go_wp2_with fail
  go_loop [7, 8, 9, 10, 11] (fun x y o t i => ∃ (k : Nat) (X Y O T : Int), k ≤ 32 ∧ x = .int .i64 X ∧ y = .int .i64 Y ∧ o = .int .i64 O ∧ t = .int .i64 T ∧ i = .int .i64 k ∧ X = up a / 2 ^ k ∧ Y = up b / 2 ^ k ∧ O = outK .or a b k ∧ T = 2 ^ k) (fun _ _ _ _ i => 32 - (intOf i).toNat)
  case atStart => exact ⟨0, _, _, _, _, by omega, rfl, rfl, rfl, rfl, rfl, by simpa using UA.out, by simpa using UB.out, (outK_0 _ _ _).symm, rfl⟩
  case round =>
    obtain ⟨k, X, Y, O, T, hk, rfl, rfl, rfl, rfl, rfl, hX, hY, hO, hT⟩ := hrel
    by_cases hlt : k < 32
    · obtain ⟨x, y, t, p, q, m, E, e1, e2, e3, e4, e5, e6, e7, e8, e9, e10, e11, b1, b2, b3, b4, b5, b6, b7, b8⟩ := RD.out k hlt
      obtain rfl : X = x := by rw [hX, e1]
      obtain rfl : Y = y := by rw [hY, e2]
      obtain rfl : T = t := by rw [hT, e3]
      rw [← hO] at e8 b8
      have e7' : (p + q - m) * T = E := by rw [← e7, ← e6]; rfl
      have E8 := hide e8
      have E9 := hide e9
      have E10 := hide e10
      have E11 := hide e11
      clear e1 e2 e3 e7 e8 e9 e10 e11 hX hY hO hT sa sb UA UB RD EN
      go_wp2_with fail
      go_round
      case rel => exact ⟨k + 1, _, _, _, _, by omega, rfl, rfl, rfl, rfl, by go_num, E9.out, E10.out, E8.out.symm, E11.out⟩
      case measure => simp [intOf]; omega
    · obtain rfl : k = 32 := by omega
      have hN := EN.out
      rw [← hO] at hN
      have b0 := hide (outK_bd .or ha hb 32)
      have b1 : 0 ≤ O ∧ O < 4294967296 := by have := b0.out; rw [← hO] at this; omega
      clear hX hY hO hT UA UB RD EN b0 sa sb
      rcases hN with ⟨h1, h2⟩ | ⟨h1, h2⟩
      · have H2 := hide h2
        clear h2
        go_wp2_with fail
        go_ret
        exact ⟨ret_int H2.out, rfl⟩
      · have H2 := hide h2
        clear h2
        go_wp2_with fail
        go_ret
        exact ⟨ret_int H2.out, rfl⟩

set_option maxRecDepth 100000 in
set_option maxHeartbeats 1000000 in
theorem rbit_xor_neg_neg (a b : Int) (w : World) (ha : -2147483648 ≤ a ∧ a ≤ 2147483647) (hb : -2147483648 ≤ b ∧ b ≤ 2147483647) (sa : a < 0) (sb : b < 0) :
    Calls Tryz.prog 173 #[.int .i64 17, .int .i64 a, .int .i64 b] w fun e w' => e = .returned (.int .i64 (bw .xor a b)) ∧ w' = w := by
  have UA := hide (show a + 4294967296 = up a by unfold up; split <;> omega)
  have UB := hide (show b + 4294967296 = up b by unfold up; split <;> omega)
  have RD := hide (fun k h => bit_round .xor ha hb k h)
  have EN := hide (outK_32 .xor ha hb)
  go_enter Tryz.func173, Tryz.ntmps173
  go_wp2_with fail
  go_loop [7, 8, 9, 10, 11] (fun x y o t i => ∃ (k : Nat) (X Y O T : Int), k ≤ 32 ∧ x = .int .i64 X ∧ y = .int .i64 Y ∧ o = .int .i64 O ∧ t = .int .i64 T ∧ i = .int .i64 k ∧ X = up a / 2 ^ k ∧ Y = up b / 2 ^ k ∧ O = outK .xor a b k ∧ T = 2 ^ k) (fun _ _ _ _ i => 32 - (intOf i).toNat)
  case atStart => exact ⟨0, _, _, _, _, by omega, rfl, rfl, rfl, rfl, rfl, by simpa using UA.out, by simpa using UB.out, (outK_0 _ _ _).symm, rfl⟩
  case round =>
    obtain ⟨k, X, Y, O, T, hk, rfl, rfl, rfl, rfl, rfl, hX, hY, hO, hT⟩ := hrel
    by_cases hlt : k < 32
    · obtain ⟨x, y, t, p, q, m, E, e1, e2, e3, e4, e5, e6, e7, e8, e9, e10, e11, b1, b2, b3, b4, b5, b6, b7, b8⟩ := RD.out k hlt
      obtain rfl : X = x := by rw [hX, e1]
      obtain rfl : Y = y := by rw [hY, e2]
      obtain rfl : T = t := by rw [hT, e3]
      rw [← hO] at e8 b8
      have e7' : (p + q) % 2 * T = E := by rw [← e7]; rfl
      have E8 := hide e8
      have E9 := hide e9
      have E10 := hide e10
      have E11 := hide e11
      clear e1 e2 e3 e7 e8 e9 e10 e11 hX hY hO hT sa sb UA UB RD EN
      go_wp2_with fail
      go_round
      case rel => exact ⟨k + 1, _, _, _, _, by omega, rfl, rfl, rfl, rfl, by go_num, E9.out, E10.out, E8.out.symm, E11.out⟩
      case measure => simp [intOf]; omega
    · obtain rfl : k = 32 := by omega
      have hN := EN.out
      rw [← hO] at hN
      have b0 := hide (outK_bd .xor ha hb 32)
      have b1 : 0 ≤ O ∧ O < 4294967296 := by have := b0.out; rw [← hO] at this; omega
      clear hX hY hO hT UA UB RD EN b0 sa sb
      rcases hN with ⟨h1, h2⟩ | ⟨h1, h2⟩
      · have H2 := hide h2
        clear h2
        go_wp2_with fail
        go_ret
        exact ⟨ret_int H2.out, rfl⟩
      · have H2 := hide h2
        clear h2
        go_wp2_with fail
        go_ret
        exact ⟨ret_int H2.out, rfl⟩

set_option maxRecDepth 100000 in
set_option maxHeartbeats 1000000 in
theorem rbit_xor_neg_pos (a b : Int) (w : World) (ha : -2147483648 ≤ a ∧ a ≤ 2147483647) (hb : -2147483648 ≤ b ∧ b ≤ 2147483647) (sa : a < 0) (sb : 0 ≤ b) :
    Calls Tryz.prog 173 #[.int .i64 17, .int .i64 a, .int .i64 b] w fun e w' => e = .returned (.int .i64 (bw .xor a b)) ∧ w' = w := by
  have UA := hide (show a + 4294967296 = up a by unfold up; split <;> omega)
  have UB := hide (show b = up b by unfold up; split <;> omega)
  have RD := hide (fun k h => bit_round .xor ha hb k h)
  have EN := hide (outK_32 .xor ha hb)
  go_enter Tryz.func173, Tryz.ntmps173
  go_wp2_with fail
  go_loop [7, 8, 9, 10, 11] (fun x y o t i => ∃ (k : Nat) (X Y O T : Int), k ≤ 32 ∧ x = .int .i64 X ∧ y = .int .i64 Y ∧ o = .int .i64 O ∧ t = .int .i64 T ∧ i = .int .i64 k ∧ X = up a / 2 ^ k ∧ Y = up b / 2 ^ k ∧ O = outK .xor a b k ∧ T = 2 ^ k) (fun _ _ _ _ i => 32 - (intOf i).toNat)
  case atStart => exact ⟨0, _, _, _, _, by omega, rfl, rfl, rfl, rfl, rfl, by simpa using UA.out, by simpa using UB.out, (outK_0 _ _ _).symm, rfl⟩
  case round =>
    obtain ⟨k, X, Y, O, T, hk, rfl, rfl, rfl, rfl, rfl, hX, hY, hO, hT⟩ := hrel
    by_cases hlt : k < 32
    · obtain ⟨x, y, t, p, q, m, E, e1, e2, e3, e4, e5, e6, e7, e8, e9, e10, e11, b1, b2, b3, b4, b5, b6, b7, b8⟩ := RD.out k hlt
      obtain rfl : X = x := by rw [hX, e1]
      obtain rfl : Y = y := by rw [hY, e2]
      obtain rfl : T = t := by rw [hT, e3]
      rw [← hO] at e8 b8
      have e7' : (p + q) % 2 * T = E := by rw [← e7]; rfl
      have E8 := hide e8
      have E9 := hide e9
      have E10 := hide e10
      have E11 := hide e11
      clear e1 e2 e3 e7 e8 e9 e10 e11 hX hY hO hT sa sb UA UB RD EN
      go_wp2_with fail
      go_round
      case rel => exact ⟨k + 1, _, _, _, _, by omega, rfl, rfl, rfl, rfl, by go_num, E9.out, E10.out, E8.out.symm, E11.out⟩
      case measure => simp [intOf]; omega
    · obtain rfl : k = 32 := by omega
      have hN := EN.out
      rw [← hO] at hN
      have b0 := hide (outK_bd .xor ha hb 32)
      have b1 : 0 ≤ O ∧ O < 4294967296 := by have := b0.out; rw [← hO] at this; omega
      clear hX hY hO hT UA UB RD EN b0 sa sb
      rcases hN with ⟨h1, h2⟩ | ⟨h1, h2⟩
      · have H2 := hide h2
        clear h2
        go_wp2_with fail
        go_ret
        exact ⟨ret_int H2.out, rfl⟩
      · have H2 := hide h2
        clear h2
        go_wp2_with fail
        go_ret
        exact ⟨ret_int H2.out, rfl⟩

set_option maxRecDepth 100000 in
set_option maxHeartbeats 1000000 in
theorem rbit_xor_pos_neg (a b : Int) (w : World) (ha : -2147483648 ≤ a ∧ a ≤ 2147483647) (hb : -2147483648 ≤ b ∧ b ≤ 2147483647) (sa : 0 ≤ a) (sb : b < 0) :
    Calls Tryz.prog 173 #[.int .i64 17, .int .i64 a, .int .i64 b] w fun e w' => e = .returned (.int .i64 (bw .xor a b)) ∧ w' = w := by
  have UA := hide (show a = up a by unfold up; split <;> omega)
  have UB := hide (show b + 4294967296 = up b by unfold up; split <;> omega)
  have RD := hide (fun k h => bit_round .xor ha hb k h)
  have EN := hide (outK_32 .xor ha hb)
  go_enter Tryz.func173, Tryz.ntmps173
  go_wp2_with fail
  go_loop [7, 8, 9, 10, 11] (fun x y o t i => ∃ (k : Nat) (X Y O T : Int), k ≤ 32 ∧ x = .int .i64 X ∧ y = .int .i64 Y ∧ o = .int .i64 O ∧ t = .int .i64 T ∧ i = .int .i64 k ∧ X = up a / 2 ^ k ∧ Y = up b / 2 ^ k ∧ O = outK .xor a b k ∧ T = 2 ^ k) (fun _ _ _ _ i => 32 - (intOf i).toNat)
  case atStart => exact ⟨0, _, _, _, _, by omega, rfl, rfl, rfl, rfl, rfl, by simpa using UA.out, by simpa using UB.out, (outK_0 _ _ _).symm, rfl⟩
  case round =>
    obtain ⟨k, X, Y, O, T, hk, rfl, rfl, rfl, rfl, rfl, hX, hY, hO, hT⟩ := hrel
    by_cases hlt : k < 32
    · obtain ⟨x, y, t, p, q, m, E, e1, e2, e3, e4, e5, e6, e7, e8, e9, e10, e11, b1, b2, b3, b4, b5, b6, b7, b8⟩ := RD.out k hlt
      obtain rfl : X = x := by rw [hX, e1]
      obtain rfl : Y = y := by rw [hY, e2]
      obtain rfl : T = t := by rw [hT, e3]
      rw [← hO] at e8 b8
      have e7' : (p + q) % 2 * T = E := by rw [← e7]; rfl
      have E8 := hide e8
      have E9 := hide e9
      have E10 := hide e10
      have E11 := hide e11
      clear e1 e2 e3 e7 e8 e9 e10 e11 hX hY hO hT sa sb UA UB RD EN
      go_wp2_with fail
      go_round
      case rel => exact ⟨k + 1, _, _, _, _, by omega, rfl, rfl, rfl, rfl, by go_num, E9.out, E10.out, E8.out.symm, E11.out⟩
      case measure => simp [intOf]; omega
    · obtain rfl : k = 32 := by omega
      have hN := EN.out
      rw [← hO] at hN
      have b0 := hide (outK_bd .xor ha hb 32)
      have b1 : 0 ≤ O ∧ O < 4294967296 := by have := b0.out; rw [← hO] at this; omega
      clear hX hY hO hT UA UB RD EN b0 sa sb
      rcases hN with ⟨h1, h2⟩ | ⟨h1, h2⟩
      · have H2 := hide h2
        clear h2
        go_wp2_with fail
        go_ret
        exact ⟨ret_int H2.out, rfl⟩
      · have H2 := hide h2
        clear h2
        go_wp2_with fail
        go_ret
        exact ⟨ret_int H2.out, rfl⟩

set_option maxRecDepth 100000 in
set_option maxHeartbeats 1000000 in
theorem rbit_xor_pos_pos (a b : Int) (w : World) (ha : -2147483648 ≤ a ∧ a ≤ 2147483647) (hb : -2147483648 ≤ b ∧ b ≤ 2147483647) (sa : 0 ≤ a) (sb : 0 ≤ b) :
    Calls Tryz.prog 173 #[.int .i64 17, .int .i64 a, .int .i64 b] w fun e w' => e = .returned (.int .i64 (bw .xor a b)) ∧ w' = w := by
  have UA := hide (show a = up a by unfold up; split <;> omega)
  have UB := hide (show b = up b by unfold up; split <;> omega)
  have RD := hide (fun k h => bit_round .xor ha hb k h)
  have EN := hide (outK_32 .xor ha hb)
  go_enter Tryz.func173, Tryz.ntmps173
  go_wp2_with fail
  go_loop [7, 8, 9, 10, 11] (fun x y o t i => ∃ (k : Nat) (X Y O T : Int), k ≤ 32 ∧ x = .int .i64 X ∧ y = .int .i64 Y ∧ o = .int .i64 O ∧ t = .int .i64 T ∧ i = .int .i64 k ∧ X = up a / 2 ^ k ∧ Y = up b / 2 ^ k ∧ O = outK .xor a b k ∧ T = 2 ^ k) (fun _ _ _ _ i => 32 - (intOf i).toNat)
  case atStart => exact ⟨0, _, _, _, _, by omega, rfl, rfl, rfl, rfl, rfl, by simpa using UA.out, by simpa using UB.out, (outK_0 _ _ _).symm, rfl⟩
  case round =>
    obtain ⟨k, X, Y, O, T, hk, rfl, rfl, rfl, rfl, rfl, hX, hY, hO, hT⟩ := hrel
    by_cases hlt : k < 32
    · obtain ⟨x, y, t, p, q, m, E, e1, e2, e3, e4, e5, e6, e7, e8, e9, e10, e11, b1, b2, b3, b4, b5, b6, b7, b8⟩ := RD.out k hlt
      obtain rfl : X = x := by rw [hX, e1]
      obtain rfl : Y = y := by rw [hY, e2]
      obtain rfl : T = t := by rw [hT, e3]
      rw [← hO] at e8 b8
      have e7' : (p + q) % 2 * T = E := by rw [← e7]; rfl
      have E8 := hide e8
      have E9 := hide e9
      have E10 := hide e10
      have E11 := hide e11
      clear e1 e2 e3 e7 e8 e9 e10 e11 hX hY hO hT sa sb UA UB RD EN
      go_wp2_with fail
      go_round
      case rel => exact ⟨k + 1, _, _, _, _, by omega, rfl, rfl, rfl, rfl, by go_num, E9.out, E10.out, E8.out.symm, E11.out⟩
      case measure => simp [intOf]; omega
    · obtain rfl : k = 32 := by omega
      have hN := EN.out
      rw [← hO] at hN
      have b0 := hide (outK_bd .xor ha hb 32)
      have b1 : 0 ≤ O ∧ O < 4294967296 := by have := b0.out; rw [← hO] at this; omega
      clear hX hY hO hT UA UB RD EN b0 sa sb
      rcases hN with ⟨h1, h2⟩ | ⟨h1, h2⟩
      · have H2 := hide h2
        clear h2
        go_wp2_with fail
        go_ret
        exact ⟨ret_int H2.out, rfl⟩
      · have H2 := hide h2
        clear h2
        go_wp2_with fail
        go_ret
        exact ⟨ret_int H2.out, rfl⟩

theorem rbitwise_any (o : Bop) (op a b : Int) (w : World) (ho : op = match o with | none => 15 | some false => 16 | some true => 17) (ha : -2147483648 ≤ a ∧ a ≤ 2147483647) (hb : -2147483648 ≤ b ∧ b ≤ 2147483647) :
    Calls Tryz.prog 173 #[.int .i64 op, .int .i64 a, .int .i64 b] w fun e w' => e = .returned (.int .i64 (bw o a b)) ∧ w' = w := by
  subst ho
  rcases (show a < 0 ∨ 0 ≤ a by omega) with sa | sa <;> rcases (show b < 0 ∨ 0 ≤ b by omega) with sb | sb <;> rcases o with _ | _ | _
  · exact rbit_and_neg_neg a b w ha hb sa sb
  · exact rbit_or_neg_neg a b w ha hb sa sb
  · exact rbit_xor_neg_neg a b w ha hb sa sb
  · exact rbit_and_neg_pos a b w ha hb sa sb
  · exact rbit_or_neg_pos a b w ha hb sa sb
  · exact rbit_xor_neg_pos a b w ha hb sa sb
  · exact rbit_and_pos_neg a b w ha hb sa sb
  · exact rbit_or_pos_neg a b w ha hb sa sb
  · exact rbit_xor_pos_neg a b w ha hb sa sb
  · exact rbit_and_pos_pos a b w ha hb sa sb
  · exact rbit_or_pos_pos a b w ha hb sa sb
  · exact rbit_xor_pos_pos a b w ha hb sa sb

end Go.Proofs.YtihbhbeaihdgnaaGreat.Spn

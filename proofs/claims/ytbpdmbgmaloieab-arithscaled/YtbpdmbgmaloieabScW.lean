/-
  The walk of ArithScaled.
-/
import Derived.Test.YtbpdmbgmaloieabOf
namespace Go.Proofs.Ytbpdmbgmaloieab
open Go.RowKit Go.IntWalk
set_option linter.unusedVariables false

set_option maxRecDepth 100000 in
set_option maxHeartbeats 4000000 in
theorem sc_zero (a s N : Int) (w : World) (ha : -2147483648 ≤ a ∧ a ≤ 2147483647) (hs : 0 ≤ s ∧ s ≤ 255) (hN : s % 63 = N) (hN0 : 0 ≤ N) (hN1 : N ≤ 62) (V1 : Hid (valZ 33 0 N [a] = (0, 1))) :
    Calls Try.prog 3 #[.int .i32 a, .int .u32 0, .int .u8 s] w fun e w' => e = .returned (.bool true) ∧ Below w.heap.size w w' := by
  go_enter Try.func3, Try.ntmps3
  go_wp2_with fail
  refine (vl1 V1.out _ _).mono ?_
  rintro e w1 ⟨rfl, hb1⟩
  have HB1 := hide hb1
  clear hb1
  go_wp2_with fail
  refine (awake_any _).mono ?_
  rintro e w2 ⟨rfl, hb2⟩
  have HB2 := hide (bel HB1.out hb2)
  clear hb2 HB1
  go_wp2_with fail
  refine (awake_any _).mono ?_
  rintro e w3 ⟨rfl, hb3⟩
  have HB3 := hide (bel HB2.out hb3)
  clear hb3 HB2
  go_wp2_with fail
  go_ret
  exact ⟨rfl, HB3.out⟩

set_option maxRecDepth 100000 in
set_option maxHeartbeats 4000000 in
theorem sc_hi0 (a m s N Q p y : Int) (w : World) (ha : -2147483648 ≤ a ∧ a ≤ 2147483647) (hm : 0 ≤ m ∧ m ≤ 4294967295) (hs : 0 ≤ s ∧ s ≤ 255) (hN : s % 63 = N) (hN0 : 0 ≤ N) (hN1 : N ≤ 62) (hQ : m / 4 = Q) (hp : a * Q = p) (bp : -4611686018427387904 ≤ p ∧ p ≤ 4611686018427387904) (hm0 : (m == 0) = false) (z : 576460752303423488 < p)
    (V1 : Hid (valZ 33 m N [a] = (y, 0))) :
    Calls Try.prog 3 #[.int .i32 a, .int .u32 m, .int .u8 s] w fun e w' => e = .returned (.bool true) ∧ Below w.heap.size w w' := by
  go_enter Try.func3, Try.ntmps3
  go_wp2_with fail
  refine (vl1 V1.out _ _).mono ?_
  rintro e w1 ⟨rfl, hb1⟩
  have HB1 := hide hb1
  clear hb1
  go_wp2_with fail
  refine (awake_any _).mono ?_
  rintro e w2 ⟨rfl, hb2⟩
  have HB2 := hide (bel HB1.out hb2)
  clear hb2 HB1
  go_wp2_with fail
  go_ret
  exact ⟨rfl, HB2.out⟩

set_option maxRecDepth 100000 in
set_option maxHeartbeats 4000000 in
theorem sc_hi13 (a m s N Q p  : Int) (w : World) (ha : -2147483648 ≤ a ∧ a ≤ 2147483647) (hm : 0 ≤ m ∧ m ≤ 4294967295) (hs : 0 ≤ s ∧ s ≤ 255) (hN : s % 63 = N) (hN0 : 0 ≤ N) (hN1 : N ≤ 62) (hQ : m / 4 = Q) (hp : a * Q = p) (bp : -4611686018427387904 ≤ p ∧ p ≤ 4611686018427387904) (hm0 : (m == 0) = false) (z : 576460752303423488 < p)
    (V1 : Hid (valZ 33 m N [a] = (0, 13))) :
    Calls Try.prog 3 #[.int .i32 a, .int .u32 m, .int .u8 s] w fun e w' => e = .returned (.bool true) ∧ Below w.heap.size w w' := by
  go_enter Try.func3, Try.ntmps3
  go_wp2_with fail
  refine (vl1 V1.out _ _).mono ?_
  rintro e w1 ⟨rfl, hb1⟩
  have HB1 := hide hb1
  clear hb1
  go_wp2_with fail
  refine (awake_any _).mono ?_
  rintro e w2 ⟨rfl, hb2⟩
  have HB2 := hide (bel HB1.out hb2)
  clear hb2 HB1
  go_wp2_with fail
  go_ret
  exact ⟨rfl, HB2.out⟩

set_option maxRecDepth 100000 in
set_option maxHeartbeats 4000000 in
theorem sc_lo0 (a m s N Q p y : Int) (w : World) (ha : -2147483648 ≤ a ∧ a ≤ 2147483647) (hm : 0 ≤ m ∧ m ≤ 4294967295) (hs : 0 ≤ s ∧ s ≤ 255) (hN : s % 63 = N) (hN0 : 0 ≤ N) (hN1 : N ≤ 62) (hQ : m / 4 = Q) (hp : a * Q = p) (bp : -4611686018427387904 ≤ p ∧ p ≤ 4611686018427387904) (hm0 : (m == 0) = false) (z : p < -576460752303423488)
    (V1 : Hid (valZ 33 m N [a] = (y, 0))) :
    Calls Try.prog 3 #[.int .i32 a, .int .u32 m, .int .u8 s] w fun e w' => e = .returned (.bool true) ∧ Below w.heap.size w w' := by
  go_enter Try.func3, Try.ntmps3
  go_wp2_with fail
  refine (vl1 V1.out _ _).mono ?_
  rintro e w1 ⟨rfl, hb1⟩
  have HB1 := hide hb1
  clear hb1
  go_wp2_with fail
  refine (awake_any _).mono ?_
  rintro e w2 ⟨rfl, hb2⟩
  have HB2 := hide (bel HB1.out hb2)
  clear hb2 HB1
  go_wp2_with fail
  go_ret
  exact ⟨rfl, HB2.out⟩

set_option maxRecDepth 100000 in
set_option maxHeartbeats 4000000 in
theorem sc_lo13 (a m s N Q p  : Int) (w : World) (ha : -2147483648 ≤ a ∧ a ≤ 2147483647) (hm : 0 ≤ m ∧ m ≤ 4294967295) (hs : 0 ≤ s ∧ s ≤ 255) (hN : s % 63 = N) (hN0 : 0 ≤ N) (hN1 : N ≤ 62) (hQ : m / 4 = Q) (hp : a * Q = p) (bp : -4611686018427387904 ≤ p ∧ p ≤ 4611686018427387904) (hm0 : (m == 0) = false) (z : p < -576460752303423488)
    (V1 : Hid (valZ 33 m N [a] = (0, 13))) :
    Calls Try.prog 3 #[.int .i32 a, .int .u32 m, .int .u8 s] w fun e w' => e = .returned (.bool true) ∧ Below w.heap.size w w' := by
  go_enter Try.func3, Try.ntmps3
  go_wp2_with fail
  refine (vl1 V1.out _ _).mono ?_
  rintro e w1 ⟨rfl, hb1⟩
  have HB1 := hide hb1
  clear hb1
  go_wp2_with fail
  refine (awake_any _).mono ?_
  rintro e w2 ⟨rfl, hb2⟩
  have HB2 := hide (bel HB1.out hb2)
  clear hb2 HB1
  go_wp2_with fail
  go_ret
  exact ⟨rfl, HB2.out⟩

set_option maxRecDepth 100000 in
set_option maxHeartbeats 4000000 in
theorem sc_fit (a m s N Q p g R : Int) (w : World) (ha : -2147483648 ≤ a ∧ a ≤ 2147483647) (hm : 0 ≤ m ∧ m ≤ 4294967295) (hs : 0 ≤ s ∧ s ≤ 255) (hN : s % 63 = N) (hN0 : 0 ≤ N) (hN1 : N ≤ 62) (hQ : m / 4 = Q) (hp : a * Q = p) (bp : -4611686018427387904 ≤ p ∧ p ≤ 4611686018427387904) (hm0 : (m == 0) = false) (z1 : p ≤ 576460752303423488) (z2 : -576460752303423488 ≤ p) (hg : a * m = g) (bg : -4611686018427387904 ≤ g ∧ g ≤ 4611686018427387904) (hR : g / 2 ^ N.toNat = R) (bR : -2147483648 ≤ R ∧ R ≤ 2147483647)
    (V1 : Hid (valZ 33 m N [a] = (R, 0))) :
    Calls Try.prog 3 #[.int .i32 a, .int .u32 m, .int .u8 s] w fun e w' => e = .returned (.bool true) ∧ Below w.heap.size w w' := by
  go_enter Try.func3, Try.ntmps3
  go_wp2_with fail
  refine (vl1 V1.out _ _).mono ?_
  rintro e w1 ⟨rfl, hb1⟩
  have HB1 := hide hb1
  clear hb1
  go_wp2_with fail
  refine (awake_any _).mono ?_
  rintro e w2 ⟨rfl, hb2⟩
  have HB2 := hide (bel HB1.out hb2)
  clear hb2 HB1
  go_wp2_with fail
  go_quiet (fail)
  have HB3 := hide (bdrew HB2.out nq)
  clear HB2
  generalize w2.drewN nq = w3 at *
  go_wp2_with fail
  go_ret
  exact ⟨rfl, HB3.out⟩

set_option maxRecDepth 100000 in
set_option maxHeartbeats 4000000 in
theorem sc_no (a m s N Q p g R R2 : Int) (w : World) (ha : -2147483648 ≤ a ∧ a ≤ 2147483647) (hm : 0 ≤ m ∧ m ≤ 4294967295) (hs : 0 ≤ s ∧ s ≤ 255) (hN : s % 63 = N) (hN0 : 0 ≤ N) (hN1 : N ≤ 62) (hQ : m / 4 = Q) (hp : a * Q = p) (bp : -4611686018427387904 ≤ p ∧ p ≤ 4611686018427387904) (hm0 : (m == 0) = false) (z1 : p ≤ 576460752303423488) (z2 : -576460752303423488 ≤ p) (hg : a * m = g) (bg : -4611686018427387904 ≤ g ∧ g ≤ 4611686018427387904) (hR : g / 2 ^ N.toNat = R) (hW : wrap32 R = R2) (bR2 : -2147483648 ≤ R2 ∧ R2 ≤ 2147483647) (hne : (R != R2) = true)
    (V1 : Hid (valZ 33 m N [a] = (0, 13))) :
    Calls Try.prog 3 #[.int .i32 a, .int .u32 m, .int .u8 s] w fun e w' => e = .returned (.bool true) ∧ Below w.heap.size w w' := by
  go_enter Try.func3, Try.ntmps3
  go_wp2_with fail
  refine (vl1 V1.out _ _).mono ?_
  rintro e w1 ⟨rfl, hb1⟩
  have HB1 := hide hb1
  clear hb1
  go_wp2_with fail
  refine (awake_any _).mono ?_
  rintro e w2 ⟨rfl, hb2⟩
  have HB2 := hide (bel HB1.out hb2)
  clear hb2 HB1
  go_wp2_with fail
  go_quiet (fail)
  have HB3 := hide (bdrew HB2.out nq)
  clear HB2
  generalize w2.drewN nq = w3 at *
  go_wp2_with fail
  go_ret
  exact ⟨rfl, HB3.out⟩

theorem scaled_walk (a m s : Int) (w : World) (ha : -2147483648 ≤ a ∧ a ≤ 2147483647) (hm : 0 ≤ m ∧ m ≤ 4294967295) (hs : 0 ≤ s ∧ s ≤ 255) :
    Calls Try.prog 3 #[.int .i32 a, .int .u32 m, .int .u8 s] w fun e w' => e = .returned (.bool true) ∧ Below w.heap.size w w' := by
  have hN0 : 0 ≤ s % 63 := by omega
  have hN1 : s % 63 ≤ 62 := by omega
  generalize hN : s % 63 = N at *
  by_cases h0 : m = 0
  · subst h0
    have v1 : valZ 33 0 N [a] = (0, 1) := by
      unfold valZ
      rw [if_neg]
      have : cons 33 0 N = false := by
        show (inB 0 1 4611686018427387904 && inB N 0 62) = false
        rw [inB_f (by omega), Bool.false_and]
      simp [mayB, this]
    exact sc_zero a s N w ha hs hN hN0 hN1 v1
  · have hm0 : (m == 0) = false := by simp [h0]
    have hc : cons 33 m N = true := by
      show (inB m 1 4611686018427387904 && inB N 0 62) = true
      rw [inB_t (by omega) (by omega), inB_t hN0 hN1]
      rfl
    have hM := may1 (op := 33) rfl hc ha
    have bp := mul_bd (A := 2147483648) (B := 1073741823) (a := a) (b := m / 4) (by omega) (by omega)
    have bp' : -4611686018427387904 ≤ a * (m / 4) ∧ a * (m / 4) ≤ 4611686018427387904 := ⟨by omega, by omega⟩
    have all : (∃ y, valZ 33 m N [a] = (y, 0)) ∨ valZ 33 m N [a] = (0, 13) := by
      by_cases hb : 4611686018427387904 < max a (-a) * m
      · refine .inr (val_err hM (x := 0) ?_ (by decide))
        show ex 33 m N a 0 0 = _
        simp [ex, hb]
      · by_cases hx : -2147483648 ≤ a * m / 2 ^ N.toNat ∧ a * m / 2 ^ N.toNat ≤ 2147483647
        · refine .inl ⟨_, val_ok hM (x := a * m / 2 ^ N.toNat) ?_ hx⟩
          show ex 33 m N a 0 0 = _
          simp [ex, hb]
        · refine .inr (val_big hM (x := a * m / 2 ^ N.toNat) ?_ hx)
          show ex 33 m N a 0 0 = _
          simp [ex, hb]
    by_cases z1 : 576460752303423488 < a * (m / 4)
    · rcases all with ⟨y, v⟩ | v
      · exact sc_hi0 a m s N _ _ y w ha hm hs hN hN0 hN1 rfl rfl bp' hm0 z1 v
      · exact sc_hi13 a m s N _ _ w ha hm hs hN hN0 hN1 rfl rfl bp' hm0 z1 v
    · by_cases z2 : a * (m / 4) < -576460752303423488
      · rcases all with ⟨y, v⟩ | v
        · exact sc_lo0 a m s N _ _ y w ha hm hs hN hN0 hN1 rfl rfl bp' hm0 z2 v
        · exact sc_lo13 a m s N _ _ w ha hm hs hN hN0 hN1 rfl rfl bp' hm0 z2 v
      · clear all
        have e1 : a * m = 4 * (a * (m / 4)) + a * (m % 4) := by
          have := Int.emod_add_mul_ediv m 4
          conv => lhs; rw [← this]
          rw [Int.mul_add, Int.mul_left_comm]
          omega
        have b2 := mul_bd (A := 2147483648) (B := 3) (a := a) (b := m % 4) (by omega) (by omega)
        have bg : -4611686018427387904 ≤ a * m ∧ a * m ≤ 4611686018427387904 := ⟨by omega, by omega⟩
        have hb : ¬ 4611686018427387904 < max a (-a) * m := by
          rcases Int.le_total 0 a with h | h
          · rw [show max a (-a) = a by omega]; omega
          · rw [show max a (-a) = -a by omega, Int.neg_mul]; omega
        have hx : ex 33 m N a 0 0 = (a * m / 2 ^ N.toNat, 0) := by simp [ex, hb]
        by_cases hR : -2147483648 ≤ a * m / 2 ^ N.toNat ∧ a * m / 2 ^ N.toNat ≤ 2147483647
        · exact sc_fit a m s N _ _ _ _ w ha hm hs hN hN0 hN1 rfl rfl bp' hm0 (by omega) (by omega) rfl bg rfl hR (val_ok hM hx hR)
        · have hw : (a * m / 2 ^ N.toNat != wrap32 (a * m / 2 ^ N.toNat)) = true := by
            generalize a * m / 2 ^ N.toNat = R at *
            simp only [bne_iff_ne, ne_eq, wrap32]
            omega
          exact sc_no a m s N _ _ _ _ _ w ha hm hs hN hN0 hN1 rfl rfl bp' hm0 (by omega) (by omega) rfl bg rfl rfl (by unfold wrap32; omega) hw (val_big hM hx hR)

end Go.Proofs.Ytbpdmbgmaloieab

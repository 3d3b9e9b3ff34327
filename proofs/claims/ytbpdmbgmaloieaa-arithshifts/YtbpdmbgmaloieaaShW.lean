/-
  The walk of ArithShifts.
-/
import Derived.Test.YtbpdmbgmaloieaaOf
namespace Go.Proofs.Ytbpdmbgmaloieaa
open Go.RowKit Go.IntWalk
set_option linter.unusedVariables false

set_option maxRecDepth 100000 in
set_option maxHeartbeats 4000000 in
theorem sh_fits (a n K P L r M N : Int) (w : World) (ha : -2147483648 ≤ a ∧ a ≤ 2147483647) (hn : 0 ≤ n ∧ n ≤ 255) (hK : n % 32 = K) (hK0 : 0 ≤ K) (hK1 : K ≤ 31)
    (hP : (2 : Int) ^ K.toNat = P) (hL : a * P = L) (hM : r * P = M) (hN : (r + 1) * P = N) (bP : 1 ≤ P ∧ P ≤ 2147483648) (bL : -2147483648 ≤ L ∧ L ≤ 2147483647) (br : -2147483648 ≤ r ∧ r ≤ 2147483647)
    (bM : -2147483648 ≤ M + 2147483648) (bN : N ≤ 4294967296) (t1 : M ≤ a) (t2 : a < N)
    (V1 : Hid (valZ 13 0 0 [a, K] = (L, 0))) (V2 : Hid (valZ 29 K 0 [a] = (L, 0))) (V3 : Hid (valZ 30 K 0 [L] = (a, 0))) (V4 : Hid (valZ 14 0 0 [a, K] = (r, 0))) (V5 : Hid (valZ 30 K 0 [a] = (r, 0))) :
    Calls Try.prog 6 #[.int .i32 a, .int .u8 n] w fun e w' => e = .returned (.bool true) ∧ Below w.heap.size w w' := by
  go_enter Try.func6, Try.ntmps6
  go_wp2_with fail
  refine (vl2 V1.out _ _).mono ?_
  rintro e w1 ⟨rfl, hb1⟩
  have HB1 := hide hb1
  clear hb1
  go_wp2_with fail
  refine (vl1 V2.out _ _).mono ?_
  rintro e w2 ⟨rfl, hb2⟩
  have HB2 := hide (bel HB1.out hb2)
  clear hb2 HB1
  go_wp2_with fail
  refine (awake_any _).mono ?_
  rintro e w3 ⟨rfl, hb3⟩
  have HB3 := hide (bel HB2.out hb3)
  clear hb3 HB2
  go_wp2_with fail
  go_quiet (fail)
  have HB4 := hide (bdrew HB3.out nq)
  clear HB3
  generalize w3.drewN nq = w4 at *
  go_wp2_with fail
  refine (vl1 V3.out _ _).mono ?_
  rintro e w5 ⟨rfl, hb5⟩
  have HB5 := hide (bel HB4.out hb5)
  clear hb5 HB4
  go_wp2_with fail
  refine (vl2 V4.out _ _).mono ?_
  rintro e w6 ⟨rfl, hb6⟩
  have HB6 := hide (bel HB5.out hb6)
  clear hb6 HB5
  go_wp2_with fail
  refine (vl1 V5.out _ _).mono ?_
  rintro e w7 ⟨rfl, hb7⟩
  have HB7 := hide (bel HB6.out hb7)
  clear hb7 HB6
  go_wp2_with fail
  go_ret
  exact ⟨rfl, HB7.out⟩

set_option maxRecDepth 100000 in
set_option maxHeartbeats 4000000 in
theorem sh_big (a n K P L L2 r M N : Int) (w : World) (ha : -2147483648 ≤ a ∧ a ≤ 2147483647) (hn : 0 ≤ n ∧ n ≤ 255) (hK : n % 32 = K) (hK0 : 0 ≤ K) (hK1 : K ≤ 31)
    (hP : (2 : Int) ^ K.toNat = P) (hL : a * P = L) (hM : r * P = M) (hN : (r + 1) * P = N) (bP : 1 ≤ P ∧ P ≤ 2147483648) (bL : -4611686018427387904 ≤ L ∧ L ≤ 4611686018427387904) (hW : wrap32 L = L2) (bL2 : -2147483648 ≤ L2 ∧ L2 ≤ 2147483647) (hL2 : (L == L2) = false) (br : -2147483648 ≤ r ∧ r ≤ 2147483647)
    (bM : -2147483648 ≤ M + 2147483648) (bN : N ≤ 4294967296) (t1 : M ≤ a) (t2 : a < N)
    (V1 : Hid (valZ 13 0 0 [a, K] = (0, 13))) (V2 : Hid (valZ 29 K 0 [a] = (0, 13))) (V4 : Hid (valZ 14 0 0 [a, K] = (r, 0))) (V5 : Hid (valZ 30 K 0 [a] = (r, 0))) :
    Calls Try.prog 6 #[.int .i32 a, .int .u8 n] w fun e w' => e = .returned (.bool true) ∧ Below w.heap.size w w' := by
  go_enter Try.func6, Try.ntmps6
  go_wp2_with fail
  refine (vl2 V1.out _ _).mono ?_
  rintro e w1 ⟨rfl, hb1⟩
  have HB1 := hide hb1
  clear hb1
  go_wp2_with fail
  refine (vl1 V2.out _ _).mono ?_
  rintro e w2 ⟨rfl, hb2⟩
  have HB2 := hide (bel HB1.out hb2)
  clear hb2 HB1
  go_wp2_with fail
  refine (awake_any _).mono ?_
  rintro e w3 ⟨rfl, hb3⟩
  have HB3 := hide (bel HB2.out hb3)
  clear hb3 HB2
  go_wp2_with fail
  go_quiet (fail)
  have HB4 := hide (bdrew HB3.out nq)
  clear HB3
  generalize w3.drewN nq = w4 at *
  go_wp2_with fail
  refine (vl2 V4.out _ _).mono ?_
  rintro e w5 ⟨rfl, hb5⟩
  have HB5 := hide (bel HB4.out hb5)
  clear hb5 HB4
  go_wp2_with fail
  refine (vl1 V5.out _ _).mono ?_
  rintro e w6 ⟨rfl, hb6⟩
  have HB6 := hide (bel HB5.out hb6)
  clear hb6 HB5
  go_wp2_with fail
  go_ret
  exact ⟨rfl, HB6.out⟩

theorem shifts_walk (a n : Int) (w : World) (ha : -2147483648 ≤ a ∧ a ≤ 2147483647) (hn : 0 ≤ n ∧ n ≤ 255) :
    Calls Try.prog 6 #[.int .i32 a, .int .u8 n] w fun e w' => e = .returned (.bool true) ∧ Below w.heap.size w w' := by
  have hK0 : 0 ≤ n % 32 := by omega
  have hK1 : n % 32 ≤ 31 := by omega
  generalize hK : n % 32 = K at *
  have bP := pow_bd K.toNat 31 (by omega)
  have ec : ∀ s, cons 29 K s = true ∧ cons 30 K s = true := fun s => ⟨inB_t hK0 hK1, inB_t hK0 hK1⟩
  have x13 : ex 13 0 0 a K 0 = (a * 2 ^ K.toNat, 0) := by simp [ex, inB_t hK0 hK1]
  have x14 : ex 14 0 0 a K 0 = (a / 2 ^ K.toNat, 0) := by simp [ex, inB_t hK0 hK1]
  generalize hP : (2 : Int) ^ K.toNat = P at *
  have bP' : 1 ≤ P ∧ P ≤ 2147483648 := ⟨bP.1, by omega⟩
  have hr1 := Int.ediv_mul_add_emod a P
  have hr2 := Int.emod_nonneg a (show P ≠ 0 by omega)
  have hr3 := Int.emod_lt_of_pos a (show 0 < P by omega)
  have hr4 : (a / P + 1) * P = a / P * P + P := by rw [Int.add_mul, Int.one_mul]
  have hr5 : -2147483648 ≤ a / P ∧ a / P ≤ 2147483647 := by
    constructor
    · exact Int.le_ediv_of_mul_le (by omega) (by omega)
    · have : a / P < 2147483648 := Int.ediv_lt_of_lt_mul (by omega) (by omega)
      omega
  have v4 : valZ 14 0 0 [a, K] = (a / P, 0) := val_ok (may2 rfl rfl ha (by omega)) x14 hr5
  have v5 : valZ 30 K 0 [a] = (a / P, 0) := by
    refine val_ok (may1 rfl (ec 0).2 ha) ?_ hr5
    show (a / 2 ^ K.toNat, (0 : Int)) = _
    rw [hP]
  have bL := mul_wd (b := P) ha (by omega)
  by_cases h : -2147483648 ≤ a * P ∧ a * P ≤ 2147483647
  · have v1 : valZ 13 0 0 [a, K] = (a * P, 0) := val_ok (may2 rfl rfl ha (by omega)) x13 h
    have v2 : valZ 29 K 0 [a] = (a * P, 0) := by
      refine val_ok (may1 rfl (ec 0).1 ha) ?_ h
      show (a * 2 ^ K.toNat, (0 : Int)) = _
      rw [hP]
    have v3 : valZ 30 K 0 [a * P] = (a, 0) := by
      refine val_ok (may1 rfl (ec 0).2 h) ?_ ha
      show (a * P / 2 ^ K.toNat, (0 : Int)) = _
      rw [hP, Int.mul_ediv_cancel _ (by omega)]
    exact sh_fits a n K P (a * P) (a / P) _ _ w ha hn hK hK0 hK1 hP rfl rfl rfl bP' h hr5 (by omega) (by omega) (by omega) (by omega) v1 v2 v3 v4 v5
  · have v1 : valZ 13 0 0 [a, K] = (0, 13) := val_big (may2 rfl rfl ha (by omega)) x13 h
    have v2 : valZ 29 K 0 [a] = (0, 13) := by
      refine val_big (may1 rfl (ec 0).1 ha) (x := a * P) ?_ h
      show (a * 2 ^ K.toNat, (0 : Int)) = _
      rw [hP]
    have hw : (a * P == wrap32 (a * P)) = false := by
      simp only [beq_eq_false_iff_ne, ne_eq, wrap32]
      omega
    exact sh_big a n K P (a * P) _ (a / P) _ _ w ha hn hK hK0 hK1 hP rfl rfl rfl bP' bL rfl (by unfold wrap32; omega) hw hr5 (by omega) (by omega) (by omega) (by omega) v1 v2 v4 v5

end Go.Proofs.Ytbpdmbgmaloieaa

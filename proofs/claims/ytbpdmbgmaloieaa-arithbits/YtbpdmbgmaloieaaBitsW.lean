/-
  The walk of ArithBits.
-/
import Derived.Test.YtbpdmbgmaloieaaOf2
import Derived.Test.YtbpdmbgmaloieaaBitsF
namespace Go.Proofs.Ytbpdmbgmaloieaa
open Go.RowKit Go.IntWalk
set_option linter.unusedVariables false

set_option maxRecDepth 100000 in
set_option maxHeartbeats 4000000 in
theorem bits_neg (a b p q r t : Int) (w : World) (ha : -2147483648 ≤ a ∧ a ≤ 2147483647) (hb : -2147483648 ≤ b ∧ b ≤ 2147483647) (hp : -2147483648 ≤ p ∧ p ≤ 2147483647) (hq : -2147483648 ≤ q ∧ q ≤ 2147483647) (hr : -2147483648 ≤ r ∧ r ≤ 2147483647) (ht : -2147483648 ≤ t ∧ t ≤ 2147483647)
    (V1 : Hid (valZ 15 0 0 [a, b] = (p, 0))) (V2 : Hid (valZ 16 0 0 [a, b] = (q, 0))) (V3 : Hid (valZ 17 0 0 [a, b] = (r, 0))) (V4 : Hid (valZ 17 0 0 [a, -1] = (t, 0))) (V5 : Hid (valZ 15 0 0 [a, t] = (0, 0)))
    (t1 : (p + q != a + b) = false) (t2 : (q - p != r) = false) (t3 : (t != -a - 1) = false)
    (z : b < 0) :
    Calls Try.prog 7 #[.int .i32 a, .int .i32 b] w fun e w' => e = .returned (.bool true) ∧ Below w.heap.size w w' := by
  go_enter Try.func7, Try.ntmps7
  go_wp2_with fail
  refine (of2 V1.out _ _).mono ?_
  rintro e w1 ⟨rfl, hb1⟩
  have HB1 := hide hb1
  clear hb1
  go_wp2_with fail
  refine (of2 V2.out _ _).mono ?_
  rintro e w2 ⟨rfl, hb2⟩
  have HB2 := hide (bel HB1.out hb2)
  clear hb2 HB1
  go_wp2_with fail
  refine (of2 V3.out _ _).mono ?_
  rintro e w3 ⟨rfl, hb3⟩
  have HB3 := hide (bel HB2.out hb3)
  clear hb3 HB2
  go_wp2_with fail
  refine (of2 V4.out _ _).mono ?_
  rintro e w4 ⟨rfl, hb4⟩
  have HB4 := hide (bel HB3.out hb4)
  clear hb4 HB3
  go_wp2_with fail
  refine (of2 V5.out _ _).mono ?_
  rintro e w5 ⟨rfl, hb5⟩
  have HB5 := hide (bel HB4.out hb5)
  clear hb5 HB4
  go_wp2_with fail
  refine (awake_any _).mono ?_
  rintro e w6 ⟨rfl, hb6⟩
  have HB6 := hide (bel HB5.out hb6)
  clear hb6 HB5
  go_wp2_with fail
  go_ret
  exact ⟨rfl, HB6.out⟩

set_option maxRecDepth 100000 in
set_option maxHeartbeats 4000000 in
theorem bits_pos (a b p q r t : Int) (w : World) (ha : -2147483648 ≤ a ∧ a ≤ 2147483647) (hb : -2147483648 ≤ b ∧ b ≤ 2147483647) (hp : -2147483648 ≤ p ∧ p ≤ 2147483647) (hq : -2147483648 ≤ q ∧ q ≤ 2147483647) (hr : -2147483648 ≤ r ∧ r ≤ 2147483647) (ht : -2147483648 ≤ t ∧ t ≤ 2147483647)
    (V1 : Hid (valZ 15 0 0 [a, b] = (p, 0))) (V2 : Hid (valZ 16 0 0 [a, b] = (q, 0))) (V3 : Hid (valZ 17 0 0 [a, b] = (r, 0))) (V4 : Hid (valZ 17 0 0 [a, -1] = (t, 0))) (V5 : Hid (valZ 15 0 0 [a, t] = (0, 0)))
    (t1 : (p + q != a + b) = false) (t2 : (q - p != r) = false) (t3 : (t != -a - 1) = false)
    (z : 0 ≤ b) (V6 : Hid (valZ 31 b 0 [a] = (p, 0))) (z1 : 0 ≤ p) (z2 : p ≤ b) :
    Calls Try.prog 7 #[.int .i32 a, .int .i32 b] w fun e w' => e = .returned (.bool true) ∧ Below w.heap.size w w' := by
  go_enter Try.func7, Try.ntmps7
  go_wp2_with fail
  refine (of2 V1.out _ _).mono ?_
  rintro e w1 ⟨rfl, hb1⟩
  have HB1 := hide hb1
  clear hb1
  go_wp2_with fail
  refine (of2 V2.out _ _).mono ?_
  rintro e w2 ⟨rfl, hb2⟩
  have HB2 := hide (bel HB1.out hb2)
  clear hb2 HB1
  go_wp2_with fail
  refine (of2 V3.out _ _).mono ?_
  rintro e w3 ⟨rfl, hb3⟩
  have HB3 := hide (bel HB2.out hb3)
  clear hb3 HB2
  go_wp2_with fail
  refine (of2 V4.out _ _).mono ?_
  rintro e w4 ⟨rfl, hb4⟩
  have HB4 := hide (bel HB3.out hb4)
  clear hb4 HB3
  go_wp2_with fail
  refine (of2 V5.out _ _).mono ?_
  rintro e w5 ⟨rfl, hb5⟩
  have HB5 := hide (bel HB4.out hb5)
  clear hb5 HB4
  go_wp2_with fail
  refine (awake_any _).mono ?_
  rintro e w6 ⟨rfl, hb6⟩
  have HB6 := hide (bel HB5.out hb6)
  clear hb6 HB5
  go_wp2_with fail
  refine (vl1 V6.out _ _).mono ?_
  rintro e w7 ⟨rfl, hb7⟩
  have HB7 := hide (bel HB6.out hb7)
  clear hb7 HB6
  go_wp2_with fail
  go_ret
  exact ⟨rfl, HB7.out⟩

theorem bits_walk (a b : Int) (w : World) (ha : -2147483648 ≤ a ∧ a ≤ 2147483647) (hb : -2147483648 ≤ b ∧ b ≤ 2147483647) :
    Calls Try.prog 7 #[.int .i32 a, .int .i32 b] w fun e w' => e = .returned (.bool true) ∧ Below w.heap.size w w' := by
  have v1 : valZ 15 0 0 [a, b] = (bw .and a b, 0) := val_ok (may2 rfl rfl ha hb) rfl (bw_wd .and ha hb)
  have v2 : valZ 16 0 0 [a, b] = (bw .or a b, 0) := val_ok (may2 rfl rfl ha hb) rfl (bw_wd .or ha hb)
  have v3 : valZ 17 0 0 [a, b] = (bw .xor a b, 0) := val_ok (may2 rfl rfl ha hb) rfl (bw_wd .xor ha hb)
  have v4 : valZ 17 0 0 [a, -1] = (-a - 1, 0) := by
    refine val_ok (may2 rfl rfl ha (by omega)) ?_ (by omega)
    show (bw .xor a (-1), (0 : Int)) = _
    rw [bw_turn ha]
  have v5 : valZ 15 0 0 [a, -a - 1] = (0, 0) := by
    refine val_ok (may2 rfl rfl ha (by omega)) ?_ (by omega)
    show (bw .and a (-a - 1), (0 : Int)) = _
    rw [bw_none ha]
  have t1 : (bw .and a b + bw .or a b != a + b) = false := by rw [bw_sum ha hb]; simp
  have t2 : (bw .or a b - bw .and a b != bw .xor a b) = false := by rw [bw_diff ha hb]; simp
  by_cases h : b < 0
  · exact bits_neg a b _ _ _ _ w ha hb (bw_wd .and ha hb) (bw_wd .or ha hb) (bw_wd .xor ha hb) (by omega) v1 v2 v3 v4 v5 t1 t2 (by simp) h
  · have v6 : valZ 31 b 0 [a] = (bw .and a b, 0) := val_ok (may1 rfl (inB_t (by omega) (by omega)) ha) rfl (bw_wd .and ha hb)
    have h2 := bw_below ha (show 0 ≤ b ∧ b ≤ 2147483647 by omega)
    exact bits_pos a b _ _ _ _ w ha hb (bw_wd .and ha hb) (bw_wd .or ha hb) (bw_wd .xor ha hb) (by omega) v1 v2 v3 v4 v5 t1 t2 (by simp) (by omega) v6 h2.1 h2.2

end Go.Proofs.Ytbpdmbgmaloieaa

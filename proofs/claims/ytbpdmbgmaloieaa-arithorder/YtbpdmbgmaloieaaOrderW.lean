/-
  The walk of ArithOrder.
-/
import Derived.Test.YtbpdmbgmaloieaaOf2
namespace Go.Proofs.Ytbpdmbgmaloieaa
open Go.RowKit Go.IntWalk
set_option linter.unusedVariables false

set_option maxRecDepth 100000 in
set_option maxHeartbeats 4000000 in
theorem order_nz (a b c lt gt eq le ge ne p q m s : Int) (w : World) (ha : -2147483648 ≤ a ∧ a ≤ 2147483647) (hb : -2147483648 ≤ b ∧ b ≤ 2147483647) (hc : -2147483648 ≤ c ∧ c ≤ 2147483647)
    (V1 : Hid (valZ 18 0 0 [a, b] = (lt, 0))) (V2 : Hid (valZ 20 0 0 [a, b] = (gt, 0))) (V3 : Hid (valZ 22 0 0 [a, b] = (eq, 0))) (V4 : Hid (valZ 19 0 0 [a, b] = (le, 0))) (V5 : Hid (valZ 21 0 0 [a, b] = (ge, 0))) (V6 : Hid (valZ 23 0 0 [a, b] = (ne, 0)))
    (V7 : Hid (valZ 24 0 0 [a, b] = (p, 0))) (V8 : Hid (valZ 25 0 0 [a, b] = (q, 0))) (V9 : Hid (valZ 27 0 0 [a, b, c] = (m, 0))) (V10 : Hid (valZ 26 0 0 [c, p, q] = (m, 0))) (V11 : Hid (valZ 28 0 0 [a, b, c] = (s, 0)))
    (l1 : 0 ≤ lt ∧ lt ≤ 1) (l2 : 0 ≤ gt ∧ gt ≤ 1) (l3 : 0 ≤ eq ∧ eq ≤ 1) (l4 : 0 ≤ le ∧ le ≤ 1) (l5 : 0 ≤ ge ∧ ge ≤ 1) (l6 : 0 ≤ ne ∧ ne ≤ 1)
    (t1 : (lt + gt + eq != 1) = false) (t2 : (le != lt + eq) = false) (t3 : (ge != gt + eq) = false) (t4 : (ne != lt + gt) = false) (t5 : (lt == 1) = decide (a < b)) (t6 : (eq == 1) = (a == b))
    (p1 : -2147483648 ≤ p ∧ p ≤ 2147483647) (p2 : -2147483648 ≤ q ∧ q ≤ 2147483647) (t7 : (p + q != a + b) = false) (t8 : p ≤ q) (t9 : p ≤ m) (t10 : m ≤ q)
    (z1 : (a != 0) = true) (z2 : (s == b) = true) :
    Calls Try.prog 8 #[.int .i32 a, .int .i32 b, .int .i32 c] w fun e w' => e = .returned (.bool true) ∧ Below w.heap.size w w' := by
  go_enter Try.func8, Try.ntmps8
  go_wp2_with fail
  refine (of2 V1.out _ _).mono ?_
  rintro e w1 ⟨rfl, hb1⟩
  have HB1 := hide hb1
  clear hb1
  go_wp2_with fail
  refine (of2 V2.out _ _).mono ?_
  rintro e w2 ⟨rfl, hb2⟩
  have HB2 := hide (bel HB1.out hb2)
  clear hb2 HB1
  go_wp2_with fail
  refine (of2 V3.out _ _).mono ?_
  rintro e w3 ⟨rfl, hb3⟩
  have HB3 := hide (bel HB2.out hb3)
  clear hb3 HB2
  go_wp2_with fail
  refine (of2 V4.out _ _).mono ?_
  rintro e w4 ⟨rfl, hb4⟩
  have HB4 := hide (bel HB3.out hb4)
  clear hb4 HB3
  go_wp2_with fail
  refine (of2 V5.out _ _).mono ?_
  rintro e w5 ⟨rfl, hb5⟩
  have HB5 := hide (bel HB4.out hb5)
  clear hb5 HB4
  go_wp2_with fail
  refine (of2 V6.out _ _).mono ?_
  rintro e w6 ⟨rfl, hb6⟩
  have HB6 := hide (bel HB5.out hb6)
  clear hb6 HB5
  go_wp2_with fail
  refine (awake_any _).mono ?_
  rintro e w7 ⟨rfl, hb7⟩
  have HB7 := hide (bel HB6.out hb7)
  clear hb7 HB6
  go_wp2_with fail
  refine (of2 V7.out _ _).mono ?_
  rintro e w8 ⟨rfl, hb8⟩
  have HB8 := hide (bel HB7.out hb8)
  clear hb8 HB7
  go_wp2_with fail
  refine (of2 V8.out _ _).mono ?_
  rintro e w9 ⟨rfl, hb9⟩
  have HB9 := hide (bel HB8.out hb9)
  clear hb9 HB8
  go_wp2_with fail
  refine (of3 V9.out _ _).mono ?_
  rintro e w10 ⟨rfl, hb10⟩
  have HB10 := hide (bel HB9.out hb10)
  clear hb10 HB9
  go_wp2_with fail
  refine (of3 V10.out _ _).mono ?_
  rintro e w11 ⟨rfl, hb11⟩
  have HB11 := hide (bel HB10.out hb11)
  clear hb11 HB10
  go_wp2_with fail
  refine (of3 V11.out _ _).mono ?_
  rintro e w12 ⟨rfl, hb12⟩
  have HB12 := hide (bel HB11.out hb12)
  clear hb12 HB11
  go_wp2_with fail
  go_ret
  exact ⟨rfl, HB12.out⟩

set_option maxRecDepth 100000 in
set_option maxHeartbeats 4000000 in
theorem order_z (a b c lt gt eq le ge ne p q m s : Int) (w : World) (ha : -2147483648 ≤ a ∧ a ≤ 2147483647) (hb : -2147483648 ≤ b ∧ b ≤ 2147483647) (hc : -2147483648 ≤ c ∧ c ≤ 2147483647)
    (V1 : Hid (valZ 18 0 0 [a, b] = (lt, 0))) (V2 : Hid (valZ 20 0 0 [a, b] = (gt, 0))) (V3 : Hid (valZ 22 0 0 [a, b] = (eq, 0))) (V4 : Hid (valZ 19 0 0 [a, b] = (le, 0))) (V5 : Hid (valZ 21 0 0 [a, b] = (ge, 0))) (V6 : Hid (valZ 23 0 0 [a, b] = (ne, 0)))
    (V7 : Hid (valZ 24 0 0 [a, b] = (p, 0))) (V8 : Hid (valZ 25 0 0 [a, b] = (q, 0))) (V9 : Hid (valZ 27 0 0 [a, b, c] = (m, 0))) (V10 : Hid (valZ 26 0 0 [c, p, q] = (m, 0))) (V11 : Hid (valZ 28 0 0 [a, b, c] = (s, 0)))
    (l1 : 0 ≤ lt ∧ lt ≤ 1) (l2 : 0 ≤ gt ∧ gt ≤ 1) (l3 : 0 ≤ eq ∧ eq ≤ 1) (l4 : 0 ≤ le ∧ le ≤ 1) (l5 : 0 ≤ ge ∧ ge ≤ 1) (l6 : 0 ≤ ne ∧ ne ≤ 1)
    (t1 : (lt + gt + eq != 1) = false) (t2 : (le != lt + eq) = false) (t3 : (ge != gt + eq) = false) (t4 : (ne != lt + gt) = false) (t5 : (lt == 1) = decide (a < b)) (t6 : (eq == 1) = (a == b))
    (p1 : -2147483648 ≤ p ∧ p ≤ 2147483647) (p2 : -2147483648 ≤ q ∧ q ≤ 2147483647) (t7 : (p + q != a + b) = false) (t8 : p ≤ q) (t9 : p ≤ m) (t10 : m ≤ q)
    (z1 : (a != 0) = false) (z2 : (a == 0) = true) (z3 : (s == c) = true) :
    Calls Try.prog 8 #[.int .i32 a, .int .i32 b, .int .i32 c] w fun e w' => e = .returned (.bool true) ∧ Below w.heap.size w w' := by
  go_enter Try.func8, Try.ntmps8
  go_wp2_with fail
  refine (of2 V1.out _ _).mono ?_
  rintro e w1 ⟨rfl, hb1⟩
  have HB1 := hide hb1
  clear hb1
  go_wp2_with fail
  refine (of2 V2.out _ _).mono ?_
  rintro e w2 ⟨rfl, hb2⟩
  have HB2 := hide (bel HB1.out hb2)
  clear hb2 HB1
  go_wp2_with fail
  refine (of2 V3.out _ _).mono ?_
  rintro e w3 ⟨rfl, hb3⟩
  have HB3 := hide (bel HB2.out hb3)
  clear hb3 HB2
  go_wp2_with fail
  refine (of2 V4.out _ _).mono ?_
  rintro e w4 ⟨rfl, hb4⟩
  have HB4 := hide (bel HB3.out hb4)
  clear hb4 HB3
  go_wp2_with fail
  refine (of2 V5.out _ _).mono ?_
  rintro e w5 ⟨rfl, hb5⟩
  have HB5 := hide (bel HB4.out hb5)
  clear hb5 HB4
  go_wp2_with fail
  refine (of2 V6.out _ _).mono ?_
  rintro e w6 ⟨rfl, hb6⟩
  have HB6 := hide (bel HB5.out hb6)
  clear hb6 HB5
  go_wp2_with fail
  refine (awake_any _).mono ?_
  rintro e w7 ⟨rfl, hb7⟩
  have HB7 := hide (bel HB6.out hb7)
  clear hb7 HB6
  go_wp2_with fail
  refine (of2 V7.out _ _).mono ?_
  rintro e w8 ⟨rfl, hb8⟩
  have HB8 := hide (bel HB7.out hb8)
  clear hb8 HB7
  go_wp2_with fail
  refine (of2 V8.out _ _).mono ?_
  rintro e w9 ⟨rfl, hb9⟩
  have HB9 := hide (bel HB8.out hb9)
  clear hb9 HB8
  go_wp2_with fail
  refine (of3 V9.out _ _).mono ?_
  rintro e w10 ⟨rfl, hb10⟩
  have HB10 := hide (bel HB9.out hb10)
  clear hb10 HB9
  go_wp2_with fail
  refine (of3 V10.out _ _).mono ?_
  rintro e w11 ⟨rfl, hb11⟩
  have HB11 := hide (bel HB10.out hb11)
  clear hb11 HB10
  go_wp2_with fail
  refine (of3 V11.out _ _).mono ?_
  rintro e w12 ⟨rfl, hb12⟩
  have HB12 := hide (bel HB11.out hb12)
  clear hb12 HB11
  go_wp2_with fail
  go_ret
  exact ⟨rfl, HB12.out⟩

end Go.Proofs.Ytbpdmbgmaloieaa

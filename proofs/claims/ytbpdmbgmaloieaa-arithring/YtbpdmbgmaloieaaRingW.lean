/-
  The walk of ArithRing.
-/
import Derived.Test.YtbpdmbgmaloieaaOf2
namespace Go.Proofs.Ytbpdmbgmaloieaa
open Go.RowKit Go.IntWalk
set_option linter.unusedVariables false

theorem sgn_cases (a : Int) : (0 < a ∧ tr (decide (0 < a)) - tr (decide (a < 0)) = 1) ∨ (a = 0 ∧ tr (decide (0 < a)) - tr (decide (a < 0)) = 0) ∨ (a < 0 ∧ tr (decide (0 < a)) - tr (decide (a < 0)) = -1) := by
  rcases (show 0 < a ∨ a = 0 ∨ a < 0 by omega) with h | h | h
  · exact .inl ⟨h, by simp [tr, h]; omega⟩
  · subst h; exact .inr (.inl ⟨rfl, rfl⟩)
  · exact .inr (.inr ⟨h, by simp [tr, h]; omega⟩)

/-- What the first part asks. -/
theorem ring_a (a b : Int) (ha : -32768 ≤ a ∧ a ≤ 32767) (hb : -32768 ≤ b ∧ b ≤ 32767) :
    ∃ s p n g h, valZ 8 0 0 [a, b] = (s, 0) ∧ valZ 8 0 0 [b, a] = (s, 0) ∧ valZ 9 0 0 [s, b] = (a, 0) ∧ valZ 10 0 0 [a, b] = (p, 0) ∧ valZ 10 0 0 [b, a] = (p, 0) ∧ valZ 5 0 0 [a] = (n, 0) ∧
      valZ 8 0 0 [a, n] = (0, 0) ∧ valZ 7 0 0 [a] = (g, 0) ∧ valZ 6 0 0 [a] = (h, 0) ∧ valZ 10 0 0 [g, h] = (a, 0) ∧ 0 ≤ h ∧ -1 ≤ g ∧ g ≤ 1 ∧ -1073741824 ≤ p ∧ p ≤ 1073741824 := by
  have hp := mul_bd (A := 32768) (B := 32768) (a := a) (b := b) (by omega) (by omega)
  have hg : max a (-a) * (tr (decide (0 < a)) - tr (decide (a < 0))) = a ∧ -1 ≤ tr (decide (0 < a)) - tr (decide (a < 0)) ∧ tr (decide (0 < a)) - tr (decide (a < 0)) ≤ 1 := by
    rcases sgn_cases a with ⟨h, e⟩ | ⟨h, e⟩ | ⟨h, e⟩ <;> rw [e] <;> refine ⟨?_, by omega, by omega⟩ <;> omega
  refine ⟨a + b, a * b, -a, tr (decide (0 < a)) - tr (decide (a < 0)), max a (-a), ?_, ?_, ?_, ?_, ?_, ?_, ?_, ?_, ?_, ?_, by omega, hg.2.1, hg.2.2, by omega, by omega⟩
  · exact val_ok (may2 rfl rfl (by omega) (by omega)) rfl (by omega)
  · refine val_ok (may2 rfl rfl (by omega) (by omega)) ?_ (by omega)
    show (b + a, (0 : Int)) = _
    rw [Int.add_comm]
  · refine val_ok (may2 rfl rfl (by omega) (by omega)) ?_ (by omega)
    show (a + b - b, (0 : Int)) = _
    rw [show a + b - b = a by omega]
  · exact val_ok (may2 rfl rfl (by omega) (by omega)) rfl (by omega)
  · refine val_ok (may2 rfl rfl (by omega) (by omega)) ?_ (by omega)
    show (b * a, (0 : Int)) = _
    rw [Int.mul_comm]
  · exact val_ok (may1 rfl rfl (by omega)) rfl (by omega)
  · refine val_ok (may2 rfl rfl (by omega) (by omega)) ?_ (by omega)
    show (a + -a, (0 : Int)) = _
    rw [show a + -a = 0 by omega]
  · exact val_ok (may1 rfl rfl (by omega)) rfl (by omega)
  · exact val_ok (may1 rfl rfl (by omega)) rfl (by omega)
  · refine val_ok (may2 rfl rfl (by omega) (by omega)) ?_ (by omega)
    show ((tr (decide (0 < a)) - tr (decide (a < 0))) * max a (-a), (0 : Int)) = _
    rw [Int.mul_comm, hg.1]

theorem sq_lt {r c : Int} (h : r.natAbs < c.natAbs) : r * r < c * c := by
  have h1 : r * r = (r.natAbs * r.natAbs : Nat) := by rw [Int.natCast_mul]; exact (Int.natAbs_mul_self' r).symm
  have h2 : c * c = (c.natAbs * c.natAbs : Nat) := by rw [Int.natCast_mul]; exact (Int.natAbs_mul_self' c).symm
  rw [h1, h2]
  have := Nat.mul_lt_mul_of_lt_of_lt h h
  omega

theorem ring_b (p c : Int) (hp : -1073741824 ≤ p ∧ p ≤ 1073741824) (hc : -32768 ≤ c ∧ c ≤ 32767) (h0 : c ≠ 0) :
    ∃ u r, valZ 11 0 0 [p, c] = (u, 0) ∧ valZ 12 0 0 [p, c] = (r, 0) ∧ u * c + r = p ∧ r * r < c * c ∧ 0 ≤ r * p ∧ (-1073774592 ≤ u * c ∧ u * c ≤ 1073774592) ∧ (r * r ≤ 9223372036854775807) ∧ (c * c ≤ 9223372036854775807) ∧ r * p ≤ 9223372036854775807 ∧ 0 ≤ r * r ∧ -32768 ≤ r ∧ r ≤ 32768 := by
  have h1 := Int.natAbs_tdiv_le_natAbs p c
  have h2 : (p.tmod c).natAbs < c.natAbs := by rw [Int.natAbs_tmod]; exact Nat.mod_lt _ (by omega)
  have h3 := Int.tdiv_mul_add_tmod p c
  have h4 : 0 ≤ p.tmod c * p := by
    rcases Int.le_total 0 p with h | h
    · exact Int.mul_nonneg (Int.tmod_nonneg _ h) h
    · have h5 : p.tmod c ≤ 0 := by
        have := Int.tmod_nonneg (a := -p) c (by omega)
        rw [Int.neg_tmod] at this
        omega
      exact Int.mul_nonneg_of_nonpos_of_nonpos h5 h
  have h5 := sq_lt h2
  have h6 := mul_bd (A := 32768) (B := 32768) (a := c) (b := c) (by omega) (by omega)
  have h7 := mul_bd (A := 32768) (B := 1073741824) (a := p.tmod c) (b := p) (by omega) (by omega)
  have h8 : 0 ≤ p.tmod c * p.tmod c := by
    rcases Int.le_total 0 (p.tmod c) with h | h
    · exact Int.mul_nonneg h h
    · exact Int.mul_nonneg_of_nonpos_of_nonpos h h
  refine ⟨p.tdiv c, p.tmod c, ?_, ?_, h3, h5, h4, ⟨by omega, by omega⟩, by omega, by omega, by omega, h8, by omega, by omega⟩
  · refine val_ok (may2 rfl rfl (by omega) (by omega)) ?_ (by omega)
    show ex 11 0 0 p c 0 = _
    simp [ex, h0]
  · refine val_ok (may2 rfl rfl (by omega) (by omega)) ?_ (by omega)
    show ex 12 0 0 p c 0 = _
    simp [ex, h0]

theorem ring_0 (p : Int) (hp : -1073741824 ≤ p ∧ p ≤ 1073741824) : valZ 11 0 0 [p, 0] = (0, 12) ∧ valZ 12 0 0 [p, 0] = (0, 12) :=
  ⟨val_err (may2 rfl rfl (by omega) (by omega)) rfl (by decide), val_err (may2 rfl rfl (by omega) (by omega)) rfl (by decide)⟩

set_option maxRecDepth 100000 in
set_option maxHeartbeats 4000000 in
theorem ring_walk (a b c : Int) (w : World) (ha : -32768 ≤ a ∧ a ≤ 32767) (hb : -32768 ≤ b ∧ b ≤ 32767) (hc : -32768 ≤ c ∧ c ≤ 32767) :
    Calls Try.prog 5 #[.int .i16 a, .int .i16 b, .int .i16 c] w fun e w' => e = .returned (.bool true) ∧ Below w.heap.size w w' := by
  obtain ⟨s, p, n, g, h, v1, v2, v3, v4, v5, v6, v7, v8, v9, v10, t1, t2, t3, t4, t5⟩ := ring_a a b ha hb
  have V1 := hide v1
  have V2 := hide v2
  have V3 := hide v3
  have V4 := hide v4
  have V5 := hide v5
  have V6 := hide v6
  have V7 := hide v7
  have V8 := hide v8
  have V9 := hide v9
  have V10 := hide v10
  clear v1 v2 v3 v4 v5 v6 v7 v8 v9 v10
  by_cases h0 : c = 0
  · subst h0
    obtain ⟨v11, v12⟩ := ring_0 p ⟨t4, t5⟩
    have V11 := hide v11
    have V12 := hide v12
    clear v11 v12
    clear hc
    go_enter Try.func5, Try.ntmps5
    go_wp2_with fail
    refine (of2 V1.out _ _).mono ?_
    rintro e w1 ⟨rfl, hb1⟩
    have HB1 := hide hb1
    clear hb1
    go_wp2_with fail
    refine (of2 V2.out _ _).mono ?_
    rintro e w2 ⟨rfl, hb2⟩
    have HB2 := hide (bel HB1.out hb2)
    clear hb2 HB1
    go_wp2_with fail
    refine (of2 V3.out _ _).mono ?_
    rintro e w3 ⟨rfl, hb3⟩
    have HB3 := hide (bel HB2.out hb3)
    clear hb3 HB2
    go_wp2_with fail
    refine (of2 V4.out _ _).mono ?_
    rintro e w4 ⟨rfl, hb4⟩
    have HB4 := hide (bel HB3.out hb4)
    clear hb4 HB3
    go_wp2_with fail
    refine (of2 V5.out _ _).mono ?_
    rintro e w5 ⟨rfl, hb5⟩
    have HB5 := hide (bel HB4.out hb5)
    clear hb5 HB4
    go_wp2_with fail
    refine (of1 V6.out _ _).mono ?_
    rintro e w6 ⟨rfl, hb6⟩
    have HB6 := hide (bel HB5.out hb6)
    clear hb6 HB5
    go_wp2_with fail
    refine (awake_any _).mono ?_
    rintro e w7 ⟨rfl, hb7⟩
    have HB7 := hide (bel HB6.out hb7)
    clear hb7 HB6
    go_wp2_with fail
    refine (of2 V7.out _ _).mono ?_
    rintro e w8 ⟨rfl, hb8⟩
    have HB8 := hide (bel HB7.out hb8)
    clear hb8 HB7
    go_wp2_with fail
    refine (of1 V8.out _ _).mono ?_
    rintro e w9 ⟨rfl, hb9⟩
    have HB9 := hide (bel HB8.out hb9)
    clear hb9 HB8
    go_wp2_with fail
    refine (of1 V9.out _ _).mono ?_
    rintro e w10 ⟨rfl, hb10⟩
    have HB10 := hide (bel HB9.out hb10)
    clear hb10 HB9
    go_wp2_with fail
    refine (of2 V10.out _ _).mono ?_
    rintro e w11 ⟨rfl, hb11⟩
    have HB11 := hide (bel HB10.out hb11)
    clear hb11 HB10
    go_wp2_with fail
    refine (vl2 V11.out _ _).mono ?_
    rintro e w12 ⟨rfl, hb12⟩
    have HB12 := hide (bel HB11.out hb12)
    clear hb12 HB11
    go_wp2_with fail
    refine (vl2 V12.out _ _).mono ?_
    rintro e w13 ⟨rfl, hb13⟩
    have HB13 := hide (bel HB12.out hb13)
    clear hb13 HB12
    go_wp2_with fail
    go_ret
    exact ⟨rfl, HB13.out⟩
  · obtain ⟨u, r, v11, v12, e1, e2, e3, e4, e5, e6, e7, e8, e9, e10⟩ := ring_b p c ⟨t4, t5⟩ hc h0
    have V11 := hide v11
    have V12 := hide v12
    have h0' : (c == 0) = false := by simp [h0]
    have e1' : (u * c + r == p) = true := by simp [e1]
    clear v11 v12 e1
    go_enter Try.func5, Try.ntmps5
    go_wp2_with fail
    refine (of2 V1.out _ _).mono ?_
    rintro e w1 ⟨rfl, hb1⟩
    have HB1 := hide hb1
    clear hb1
    go_wp2_with fail
    refine (of2 V2.out _ _).mono ?_
    rintro e w2 ⟨rfl, hb2⟩
    have HB2 := hide (bel HB1.out hb2)
    clear hb2 HB1
    go_wp2_with fail
    refine (of2 V3.out _ _).mono ?_
    rintro e w3 ⟨rfl, hb3⟩
    have HB3 := hide (bel HB2.out hb3)
    clear hb3 HB2
    go_wp2_with fail
    refine (of2 V4.out _ _).mono ?_
    rintro e w4 ⟨rfl, hb4⟩
    have HB4 := hide (bel HB3.out hb4)
    clear hb4 HB3
    go_wp2_with fail
    refine (of2 V5.out _ _).mono ?_
    rintro e w5 ⟨rfl, hb5⟩
    have HB5 := hide (bel HB4.out hb5)
    clear hb5 HB4
    go_wp2_with fail
    refine (of1 V6.out _ _).mono ?_
    rintro e w6 ⟨rfl, hb6⟩
    have HB6 := hide (bel HB5.out hb6)
    clear hb6 HB5
    go_wp2_with fail
    refine (awake_any _).mono ?_
    rintro e w7 ⟨rfl, hb7⟩
    have HB7 := hide (bel HB6.out hb7)
    clear hb7 HB6
    go_wp2_with fail
    refine (of2 V7.out _ _).mono ?_
    rintro e w8 ⟨rfl, hb8⟩
    have HB8 := hide (bel HB7.out hb8)
    clear hb8 HB7
    go_wp2_with fail
    refine (of1 V8.out _ _).mono ?_
    rintro e w9 ⟨rfl, hb9⟩
    have HB9 := hide (bel HB8.out hb9)
    clear hb9 HB8
    go_wp2_with fail
    refine (of1 V9.out _ _).mono ?_
    rintro e w10 ⟨rfl, hb10⟩
    have HB10 := hide (bel HB9.out hb10)
    clear hb10 HB9
    go_wp2_with fail
    refine (of2 V10.out _ _).mono ?_
    rintro e w11 ⟨rfl, hb11⟩
    have HB11 := hide (bel HB10.out hb11)
    clear hb11 HB10
    go_wp2_with fail
    refine (vl2 V11.out _ _).mono ?_
    rintro e w12 ⟨rfl, hb12⟩
    have HB12 := hide (bel HB11.out hb12)
    clear hb12 HB11
    go_wp2_with fail
    refine (vl2 V12.out _ _).mono ?_
    rintro e w13 ⟨rfl, hb13⟩
    have HB13 := hide (bel HB12.out hb13)
    clear hb13 HB12
    go_wp2_with fail
    go_ret
    exact ⟨rfl, HB13.out⟩

end Go.Proofs.Ytbpdmbgmaloieaa

/-
  ReduceMagic's walk.
-/
import Derived.Test.YtlpebmngjagbaaaMUC
namespace Go.Proofs.Rdc
open Go.RowKit Go.IntWalk Ytlpebmngjagbaaa.Knd
open Vfy (w32)
set_option linter.unusedVariables false

theorem wf_i32 {x : Int} (h : (Lit.int .i32 x).wf = true) : -2147483648 ≤ x ∧ x ≤ 2147483647 := by
  simp [Lit.wf, IntKind.min, IntKind.max, IntKind.signed, IntKind.bits] at h
  exact ⟨by omega, by omega⟩
theorem wf_u32 {x : Int} (h : (Lit.int .u32 x).wf = true) : 0 ≤ x ∧ x ≤ 4294967295 := by
  simp [Lit.wf, IntKind.min, IntKind.max, IntKind.signed, IntKind.bits] at h
  exact ⟨by omega, by omega⟩
/-- What Magic answers of numbers of 32 bits. -/
theorem mg_facts {size d x k s : Int} {ok : Bool} (h : mgZ size d = (k, s, ok)) (hd : w32 d) (h1 : -size ≤ x) (h2 : x ≤ size) (hs : size ≤ 2147483648) (hx : w32 x) :
    (ok = false ∧ k = 0 ∧ s = 0 ∧ (2 ≤ d → 32768 < size)) ∨ (ok = true ∧ 2 ≤ d ∧ ∃ q, Ytlpebmngjagbaaa.Spn.valZ 33 k s [x] = (q, 0) ∧ (0 ≤ x → q = x.tdiv d) ∧ (x < 0 → q + 1 = x.tdiv d) ∧ -1073741825 ≤ q ∧ q ≤ 1073741824) := by
  cases ok
  · left
    have hn := mg_no (size := size) (d := d) (by rw [h])
    rw [hn] at h
    cases h
    refine ⟨rfl, rfl, rfl, fun h2 => ?_⟩
    by_cases hsm : size ≤ 65536
    · have := mg_small h2 (by have := hd.2; omega) (by omega) hsm
      rw [hn] at this
      cases this
    · omega
  · right
    obtain ⟨u, rfl, hu, hk1, hk2, hk3, hd2, hpos, hneg⟩ := mg_div h h1 h2
    obtain ⟨t1, t2, t3, t4⟩ := td_le hx hd2
    refine ⟨rfl, hd2, x * k / 2 ^ u, ?_, hpos, hneg, ?_, ?_⟩
    · have q0 : Ytlpebmngjagbaaa.Spn.inB k 1 4611686018427387904 = true := Ytlpebmngjagbaaa.Spn.inB_iff.2 ⟨hk1, hk2⟩
      have q2 : Ytlpebmngjagbaaa.Spn.inB (u : Int) 0 62 = true := Ytlpebmngjagbaaa.Spn.inB_iff.2 (by omega)
      have q1 : Ytlpebmngjagbaaa.Spn.cons 33 k u = true := by simp [Ytlpebmngjagbaaa.Spn.cons, q0, q2]
      have hmx : max x (-x) * k ≤ 4611686018427387904 := by
        have : max x (-x) * k ≤ size * k := Int.mul_le_mul_of_nonneg_right (by omega) (by omega)
        rw [Int.mul_comm k] at hk3
        omega
      refine val1 (by decide) q1 hx ?_ ?_
      · have : Ytlpebmngjagbaaa.Spn.ex 33 k u x 0 0 = if 4611686018427387904 < max x (-x) * k then (0, 13) else (x * k / 2 ^ (u : Int).toNat, 0) := by simp [Ytlpebmngjagbaaa.Spn.ex]
        rw [this, if_neg (by omega), Int.toNat_natCast]
      · by_cases h0 : 0 ≤ x
        · rw [hpos h0]; exact ⟨by omega, by omega⟩
        · have := hneg (by omega)
          exact ⟨by omega, by omega⟩
    · by_cases h0 : 0 ≤ x
      · rw [hpos h0]; omega
      · have := hneg (by omega)
        omega
    · by_cases h0 : 0 ≤ x
      · rw [hpos h0]; omega
      · have := hneg (by omega)
        omega

set_option maxRecDepth 100000 in
set_option maxHeartbeats 8000000 in
theorem rmag_walk (x more d : Int) {W : World} (hx : -2147483648 ≤ x ∧ x ≤ 2147483647) (hm : 0 ≤ more ∧ more ≤ 4294967295) (hd : -2147483648 ≤ d ∧ d ≤ 2147483647) :
    Calls Try.prog 4 #[.int .i32 x, .int .u32 more, .int .i32 d] W fun e w' => e = .returned (.bool true) ∧ Below W.heap.size W w' := by
  have HA := hide fun V => uawake_any V
  obtain ⟨x1, x2⟩ := hx
  obtain ⟨m1, m2⟩ := hm
  obtain ⟨d1, d2⟩ := hd
  by_cases hn : x < 0
  · obtain ⟨a, rfl⟩ : ∃ a : Int, x = -a := ⟨-x, by omega⟩
    have a1 : 0 < a := by omega
    have a2 : a ≤ 2147483648 := by omega
    have a3 : -a < a := by omega
    clear hn x1 x2
    obtain ⟨y, hy⟩ : ∃ y : Int, more.tmod (2147483648 - a + 1) = y := ⟨_, rfl⟩
    have hy' : 0 ≤ y ∧ y ≤ 2147483648 - a := by
      rw [← hy, Int.tmod_eq_emod_of_nonneg m1]
      exact ⟨Int.emod_nonneg _ (by omega), by have := Int.emod_lt_of_pos more (show 0 < 2147483648 - a + 1 by omega); omega⟩
    obtain ⟨y1, y2⟩ := hy'
    obtain ⟨sz, hsz⟩ : ∃ sz : Int, a + y = sz := ⟨_, rfl⟩
    have HM := hide fun (w : World) => umagic_any sz d w
    obtain ⟨⟨k, s, ok⟩, hZ⟩ : ∃ Z, mgZ sz d = Z := ⟨_, rfl⟩
    have hF := mg_facts (x := -a) hZ ⟨d1, d2⟩ (by omega) (by omega) (by omega) ⟨by omega, by omega⟩
    rw [hZ] at HM
    dsimp only [mgV] at HM
    have HV := hide fun (w : World) (g : Nat) (h : HasC w g 3 #[.int .i64 (-a)]) => Ytlpebmngjagbaaa.Spn.value_any 33 k s (some ⟨g, 0, none⟩) 1 1 [-a] w (Cde.spn (Cde.has_z (L := [-a]) h (by simp)))
    have hr0 : (2147483648 - a + 1 == 0) = false := by simp; omega
    clear hZ
    rcases hF with ⟨rfl, rfl, rfl, hbig⟩ | ⟨rfl, hd2, q, hq, q1, q2, q3, q4⟩
    · by_cases h2 : d < 2
      · have t2 : decide (d < 2) = true := by simpa using h2
        clear hbig HV
        go_enter Try.func4, Try.ntmps4
        go_wp2_with fail
        refine (HM.out _).mono ?_
        rintro e w' ⟨rfl, rfl⟩
        go_wp2_with fail
        refine (HA.out _).mono ?_
        rintro e V1 ⟨rfl, hb⟩
        have HB1 := hide hb
        clear hb
        go_wp2_with fail
        refine (HA.out _).mono ?_
        rintro e V2 ⟨rfl, hb⟩
        have HB2 := hide (bel HB1.out hb)
        clear hb
        go_wp2_with fail
        go_ret
        exact ⟨rfl, HB2.out⟩
      · have t2 : decide (d < 2) = false := by simpa using h2
        have t3 : decide (32768 < sz) = true := by have := hbig (by omega); simpa using this
        clear hbig HV h2
        go_enter Try.func4, Try.ntmps4
        go_wp2_with fail
        refine (HM.out _).mono ?_
        rintro e w' ⟨rfl, rfl⟩
        go_wp2_with fail
        refine (HA.out _).mono ?_
        rintro e V1 ⟨rfl, hb⟩
        have HB1 := hide hb
        clear hb
        go_wp2_with fail
        go_ret
        exact ⟨rfl, HB1.out⟩
    · have t2 : decide (d < 2) = false := by simp; omega
      rw [hq] at HV
      have t5 : (d == 0) = false := by simp; omega
      obtain ⟨T, hT⟩ : ∃ T : Int, (-a).tdiv d = T := ⟨_, rfl⟩
      rw [hT] at q1 q2
      have t4 : decide (-a < 0) = true := by simp; omega
      have t6 : q + 1 = T := q2 (by omega)
      have t7 : (T == T) = true := by simp
      clear q1 q2 hq
      go_enter Try.func4, Try.ntmps4
      go_wp2_with fail
      refine (HM.out _).mono ?_
      rintro e w' ⟨rfl, rfl⟩
      go_wp2_with fail
      refine (HA.out _).mono ?_
      rintro e V1 ⟨rfl, hb⟩
      have HB1 := hide hb
      clear hb
      go_wp2_with fail
      refine (HV.out _ _ (HasC.new V1 3 _)).mono ?_
      rintro e V2 ⟨rfl, hb⟩
      have HB2 := hide (bel (bel HB1.out (bel1 V1 _)) hb)
      clear hb
      go_wp2_with fail
      go_ret
      exact ⟨rfl, HB2.out⟩
  · have a1 : 0 ≤ x := by omega
    have a2 : x ≤ 2147483648 := by omega
    have a3 : -x ≤ x := by omega
    clear hn x1
    obtain ⟨y, hy⟩ : ∃ y : Int, more.tmod (2147483648 - x + 1) = y := ⟨_, rfl⟩
    have hy' : 0 ≤ y ∧ y ≤ 2147483648 - x := by
      rw [← hy, Int.tmod_eq_emod_of_nonneg m1]
      exact ⟨Int.emod_nonneg _ (by omega), by have := Int.emod_lt_of_pos more (show 0 < 2147483648 - x + 1 by omega); omega⟩
    obtain ⟨y1, y2⟩ := hy'
    obtain ⟨sz, hsz⟩ : ∃ sz : Int, x + y = sz := ⟨_, rfl⟩
    have HM := hide fun (w : World) => umagic_any sz d w
    obtain ⟨⟨k, s, ok⟩, hZ⟩ : ∃ Z, mgZ sz d = Z := ⟨_, rfl⟩
    have hF := mg_facts (x := x) hZ ⟨d1, d2⟩ (by omega) (by omega) (by omega) ⟨by omega, by omega⟩
    rw [hZ] at HM
    dsimp only [mgV] at HM
    have HV := hide fun (w : World) (g : Nat) (h : HasC w g 3 #[.int .i64 x]) => Ytlpebmngjagbaaa.Spn.value_any 33 k s (some ⟨g, 0, none⟩) 1 1 [x] w (Cde.spn (Cde.has_z (L := [x]) h (by simp)))
    have hr0 : (2147483648 - x + 1 == 0) = false := by simp; omega
    clear hZ
    rcases hF with ⟨rfl, rfl, rfl, hbig⟩ | ⟨rfl, hd2, q, hq, q1, q2, q3, q4⟩
    · by_cases h2 : d < 2
      · have t2 : decide (d < 2) = true := by simpa using h2
        clear hbig HV
        go_enter Try.func4, Try.ntmps4
        go_wp2_with fail
        refine (HM.out _).mono ?_
        rintro e w' ⟨rfl, rfl⟩
        go_wp2_with fail
        refine (HA.out _).mono ?_
        rintro e V1 ⟨rfl, hb⟩
        have HB1 := hide hb
        clear hb
        go_wp2_with fail
        refine (HA.out _).mono ?_
        rintro e V2 ⟨rfl, hb⟩
        have HB2 := hide (bel HB1.out hb)
        clear hb
        go_wp2_with fail
        go_ret
        exact ⟨rfl, HB2.out⟩
      · have t2 : decide (d < 2) = false := by simpa using h2
        have t3 : decide (32768 < sz) = true := by have := hbig (by omega); simpa using this
        clear hbig HV h2
        go_enter Try.func4, Try.ntmps4
        go_wp2_with fail
        refine (HM.out _).mono ?_
        rintro e w' ⟨rfl, rfl⟩
        go_wp2_with fail
        refine (HA.out _).mono ?_
        rintro e V1 ⟨rfl, hb⟩
        have HB1 := hide hb
        clear hb
        go_wp2_with fail
        go_ret
        exact ⟨rfl, HB1.out⟩
    · have t2 : decide (d < 2) = false := by simp; omega
      rw [hq] at HV
      have t5 : (d == 0) = false := by simp; omega
      obtain ⟨T, hT⟩ : ∃ T : Int, (x).tdiv d = T := ⟨_, rfl⟩
      rw [hT] at q1 q2
      have t4 : decide (x < 0) = false := by simp; omega
      have t6 : q = T := q1 (by omega)
      have t7 : (T == T) = true := by simp
      subst t6
      clear q1 q2 hq
      go_enter Try.func4, Try.ntmps4
      go_wp2_with fail
      refine (HM.out _).mono ?_
      rintro e w' ⟨rfl, rfl⟩
      go_wp2_with fail
      refine (HA.out _).mono ?_
      rintro e V1 ⟨rfl, hb⟩
      have HB1 := hide hb
      clear hb
      go_wp2_with fail
      refine (HV.out _ _ (HasC.new V1 3 _)).mono ?_
      rintro e V2 ⟨rfl, hb⟩
      have HB2 := hide (bel (bel HB1.out (bel1 V1 _)) hb)
      clear hb
      go_wp2_with fail
      go_ret
      exact ⟨rfl, HB2.out⟩

end Go.Proofs.Rdc

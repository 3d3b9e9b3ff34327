/-
  EvalMedian's walk.
-/
import Derived.Test.YtimdcmponhcngaaGreatZVaB
namespace Go.Proofs.YtimdcmponhcngaaGreat
open Go.RowKit Go.IntWalk Lx Pz
set_option linter.unusedVariables false

theorem ret_true {p : Prop} [Decidable p] (h : p) : Ending.returned (.bool (decide p)) = .returned (.bool true) := by simp [h]

set_option maxRecDepth 100000 in
set_option maxHeartbeats 8000000 in
theorem median_walk (d l u c : Int) (W : World) (hl : 0 ≤ l ∧ l ≤ 65535) (hu : 0 ≤ u ∧ u ≤ 65535) (hc : 0 ≤ c ∧ c ≤ 65535) :
    Calls Tryz.prog 7 #[.int .i64 d, .int .u16 l, .int .u16 u, .int .u16 c] W fun e w' => e = .returned (.bool true) ∧ Below W.heap.size W w' := by
  have HA := hide fun V => vawake_any V
  have HB0 := hide (bel1 W (.cells (kdA 0 d) 23))
  have HK0 := hide (HasC.new W 23 (kdA 0 d))
  by_cases h1 : d < 1
  · go_enter Tryz.func7, Tryz.ntmps7
    go_wp2_with fail
    refine (HA.out _).mono ?_
    rintro e V1 ⟨rfl, hb1⟩
    have HB1 := hide (bel HB0.out hb1)
    clear hb1
    go_wp2_with fail
    refine (HA.out _).mono ?_
    rintro e V2 ⟨rfl, hb2⟩
    go_wp2_with fail
    go_ret
    exact ⟨rfl, bel HB1.out hb2⟩
  by_cases h2 : 16 < d
  · go_enter Tryz.func7, Tryz.ntmps7
    go_wp2_with fail
    refine (HA.out _).mono ?_
    rintro e V1 ⟨rfl, hb1⟩
    have HB1 := hide (bel HB0.out hb1)
    clear hb1
    go_wp2_with fail
    refine (HA.out _).mono ?_
    rintro e V2 ⟨rfl, hb2⟩
    go_wp2_with fail
    go_ret
    exact ⟨rfl, bel HB1.out hb2⟩
  have hm : Knd.May 0 d := ⟨.inl rfl, by omega, by omega⟩
  have q1 : decide (d < 1) = false := by simpa using h1
  have q2 : decide (16 < d) = false := by simpa using h2
  have q3 : 1 ≤ d := by omega
  have q4 : d ≤ 16 := by omega
  have HF := hide fun V => flat_any 0 d 0 (m := 44) (by rw [(Knd.zs0 hm).2.2.2]; rfl) V
  go_enter Tryz.func7, Tryz.ntmps7
  go_wp2_with fail
  refine (HA.out _).mono ?_
  rintro e V1 ⟨rfl, hb1⟩
  have HB1 := hide (bel HB0.out hb1)
  have HK1 := hide (HK0.out.below hb1)
  obtain ⟨k0, k1, -, -⟩ := two_of HK1.out
  clear hb1 HB0 HK0 HA
  go_wp2_with fail
  obtain ⟨T, hT⟩ : ∃ T, wrap64 (wrap64 (2 ^ d.toNat) - 1) = T := ⟨_, rfl⟩
  have hTp : T = Knd.highZ 0 d ∧ 0 ≤ T ∧ T ≤ 65535 := by
    have hp := Knd.pw_le d (by omega)
    have e1 : wrap64 (2 ^ d.toNat) = Knd.pw d := wrap64_in _ ⟨by unfold Knd.pw at hp; omega, by unfold Knd.pw at hp; omega⟩
    rw [e1, wrap64_in _ ⟨by omega, by omega⟩] at hT
    rw [(Knd.zs0 hm).2.1, ← Knd.pw_half d (by omega)]
    omega
  obtain ⟨A, hA⟩ : ∃ A, bits BinOp.and IntKind.i64 l T = A := ⟨_, rfl⟩
  obtain ⟨B, hB⟩ : ∃ B, bits BinOp.and IntKind.i64 u T = B := ⟨_, rfl⟩
  obtain ⟨C, hC⟩ : ∃ C, bits BinOp.and IntKind.i64 c T = C := ⟨_, rfl⟩
  have pA := Spn.bw_below (a := l) (b := T) (by omega) (by omega)
  have pB := Spn.bw_below (a := u) (b := T) (by omega) (by omega)
  have pC := Spn.bw_below (a := c) (b := T) (by omega) (by omega)
  rw [show Spn.bw .and l T = A from hA] at pA
  rw [show Spn.bw .and u T = B from hB] at pB
  rw [show Spn.bw .and c T = C from hC] at pC
  rw [hT, hA, hB, hC]
  clear hT hA hB hC hl hu hc
  have HM := hide (med_ev hm (L := (((List.replicate 44 0).set 16 A).set 10 B).set 9 C) (a := A) (b := B) (c := C) rfl (by
    intro z hz
    rw [← hTp.1]
    rcases List.mem_or_eq_of_mem_set hz with hz | rfl
    · rcases List.mem_or_eq_of_mem_set hz with hz | rfl
      · rcases List.mem_or_eq_of_mem_set hz with hz | rfl
        · rw [List.eq_of_mem_replicate hz]; omega
        · omega
      · omega
    · omega) rfl rfl rfl (by omega) (by omega) (by omega))
  have HRn := hide fun (V : World) (pa : Option Addr) (pc : Nat) (h : Knd.Ints V pa 44 pc ((((List.replicate 44 0).set 16 A).set 10 B).set 9 C)) => run_dec 0 d ⟨0, 0, 0, (((List.replicate 44 0).set 16 A).set 10 B).set 9 C⟩ (s := sB awT) (by rw [bs_sB]; exact aw_ak) (by decide) aw_gp h
  rw [HM.out.1, HM.out.2] at HRn
  refine (HF.out _).mono ?_
  rintro e V2 ⟨v, rfl, hL⟩
  obtain ⟨g, cap, rfl, hg⟩ := hL.form (by simp)
  rw [List.length_replicate] at hL ⊢
  have hb := hL.bel
  have hgk : W.heap.size < g := by have := HK1.out.lt; omega
  have HL1 := hide (((((hL.set (by simp) 16 A).set (by simp) 10 B).set (by simp) 9 C).alloc (.cells (wd0 (.slice (some ⟨g, 0, none⟩) 44 cap)) 30)).drew)
  have HK2 := hide ((((((HK1.out.below hb).other (p := ⟨g, 16, none⟩) (by simp; omega) (.int .i64 A)).other (p := ⟨g, 10, none⟩) (by simp; omega) (.int .i64 B)).other (p := ⟨g, 9, none⟩) (by simp; omega) (.int .i64 C)).alloc (.cells (wd0 (.slice (some ⟨g, 0, none⟩) 44 cap)) 30)).below (below_drew _))
  have HW1 := hide ((HasC.new (((V2.setCell ⟨g, 16, none⟩ (.int .i64 A)).setCell ⟨g, 10, none⟩ (.int .i64 B)).setCell ⟨g, 9, none⟩ (.int .i64 C)) 30 (wd0 (.slice (some ⟨g, 0, none⟩) 44 cap))).below (below_drew _))
  simp only [World.size_setCell] at HW1
  have hgl := (hL.a.lt g rfl).2
  have z1 := World.ownsRow.frozenAt hL.a 16
  have z2 := World.ownsRow.frozenAt hL.a 10
  have z3 := World.ownsRow.frozenAt hL.a 9
  have c1 := World.ownsRow.cellAt hL.a 16 (by decide)
  have c2 := World.ownsRow.cellAt hL.a 10 (by decide)
  have c3 := World.ownsRow.cellAt hL.a 9 (by decide)
  rw [show (in64 (List.replicate 44 0))[16]? = some (.int .i64 0) from rfl] at c1
  rw [show (in64 (List.replicate 44 0))[10]? = some (.int .i64 0) from rfl] at c2
  rw [show (in64 (List.replicate 44 0))[9]? = some (.int .i64 0) from rfl] at c3
  have hk := (HK1.out.below hb).lt
  have HT := hide hTp
  have HPA := hide pA
  have HPB := hide pB
  have HPC := hide pC
  clear hb hL HK1 HF hgk k0 k1 pA pB pC hTp HM
  go_wp2_with fail
  go_region
  all_goals
    obtain ⟨V3, hV3⟩ : ∃ V3, ((((V2.setCell ⟨g, 16, none⟩ (.int .i64 A)).setCell ⟨g, 10, none⟩ (.int .i64 B)).setCell ⟨g, 9, none⟩ (.int .i64 C)).alloc (.cells (wd0 (.slice (some ⟨g, 0, none⟩) 44 cap)) 30)).drew = V3 := ⟨_, rfl⟩
    rw [hV3] at HL1 HK2 HW1 ⊢
    have HI := HL1.out.ints (by simp)
    have HR := hide (HRn.out _ _ _ HI)
    have HB3 := hide (bel HB1.out HL1.out.bel)
    obtain ⟨k0, k1, -, -⟩ := two_of HK2.out
    obtain ⟨w0, w1, w2, w3⟩ := four_of HW1.out
    clear hV3 HI HRn HL1 z1 z2 c1 c2 z3 c3
    obtain ⟨R, hR⟩ : ∃ R, medZ A B (A + B - C) = R := ⟨_, rfl⟩
    rw [hR] at HR
    have HM := hide hR
    clear hR
    go_wp2_with fail
    refine HR.out.mono ?_
    rintro e V4 ⟨rfl, hb4⟩
    have HB4 := hide (bel HB3.out hb4)
    clear hb4 HB3 HR
    obtain ⟨hT1, hT2, hT3⟩ := HT.out
    have pA := HPA.out
    have pB := HPB.out
    have pC := HPC.out
    have hR := HM.out
    unfold medZ at hR
    go_wp2_with fail
    all_goals
      go_ret
      exact ⟨ret_true (by omega), HB4.out⟩

end Go.Proofs.YtimdcmponhcngaaGreat

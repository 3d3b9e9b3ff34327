/-
  The walk of CodeValues.
-/
import Derived.Test.YthkihmbgdfnofaaValP
namespace Go.Proofs.Ythkihmbgdfnofaa
open Go.RowKit Go.IntWalk Knd
set_option linter.unusedVariables false

set_option maxRecDepth 100000 in
set_option maxHeartbeats 16000000 in
theorem values_walk (f d out : Int) (v : Wd) {a pa : Option Addr} {n cap pl pc : Nat} {L : List In} (W : World) (hL : Ins W a n cap L) (hP : Ints W pa pl pc v.ps) (hs : n ≤ 2932031007317) (hp : pl ≤ 17592186044000) :
    Calls Try.prog 5 #[.agg (cd f d a n cap out), .agg (wdA v pa pl pc)] W fun e W' => e = .returned (.bool true) ∧ Below W.heap.size W W' := by
  have hb1 := bel (bel1 W (.cells (cd f d a n cap out) 26)) (bel1 (W.alloc (.cells (cd f d a n cap out) 26)) (.cells (wdA v pa pl pc) 46))
  have HC0 := hide ((HasC.new W 26 (cd f d a n cap out)).alloc (.cells (wdA v pa pl pc) 46))
  have HW0 := hide (has_new1 W (.cells (cd f d a n cap out) 26) 46 (wdA v pa pl pc))
  have HB0 := hide hb1
  have HR := hide (roomyC_any f d out (hL.later hb1) (by omega))
  have HLI := hide hL
  have HPI := hide hP
  have HA := hide fun w => awake_any w
  obtain ⟨Z, hZ⟩ : ∃ Z, vaZ f d v L out = Z := ⟨_, rfl⟩
  have HLl := hide (va_few f d out v L)
  have HV1 := hide fun (V : World) (g c g4 p1 p2 : Nat) (h : Vq W V f d out v a pa n cap pl pc L g c g4 p1 p2) => cvalues_any f d out v (ins_left h.I) h.P2
  have HV2 := hide fun (V : World) (g c g4 p1 p2 : Nat) (h : Vq W V f d out v a pa n cap pl pc L g c g4 p1 p2) => xvalues_any f d out v h.L0 h.P0
  have HH1 := hide fun (V : World) (g c g4 p1 p2 : Nat) (h : Vq W V f d out v a pa n cap pl pc L g c g4 p1 p2) => heldC_any f d out h.I h.L0
  have HH2 := hide fun (V : World) (g c g4 p1 p2 : Nat) (h : Vq W V f d out v a pa n cap pl pc L g c g4 p1 p2) => Knd.held_any g4 0 pl (pl + 40) pa pc v.ps V h.more h.P0
  rw [hZ] at HLl HV1 HV2
  clear hb1 hL hP hZ
  obtain ⟨er, D⟩ := Z
  simp only at HLl
  go_enter Try.func5, Try.ntmps5
  go_wp2_with fail
  refine HR.out.mono ?_
  rintro e V1 ⟨g, c, rfl, hO, hb⟩
  have hbu := bel1 V1 (.cells (cd f d (some ⟨g, 0, none⟩) n c out) 26)
  have hbz := bel hbu (bel1 (V1.alloc (.cells (cd f d (some ⟨g, 0, none⟩) n c out) 26)) (.cells (wdA v pa pl pc) 46))
  have HC1 := hide ((HC0.out.below hb).below hbz)
  have HW1 := hide ((HW0.out.below hb).below hbz)
  have HU1 := hide ((HasC.new V1 26 (cd f d (some ⟨g, 0, none⟩) n c out)).alloc (.cells (wdA v pa pl pc) 46))
  have HZ1 := hide (has_new1 V1 (.cells (cd f d (some ⟨g, 0, none⟩) n c out) 26) 46 (wdA v pa pl pc))
  have HB1 := hide (bel (bel HB0.out hb) hbz)
  have HI1 := hide (own_later hO hbz)
  have HW2 := hide ((HW0.out.below hb).below hbu)
  have hz1 := (HW0.out.below hb).lt
  have hz0 := (HC0.out.below hb).lt
  obtain ⟨x0, x1, x2, x3⟩ := four_of (HW0.out.below hb)
  clear hb hbu hbz hO HR HC0 HW0 HB0
  have HRm := hide (Knd.roomy_any pa pl pc v.ps ((V1.alloc (.cells (cd f d (some ⟨g, 0, none⟩) n c out) 26)).alloc (.cells (wdA v pa pl pc) 46)) (HPI.out.later HB1.out) hp)
  go_wp2_with fail
  refine HRm.out.mono ?_
  rintro e V2 ⟨rfl, hO2, hb⟩
  simp only [World.size_alloc] at hO2 ⊢
  have HZ2 := HZ1.out.below hb
  have hd := (HB1.out.size)
  simp only [World.size_alloc] at hd
  have hold := (bel HB1.out hb).setCell (p := ⟨V1.heap.size + 1, 3, none⟩) (by simp; omega) (.slice (some ⟨V1.heap.size + 1 + 1, 0, none⟩) pl (pl + 40))
  have hq : Vq W (V2.setCell ⟨V1.heap.size + 1, 3, none⟩ (.slice (some ⟨V1.heap.size + 1 + 1, 0, none⟩) pl (pl + 40))) f d out v a pa n cap pl pc L g c (V1.heap.size + 1 + 1) V1.heap.size (V1.heap.size + 1) :=
    ⟨hold, (HC1.out.below hb).other (p := ⟨V1.heap.size + 1, 3, none⟩) (by simp; omega) _, (HW1.out.below hb).other (p := ⟨V1.heap.size + 1, 3, none⟩) (by simp; omega) _, (HU1.out.below hb).other (p := ⟨V1.heap.size + 1, 3, none⟩) (by simp) _, HZ2.set 3 _,
      roomy_ins (owns_other (own_later HI1.out hb) HZ2 (by decide) _), own_mono (owns_other hO2 HZ2 (by decide) _) (by omega), HLI.out.later hold, HPI.out.later hold⟩
  have HQ3 := hide hq
  have s3 := HZ2.frozen 3
  obtain ⟨t0, t1, t2, t3⟩ := four_of HZ2
  have hz2 := HZ2.lt
  obtain ⟨o0, o1, o2, o3⟩ := four_of (HU1.out.below hb)
  have hz3 := (HU1.out.below hb).lt
  obtain ⟨u0, u1, u2, u3⟩ := four_of HQ3.out.u
  obtain ⟨z0, z1, z2, z3⟩ := four_of HQ3.out.z
  have hg4 := (hO2.lt _ rfl).2
  have HG4 := hide (show V1.heap.size + 1 + 1 < (V2.setCell ⟨V1.heap.size + 1, 3, none⟩ (.slice (some ⟨V1.heap.size + 1 + 1, 0, none⟩) pl (pl + 40))).heap.size by simp only [World.size_setCell]; exact hg4)
  clear hb hO2 HZ2 hold hq HZ1 HU1 HC1 HW1 HB1 HI1 HW2 HRm x0 x1 x2 x3 hd hz0 hz1 hg4
  go_wp2_with fail
  obtain ⟨V3, hV3⟩ : ∃ V3, V2.setCell ⟨V1.heap.size + 1, 3, none⟩ (.slice (some ⟨V1.heap.size + 1 + 1, 0, none⟩) pl (pl + 40)) = V3 := ⟨_, rfl⟩
  rw [hV3] at HQ3 HG4 ⊢
  clear hV3 s3 t0 t1 t2 t3 hz2 hz3 o0 o1 o2 o3 u0 u1 u2 u3 z0 z1 z2 z3
  generalize V1.heap.size + 1 + 1 = g4 at *
  generalize V1.heap.size + 1 = p2 at *
  generalize V1.heap.size = p1 at *
  refine (HV1.out _ _ _ _ _ _ HQ3.out).mono ?_
  rintro e V4 ⟨a1, c1, rfl, hO1, hb⟩
  simp only at hO1 ⊢
  have HQ4 := hide (HQ3.out.later hb)
  have HL4 := hide hO1
  have HS4 := hide hO1.lt
  have HZ4 := hide hb.size
  clear hb hO1
  obtain ⟨x0, x1, x2, x3⟩ := four_of HQ4.out.b0
  obtain ⟨y0, y1, y2, y3⟩ := four_of HQ4.out.b1
  go_wp2_with fail
  refine (HV2.out _ _ _ _ _ _ HQ4.out).mono ?_
  rintro e V5 ⟨a2, c2, rfl, hO2, hb⟩
  simp only at hO2 ⊢
  have HQ5 := hide (HQ4.out.later hb)
  have HL5 := hide (own_later HL4.out hb)
  have HM5 := hide (tw_ints hO2)
  have HZ5 := hide hb.size
  clear hb hO2 HQ4 HL4 x0 x1 x2 x3 y0 y1 y2 y3 HV2
  obtain ⟨x0, x1, x2, x3⟩ := four_of HQ5.out.u
  obtain ⟨y0, y1, y2, y3⟩ := four_of HQ5.out.z
  go_wp2_with fail
  refine (HV1.out _ _ _ _ _ _ HQ5.out).mono ?_
  rintro e V6 ⟨a3, c3, rfl, hO3, hb⟩
  simp only at hO3 ⊢
  have HQ6 := hide (HQ5.out.later hb)
  have HL6 := hide (own_later HL5.out hb)
  have HM6 := hide (HM5.out.later hb)
  have HK6 := hide hO3
  have HS6 := hide hO3.lt
  clear hb hO3 HQ5 HL5 HM5 x0 x1 x2 x3 y0 y1 y2 y3 HV1
  go_wp2_with fail
  refine (HA.out _).mono ?_
  rintro e V7 ⟨rfl, hb⟩
  have HQ7 := hide (HQ6.out.later hb)
  have HL7 := hide (own_later HL6.out hb)
  have HM7 := hide (HM6.out.later hb)
  have HK7 := hide (own_later HK6.out hb)
  have HZ7 := hide hb.size
  clear hb HQ6 HL6 HM6 HK6 HA
  have HS := hide (Knd.sameI_self a1 a2 D.length D.length c1 c2 D V7 (tw_ints HL7.out) HM7.out)
  go_wp2_with fail
  refine HS.out.mono ?_
  rintro e V8 ⟨rfl, q1, rfl⟩
  have hb := below_dN V7 q1
  have HQ8 := hide (HQ7.out.later hb)
  have HL8 := hide (own_later HL7.out hb)
  have HM8 := hide (HM7.out.later hb)
  have HK8 := hide (own_later HK7.out hb)
  have HZ8 := hide (Nat.le_trans HZ7.out hb.size)
  clear hb HQ7 HL7 HM7 HK7 HS HZ7
  generalize V7.drewN q1 = V8 at *
  have HS := hide (Knd.sameI_self a3 a2 D.length D.length c3 c2 D V8 (tw_ints HK8.out) HM8.out)
  go_wp2_with fail
  refine HS.out.mono ?_
  rintro e V9 ⟨rfl, q2, rfl⟩
  have hb := below_dN V8 q2
  have HQ9 := hide (HQ8.out.later hb)
  have HL9 := hide (own_later HL8.out hb)
  have HK9 := hide (own_later HK8.out hb)
  have HZ9 := hide (Nat.le_trans HZ8.out hb.size)
  clear hb HQ8 HL8 HM8 HK8 HS HZ8
  generalize V8.drewN q2 = V9 at *
  obtain ⟨x0, x1, x2, x3⟩ := four_of HQ9.out.u
  obtain ⟨y0, y1, y2, y3⟩ := four_of HQ9.out.b0
  go_wp2_with fail
  refine (HH1.out _ _ _ _ _ _ HQ9.out).mono ?_
  rintro e V10 ⟨rfl, hb⟩
  have HQ10 := hide (HQ9.out.later hb)
  have HL10 := hide (own_later HL9.out hb)
  have HK10 := hide (own_later HK9.out hb)
  have HZ10 := hide (Nat.le_trans HZ9.out hb.size)
  clear hb HQ9 HL9 HK9 HZ9 HH1 x0 x1 x2 x3 y0 y1 y2 y3
  obtain ⟨x0, x1, x2, x3⟩ := four_of HQ10.out.z
  obtain ⟨y0, y1, y2, y3⟩ := four_of HQ10.out.b1
  go_wp2_with fail
  refine (HH2.out _ _ _ _ _ _ HQ10.out).mono ?_
  rintro e V11 ⟨rfl, q3, rfl⟩
  have hb := below_dN V10 q3
  have HQ11 := hide (HQ10.out.later hb)
  have HL11 := hide (own_later HL10.out hb)
  have HK11 := hide (own_later HK10.out hb)
  have HZ11 := hide (Nat.le_trans HZ10.out hb.size)
  clear hb HQ10 HL10 HK10 HZ10 HH2 x0 x1 x2 x3 y0 y1 y2 y3
  generalize V10.drewN q3 = V11 at *
  obtain ⟨x0, x1, x2, x3⟩ := four_of HQ11.out.z
  go_wp2_with fail
  have hba := bel1 V11 (.cells #[.slice a1 D.length c1, .slice a3 D.length c3, .slice (some ⟨g4, 0, none⟩) pl (pl + 40)] 33)
  have hX := HasC.new V11 33 #[.slice a1 D.length c1, .slice a3 D.length c3, .slice (some ⟨g4, 0, none⟩) pl (pl + 40)]
  have r0 := own_later HL11.out hba
  have r1 := own_later HK11.out hba
  have r2 := own_later HQ11.out.own hba
  have hA : ∀ k, Value.ownBlock (.slice a1 D.length c1) = some k → V3.heap.size ≤ k ∧ k < V4.heap.size := HS4.out
  have hC : ∀ k, Value.ownBlock (.slice a3 D.length c3) = some k → V5.heap.size ≤ k ∧ k < V6.heap.size := HS6.out
  have hD : ∀ k, Value.ownBlock (.slice (some ⟨g4, 0, none⟩) pl (pl + 40)) = some k → W.heap.size ≤ k ∧ k < V3.heap.size := fun k hk => by
    have h4 : k = g4 := by simp [Value.ownBlock] at hk; exact hk.symm
    subst h4
    exact ⟨(HQ11.out.O.lt _ rfl).1, HG4.out⟩
  have s4 := HZ4.out
  have s5 := HZ5.out
  have s6 := HZ11.out
  have s3 : W.heap.size ≤ V3.heap.size := by have := hD g4 rfl; omega
  have hlf := HLl.out
  have hl : Ap.Lists (V11.alloc (.cells #[.slice a1 D.length c1, .slice a3 D.length c3, .slice (some ⟨g4, 0, none⟩) pl (pl + 40)] 33)) V11.heap.size 3 (fun i => if i = 0 then .slice a1 D.length c1 else if i = 1 then .slice a3 D.length c3 else .slice (some ⟨g4, 0, none⟩) pl (pl + 40)) (fun i => if i = 0 then D.length else if i = 1 then D.length else pl) := by
    have s7 : ∀ k, Value.ownBlock (.slice a1 D.length c1) = some k → k < V11.heap.size := fun k hk => (HL11.out.lt k hk).2
    have s8 : ∀ k, Value.ownBlock (.slice a3 D.length c3) = some k → k < V11.heap.size := fun k hk => (HK11.out.lt k hk).2
    refine ⟨hX.lt, fun i hi => ?_, fun i hi => ?_, fun i j hi hj hij k hk => ?_, fun i hi => ?_, fun i hi => ?_, by omega⟩
    · match i, hi with
      | 0, _ => exact hX.cell 0 rfl
      | 1, _ => exact hX.cell 1 rfl
      | 2, _ => exact hX.cell 2 rfl
    · match i, hi with
      | 0, _ => exact ⟨_, own_mono r0 (Nat.zero_le _)⟩
      | 1, _ => exact ⟨_, own_mono r1 (Nat.zero_le _)⟩
      | 2, _ => exact ⟨_, own_mono r2 (Nat.zero_le _)⟩
    · intro hk2
      match i, hi, j, hj with
      | 0, _, 0, _ => exact hij rfl
      | 1, _, 1, _ => exact hij rfl
      | 2, _, 2, _ => exact hij rfl
      | 0, _, 1, _ => have h1 := hA k hk; have h2 := hC k hk2; omega
      | 0, _, 2, _ => have h1 := hA k hk; have h2 := hD k hk2; omega
      | 1, _, 0, _ => have h1 := hC k hk; have h2 := hA k hk2; omega
      | 1, _, 2, _ => have h1 := hC k hk; have h2 := hD k hk2; omega
      | 2, _, 0, _ => have h1 := hD k hk; have h2 := hA k hk2; omega
      | 2, _, 1, _ => have h1 := hD k hk; have h2 := hC k hk2; omega
    · intro hk2
      match i, hi with
      | 0, _ => have h1 := s7 _ hk2; omega
      | 1, _ => have h1 := s8 _ hk2; omega
      | 2, _ => have h1 := (HQ11.out.O.lt g4 rfl).2; simp [Value.ownBlock] at hk2; omega
    · match i, hi with
      | 0, _ => show D.length ≤ 17592186044000; omega
      | 1, _ => show D.length ≤ 17592186044000; omega
      | 2, _ => exact hp
  have HLs := hide hl
  have HBf := hide (bel HQ11.out.old hba)
  have HOf := hide (show ∀ k, Ap.Of 3 (fun i => if i = 0 then .slice a1 D.length c1 else if i = 1 then .slice a3 D.length c3 else .slice (some ⟨g4, 0, none⟩) pl (pl + 40)) k → W.heap.size ≤ k from by
    rintro k ⟨i, hi, hk⟩
    match i, hi with
    | 0, _ => have h1 := (hA k hk).1; omega
    | 1, _ => have h1 := (hC k hk).1; omega
    | 2, _ => exact (hD k hk).1)
  clear hl r0 r1 r2 hX hba hA hC hD s3 s4 s5 s6 hlf x0 x1 x2 x3
  refine (show Calls Try.prog 21 #[.slice (some ⟨V11.heap.size, 0, none⟩) 3 3] _ _ from Ap.apart_any V11.heap.size 3 3 _ _ _ HLs.out).mono ?_
  rintro e V12 ⟨rfl, hK⟩
  have HB13 := hide (HBf.out.trans (hK.below (B := W.heap.size) HBf.out.size HOf.out))
  clear hK
  go_wp2_with fail
  go_ret
  exact ⟨rfl, HB13.out⟩

end Go.Proofs.Ythkihmbgdfnofaa

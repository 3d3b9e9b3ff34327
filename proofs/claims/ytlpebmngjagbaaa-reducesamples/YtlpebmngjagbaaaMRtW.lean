/-
  ReduceSamples' walk: the code is taken.
-/
import Derived.Test.YtlpebmngjagbaaaMRsW
namespace Go.Proofs.Rdc
open Go.RowKit Go.IntWalk Ytlpebmngjagbaaa.Knd
open Ytlpebmngjagbaaa (Wd wdA Fits)
open Cde (In i0 ia kd cd Ins is6 four_of two_of vaZ TwP zA below_drew six_of)
open Vfy (vfE vfN vfC w32)
set_option linter.unusedVariables false

theorem tm_few {x d : Int} (h1 : -2147483648 ≤ x) (h2 : x ≤ 2147483647) : -2147483648 ≤ x.tmod d ∧ x.tmod d ≤ 2147483647 := by
  have h := Int.natAbs_tmod x d
  have h3 := Nat.mod_le x.natAbs d.natAbs
  rw [← h] at h3
  by_cases h0 : 0 ≤ x
  · have := Int.tmod_nonneg d h0
    exact ⟨by omega, by omega⟩
  · have h4 := Int.tmod_nonneg d (show 0 ≤ -x by omega)
    rw [Int.neg_tmod] at h4
    exact ⟨by omega, by omega⟩

set_option maxRecDepth 100000 in
set_option maxHeartbeats 16000000 in
theorem rsam_ok (f dd d x : Int) {W : World} (hm : May f dd) (hd : 2 ≤ d ∧ d ≤ 65535) (h : vfE f dd (smC d) 6 = 0) :
    Calls Try.prog 7 #[.agg (kd f dd), .int .u16 d, .int .i64 x] W fun e w' => e = .returned (.bool true) ∧ Below W.heap.size W w' := by
  have HA := hide fun V => uawake_any V
  have HB0 := hide (bel1 W (.cells (kd f dd) 33))
  have HK0 := hide (HasC.new W 33 (kd f dd))
  obtain ⟨d1, d2⟩ := hd
  have h2 : decide (d < 2) = false := by simpa using d1
  have HC := hide fun w => check_ok f dd w hm
  have hlh := lo_lt hm
  obtain ⟨-, hlo, hhi⟩ := lh_bounds hm
  have HOps := hide (sm_ops d1 d2 h)
  obtain ⟨cz, hcz⟩ : ∃ cz : Nat, (cz : Int) = countZ f dd := ⟨(countZ f dd).toNat, by have := hm; unfold countZ; rw [if_pos hm]; split <;> rfl⟩
  have hcz2 : cz ≤ 44 := by
    have h3 : countZ f dd ≤ 44 := by unfold countZ; rw [if_pos hm]; split <;> omega
    omega
  have HAll := hide fun y h1 h2 => sm_all (x := y) hcz d1 d2 h h1 h2
  have HCo := hide fun w => rcount_any f dd w
  rw [← hcz] at HCo
  obtain ⟨m, hme⟩ : ∃ m, (rxL f dd (smC d) 6).length = m := ⟨_, rfl⟩
  have hml : m ≤ 200 := by
    obtain ⟨hv, -⟩ := rx_means h
    obtain ⟨mc', -⟩ := Vfy.vf_parts hv
    obtain ⟨-, -, ml, -, -, -⟩ := Cde.mc_parts mc'
    rw [hme] at ml
    exact ml
  have HRe := hide fun (V : World) (a : Option Addr) (h' : Ins V a 7 7 (smC d)) => ureduce_ok f dd 6 h' h hme
  have HVa := hide fun (V : World) (y : Int) (a p : Option Addr) (c pc : Nat) (P : List Int) (pl : Nat) (h' : Ins V a m c (rxL f dd (smC d) 6)) (hp : Ints V p pl pc P) => Cde.cvalues_any f dd (rxO f dd (smC d) 6) ⟨0, 0, 0, P⟩ h' hp
  have HLow := hide fun w => low_any f dd w
  have HHigh := hide fun w => high_any f dd w
  rw [hme] at HAll
  generalize rxL f dd (smC d) 6 = I at *
  generalize rxO f dd (smC d) 6 = u at *
  have HIl := hide hme
  generalize lowZ f dd = lo at *
  generalize highZ f dd = hi at *
  clear h hcz hme hm
  go_enter Try.func7, Try.ntmps7
  go_wp2_with fail
  refine (HA.out _).mono ?_
  rintro e V1 ⟨rfl, hb⟩
  have HB1 := hide (bel HB0.out hb)
  have HK1 := hide (HK0.out.below hb)
  obtain ⟨k0, k1⟩ := two_of HK1.out
  clear hb
  go_wp2_with fail
  refine (HC.out _).mono ?_
  rintro e V2 ⟨rfl, hb⟩
  have HB2 := hide (bel HB1.out hb)
  have HK2 := hide (HK1.out.below hb)
  clear hb k0 k1 HK1 HK0 HB0 HB1
  obtain ⟨k0, k1⟩ := two_of HK2.out
  have hkl := HK2.out.lt
  have HX : Hid (Ins ((V2.alloc (.cells (is6 (smC d)).toArray 53)).alloc (.cells (cd f dd (some ⟨V2.heap.size, 0, none⟩) 7 7 6) 36)) (some ⟨V2.heap.size, 0, none⟩) 7 7 (smC d) ∧ HasC ((V2.alloc (.cells (is6 (smC d)).toArray 53)).alloc (.cells (cd f dd (some ⟨V2.heap.size, 0, none⟩) 7 7 6) 36)) (V2.heap.size + 1) 36 (cd f dd (some ⟨V2.heap.size, 0, none⟩) 7 7 6) ∧ HasC ((V2.alloc (.cells (is6 (smC d)).toArray 53)).alloc (.cells (cd f dd (some ⟨V2.heap.size, 0, none⟩) 7 7 6) 36)) W.heap.size 33 (kd f dd) ∧ Below W.heap.size W ((V2.alloc (.cells (is6 (smC d)).toArray 53)).alloc (.cells (cd f dd (some ⟨V2.heap.size, 0, none⟩) 7 7 6) 36))) :=
    hide ⟨(Cde.has_ins (L := smC d) (HasC.new V2 53 (is6 (smC d)).toArray) (by simp [smC])).later (bel1 _ _), Cde.has_new1 V2 _ 36 _, (HK2.out.below (bel1 _ _)).below (bel1 _ _), bel (bel HB2.out (bel1 _ _)) (bel1 _ _)⟩
  go_wp2_with fail
  refine (HRe.out _ _ HX.out.1).mono ?_
  rintro e V3 ⟨a3, l3, rfl, hO, hb⟩
  have HY : Hid (HasC V3 W.heap.size 33 (kd f dd) ∧ Below W.heap.size W V3) := hide ⟨HX.out.2.2.1.below hb, bel HX.out.2.2.2 hb⟩
  obtain ⟨a', c', e', hI3, -⟩ := Ins.of_owns hO
  cases e'
  have HR4 := hide (HasC.new V3 36 (cd f dd a3 m l3 u))
  have HI4 := hide (hI3.later (bel1 V3 (.cells (cd f dd a3 m l3 u) 36)))
  have HK4 := hide (HY.out.1.below (bel1 V3 (.cells (cd f dd a3 m l3 u) 36)))
  have HB4 := hide (bel HY.out.2 (bel1 V3 (.cells (cd f dd a3 m l3 u) 36)))
  clear hb hO hI3 HX HRe HY k0 k1 hkl HK2 HB2
  go_upto_region 9 with fail
  obtain ⟨V4, hV4⟩ : ∃ V4, V3.alloc (.cells (cd f dd a3 m l3 u) 36) = V4 := ⟨_, rfl⟩
  rw [hV4] at HR4 HI4 HK4 HB4 ⊢
  clear hV4
  generalize V3.heap.size = gr at *
  obtain ⟨r0, r1, r2, r3⟩ := four_of HR4.out
  go_wp2_with fail
  go_loop [13] (fun i => ∃ k : Nat, k ≤ m ∧ i = .int .i64 k) (fun i => m - (intOf i).toNat)
  case atStart => exact ⟨0, Nat.zero_le _, rfl⟩
  case round =>
    obtain ⟨k, hk, rfl⟩ := hrel
    by_cases hlt : k < m
    · obtain ⟨gl, off, rfl, -, hat⟩ := HI4.out.at (by omega)
      obtain ⟨e0, e1, e2, e3, e4, e5⟩ := hat k hlt
      have hmem : I.getD k i0 ∈ I := Cde.getD_mem i0 (by rw [HIl.out]; exact hlt)
      obtain ⟨o1, o2, o3⟩ := HOps.out _ hmem
      generalize I.getD k i0 = q at *
      have t1 : (q.op == 11) = false := by simpa using o2
      have t2 : (q.op == 10) = false := by simpa using o1
      have t3 : (q.op == 15) = false := by simpa using o3
      have i1 : (0 : Int) ≤ k := by omega
      have i2 : (k : Int) < m := by omega
      clear hat hmem o1 o2 o3
      go_wp2_with fail
      go_round
      case rel => exact ⟨k + 1, by omega, by go_num⟩
      case measure => simp [intOf]; omega
    · have hkm : m = k := by omega
      subst hkm
      clear HOps
      obtain ⟨k0, k1⟩ := two_of HK4.out
      have j0 := cell_regrown k0
      have j1 := cell_regrown k1
      go_wp2_with fail
      refine wp_region_quiet_below mixedF (by kernel_rfl) ?_
      repeat (go_big_quiet_step (fail))
      go_big_quiet_step ((go_at_call 21; exact Calls.regrown_of (HLow.out _)))
      repeat (go_big_quiet_step (fail))
      go_big_quiet_step ((go_at_call 22; exact Calls.regrown_of (HHigh.out _)))
      repeat (go_big_quiet_step (fail))
      refine wpQuiet_nil ?_
      intro V5 hw'
      obtain ⟨⟨dq, osq⟩, hw''⟩ := hw'
      have hb := below_regrown V4 dq osq
      simp only at hw''
      rw [← hw''] at hb
      have HR5 := hide (HR4.out.below hb)
      have HI5 := hide (HI4.out.later hb)
      have HK5 := hide (HK4.out.below hb)
      have HB5 := hide (bel HB4.out hb)
      clear r0 r1 r2 r3 hw'' hb k0 k1 j0 j1 HR4 HI4 HK4 HB4 HLow HHigh
      have HS0 : Hid (Sq V5 (V5.alloc (.cells #[.int .i64 0, .int .i64 0, .int .i64 0, .slice none 0 0] 39)) (.slice none 0 0) []) := hide ⟨HasC.new V5 39 _, ⟨rfl, .inl ⟨rfl, rfl⟩⟩, bel1 _ _⟩
      have hy3 : (hi ≤ x ∧ lo < hi) ∨ (x < hi ∧ x ≤ lo) ∨ (x < hi ∧ lo < x) := by omega
      rcases hy3 with ⟨q1, q2⟩ | ⟨q1, q2⟩ | ⟨q1, q2⟩
      · have HU := hide (HAll.out hi (by omega) (by omega))
        have y1 : -2147483648 ≤ hi := by omega
        have y2 : hi ≤ 2147483647 := by omega
        obtain ⟨T1, hT1⟩ : ∃ T1 : Int, (hi).tmod d = T1 := ⟨_, rfl⟩
        have hT1b := tm_few (d := d) y1 y2
        rw [hT1] at hT1b
        have hwT : IntKind.i64.wrap T1 = T1 := by rw [IntKind.wrap_i64]; omega
        have hwT2 : wrap64 T1 = T1 := wrap64_in _ ⟨by omega, by omega⟩
        obtain ⟨T2, hT2⟩ : ∃ T2 : Int, bits .and .i64 hi d = T2 := ⟨_, rfl⟩
        rw [hT1, hT2] at HU
        have HT1 := hide hT1
        have HT2 := hide hT2
        clear hT1 hT2 HAll
        go_wp2_with fail
        go_loopw [18] (fun i wr => ∃ (k : Nat) (pv : Value) (P : List Int), k ≤ cz ∧ i = .int .i64 k ∧ Hid (P = List.replicate k hi) ∧ Hid (P.length = k) ∧ Hid (Sq V5 wr pv P)) (fun i _ => cz - (intOf i).toNat)
        case atStart => exact ⟨0, _, [], Nat.zero_le _, rfl, hide rfl, hide rfl, HS0⟩
        case round =>
          obtain ⟨k, pv, P, hk, rfl, HP, HPl, HS⟩ := hrel
          rename World => V7
          clear HS0
          obtain ⟨k0, k1⟩ := two_of (HK5.out.below HS.out.lo)
          go_wp2_with fail
          refine (HCo.out _).mono ?_
          rintro e V8 ⟨rfl, hb⟩
          have HS8 := hide (HS.out.below hb)
          clear hb k0 k1 HS
          obtain ⟨pa, pc, rfl, hPI, -⟩ := Ints.of_owns HS8.out.p
          have HPI := hide hPI
          clear hPI
          by_cases hlt : k < cz
          · have w3 := HS8.out.w.cell 3 rfl
            have hwl := HS8.out.w.lt
            have HN9 := hide (HasC.new V8 3 #[.int .i64 hi])
            have HS9 := hide (HS8.out.below (bel1 V8 (.cells #[.int .i64 hi] 3)))
            have i2 : (k : Int) < cz := by omega
            have HP2 : Hid (P ++ [hi] = List.replicate (k + 1) hi) := hide (by rw [HP.out, List.replicate_succ'])
            clear HP
            go_wp2_with (at_builtin; refine int_list rfl _ _ rfl rfl HS9.out.p HS9.out.lo.size _ hi rfl HN9.out (by rw [HPl.out]; omega) ?_; intro g cap' w3 hown hgr; have hS10 := HS9.out.grow hgr hown; have hc3 := own_grow HS9.out.p hgr HS9.out.w (by decide); have v3 := hc3.cell 3 rfl; have yv := hc3.frozen 3; have hl3 := hc3.lt)
            have HS10 := hide hS10
            clear hS10 hown hgr hc3
            go_wp2_with fail
            go_roundw
            case rel => exact ⟨k + 1, _, P ++ [hi], by omega, by go_num, HP2, hide (by simp [HPl.out]), HS10⟩
            case measure => simp [intOf]; omega
          · obtain rfl : k = cz := by omega
            have hU := HU.out
            rw [← HP.out] at hU
            obtain ⟨U, u1, u2, u3, u4, u5⟩ := hU
            have hv := HVa.out V8 hi _ _ _ _ P P.length (HI5.out.later HS8.out.lo) HPI.out
            rw [u1] at hv
            have HV8 := hide hv
            have HR8 := hide (HR5.out.below HS8.out.lo)
            obtain ⟨r0, r1, r2, r3⟩ := four_of HR8.out
            obtain ⟨w0, w1, w2, w3⟩ := four_of HS8.out.w
            have HU2 := hide u2
            have HU3 := hide u3
            have HU4 := hide u4
            have HU5 := hide u5
            have HB8 := hide (bel HB5.out HS8.out.lo)
            have q4 : decide ((k : Int) < (k : Int)) = false := by simp
            clear u1 u2 u3 u4 u5 hv HU HVa HPI
            go_wp2_with fail
            refine HV8.out.mono ?_
            rintro e V9 ⟨la, lc, rfl, hO, hb⟩
            dsimp only at hO ⊢
            have HX9 := hide (Cde.tw_ints hO)
            rw [HU2.out] at HX9 ⊢
            have HR9 := hide (HR8.out.below hb)
            have HB9 := hide (bel HB8.out hb)
            clear hO hb HV8 r0 r1 r2 r3 w0 w1 w2 w3 HS8 HR8 HB8
            obtain ⟨p, hp⟩ : ∃ p : Nat, u = p := ⟨u.toNat, by have := HU3.out; omega⟩
            subst hp
            have hu4 := HU4.out
            have hu5 := HU5.out
            rw [Int.toNat_natCast] at hu4 hu5
            obtain ⟨bx, fx, rfl, -, gx⟩ := HX9.out.at (by omega)
            have s1 := gx p hu4
            obtain ⟨r0, r1, r2, r3⟩ := four_of HR9.out
            have i1 : (0 : Int) ≤ p := by omega
            have i2 : (p : Int) < m := by omega
            have i3 : decide (p < m) = true := by simp; omega
            have i5 : (d == 0) = false := by simp; omega
            have i6 : ¬ d = 0 := by omega
            have hmx : (T2 ≤ T1 ∧ max T1 T2 = T1) ∨ (T1 < T2 ∧ max T1 T2 = T2) := by omega
            have hT1 := HT1.out
            have hT2 := HT2.out
            rcases hmx with ⟨m1, m2⟩ | ⟨m1, m2⟩
            all_goals
              rw [hu5, m2] at s1
              have j3 := cell_regrown r3
              have t1 := cell_regrown s1
              clear gx hu5 HU2 HU3 HU4 HU5 HX9 m2 HT1 HT2
              go_wp2_with fail
              refine wp_region_quiet_below mixedF (by kernel_rfl) ?_
              repeat (go_big_quiet_step (fail))
              refine wpQuiet_nil ?_
              intro V10 hw'
              obtain ⟨⟨dq2, osq2⟩, hw''⟩ := hw'
              have hb := below_regrown V9 dq2 osq2
              simp only at hw''
              rw [← hw''] at hb
              have HB10 := hide (bel HB9.out hb)
              clear hw'' hb j3 t1 s1 r0 r1 r2 r3
              go_wp2_with fail
              go_ret
              exact ⟨rfl, HB10.out⟩
      · have HU := hide (HAll.out lo (by omega) (by omega))
        have y1 : -2147483648 ≤ lo := by omega
        have y2 : lo ≤ 2147483647 := by omega
        obtain ⟨T1, hT1⟩ : ∃ T1 : Int, (lo).tmod d = T1 := ⟨_, rfl⟩
        have hT1b := tm_few (d := d) y1 y2
        rw [hT1] at hT1b
        have hwT : IntKind.i64.wrap T1 = T1 := by rw [IntKind.wrap_i64]; omega
        have hwT2 : wrap64 T1 = T1 := wrap64_in _ ⟨by omega, by omega⟩
        obtain ⟨T2, hT2⟩ : ∃ T2 : Int, bits .and .i64 lo d = T2 := ⟨_, rfl⟩
        rw [hT1, hT2] at HU
        have HT1 := hide hT1
        have HT2 := hide hT2
        clear hT1 hT2 HAll
        go_wp2_with fail
        go_loopw [18] (fun i wr => ∃ (k : Nat) (pv : Value) (P : List Int), k ≤ cz ∧ i = .int .i64 k ∧ Hid (P = List.replicate k lo) ∧ Hid (P.length = k) ∧ Hid (Sq V5 wr pv P)) (fun i _ => cz - (intOf i).toNat)
        case atStart => exact ⟨0, _, [], Nat.zero_le _, rfl, hide rfl, hide rfl, HS0⟩
        case round =>
          obtain ⟨k, pv, P, hk, rfl, HP, HPl, HS⟩ := hrel
          rename World => V7
          clear HS0
          obtain ⟨k0, k1⟩ := two_of (HK5.out.below HS.out.lo)
          go_wp2_with fail
          refine (HCo.out _).mono ?_
          rintro e V8 ⟨rfl, hb⟩
          have HS8 := hide (HS.out.below hb)
          clear hb k0 k1 HS
          obtain ⟨pa, pc, rfl, hPI, -⟩ := Ints.of_owns HS8.out.p
          have HPI := hide hPI
          clear hPI
          by_cases hlt : k < cz
          · have w3 := HS8.out.w.cell 3 rfl
            have hwl := HS8.out.w.lt
            have HN9 := hide (HasC.new V8 3 #[.int .i64 lo])
            have HS9 := hide (HS8.out.below (bel1 V8 (.cells #[.int .i64 lo] 3)))
            have i2 : (k : Int) < cz := by omega
            have HP2 : Hid (P ++ [lo] = List.replicate (k + 1) lo) := hide (by rw [HP.out, List.replicate_succ'])
            clear HP
            go_wp2_with (at_builtin; refine int_list rfl _ _ rfl rfl HS9.out.p HS9.out.lo.size _ lo rfl HN9.out (by rw [HPl.out]; omega) ?_; intro g cap' w3 hown hgr; have hS10 := HS9.out.grow hgr hown; have hc3 := own_grow HS9.out.p hgr HS9.out.w (by decide); have v3 := hc3.cell 3 rfl; have yv := hc3.frozen 3; have hl3 := hc3.lt)
            have HS10 := hide hS10
            clear hS10 hown hgr hc3
            go_wp2_with fail
            go_roundw
            case rel => exact ⟨k + 1, _, P ++ [lo], by omega, by go_num, HP2, hide (by simp [HPl.out]), HS10⟩
            case measure => simp [intOf]; omega
          · obtain rfl : k = cz := by omega
            have hU := HU.out
            rw [← HP.out] at hU
            obtain ⟨U, u1, u2, u3, u4, u5⟩ := hU
            have hv := HVa.out V8 lo _ _ _ _ P P.length (HI5.out.later HS8.out.lo) HPI.out
            rw [u1] at hv
            have HV8 := hide hv
            have HR8 := hide (HR5.out.below HS8.out.lo)
            obtain ⟨r0, r1, r2, r3⟩ := four_of HR8.out
            obtain ⟨w0, w1, w2, w3⟩ := four_of HS8.out.w
            have HU2 := hide u2
            have HU3 := hide u3
            have HU4 := hide u4
            have HU5 := hide u5
            have HB8 := hide (bel HB5.out HS8.out.lo)
            have q4 : decide ((k : Int) < (k : Int)) = false := by simp
            clear u1 u2 u3 u4 u5 hv HU HVa HPI
            go_wp2_with fail
            refine HV8.out.mono ?_
            rintro e V9 ⟨la, lc, rfl, hO, hb⟩
            dsimp only at hO ⊢
            have HX9 := hide (Cde.tw_ints hO)
            rw [HU2.out] at HX9 ⊢
            have HR9 := hide (HR8.out.below hb)
            have HB9 := hide (bel HB8.out hb)
            clear hO hb HV8 r0 r1 r2 r3 w0 w1 w2 w3 HS8 HR8 HB8
            obtain ⟨p, hp⟩ : ∃ p : Nat, u = p := ⟨u.toNat, by have := HU3.out; omega⟩
            subst hp
            have hu4 := HU4.out
            have hu5 := HU5.out
            rw [Int.toNat_natCast] at hu4 hu5
            obtain ⟨bx, fx, rfl, -, gx⟩ := HX9.out.at (by omega)
            have s1 := gx p hu4
            obtain ⟨r0, r1, r2, r3⟩ := four_of HR9.out
            have i1 : (0 : Int) ≤ p := by omega
            have i2 : (p : Int) < m := by omega
            have i3 : decide (p < m) = true := by simp; omega
            have i5 : (d == 0) = false := by simp; omega
            have i6 : ¬ d = 0 := by omega
            have hmx : (T2 ≤ T1 ∧ max T1 T2 = T1) ∨ (T1 < T2 ∧ max T1 T2 = T2) := by omega
            have hT1 := HT1.out
            have hT2 := HT2.out
            rcases hmx with ⟨m1, m2⟩ | ⟨m1, m2⟩
            all_goals
              rw [hu5, m2] at s1
              have j3 := cell_regrown r3
              have t1 := cell_regrown s1
              clear gx hu5 HU2 HU3 HU4 HU5 HX9 m2 HT1 HT2
              go_wp2_with fail
              refine wp_region_quiet_below mixedF (by kernel_rfl) ?_
              repeat (go_big_quiet_step (fail))
              refine wpQuiet_nil ?_
              intro V10 hw'
              obtain ⟨⟨dq2, osq2⟩, hw''⟩ := hw'
              have hb := below_regrown V9 dq2 osq2
              simp only at hw''
              rw [← hw''] at hb
              have HB10 := hide (bel HB9.out hb)
              clear hw'' hb j3 t1 s1 r0 r1 r2 r3
              go_wp2_with fail
              go_ret
              exact ⟨rfl, HB10.out⟩
      · have HU := hide (HAll.out x (by omega) (by omega))
        have y1 : -2147483648 ≤ x := by omega
        have y2 : x ≤ 2147483647 := by omega
        obtain ⟨T1, hT1⟩ : ∃ T1 : Int, (x).tmod d = T1 := ⟨_, rfl⟩
        have hT1b := tm_few (d := d) y1 y2
        rw [hT1] at hT1b
        have hwT : IntKind.i64.wrap T1 = T1 := by rw [IntKind.wrap_i64]; omega
        have hwT2 : wrap64 T1 = T1 := wrap64_in _ ⟨by omega, by omega⟩
        obtain ⟨T2, hT2⟩ : ∃ T2 : Int, bits .and .i64 x d = T2 := ⟨_, rfl⟩
        rw [hT1, hT2] at HU
        have HT1 := hide hT1
        have HT2 := hide hT2
        clear hT1 hT2 HAll
        go_wp2_with fail
        go_loopw [18] (fun i wr => ∃ (k : Nat) (pv : Value) (P : List Int), k ≤ cz ∧ i = .int .i64 k ∧ Hid (P = List.replicate k x) ∧ Hid (P.length = k) ∧ Hid (Sq V5 wr pv P)) (fun i _ => cz - (intOf i).toNat)
        case atStart => exact ⟨0, _, [], Nat.zero_le _, rfl, hide rfl, hide rfl, HS0⟩
        case round =>
          obtain ⟨k, pv, P, hk, rfl, HP, HPl, HS⟩ := hrel
          rename World => V7
          clear HS0
          obtain ⟨k0, k1⟩ := two_of (HK5.out.below HS.out.lo)
          go_wp2_with fail
          refine (HCo.out _).mono ?_
          rintro e V8 ⟨rfl, hb⟩
          have HS8 := hide (HS.out.below hb)
          clear hb k0 k1 HS
          obtain ⟨pa, pc, rfl, hPI, -⟩ := Ints.of_owns HS8.out.p
          have HPI := hide hPI
          clear hPI
          by_cases hlt : k < cz
          · have w3 := HS8.out.w.cell 3 rfl
            have hwl := HS8.out.w.lt
            have HN9 := hide (HasC.new V8 3 #[.int .i64 x])
            have HS9 := hide (HS8.out.below (bel1 V8 (.cells #[.int .i64 x] 3)))
            have i2 : (k : Int) < cz := by omega
            have HP2 : Hid (P ++ [x] = List.replicate (k + 1) x) := hide (by rw [HP.out, List.replicate_succ'])
            clear HP
            go_wp2_with (at_builtin; refine int_list rfl _ _ rfl rfl HS9.out.p HS9.out.lo.size _ x rfl HN9.out (by rw [HPl.out]; omega) ?_; intro g cap' w3 hown hgr; have hS10 := HS9.out.grow hgr hown; have hc3 := own_grow HS9.out.p hgr HS9.out.w (by decide); have v3 := hc3.cell 3 rfl; have yv := hc3.frozen 3; have hl3 := hc3.lt)
            have HS10 := hide hS10
            clear hS10 hown hgr hc3
            go_wp2_with fail
            go_roundw
            case rel => exact ⟨k + 1, _, P ++ [x], by omega, by go_num, HP2, hide (by simp [HPl.out]), HS10⟩
            case measure => simp [intOf]; omega
          · obtain rfl : k = cz := by omega
            have hU := HU.out
            rw [← HP.out] at hU
            obtain ⟨U, u1, u2, u3, u4, u5⟩ := hU
            have hv := HVa.out V8 x _ _ _ _ P P.length (HI5.out.later HS8.out.lo) HPI.out
            rw [u1] at hv
            have HV8 := hide hv
            have HR8 := hide (HR5.out.below HS8.out.lo)
            obtain ⟨r0, r1, r2, r3⟩ := four_of HR8.out
            obtain ⟨w0, w1, w2, w3⟩ := four_of HS8.out.w
            have HU2 := hide u2
            have HU3 := hide u3
            have HU4 := hide u4
            have HU5 := hide u5
            have HB8 := hide (bel HB5.out HS8.out.lo)
            have q4 : decide ((k : Int) < (k : Int)) = false := by simp
            clear u1 u2 u3 u4 u5 hv HU HVa HPI
            go_wp2_with fail
            refine HV8.out.mono ?_
            rintro e V9 ⟨la, lc, rfl, hO, hb⟩
            dsimp only at hO ⊢
            have HX9 := hide (Cde.tw_ints hO)
            rw [HU2.out] at HX9 ⊢
            have HR9 := hide (HR8.out.below hb)
            have HB9 := hide (bel HB8.out hb)
            clear hO hb HV8 r0 r1 r2 r3 w0 w1 w2 w3 HS8 HR8 HB8
            obtain ⟨p, hp⟩ : ∃ p : Nat, u = p := ⟨u.toNat, by have := HU3.out; omega⟩
            subst hp
            have hu4 := HU4.out
            have hu5 := HU5.out
            rw [Int.toNat_natCast] at hu4 hu5
            obtain ⟨bx, fx, rfl, -, gx⟩ := HX9.out.at (by omega)
            have s1 := gx p hu4
            obtain ⟨r0, r1, r2, r3⟩ := four_of HR9.out
            have i1 : (0 : Int) ≤ p := by omega
            have i2 : (p : Int) < m := by omega
            have i3 : decide (p < m) = true := by simp; omega
            have i5 : (d == 0) = false := by simp; omega
            have i6 : ¬ d = 0 := by omega
            have hmx : (T2 ≤ T1 ∧ max T1 T2 = T1) ∨ (T1 < T2 ∧ max T1 T2 = T2) := by omega
            have hT1 := HT1.out
            have hT2 := HT2.out
            rcases hmx with ⟨m1, m2⟩ | ⟨m1, m2⟩
            all_goals
              rw [hu5, m2] at s1
              have j3 := cell_regrown r3
              have t1 := cell_regrown s1
              clear gx hu5 HU2 HU3 HU4 HU5 HX9 m2 HT1 HT2
              go_wp2_with fail
              refine wp_region_quiet_below mixedF (by kernel_rfl) ?_
              repeat (go_big_quiet_step (fail))
              refine wpQuiet_nil ?_
              intro V10 hw'
              obtain ⟨⟨dq2, osq2⟩, hw''⟩ := hw'
              have hb := below_regrown V9 dq2 osq2
              simp only at hw''
              rw [← hw''] at hb
              have HB10 := hide (bel HB9.out hb)
              clear hw'' hb j3 t1 s1 r0 r1 r2 r3
              go_wp2_with fail
              go_ret
              exact ⟨rfl, HB10.out⟩


end Go.Proofs.Rdc

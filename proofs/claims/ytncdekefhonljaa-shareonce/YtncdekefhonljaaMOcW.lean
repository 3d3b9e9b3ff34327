/-
  ShareOnce's walk.
-/
import Derived.Test.YtncdekefhonljaaMGC
import Derived.Test.YtncdekefhonljaaMCdE
import Derived.Test.YtncdekefhonljaaMCdU1
namespace Go.Proofs.Shr
open Go.RowKit Go.IntWalk Ytncdekefhonljaa.Knd
open Cde (In i0 ia kd cd Ins at6 six_of four_of two_of has_new1 is6 sameB in_run usU usZ)
open Vfy (vfE)
set_option linter.unusedVariables false

/-- The law's boxes. -/
structure Fr (W V : World) (cv dv : Array Value) (bd : Nat) : Prop where
  c : HasC V W.heap.size 31 cv
  d : HasC V bd 31 dv
  lo : Below W.heap.size W V
theorem Fr.below {W V V' : World} {cv dv : Array Value} {bd : Nat} (h : Fr W V cv dv bd) (hb : Below V.heap.size V V') : Fr W V' cv dv bd := ⟨h.c.below hb, h.d.below hb, bel h.lo hb⟩
theorem us_of {f d : Int} {L : List In} {out : Int} (h : vfE f d L out = 0) : usZ f d L out = (0, usU L out) := by
  obtain ⟨m, -⟩ := Vfy.vf_parts h
  rw [usZ, if_pos m]

set_option maxRecDepth 100000 in
set_option maxHeartbeats 16000000 in
theorem gonce_walk (f d out : Int) {a : Option Addr} {n cap : Nat} {L : List In} {W : World} (hL : Ins W a n cap L) :
    Calls Try.prog 5 #[.agg (cd f d a n cap out)] W fun e w' => e = .returned (.bool true) ∧ Below W.heap.size W w' := by
  have HA := hide fun V => gawake_any V
  have HB0 := hide (bel1 W (.cells (cd f d a n cap out) 31))
  have HC0 := hide (HasC.new W 31 (cd f d a n cap out))
  have HLI := hide hL
  have HLn := hide hL.len
  clear hL
  by_cases h0 : vfE f d L out = 0
  · obtain ⟨hv, hlen, -, -⟩ := sd_means h0
    obtain ⟨mc, -⟩ := Vfy.vf_parts h0
    obtain ⟨-, m1, m2, o0, o1, -⟩ := Cde.mc_parts mc
    rw [HLn.out] at m1 m2 o1 hlen
    have HFo := hide (gshare_ok f d out (HLI.out.later HB0.out) h0)
    have HSa := hide fun V a1 c1 (h1 : Ins V a n cap L) (h2 : Ins V a1 n c1 (sdL f d L out)) => Cde.csame_any f d out f d (sdO f d L out) h1 h2
    have HUs := hide fun V a1 c1 (h : Ins V a1 n c1 (sdL f d L out)) => Cde.cuses_any f d (sdO f d L out) h
    rw [us_of hv] at HUs
    have HUl := hide (Cde.usU_len (sdL f d L out) (sdO f d L out))
    rw [hlen] at HUl
    obtain ⟨sb, hsb⟩ : ∃ sb, sameB f d out L f d (sdO f d L out) (sdL f d L out) = sb := ⟨_, rfl⟩
    rw [hsb] at HSa
    have HOnce : Hid (sb = false → ∀ i k, i < n → k < i → (sdL f d L out).getD i i0 = (sdL f d L out).getD k i0 → (usU (sdL f d L out) (sdO f d L out)).getD i 0 = 0) := hide (by
      intro hs i k hi hk he
      rw [hs] at hsb
      refine sd_once h0 ?_ (by rw [HLn.out]; exact hi) hk he
      by_cases e : sdL f d L out = L
      · right
        intro e2
        rw [e, e2] at hsb
        simp [sameB] at hsb
      · exact .inl e)
    clear hsb hv h0 mc
    generalize usU (sdL f d L out) (sdO f d L out) = U at *
    generalize sdL f d L out = I at *
    generalize sdO f d L out = u at *
    go_enter Try.func5, Try.ntmps5
    go_wp2_with fail
    refine HFo.out.mono ?_
    rintro e V1 ⟨a1, c1, rfl, hO, hb⟩
    have hb2 := bel1 V1 (.cells (cd f d a1 n c1 u) 31)
    have HQ1 : Hid (Fr W (V1.alloc (.cells (cd f d a1 n c1 u) 31)) (cd f d a n cap out) (cd f d a1 n c1 u) V1.heap.size) := hide ⟨(HC0.out.below hb).below hb2, HasC.new _ _ _, bel (bel HB0.out hb) hb2⟩
    obtain ⟨a1', c1', e', hI0, -⟩ := Ins.of_owns hO
    cases e'
    have HI1 := hide (hI0.later hb2)
    clear hb hb2 HFo HC0 HB0 hO hI0
    go_wp2_with fail
    generalize V1.heap.size = bd at *
    refine (HA.out _).mono ?_
    rintro e V2 ⟨rfl, hb⟩
    have HQ2 := hide (HQ1.out.below hb)
    have HI2 := hide (HI1.out.later hb)
    clear hb HQ1 HI1
    obtain ⟨x0, x1, x2, x3⟩ := four_of HQ2.out.c
    obtain ⟨y0, y1, y2, y3⟩ := four_of HQ2.out.d
    go_wp2_with fail
    refine (HSa.out _ _ _ (HLI.out.later HQ2.out.lo) HI2.out).mono ?_
    rintro e V3 ⟨rfl, hb⟩
    have HQ3 := hide (HQ2.out.below hb)
    have HI3 := hide (HI2.out.later hb)
    clear hb HQ2 HI2 x0 x1 x2 x3 y0 y1 y2 y3 HSa
    cases sb
    · have HO2 := hide (HOnce.out rfl)
      clear HOnce
      obtain ⟨y0, y1, y2, y3⟩ := four_of HQ3.out.d
      go_wp2_with fail
      refine (HUs.out _ _ _ HI3.out).mono ?_
      rintro e V4 ⟨ua, uc, rfl, hO, hb⟩
      dsimp only at hO ⊢
      have hU := Cde.tw_ints hO
      rw [HUl.out] at hU ⊢
      have HU4 := hide hU
      have HQ4 := hide (HQ3.out.below hb)
      have HI4 := hide (HI3.out.later hb)
      clear hb hO hU HQ3 HI3 HUs y0 y1 y2 y3
      obtain ⟨y0, y1, y2, y3⟩ := four_of HQ4.out.d
      have hnn : ((n : Int) != (n : Int)) = false := by simp
      go_wp2_with fail
      clear y0 y1 y2 y3
      go_loopw [7] (fun i wr => ∃ k : Nat, k ≤ n ∧ i = .int .i64 k ∧ Hid (Below V4.heap.size V4 wr)) (fun i _ => n - (intOf i).toNat)
      case atStart => exact ⟨0, Nat.zero_le _, rfl, hide (Below.refl _ _)⟩
      case round =>
        obtain ⟨k, hk, rfl, HB⟩ := hrel
        rename World => V
        have HQ := hide (HQ4.out.below HB.out)
        obtain ⟨y0, y1, y2, y3⟩ := four_of HQ.out.d
        by_cases hlt : k < n
        · have i1' : (k : Int) < n := by omega
          go_wp2_with fail
          clear y0 y1 y2 y3
          go_loopw [8] (fun i wr => ∃ j : Nat, j ≤ k ∧ i = .int .i64 j ∧ Hid (Below V4.heap.size V4 wr)) (fun i _ => k - (intOf i).toNat)
          case atStart => exact ⟨0, Nat.zero_le _, rfl, HB⟩
          case round =>
            obtain ⟨j, hj, rfl, HBj⟩ := hrel
            rename World => V5
            by_cases hjk : j < k
            · obtain ⟨y0, y1, y2, y3⟩ := four_of (HQ4.out.below HBj.out).d
              obtain ⟨b, off, rfl, hgl, hat⟩ := (HI4.out.later HBj.out).at (by omega)
              obtain ⟨e0, e1, e2, e3, e4, e5⟩ := hat k hlt
              obtain ⟨f0, f1, f2, f3, f4, f5⟩ := hat j (by omega)
              obtain ⟨ub, uo, rfl, -, hau⟩ := (HU4.out.later HBj.out).at (by omega)
              have g0 := hau k hlt
              have HE := hide (HO2.out k j hlt hjk)
              have hrun := in_run (I.getD k i0) (I.getD j i0)
              generalize I.getD k i0 = x at *
              generalize I.getD j i0 = y at *
              generalize U.getD k 0 = z at *
              have i0' : (0 : Int) ≤ k := by omega
              have i2' : (0 : Int) ≤ j := by omega
              have i3' : (j : Int) < n := by omega
              have i4' : (j : Int) < k := by omega
              clear hat hau
              by_cases he : x = y
              · have hz := HE.out he
                rw [decide_eq_true he] at hrun
                rw [hz] at g0
                clear he hz HE
                go_wp2_with fail
                have k2 := cell_regrown y2
                have E0 := cell_regrown e0
                have E1 := cell_regrown e1
                have E2 := cell_regrown e2
                have E3 := cell_regrown e3
                have E4 := cell_regrown e4
                have E5 := cell_regrown e5
                have F0 := cell_regrown f0
                have F1 := cell_regrown f1
                have F2 := cell_regrown f2
                have F3 := cell_regrown f3
                have F4 := cell_regrown f4
                have F5 := cell_regrown f5
                have G0 := cell_regrown g0
                refine wp_region_quiet_below mixedF (by kernel_rfl) ?_
                repeat (go_big_quiet_step (fail))
                refine wpQuiet_nil ?_
                intro V7 hw'
                obtain ⟨⟨dq, osq⟩, hw''⟩ := hw'
                have hb := below_regrown V5 dq osq
                simp only at hw''
                rw [← hw''] at hb
                have HB7 := hide (bel HBj.out hb)
                clear hw'' hb k2 E0 E1 E2 E3 E4 E5 F0 F1 F2 F3 F4 F5 G0 e0 e1 e2 e3 e4 e5 f0 f1 f2 f3 f4 f5 g0 y0 y1 y2 y3 hrun
                go_wp2_with fail
                go_roundw
                case rel => exact ⟨j + 1, by omega, by go_num, HB7⟩
                case measure => simp [intOf]; omega
              · rw [decide_eq_false he] at hrun
                clear he HE
                go_wp2_with fail
                have k2 := cell_regrown y2
                have E0 := cell_regrown e0
                have E1 := cell_regrown e1
                have E2 := cell_regrown e2
                have E3 := cell_regrown e3
                have E4 := cell_regrown e4
                have E5 := cell_regrown e5
                have F0 := cell_regrown f0
                have F1 := cell_regrown f1
                have F2 := cell_regrown f2
                have F3 := cell_regrown f3
                have F4 := cell_regrown f4
                have F5 := cell_regrown f5
                refine wp_region_quiet_below mixedF (by kernel_rfl) ?_
                repeat (go_big_quiet_step (fail))
                refine wpQuiet_nil ?_
                intro V7 hw'
                obtain ⟨⟨dq, osq⟩, hw''⟩ := hw'
                have hb := below_regrown V5 dq osq
                simp only at hw''
                rw [← hw''] at hb
                have HB7 := hide (bel HBj.out hb)
                clear hw'' hb k2 E0 E1 E2 E3 E4 E5 F0 F1 F2 F3 F4 F5 e0 e1 e2 e3 e4 e5 f0 f1 f2 f3 f4 f5 g0 y0 y1 y2 y3 hrun
                go_wp2_with fail
                go_roundw
                case rel => exact ⟨j + 1, by omega, by go_num, HB7⟩
                case measure => simp [intOf]; omega
            · obtain rfl : j = k := by omega
              go_wp2_with fail
              go_roundw
              case rel => exact ⟨j + 1, by omega, by go_num, HBj⟩
              case measure => simp [intOf]; omega
        · obtain rfl : k = n := by omega
          have HBe := hide (bel HQ4.out.lo HB.out)
          go_wp2_with fail
          go_ret
          exact ⟨rfl, HBe.out⟩
    · clear HOnce HUs
      go_wp2_with fail
      refine (HA.out _).mono ?_
      rintro e V4 ⟨rfl, hb⟩
      have HQ4 := hide (HQ3.out.below hb)
      clear hb
      go_wp2_with fail
      go_ret
      exact ⟨rfl, HQ4.out.lo⟩
  · obtain ⟨er, her⟩ : ∃ er, vfE f d L out = er := ⟨_, rfl⟩
    rw [her] at h0
    have HFo := hide (gshare_no f d out (HLI.out.later HB0.out) her h0)
    have hr : (er != 0) = true := by simpa using h0
    go_enter Try.func5, Try.ntmps5
    go_wp2_with fail
    refine HFo.out.mono ?_
    rintro e V1 ⟨a1, c1, rfl, hb⟩
    have HB1 := hide (bel (bel HB0.out hb) (bel1 V1 (.cells (cd 0 0 a1 0 c1 0) 31)))
    clear hb HFo HC0 HB0
    go_wp2_with fail
    refine (HA.out _).mono ?_
    rintro e V2 ⟨rfl, hb⟩
    have HB2 := hide (bel HB1.out hb)
    clear hb
    go_wp2_with fail
    refine (HA.out _).mono ?_
    rintro e V3 ⟨rfl, hb⟩
    have HB3 := hide (bel HB2.out hb)
    clear hb
    go_wp2_with fail
    go_ret
    exact ⟨rfl, HB3.out⟩

end Go.Proofs.Shr

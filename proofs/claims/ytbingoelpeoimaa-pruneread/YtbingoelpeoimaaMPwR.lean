/-
  PruneRead's walk.
-/
import Derived.Test.YtbingoelpeoimaaMPD
import Derived.Test.YtbingoelpeoimaaMCdU1
namespace Go.Proofs.Prn
open Go.RowKit Go.IntWalk Ytbingoelpeoimaa.Knd
open Cde (In i0 ia kd cd Ins four_of two_of has_new1 TwP is6 usU usZ)
open Vfy (vfE vfN vfC)
set_option linter.unusedVariables false

set_option maxRecDepth 100000 in
set_option maxHeartbeats 8000000 in
theorem pread_walk (f d out : Int) {a : Option Addr} {n cap : Nat} {L : List In} {W : World} (hL : Ins W a n cap L) :
    Calls Try.prog 4 #[.agg (cd f d a n cap out)] W fun e w' => e = .returned (.bool true) ∧ Below W.heap.size W w' := by
  have HA := hide fun V => pawake_any V
  have hb1 := bel1 W (.cells (cd f d a n cap out) 26)
  have HB0 := hide hb1
  have HLI := hide hL
  by_cases h0 : vfE f d L out = 0
  · have hv := pr_taken h0
    have hP := pc_of (Vfy.vf_parts h0).1
    obtain ⟨l, hl⟩ : ∃ l, (prN L out).length = l := ⟨_, rfl⟩
    have hmc := (Vfy.vf_parts hv).1
    have ml := (Cde.mc_parts hmc).2.2.1
    rw [hl] at ml
    obtain ⟨p1, p2, -⟩ := hP.last
    rw [← prN_len, hl] at p1 p2
    have HFo := hide (pprune_ok f d out (hL.later hb1) h0 hl)
    have HUs := hide fun V a1 c1 (h : Ins V a1 l c1 (prN L out)) => Cde.cuses_any f d (prO L out) h
    rw [show usZ f d (prN L out) (prO L out) = (0, usU (prN L out) (prO L out)) by rw [usZ, if_pos hmc]] at HUs
    have hul : (usU (prN L out) (prO L out)).length = l := by rw [Cde.usU_len, hl]
    have HUl := hide hul
    have HRd := hide fun j (hj : j < l) => hP.read (j := j) (by rw [hl]; exact hj)
    clear hb1 hL hv hP hmc hul hl h0
    generalize usU (prN L out) (prO L out) = U at *
    generalize prN L out = I at *
    generalize prO L out = u at *
    have qe : (u != (l : Int) - 1) = false := by simp [p1]
    have q0 : ((l : Int) == 0) = false := by simp; omega
    have q1 : (l == 0) = false := by simp; omega
    have q2 : ((l : Int) != (l : Int)) = false := by simp
    clear p1
    go_enter Try.func4, Try.ntmps4
    go_wp2_with fail
    refine HFo.out.mono ?_
    rintro e V1 ⟨a1, c1, rfl, hO, hb⟩
    have hb2 := bel1 V1 (.cells (cd f d a1 l c1 u) 26)
    have HB1 := hide (bel (bel HB0.out hb) hb2)
    have HD1 := hide (HasC.new V1 26 (cd f d a1 l c1 u))
    obtain ⟨a1', c1', e', hI0, -⟩ := Ins.of_owns hO
    cases e'
    have HI1 := hide (hI0.later hb2)
    clear hb hb2 HFo HB0 hO hI0
    go_wp2_with fail
    obtain ⟨bd, hbd⟩ : ∃ bd, V1.heap.size = bd := ⟨_, rfl⟩
    obtain ⟨V2, hV2⟩ : ∃ V2, V1.alloc (.cells (cd f d a1 l c1 u) 26) = V2 := ⟨_, rfl⟩
    rw [hV2] at HB1 HD1 HI1 ⊢
    rw [hbd] at HD1 ⊢
    clear hV2 hbd
    refine (HA.out _).mono ?_
    rintro e V3 ⟨rfl, hb⟩
    have HB3 := hide (bel HB1.out hb)
    have HD3 := hide (HD1.out.below hb)
    have HI3 := hide (HI1.out.later hb)
    obtain ⟨y0, y1, y2, y3⟩ := four_of HD3.out
    clear hb HB1 HD1 HI1
    go_wp2_with fail
    refine (HUs.out _ _ _ HI3.out).mono ?_
    rintro e V4 ⟨la, lc, rfl, hO, hb⟩
    dsimp only at hO ⊢
    have hx := Cde.tw_ints hO
    rw [HUl.out] at hx ⊢
    obtain ⟨b2, f2, rfl, -, hg⟩ := hx.at (by omega)
    have HG := hide hg
    have HB4 := hide (bel HB3.out hb)
    have HD4 := hide (HD3.out.below hb)
    clear hO hb hx hg HB3 HD3 HI3 HUs y0 y1 y2 y3
    obtain ⟨y0, y1, y2, y3⟩ := four_of HD4.out
    go_wp2_with fail
    go_loopw [7] (fun i wr => ∃ k : Nat, k ≤ l ∧ i = .int .i64 k ∧ wr = V4) (fun i _ => l - (intOf i).toNat)
    case atStart => exact ⟨0, Nat.zero_le _, rfl, rfl⟩
    case round =>
      obtain ⟨k, hk, rfl, rfl⟩ := hrel
      by_cases hlt : k < l
      · have c0 := HG.out k hlt
        have hr := HRd.out k hlt
        generalize U.getD k 0 = x at *
        have i0 : (0 : Int) ≤ k := by omega
        have i1 : (k : Int) < l := by omega
        have i2 : decide (x < 1) = false := by simp; omega
        clear hr y0 y1 y2 y3
        go_wp2_with fail
        go_roundw
        case rel => exact ⟨k + 1, by omega, by go_num, by trivial⟩
        case measure => (simp [intOf]; try omega)
      · obtain rfl : k = l := by omega
        clear y0 y1 y2 y3
        go_wp2_with fail
        go_ret
        exact ⟨rfl, HB4.out⟩
  · obtain ⟨er, her⟩ : ∃ er, vfE f d L out = er := ⟨_, rfl⟩
    rw [her] at h0
    have HFo := hide (pprune_no f d out (hL.later hb1) her h0)
    have hr : (er != 0) = true := by simpa using h0
    clear hb1 hL her h0
    go_enter Try.func4, Try.ntmps4
    go_wp2_with fail
    refine HFo.out.mono ?_
    rintro e V1 ⟨a1, c1, rfl, hb⟩
    have HB1 := hide (bel (bel HB0.out hb) (bel1 V1 (.cells (cd 0 0 a1 0 c1 0) 26)))
    clear hb HFo
    go_wp2_with fail
    refine (HA.out _).mono ?_
    rintro e V2 ⟨rfl, hb⟩
    have HB2 := hide (bel HB1.out hb)
    clear hb
    go_wp2_with fail
    refine (HA.out _).mono ?_
    rintro e V3 ⟨rfl, hb⟩
    have HB3 := hide (bel HB2.out hb)
    clear hb
    go_wp2_with fail
    go_ret
    exact ⟨rfl, HB3.out⟩

end Go.Proofs.Prn

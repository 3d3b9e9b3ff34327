/-
  PruneMeans' walk.
-/
import Derived.Test.YtbingoelpeoimaaMPD
import Derived.Test.YtbingoelpeoimaaMCdE
import Derived.Test.YtbingoelpeoimaaMCdC
namespace Go.Proofs.Prn
open Go.RowKit Go.IntWalk Ytbingoelpeoimaa.Knd
open Ytbingoelpeoimaa (Wd wdA Fits)
open Cde (In i0 ia kd cd Ins coL four_of two_of has_new1 vaZ TwP is6)
open Rdc (mixedF)
open Vfy (vfE vfN vfC)
set_option linter.unusedVariables false

/-- The law's boxes. -/
structure Fq (W V : World) (cv wv dv : Array Value) (bd : Nat) : Prop where
  c : HasC V W.heap.size 26 cv
  w : HasC V (W.heap.size + 1) 29 wv
  d : HasC V bd 26 dv
  lo : Below W.heap.size W V
theorem Fq.below {W V V' : World} {cv wv dv : Array Value} {bd : Nat} (h : Fq W V cv wv dv bd) (hb : Below V.heap.size V V') : Fq W V' cv wv dv bd := ⟨h.c.below hb, h.w.below hb, h.d.below hb, bel h.lo hb⟩
theorem pr_unfit {f d : Int} {L : List In} {out : Int} {v : Wd} (h : vfE f d L out = 0) (hF : ¬ Fits f d v) : vaZ f d v L out = (1, []) := Vfy.va_unfit h hF

set_option maxRecDepth 100000 in
set_option maxHeartbeats 16000000 in
theorem pmeans_walk (f d out : Int) (v : Wd) {a pa : Option Addr} {n cap pl pc : Nat} {L : List In} {W : World} (hL : Ins W a n cap L) (hP : Ints W pa pl pc v.ps) :
    Calls Try.prog 3 #[.agg (cd f d a n cap out), .agg (wdA v pa pl pc)] W fun e w' => e = .returned (.bool true) ∧ Below W.heap.size W w' := by
  have HA := hide fun V => pawake_any V
  have hb1 := bel1 W (.cells (cd f d a n cap out) 26)
  have HB0 := hide (bel hb1 (bel1 (W.alloc (.cells (cd f d a n cap out) 26)) (.cells (wdA v pa pl pc) 29)))
  have HC0 := hide ((HasC.new W 26 (cd f d a n cap out)).alloc (.cells (wdA v pa pl pc) 29))
  have HW0 := hide (has_new1 W (.cells (cd f d a n cap out) 26) 29 (wdA v pa pl pc))
  have HPI := hide hP
  have HLI := hide hL
  have HLn := hide hL.len
  clear hb1 hP hL
  by_cases h0 : vfE f d L out = 0
  · have hv := pr_taken h0
    have hP := pc_of (Vfy.vf_parts h0).1
    have hlen : (prN L out).length ≤ L.length := by rw [prN_len]; exact lvL_few L out
    have hcost := prN_cost L out
    have hval := fun v hF => pr_means h0 (v := v) hF
    obtain ⟨l, hl⟩ : ∃ l, (prN L out).length = l := ⟨_, rfl⟩
    obtain ⟨mc', -⟩ := Vfy.vf_parts hv
    obtain ⟨-, -, ml, -, -, -⟩ := Cde.mc_parts mc'
    clear mc'
    rw [hl] at hlen ml
    have HLl := hide hl
    obtain ⟨mc, -, -, hc2, -⟩ := Vfy.vf_parts h0
    obtain ⟨-, m1, m2, o0, o1, -⟩ := Cde.mc_parts mc
    rw [HLn.out] at m1 m2 o1 hlen
    have HFo := hide (pprune_ok f d out (HLI.out.later HB0.out) h0 hl)
    have hFd := fun V a1 c1 (h : Ins V a1 l c1 (prN L out)) => pprune_ok f d (prO L out) h hv (m := l) (by rw [hP.again.1]; exact hl)
    rw [hP.again.1, hP.again.2] at hFd
    have HFd := hide hFd
    have HSd := hide fun V a1 c1 a2 c2 (h1 : Ins V a2 l c2 (prN L out)) (h2 : Ins V a1 l c1 (prN L out)) => Cde.csame_any f d (prO L out) f d (prO L out) h1 h2
    rw [show Cde.sameB f d (prO L out) (prN L out) f d (prO L out) (prN L out) = true by simp [Cde.sameB]] at HSd
    clear hFd hP
    have HVe := hide fun V (h : Ins V a n cap L) => Vfy.yverify_any f d out h
    have HVd := hide fun V a1 c1 (h : Ins V a1 l c1 (prN L out)) => Vfy.yverify_any f d (prO L out) h
    unfold Vfy.VfP at HVe HVd
    rw [h0] at HVe
    rw [hv] at HVd
    have HCc := hide fun V (h : Ins V a n cap L) => Cde.ccost_any f d out h (by omega)
    have HCd := hide fun V a1 c1 (h : Ins V a1 l c1 (prN L out)) => Cde.ccost_any f d (prO L out) h (by omega)
    have HZc := hide fun V (h : Ins V a n cap L) (hp : Ints V pa pl pc v.ps) => Cde.cvalues_any f d out v h hp
    have HZd := hide fun V a1 c1 (h : Ins V a1 l c1 (prN L out)) (hp : Ints V pa pl pc v.ps) => Cde.cvalues_any f d (prO L out) v h hp
    have HF := hide fun w h => fits_any f d v.x v.y v.c pa pl pc v.ps w h
    have HFit : Hid (∃ ev X Y, vaZ f d v L out = (ev, X) ∧ vaZ f d v (prN L out) (prO L out) = (ev, Y) ∧ ((ev = 0 ∧ X.length = n ∧ Y.length = l ∧ fitE f d v.x v.y v.c v.ps = 0 ∧ 0 ≤ prO L out ∧ (prO L out).toNat < l ∧ Y.getD (prO L out).toNat 0 = X.getD out.toNat 0) ∨ (ev = 1 ∧ fitE f d v.x v.y v.c v.ps = 1))) := hide (by
      rcases Ytbingoelpeoimaa.fitE_cases f d v with ⟨hF, hf⟩ | ⟨hF, hf⟩
      · obtain ⟨X, Y, q1, q2, q3, q4, q5, q6, q7⟩ := hval v hF
        exact ⟨0, X, Y, q1, q2, .inl ⟨rfl, by rw [q3, HLn.out], by rw [q4, HLl.out], hf, q5, by rw [HLl.out] at q6; exact q6, q7⟩⟩
      · exact ⟨1, [], [], pr_unfit h0 hF, pr_unfit hv hF, .inr ⟨rfl, hf⟩⟩)
    obtain ⟨ev, X, Y, hz1, hz2, hX⟩ := HFit.out
    rw [hz1] at HZc
    rw [hz2] at HZd
    have HX := hide hX
    clear HFit hz1 hz2 hX hval hv h0 mc hc2 hl HLl
    generalize fitE f d v.x v.y v.c v.ps = fe at *
    generalize prN L out = I at *
    generalize prO L out = u at *
    generalize vfN f d L out = vm at *
    generalize vfC f d L out = vc at *
    generalize Vfy.vfS f d L out = vs at *
    generalize vfN f d I u = vm2 at *
    generalize vfC f d I u = vc2 at *
    generalize Vfy.vfS f d I u = vs2 at *
    generalize coL L = k1 at *
    generalize coL I = k2 at *
    go_enter Try.func3, Try.ntmps3
    go_wp2_with fail
    refine HFo.out.mono ?_
    rintro e V1 ⟨a1, c1, rfl, hO, hb⟩
    have hb2 := bel1 V1 (.cells (cd f d a1 l c1 u) 26)
    have HQ1 : Hid (Fq W (V1.alloc (.cells (cd f d a1 l c1 u) 26)) (cd f d a n cap out) (wdA v pa pl pc) (cd f d a1 l c1 u) V1.heap.size) := hide ⟨(HC0.out.below hb).below hb2, (HW0.out.below hb).below hb2, HasC.new _ _ _, bel (bel HB0.out hb) hb2⟩
    obtain ⟨a1', c1', e', hI0, -⟩ := Ins.of_owns hO
    cases e'
    have HI1 := hide (hI0.later hb2)
    have z0 := (HC0.out.below hb).lt
    obtain ⟨x0, x1, x2, x3⟩ := four_of (HC0.out.below hb)
    clear hb hb2 HFo HC0 HW0 HB0 hO hI0
    go_wp2_with fail
    refine (HVe.out _ (HLI.out.later HQ1.out.lo)).mono ?_
    rintro e V2 ⟨ga, gc, rfl, hS, hb, -, -⟩
    have hb2 := bel1 V2 (.cells #[.slice ga vm gc, .int .i64 vc, .int .i64 0] 35)
    have HQ2 := hide ((HQ1.out.below hb).below hb2)
    have HI2 := hide ((HI1.out.later hb).later hb2)
    clear hb hb2 hS HVe HQ1 HI1 x0 x1 x2 x3 z0
    generalize V1.heap.size = bd at *
    go_wp2_with fail
    refine (HA.out _).mono ?_
    rintro e V3 ⟨rfl, hb⟩
    have HQ3 := hide (HQ2.out.below hb)
    have HI3 := hide (HI2.out.later hb)
    obtain ⟨y0, y1, y2, y3⟩ := four_of HQ3.out.d
    clear hb HQ2 HI2
    go_wp2_with fail
    refine (HVd.out _ _ _ HI3.out).mono ?_
    rintro e V4 ⟨ga2, gc2, rfl, hS, hb, -, -⟩
    have hb2 := bel1 V4 (.cells #[.slice ga2 vm2 gc2, .int .i64 vc2, .int .i64 0] 35)
    have HQ4 := hide ((HQ3.out.below hb).below hb2)
    have HI4 := hide ((HI3.out.later hb).later hb2)
    clear hb hb2 hS HVd HQ3 HI3 y0 y1 y2 y3
    go_upto_region 6 with fail
    obtain ⟨V5, hV5⟩ : ∃ V5, V4.alloc (.cells #[.slice ga2 vm2 gc2, .int .i64 vc2, .int .i64 0] 35) = V5 := ⟨_, rfl⟩
    rw [hV5] at HQ4 HI4 ⊢
    clear hV5
    obtain ⟨y0, y1, y2, y3⟩ := four_of HQ4.out.d
    go_wp2_with fail
    refine (HFd.out _ _ _ HI4.out).mono ?_
    rintro e V6b ⟨a2, c2, rfl, hO, hb⟩
    have hb2 := bel1 V6b (.cells (cd f d a2 l c2 u) 26)
    have HQ5 := hide ((HQ4.out.below hb).below hb2)
    have HI5 := hide ((HI4.out.later hb).later hb2)
    have HE5 := hide (HasC.new V6b 26 (cd f d a2 l c2 u))
    obtain ⟨a2', c2', e', hI0, -⟩ := Ins.of_owns hO
    cases e'
    have HJ5 := hide (hI0.later hb2)
    clear hb hb2 hO hI0 HQ4 HI4 HFd y0 y1 y2 y3
    go_upto_region 7 with fail
    generalize V6b.heap.size = be at *
    obtain ⟨V5, hV5⟩ : ∃ V5, V6b.alloc (.cells (cd f d a2 l c2 u) 26) = V5 := ⟨_, rfl⟩
    rw [hV5] at HQ5 HI5 HE5 HJ5 ⊢
    clear hV5
    have HQ4 := hide HQ5.out
    have HI4 := hide HI5.out
    clear HQ5 HI5
    obtain ⟨x0, x1, x2, x3⟩ := four_of HQ4.out.c
    obtain ⟨y0, y1, y2, y3⟩ := four_of HQ4.out.d
    obtain ⟨s0, s1, s2, s3⟩ := four_of HE5.out
    have r0 := cell_regrown s0
    have r1 := cell_regrown s1
    have r2 := cell_regrown s2
    have r3 := cell_regrown s3
    have q1 : decide (k1 < k2) = false := by simp; omega
    have q2 : decide ((n : Int) < (l : Int)) = false := by simp; omega
    have q3 : decide (n < l) = false := by simp; omega
    have j0 := cell_regrown x0
    have j1 := cell_regrown x1
    have j2 := cell_regrown x2
    have j3 := cell_regrown x3
    have l0 := cell_regrown y0
    have l1 := cell_regrown y1
    have l2 := cell_regrown y2
    have l3 := cell_regrown y3
    refine wp_region_quiet_below mixedF (by kernel_rfl) ?_
    repeat (go_big_quiet_step (fail))
    go_big_quiet_step ((go_at_call 9; exact Calls.regrown_of (HCd.out _ _ _ (HI4.out.later (below_regrown _ _ _)))))
    repeat (go_big_quiet_step (fail))
    go_big_quiet_step ((go_at_call 9; exact Calls.regrown_of (HCc.out _ ((HLI.out.later HQ4.out.lo).later (below_regrown _ _ _)))))
    repeat (go_big_quiet_step (fail))
    go_big_quiet_step ((go_at_call 10; exact Calls.regrown_of (HSd.out _ _ _ _ _ (HJ5.out.later (below_regrown _ _ _)) (HI4.out.later (below_regrown _ _ _)))))
    repeat (go_big_quiet_step (fail))
    refine wpQuiet_nil ?_
    intro V6 hw'
    obtain ⟨⟨dq, osq⟩, hw''⟩ := hw'
    have hb := below_regrown V5 dq osq
    simp only at hw''
    rw [← hw''] at hb
    have HQ6 := hide (HQ4.out.below hb)
    have HI6 := hide (HI4.out.later hb)
    clear hw'' hb HQ4 HI4 j0 j1 j2 j3 l0 l1 l2 l3 x0 x1 x2 x3 y0 y1 y2 y3 HCc HCd q1 q2 q3 r0 r1 r2 r3 s0 s1 s2 s3 HE5 HJ5 HSd
    obtain ⟨x0, x1, x2, x3⟩ := four_of HQ6.out.c
    obtain ⟨w0, w1, w2, w3⟩ := four_of HQ6.out.w
    obtain ⟨y0, y1, y2, y3⟩ := four_of HQ6.out.d
    go_wp2_with fail
    refine (HZc.out _ (HLI.out.later HQ6.out.lo) (HPI.out.later HQ6.out.lo)).mono ?_
    rintro e V7 ⟨la, lc, rfl, hO, hb⟩
    dsimp only at hO ⊢
    have HX7 := hide (Cde.tw_ints hO)
    have HQ7 := hide (HQ6.out.below hb)
    have HI7 := hide (HI6.out.later hb)
    obtain ⟨xl, hxl⟩ : ∃ xl, X.length = xl := ⟨_, rfl⟩
    rw [hxl] at HX7 HX ⊢
    have HXl := hide hxl
    clear hO hb HQ6 HI6 x0 x1 x2 x3 w0 w1 w2 w3 y0 y1 y2 y3 HZc hxl
    obtain ⟨x0, x1, x2, x3⟩ := four_of HQ7.out.c
    obtain ⟨w0, w1, w2, w3⟩ := four_of HQ7.out.w
    obtain ⟨y0, y1, y2, y3⟩ := four_of HQ7.out.d
    go_wp2_with fail
    refine (HZd.out _ _ _ HI7.out (HPI.out.later HQ7.out.lo)).mono ?_
    rintro e V8 ⟨la2, lc2, rfl, hO, hb⟩
    dsimp only at hO ⊢
    have hx8 := Cde.tw_ints hO
    obtain ⟨yl, hyl⟩ : ∃ yl, Y.length = yl := ⟨_, rfl⟩
    rw [hyl] at hx8 HX ⊢
    have HY8 := hide hx8
    clear hyl
    have HX8 := hide (HX7.out.later hb)
    have HQ8 := hide (HQ7.out.below hb)
    clear hO hb HQ7 HI7 HX7 x0 x1 x2 x3 w0 w1 w2 w3 y0 y1 y2 y3 HZd hx8
    obtain ⟨x0, x1, x2, x3⟩ := four_of HQ8.out.c
    obtain ⟨w0, w1, w2, w3⟩ := four_of HQ8.out.w
    go_wp2_with fail
    refine (HF.out _ (HPI.out.later HQ8.out.lo)).mono ?_
    rintro e V9 ⟨rfl, hb⟩
    have HQ9 := hide (HQ8.out.below hb)
    have HX9 := hide (HX8.out.later hb)
    have HY9 := hide (HY8.out.later hb)
    clear hb HQ8 HX8 HY8 x0 x1 x2 x3 w0 w1 w2 w3
    rcases HX.out with ⟨rfl, rfl, rfl, rfl, u0, u1, u2⟩ | ⟨rfl, rfl⟩
    · obtain ⟨o, rfl⟩ : ∃ o : Nat, out = o := ⟨out.toNat, by omega⟩
      obtain ⟨p, rfl⟩ : ∃ p : Nat, u = p := ⟨u.toNat, by omega⟩
      simp only [Int.toNat_natCast] at u1 u2
      obtain ⟨b1, f1, rfl, -, g1⟩ := HX9.out.at (by omega)
      obtain ⟨b2, f2, rfl, -, g2⟩ := HY9.out.at (by omega)
      have s1 := g1 o (by omega)
      have s2 := g2 p u1
      rw [u2] at s2
      generalize X.getD o 0 = z at *
      obtain ⟨x0, x1, x2, x3⟩ := four_of HQ9.out.c
      obtain ⟨y0, y1, y2, y3⟩ := four_of HQ9.out.d
      have i1 : (0 : Int) ≤ o := by omega
      have i2 : (o : Int) < xl := by omega
      have i3 : (0 : Int) ≤ p := by omega
      have i4 : (p : Int) < yl := by omega
      have i5 : decide (o < xl) = true := by simp; omega
      have i6 : decide (p < yl) = true := by simp; omega
      have i7 : (z == z) = true := by simp
      clear g1 g2 u2 HX HXl HF
      go_wp2_with fail
      have j3 := cell_regrown x3
      have l3 := cell_regrown y3
      have t1 := cell_regrown s1
      have t2 := cell_regrown s2
      refine wp_region_quiet_below mixedF (by kernel_rfl) ?_
      repeat (go_big_quiet_step (fail))
      refine wpQuiet_nil ?_
      intro V10 hw'
      obtain ⟨⟨dq, osq⟩, hw''⟩ := hw'
      have hb := below_regrown V9 dq osq
      simp only at hw''
      rw [← hw''] at hb
      have HB10 := hide (bel HQ9.out.lo hb)
      clear hw'' hb j3 l3 t1 t2 s1 s2 x0 x1 x2 x3 y0 y1 y2 y3
      go_wp2_with fail
      go_ret
      exact ⟨rfl, HB10.out⟩
    · clear HX HXl HF
      go_wp2_with fail
      go_ret
      exact ⟨rfl, HQ9.out.lo⟩
  · obtain ⟨er, her⟩ : ∃ er, vfE f d L out = er := ⟨_, rfl⟩
    rw [her] at h0
    have HFo := hide (pprune_no f d out (HLI.out.later HB0.out) her h0)
    have HVe := hide fun V (h : Ins V a n cap L) => Vfy.yverify_any f d out h
    unfold Vfy.VfP at HVe
    rw [her] at HVe
    generalize vfN f d L out = vm at *
    generalize vfC f d L out = vc at *
    generalize Vfy.vfS f d L out = vs at *
    go_enter Try.func3, Try.ntmps3
    go_wp2_with fail
    refine HFo.out.mono ?_
    rintro e V1 ⟨a1, c1, rfl, hb⟩
    have hb2 := bel1 V1 (.cells (cd 0 0 a1 0 c1 0) 26)
    have HQ1 : Hid (Fq W (V1.alloc (.cells (cd 0 0 a1 0 c1 0) 26)) (cd f d a n cap out) (wdA v pa pl pc) (cd 0 0 a1 0 c1 0) V1.heap.size) := hide ⟨(HC0.out.below hb).below hb2, (HW0.out.below hb).below hb2, HasC.new _ _ _, bel (bel HB0.out hb) hb2⟩
    have z0 := (HC0.out.below hb).lt
    obtain ⟨x0, x1, x2, x3⟩ := four_of (HC0.out.below hb)
    clear hb hb2 HFo HC0 HW0 HB0
    go_wp2_with fail
    refine (HVe.out _ (HLI.out.later HQ1.out.lo)).mono ?_
    rintro e V2 ⟨ga, gc, rfl, hS, hb, -, -⟩
    have HQ2 := hide ((HQ1.out.below hb).below (bel1 V2 (.cells #[.slice ga vm gc, .int .i64 vc, .int .i64 0] 35)))
    clear hb hS HVe HQ1 x0 x1 x2 x3 z0
    generalize V1.heap.size = bd at *
    go_wp2_with fail
    refine (HA.out _).mono ?_
    rintro e V3 ⟨rfl, hb⟩
    have HQ3 := hide (HQ2.out.below hb)
    obtain ⟨y0, y1, y2, y3⟩ := four_of HQ3.out.d
    have hr : (er != 0) = true := by simpa using h0
    have hr2 : (er != er) = false := by simp
    have hr3 : (er == er) = true := by simp
    clear hb HQ2
    go_wp2_with fail
    refine (HA.out _).mono ?_
    rintro e V4 ⟨rfl, hb⟩
    have HQ4 := hide (HQ3.out.below hb)
    clear hb y0 y1 y2 y3 HQ3
    obtain ⟨y0, y1, y2, y3⟩ := four_of HQ4.out.d
    go_wp2_with fail
    go_ret
    exact ⟨rfl, HQ4.out.lo⟩

end Go.Proofs.Prn

/-
  PassesMean's walk.
-/
import Derived.Test.YtijbmdmeiancgaaGreatMWB
import Derived.Test.YtijbmdmeiancgaaGreatMCdE
import Derived.Test.YtijbmdmeiancgaaGreatMCdC
namespace Go.Proofs.Pss
open Go.RowKit Go.IntWalk YtijbmdmeiancgaaGreat.Knd
open YtijbmdmeiancgaaGreat (Wd wdA Fits)
open Cde (In i0 ia kd cd Ins coL four_of two_of has_new1 vaZ TwP is6)
open Rdc (mixedF)
open Vfy (vfE vfN vfC)
set_option linter.unusedVariables false

/-- The law's boxes. -/
structure Fq (W V : World) (cv wv dv : Array Value) (bd : Nat) : Prop where
  c : HasC V W.heap.size 26 cv
  w : HasC V (W.heap.size + 1) 44 wv
  d : HasC V bd 26 dv
  lo : Below W.heap.size W V
theorem Fq.below {W V V' : World} {cv wv dv : Array Value} {bd : Nat} (h : Fq W V cv wv dv bd) (hb : Below V.heap.size V V') : Fq W V' cv wv dv bd := ⟨h.c.below hb, h.w.below hb, h.d.below hb, bel h.lo hb⟩
theorem un_fit {f d : Int} {L : List In} {out : Int} {v : Wd} (h : vfE f d L out = 0) (hF : ¬ Fits f d v) : vaZ f d v L out = (1, []) := Vfy.va_unfit h hF

set_option maxRecDepth 100000 in
set_option maxHeartbeats 16000000 in
theorem zmeans_walk (f d out : Int) (v : Wd) {a pa : Option Addr} {n cap pl pc : Nat} {L : List In} {W : World} {oa : Option Addr} {om oc : Nat} {P : List Int} (hL : Ins W a n cap L) (hO0 : Ints W oa om oc P) (hP : Ints W pa pl pc v.ps) :
    Calls Tryz.prog 4 #[.agg (cd f d a n cap out), .slice oa om oc, .agg (wdA v pa pl pc)] W fun e w' => e = .returned (.bool true) ∧ Below W.heap.size W w' := by
  have HA := hide fun V => zawake_any V
  have hb1 := bel1 W (.cells (cd f d a n cap out) 26)
  have HB0 := hide (bel hb1 (bel1 (W.alloc (.cells (cd f d a n cap out) 26)) (.cells (wdA v pa pl pc) 44)))
  have HC0 := hide ((HasC.new W 26 (cd f d a n cap out)).alloc (.cells (wdA v pa pl pc) 44))
  have HW0 := hide (has_new1 W (.cells (cd f d a n cap out) 26) 44 (wdA v pa pl pc))
  have HPI := hide hP
  have HOI := hide hO0
  have HLI := hide hL
  have HLn := hide hL.len
  clear hb1 hP hL hO0
  by_cases h0 : vfE f d L out = 0 ∧ okP P = true
  · obtain ⟨h0, hok⟩ := h0
    obtain ⟨⟨I, u⟩, hI⟩ : ∃ x, psF f d P (L, out) = x := ⟨_, rfl⟩
    have hkp := psF_keeps (f := f) (d := d) P (L, out) h0
    rw [hI] at hkp
    have hv := hkp.tk
    have hcost := hkp.co
    have hval := hkp.vl
    dsimp only at hv hcost hval
    obtain ⟨l, hl⟩ : ∃ l, I.length = l := ⟨_, rfl⟩
    obtain ⟨mc', -, -, hc2, -, hvc⟩ := Vfy.vf_parts hv
    have hfew := co_few mc'
    obtain ⟨-, -, ml, p0, p1, -⟩ := Cde.mc_parts mc'
    clear mc'
    rw [hl] at ml hfew p1
    rw [← hvc] at hcost hfew hc2
    have HLl := hide hl
    obtain ⟨mc, -⟩ := Vfy.vf_parts h0
    obtain ⟨-, m1, m2, o0, o1, -⟩ := Cde.mc_parts mc
    rw [HLn.out] at m1 m2 o1
    have HFo := hide (zrun_ok f d out (HLI.out.later HB0.out) (HOI.out.later HB0.out) hok h0 hI hl)
    clear hkp hI hvc
    have HVe := hide fun V (h : Ins V a n cap L) => Vfy.yverify_any f d out h
    have HVd := hide fun V a1 c1 (h : Ins V a1 l c1 I) => Vfy.yverify_any f d u h
    unfold Vfy.VfP at HVe HVd
    rw [h0] at HVe
    rw [hv] at HVd
    have HCc := hide fun V (h : Ins V a n cap L) => Cde.ccost_any f d out h (by omega)
    have HZc := hide fun V (h : Ins V a n cap L) (hp : Ints V pa pl pc v.ps) => Cde.cvalues_any f d out v h hp
    have HZd := hide fun V a1 c1 (h : Ins V a1 l c1 I) (hp : Ints V pa pl pc v.ps) => Cde.cvalues_any f d u v h hp
    have HF := hide fun w h => fits_any f d v.x v.y v.c pa pl pc v.ps w h
    have HFit : Hid (∃ ev X Y, vaZ f d v L out = (ev, X) ∧ vaZ f d v I u = (ev, Y) ∧ ((ev = 0 ∧ X.length = n ∧ Y.length = l ∧ fitE f d v.x v.y v.c v.ps = 0 ∧ 0 ≤ u ∧ u.toNat < l ∧ Y.getD u.toNat 0 = X.getD out.toNat 0) ∨ (ev = 1 ∧ fitE f d v.x v.y v.c v.ps = 1))) := hide (by
      rcases YtijbmdmeiancgaaGreat.fitE_cases f d v with ⟨hF, hf⟩ | ⟨hF, hf⟩
      · obtain ⟨X, Y, q1, q2, q3, q4, q7⟩ := hval v hF
        exact ⟨0, X, Y, q1, q2, .inl ⟨rfl, by rw [q3, HLn.out], by rw [q4, HLl.out], hf, p0, by omega, q7⟩⟩
      · exact ⟨1, [], [], un_fit h0 hF, un_fit hv hF, .inr ⟨rfl, hf⟩⟩)
    obtain ⟨ev, X, Y, hz1, hz2, hX⟩ := HFit.out
    rw [hz1] at HZc
    rw [hz2] at HZd
    have HX := hide hX
    clear HFit hz1 hz2 hX hval hv h0 mc hl HLl
    generalize fitE f d v.x v.y v.c v.ps = fe at *
    generalize vfN f d L out = vm at *
    generalize vfC f d L out = vc at *
    generalize Vfy.vfS f d L out = vs at *
    generalize vfN f d I u = vm2 at *
    generalize vfC f d I u = vc2 at *
    generalize Vfy.vfS f d I u = vs2 at *
    generalize coL L = k1 at *
    go_enter Tryz.func4, Tryz.ntmps4
    go_wp2_with fail
    refine HFo.out.mono ?_
    rintro e V1 ⟨a1, c1, rfl, hO, hb⟩
    have hb2 := bel1 V1 (.cells (cd f d a1 l c1 u) 26)
    have HQ1 : Hid (Fq W (V1.alloc (.cells (cd f d a1 l c1 u) 26)) (cd f d a n cap out) (wdA v pa pl pc) (cd f d a1 l c1 u) V1.heap.size) := hide ⟨(HC0.out.below hb).below hb2, (HW0.out.below hb).below hb2, HasC.new _ _ _, bel (bel HB0.out hb) hb2⟩
    obtain ⟨a1', c1', e', hI0, -⟩ := Ins.of_owns hO
    cases e'
    have HI1 := hide (hI0.later hb2)
    have z0 := (HC0.out.below hb).lt
    obtain ⟨x0, x1, x2, x3⟩ := four_of (HC0.out.below hb)
    clear hb hb2 HFo HC0 HW0 HB0 hO hI0
    go_wp2_with fail
    refine (HVe.out _ (HLI.out.later HQ1.out.lo)).mono ?_
    rintro e V2 ⟨ga, gc, rfl, hS, hb, -, -⟩
    have hb2 := bel1 V2 (.cells #[.slice ga vm gc, .int .i64 vc, .int .i64 0] 47)
    have HQ2 := hide ((HQ1.out.below hb).below hb2)
    have HI2 := hide ((HI1.out.later hb).later hb2)
    clear hb hb2 hS HVe HQ1 HI1 x0 x1 x2 x3 z0
    generalize V1.heap.size = bd at *
    go_wp2_with fail
    refine (HA.out _).mono ?_
    rintro e V3 ⟨rfl, hb⟩
    have HQ3 := hide (HQ2.out.below hb)
    have HI3 := hide (HI2.out.later hb)
    obtain ⟨y0, y1, y2, y3⟩ := four_of HQ3.out.d
    clear hb HQ2 HI2
    go_wp2_with fail
    refine (HVd.out _ _ _ HI3.out).mono ?_
    rintro e V4 ⟨ga2, gc2, rfl, hS, hb, -, -⟩
    have hb2 := bel1 V4 (.cells #[.slice ga2 vm2 gc2, .int .i64 vc2, .int .i64 0] 47)
    have HQ4 := hide ((HQ3.out.below hb).below hb2)
    have HI4 := hide ((HI3.out.later hb).later hb2)
    have HE5 := hide (HasC.new V4 47 #[.slice ga2 vm2 gc2, .int .i64 vc2, .int .i64 0])
    clear hb hb2 hS HVd HQ3 HI3 y0 y1 y2 y3
    go_upto_region 6 with fail
    generalize V4.heap.size = be at *
    obtain ⟨V5, hV5⟩ : ∃ V5, V4.alloc (.cells #[.slice ga2 vm2 gc2, .int .i64 vc2, .int .i64 0] 47) = V5 := ⟨_, rfl⟩
    rw [hV5] at HQ4 HI4 HE5 ⊢
    clear hV5
    obtain ⟨x0, x1, x2, x3⟩ := four_of HQ4.out.c
    obtain ⟨y0, y1, y2, y3⟩ := four_of HQ4.out.d
    have s1 := HE5.out.cell 1 rfl
    have r1 := cell_regrown s1
    have q1 : decide (k1 < vc2) = false := by simp; omega
    have q2 : decide (vc2 < (l : Int)) = false := by simp; omega
    have q3 : decide ((200 : Int) < vc2) = false := by simp; omega
    have j0 := cell_regrown x0
    have j1 := cell_regrown x1
    have j2 := cell_regrown x2
    have j3 := cell_regrown x3
    have l0 := cell_regrown y0
    have l1 := cell_regrown y1
    have l2 := cell_regrown y2
    have l3 := cell_regrown y3
    refine wp_region_quiet_below mixedF (by kernel_rfl) ?_
    repeat (go_big_quiet_step (fail))
    go_big_quiet_step ((go_at_call 19; exact Calls.regrown_of (HCc.out _ ((HLI.out.later HQ4.out.lo).later (below_regrown _ _ _)))))
    repeat (go_big_quiet_step (fail))
    refine wpQuiet_nil ?_
    intro V6 hw'
    obtain ⟨⟨dq, osq⟩, hw''⟩ := hw'
    have hb := below_regrown V5 dq osq
    simp only at hw''
    rw [← hw''] at hb
    have HQ6 := hide (HQ4.out.below hb)
    have HI6 := hide (HI4.out.later hb)
    clear hw'' hb HQ4 HI4 j0 j1 j2 j3 l0 l1 l2 l3 x0 x1 x2 x3 y0 y1 y2 y3 HCc q1 q2 q3 r1 s1 HE5 hcost hfew hc2
    obtain ⟨x0, x1, x2, x3⟩ := four_of HQ6.out.c
    obtain ⟨w0, w1, w2, w3⟩ := four_of HQ6.out.w
    obtain ⟨y0, y1, y2, y3⟩ := four_of HQ6.out.d
    go_wp2_with fail
    refine (HZc.out _ (HLI.out.later HQ6.out.lo) (HPI.out.later HQ6.out.lo)).mono ?_
    rintro e V7 ⟨la, lc, rfl, hO, hb⟩
    dsimp only at hO ⊢
    have HX7 := hide (Cde.tw_ints hO)
    have HQ7 := hide (HQ6.out.below hb)
    have HI7 := hide (HI6.out.later hb)
    obtain ⟨xl, hxl⟩ : ∃ xl, X.length = xl := ⟨_, rfl⟩
    rw [hxl] at HX7 HX ⊢
    have HXl := hide hxl
    clear hO hb HQ6 HI6 x0 x1 x2 x3 w0 w1 w2 w3 y0 y1 y2 y3 HZc hxl
    obtain ⟨x0, x1, x2, x3⟩ := four_of HQ7.out.c
    obtain ⟨w0, w1, w2, w3⟩ := four_of HQ7.out.w
    obtain ⟨y0, y1, y2, y3⟩ := four_of HQ7.out.d
    go_wp2_with fail
    refine (HZd.out _ _ _ HI7.out (HPI.out.later HQ7.out.lo)).mono ?_
    rintro e V8 ⟨la2, lc2, rfl, hO, hb⟩
    dsimp only at hO ⊢
    have hx8 := Cde.tw_ints hO
    obtain ⟨yl, hyl⟩ : ∃ yl, Y.length = yl := ⟨_, rfl⟩
    rw [hyl] at hx8 HX ⊢
    have HY8 := hide hx8
    clear hyl
    have HX8 := hide (HX7.out.later hb)
    have HQ8 := hide (HQ7.out.below hb)
    clear hO hb HQ7 HI7 HX7 x0 x1 x2 x3 w0 w1 w2 w3 y0 y1 y2 y3 HZd hx8
    obtain ⟨x0, x1, x2, x3⟩ := four_of HQ8.out.c
    obtain ⟨w0, w1, w2, w3⟩ := four_of HQ8.out.w
    go_wp2_with fail
    refine (HF.out _ (HPI.out.later HQ8.out.lo)).mono ?_
    rintro e V9 ⟨rfl, hb⟩
    have HQ9 := hide (HQ8.out.below hb)
    have HX9 := hide (HX8.out.later hb)
    have HY9 := hide (HY8.out.later hb)
    clear hb HQ8 HX8 HY8 x0 x1 x2 x3 w0 w1 w2 w3
    rcases HX.out with ⟨rfl, rfl, rfl, rfl, u0, u1, u2⟩ | ⟨rfl, rfl⟩
    · obtain ⟨o, rfl⟩ : ∃ o : Nat, out = o := ⟨out.toNat, by omega⟩
      obtain ⟨p, rfl⟩ : ∃ p : Nat, u = p := ⟨u.toNat, by omega⟩
      simp only [Int.toNat_natCast] at u1 u2
      obtain ⟨b1, f1, rfl, -, g1⟩ := HX9.out.at (by omega)
      obtain ⟨b2, f2, rfl, -, g2⟩ := HY9.out.at (by omega)
      have s1 := g1 o (by omega)
      have s2 := g2 p u1
      rw [u2] at s2
      generalize X.getD o 0 = z at *
      obtain ⟨x0, x1, x2, x3⟩ := four_of HQ9.out.c
      obtain ⟨y0, y1, y2, y3⟩ := four_of HQ9.out.d
      have i1 : (0 : Int) ≤ o := by omega
      have i2 : (o : Int) < xl := by omega
      have i3 : (0 : Int) ≤ p := by omega
      have i4 : (p : Int) < yl := by omega
      have i5 : decide (o < xl) = true := by simp; omega
      have i6 : decide (p < yl) = true := by simp; omega
      have i7 : (z == z) = true := by simp
      clear g1 g2 u2 HX HXl HF
      go_wp2_with fail
      have j3 := cell_regrown x3
      have l3 := cell_regrown y3
      have t1 := cell_regrown s1
      have t2 := cell_regrown s2
      refine wp_region_quiet_below mixedF (by kernel_rfl) ?_
      repeat (go_big_quiet_step (fail))
      refine wpQuiet_nil ?_
      intro V10 hw'
      obtain ⟨⟨dq, osq⟩, hw''⟩ := hw'
      have hb := below_regrown V9 dq osq
      simp only at hw''
      rw [← hw''] at hb
      have HB10 := hide (bel HQ9.out.lo hb)
      clear hw'' hb j3 l3 t1 t2 s1 s2 x0 x1 x2 x3 y0 y1 y2 y3
      go_wp2_with fail
      go_ret
      exact ⟨rfl, HB10.out⟩
    · clear HX HXl HF
      go_wp2_with fail
      go_ret
      exact ⟨rfl, HQ9.out.lo⟩
  · obtain ⟨er, her⟩ : ∃ er, vfE f d L out = er := ⟨_, rfl⟩
    obtain ⟨e2, he2⟩ : ∃ e2, rnE f d L out P = e2 := ⟨_, rfl⟩
    have hee : e2 ≠ 0 ∧ (e2 = er ∨ e2 = 1) := by
      rw [rnE] at he2
      by_cases hok : okP P = true
      · rw [if_pos hok] at he2
        exact ⟨fun h => h0 ⟨he2.trans h, hok⟩, .inl (he2.symm.trans her)⟩
      · rw [if_neg hok] at he2
        exact ⟨by omega, .inr he2.symm⟩
    have HFo := hide (zrun_no f d out (HLI.out.later HB0.out) (HOI.out.later HB0.out) he2 hee.1)
    have HVe := hide fun V (h : Ins V a n cap L) => Vfy.yverify_any f d out h
    unfold Vfy.VfP at HVe
    rw [her] at HVe
    generalize vfN f d L out = vm at *
    generalize vfC f d L out = vc at *
    generalize Vfy.vfS f d L out = vs at *
    go_enter Tryz.func4, Tryz.ntmps4
    go_wp2_with fail
    refine HFo.out.mono ?_
    rintro e V1 ⟨a1, c1, rfl, hb⟩
    have hb2 := bel1 V1 (.cells (cd 0 0 a1 0 c1 0) 26)
    have HQ1 : Hid (Fq W (V1.alloc (.cells (cd 0 0 a1 0 c1 0) 26)) (cd f d a n cap out) (wdA v pa pl pc) (cd 0 0 a1 0 c1 0) V1.heap.size) := hide ⟨(HC0.out.below hb).below hb2, (HW0.out.below hb).below hb2, HasC.new _ _ _, bel (bel HB0.out hb) hb2⟩
    have z0 := (HC0.out.below hb).lt
    obtain ⟨x0, x1, x2, x3⟩ := four_of (HC0.out.below hb)
    clear hb hb2 HFo HC0 HW0 HB0
    go_wp2_with fail
    refine (HVe.out _ (HLI.out.later HQ1.out.lo)).mono ?_
    rintro e V2 ⟨ga, gc, rfl, hS, hb, -, -⟩
    have HQ2 := hide ((HQ1.out.below hb).below (bel1 V2 (.cells #[.slice ga vm gc, .int .i64 vc, .int .i64 0] 47)))
    clear hb hS HVe HQ1 x0 x1 x2 x3 z0
    generalize V1.heap.size = bd at *
    go_wp2_with fail
    refine (HA.out _).mono ?_
    rintro e V3 ⟨rfl, hb⟩
    have HQ3 := hide (HQ2.out.below hb)
    obtain ⟨y0, y1, y2, y3⟩ := four_of HQ3.out.d
    have hr1 : (e2 != 0) = true := by simpa using hee.1
    have hr3 : (er == er) = true := by simp
    have hr4 : ((1 : Int) == 1) = true := rfl
    have HEe := hide hee.2
    clear hee h0 her he2
    clear hb HQ2
    have HLast : Hid (∀ V4, Below V3.heap.size V3 V4 → Fq W V4 (cd f d a n cap out) (wdA v pa pl pc) (cd 0 0 a1 0 c1 0) bd) := hide fun V4 hb => HQ3.out.below hb
    rcases HEe.out with rfl | rfl
    · clear HEe
      go_wp2_with fail
      refine (HA.out _).mono ?_
      rintro e V4 ⟨rfl, hb⟩
      have HQ4 := hide (HLast.out V4 hb)
      clear hb y0 y1 y2 y3 HQ3 HLast
      obtain ⟨y0, y1, y2, y3⟩ := four_of HQ4.out.d
      go_wp2_with fail
      go_ret
      exact ⟨rfl, HQ4.out.lo⟩
    · clear HEe
      by_cases h1 : er = 0
      · have hr5 : (er != 0) = false := by simpa using h1
        have hr6 : ((1 : Int) == er) = false := by subst h1; rfl
        go_wp2_with fail
        refine (HA.out _).mono ?_
        rintro e V4 ⟨rfl, hb⟩
        have HQ4 := hide (HLast.out V4 hb)
        clear hb y0 y1 y2 y3 HQ3 HLast
        obtain ⟨y0, y1, y2, y3⟩ := four_of HQ4.out.d
        go_wp2_with fail
        go_ret
        exact ⟨rfl, HQ4.out.lo⟩
      · have hr5 : (er != 0) = true := by simpa using h1
        obtain ⟨be, hbe⟩ : ∃ be, ((1 : Int) == er) = be := ⟨_, rfl⟩
        have HBe := hide hbe
        go_wp2_with fail
        refine (HA.out _).mono ?_
        rintro e V4 ⟨rfl, hb⟩
        have HQ4 := hide (HLast.out V4 hb)
        clear hb y0 y1 y2 y3 HQ3 HLast
        obtain ⟨y0, y1, y2, y3⟩ := four_of HQ4.out.d
        cases be
        all_goals
          go_wp2_with fail
          go_ret
          exact ⟨rfl, HQ4.out.lo⟩

end Go.Proofs.Pss

/-
  VerifyHolds' walk.
-/
import Derived.Test.YtlhbgkaknfhlnaaY4
import Derived.Test.YtlhbgkaknfhlnaaYh
import Derived.Lib.QuietBelow
import Derived.BigQuiet
namespace Go.Proofs.Vfy
open Go.RowKit Go.IntWalk Ytlhbgkaknfhlnaa.Knd
open Ytlhbgkaknfhlnaa (Wd wdA Fits)
open Cde (In i0 ia kd cd Ins coL four_of has_new1 vaZ TwP)
set_option linter.unusedVariables false

/-- The law's boxes. -/
structure Hq (W V : World) (cv wd rp : Array Value) (br : Nat) : Prop where
  c : HasC V W.heap.size 26 cv
  w : HasC V (W.heap.size + 1) 29 wd
  r : HasC V br 32 rp
  lo : Below W.heap.size W V
theorem Hq.below {W V V' : World} {cv wd rp : Array Value} {br : Nat} (h : Hq W V cv wd rp br) (hb : Below V.heap.size V V') : Hq W V' cv wd rp br :=
  ⟨h.c.below hb, h.w.below hb, h.r.below hb, bel h.lo hb⟩
theorem mixedH : Try.prog.follows .mixedOrders = true := by kernel_rfl

set_option maxRecDepth 100000 in
set_option maxHeartbeats 8000000 in
theorem yholds_walk (f d out : Int) (v : Wd) {a pa : Option Addr} {n cap pl pc : Nat} {L : List In} {W : World} (hL : Ins W a n cap L) (hP : Ints W pa pl pc v.ps) :
    Calls Try.prog 3 #[.agg (cd f d a n cap out), .agg (wdA v pa pl pc)] W fun e w' => e = .returned (.bool true) ∧ Below W.heap.size W w' := by
  have HA := hide fun V => yawake_any V
  have hb1 := bel1 W (.cells (cd f d a n cap out) 26)
  have HB0 := hide (bel hb1 (bel1 (W.alloc (.cells (cd f d a n cap out) 26)) (.cells (wdA v pa pl pc) 29)))
  have HC0 := hide ((HasC.new W 26 (cd f d a n cap out)).alloc (.cells (wdA v pa pl pc) 29))
  have HW0 := hide (has_new1 W (.cells (cd f d a n cap out) 26) 29 (wdA v pa pl pc))
  have HPI := hide hP
  have HLI := hide hL
  have HLn := hide hL.len
  have HV := hide (yverify_any f d out (hL.later HB0.out))
  have HF := hide fun w h => fits_any f d v.x v.y v.c pa pl pc v.ps w h
  clear hb1 hP hL
  go_enter Try.func3, Try.ntmps3
  go_wp2_with fail
  refine HV.out.mono ?_
  rintro e V1 ⟨ga, gc, rfl, hS, hb, -, -⟩
  obtain ⟨m, hm⟩ : ∃ m, vfN f d L out = m := ⟨_, rfl⟩
  obtain ⟨co, hco⟩ : ∃ co, vfC f d L out = co := ⟨_, rfl⟩
  obtain ⟨er, her⟩ : ∃ er, vfE f d L out = er := ⟨_, rfl⟩
  rw [hm] at hS ⊢
  rw [hco, her]
  have HM := hide hm
  have HCo := hide hco
  have HEr := hide her
  have hb2 := bel1 V1 (.cells #[.slice ga m gc, .int .i64 co, .int .i64 0] 32)
  have HQ0 : Hid (Hq W (V1.alloc (.cells #[.slice ga m gc, .int .i64 co, .int .i64 0] 32)) (cd f d a n cap out) (wdA v pa pl pc) #[.slice ga m gc, .int .i64 co, .int .i64 0] V1.heap.size) :=
    ⟨(HC0.out.below hb).below hb2, (HW0.out.below hb).below hb2, HasC.new _ _ _, bel (bel HB0.out hb) hb2⟩
  have HS0 := hide (hS.later hb2)
  obtain ⟨c0, c1, c2, c3⟩ := four_of (HC0.out.below hb)
  obtain ⟨w0, w1, w2, w3⟩ := four_of (HW0.out.below hb)
  have z0 := (HC0.out.below hb).lt
  have z1 := (HW0.out.below hb).lt
  have HVa := hide (Cde.cvalues_any f d out v (HLI.out.later HQ0.out.lo) (HPI.out.later HQ0.out.lo))
  clear hm hco her hb hb2 hS HV HC0 HW0 HB0
  go_wp2_with fail
  refine HVa.out.mono ?_
  rintro e V2 ⟨la, lc, rfl, hO, hb⟩
  have HQ1 := hide (HQ0.out.below hb)
  have HS1 := hide (HS0.out.later hb)
  obtain ⟨⟨ev, X⟩, hX⟩ : ∃ Z, vaZ f d v L out = Z := ⟨_, rfl⟩
  rw [hX] at hO ⊢
  have HX := hide hX
  dsimp only at hO ⊢
  obtain ⟨la', lc', e', hI, -⟩ := Ints.of_owns hO
  cases e'
  have HI1 := hide hI
  obtain ⟨xl, hxl⟩ : ∃ xl, X.length = xl := ⟨_, rfl⟩
  rw [hxl] at HI1 ⊢
  have HXl := hide hxl
  clear hX hO hI hxl hb HQ0 HS0 HVa c0 c1 c2 c3 w0 w1 w2 w3 z0 z1
  generalize V1.heap.size = br at *
  go_wp2_with fail
  refine (HA.out _).mono ?_
  rintro e V3 ⟨rfl, hb⟩
  have HQ2 := hide (HQ1.out.below hb)
  have HS2 := hide (HS1.out.later hb)
  have HI2 := hide (HI1.out.later hb)
  clear hb HQ1 HS1 HI1
  by_cases h0 : er = 0
  · have hr : (er != 0) = false := by simpa using h0
    have h0' := HEr.out.trans h0
    obtain ⟨p1, p2, p3⟩ := vf_holds h0'
    obtain ⟨-, -, -, -, p4, p5⟩ := vf_parts h0'
    have e1 : m = n := by rw [← HM.out, p4, HLn.out]
    have e2 : coL L = co := by rw [← HCo.out, p5]
    subst e1
    rw [e2, HLn.out] at p1
    rw [e2] at p2
    have HP3 := hide p3
    have HZ0 := hide h0'
    clear p3 p4 p5 e2 h0 h0'
    obtain ⟨c0, c1, c2, c3⟩ := four_of HQ2.out.c
    obtain ⟨w0, w1, w2, w3⟩ := four_of HQ2.out.w
    obtain ⟨r0, r1, r2, -, -, -⟩ := three_of HQ2.out.r
    have q1 : decide (co < (m : Int)) = false := by simp; omega
    have q2 : decide (200 < co) = false := by simp; omega
    have q3 : ((m : Int) != (m : Int)) = false := by simp
    go_wp2_with fail
    refine (HF.out _ (HPI.out.later HQ2.out.lo)).mono ?_
    rintro e V4 ⟨rfl, hb⟩
    have HB4 := hide (bel HQ2.out.lo hb)
    clear c0 c1 c2 c3 w0 w1 w2 w3 r0 r1 r2
    rcases Ytlhbgkaknfhlnaa.fitE_cases f d v with ⟨hF, hf⟩ | ⟨hF, hf⟩
    · rw [hf]
      obtain ⟨V, hV, hIn⟩ := HP3.out v hF
      rw [HX.out] at hV
      cases hV
      have hl : X.length = m := by rw [hIn.1, vfS_len, HM.out]
      obtain rfl : xl = m := by rw [← HXl.out, hl]
      have HIn := hide hIn
      have HSl : Hid ((vfS f d L out).length = xl) := hide (by rw [vfS_len, HM.out])
      have HQ3 := hide (HQ2.out.below hb)
      have HS3 := hide (HS2.out.later hb)
      have HI3 := hide (HI2.out.later hb)
      obtain ⟨r0, r1, r2, -, -, -⟩ := three_of HQ3.out.r
      have hxs : xl ≤ 9223372036854775807 := by omega
      clear hIn hl hF hf hb HP3 HZ0 HX HXl HM HCo HEr HLn HLI HPI HF HA HQ2 HS2 HI2
      generalize vfS f d L out = S at *
      go_wp2_with fail
      go_loopw [9] (fun i wr => ∃ k : Nat, k ≤ xl ∧ i = .int .i64 k ∧ Hid (Below V4.heap.size V4 wr)) (fun i _ => xl - (intOf i).toNat)
      case atStart => exact ⟨0, Nat.zero_le _, rfl, hide (Below.refl _ _)⟩
      case round =>
        obtain ⟨k, hk, rfl, HBk⟩ := hrel
        rename World => Vr
        clear r0 r1 r2
        by_cases hlt : k < xl
        · obtain ⟨i1, i2, i3⟩ := HIn.out.2 k (by rw [HSl.out]; exact hlt)
          obtain ⟨b1, o1, rfl, -, hc1⟩ := (HS3.out.later HBk.out).at (by omega)
          obtain ⟨s0, s1⟩ := hc1 k hlt
          obtain ⟨b2, o2, rfl, -, hc2⟩ := (HI3.out.later HBk.out).at (by omega)
          have s2 := hc2 k hlt
          have r0 := (HQ3.out.r.below HBk.out).cell 0 rfl
          generalize (S.getD k (0, 0)).1 = lo at *
          generalize (S.getD k (0, 0)).2 = hi at *
          generalize X.getD k 0 = z at *
          have HH := hide fun w => Ytlhbgkaknfhlnaa.Spn.has_any lo hi z w
          rw [show Ytlhbgkaknfhlnaa.Spn.hasB lo hi z = true from Ytlhbgkaknfhlnaa.Spn.hasB_iff.2 ⟨i1, i2⟩] at HH
          have HWd := hide fun (w : World) => (Ytlhbgkaknfhlnaa.Spn.word_any z w).mono fun e w' (h : _ ∧ w' = w) => (⟨h.1, by rw [h.2]; exact Below.refl _ _⟩ : e = .returned (.bool (Ytlhbgkaknfhlnaa.Spn.wd z)) ∧ Below w.heap.size w w')
          rw [show Ytlhbgkaknfhlnaa.Spn.wd z = true from Ytlhbgkaknfhlnaa.Spn.wd_iff.2 i3] at HWd
          have j0 : (0 : Int) ≤ k := by omega
          have j1 : (k : Int) < xl := by omega
          clear i1 i2 i3 hc1 hc2
          go_wp2_with fail
          have y0 := cell_regrown s0
          have y1 := cell_regrown s1
          have y2 := cell_regrown s2
          have y3 := cell_regrown r0
          refine wp_region_quiet_below mixedH (by kernel_rfl) ?_
          repeat (first | go_big_quiet_step (first
            | (go_at_call 9; exact Calls.regrown_of (HH.out _))
            | (go_at_call 10; exact Calls.regrown_of (HWd.out _))))
          refine wpQuiet_nil ?_
          intro Vs hw'
          obtain ⟨⟨dq, osq⟩, hw''⟩ := hw'
          have hb := below_regrown Vr dq osq
          simp only at hw''
          rw [← hw''] at hb
          have HB5 := hide (bel HBk.out hb)
          clear hw'' y0 y1 y2 y3 s0 s1 s2 r0 hb
          go_wp2_with fail
          go_roundw
          case rel => exact ⟨k + 1, by omega, by go_num, HB5⟩
          case measure => simp [intOf]; omega
        · obtain rfl : k = xl := by omega
          go_wp2_with fail
          go_ret
          exact ⟨rfl, bel HB4.out HBk.out⟩
    · rw [hf]
      have hv := va_unfit HZ0.out hF
      rw [HX.out] at hv
      cases hv
      go_wp2_with fail
      go_ret
      exact ⟨rfl, HB4.out⟩
  · have hr : (er != 0) = true := by simpa using h0
    obtain ⟨p1, -⟩ := vf_none (f := f) (d := d) (L := L) (out := out) (by rw [HEr.out]; exact h0)
    obtain rfl : m = 0 := by rw [← HM.out, p1]
    obtain ⟨r0, r1, r2, -, -, -⟩ := three_of HQ2.out.r
    clear h0
    go_wp2_with fail
    clear r0 r1 r2
    refine (HA.out _).mono ?_
    rintro e V4 ⟨rfl, hb⟩
    have HQ3 := hide (HQ2.out.below hb)
    obtain ⟨r0, r1, r2, -, -, -⟩ := three_of HQ3.out.r
    clear hb
    go_wp2_with fail
    go_ret
    exact ⟨rfl, HQ3.out.lo⟩

end Go.Proofs.Vfy

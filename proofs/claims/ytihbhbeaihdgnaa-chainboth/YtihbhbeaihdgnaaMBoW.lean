/-
  ChainBoth's walk.
-/
import Derived.Test.YtihbhbeaihdgnaaMHE
import Derived.Test.YtihbhbeaihdgnaaMXE
namespace Go.Proofs.Chn
open Go.RowKit Go.IntWalk Ytihbhbeaihdgnaa.Knd
open Ytihbhbeaihdgnaa (Wd wdA Fits)
open Cde (In i0 ia kd cd Ins four_of has_new1 vaZ)
open Vfy (vfE vfN vfC)
set_option linter.unusedVariables false

/-- A chain and a machine of one code that was taken answer alike. -/
theorem run_both {f d out : Int} {L : List In} (h : vfE f d L out = 0) (v : Wd) : (∃ (x : Int) (n : Nat), 0 < n ∧ hrV (vaZ f d v L out) out = .tuple #[.int .i64 x, .int .i64 0] ∧ Vmm.runV (vaZ f d v L out) out = .tuple #[.int .i64 x, .int .i64 n, .int .i64 0]) ∨
    (hrV (vaZ f d v L out) out = .tuple #[.int .i64 0, .int .i64 1] ∧ Vmm.runV (vaZ f d v L out) out = .tuple #[.int .i64 0, .int .i64 0, .int .i64 1]) := by
  rcases run_two h v with ⟨-, D, h1, -, h3, h4, h5⟩ | ⟨-, h1⟩
  · refine .inl ⟨D.getD out.toNat 0, D.length, by omega, ?_, ?_⟩ <;> rw [h1] <;> rfl
  · refine .inr ⟨?_, ?_⟩ <;> rw [h1] <;> rfl
/-- The law's boxes. -/
structure Bx (W V : World) (cv wv : Array Value) : Prop where
  c : HasC V W.heap.size 26 cv
  w : HasC V (W.heap.size + 1) 29 wv
  lo : Below W.heap.size W V
theorem Bx.below {W V V' : World} {cv wv : Array Value} (h : Bx W V cv wv) (hb : Below V.heap.size V V') : Bx W V' cv wv := ⟨h.c.below hb, h.w.below hb, bel h.lo hb⟩

set_option maxRecDepth 100000 in
set_option maxHeartbeats 8000000 in
theorem hboth_walk (f d out : Int) (v : Wd) {a pa : Option Addr} {n cap pl pc : Nat} {L : List In} {W : World} (hL : Ins W a n cap L) (hP : Ints W pa pl pc v.ps) :
    Calls Try.prog 3 #[.agg (cd f d a n cap out), .agg (wdA v pa pl pc)] W fun e w' => e = .returned (.bool true) ∧ Below W.heap.size W w' := by
  have HA := hide fun w => hawake_any w
  have hb2 := bel (bel1 W (.cells (cd f d a n cap out) 26)) (bel1 (W.alloc (.cells (cd f d a n cap out) 26)) (.cells (wdA v pa pl pc) 29))
  have HQ0 : Hid (Bx W ((W.alloc (.cells (cd f d a n cap out) 26)).alloc (.cells (wdA v pa pl pc) 29)) (cd f d a n cap out) (wdA v pa pl pc)) := hide ⟨(HasC.new W 26 _).alloc _, has_new1 W _ 29 _, hb2⟩
  have HN := hide (hNew_any f d out (hL.later hb2))
  have HM := hide fun (V : World) (hb : Below W.heap.size W V) => Vmm.mNew_any f d out (hL.later hb)
  have HV := hide fun (V : World) (hb : Below W.heap.size W V) => Vfy.yverify_any f d out (hL.later hb)
  have HPI := hide hP
  clear hb2 hL hP
  unfold Vfy.VfP at HV
  by_cases h0 : vfE f d L out = 0
  · have H0 := hide h0
    have h2 := run_both h0 v
    have HR1 := hide fun (V : World) (lo g b n : Nat) (h : Hm V lo g f d L out b n) (hb : Below W.heap.size W V) => hRun_any v h (HPI.out.later hb) h0
    have HR2 := hide fun (V : World) (lo g : Nat) (a : Option Addr) (n c : Nat) (h : Vmm.Mc V lo g f d L out a n c) (hb : Below W.heap.size W V) => Vmm.mRun_any v h (HPI.out.later hb) h0
    generalize hrV (vaZ f d v L out) out = Z1 at *
    generalize Vmm.runV (vaZ f d v L out) out = Z2 at *
    rw [h0] at HV
    generalize vfN f d L out = vm at *
    generalize vfC f d L out = vc at *
    generalize Vfy.vfS f d L out = vs at *
    clear h0
    go_enter Try.func3, Try.ntmps3
    go_wp2_with fail
    refine HN.out.mono ?_
    rintro e V1 ⟨hb, ⟨h9, -⟩ | ⟨-, g1, b1, n1, rfl, hM⟩⟩
    · exact absurd H0.out h9
    have HQ1 := hide (HQ0.out.below hb)
    have HM1 := hide hM
    obtain ⟨c0, c1, c2, c3⟩ := four_of HQ1.out.c
    clear hb hM HN HQ0
    go_wp2_with fail
    refine (HM.out _ HQ1.out.lo).mono ?_
    rintro e V2 ⟨hb, ⟨h9, -⟩ | ⟨-, g2, a2, n2, k2, rfl, hM⟩⟩
    · exact absurd H0.out h9
    have HQ2 := hide (HQ1.out.below hb)
    have HM2 := hide (HM1.out.later hb)
    have HX2 := hide hM
    clear hb hM HM HQ1 HM1 c0 c1 c2 c3
    obtain ⟨c0, c1, c2, c3⟩ := four_of HQ2.out.c
    go_wp2_with fail
    refine (HV.out _ HQ2.out.lo).mono ?_
    rintro e V3 ⟨ga, gc, rfl, -, hb, -, -⟩
    have hb2 := bel hb (bel1 V3 (.cells #[.slice ga vm gc, .int .i64 vc, .int .i64 0] 39))
    have HQ3 := hide (HQ2.out.below hb2)
    have HM3 := hide (HM2.out.later hb2)
    have HX3 := hide (HX2.out.later hb2)
    clear hb hb2 HV HQ2 HM2 HX2 c0 c1 c2 c3
    go_wp2_with fail
    refine (HA.out _).mono ?_
    rintro e V4 ⟨rfl, hb⟩
    have HQ4 := hide (HQ3.out.below hb)
    have HM4 := hide (HM3.out.later hb)
    have HX4 := hide (HX3.out.later hb)
    obtain ⟨w0, w1, w2, w3⟩ := four_of HQ4.out.w
    clear hb HA HQ3 HM3 HX3
    rcases h2 with ⟨x, st, hst, rfl, rfl⟩ | ⟨rfl, rfl⟩
    · have j1 : (0 : Int) < st := by omega
      go_wp2_with fail
      refine (HR1.out _ _ _ _ _ HM4.out HQ4.out.lo).mono ?_
      rintro e V5 ⟨rfl, hb⟩
      have HQ5 := hide (HQ4.out.below hb)
      have HX5 := hide (HX4.out.later hb)
      clear hb HR1 HQ4 HM4 HX4 w0 w1 w2 w3
      obtain ⟨w0, w1, w2, w3⟩ := four_of HQ5.out.w
      go_wp2_with fail
      refine (HR2.out _ _ _ _ _ _ HX5.out HQ5.out.lo).mono ?_
      rintro e V6 ⟨rfl, hb⟩
      have HB6 := hide (bel HQ5.out.lo hb)
      have j2 : (x == x) = true := by simp
      clear hb HR2 HQ5 HX5 w0 w1 w2 w3
      go_wp2_with fail
      go_ret
      exact ⟨rfl, HB6.out⟩
    · go_wp2_with fail
      refine (HR1.out _ _ _ _ _ HM4.out HQ4.out.lo).mono ?_
      rintro e V5 ⟨rfl, hb⟩
      have HQ5 := hide (HQ4.out.below hb)
      have HX5 := hide (HX4.out.later hb)
      clear hb HR1 HQ4 HM4 HX4 w0 w1 w2 w3
      obtain ⟨w0, w1, w2, w3⟩ := four_of HQ5.out.w
      go_wp2_with fail
      refine (HR2.out _ _ _ _ _ _ HX5.out HQ5.out.lo).mono ?_
      rintro e V6 ⟨rfl, hb⟩
      have HB6 := hide (bel HQ5.out.lo hb)
      clear hb HR2 HQ5 HX5 w0 w1 w2 w3
      go_wp2_with fail
      go_ret
      exact ⟨rfl, HB6.out⟩
  · obtain ⟨er, her⟩ : ∃ er, vfE f d L out = er := ⟨_, rfl⟩
    have HE := hide her
    rw [her] at HV h0
    have hr : (er != 0) = true := by simpa using h0
    have hr2 : (er != er) = false := by simp
    have HN0 := hide h0
    generalize vfN f d L out = vm at *
    generalize vfC f d L out = vc at *
    generalize Vfy.vfS f d L out = vs at *
    clear h0 her
    go_enter Try.func3, Try.ntmps3
    go_wp2_with fail
    refine HN.out.mono ?_
    rintro e V1 ⟨hb, ⟨-, rfl⟩ | ⟨h9, -⟩⟩
    rotate_left
    · exact absurd (HE.out.symm.trans h9) HN0.out
    rw [HE.out]
    have HQ1 := hide (HQ0.out.below hb)
    obtain ⟨c0, c1, c2, c3⟩ := four_of HQ1.out.c
    clear hb HN HQ0
    go_wp2_with fail
    refine (HM.out _ HQ1.out.lo).mono ?_
    rintro e V2 ⟨hb, ⟨-, rfl⟩ | ⟨h9, -⟩⟩
    rotate_left
    · exact absurd (HE.out.symm.trans h9) HN0.out
    rw [HE.out]
    have HQ2 := hide (HQ1.out.below hb)
    clear hb HM HQ1 c0 c1 c2 c3
    obtain ⟨c0, c1, c2, c3⟩ := four_of HQ2.out.c
    go_wp2_with fail
    refine (HV.out _ HQ2.out.lo).mono ?_
    rintro e V3 ⟨ga, gc, rfl, -, hb, -, -⟩
    have hb2 := bel hb (bel1 V3 (.cells #[.slice ga vm gc, .int .i64 vc, .int .i64 er] 39))
    have hb3 := bel hb (bel1 V3 (.cells #[.slice ga vm gc, .int .i64 vc, .int .i64 0] 39))
    have HQ3 := hide (HQ2.out.below hb3)
    clear hb hb2 hb3 HV HQ2 c0 c1 c2 c3
    go_wp2_with fail
    refine (HA.out _).mono ?_
    rintro e V4 ⟨rfl, hb⟩
    have HB4 := hide (bel HQ3.out.lo hb)
    clear hb HA HQ3
    go_wp2_with fail
    go_ret
    exact ⟨rfl, HB4.out⟩

end Go.Proofs.Chn

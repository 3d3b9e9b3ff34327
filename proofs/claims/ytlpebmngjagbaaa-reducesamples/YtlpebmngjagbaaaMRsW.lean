/-
  ReduceSamples' walk.
-/
import Derived.Test.YtlpebmngjagbaaaMRgW
import Derived.Test.YtlpebmngjagbaaaMRE
import Derived.Test.YtlpebmngjagbaaaMKnRef
import Derived.Test.YtlpebmngjagbaaaMCdC
namespace Go.Proofs.Rdc
open Go.RowKit Go.IntWalk Ytlpebmngjagbaaa.Knd
open Ytlpebmngjagbaaa (Wd wdA Fits)
open Cde (In i0 ia kd cd Ins is6 four_of two_of vaZ TwP zA below_drew six_of)
open Vfy (vfE vfN vfC w32)
set_option linter.unusedVariables false

theorem wf_u16 {x : Int} (h : (Lit.int .u16 x).wf = true) : 0 ≤ x ∧ x ≤ 65535 := by
  simp [Lit.wf, IntKind.min, IntKind.max, IntKind.signed, IntKind.bits] at h
  exact ⟨by omega, by omega⟩
theorem lo_lt {f d : Int} (hm : May f d) : lowZ f d < highZ f d := by
  rcases kind3 f d with ⟨h, rfl⟩ | ⟨h, rfl⟩ | h
  · have := pw_15 (d - 1) (by have := h.2.2; omega)
    obtain ⟨a, b, -⟩ := zs0 h
    rw [a, b]; omega
  · have := pw_15 (d - 1) (by have := h.2.2; omega)
    obtain ⟨a, b, -⟩ := zs1 h
    rw [a, b]; omega
  · exact absurd hm h
/-- The window that is filled: its box, its samples. -/
structure Sq (V7 V : World) (pv : Value) (P : List Int) : Prop where
  w : HasC V V7.heap.size 39 #[.int .i64 0, .int .i64 0, .int .i64 0, pv]
  p : V.ownsRow V7.heap.size 3 1 pv P.length (i64s P)
  lo : Below V7.heap.size V7 V
theorem Sq.below {V7 V V' : World} {pv : Value} {P : List Int} (h : Sq V7 V pv P) (hb : Below V.heap.size V V') : Sq V7 V' pv P := ⟨h.w.below hb, Cde.own_later h.p hb, bel h.lo hb⟩
theorem Sq.grow {V7 V w' : World} {pv pv' : Value} {P P' : List Int} (h : Sq V7 V pv P) (hg : V.grownBy w' pv.ownBlock) (hO : w'.ownsRow V7.heap.size 3 1 pv' P'.length (i64s P')) : Sq V7 (w'.setCell ⟨V7.heap.size, 3, none⟩ pv') pv' P' := by
  have hW := own_grow h.p hg h.w (by decide)
  exact ⟨hW.set 3 pv', ownsRow_setCell_other hO (a := ⟨V7.heap.size, 3, none⟩) (own_ne hO hW (by decide)) _, (h.lo.grown hg h.lo.size fun k hk => (Cde.owns_block h.p k hk).1).setCell (p := ⟨V7.heap.size, 3, none⟩) (Nat.le_refl _) _⟩

set_option maxRecDepth 100000 in
set_option maxHeartbeats 4000000 in
theorem rsam_no (f dd d x : Int) {W : World} (h : ¬ May f dd ∨ d < 2) (hd : 0 ≤ d ∧ d ≤ 65535) :
    Calls Try.prog 7 #[.agg (kd f dd), .int .u16 d, .int .i64 x] W fun e w' => e = .returned (.bool true) ∧ Below W.heap.size W w' := by
  have HA := hide fun V => uawake_any V
  have HB0 := hide (bel1 W (.cells (kd f dd) 33))
  have HK0 := hide (HasC.new W 33 (kd f dd))
  obtain ⟨d1, d2⟩ := hd
  by_cases hm : May f dd
  · have h2 : decide (d < 2) = true := by rcases h with h | h; exact absurd hm h; simpa using h
    have HC := hide fun w => check_ok f dd w hm
    clear h hm
    go_enter Try.func7, Try.ntmps7
    go_wp2_with fail
    refine (HA.out _).mono ?_
    rintro e V1 ⟨rfl, hb⟩
    have HB1 := hide (bel HB0.out hb)
    obtain ⟨k0, k1⟩ := two_of (HK0.out.below hb)
    clear hb
    go_wp2_with fail
    refine (HC.out _).mono ?_
    rintro e V2 ⟨rfl, hb⟩
    have HB2 := hide (bel HB1.out hb)
    clear hb k0 k1
    go_wp2_with fail
    refine (HA.out _).mono ?_
    rintro e V3 ⟨rfl, hb⟩
    have HB3 := hide (bel HB2.out hb)
    clear hb
    go_wp2_with fail
    go_ret
    exact ⟨rfl, HB3.out⟩
  · have HC := hide fun w => check_bad f dd w hm
    clear h hm
    go_enter Try.func7, Try.ntmps7
    go_wp2_with fail
    refine (HA.out _).mono ?_
    rintro e V1 ⟨rfl, hb⟩
    have HB1 := hide (bel HB0.out hb)
    obtain ⟨k0, k1⟩ := two_of (HK0.out.below hb)
    clear hb
    go_wp2_with fail
    refine (HC.out _).mono ?_
    rintro e V2 ⟨rfl, hb⟩
    have HB2 := hide (bel HB1.out hb)
    clear hb k0 k1
    go_wp2_with fail
    refine (HA.out _).mono ?_
    rintro e V3 ⟨rfl, hb⟩
    have HB3 := hide (bel HB2.out hb)
    clear hb
    go_wp2_with fail
    go_ret
    exact ⟨rfl, HB3.out⟩

set_option maxRecDepth 100000 in
set_option maxHeartbeats 4000000 in
theorem rsam_bad (f dd d x : Int) {W : World} (hm : May f dd) (hd : 2 ≤ d ∧ d ≤ 65535) (h : vfE f dd (smC d) 6 ≠ 0) :
    Calls Try.prog 7 #[.agg (kd f dd), .int .u16 d, .int .i64 x] W fun e w' => e = .returned (.bool true) ∧ Below W.heap.size W w' := by
  have HA := hide fun V => uawake_any V
  have HB0 := hide (bel1 W (.cells (kd f dd) 33))
  have HK0 := hide (HasC.new W 33 (kd f dd))
  obtain ⟨d1, d2⟩ := hd
  have h2 : decide (d < 2) = false := by simpa using d1
  have HC := hide fun w => check_ok f dd w hm
  obtain ⟨er, her⟩ : ∃ er, vfE f dd (smC d) 6 = er := ⟨_, rfl⟩
  have h0 : er ≠ 0 := by rw [← her]; exact h
  have HRe := hide fun (V : World) (a : Option Addr) (h : Ins V a 7 7 (smC d)) => ureduce_no f dd 6 h her h0
  have HVe := hide fun (V : World) (a : Option Addr) (h : Ins V a 7 7 (smC d)) => Vfy.yverify_any f dd 6 h
  unfold Vfy.VfP at HVe
  rw [her] at HVe
  generalize vfN f dd (smC d) 6 = vm at *
  generalize vfC f dd (smC d) 6 = vc at *
  generalize Vfy.vfS f dd (smC d) 6 = vs at *
  have q1 : (er != 0) = true := by simpa using h0
  have q2 : (er == er) = true := by simp
  clear h her h0 hm
  go_enter Try.func7, Try.ntmps7
  go_wp2_with fail
  refine (HA.out _).mono ?_
  rintro e V1 ⟨rfl, hb⟩
  have HB1 := hide (bel HB0.out hb)
  have HK1 := hide (HK0.out.below hb)
  obtain ⟨k0, k1⟩ := two_of HK1.out
  clear hb
  go_wp2_with fail
  refine (HC.out _).mono ?_
  rintro e V2 ⟨rfl, hb⟩
  have HB2 := hide (bel HB1.out hb)
  have HK2 := hide (HK1.out.below hb)
  clear hb k0 k1 HK1 HK0 HB0 HB1
  obtain ⟨k0, k1⟩ := two_of HK2.out
  have hkl := HK2.out.lt
  have HX : Hid (Ins ((V2.alloc (.cells (is6 (smC d)).toArray 53)).alloc (.cells (cd f dd (some ⟨V2.heap.size, 0, none⟩) 7 7 6) 36)) (some ⟨V2.heap.size, 0, none⟩) 7 7 (smC d) ∧ HasC ((V2.alloc (.cells (is6 (smC d)).toArray 53)).alloc (.cells (cd f dd (some ⟨V2.heap.size, 0, none⟩) 7 7 6) 36)) (V2.heap.size + 1) 36 (cd f dd (some ⟨V2.heap.size, 0, none⟩) 7 7 6) ∧ HasC ((V2.alloc (.cells (is6 (smC d)).toArray 53)).alloc (.cells (cd f dd (some ⟨V2.heap.size, 0, none⟩) 7 7 6) 36)) W.heap.size 33 (kd f dd) ∧ Below W.heap.size W ((V2.alloc (.cells (is6 (smC d)).toArray 53)).alloc (.cells (cd f dd (some ⟨V2.heap.size, 0, none⟩) 7 7 6) 36))) :=
    hide ⟨(Cde.has_ins (L := smC d) (HasC.new V2 53 (is6 (smC d)).toArray) (by simp [smC])).later (bel1 _ _), Cde.has_new1 V2 _ 36 _, (HK2.out.below (bel1 _ _)).below (bel1 _ _), bel (bel HB2.out (bel1 _ _)) (bel1 _ _)⟩
  go_wp2_with fail
  refine (HRe.out _ _ HX.out.1).mono ?_
  rintro e V3 ⟨a3, l3, rfl, hb⟩
  have HY : Hid (Ins V3 (some ⟨V2.heap.size, 0, none⟩) 7 7 (smC d) ∧ HasC V3 (V2.heap.size + 1) 36 (cd f dd (some ⟨V2.heap.size, 0, none⟩) 7 7 6) ∧ Below W.heap.size W V3) := hide ⟨HX.out.1.later hb, HX.out.2.1.below hb, bel HX.out.2.2.2 hb⟩
  clear hb HX HRe k0 k1 hkl
  generalize V2.heap.size = g0 at *
  obtain ⟨c0, c1, c2, c3⟩ := four_of HY.out.2.1
  have hcl := HY.out.2.1.lt
  have HY2 := hide (HY.out.1.later (bel1 V3 (.cells (cd 0 0 a3 0 l3 0) 36)))
  have HB4 := hide (bel HY.out.2.2 (bel1 V3 (.cells (cd 0 0 a3 0 l3 0) 36)))
  clear HY
  go_wp2_with fail
  refine (HVe.out _ _ HY2.out).mono ?_
  rintro e V4 ⟨ga, gc, rfl, -, hb, -, -⟩
  have HB5 := hide (bel (bel HB4.out hb) (bel1 V4 (.cells #[.slice ga vm gc, .int .i64 vc, .int .i64 0] 44)))
  clear hb c0 c1 c2 c3 hcl
  go_wp2_with fail
  go_ret
  exact ⟨rfl, HB5.out⟩


end Go.Proofs.Rdc

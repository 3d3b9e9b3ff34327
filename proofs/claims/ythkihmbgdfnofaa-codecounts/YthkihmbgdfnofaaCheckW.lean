/-
  The walk of CodeCheck.
-/
import Derived.Test.YthkihmbgdfnofaaB6
import Derived.Test.YthkihmbgdfnofaaM1
import Derived.Test.YthkihmbgdfnofaaS3
namespace Go.Proofs.Ythkihmbgdfnofaa
open Go.RowKit Go.IntWalk Knd
set_option linter.unusedVariables false

theorem roomy_ins {W : World} {base g n c : Nat} {L : List In} (hO : W.ownsRow base 43 6 (.slice (some ⟨g, 0, none⟩) (n + 1) c) (n + 1) (is6 (L ++ [mk7]))) : Ins W (some ⟨g, 0, none⟩) (n + 1) c (L ++ [mk7]) := by
  obtain ⟨a', c', e, hI, -⟩ := Ins.of_owns hO
  cases e
  exact hI
theorem ins_left {W : World} {a : Option Addr} {n c : Nat} {L : List In} (h : Ins W a (n + 1) c (L ++ [mk7])) : Ins W a n c L := by
  have hl := h.len
  simp at hl
  have h3 := h.take (k := n) (by omega)
  rw [← hl, List.take_left, hl] at h3
  exact h3

set_option maxRecDepth 100000 in
set_option maxHeartbeats 4000000 in
theorem check_walk (f d out : Int) {a : Option Addr} {n cap : Nat} {L : List In} (W : World) (hL : Ins W a n cap L) (hs : n ≤ 2932031007317) :
    Calls Try.prog 3 #[.agg (cd f d a n cap out)] W fun e W' => e = .returned (.bool true) ∧ Below W.heap.size W W' := by
  have hb1 := bel1 W (.cells (cd f d a n cap out) 26)
  have HC0 := hide (HasC.new W 26 (cd f d a n cap out))
  have HB0 := hide hb1
  have HR := hide (roomyC_any f d out (hL.later hb1) (by omega))
  have HLI := hide hL
  have HA := hide fun w => awake_any w
  have HM := hide fun (V : World) (hb : Below W.heap.size W V) => xMay_any f d out (hL.later hb)
  have HCk := hide fun (V : World) (g c : Nat) (h : Ins V (some ⟨g, 0, none⟩) (n + 1) c (L ++ [mk7])) => ccheck_any f d out (ins_left h)
  have HH := hide fun (V : World) (g c : Nat) (hb : Below W.heap.size W V) (h : Ins V (some ⟨g, 0, none⟩) (n + 1) c (L ++ [mk7])) => heldC_any f d out h (hL.later hb)
  clear hb1 hL
  go_enter Try.func3, Try.ntmps3
  go_wp2_with fail
  refine HR.out.mono ?_
  rintro e V1 ⟨g, c, rfl, hO, hb⟩
  have hb2 := bel1 V1 (.cells (cd f d (some ⟨g, 0, none⟩) n c out) 26)
  have HC1 := hide ((HC0.out.below hb).below hb2)
  have HD1 := hide (HasC.new V1 26 (cd f d (some ⟨g, 0, none⟩) n c out))
  have HB1 := hide (bel (bel HB0.out hb) hb2)
  have HI1 := hide ((roomy_ins hO).later hb2)
  clear hb hb2 hO HR HC0 HB0
  go_wp2_with fail
  generalize V1.heap.size = q at *
  refine (HCk.out _ _ _ HI1.out).mono ?_
  rintro e V2 ⟨rfl, hb⟩
  have HC2 := hide (HC1.out.below hb)
  have HD2 := hide (HD1.out.below hb)
  have HB2 := hide (bel HB1.out hb)
  have HI2 := hide (HI1.out.later hb)
  clear hb HC1 HD1 HB1 HI1 HCk
  go_wp2_with fail
  refine (HA.out _).mono ?_
  rintro e V3 ⟨rfl, hb⟩
  have HC3 := hide (HC2.out.below hb)
  have HD3 := hide (HD2.out.below hb)
  have HB3 := hide (bel HB2.out hb)
  have HI3 := hide (HI2.out.later hb)
  clear hb HC2 HD2 HB2 HI2 HA
  obtain ⟨c0, c1, c2, c3⟩ := four_of HC3.out
  rcases ccE_cases f d L out with ⟨hm, he⟩ | ⟨hm, he⟩
  · rw [he]
    rw [hm] at HM
    go_wp2_with fail
    refine (HM.out _ HB3.out).mono ?_
    rintro e V4 ⟨rfl, hb⟩
    have HC4 := hide (HC3.out.below hb)
    have HD4 := hide (HD3.out.below hb)
    have HB4 := hide (bel HB3.out hb)
    have HI4 := hide (HI3.out.later hb)
    clear hb HC3 HD3 HB3 HI3 c0 c1 c2 c3
    obtain ⟨c0, c1, c2, c3⟩ := four_of HC4.out
    obtain ⟨d0, d1, d2, d3⟩ := four_of HD4.out
    go_wp2_with fail
    refine (HH.out _ _ _ HB4.out HI4.out).mono ?_
    rintro e V5 ⟨rfl, hb⟩
    have HB5 := hide (bel HB4.out hb)
    clear hb
    go_wp2_with fail
    go_ret
    exact ⟨rfl, HB5.out⟩
  · rw [he]
    have hm2 : mcB f d L out = false := by simpa using hm
    rw [hm2] at HM
    go_wp2_with fail
    refine (HM.out _ HB3.out).mono ?_
    rintro e V4 ⟨rfl, hb⟩
    have HC4 := hide (HC3.out.below hb)
    have HD4 := hide (HD3.out.below hb)
    have HB4 := hide (bel HB3.out hb)
    have HI4 := hide (HI3.out.later hb)
    clear hb HC3 HD3 HB3 HI3 c0 c1 c2 c3
    obtain ⟨c0, c1, c2, c3⟩ := four_of HC4.out
    obtain ⟨d0, d1, d2, d3⟩ := four_of HD4.out
    go_wp2_with fail
    refine (HH.out _ _ _ HB4.out HI4.out).mono ?_
    rintro e V5 ⟨rfl, hb⟩
    have HB5 := hide (bel HB4.out hb)
    clear hb
    go_wp2_with fail
    go_ret
    exact ⟨rfl, HB5.out⟩

end Go.Proofs.Ythkihmbgdfnofaa

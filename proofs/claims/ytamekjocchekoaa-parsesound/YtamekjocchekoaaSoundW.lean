/-
  The walk of ParseSound.
-/
import Derived.Test.YtamekjocchekoaaGr7
namespace Go.Proofs.Ytamekjocchekoaa
open Go.RowKit Go.IntWalk Lx Pz
set_option linter.unusedVariables false

theorem chk_short {NM : List Txt} {BS : List Int} {NS : List Nd} {root : Int} (h : chkP NM BS NS root = true) : ∀ s ∈ NM, s.length ≤ 9223372036854775807 := by
  simp only [chkP, Bool.and_eq_true, nmB, List.all_eq_true] at h
  intro s hs
  have := h.2.2.2.1 s hs
  simp only [wrd, Bool.and_eq_true, decide_eq_true_eq] at this
  omega

set_option maxRecDepth 100000 in
set_option maxHeartbeats 4000000 in
theorem sound_walk (s : ByteArray) (w : World) (hs : s.size ≤ maxLen) :
    Calls Try.prog 6 #[.string s] w fun e w' => e = .returned (.bool true) ∧ Below w.heap.size w w' := by
  clear hs
  go_enter Try.func6, Try.ntmps6
  go_wp2_with fail
  refine (parse_read _ _).mono ?_
  rintro e W1 (⟨rfl, hb1, -⟩ | ⟨T, NM, es, ex, na, nc, ba, bc, da, dc, hT, hA, hl, hz, rfl, hx, hi, hn, hb1⟩)
  · have HB := hide hb1
    clear hb1
    go_wp2_with fail
    refine (awake_any _).mono ?_
    rintro e W3 ⟨rfl, hb1⟩
    have HB3 := hide (bel (bel HB.out (bel1 _ _)) hb1)
    have HC3 := hide ((HasC.new W1 26 nil4).below hb1)
    clear hb1 HB
    go_wp2_with fail
    refine (awake_any _).mono ?_
    rintro e W4 ⟨rfl, hb1⟩
    have HB4 := hide (bel HB3.out hb1)
    obtain ⟨c0, c1, c2, c3⟩ := facts4 (HC3.out.below hb1)
    clear hb1 HB3
    go_wp2_with fail
    go_ret
    exact ⟨rfl, HB4.out⟩
  · have HB := hide hb1
    have HOK := hide (chk_ok hT hA hl hz)
    have HC := hide (HasC.new W1 26 (tr4 (.slice na es.length nc) (.slice ba es.length bc) (.slice da (szL es + ex.size) dc) (.int .i64 (((szL es + ex.size : Nat) : Int) - 1))))
    have HX := hide (hx.later (bel1 W1 (.cells (tr4 (.slice na es.length nc) (.slice ba es.length bc) (.slice da (szL es + ex.size) dc) (.int .i64 (((szL es + ex.size : Nat) : Int) - 1))) 26)))
    have HI := hide (hi.later (bel1 W1 (.cells (tr4 (.slice na es.length nc) (.slice ba es.length bc) (.slice da (szL es + ex.size) dc) (.int .i64 (((szL es + ex.size : Nat) : Int) - 1))) 26)))
    have HN := hide (hn.later (bel1 W1 (.cells (tr4 (.slice na es.length nc) (.slice ba es.length bc) (.slice da (szL es + ex.size) dc) (.int .i64 (((szL es + ex.size : Nat) : Int) - 1))) 26)))
    have HT := hide hT
    have HTL := hide (tks_len hT)
    generalize flL es 0 ++ ex.flat (szL es) = NS at *
    generalize bdL es 0 = BS at *
    generalize szL es + ex.size = sz0 at *
    generalize es.length = nl0 at *
    have HZ := hide hz
    clear hb1 hT hA hl hx hi hn hz
    go_wp2_with fail
    refine (awake_any _).mono ?_
    rintro e W3 ⟨rfl, hb1⟩
    have HB3 := hide (bel (bel HB.out (bel1 _ _)) hb1)
    have HC3 := hide (HC.out.below hb1)
    have HX3 := hide (HX.out.later hb1)
    have HI3 := hide (HI.out.later hb1)
    have HN3 := hide (HN.out.later hb1)
    clear hb1 HB HC HX HI HN
    go_wp2_with fail
    refine (tokens_any _ _).mono ?_
    rintro e W4 (⟨h0, -, -⟩ | ⟨T', v, h0, rfl, ho, hb1⟩)
    · rw [HT.out] at h0; cases h0
    · have hTT := HT.out.symm.trans h0
      cases hTT
      obtain ⟨ta, tc, rfl, ht⟩ := Toks.of_owns ho
      have HB4 := hide (bel HB3.out hb1)
      have HC4 := hide (HC3.out.below hb1)
      obtain ⟨c0, c1, c2, c3⟩ := facts4 HC4.out
      have HCK := hide (check_any (root := (sz0 : Int) - 1) (HX3.out.later hb1) (HI3.out.later hb1) (HN3.out.later hb1) (chk_short HOK.out))
      rw [HOK.out] at HCK
      have hz : sz0 ≤ T.length := HZ.out
      have hz2 : (sz0 : Int) ≤ (T.length : Int) := by omega
      have hz3 := HTL.out
      clear hb1 HB3 HC3 HX3 HI3 HN3 ho h0 ht
      go_wp2_with fail
      refine (HCK.out).mono ?_
      rintro e W5 ⟨rfl, hb1⟩
      have HB5 := hide (bel HB4.out hb1)
      clear hb1 HB4
      go_wp2_with fail
      go_ret
      exact ⟨rfl, HB5.out⟩

end Go.Proofs.Ytamekjocchekoaa

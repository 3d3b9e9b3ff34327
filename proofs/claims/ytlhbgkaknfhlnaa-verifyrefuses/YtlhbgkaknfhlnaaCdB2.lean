/-
  code.Check: which codes may be.
-/
import Derived.Test.YtlhbgkaknfhlnaaCdB1
namespace Go.Proofs.Cde
open Go.RowKit Go.IntWalk Ytlhbgkaknfhlnaa.Knd
set_option linter.unusedVariables false

/-- An instruction may stand at the place i. -/
def okI (n : In) (i : Nat) : Bool := decide (0 ≤ Ytlhbgkaknfhlnaa.Spn.ar n.op) && rgs n i && csB n
def okT (L : List In) (k : Nat) : Bool := (List.range k).all fun i => okI (L.getD i i0) i
theorem okT_succ (L : List In) (k : Nat) : okT L (k + 1) = (okT L k && okI (L.getD k i0) k) := by
  simp [okT, List.range_succ]
theorem okT_at {L : List In} {m : Nat} (h : okT L m = true) {k : Nat} (hk : k < m) : okI (L.getD k i0) k = true := by
  simp only [okT, List.all_eq_true, List.mem_range] at h
  exact h k hk
/-- The code may be. -/
def mcB (f d : Int) (L : List In) (out : Int) : Bool := decide (May f d) && Ytlhbgkaknfhlnaa.Spn.inB L.length 1 200 && Ytlhbgkaknfhlnaa.Spn.inB out 0 ((L.length : Int) - 1) && okT L L.length
def ccE (f d : Int) (L : List In) (out : Int) : Int := if mcB f d L out = true then 0 else 15

def okE (L : List In) (n : Nat) : Int := if okT L n = true then 0 else 15
theorem okE_bad {L : List In} {n : Nat} (h : okT L n = true → False) : (15 : Int) = okE L n := by unfold okE; rw [if_neg h]
theorem okE_ok {L : List In} {n : Nat} (h : okT L n = true) : (0 : Int) = okE L n := by unfold okE; rw [if_pos h]

theorem kcheck_any (f d : Int) (w : World) : Calls Try.prog 22 #[.agg (kd f d)] w fun e w' => e = .returned (.int .i64 (if May f d then 0 else 1)) ∧ Below w.heap.size w w' := by
  by_cases h : May f d
  · rw [if_pos h]; exact check_ok f d w h
  · rw [if_neg h]; exact check_bad f d w h

set_option maxRecDepth 100000 in
set_option maxHeartbeats 4000000 in
theorem ccheck_any (f d out : Int) {a : Option Addr} {n cap : Nat} {L : List In} {W : World} (hL : Ins W a n cap L) :
    Calls Try.prog 16 #[.agg (cd f d a n cap out)] W fun e W' => e = .returned (.int .i64 (ccE f d L out)) ∧ Below W.heap.size W W' := by
  have HB0 := hide (bel1 W (.cells (cd f d a n cap out) 26))
  have HC0 := hide (HasC.new W 26 (cd f d a n cap out))
  have hn := hL.short
  have HLn := hide hL.len
  have HK := hide fun w => kcheck_any f d w
  have HWi := hide fun x lo hi w => cwithin_any x lo hi w
  have HL0 := hide hL
  clear hL
  have n1 : -9223372036854775808 ≤ (n : Int) - 1 ∧ (n : Int) - 1 ≤ 9223372036854775807 := by omega
  have n0 : 0 ≤ (n : Int) := by omega
  by_cases hm : May f d
  · rw [if_pos hm] at HK
    cases hc : Ytlhbgkaknfhlnaa.Spn.inB (n : Int) 1 200
    · rw [show ccE f d L out = 15 by simp [ccE, mcB, HLn.out, hc]]
      go_enter Try.func16, Try.ntmps16
      go_wp2_with (first
        | (go_at_call 22; refine (HK.out _).mono ?_; rintro e w1 ⟨rfl, hb⟩; have HB1 := hide (bel HB0.out hb); obtain ⟨c0, c1, c2, c3⟩ := four_of (HC0.out.below hb); clear hb)
        | (go_at_call 25; refine (HWi.out _ _ _ _).mono ?_; rintro e w' ⟨rfl, rfl⟩))
      go_ret
      exact ⟨rfl, HB1.out⟩
    · cases ho : Ytlhbgkaknfhlnaa.Spn.inB out 0 ((n : Int) - 1)
      · rw [show ccE f d L out = 15 by simp [ccE, mcB, HLn.out, ho]]
        go_enter Try.func16, Try.ntmps16
        go_wp2_with (first
          | (go_at_call 22; refine (HK.out _).mono ?_; rintro e w1 ⟨rfl, hb⟩; have HB1 := hide (bel HB0.out hb); obtain ⟨c0, c1, c2, c3⟩ := four_of (HC0.out.below hb); clear hb)
          | (go_at_call 25; refine (HWi.out _ _ _ _).mono ?_; rintro e w' ⟨rfl, rfl⟩))
        go_ret
        exact ⟨rfl, HB1.out⟩
      · have hE : ccE f d L out = okE L n := by simp [okE, ccE, mcB, HLn.out, ho, hm, hc]
        rw [hE]
        clear hE
        have hcc := Ytlhbgkaknfhlnaa.Spn.inB_iff.1 hc
        go_enter Try.func16, Try.ntmps16
        go_wp2_with (first
          | (go_at_call 22; refine (HK.out _).mono ?_; rintro e w1 ⟨rfl, hb⟩; have HB1 := hide (bel HB0.out hb); obtain ⟨c0, c1, c2, c3⟩ := four_of (HC0.out.below hb); clear hb)
          | (go_at_call 25; refine (HWi.out _ _ _ _).mono ?_; rintro e w' ⟨rfl, rfl⟩))
        clear c0 c1 c2 c3 HB0 HC0 HK ho hc
        go_loopw [29] (fun i wr => ∃ k : Nat, k ≤ n ∧ i = .int .i64 k ∧ Hid (okT L k = true) ∧ Hid (Below W.heap.size W wr)) (fun i _ => n - (intOf i).toNat)
        case atStart => exact ⟨0, Nat.zero_le _, rfl, hide rfl, HB1⟩
        case round =>
          obtain ⟨k, hk, rfl, HT, HB⟩ := hrel
          rename World => V
          clear HB1
          by_cases hlt : k < n
          · obtain ⟨g, off, rfl, -, hat⟩ := (HL0.out.later HB.out).at (by omega)
            obtain ⟨e0, e1, e2, e3, e4, e5⟩ := hat k hlt
            clear hat
            have hi0 : (0 : Int) ≤ k := by omega
            have hi1 : (k : Int) < n := by omega
            have hS := okT_succ L k
            have HD := hide fun h => okT_at (L := L) (m := n) h hlt
            generalize L.getD k i0 = m at *
            rw [HT.out, Bool.true_and] at hS
            have HS := hide hS
            clear hS
            have HA := hide fun w => Ytlhbgkaknfhlnaa.Spn.arity_any m.op w
            have HR := hide fun w => cregisters_any m k (by omega) w
            have HCs := hide fun w => cconstants_any m w
            have HBm := hide (bel HB.out (bel1 V (.cells (ia m) 47)))
            have HG := hide (HasC.new V 47 (ia m))
            by_cases ha : Ytlhbgkaknfhlnaa.Spn.ar m.op < 0
            · have hF : okI m k = false := by simp [okI]; omega
              have HF := hide hF
              clear hF
              go_wp2_with (go_at_call 26; refine (HA.out _).mono ?_; rintro e w' ⟨rfl, rfl⟩)
              go_ret
              exact ⟨ret_int (okE_bad fun h => by have := HD.out h; rw [HF.out] at this; cases this), HBm.out⟩
            have ha2 : decide (Ytlhbgkaknfhlnaa.Spn.ar m.op < 0) = false := by simpa using ha
            cases hr : rgs m k
            · have HF : Hid (okI m k = false) := hide (by simp [okI, hr])
              rw [hr] at HR
              go_wp2_with (first
                | (go_at_call 26; refine (HA.out _).mono ?_; rintro e w' ⟨rfl, rfl⟩)
                | (go_at_call 27; refine (HR.out _).mono ?_; rintro e w2 ⟨rfl, hb⟩; have HB2 := hide (bel HBm.out hb); obtain ⟨f0, f1, f2, f3, f4, f5⟩ := six_of (HG.out.below hb); clear hb))
              go_ret
              exact ⟨ret_int (okE_bad fun h => by have := HD.out h; rw [HF.out] at this; cases this), HB2.out⟩
            · rw [hr] at HR
              cases hs : csB m
              · have HF : Hid (okI m k = false) := hide (by simp [okI, hs])
                rw [hs] at HCs
                go_wp2_with (first
                  | (go_at_call 26; refine (HA.out _).mono ?_; rintro e w' ⟨rfl, rfl⟩)
                  | (go_at_call 27; refine (HR.out _).mono ?_; rintro e w2 ⟨rfl, hb⟩; have HB2 := hide (bel HBm.out hb); obtain ⟨f0, f1, f2, f3, f4, f5⟩ := six_of (HG.out.below hb); clear hb)
                  | (go_at_call 28; refine (HCs.out _).mono ?_; rintro e w3 ⟨rfl, hb⟩; have HB3 := hide (bel HB2.out hb); clear hb))
                go_ret
                exact ⟨ret_int (okE_bad fun h => by have := HD.out h; rw [HF.out] at this; cases this), HB3.out⟩
              · have HF : Hid (okI m k = true) := hide (by simp [okI, hs, hr]; omega)
                rw [hs] at HCs
                go_wp2_with (first
                  | (go_at_call 26; refine (HA.out _).mono ?_; rintro e w' ⟨rfl, rfl⟩)
                  | (go_at_call 27; refine (HR.out _).mono ?_; rintro e w2 ⟨rfl, hb⟩; have HB2 := hide (bel HBm.out hb); obtain ⟨f0, f1, f2, f3, f4, f5⟩ := six_of (HG.out.below hb); clear hb)
                  | (go_at_call 28; refine (HCs.out _).mono ?_; rintro e w3 ⟨rfl, hb⟩; have HB3 := hide (bel HB2.out hb); clear hb))
                go_roundw
                case rel => exact ⟨k + 1, by omega, by go_num, hide (by rw [HS.out]; exact HF.out), HB3⟩
                case measure => simp [intOf]; omega
          · obtain rfl : k = n := by omega
            go_wp2_with fail
            go_ret
            exact ⟨ret_int (okE_ok HT.out), HB.out⟩
  · rw [if_neg hm] at HK
    rw [show ccE f d L out = 15 by simp [ccE, mcB, hm]]
    go_enter Try.func16, Try.ntmps16
    go_wp2_with (go_at_call 22; refine (HK.out _).mono ?_; rintro e w1 ⟨rfl, hb⟩; have HB1 := hide (bel HB0.out hb); obtain ⟨c0, c1, c2, c3⟩ := four_of (HC0.out.below hb); clear hb)
    go_ret
    exact ⟨rfl, HB1.out⟩

end Go.Proofs.Cde

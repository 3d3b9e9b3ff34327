/-
  The document's May.
-/
import Derived.Test.YthkihmbgdfnofaaM0
namespace Go.Proofs.Ythkihmbgdfnofaa
open Go.RowKit Go.IntWalk Knd
set_option linter.unusedVariables false

theorem rmay_any (f d : Int) (w : World) : Calls Try.prog 38 #[.agg (kd f d)] w fun e w' => e = .returned (.bool (decide (May f d))) ∧ Below w.heap.size w w' := by
  by_cases h : May f d
  · rw [decide_eq_true h]; exact rmay_ok f d w h
  · rw [decide_eq_false h]; exact rmay_bad f d w h
theorem okT_bad {L : List In} {m k : Nat} (hk : k < m) (h : okI (L.getD k i0) k = false) : okT L m = false := by
  cases h2 : okT L m
  · rfl
  · have := okT_at h2 hk
    rw [h] at this
    cases this

set_option maxRecDepth 100000 in
set_option maxHeartbeats 4000000 in
theorem xMay_any (f d out : Int) {a : Option Addr} {n cap : Nat} {L : List In} {W : World} (hL : Ins W a n cap L) :
    Calls Try.prog 12 #[.agg (cd f d a n cap out)] W fun e W' => e = .returned (.bool (mcB f d L out)) ∧ Below W.heap.size W W' := by
  have HB0 := hide (bel1 W (.cells (cd f d a n cap out) 26))
  have HC0 := hide (HasC.new W 26 (cd f d a n cap out))
  have hn := hL.short
  have HLn := hide hL.len
  have HK := hide fun w => rmay_any f d w
  have HL0 := hide hL
  clear hL
  have n0 : 0 ≤ (n : Int) := by omega
  have hE : mcB f d L out = (decide (May f d) && Spn.inB (n : Int) 1 200 && Spn.inB out 0 ((n : Int) - 1) && okT L n) := by rw [mcB, HLn.out]
  rw [hE]
  clear hE
  cases hm : decide (May f d)
  · rw [hm] at HK
    go_enter Try.func12, Try.ntmps12
    go_wp2_with (go_at_call 38; refine (HK.out _).mono ?_; rintro e w1 ⟨rfl, hb⟩; have HB1 := hide (bel HB0.out hb); obtain ⟨c0, c1, c2, c3⟩ := four_of (HC0.out.below hb); clear hb)
    go_ret
    exact ⟨ret_b rfl, HB1.out⟩
  rw [hm] at HK
  rw [Bool.true_and]
  by_cases h1 : n = 0
  · subst h1
    rw [show Spn.inB ((0 : Nat) : Int) 1 200 = false from rfl]
    go_enter Try.func12, Try.ntmps12
    go_wp2_with (go_at_call 38; refine (HK.out _).mono ?_; rintro e w1 ⟨rfl, hb⟩; have HB1 := hide (bel HB0.out hb); obtain ⟨c0, c1, c2, c3⟩ := four_of (HC0.out.below hb); clear hb)
    go_ret
    exact ⟨ret_b rfl, HB1.out⟩
  have q1 : ((n : Int) == 0) = false := by simpa using h1
  by_cases h2 : 200 < (n : Int)
  · rw [show Spn.inB (n : Int) 1 200 = false from Spn.inB_f (by omega)]
    go_enter Try.func12, Try.ntmps12
    go_wp2_with (go_at_call 38; refine (HK.out _).mono ?_; rintro e w1 ⟨rfl, hb⟩; have HB1 := hide (bel HB0.out hb); obtain ⟨c0, c1, c2, c3⟩ := four_of (HC0.out.below hb); clear hb)
    go_ret
    exact ⟨ret_b rfl, HB1.out⟩
  have q2 : decide (200 < (n : Int)) = false := by simpa using h2
  rw [Spn.inB_t (show 1 ≤ (n : Int) by omega) (by omega), Bool.true_and]
  by_cases h3 : out < 0
  · rw [show Spn.inB out 0 ((n : Int) - 1) = false from Spn.inB_f (by omega)]
    go_enter Try.func12, Try.ntmps12
    go_wp2_with (go_at_call 38; refine (HK.out _).mono ?_; rintro e w1 ⟨rfl, hb⟩; have HB1 := hide (bel HB0.out hb); obtain ⟨c0, c1, c2, c3⟩ := four_of (HC0.out.below hb); clear hb)
    go_ret
    exact ⟨ret_b rfl, HB1.out⟩
  have q3 : decide (out < 0) = false := by simpa using h3
  by_cases h4 : (n : Int) ≤ out
  · rw [show Spn.inB out 0 ((n : Int) - 1) = false from Spn.inB_f (by omega)]
    go_enter Try.func12, Try.ntmps12
    go_wp2_with (go_at_call 38; refine (HK.out _).mono ?_; rintro e w1 ⟨rfl, hb⟩; have HB1 := hide (bel HB0.out hb); obtain ⟨c0, c1, c2, c3⟩ := four_of (HC0.out.below hb); clear hb)
    go_ret
    exact ⟨ret_b rfl, HB1.out⟩
  have q4 : decide ((n : Int) ≤ out) = false := by simpa using h4
  rw [Spn.inB_t (show 0 ≤ out by omega) (by omega), Bool.true_and]
  have hn2 : n ≤ 200 := by omega
  clear h1 h2 h3 h4
  go_enter Try.func12, Try.ntmps12
  go_wp2_with (go_at_call 38; refine (HK.out _).mono ?_; rintro e w1 ⟨rfl, hb⟩; have HB1 := hide (bel HB0.out hb); have HC1 := hide (HC0.out.below hb); obtain ⟨c0, c1, c2, c3⟩ := four_of (HC0.out.below hb); clear hb)
  clear c0 c1 c2 c3 HB0 HC0 HK q1 q2 q3 q4 hm
  go_loopw [3] (fun i wr => ∃ k : Nat, k ≤ n ∧ i = .int .i64 k ∧ Hid (okT L k = true) ∧ Hid (HasC wr W.heap.size 26 (cd f d a n cap out)) ∧ Hid (Below W.heap.size W wr)) (fun i _ => n - (intOf i).toNat)
  case atStart => exact ⟨0, Nat.zero_le _, rfl, hide rfl, HC1, HB1⟩
  case round =>
    obtain ⟨k, hk, rfl, HT, HC, HB⟩ := hrel
    rename World => V
    clear HC1 HB1
    obtain ⟨c0, c1, c2, c3⟩ := four_of HC.out
    by_cases hlt : k < n
    · obtain ⟨g, off, rfl, -, hat⟩ := (HL0.out.later HB.out).at (by omega)
      obtain ⟨e0, e1, e2, e3, e4, e5⟩ := hat k hlt
      clear hat
      have hi0 : (0 : Int) ≤ k := by omega
      have hi1 : (k : Int) < n := by omega
      have hS := okT_succ L k
      have HD := hide fun h => okT_bad (L := L) (m := n) hlt h
      generalize L.getD k i0 = m at *
      rw [HT.out, Bool.true_and] at hS
      have HS := hide hS
      clear hS
      have HM := hide fun w => xmay_any m k (by omega) w
      cases ho : okI m k
      · rw [ho] at HM
        have HF := hide (HD.out ho)
        go_wp2_with (go_at_call 39; refine (HM.out _).mono ?_; rintro e w2 ⟨rfl, hb⟩; have HB2 := hide (bel HB.out hb); clear hb)
        go_ret
        exact ⟨ret_b HF.out.symm, HB2.out⟩
      · rw [ho] at HM HS
        go_wp2_with (go_at_call 39; refine (HM.out _).mono ?_; rintro e w2 ⟨rfl, hb⟩; have HB2 := hide (bel HB.out hb); have HC2 := hide (HC.out.below hb); clear hb)
        go_roundw
        case rel => exact ⟨k + 1, by omega, by go_num, HS, HC2, HB2⟩
        case measure => simp [intOf]; omega
    · obtain rfl : k = n := by omega
      go_wp2_with fail
      go_ret
      exact ⟨ret_b HT.out.symm, HB.out⟩

end Go.Proofs.Ythkihmbgdfnofaa

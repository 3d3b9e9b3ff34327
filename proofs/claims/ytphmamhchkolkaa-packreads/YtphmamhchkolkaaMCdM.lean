/-
  The document's may and May: which codes may be.
-/
import Derived.Test.YtphmamhchkolkaaMCdC
import Derived.Test.YtphmamhchkolkaaMKnRef
namespace Go.Proofs.Cde
open Go.RowKit Go.IntWalk Ytphmamhchkolkaa.Knd
set_option linter.unusedVariables false

theorem csB_s {n : In} (h : n.op ≠ 33) (hs : n.s ≠ 0) : csB n = false := by
  have e : (n.s == 0) = false := by simpa using hs
  unfold csB
  rw [e, if_neg h]
  simp
/-- Constants, where S is 0 or asked for. -/
theorem csB_k {n : In} (ha : 0 ≤ Ytphmamhchkolkaa.Spn.ar n.op) (h : n.op = 33 ∨ n.s = 0) :
    csB n = if n.op = 1 then Ytphmamhchkolkaa.Spn.wd n.k else if n.op = 2 then Ytphmamhchkolkaa.Spn.inB n.k 0 5 else if n.op = 3 then Ytphmamhchkolkaa.Spn.inB n.k 0 255 else if 29 ≤ n.op then Ytphmamhchkolkaa.Spn.cons n.op n.k n.s else n.k == 0 := by
  have hle : ¬ 33 < n.op := fun h' => by rw [Ytphmamhchkolkaa.Spn.ar_out (by omega)] at ha; omega
  unfold csB
  by_cases h1 : n.op = 1
  · rw [if_pos h1, if_pos h1, show n.s = 0 by omega]; simp
  by_cases h2 : n.op = 2
  · rw [if_neg h1, if_neg h1, if_pos h2, if_pos h2, show n.s = 0 by omega]; simp
  by_cases h3 : n.op = 3
  · rw [if_neg h1, if_neg h1, if_neg h2, if_neg h2, if_pos h3, if_pos h3, show n.s = 0 by omega]; simp
  rw [if_neg h1, if_neg h1, if_neg h2, if_neg h2, if_neg h3, if_neg h3]
  by_cases h4 : 29 ≤ n.op
  · rw [if_pos h4]
    by_cases h5 : n.op = 33
    · rw [if_neg (by omega), if_pos h5]
    · rw [if_pos (by omega), show n.s = 0 by omega]; simp
  · rw [if_neg h4, if_neg (by omega), if_neg (by omega), show n.s = 0 by omega]; simp

set_option maxRecDepth 100000 in
set_option maxHeartbeats 4000000 in
theorem xmay_any (n : In) (i : Nat) (hi : i ≤ 9223372036854775807) (W : World) :
    Calls Try.prog 51 #[.agg (ia n), .int .i64 (i : Int)] W fun e W' => e = .returned (.bool (okI n i)) ∧ Below W.heap.size W W' := by
  have HA := hide fun W => Ytphmamhchkolkaa.Spn.rarity_any n.op W
  have HB0 := hide (bel1 W (.cells (ia n) 51))
  by_cases ha : Ytphmamhchkolkaa.Spn.ar n.op < 0
  · rw [show okI n i = false by simp [okI]; omega]
    go_enter Try.func51, Try.ntmps51
    go_wp2_with (go_at_call 38; refine (HA.out _).mono ?_; rintro e w1 ⟨rfl, rfl⟩)
    go_ret
    exact ⟨rfl, HB0.out⟩
  have ha2 : decide (Ytphmamhchkolkaa.Spn.ar n.op < 0) = false := by simpa using ha
  by_cases hs : n.op ≠ 33 ∧ n.s ≠ 0
  · rw [show okI n i = false by simp [okI, csB_s hs.1 hs.2]]
    have q1 : (n.op != 33) = true := by simpa using hs.1
    have q2 : (n.s != 0) = true := by simpa using hs.2
    clear hs
    go_enter Try.func51, Try.ntmps51
    go_wp2_with (go_at_call 38; refine (HA.out _).mono ?_; rintro e w1 ⟨rfl, rfl⟩)
    go_ret
    exact ⟨rfl, HB0.out⟩
  have hC := csB_k (n := n) (by omega) (by omega)
  have HOk : Hid (okI n i = (rgT n i 3 && csB n)) := hide (by rw [rgT_three, okI, decide_eq_true (show 0 ≤ Ytphmamhchkolkaa.Spn.ar n.op by omega), Bool.true_and])
  have hq : ((n.op != 33) = false) ∨ ((n.op != 33) = true ∧ (n.s != 0) = false) := by
    by_cases h : n.op = 33
    · exact .inl (by simp [h])
    · exact .inr ⟨by simpa using h, by simp; omega⟩
  have HC := hide hC
  have HB := hide (bel (bel1 W (.cells (ia n) 51)) (bel1 (W.alloc (.cells (ia n) 51)) (.cells #[.int .i64 n.a, .int .i64 n.b, .int .i64 n.c] 3)))
  have HG := hide (has_new1 W (.cells (ia n) 51) 3 #[.int .i64 n.a, .int .i64 n.b, .int .i64 n.c])
  have HN := hide ((HasC.new W 51 (ia n)).alloc (.cells #[.int .i64 n.a, .int .i64 n.b, .int .i64 n.c] 3))
  have HT := hide fun k => rgT_succ n i k
  have HD := hide fun k m (h : rgT n i m = true) (hk : k ≤ m) => rgT_down h hk
  have H0 : Hid (rgT n i 0 = true) := hide rfl
  have i1 : -9223372036854775808 ≤ (i : Int) - 1 := by omega
  have i2 : (i : Int) - 1 ≤ 9223372036854775807 := by omega
  generalize rgT n i = T at *
  have HR := hide fun j h => rgN_at n j h
  have HW := hide fun x w => Ytphmamhchkolkaa.Spn.rword_any x w
  have HCo := hide fun op k s w => Ytphmamhchkolkaa.Spn.rconstants_any op k s w
  have HAr := hide ha
  clear hC ha hs
  rcases hq with q1 | ⟨q1, q2⟩
  all_goals
    go_enter Try.func51, Try.ntmps51
    go_wp2_with (go_at_call 38; refine (HA.out _).mono ?_; rintro e w1 ⟨rfl, rfl⟩)
    obtain ⟨V, hV⟩ : ∃ V, (W.alloc (.cells (ia n) 51)).alloc (.cells #[.int .i64 n.a, .int .i64 n.b, .int .i64 n.c] 3) = V := ⟨_, rfl⟩
    rw [hV] at HB HG HN ⊢
    clear hV HA
    go_loop [7] (fun j => ∃ k : Nat, k ≤ 3 ∧ j = .int .i64 k ∧ Hid (T k = true)) (fun j => 3 - (intOf j).toNat)
    case atStart => exact ⟨0, by omega, rfl, hide H0.out⟩
    case round =>
      obtain ⟨k, hk, rfl, HK⟩ := hrel
      by_cases hlt : k < 3
      · have c0 := HG.out.cell k (HR.out k hlt)
        have hs := HT.out k
        rw [HK.out, Bool.true_and] at hs
        generalize rgN n k = r at *
        have j0 : (0 : Int) ≤ k := by omega
        have j1 : (k : Int) < 3 := by omega
        by_cases hu : (k : Int) < Ytphmamhchkolkaa.Spn.ar n.op
        · rw [show rgB r (decide ((k : Int) < Ytphmamhchkolkaa.Spn.ar n.op)) i = Ytphmamhchkolkaa.Spn.inB r 0 ((i : Int) - 1) by simp [rgB, hu]] at hs
          have HS := hide hs
          clear hs
          have hu2 : decide (Ytphmamhchkolkaa.Spn.ar n.op ≤ (k : Int)) = false := by simp; omega
          by_cases hr0 : r < 0
          · have HF : Hid (T (k + 1) = false) := hide (by rw [HS.out]; exact Ytphmamhchkolkaa.Spn.inB_f (by omega))
            go_wp2_with fail
            go_ret
            refine ⟨ret_b ?_, HB.out⟩
            rw [HOk.out]
            cases h3 : T 3
            · rfl
            · have := HD.out (k + 1) 3 h3 (by omega)
              rw [HF.out] at this
              cases this
          · have hr1 : decide (r < 0) = false := by simpa using hr0
            by_cases hr2 : (i : Int) - 1 < r
            · have HF : Hid (T (k + 1) = false) := hide (by rw [HS.out]; exact Ytphmamhchkolkaa.Spn.inB_f (by omega))
              go_wp2_with fail
              go_ret
              refine ⟨ret_b ?_, HB.out⟩
              rw [HOk.out]
              cases h3 : T 3
              · rfl
              · have := HD.out (k + 1) 3 h3 (by omega)
                rw [HF.out] at this
                cases this
            · have hr3 : decide ((i : Int) - 1 < r) = false := by simpa using hr2
              have HF : Hid (T (k + 1) = true) := hide (by rw [HS.out, Ytphmamhchkolkaa.Spn.inB_iff]; omega)
              clear hr0 hr2
              go_wp2_with fail
              go_round
              case rel => exact ⟨k + 1, by omega, by go_num, HF⟩
              case measure => simp [intOf]; omega
        · rw [show rgB r (decide ((k : Int) < Ytphmamhchkolkaa.Spn.ar n.op)) i = (r == 0) by simp [rgB, hu]] at hs
          have HS := hide hs
          clear hs
          have hu2 : Ytphmamhchkolkaa.Spn.ar n.op ≤ (k : Int) := by omega
          have hu3 : decide ((k : Int) < Ytphmamhchkolkaa.Spn.ar n.op) = false := by simpa using hu
          by_cases hr : r = 0
          · subst hr
            go_wp2_with fail
            go_round
            case rel => exact ⟨k + 1, by omega, by go_num, hide HS.out⟩
            case measure => simp [intOf]; omega
          · have hr2 : (r != 0) = true := by simpa using hr
            have HF : Hid (T (k + 1) = false) := hide (by rw [HS.out]; simpa using hr)
            clear hr
            go_wp2_with fail
            go_ret
            refine ⟨ret_b ?_, HB.out⟩
            rw [HOk.out]
            cases h3 : T 3
            · rfl
            · have := HD.out (k + 1) 3 h3 (by omega)
              rw [HF.out] at this
              cases this
      · obtain rfl : k = 3 := by omega
        have hO := HOk.out
        rw [HK.out, Bool.true_and, HC.out] at hO
        obtain ⟨e0, -, -, -, e4, e5⟩ := six_of HN.out
        by_cases h1 : n.op = 1
        · rw [if_pos h1] at hO
          have HO := hide hO
          have p1 : (n.op == 1) = true := by simpa using h1
          clear hO h1
          go_wp2_with (go_at_call 67; refine (HW.out _ _).mono ?_; rintro e w1 ⟨rfl, rfl⟩)
          go_ret
          exact ⟨ret_b HO.out.symm, HB.out⟩
        rw [if_neg h1] at hO
        have p1 : (n.op == 1) = false := by simpa using h1
        by_cases h2 : n.op = 2
        · rw [if_pos h2] at hO
          have HO := hide hO
          have p2 : (n.op == 2) = true := by simpa using h2
          clear hO h1 h2
          by_cases hk0 : 0 ≤ n.k
          · go_wp2_with fail
            go_ret
            refine ⟨ret_b ?_, HB.out⟩
            rw [HO.out]
            simp [Ytphmamhchkolkaa.Spn.inB, hk0]
            omega
          · have hk1 : decide (0 ≤ n.k) = false := by simpa using hk0
            have HO2 : Hid (okI n i = false) := hide (by rw [HO.out]; exact Ytphmamhchkolkaa.Spn.inB_f (by omega))
            go_wp2_with fail
            go_ret
            exact ⟨ret_b HO2.out.symm, HB.out⟩
        rw [if_neg h2] at hO
        have p2 : (n.op == 2) = false := by simpa using h2
        by_cases h3 : n.op = 3
        · rw [if_pos h3] at hO
          have HO := hide hO
          have p3 : (n.op == 3) = true := by simpa using h3
          clear hO h1 h2 h3
          by_cases hk0 : 0 ≤ n.k
          · go_wp2_with fail
            go_ret
            refine ⟨ret_b ?_, HB.out⟩
            rw [HO.out]
            simp [Ytphmamhchkolkaa.Spn.inB, hk0]
            omega
          · have hk1 : decide (0 ≤ n.k) = false := by simpa using hk0
            have HO2 : Hid (okI n i = false) := hide (by rw [HO.out]; exact Ytphmamhchkolkaa.Spn.inB_f (by omega))
            go_wp2_with fail
            go_ret
            exact ⟨ret_b HO2.out.symm, HB.out⟩
        rw [if_neg h3] at hO
        have p3 : (n.op == 3) = false := by simpa using h3
        by_cases h4 : 29 ≤ n.op
        · rw [if_pos h4] at hO
          have HO := hide hO
          clear hO h1 h2 h3
          go_wp2_with (go_at_call 68; refine (HCo.out _ _ _ _).mono ?_; rintro e w1 ⟨rfl, rfl⟩)
          go_ret
          exact ⟨ret_b HO.out.symm, HB.out⟩
        · rw [if_neg h4] at hO
          have HO := hide hO
          have p4 : decide (29 ≤ n.op) = false := by simpa using h4
          clear hO h1 h2 h3 h4
          go_wp2_with fail
          go_ret
          exact ⟨ret_b HO.out.symm, HB.out⟩

end Go.Proofs.Cde

/-
  The document's May.
-/
namespace Go.Proofs.Cde
open Go.RowKit Go.IntWalk Ytphmamhchkolkaa.Knd
set_option linter.unusedVariables false

theorem rmay_any (f d : Int) (w : World) : Calls Try.prog 50 #[.agg (kd f d)] w fun e w' => e = .returned (.bool (decide (May f d))) ∧ Below w.heap.size w w' := by
  by_cases h : May f d
  · rw [decide_eq_true h]; exact rmay_ok f d w h
  · rw [decide_eq_false h]; exact rmay_bad f d w h
theorem okT_bad {L : List In} {m k : Nat} (hk : k < m) (h : okI (L.getD k i0) k = false) : okT L m = false := by
  cases h2 : okT L m
  · rfl
  · have := okT_at h2 hk
    rw [h] at this
    cases this

set_option maxRecDepth 100000 in
set_option maxHeartbeats 4000000 in
theorem xMay_any (f d out : Int) {a : Option Addr} {n cap : Nat} {L : List In} {W : World} (hL : Ins W a n cap L) :
    Calls Try.prog 27 #[.agg (cd f d a n cap out)] W fun e W' => e = .returned (.bool (mcB f d L out)) ∧ Below W.heap.size W W' := by
  have HB0 := hide (bel1 W (.cells (cd f d a n cap out) 26))
  have HC0 := hide (HasC.new W 26 (cd f d a n cap out))
  have hn := hL.short
  have HLn := hide hL.len
  have HK := hide fun w => rmay_any f d w
  have HL0 := hide hL
  clear hL
  have n0 : 0 ≤ (n : Int) := by omega
  have hE : mcB f d L out = (decide (May f d) && Ytphmamhchkolkaa.Spn.inB (n : Int) 1 200 && Ytphmamhchkolkaa.Spn.inB out 0 ((n : Int) - 1) && okT L n) := by rw [mcB, HLn.out]
  rw [hE]
  clear hE
  cases hm : decide (May f d)
  · rw [hm] at HK
    go_enter Try.func27, Try.ntmps27
    go_wp2_with (go_at_call 50; refine (HK.out _).mono ?_; rintro e w1 ⟨rfl, hb⟩; have HB1 := hide (bel HB0.out hb); obtain ⟨c0, c1, c2, c3⟩ := four_of (HC0.out.below hb); clear hb)
    go_ret
    exact ⟨ret_b rfl, HB1.out⟩
  rw [hm] at HK
  rw [Bool.true_and]
  by_cases h1 : n = 0
  · subst h1
    rw [show Ytphmamhchkolkaa.Spn.inB ((0 : Nat) : Int) 1 200 = false from rfl]
    go_enter Try.func27, Try.ntmps27
    go_wp2_with (go_at_call 50; refine (HK.out _).mono ?_; rintro e w1 ⟨rfl, hb⟩; have HB1 := hide (bel HB0.out hb); obtain ⟨c0, c1, c2, c3⟩ := four_of (HC0.out.below hb); clear hb)
    go_ret
    exact ⟨ret_b rfl, HB1.out⟩
  have q1 : ((n : Int) == 0) = false := by simpa using h1
  by_cases h2 : 200 < (n : Int)
  · rw [show Ytphmamhchkolkaa.Spn.inB (n : Int) 1 200 = false from Ytphmamhchkolkaa.Spn.inB_f (by omega)]
    go_enter Try.func27, Try.ntmps27
    go_wp2_with (go_at_call 50; refine (HK.out _).mono ?_; rintro e w1 ⟨rfl, hb⟩; have HB1 := hide (bel HB0.out hb); obtain ⟨c0, c1, c2, c3⟩ := four_of (HC0.out.below hb); clear hb)
    go_ret
    exact ⟨ret_b rfl, HB1.out⟩
  have q2 : decide (200 < (n : Int)) = false := by simpa using h2
  rw [Ytphmamhchkolkaa.Spn.inB_t (show 1 ≤ (n : Int) by omega) (by omega), Bool.true_and]
  by_cases h3 : out < 0
  · rw [show Ytphmamhchkolkaa.Spn.inB out 0 ((n : Int) - 1) = false from Ytphmamhchkolkaa.Spn.inB_f (by omega)]
    go_enter Try.func27, Try.ntmps27
    go_wp2_with (go_at_call 50; refine (HK.out _).mono ?_; rintro e w1 ⟨rfl, hb⟩; have HB1 := hide (bel HB0.out hb); obtain ⟨c0, c1, c2, c3⟩ := four_of (HC0.out.below hb); clear hb)
    go_ret
    exact ⟨ret_b rfl, HB1.out⟩
  have q3 : decide (out < 0) = false := by simpa using h3
  by_cases h4 : (n : Int) ≤ out
  · rw [show Ytphmamhchkolkaa.Spn.inB out 0 ((n : Int) - 1) = false from Ytphmamhchkolkaa.Spn.inB_f (by omega)]
    go_enter Try.func27, Try.ntmps27
    go_wp2_with (go_at_call 50; refine (HK.out _).mono ?_; rintro e w1 ⟨rfl, hb⟩; have HB1 := hide (bel HB0.out hb); obtain ⟨c0, c1, c2, c3⟩ := four_of (HC0.out.below hb); clear hb)
    go_ret
    exact ⟨ret_b rfl, HB1.out⟩
  have q4 : decide ((n : Int) ≤ out) = false := by simpa using h4
  rw [Ytphmamhchkolkaa.Spn.inB_t (show 0 ≤ out by omega) (by omega), Bool.true_and]
  have hn2 : n ≤ 200 := by omega
  clear h1 h2 h3 h4
  go_enter Try.func27, Try.ntmps27
  go_wp2_with (go_at_call 50; refine (HK.out _).mono ?_; rintro e w1 ⟨rfl, hb⟩; have HB1 := hide (bel HB0.out hb); have HC1 := hide (HC0.out.below hb); obtain ⟨c0, c1, c2, c3⟩ := four_of (HC0.out.below hb); clear hb)
  clear c0 c1 c2 c3 HB0 HC0 HK q1 q2 q3 q4 hm
  go_loopw [3] (fun i wr => ∃ k : Nat, k ≤ n ∧ i = .int .i64 k ∧ Hid (okT L k = true) ∧ Hid (HasC wr W.heap.size 26 (cd f d a n cap out)) ∧ Hid (Below W.heap.size W wr)) (fun i _ => n - (intOf i).toNat)
  case atStart => exact ⟨0, Nat.zero_le _, rfl, hide rfl, HC1, HB1⟩
  case round =>
    obtain ⟨k, hk, rfl, HT, HC, HB⟩ := hrel
    rename World => V
    clear HC1 HB1
    obtain ⟨c0, c1, c2, c3⟩ := four_of HC.out
    by_cases hlt : k < n
    · obtain ⟨g, off, rfl, -, hat⟩ := (HL0.out.later HB.out).at (by omega)
      obtain ⟨e0, e1, e2, e3, e4, e5⟩ := hat k hlt
      clear hat
      have hi0 : (0 : Int) ≤ k := by omega
      have hi1 : (k : Int) < n := by omega
      have hS := okT_succ L k
      have HD := hide fun h => okT_bad (L := L) (m := n) hlt h
      generalize L.getD k i0 = m at *
      rw [HT.out, Bool.true_and] at hS
      have HS := hide hS
      clear hS
      have HM := hide fun w => xmay_any m k (by omega) w
      cases ho : okI m k
      · rw [ho] at HM
        have HF := hide (HD.out ho)
        go_wp2_with (go_at_call 51; refine (HM.out _).mono ?_; rintro e w2 ⟨rfl, hb⟩; have HB2 := hide (bel HB.out hb); clear hb)
        go_ret
        exact ⟨ret_b HF.out.symm, HB2.out⟩
      · rw [ho] at HM HS
        go_wp2_with (go_at_call 51; refine (HM.out _).mono ?_; rintro e w2 ⟨rfl, hb⟩; have HB2 := hide (bel HB.out hb); have HC2 := hide (HC.out.below hb); clear hb)
        go_roundw
        case rel => exact ⟨k + 1, by omega, by go_num, HS, HC2, HB2⟩
        case measure => simp [intOf]; omega
    · obtain rfl : k = n := by omega
      go_wp2_with fail
      go_ret
      exact ⟨ret_b HT.out.symm, HB.out⟩

end Go.Proofs.Cde

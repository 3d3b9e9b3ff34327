/-
  The document's may and May: which codes may be.
-/
import Derived.Test.YthkihmbgdfnofaaB5
import Derived.Test.YthkihmbgdfnofaaKnRef
namespace Go.Proofs.Ythkihmbgdfnofaa
open Go.RowKit Go.IntWalk Knd
set_option linter.unusedVariables false

theorem csB_s {n : In} (h : n.op ≠ 33) (hs : n.s ≠ 0) : csB n = false := by
  have e : (n.s == 0) = false := by simpa using hs
  unfold csB
  rw [e, if_neg h]
  simp
/-- Constants, where S is 0 or asked for. -/
theorem csB_k {n : In} (ha : 0 ≤ Spn.ar n.op) (h : n.op = 33 ∨ n.s = 0) :
    csB n = if n.op = 1 then Spn.wd n.k else if n.op = 2 then Spn.inB n.k 0 5 else if n.op = 3 then Spn.inB n.k 0 255 else if 29 ≤ n.op then Spn.cons n.op n.k n.s else n.k == 0 := by
  have hle : ¬ 33 < n.op := fun h' => by rw [Spn.ar_out (by omega)] at ha; omega
  unfold csB
  by_cases h1 : n.op = 1
  · rw [if_pos h1, if_pos h1, show n.s = 0 by omega]; simp
  by_cases h2 : n.op = 2
  · rw [if_neg h1, if_neg h1, if_pos h2, if_pos h2, show n.s = 0 by omega]; simp
  by_cases h3 : n.op = 3
  · rw [if_neg h1, if_neg h1, if_neg h2, if_neg h2, if_pos h3, if_pos h3, show n.s = 0 by omega]; simp
  rw [if_neg h1, if_neg h1, if_neg h2, if_neg h2, if_neg h3, if_neg h3]
  by_cases h4 : 29 ≤ n.op
  · rw [if_pos h4]
    by_cases h5 : n.op = 33
    · rw [if_neg (by omega), if_pos h5]
    · rw [if_pos (by omega), show n.s = 0 by omega]; simp
  · rw [if_neg h4, if_neg (by omega), if_neg (by omega), show n.s = 0 by omega]; simp

set_option maxRecDepth 100000 in
set_option maxHeartbeats 4000000 in
theorem xmay_any (n : In) (i : Nat) (hi : i ≤ 9223372036854775807) (W : World) :
    Calls Try.prog 39 #[.agg (ia n), .int .i64 (i : Int)] W fun e W' => e = .returned (.bool (okI n i)) ∧ Below W.heap.size W W' := by
  have HA := hide fun W => Spn.rarity_any n.op W
  have HB0 := hide (bel1 W (.cells (ia n) 43))
  by_cases ha : Spn.ar n.op < 0
  · rw [show okI n i = false by simp [okI]; omega]
    go_enter Try.func39, Try.ntmps39
    go_wp2_with (go_at_call 42; refine (HA.out _).mono ?_; rintro e w1 ⟨rfl, rfl⟩)
    go_ret
    exact ⟨rfl, HB0.out⟩
  have ha2 : decide (Spn.ar n.op < 0) = false := by simpa using ha
  by_cases hs : n.op ≠ 33 ∧ n.s ≠ 0
  · rw [show okI n i = false by simp [okI, csB_s hs.1 hs.2]]
    have q1 : (n.op != 33) = true := by simpa using hs.1
    have q2 : (n.s != 0) = true := by simpa using hs.2
    clear hs
    go_enter Try.func39, Try.ntmps39
    go_wp2_with (go_at_call 42; refine (HA.out _).mono ?_; rintro e w1 ⟨rfl, rfl⟩)
    go_ret
    exact ⟨rfl, HB0.out⟩
  have hC := csB_k (n := n) (by omega) (by omega)
  have HOk : Hid (okI n i = (rgT n i 3 && csB n)) := hide (by rw [rgT_three, okI, decide_eq_true (show 0 ≤ Spn.ar n.op by omega), Bool.true_and])
  have hq : ((n.op != 33) = false) ∨ ((n.op != 33) = true ∧ (n.s != 0) = false) := by
    by_cases h : n.op = 33
    · exact .inl (by simp [h])
    · exact .inr ⟨by simpa using h, by simp; omega⟩
  have HC := hide hC
  have HB := hide (bel (bel1 W (.cells (ia n) 43)) (bel1 (W.alloc (.cells (ia n) 43)) (.cells #[.int .i64 n.a, .int .i64 n.b, .int .i64 n.c] 3)))
  have HG := hide (has_new1 W (.cells (ia n) 43) 3 #[.int .i64 n.a, .int .i64 n.b, .int .i64 n.c])
  have HN := hide ((HasC.new W 43 (ia n)).alloc (.cells #[.int .i64 n.a, .int .i64 n.b, .int .i64 n.c] 3))
  have HT := hide fun k => rgT_succ n i k
  have HD := hide fun k m (h : rgT n i m = true) (hk : k ≤ m) => rgT_down h hk
  have H0 : Hid (rgT n i 0 = true) := hide rfl
  have i1 : -9223372036854775808 ≤ (i : Int) - 1 := by omega
  have i2 : (i : Int) - 1 ≤ 9223372036854775807 := by omega
  generalize rgT n i = T at *
  have HR := hide fun j h => rgN_at n j h
  have HW := hide fun x w => Spn.rword_any x w
  have HCo := hide fun op k s w => Spn.rconstants_any op k s w
  have HAr := hide ha
  clear hC ha hs
  rcases hq with q1 | ⟨q1, q2⟩
  all_goals
    go_enter Try.func39, Try.ntmps39
    go_wp2_with (go_at_call 42; refine (HA.out _).mono ?_; rintro e w1 ⟨rfl, rfl⟩)
    obtain ⟨V, hV⟩ : ∃ V, (W.alloc (.cells (ia n) 43)).alloc (.cells #[.int .i64 n.a, .int .i64 n.b, .int .i64 n.c] 3) = V := ⟨_, rfl⟩
    rw [hV] at HB HG HN ⊢
    clear hV HA
    go_loop [7] (fun j => ∃ k : Nat, k ≤ 3 ∧ j = .int .i64 k ∧ Hid (T k = true)) (fun j => 3 - (intOf j).toNat)
    case atStart => exact ⟨0, by omega, rfl, hide H0.out⟩
    case round =>
      obtain ⟨k, hk, rfl, HK⟩ := hrel
      by_cases hlt : k < 3
      · have c0 := HG.out.cell k (HR.out k hlt)
        have hs := HT.out k
        rw [HK.out, Bool.true_and] at hs
        generalize rgN n k = r at *
        have j0 : (0 : Int) ≤ k := by omega
        have j1 : (k : Int) < 3 := by omega
        by_cases hu : (k : Int) < Spn.ar n.op
        · rw [show rgB r (decide ((k : Int) < Spn.ar n.op)) i = Spn.inB r 0 ((i : Int) - 1) by simp [rgB, hu]] at hs
          have HS := hide hs
          clear hs
          have hu2 : decide (Spn.ar n.op ≤ (k : Int)) = false := by simp; omega
          by_cases hr0 : r < 0
          · have HF : Hid (T (k + 1) = false) := hide (by rw [HS.out]; exact Spn.inB_f (by omega))
            go_wp2_with fail
            go_ret
            refine ⟨ret_b ?_, HB.out⟩
            rw [HOk.out]
            cases h3 : T 3
            · rfl
            · have := HD.out (k + 1) 3 h3 (by omega)
              rw [HF.out] at this
              cases this
          · have hr1 : decide (r < 0) = false := by simpa using hr0
            by_cases hr2 : (i : Int) - 1 < r
            · have HF : Hid (T (k + 1) = false) := hide (by rw [HS.out]; exact Spn.inB_f (by omega))
              go_wp2_with fail
              go_ret
              refine ⟨ret_b ?_, HB.out⟩
              rw [HOk.out]
              cases h3 : T 3
              · rfl
              · have := HD.out (k + 1) 3 h3 (by omega)
                rw [HF.out] at this
                cases this
            · have hr3 : decide ((i : Int) - 1 < r) = false := by simpa using hr2
              have HF : Hid (T (k + 1) = true) := hide (by rw [HS.out, Spn.inB_iff]; omega)
              clear hr0 hr2
              go_wp2_with fail
              go_round
              case rel => exact ⟨k + 1, by omega, by go_num, HF⟩
              case measure => simp [intOf]; omega
        · rw [show rgB r (decide ((k : Int) < Spn.ar n.op)) i = (r == 0) by simp [rgB, hu]] at hs
          have HS := hide hs
          clear hs
          have hu2 : Spn.ar n.op ≤ (k : Int) := by omega
          have hu3 : decide ((k : Int) < Spn.ar n.op) = false := by simpa using hu
          by_cases hr : r = 0
          · subst hr
            go_wp2_with fail
            go_round
            case rel => exact ⟨k + 1, by omega, by go_num, hide HS.out⟩
            case measure => simp [intOf]; omega
          · have hr2 : (r != 0) = true := by simpa using hr
            have HF : Hid (T (k + 1) = false) := hide (by rw [HS.out]; simpa using hr)
            clear hr
            go_wp2_with fail
            go_ret
            refine ⟨ret_b ?_, HB.out⟩
            rw [HOk.out]
            cases h3 : T 3
            · rfl
            · have := HD.out (k + 1) 3 h3 (by omega)
              rw [HF.out] at this
              cases this
      · obtain rfl : k = 3 := by omega
        have hO := HOk.out
        rw [HK.out, Bool.true_and, HC.out] at hO
        obtain ⟨e0, -, -, -, e4, e5⟩ := six_of HN.out
        by_cases h1 : n.op = 1
        · rw [if_pos h1] at hO
          have HO := hide hO
          have p1 : (n.op == 1) = true := by simpa using h1
          clear hO h1
          go_wp2_with (go_at_call 61; refine (HW.out _ _).mono ?_; rintro e w1 ⟨rfl, rfl⟩)
          go_ret
          exact ⟨ret_b HO.out.symm, HB.out⟩
        rw [if_neg h1] at hO
        have p1 : (n.op == 1) = false := by simpa using h1
        by_cases h2 : n.op = 2
        · rw [if_pos h2] at hO
          have HO := hide hO
          have p2 : (n.op == 2) = true := by simpa using h2
          clear hO h1 h2
          by_cases hk0 : 0 ≤ n.k
          · go_wp2_with fail
            go_ret
            refine ⟨ret_b ?_, HB.out⟩
            rw [HO.out]
            simp [Spn.inB, hk0]
            omega
          · have hk1 : decide (0 ≤ n.k) = false := by simpa using hk0
            have HO2 : Hid (okI n i = false) := hide (by rw [HO.out]; exact Spn.inB_f (by omega))
            go_wp2_with fail
            go_ret
            exact ⟨ret_b HO2.out.symm, HB.out⟩
        rw [if_neg h2] at hO
        have p2 : (n.op == 2) = false := by simpa using h2
        by_cases h3 : n.op = 3
        · rw [if_pos h3] at hO
          have HO := hide hO
          have p3 : (n.op == 3) = true := by simpa using h3
          clear hO h1 h2 h3
          by_cases hk0 : 0 ≤ n.k
          · go_wp2_with fail
            go_ret
            refine ⟨ret_b ?_, HB.out⟩
            rw [HO.out]
            simp [Spn.inB, hk0]
            omega
          · have hk1 : decide (0 ≤ n.k) = false := by simpa using hk0
            have HO2 : Hid (okI n i = false) := hide (by rw [HO.out]; exact Spn.inB_f (by omega))
            go_wp2_with fail
            go_ret
            exact ⟨ret_b HO2.out.symm, HB.out⟩
        rw [if_neg h3] at hO
        have p3 : (n.op == 3) = false := by simpa using h3
        by_cases h4 : 29 ≤ n.op
        · rw [if_pos h4] at hO
          have HO := hide hO
          clear hO h1 h2 h3
          go_wp2_with (go_at_call 62; refine (HCo.out _ _ _ _).mono ?_; rintro e w1 ⟨rfl, rfl⟩)
          go_ret
          exact ⟨ret_b HO.out.symm, HB.out⟩
        · rw [if_neg h4] at hO
          have HO := hide hO
          have p4 : decide (29 ≤ n.op) = false := by simpa using h4
          clear hO h1 h2 h3 h4
          go_wp2_with fail
          go_ret
          exact ⟨ret_b HO.out.symm, HB.out⟩

end Go.Proofs.Ythkihmbgdfnofaa

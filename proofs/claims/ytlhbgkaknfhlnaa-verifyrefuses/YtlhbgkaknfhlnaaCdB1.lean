/-
  The small functions of package code: within, registers, constants; what an operator costs.
-/
import Derived.Test.YtlhbgkaknfhlnaaCdB0
import Derived.Test.YtlhbgkaknfhlnaaSpNamesW
namespace Go.Proofs.Cde
open Go.RowKit Go.IntWalk Ytlhbgkaknfhlnaa.Knd
set_option linter.unusedVariables false

theorem ret_b {a b : Bool} (h : a = b) : Ending.returned (.bool a) = .returned (.bool b) := by rw [h]

set_option maxHeartbeats 1000000 in
theorem cwithin_any (x lo hi : Int) (w : World) :
    Calls Try.prog 25 #[.int .i64 x, .int .i64 lo, .int .i64 hi] w fun e w' => e = .returned (.bool (Ytlhbgkaknfhlnaa.Spn.inB x lo hi)) ∧ w' = w := by
  by_cases h1 : lo ≤ x
  · go_enter Try.func25, Try.ntmps25
    go_wp2
    go_ret
    exact ⟨ret_b (by simp [Ytlhbgkaknfhlnaa.Spn.inB, h1]), rfl⟩
  · rw [show Ytlhbgkaknfhlnaa.Spn.inB x lo hi = false from Ytlhbgkaknfhlnaa.Spn.inB_f (by omega)]
    go_enter Try.func25, Try.ntmps25
    go_wp2
    go_ret
    exact ⟨rfl, rfl⟩

set_option maxHeartbeats 1000000 in
theorem cost_any (o : Int) (W : World) : Calls Try.prog 24 #[.int .i64 o] W fun e W' => e = .returned (.int .i64 (coZ o)) ∧ W' = W := by
  by_cases h1 : o = 4
  · subst h1
    go_enter Try.func24, Try.ntmps24
    go_wp2
    go_ret
    exact ⟨rfl, rfl⟩
  by_cases h2 : o = 11
  · subst h2
    go_enter Try.func24, Try.ntmps24
    go_wp2
    go_ret
    exact ⟨rfl, rfl⟩
  by_cases h3 : o = 12
  · subst h3
    go_enter Try.func24, Try.ntmps24
    go_wp2
    go_ret
    exact ⟨rfl, rfl⟩
  have e : coZ o = 1 := by unfold coZ; rw [if_neg h1, if_neg h2, if_neg h3]
  rw [e]
  have e1 : (o == 4) = false := by simpa using h1
  have e2 : (o == 11) = false := by simpa using h2
  have e3 : (o == 12) = false := by simpa using h3
  clear h1 h2 h3 e
  go_enter Try.func24, Try.ntmps24
  go_wp2
  go_ret
  exact ⟨rfl, rfl⟩

/-- One register of an instruction. -/
def rgB (r : Int) (used : Bool) (i : Int) : Bool := if used then Ytlhbgkaknfhlnaa.Spn.inB r 0 (i - 1) else r == 0
def rgN (n : In) (j : Nat) : Int := [n.a, n.b, n.c].getD j 0
def rgs (n : In) (i : Int) : Bool := rgB n.a (decide (0 < Ytlhbgkaknfhlnaa.Spn.ar n.op)) i && rgB n.b (decide (1 < Ytlhbgkaknfhlnaa.Spn.ar n.op)) i && rgB n.c (decide (2 < Ytlhbgkaknfhlnaa.Spn.ar n.op)) i
def rgT (n : In) (i : Int) (k : Nat) : Bool := (List.range k).all fun j => rgB (rgN n j) (decide ((j : Int) < Ytlhbgkaknfhlnaa.Spn.ar n.op)) i
theorem rgT_three (n : In) (i : Int) : rgT n i 3 = rgs n i := by
  simp [rgT, rgs, List.range_succ, rgN]
  rw [Bool.and_assoc]
theorem rgT_succ (n : In) (i : Int) (k : Nat) : rgT n i (k + 1) = (rgT n i k && rgB (rgN n k) (decide ((k : Int) < Ytlhbgkaknfhlnaa.Spn.ar n.op)) i) := by
  simp [rgT, List.range_succ]
theorem rgT_down {n : In} {i : Int} {k m : Nat} (h : rgT n i m = true) (hk : k ≤ m) : rgT n i k = true := by
  simp only [rgT, List.all_eq_true, List.mem_range] at *
  exact fun j hj => h j (by omega)
/-- Constants of an instruction. -/
def csB (n : In) : Bool :=
  if n.op = 1 then Ytlhbgkaknfhlnaa.Spn.wd n.k && n.s == 0 else if n.op = 2 then Ytlhbgkaknfhlnaa.Spn.inB n.k 0 5 && n.s == 0 else if n.op = 3 then Ytlhbgkaknfhlnaa.Spn.inB n.k 0 255 && n.s == 0 else
  if n.op = 29 ∨ n.op = 30 ∨ n.op = 31 ∨ n.op = 32 then Ytlhbgkaknfhlnaa.Spn.cons n.op n.k n.s && n.s == 0 else if n.op = 33 then Ytlhbgkaknfhlnaa.Spn.cons n.op n.k n.s else n.k == 0 && n.s == 0

theorem rgN_at (n : In) (j : Nat) (h : j < 3) : (#[Value.int .i64 n.a, .int .i64 n.b, .int .i64 n.c])[j]? = some (.int .i64 (rgN n j)) := by
  rcases (show j = 0 ∨ j = 1 ∨ j = 2 by omega) with rfl | rfl | rfl <;> rfl

set_option maxRecDepth 100000 in
set_option maxHeartbeats 2000000 in
theorem cregisters_any (n : In) (i : Int) (hi : -9223372036854775808 ≤ i - 1 ∧ i - 1 ≤ 9223372036854775807) (W : World) :
    Calls Try.prog 27 #[.agg (ia n), .int .i64 i] W fun e W' => e = .returned (.bool (rgs n i)) ∧ Below W.heap.size W W' := by
  have HA := hide fun W => Ytlhbgkaknfhlnaa.Spn.arity_any n.op W
  have HWi := hide fun x lo hi W => cwithin_any x lo hi W
  have HB := hide (bel (bel1 W (.cells (ia n) 47)) (bel1 (W.alloc (.cells (ia n) 47)) (.cells #[.int .i64 n.a, .int .i64 n.b, .int .i64 n.c] 3)))
  have HG := hide (has_new1 W (.cells (ia n) 47) 3 #[.int .i64 n.a, .int .i64 n.b, .int .i64 n.c])
  obtain ⟨i1, i2⟩ := hi
  rw [← rgT_three]
  have HT := hide fun k => rgT_succ n i k
  have HD := hide fun k m (h : rgT n i m = true) (hk : k ≤ m) => rgT_down h hk
  have H0 : Hid (rgT n i 0 = true) := hide rfl
  generalize rgT n i = T at *
  generalize Ytlhbgkaknfhlnaa.Spn.ar n.op = ar at *
  have HR := hide fun j h => rgN_at n j h
  go_enter Try.func27, Try.ntmps27
  go_wp2_with fail
  refine (HA.out _).mono ?_
  rintro e w1 ⟨rfl, rfl⟩
  go_wp2_with fail
  obtain ⟨V, hV⟩ : ∃ V, (W.alloc (.cells (ia n) 47)).alloc (.cells #[.int .i64 n.a, .int .i64 n.b, .int .i64 n.c] 3) = V := ⟨_, rfl⟩
  rw [hV] at HB HG ⊢
  clear hV HA
  go_loop [19] (fun j => ∃ k : Nat, k ≤ 3 ∧ j = .int .i64 k ∧ Hid (T k = true)) (fun j => 3 - (intOf j).toNat)
  case atStart => exact ⟨0, by omega, rfl, hide H0.out⟩
  case round =>
    obtain ⟨k, hk, rfl, HK⟩ := hrel
    by_cases hlt : k < 3
    · have c0 := HG.out.cell k (HR.out k hlt)
      have hs := HT.out k
      rw [HK.out, Bool.true_and] at hs
      generalize rgN n k = r at *
      have j0 : (0 : Int) ≤ k := by omega
      have j1 : (k : Int) < 3 := by omega
      by_cases hu : (k : Int) < ar
      · rw [show rgB r (decide ((k : Int) < ar)) i = Ytlhbgkaknfhlnaa.Spn.inB r 0 (i - 1) by simp [rgB, hu]] at hs
        have HS := hide hs
        clear hs
        cases hB : Ytlhbgkaknfhlnaa.Spn.inB r 0 (i - 1)
        · go_wp2_with (go_at_call 25; refine (HWi.out _ _ _ _).mono ?_; rintro e w' ⟨rfl, rfl⟩)
          go_ret
          refine ⟨ret_b ?_, HB.out⟩
          cases h3 : T 3
          · rfl
          · have := HD.out (k + 1) 3 h3 (by omega)
            rw [HS.out, hB] at this
            exact this
        · have hu2 : decide (ar ≤ (k : Int)) = false := by simp; omega
          go_wp2_with (go_at_call 25; refine (HWi.out _ _ _ _).mono ?_; rintro e w' ⟨rfl, rfl⟩)
          go_round
          case rel => exact ⟨k + 1, by omega, by go_num, hide (by rw [HS.out]; exact hB)⟩
          case measure => simp [intOf]; omega
      · rw [show rgB r (decide ((k : Int) < ar)) i = (r == 0) by simp [rgB, hu]] at hs
        have HS := hide hs
        clear hs
        have hu2 : ar ≤ (k : Int) := by omega
        have hu3 : decide ((k : Int) < ar) = false := by simpa using hu
        by_cases hr : r = 0
        · subst hr
          go_wp2_with fail
          go_round
          case rel => exact ⟨k + 1, by omega, by go_num, hide HS.out⟩
          case measure => simp [intOf]; omega
        · have hr2 : (r != 0) = true := by simpa using hr
          go_wp2_with fail
          go_ret
          refine ⟨ret_b ?_, HB.out⟩
          cases h3 : T 3
          · rfl
          · have := HD.out (k + 1) 3 h3 (by omega)
            rw [HS.out] at this
            simp [hr] at this
    · obtain rfl : k = 3 := by omega
      go_wp2_with fail
      go_ret
      exact ⟨ret_b HK.out.symm, HB.out⟩

set_option maxRecDepth 100000 in
set_option maxHeartbeats 4000000 in
theorem cconstants_any (n : In) (W : World) :
    Calls Try.prog 28 #[.agg (ia n)] W fun e W' => e = .returned (.bool (csB n)) ∧ Below W.heap.size W W' := by
  have HB := hide (bel1 W (.cells (ia n) 47))
  have HWi := hide fun x lo hi W => cwithin_any x lo hi W
  have HWd := hide fun x W => Ytlhbgkaknfhlnaa.Spn.word_any x W
  have HC := hide fun op k s W => Ytlhbgkaknfhlnaa.Spn.constants_any op k s W
  obtain ⟨op, a, b, c, k, s⟩ := n
  unfold csB
  dsimp only at *
  by_cases h1 : op = 1
  · subst h1
    rw [if_pos rfl]
    cases hq : Ytlhbgkaknfhlnaa.Spn.wd k
    · go_enter Try.func28, Try.ntmps28
      go_wp2_with (go_at_call 10; refine (HWd.out _ _).mono ?_; rintro e w' ⟨rfl, rfl⟩)
      go_ret
      exact ⟨ret_b rfl, HB.out⟩
    · go_enter Try.func28, Try.ntmps28
      go_wp2_with (go_at_call 10; refine (HWd.out _ _).mono ?_; rintro e w' ⟨rfl, rfl⟩)
      go_ret
      exact ⟨ret_b (by simp), HB.out⟩
  rw [if_neg h1]
  have q1 : (op == 1) = false := by simpa using h1
  by_cases h2 : op = 2
  · subst h2
    clear q1 h1
    rw [if_pos rfl]
    cases hq : Ytlhbgkaknfhlnaa.Spn.inB k 0 5
    · go_enter Try.func28, Try.ntmps28
      go_wp2_with (go_at_call 25; refine (HWi.out _ _ _ _).mono ?_; rintro e w' ⟨rfl, rfl⟩)
      go_ret
      exact ⟨ret_b rfl, HB.out⟩
    · go_enter Try.func28, Try.ntmps28
      go_wp2_with (go_at_call 25; refine (HWi.out _ _ _ _).mono ?_; rintro e w' ⟨rfl, rfl⟩)
      go_ret
      exact ⟨ret_b (by simp), HB.out⟩
  rw [if_neg h2]
  have q2 : (op == 2) = false := by simpa using h2
  by_cases h3 : op = 3
  · subst h3
    clear q1 h1 q2 h2
    rw [if_pos rfl]
    cases hq : Ytlhbgkaknfhlnaa.Spn.inB k 0 255
    · go_enter Try.func28, Try.ntmps28
      go_wp2_with (go_at_call 25; refine (HWi.out _ _ _ _).mono ?_; rintro e w' ⟨rfl, rfl⟩)
      go_ret
      exact ⟨ret_b rfl, HB.out⟩
    · go_enter Try.func28, Try.ntmps28
      go_wp2_with (go_at_call 25; refine (HWi.out _ _ _ _).mono ?_; rintro e w' ⟨rfl, rfl⟩)
      go_ret
      exact ⟨ret_b (by simp), HB.out⟩
  rw [if_neg h3]
  have q3 : (op == 3) = false := by simpa using h3
  by_cases h4 : op = 29 ∨ op = 30 ∨ op = 31 ∨ op = 32
  · rw [if_pos h4]
    clear q1 h1 q2 h2 q3 h3
    rcases h4 with rfl | rfl | rfl | rfl
    · cases hq : Ytlhbgkaknfhlnaa.Spn.cons 29 k s
      · go_enter Try.func28, Try.ntmps28
        go_wp2_with (go_at_call 35; refine (HC.out _ _ _ _).mono ?_; rintro e w' ⟨rfl, rfl⟩)
        go_ret
        exact ⟨ret_b rfl, HB.out⟩
      · go_enter Try.func28, Try.ntmps28
        go_wp2_with (go_at_call 35; refine (HC.out _ _ _ _).mono ?_; rintro e w' ⟨rfl, rfl⟩)
        go_ret
        exact ⟨ret_b (by simp), HB.out⟩
    · cases hq : Ytlhbgkaknfhlnaa.Spn.cons 30 k s
      · go_enter Try.func28, Try.ntmps28
        go_wp2_with (go_at_call 35; refine (HC.out _ _ _ _).mono ?_; rintro e w' ⟨rfl, rfl⟩)
        go_ret
        exact ⟨ret_b rfl, HB.out⟩
      · go_enter Try.func28, Try.ntmps28
        go_wp2_with (go_at_call 35; refine (HC.out _ _ _ _).mono ?_; rintro e w' ⟨rfl, rfl⟩)
        go_ret
        exact ⟨ret_b (by simp), HB.out⟩
    · cases hq : Ytlhbgkaknfhlnaa.Spn.cons 31 k s
      · go_enter Try.func28, Try.ntmps28
        go_wp2_with (go_at_call 35; refine (HC.out _ _ _ _).mono ?_; rintro e w' ⟨rfl, rfl⟩)
        go_ret
        exact ⟨ret_b rfl, HB.out⟩
      · go_enter Try.func28, Try.ntmps28
        go_wp2_with (go_at_call 35; refine (HC.out _ _ _ _).mono ?_; rintro e w' ⟨rfl, rfl⟩)
        go_ret
        exact ⟨ret_b (by simp), HB.out⟩
    · cases hq : Ytlhbgkaknfhlnaa.Spn.cons 32 k s
      · go_enter Try.func28, Try.ntmps28
        go_wp2_with (go_at_call 35; refine (HC.out _ _ _ _).mono ?_; rintro e w' ⟨rfl, rfl⟩)
        go_ret
        exact ⟨ret_b rfl, HB.out⟩
      · go_enter Try.func28, Try.ntmps28
        go_wp2_with (go_at_call 35; refine (HC.out _ _ _ _).mono ?_; rintro e w' ⟨rfl, rfl⟩)
        go_ret
        exact ⟨ret_b (by simp), HB.out⟩
  rw [if_neg h4]
  by_cases h5 : op = 33
  · subst h5
    rw [if_pos rfl]
    clear q1 h1 q2 h2 q3 h3 h4
    go_enter Try.func28, Try.ntmps28
    go_wp2_with (go_at_call 35; refine (HC.out _ _ _ _).mono ?_; rintro e w' ⟨rfl, rfl⟩)
    go_ret
    exact ⟨rfl, HB.out⟩
  rw [if_neg h5]
  have q4 : (op == 29) = false := by simp; omega
  have q5 : (op == 30) = false := by simp; omega
  have q6 : (op == 31) = false := by simp; omega
  have q7 : (op == 32) = false := by simp; omega
  have q8 : (op == 33) = false := by simpa using h5
  clear h1 h2 h3 h4 h5
  by_cases hk : k = 0
  · subst hk
    go_enter Try.func28, Try.ntmps28
    go_wp2_with fail
    go_ret
    exact ⟨ret_b (by simp), HB.out⟩
  · have hk2 : (k == 0) = false := by simpa using hk
    clear hk
    go_enter Try.func28, Try.ntmps28
    go_wp2_with fail
    go_ret
    exact ⟨ret_b (by simp [hk2]), HB.out⟩

end Go.Proofs.Cde

/-
  The document's own comparisons and choices.
-/
import Derived.Test.YtbingoelpeoimaaGreatMSqA
namespace Go.Proofs.YtbingoelpeoimaaGreat.Spn
open Go.RowKit Go.IntWalk
set_option linter.unusedVariables false

theorem not_lt_le (a b : Int) : (!decide (b < a)) = decide (a ≤ b) := by
  by_cases h : a ≤ b <;> simp [h] <;> omega

theorem rchosen_cmp (op k s a b c : Int) (w : World) (ho : inB op 18 23 = true) :
    Calls Tryz.prog 94 #[.int .i64 op, .int .i64 a, .int .i64 b, .int .i64 c] w fun e w' => e = .returned (.int .i64 (ex op k s a b c).1) ∧ w' = w := by
  have h := inB_iff.1 ho
  clear ho
  rcases (show op = 18 ∨ op = 19 ∨ op = 20 ∨ op = 21 ∨ op = 22 ∨ op = 23 by omega) with rfl | rfl | rfl | rfl | rfl | rfl <;> clear h
  · go_enter Tryz.func94, Tryz.ntmps94
    go_wp2_with (go_at_call 91; refine (rtruth_any _ _).mono ?_; rintro e w' ⟨rfl, rfl⟩)
    go_ret
    exact ⟨rfl, rfl⟩
  · go_enter Tryz.func94, Tryz.ntmps94
    go_wp2_with (go_at_call 91; refine (rtruth_any _ _).mono ?_; rintro e w' ⟨rfl, rfl⟩)
    go_ret
    refine ⟨ret_int ?_, rfl⟩
    rw [not_lt_le]
    rfl
  · go_enter Tryz.func94, Tryz.ntmps94
    go_wp2_with (go_at_call 91; refine (rtruth_any _ _).mono ?_; rintro e w' ⟨rfl, rfl⟩)
    go_ret
    exact ⟨rfl, rfl⟩
  · go_enter Tryz.func94, Tryz.ntmps94
    go_wp2_with (go_at_call 91; refine (rtruth_any _ _).mono ?_; rintro e w' ⟨rfl, rfl⟩)
    go_ret
    refine ⟨ret_int ?_, rfl⟩
    rw [not_lt_le]
    rfl
  · go_enter Tryz.func94, Tryz.ntmps94
    go_wp2_with (go_at_call 91; refine (rtruth_any _ _).mono ?_; rintro e w' ⟨rfl, rfl⟩)
    go_ret
    exact ⟨rfl, rfl⟩
  · go_enter Tryz.func94, Tryz.ntmps94
    go_wp2_with (go_at_call 91; refine (rtruth_any _ _).mono ?_; rintro e w' ⟨rfl, rfl⟩)
    go_ret
    exact ⟨rfl, rfl⟩

theorem rchosen_min (k s a b c : Int) (w : World) :
    Calls Tryz.prog 94 #[.int .i64 24, .int .i64 a, .int .i64 b, .int .i64 c] w fun e w' => e = .returned (.int .i64 (ex 24 k s a b c).1) ∧ w' = w := by
  rw [show ex 24 k s a b c = (min a b, 0) from rfl]
  go_enter Tryz.func94, Tryz.ntmps94
  go_wp2_with fail
  all_goals go_ret
  all_goals exact ⟨ret_int (by omega), rfl⟩
theorem rchosen_max (k s a b c : Int) (w : World) :
    Calls Tryz.prog 94 #[.int .i64 25, .int .i64 a, .int .i64 b, .int .i64 c] w fun e w' => e = .returned (.int .i64 (ex 25 k s a b c).1) ∧ w' = w := by
  rw [show ex 25 k s a b c = (max a b, 0) from rfl]
  go_enter Tryz.func94, Tryz.ntmps94
  go_wp2_with fail
  all_goals go_ret
  all_goals exact ⟨ret_int (by omega), rfl⟩
theorem rchosen_clamp (k s a b c : Int) (w : World) :
    Calls Tryz.prog 94 #[.int .i64 26, .int .i64 a, .int .i64 b, .int .i64 c] w fun e w' => e = .returned (.int .i64 (ex 26 k s a b c).1) ∧ w' = w := by
  rw [show ex 26 k s a b c = (min c (max a b), 0) from rfl]
  go_enter Tryz.func94, Tryz.ntmps94
  go_wp2_with fail
  all_goals go_ret
  all_goals exact ⟨ret_int (by omega), rfl⟩
theorem rchosen_sel (k s a b c : Int) (w : World) :
    Calls Tryz.prog 94 #[.int .i64 28, .int .i64 a, .int .i64 b, .int .i64 c] w fun e w' => e = .returned (.int .i64 (ex 28 k s a b c).1) ∧ w' = w := by
  by_cases h0 : a = 0
  · subst h0
    go_enter Tryz.func94, Tryz.ntmps94
    go_wp2_with fail
    go_ret
    exact ⟨rfl, rfl⟩
  · have h1 : (a == 0) = false := by simp [h0]
    rw [show ex 28 k s a b c = (b, 0) by simp [ex, h0]]
    go_enter Tryz.func94, Tryz.ntmps94
    go_wp2_with fail
    go_ret
    exact ⟨rfl, rfl⟩

theorem rchosen_med (k s a b c : Int) (w : World) :
    Calls Tryz.prog 94 #[.int .i64 27, .int .i64 a, .int .i64 b, .int .i64 c] w fun e w' => e = .returned (.int .i64 (ex 27 k s a b c).1) ∧ w' = w := by
  rw [show ex 27 k s a b c = (max (min a b) (min (max a b) c), 0) from rfl]
  rcases (show (b ≤ a ∧ a ≤ c) ∨ (¬ b ≤ a ∧ c ≤ a) ∨ (b ≤ a ∧ ¬ a ≤ c ∧ c ≤ a ∧ a ≤ b) ∨ (b ≤ a ∧ ¬ a ≤ c ∧ ¬ a ≤ b ∧ c ≤ b) ∨ (b ≤ a ∧ ¬ a ≤ c ∧ ¬ a ≤ b ∧ ¬ c ≤ b) ∨ (¬ b ≤ a ∧ ¬ c ≤ a ∧ b ≤ c) ∨ (¬ b ≤ a ∧ ¬ c ≤ a ∧ ¬ b ≤ c) by omega) with h | h | h | h | h | h | h <;>
  · go_enter Tryz.func94, Tryz.ntmps94
    go_wp2_with fail
    all_goals go_ret
    all_goals exact ⟨ret_int (by omega), rfl⟩

theorem rchosen_any (op k s a b c : Int) (w : World) (ho : inB op 18 28 = true) :
    Calls Tryz.prog 94 #[.int .i64 op, .int .i64 a, .int .i64 b, .int .i64 c] w fun e w' => e = .returned (.int .i64 (ex op k s a b c).1) ∧ w' = w := by
  have h := inB_iff.1 ho
  rcases (show op ≤ 23 ∨ op = 24 ∨ op = 25 ∨ op = 26 ∨ op = 27 ∨ op = 28 by omega) with h | rfl | rfl | rfl | rfl | rfl
  · exact rchosen_cmp op k s a b c w (inB_t (by omega) (by omega))
  · exact rchosen_min k s a b c w
  · exact rchosen_max k s a b c w
  · exact rchosen_clamp k s a b c w
  · exact rchosen_med k s a b c w
  · exact rchosen_sel k s a b c w

theorem ex_chosen (op k s a b c : Int) (ho : inB op 18 28 = true) : (ex op k s a b c).2 = 0 := by
  have h := inB_iff.1 ho
  rcases (show op = 18 ∨ op = 19 ∨ op = 20 ∨ op = 21 ∨ op = 22 ∨ op = 23 ∨ op = 24 ∨ op = 25 ∨ op = 26 ∨ op = 27 ∨ op = 28 by omega) with rfl | rfl | rfl | rfl | rfl | rfl | rfl | rfl | rfl | rfl | rfl <;> rfl

end Go.Proofs.YtbingoelpeoimaaGreat.Spn

/-
  The document's own plain: the number, whatever its size, and what may not be.
-/
namespace Go.Proofs.YtbingoelpeoimaaGreat.Spn
open Go.RowKit Go.IntWalk
set_option linter.unusedVariables false

theorem prod_bd {x k : Int} (hk : 1 ≤ k) (h0 : ¬ 4611686018427387904 < max x (-x) * k) : -4611686018427387904 ≤ x * k ∧ x * k ≤ 4611686018427387904 := by
  rcases Int.le_total 0 x with h | h
  · rw [show max x (-x) = x by omega] at h0
    have : 0 ≤ x * k := Int.mul_nonneg h (by omega)
    omega
  · rw [show max x (-x) = -x by omega, Int.neg_mul] at h0
    have : 0 ≤ -x * k := Int.mul_nonneg (by omega) (by omega)
    rw [Int.neg_mul] at this
    omega

theorem tr_bd' (x : Bool) : 0 ≤ tr x ∧ tr x ≤ 1 := by cases x <;> decide

set_option maxRecDepth 100000 in
set_option maxHeartbeats 1000000 in
theorem pl_5 (k s x : Int) (b off cap : Nat) (w : World) (hcap : 1 ≤ cap) (hx : -2147483648 ≤ x ∧ x ≤ 2147483647) 
    (c0 : w.cell? ⟨b, off, none⟩ = some (.int .i64 x)) :
    Calls Tryz.prog 78 #[.int .i64 5, .int .i64 k, .int .i64 s, .slice (some ⟨b, off, none⟩) 1 cap] w fun e w' => e = .returned (.tuple #[.int .i64 (ex 5 k s x 0 0).1, .int .i64 (ex 5 k s x 0 0).2]) ∧ w' = w := by
  rw [show ex 5 k s x 0 0 = (-x, 0) from rfl]
  go_enter Tryz.func78, Tryz.ntmps78
  go_wp2_with fail
  go_ret2
  exact ⟨ret_two (by omega) rfl, rfl⟩

set_option maxRecDepth 100000 in
set_option maxHeartbeats 1000000 in
theorem pl_6 (k s x : Int) (b off cap : Nat) (w : World) (hcap : 1 ≤ cap) (hx : -2147483648 ≤ x ∧ x ≤ 2147483647) 
    (c0 : w.cell? ⟨b, off, none⟩ = some (.int .i64 x)) :
    Calls Tryz.prog 78 #[.int .i64 6, .int .i64 k, .int .i64 s, .slice (some ⟨b, off, none⟩) 1 cap] w fun e w' => e = .returned (.tuple #[.int .i64 (ex 6 k s x 0 0).1, .int .i64 (ex 6 k s x 0 0).2]) ∧ w' = w := by
  go_enter Tryz.func78, Tryz.ntmps78
  go_wp2_with fail
  refine (rsize_any x _ (by omega)).mono ?_
  rintro e w' ⟨rfl, rfl⟩
  go_wp2_with fail
  go_ret2
  exact ⟨rfl, rfl⟩

set_option maxRecDepth 100000 in
set_option maxHeartbeats 1000000 in
theorem pl_7 (k s x : Int) (b off cap : Nat) (w : World) (hcap : 1 ≤ cap) (hx : -2147483648 ≤ x ∧ x ≤ 2147483647) 
    (c0 : w.cell? ⟨b, off, none⟩ = some (.int .i64 x)) :
    Calls Tryz.prog 78 #[.int .i64 7, .int .i64 k, .int .i64 s, .slice (some ⟨b, off, none⟩) 1 cap] w fun e w' => e = .returned (.tuple #[.int .i64 (ex 7 k s x 0 0).1, .int .i64 (ex 7 k s x 0 0).2]) ∧ w' = w := by
  have b1 := tr_bd' (decide (0 < x))
  have b2 := tr_bd' (decide (x < 0))
  rw [show ex 7 k s x 0 0 = (tr (decide (0 < x)) - tr (decide (x < 0)), 0) from rfl]
  generalize h1 : tr (decide (0 < x)) = t1 at *
  generalize h2 : tr (decide (x < 0)) = t2 at *
  have H1 := hide h1
  have H2 := hide h2
  clear h1 h2
  go_enter Tryz.func78, Tryz.ntmps78
  go_wp2_with fail
  refine (H1.out ▸ rtruth_any (decide (0 < x)) _).mono ?_
  rintro e w' ⟨rfl, rfl⟩
  go_wp2_with fail
  refine (H2.out ▸ rtruth_any (decide (x < 0)) _).mono ?_
  rintro e w' ⟨rfl, rfl⟩
  go_wp2_with fail
  go_ret2
  exact ⟨rfl, rfl⟩

set_option maxRecDepth 100000 in
set_option maxHeartbeats 1000000 in
theorem pl_29 (k s x : Int) (b off cap : Nat) (w : World) (hcap : 1 ≤ cap) (hx : -2147483648 ≤ x ∧ x ≤ 2147483647) (hk : 0 ≤ k ∧ k ≤ 31)
    (c0 : w.cell? ⟨b, off, none⟩ = some (.int .i64 x)) :
    Calls Tryz.prog 78 #[.int .i64 29, .int .i64 k, .int .i64 s, .slice (some ⟨b, off, none⟩) 1 cap] w fun e w' => e = .returned (.tuple #[.int .i64 (ex 29 k s x 0 0).1, .int .i64 (ex 29 k s x 0 0).2]) ∧ w' = w := by
  have hP := pow_bd k.toNat 31 (by omega)
  have hM := mul_wd (b := 2 ^ k.toNat) hx (by omega)
  have PW := hide (fun w => rpower_any k w (by omega))
  go_enter Tryz.func78, Tryz.ntmps78
  go_wp2_with fail
  refine (PW.out _).mono ?_
  rintro e w' ⟨rfl, rfl⟩
  go_wp2_with fail
  go_ret2
  exact ⟨rfl, rfl⟩

set_option maxRecDepth 100000 in
set_option maxHeartbeats 1000000 in
theorem pl_30 (k s x : Int) (b off cap : Nat) (w : World) (hcap : 1 ≤ cap) (hx : -2147483648 ≤ x ∧ x ≤ 2147483647) (hk : 0 ≤ k ∧ k ≤ 31)
    (c0 : w.cell? ⟨b, off, none⟩ = some (.int .i64 x)) :
    Calls Tryz.prog 78 #[.int .i64 30, .int .i64 k, .int .i64 s, .slice (some ⟨b, off, none⟩) 1 cap] w fun e w' => e = .returned (.tuple #[.int .i64 (ex 30 k s x 0 0).1, .int .i64 (ex 30 k s x 0 0).2]) ∧ w' = w := by
  have hP := pow_bd k.toNat 31 (by omega)
  have PW := hide (fun w => rpower_any k w (by omega))
  have FL := hide (fun w => rfloor_any x (2 ^ k.toNat) w (by omega) (by omega))
  go_enter Tryz.func78, Tryz.ntmps78
  go_wp2_with fail
  refine (PW.out _).mono ?_
  rintro e w' ⟨rfl, rfl⟩
  go_wp2_with fail
  refine (FL.out _).mono ?_
  rintro e w' ⟨rfl, rfl⟩
  go_wp2_with fail
  go_ret2
  exact ⟨rfl, rfl⟩

set_option maxRecDepth 100000 in
set_option maxHeartbeats 1000000 in
theorem pl_31 (k s x : Int) (b off cap : Nat) (w : World) (hcap : 1 ≤ cap) (hx : -2147483648 ≤ x ∧ x ≤ 2147483647) (hk : 0 ≤ k ∧ k ≤ 2147483647)
    (c0 : w.cell? ⟨b, off, none⟩ = some (.int .i64 x)) :
    Calls Tryz.prog 78 #[.int .i64 31, .int .i64 k, .int .i64 s, .slice (some ⟨b, off, none⟩) 1 cap] w fun e w' => e = .returned (.tuple #[.int .i64 (ex 31 k s x 0 0).1, .int .i64 (ex 31 k s x 0 0).2]) ∧ w' = w := by
  have BW := hide (fun w => rbitwise_any .and 15 x k w rfl hx (by omega))
  go_enter Tryz.func78, Tryz.ntmps78
  go_wp2_with fail
  refine (BW.out _).mono ?_
  rintro e w' ⟨rfl, rfl⟩
  go_wp2_with fail
  go_ret2
  exact ⟨rfl, rfl⟩

set_option maxRecDepth 100000 in
set_option maxHeartbeats 1000000 in
theorem pl_32 (k s x : Int) (b off cap : Nat) (w : World) (hcap : 1 ≤ cap) (hx : -2147483648 ≤ x ∧ x ≤ 2147483647) (hk : -2147483648 ≤ k ∧ k ≤ 2147483647)
    (c0 : w.cell? ⟨b, off, none⟩ = some (.int .i64 x)) :
    Calls Tryz.prog 78 #[.int .i64 32, .int .i64 k, .int .i64 s, .slice (some ⟨b, off, none⟩) 1 cap] w fun e w' => e = .returned (.tuple #[.int .i64 (ex 32 k s x 0 0).1, .int .i64 (ex 32 k s x 0 0).2]) ∧ w' = w := by
  have hM := mul_wd (b := k) hx (by omega)
  go_enter Tryz.func78, Tryz.ntmps78
  go_wp2_with fail
  go_ret2
  exact ⟨rfl, rfl⟩

set_option maxRecDepth 100000 in
set_option maxHeartbeats 1000000 in
theorem pl_33z (k s x : Int) (b off cap : Nat) (w : World) (hcap : 1 ≤ cap) (hx : -2147483648 ≤ x ∧ x ≤ 2147483647) (hk : 1 ≤ k ∧ k ≤ 4611686018427387904) (hs : 0 ≤ s ∧ s ≤ 62) (h0 : x = 0)
    (c0 : w.cell? ⟨b, off, none⟩ = some (.int .i64 x)) :
    Calls Tryz.prog 78 #[.int .i64 33, .int .i64 k, .int .i64 s, .slice (some ⟨b, off, none⟩) 1 cap] w fun e w' => e = .returned (.tuple #[.int .i64 (ex 33 k s x 0 0).1, .int .i64 (ex 33 k s x 0 0).2]) ∧ w' = w := by
  subst h0
  have hP := pow_bd s.toNat 62 (by omega)
  have PW := hide (fun w => rpower_any s w (by omega))
  have FL := hide (fun w => rfloor_any 0 (2 ^ s.toNat) w (by omega) (by omega))
  rw [show ex 33 k s 0 0 0 = (0, 0) by simp [ex]]
  go_enter Tryz.func78, Tryz.ntmps78
  go_wp2_with fail
  refine (PW.out _).mono ?_
  rintro e w' ⟨rfl, rfl⟩
  go_wp2_with fail
  refine (FL.out _).mono ?_
  rintro e w' ⟨rfl, rfl⟩
  go_wp2_with fail
  go_ret2
  exact ⟨rfl, rfl⟩

set_option maxRecDepth 100000 in
set_option maxHeartbeats 1000000 in
theorem pl_33b (k s x : Int) (b off cap : Nat) (w : World) (hcap : 1 ≤ cap) (hx : -2147483648 ≤ x ∧ x ≤ 2147483647) (hk : 1 ≤ k ∧ k ≤ 4611686018427387904) (hs : 0 ≤ s ∧ s ≤ 62) (h0 : x ≠ 0) (hb : 4611686018427387904 < max x (-x) * k)
    (c0 : w.cell? ⟨b, off, none⟩ = some (.int .i64 x)) :
    Calls Tryz.prog 78 #[.int .i64 33, .int .i64 k, .int .i64 s, .slice (some ⟨b, off, none⟩) 1 cap] w fun e w' => e = .returned (.tuple #[.int .i64 (ex 33 k s x 0 0).1, .int .i64 (ex 33 k s x 0 0).2]) ∧ w' = w := by
  rw [show ex 33 k s x 0 0 = (0, 13) by simp [ex, hb]]
  have h1 : 4611686018427387904 / max x (-x) < k := (div_test (m := k) (k := max x (-x)) (by omega)).2 (by rw [Int.mul_comm]; exact hb)
  have h2 : 1 ≤ max x (-x) := by omega
  have h3 : (x != 0) = true := by simp [h0]
  have SZ := hide (fun w => rsize_any x w (by omega))
  clear hb h0
  generalize max x (-x) = M at *
  go_enter Tryz.func78, Tryz.ntmps78
  go_wp2_with fail
  refine (SZ.out _).mono ?_
  rintro e w' ⟨rfl, rfl⟩
  go_wp2_with fail
  go_ret2
  exact ⟨rfl, rfl⟩

set_option maxRecDepth 100000 in
set_option maxHeartbeats 1000000 in
theorem pl_33s (k s x : Int) (b off cap : Nat) (w : World) (hcap : 1 ≤ cap) (hx : -2147483648 ≤ x ∧ x ≤ 2147483647) (hk : 1 ≤ k ∧ k ≤ 4611686018427387904) (hs : 0 ≤ s ∧ s ≤ 62) (h0 : x ≠ 0) (hb : ¬ 4611686018427387904 < max x (-x) * k)
    (c0 : w.cell? ⟨b, off, none⟩ = some (.int .i64 x)) :
    Calls Tryz.prog 78 #[.int .i64 33, .int .i64 k, .int .i64 s, .slice (some ⟨b, off, none⟩) 1 cap] w fun e w' => e = .returned (.tuple #[.int .i64 (ex 33 k s x 0 0).1, .int .i64 (ex 33 k s x 0 0).2]) ∧ w' = w := by
  rw [show ex 33 k s x 0 0 = (x * k / 2 ^ s.toNat, 0) by simp [ex, hb]]
  have h1 : ¬ 4611686018427387904 / max x (-x) < k := fun h => hb (by rw [Int.mul_comm]; exact (div_test (m := k) (k := max x (-x)) (by omega)).1 h)
  have h2 : 1 ≤ max x (-x) := by omega
  have h3 : (x != 0) = true := by simp [h0]
  have hM := prod_bd hk.1 hb
  have hP := pow_bd s.toNat 62 (by omega)
  have SZ := hide (fun w => rsize_any x w (by omega))
  have PW := hide (fun w => rpower_any s w (by omega))
  have FL := hide (fun w => rfloor_any (x * k) (2 ^ s.toNat) w hM (by omega))
  clear hb h0
  generalize max x (-x) = M at *
  go_enter Tryz.func78, Tryz.ntmps78
  go_wp2_with fail
  refine (SZ.out _).mono ?_
  rintro e w' ⟨rfl, rfl⟩
  go_wp2_with fail
  refine (PW.out _).mono ?_
  rintro e w' ⟨rfl, rfl⟩
  go_wp2_with fail
  refine (FL.out _).mono ?_
  rintro e w' ⟨rfl, rfl⟩
  go_wp2_with fail
  go_ret2
  exact ⟨rfl, rfl⟩

set_option maxRecDepth 100000 in
set_option maxHeartbeats 1000000 in
theorem pl_8 (k s x y : Int) (b off cap : Nat) (w : World) (hcap : 2 ≤ cap) (hx : -2147483648 ≤ x ∧ x ≤ 2147483647) (hy : -2147483648 ≤ y ∧ y ≤ 2147483647) 
    (c0 : w.cell? ⟨b, off, none⟩ = some (.int .i64 x)) (c1 : w.cell? ⟨b, off + 1, none⟩ = some (.int .i64 y)) :
    Calls Tryz.prog 78 #[.int .i64 8, .int .i64 k, .int .i64 s, .slice (some ⟨b, off, none⟩) 2 cap] w fun e w' => e = .returned (.tuple #[.int .i64 (ex 8 k s x y 0).1, .int .i64 (ex 8 k s x y 0).2]) ∧ w' = w := by
  go_enter Tryz.func78, Tryz.ntmps78
  go_wp2_with fail
  go_ret2
  exact ⟨rfl, rfl⟩

set_option maxRecDepth 100000 in
set_option maxHeartbeats 1000000 in
theorem pl_9 (k s x y : Int) (b off cap : Nat) (w : World) (hcap : 2 ≤ cap) (hx : -2147483648 ≤ x ∧ x ≤ 2147483647) (hy : -2147483648 ≤ y ∧ y ≤ 2147483647) 
    (c0 : w.cell? ⟨b, off, none⟩ = some (.int .i64 x)) (c1 : w.cell? ⟨b, off + 1, none⟩ = some (.int .i64 y)) :
    Calls Tryz.prog 78 #[.int .i64 9, .int .i64 k, .int .i64 s, .slice (some ⟨b, off, none⟩) 2 cap] w fun e w' => e = .returned (.tuple #[.int .i64 (ex 9 k s x y 0).1, .int .i64 (ex 9 k s x y 0).2]) ∧ w' = w := by
  go_enter Tryz.func78, Tryz.ntmps78
  go_wp2_with fail
  go_ret2
  exact ⟨rfl, rfl⟩

set_option maxRecDepth 100000 in
set_option maxHeartbeats 1000000 in
theorem pl_10 (k s x y : Int) (b off cap : Nat) (w : World) (hcap : 2 ≤ cap) (hx : -2147483648 ≤ x ∧ x ≤ 2147483647) (hy : -2147483648 ≤ y ∧ y ≤ 2147483647) 
    (c0 : w.cell? ⟨b, off, none⟩ = some (.int .i64 x)) (c1 : w.cell? ⟨b, off + 1, none⟩ = some (.int .i64 y)) :
    Calls Tryz.prog 78 #[.int .i64 10, .int .i64 k, .int .i64 s, .slice (some ⟨b, off, none⟩) 2 cap] w fun e w' => e = .returned (.tuple #[.int .i64 (ex 10 k s x y 0).1, .int .i64 (ex 10 k s x y 0).2]) ∧ w' = w := by
  have hM := mul_wd (b := y) hx (by omega)
  go_enter Tryz.func78, Tryz.ntmps78
  go_wp2_with fail
  go_ret2
  exact ⟨rfl, rfl⟩

set_option maxRecDepth 100000 in
set_option maxHeartbeats 1000000 in
theorem pl_11z (k s x y : Int) (b off cap : Nat) (w : World) (hcap : 2 ≤ cap) (hx : -2147483648 ≤ x ∧ x ≤ 2147483647) (hy : -2147483648 ≤ y ∧ y ≤ 2147483647) (h0 : y = 0)
    (c0 : w.cell? ⟨b, off, none⟩ = some (.int .i64 x)) (c1 : w.cell? ⟨b, off + 1, none⟩ = some (.int .i64 y)) :
    Calls Tryz.prog 78 #[.int .i64 11, .int .i64 k, .int .i64 s, .slice (some ⟨b, off, none⟩) 2 cap] w fun e w' => e = .returned (.tuple #[.int .i64 (ex 11 k s x y 0).1, .int .i64 (ex 11 k s x y 0).2]) ∧ w' = w := by
  subst h0
  go_enter Tryz.func78, Tryz.ntmps78
  go_wp2_with fail
  go_ret2
  exact ⟨rfl, rfl⟩

set_option maxRecDepth 100000 in
set_option maxHeartbeats 1000000 in
theorem pl_12z (k s x y : Int) (b off cap : Nat) (w : World) (hcap : 2 ≤ cap) (hx : -2147483648 ≤ x ∧ x ≤ 2147483647) (hy : -2147483648 ≤ y ∧ y ≤ 2147483647) (h0 : y = 0)
    (c0 : w.cell? ⟨b, off, none⟩ = some (.int .i64 x)) (c1 : w.cell? ⟨b, off + 1, none⟩ = some (.int .i64 y)) :
    Calls Tryz.prog 78 #[.int .i64 12, .int .i64 k, .int .i64 s, .slice (some ⟨b, off, none⟩) 2 cap] w fun e w' => e = .returned (.tuple #[.int .i64 (ex 12 k s x y 0).1, .int .i64 (ex 12 k s x y 0).2]) ∧ w' = w := by
  subst h0
  go_enter Tryz.func78, Tryz.ntmps78
  go_wp2_with fail
  go_ret2
  exact ⟨rfl, rfl⟩

set_option maxRecDepth 100000 in
set_option maxHeartbeats 1000000 in
theorem pl_11 (k s x y : Int) (b off cap : Nat) (w : World) (hcap : 2 ≤ cap) (hx : -2147483648 ≤ x ∧ x ≤ 2147483647) (hy : -2147483648 ≤ y ∧ y ≤ 2147483647) (h0 : y ≠ 0)
    (c0 : w.cell? ⟨b, off, none⟩ = some (.int .i64 x)) (c1 : w.cell? ⟨b, off + 1, none⟩ = some (.int .i64 y)) :
    Calls Tryz.prog 78 #[.int .i64 11, .int .i64 k, .int .i64 s, .slice (some ⟨b, off, none⟩) 2 cap] w fun e w' => e = .returned (.tuple #[.int .i64 (ex 11 k s x y 0).1, .int .i64 (ex 11 k s x y 0).2]) ∧ w' = w := by
  have h1 : (y == 0) = false := by simp [h0]
  rw [show ex 11 k s x y 0 = (x.tdiv y, 0) by simp [ex, h0]]
  have DV := hide (fun w => rdivide_any x y w hx hy h0)
  clear h0
  go_enter Tryz.func78, Tryz.ntmps78
  go_wp2_with fail
  refine (DV.out _).mono ?_
  rintro e w' ⟨rfl, rfl⟩
  go_wp2_with fail
  go_ret2
  exact ⟨rfl, rfl⟩

set_option maxRecDepth 100000 in
set_option maxHeartbeats 1000000 in
theorem pl_12 (k s x y : Int) (b off cap : Nat) (w : World) (hcap : 2 ≤ cap) (hx : -2147483648 ≤ x ∧ x ≤ 2147483647) (hy : -2147483648 ≤ y ∧ y ≤ 2147483647) (h0 : y ≠ 0)
    (c0 : w.cell? ⟨b, off, none⟩ = some (.int .i64 x)) (c1 : w.cell? ⟨b, off + 1, none⟩ = some (.int .i64 y)) :
    Calls Tryz.prog 78 #[.int .i64 12, .int .i64 k, .int .i64 s, .slice (some ⟨b, off, none⟩) 2 cap] w fun e w' => e = .returned (.tuple #[.int .i64 (ex 12 k s x y 0).1, .int .i64 (ex 12 k s x y 0).2]) ∧ w' = w := by
  have h1 : (y == 0) = false := by simp [h0]
  have h2 := Int.mul_tdiv_add_tmod x y
  have h3 : (x.tmod y).natAbs < y.natAbs := by rw [Int.natAbs_tmod]; exact Nat.mod_lt _ (by omega)
  rw [show ex 12 k s x y 0 = (x.tmod y, 0) by simp [ex, h0]]
  have DV := hide (fun w => rdivide_any x y w hx hy h0)
  generalize x.tmod y = r at *
  generalize x.tdiv y = q at *
  have h4 : -4294967296 ≤ y * q ∧ y * q ≤ 4294967296 := ⟨by omega, by omega⟩
  have H5 := hide (show x - y * q = r by omega)
  have h6 : -4294967296 ≤ r ∧ r ≤ 4294967296 := ⟨by omega, by omega⟩
  clear h0 h2 h3
  go_enter Tryz.func78, Tryz.ntmps78
  go_wp2_with fail
  refine (DV.out _).mono ?_
  rintro e w' ⟨rfl, rfl⟩
  go_wp2_with fail
  go_ret2
  exact ⟨ret_two H5.out rfl, rfl⟩

set_option maxRecDepth 100000 in
set_option maxHeartbeats 1000000 in
theorem pl_13lo (k s x y : Int) (b off cap : Nat) (w : World) (hcap : 2 ≤ cap) (hx : -2147483648 ≤ x ∧ x ≤ 2147483647) (hy : -2147483648 ≤ y ∧ y ≤ 2147483647) (h0 : y < 0)
    (c0 : w.cell? ⟨b, off, none⟩ = some (.int .i64 x)) (c1 : w.cell? ⟨b, off + 1, none⟩ = some (.int .i64 y)) :
    Calls Tryz.prog 78 #[.int .i64 13, .int .i64 k, .int .i64 s, .slice (some ⟨b, off, none⟩) 2 cap] w fun e w' => e = .returned (.tuple #[.int .i64 (ex 13 k s x y 0).1, .int .i64 (ex 13 k s x y 0).2]) ∧ w' = w := by
  rw [show ex 13 k s x y 0 = (0, 13) by simp [ex, inB_f (x := y) (l := 0) (h := 31) (by omega)]]
  go_enter Tryz.func78, Tryz.ntmps78
  go_wp2_with fail
  go_ret2
  exact ⟨rfl, rfl⟩

set_option maxRecDepth 100000 in
set_option maxHeartbeats 1000000 in
theorem pl_13hi (k s x y : Int) (b off cap : Nat) (w : World) (hcap : 2 ≤ cap) (hx : -2147483648 ≤ x ∧ x ≤ 2147483647) (hy : -2147483648 ≤ y ∧ y ≤ 2147483647) (h0 : 31 < y)
    (c0 : w.cell? ⟨b, off, none⟩ = some (.int .i64 x)) (c1 : w.cell? ⟨b, off + 1, none⟩ = some (.int .i64 y)) :
    Calls Tryz.prog 78 #[.int .i64 13, .int .i64 k, .int .i64 s, .slice (some ⟨b, off, none⟩) 2 cap] w fun e w' => e = .returned (.tuple #[.int .i64 (ex 13 k s x y 0).1, .int .i64 (ex 13 k s x y 0).2]) ∧ w' = w := by
  rw [show ex 13 k s x y 0 = (0, 13) by simp [ex, inB_f (x := y) (l := 0) (h := 31) (by omega)]]
  go_enter Tryz.func78, Tryz.ntmps78
  go_wp2_with fail
  go_ret2
  exact ⟨rfl, rfl⟩

set_option maxRecDepth 100000 in
set_option maxHeartbeats 1000000 in
theorem pl_14lo (k s x y : Int) (b off cap : Nat) (w : World) (hcap : 2 ≤ cap) (hx : -2147483648 ≤ x ∧ x ≤ 2147483647) (hy : -2147483648 ≤ y ∧ y ≤ 2147483647) (h0 : y < 0)
    (c0 : w.cell? ⟨b, off, none⟩ = some (.int .i64 x)) (c1 : w.cell? ⟨b, off + 1, none⟩ = some (.int .i64 y)) :
    Calls Tryz.prog 78 #[.int .i64 14, .int .i64 k, .int .i64 s, .slice (some ⟨b, off, none⟩) 2 cap] w fun e w' => e = .returned (.tuple #[.int .i64 (ex 14 k s x y 0).1, .int .i64 (ex 14 k s x y 0).2]) ∧ w' = w := by
  rw [show ex 14 k s x y 0 = (0, 13) by simp [ex, inB_f (x := y) (l := 0) (h := 31) (by omega)]]
  go_enter Tryz.func78, Tryz.ntmps78
  go_wp2_with fail
  go_ret2
  exact ⟨rfl, rfl⟩

set_option maxRecDepth 100000 in
set_option maxHeartbeats 1000000 in
theorem pl_14hi (k s x y : Int) (b off cap : Nat) (w : World) (hcap : 2 ≤ cap) (hx : -2147483648 ≤ x ∧ x ≤ 2147483647) (hy : -2147483648 ≤ y ∧ y ≤ 2147483647) (h0 : 31 < y)
    (c0 : w.cell? ⟨b, off, none⟩ = some (.int .i64 x)) (c1 : w.cell? ⟨b, off + 1, none⟩ = some (.int .i64 y)) :
    Calls Tryz.prog 78 #[.int .i64 14, .int .i64 k, .int .i64 s, .slice (some ⟨b, off, none⟩) 2 cap] w fun e w' => e = .returned (.tuple #[.int .i64 (ex 14 k s x y 0).1, .int .i64 (ex 14 k s x y 0).2]) ∧ w' = w := by
  rw [show ex 14 k s x y 0 = (0, 13) by simp [ex, inB_f (x := y) (l := 0) (h := 31) (by omega)]]
  go_enter Tryz.func78, Tryz.ntmps78
  go_wp2_with fail
  go_ret2
  exact ⟨rfl, rfl⟩

set_option maxRecDepth 100000 in
set_option maxHeartbeats 1000000 in
theorem pl_13 (k s x y : Int) (b off cap : Nat) (w : World) (hcap : 2 ≤ cap) (hx : -2147483648 ≤ x ∧ x ≤ 2147483647) (hy : -2147483648 ≤ y ∧ y ≤ 2147483647) (h0 : 0 ≤ y ∧ y ≤ 31)
    (c0 : w.cell? ⟨b, off, none⟩ = some (.int .i64 x)) (c1 : w.cell? ⟨b, off + 1, none⟩ = some (.int .i64 y)) :
    Calls Tryz.prog 78 #[.int .i64 13, .int .i64 k, .int .i64 s, .slice (some ⟨b, off, none⟩) 2 cap] w fun e w' => e = .returned (.tuple #[.int .i64 (ex 13 k s x y 0).1, .int .i64 (ex 13 k s x y 0).2]) ∧ w' = w := by
  rw [show ex 13 k s x y 0 = (x * 2 ^ y.toNat, 0) by simp [ex, inB_t h0.1 h0.2]]
  have hP := pow_bd y.toNat 31 (by omega)
  have hM := mul_wd (b := 2 ^ y.toNat) hx (by omega)
  have PW := hide (fun w => rpower_any y w (by omega))
  go_enter Tryz.func78, Tryz.ntmps78
  go_wp2_with fail
  refine (PW.out _).mono ?_
  rintro e w' ⟨rfl, rfl⟩
  go_wp2_with fail
  go_ret2
  exact ⟨rfl, rfl⟩

set_option maxRecDepth 100000 in
set_option maxHeartbeats 1000000 in
theorem pl_14 (k s x y : Int) (b off cap : Nat) (w : World) (hcap : 2 ≤ cap) (hx : -2147483648 ≤ x ∧ x ≤ 2147483647) (hy : -2147483648 ≤ y ∧ y ≤ 2147483647) (h0 : 0 ≤ y ∧ y ≤ 31)
    (c0 : w.cell? ⟨b, off, none⟩ = some (.int .i64 x)) (c1 : w.cell? ⟨b, off + 1, none⟩ = some (.int .i64 y)) :
    Calls Tryz.prog 78 #[.int .i64 14, .int .i64 k, .int .i64 s, .slice (some ⟨b, off, none⟩) 2 cap] w fun e w' => e = .returned (.tuple #[.int .i64 (ex 14 k s x y 0).1, .int .i64 (ex 14 k s x y 0).2]) ∧ w' = w := by
  rw [show ex 14 k s x y 0 = (x / 2 ^ y.toNat, 0) by simp [ex, inB_t h0.1 h0.2]]
  have hP := pow_bd y.toNat 31 (by omega)
  have PW := hide (fun w => rpower_any y w (by omega))
  have FL := hide (fun w => rfloor_any x (2 ^ y.toNat) w (by omega) (by omega))
  go_enter Tryz.func78, Tryz.ntmps78
  go_wp2_with fail
  refine (PW.out _).mono ?_
  rintro e w' ⟨rfl, rfl⟩
  go_wp2_with fail
  refine (FL.out _).mono ?_
  rintro e w' ⟨rfl, rfl⟩
  go_wp2_with fail
  go_ret2
  exact ⟨rfl, rfl⟩

set_option maxRecDepth 100000 in
set_option maxHeartbeats 1000000 in
theorem pl_15 (k s x y : Int) (b off cap : Nat) (w : World) (hcap : 2 ≤ cap) (hx : -2147483648 ≤ x ∧ x ≤ 2147483647) (hy : -2147483648 ≤ y ∧ y ≤ 2147483647) 
    (c0 : w.cell? ⟨b, off, none⟩ = some (.int .i64 x)) (c1 : w.cell? ⟨b, off + 1, none⟩ = some (.int .i64 y)) :
    Calls Tryz.prog 78 #[.int .i64 15, .int .i64 k, .int .i64 s, .slice (some ⟨b, off, none⟩) 2 cap] w fun e w' => e = .returned (.tuple #[.int .i64 (ex 15 k s x y 0).1, .int .i64 (ex 15 k s x y 0).2]) ∧ w' = w := by
  have BW := hide (fun w => rbitwise_any .and 15 x y w rfl hx hy)
  go_enter Tryz.func78, Tryz.ntmps78
  go_wp2_with fail
  refine (BW.out _).mono ?_
  rintro e w' ⟨rfl, rfl⟩
  go_wp2_with fail
  go_ret2
  exact ⟨rfl, rfl⟩

set_option maxRecDepth 100000 in
set_option maxHeartbeats 1000000 in
theorem pl_16 (k s x y : Int) (b off cap : Nat) (w : World) (hcap : 2 ≤ cap) (hx : -2147483648 ≤ x ∧ x ≤ 2147483647) (hy : -2147483648 ≤ y ∧ y ≤ 2147483647) 
    (c0 : w.cell? ⟨b, off, none⟩ = some (.int .i64 x)) (c1 : w.cell? ⟨b, off + 1, none⟩ = some (.int .i64 y)) :
    Calls Tryz.prog 78 #[.int .i64 16, .int .i64 k, .int .i64 s, .slice (some ⟨b, off, none⟩) 2 cap] w fun e w' => e = .returned (.tuple #[.int .i64 (ex 16 k s x y 0).1, .int .i64 (ex 16 k s x y 0).2]) ∧ w' = w := by
  have BW := hide (fun w => rbitwise_any .or 16 x y w rfl hx hy)
  go_enter Tryz.func78, Tryz.ntmps78
  go_wp2_with fail
  refine (BW.out _).mono ?_
  rintro e w' ⟨rfl, rfl⟩
  go_wp2_with fail
  go_ret2
  exact ⟨rfl, rfl⟩

set_option maxRecDepth 100000 in
set_option maxHeartbeats 1000000 in
theorem pl_17 (k s x y : Int) (b off cap : Nat) (w : World) (hcap : 2 ≤ cap) (hx : -2147483648 ≤ x ∧ x ≤ 2147483647) (hy : -2147483648 ≤ y ∧ y ≤ 2147483647) 
    (c0 : w.cell? ⟨b, off, none⟩ = some (.int .i64 x)) (c1 : w.cell? ⟨b, off + 1, none⟩ = some (.int .i64 y)) :
    Calls Tryz.prog 78 #[.int .i64 17, .int .i64 k, .int .i64 s, .slice (some ⟨b, off, none⟩) 2 cap] w fun e w' => e = .returned (.tuple #[.int .i64 (ex 17 k s x y 0).1, .int .i64 (ex 17 k s x y 0).2]) ∧ w' = w := by
  have BW := hide (fun w => rbitwise_any .xor 17 x y w rfl hx hy)
  go_enter Tryz.func78, Tryz.ntmps78
  go_wp2_with fail
  refine (BW.out _).mono ?_
  rintro e w' ⟨rfl, rfl⟩
  go_wp2_with fail
  go_ret2
  exact ⟨rfl, rfl⟩

set_option maxRecDepth 100000 in
set_option maxHeartbeats 1000000 in
theorem pl_18 (k s x y : Int) (b off cap : Nat) (w : World) (hcap : 2 ≤ cap)  
    (c0 : w.cell? ⟨b, off, none⟩ = some (.int .i64 x)) (c1 : w.cell? ⟨b, off + 1, none⟩ = some (.int .i64 y)) :
    Calls Tryz.prog 78 #[.int .i64 18, .int .i64 k, .int .i64 s, .slice (some ⟨b, off, none⟩) 2 cap] w fun e w' => e = .returned (.tuple #[.int .i64 (ex 18 k s x y 0).1, .int .i64 (ex 18 k s x y 0).2]) ∧ w' = w := by
  have CH := hide (fun w => rchosen_any 18 k s x y 0 w rfl)
  go_enter Tryz.func78, Tryz.ntmps78
  go_wp2_with fail
  refine (CH.out _).mono ?_
  rintro e w' ⟨rfl, rfl⟩
  go_wp2_with fail
  go_ret2
  exact ⟨rfl, rfl⟩

set_option maxRecDepth 100000 in
set_option maxHeartbeats 1000000 in
theorem pl_19 (k s x y : Int) (b off cap : Nat) (w : World) (hcap : 2 ≤ cap)  
    (c0 : w.cell? ⟨b, off, none⟩ = some (.int .i64 x)) (c1 : w.cell? ⟨b, off + 1, none⟩ = some (.int .i64 y)) :
    Calls Tryz.prog 78 #[.int .i64 19, .int .i64 k, .int .i64 s, .slice (some ⟨b, off, none⟩) 2 cap] w fun e w' => e = .returned (.tuple #[.int .i64 (ex 19 k s x y 0).1, .int .i64 (ex 19 k s x y 0).2]) ∧ w' = w := by
  have CH := hide (fun w => rchosen_any 19 k s x y 0 w rfl)
  go_enter Tryz.func78, Tryz.ntmps78
  go_wp2_with fail
  refine (CH.out _).mono ?_
  rintro e w' ⟨rfl, rfl⟩
  go_wp2_with fail
  go_ret2
  exact ⟨rfl, rfl⟩

set_option maxRecDepth 100000 in
set_option maxHeartbeats 1000000 in
theorem pl_20 (k s x y : Int) (b off cap : Nat) (w : World) (hcap : 2 ≤ cap)  
    (c0 : w.cell? ⟨b, off, none⟩ = some (.int .i64 x)) (c1 : w.cell? ⟨b, off + 1, none⟩ = some (.int .i64 y)) :
    Calls Tryz.prog 78 #[.int .i64 20, .int .i64 k, .int .i64 s, .slice (some ⟨b, off, none⟩) 2 cap] w fun e w' => e = .returned (.tuple #[.int .i64 (ex 20 k s x y 0).1, .int .i64 (ex 20 k s x y 0).2]) ∧ w' = w := by
  have CH := hide (fun w => rchosen_any 20 k s x y 0 w rfl)
  go_enter Tryz.func78, Tryz.ntmps78
  go_wp2_with fail
  refine (CH.out _).mono ?_
  rintro e w' ⟨rfl, rfl⟩
  go_wp2_with fail
  go_ret2
  exact ⟨rfl, rfl⟩

set_option maxRecDepth 100000 in
set_option maxHeartbeats 1000000 in
theorem pl_21 (k s x y : Int) (b off cap : Nat) (w : World) (hcap : 2 ≤ cap)  
    (c0 : w.cell? ⟨b, off, none⟩ = some (.int .i64 x)) (c1 : w.cell? ⟨b, off + 1, none⟩ = some (.int .i64 y)) :
    Calls Tryz.prog 78 #[.int .i64 21, .int .i64 k, .int .i64 s, .slice (some ⟨b, off, none⟩) 2 cap] w fun e w' => e = .returned (.tuple #[.int .i64 (ex 21 k s x y 0).1, .int .i64 (ex 21 k s x y 0).2]) ∧ w' = w := by
  have CH := hide (fun w => rchosen_any 21 k s x y 0 w rfl)
  go_enter Tryz.func78, Tryz.ntmps78
  go_wp2_with fail
  refine (CH.out _).mono ?_
  rintro e w' ⟨rfl, rfl⟩
  go_wp2_with fail
  go_ret2
  exact ⟨rfl, rfl⟩

set_option maxRecDepth 100000 in
set_option maxHeartbeats 1000000 in
theorem pl_22 (k s x y : Int) (b off cap : Nat) (w : World) (hcap : 2 ≤ cap)  
    (c0 : w.cell? ⟨b, off, none⟩ = some (.int .i64 x)) (c1 : w.cell? ⟨b, off + 1, none⟩ = some (.int .i64 y)) :
    Calls Tryz.prog 78 #[.int .i64 22, .int .i64 k, .int .i64 s, .slice (some ⟨b, off, none⟩) 2 cap] w fun e w' => e = .returned (.tuple #[.int .i64 (ex 22 k s x y 0).1, .int .i64 (ex 22 k s x y 0).2]) ∧ w' = w := by
  have CH := hide (fun w => rchosen_any 22 k s x y 0 w rfl)
  go_enter Tryz.func78, Tryz.ntmps78
  go_wp2_with fail
  refine (CH.out _).mono ?_
  rintro e w' ⟨rfl, rfl⟩
  go_wp2_with fail
  go_ret2
  exact ⟨rfl, rfl⟩

set_option maxRecDepth 100000 in
set_option maxHeartbeats 1000000 in
theorem pl_23 (k s x y : Int) (b off cap : Nat) (w : World) (hcap : 2 ≤ cap)  
    (c0 : w.cell? ⟨b, off, none⟩ = some (.int .i64 x)) (c1 : w.cell? ⟨b, off + 1, none⟩ = some (.int .i64 y)) :
    Calls Tryz.prog 78 #[.int .i64 23, .int .i64 k, .int .i64 s, .slice (some ⟨b, off, none⟩) 2 cap] w fun e w' => e = .returned (.tuple #[.int .i64 (ex 23 k s x y 0).1, .int .i64 (ex 23 k s x y 0).2]) ∧ w' = w := by
  have CH := hide (fun w => rchosen_any 23 k s x y 0 w rfl)
  go_enter Tryz.func78, Tryz.ntmps78
  go_wp2_with fail
  refine (CH.out _).mono ?_
  rintro e w' ⟨rfl, rfl⟩
  go_wp2_with fail
  go_ret2
  exact ⟨rfl, rfl⟩

set_option maxRecDepth 100000 in
set_option maxHeartbeats 1000000 in
theorem pl_24 (k s x y : Int) (b off cap : Nat) (w : World) (hcap : 2 ≤ cap)  
    (c0 : w.cell? ⟨b, off, none⟩ = some (.int .i64 x)) (c1 : w.cell? ⟨b, off + 1, none⟩ = some (.int .i64 y)) :
    Calls Tryz.prog 78 #[.int .i64 24, .int .i64 k, .int .i64 s, .slice (some ⟨b, off, none⟩) 2 cap] w fun e w' => e = .returned (.tuple #[.int .i64 (ex 24 k s x y 0).1, .int .i64 (ex 24 k s x y 0).2]) ∧ w' = w := by
  have CH := hide (fun w => rchosen_any 24 k s x y 0 w rfl)
  go_enter Tryz.func78, Tryz.ntmps78
  go_wp2_with fail
  refine (CH.out _).mono ?_
  rintro e w' ⟨rfl, rfl⟩
  go_wp2_with fail
  go_ret2
  exact ⟨rfl, rfl⟩

set_option maxRecDepth 100000 in
set_option maxHeartbeats 1000000 in
theorem pl_25 (k s x y : Int) (b off cap : Nat) (w : World) (hcap : 2 ≤ cap)  
    (c0 : w.cell? ⟨b, off, none⟩ = some (.int .i64 x)) (c1 : w.cell? ⟨b, off + 1, none⟩ = some (.int .i64 y)) :
    Calls Tryz.prog 78 #[.int .i64 25, .int .i64 k, .int .i64 s, .slice (some ⟨b, off, none⟩) 2 cap] w fun e w' => e = .returned (.tuple #[.int .i64 (ex 25 k s x y 0).1, .int .i64 (ex 25 k s x y 0).2]) ∧ w' = w := by
  have CH := hide (fun w => rchosen_any 25 k s x y 0 w rfl)
  go_enter Tryz.func78, Tryz.ntmps78
  go_wp2_with fail
  refine (CH.out _).mono ?_
  rintro e w' ⟨rfl, rfl⟩
  go_wp2_with fail
  go_ret2
  exact ⟨rfl, rfl⟩

set_option maxRecDepth 100000 in
set_option maxHeartbeats 1000000 in
theorem pl_26 (k s x y z : Int) (b off cap : Nat) (w : World) (hcap : 3 ≤ cap)  
    (c0 : w.cell? ⟨b, off, none⟩ = some (.int .i64 x)) (c1 : w.cell? ⟨b, off + 1, none⟩ = some (.int .i64 y)) (c2 : w.cell? ⟨b, off + 2, none⟩ = some (.int .i64 z)) :
    Calls Tryz.prog 78 #[.int .i64 26, .int .i64 k, .int .i64 s, .slice (some ⟨b, off, none⟩) 3 cap] w fun e w' => e = .returned (.tuple #[.int .i64 (ex 26 k s x y z).1, .int .i64 (ex 26 k s x y z).2]) ∧ w' = w := by
  have CH := hide (fun w => rchosen_any 26 k s x y z w rfl)
  go_enter Tryz.func78, Tryz.ntmps78
  go_wp2_with fail
  refine (CH.out _).mono ?_
  rintro e w' ⟨rfl, rfl⟩
  go_wp2_with fail
  go_ret2
  exact ⟨rfl, rfl⟩

set_option maxRecDepth 100000 in
set_option maxHeartbeats 1000000 in
theorem pl_27 (k s x y z : Int) (b off cap : Nat) (w : World) (hcap : 3 ≤ cap)  
    (c0 : w.cell? ⟨b, off, none⟩ = some (.int .i64 x)) (c1 : w.cell? ⟨b, off + 1, none⟩ = some (.int .i64 y)) (c2 : w.cell? ⟨b, off + 2, none⟩ = some (.int .i64 z)) :
    Calls Tryz.prog 78 #[.int .i64 27, .int .i64 k, .int .i64 s, .slice (some ⟨b, off, none⟩) 3 cap] w fun e w' => e = .returned (.tuple #[.int .i64 (ex 27 k s x y z).1, .int .i64 (ex 27 k s x y z).2]) ∧ w' = w := by
  have CH := hide (fun w => rchosen_any 27 k s x y z w rfl)
  go_enter Tryz.func78, Tryz.ntmps78
  go_wp2_with fail
  refine (CH.out _).mono ?_
  rintro e w' ⟨rfl, rfl⟩
  go_wp2_with fail
  go_ret2
  exact ⟨rfl, rfl⟩

set_option maxRecDepth 100000 in
set_option maxHeartbeats 1000000 in
theorem pl_28 (k s x y z : Int) (b off cap : Nat) (w : World) (hcap : 3 ≤ cap)  
    (c0 : w.cell? ⟨b, off, none⟩ = some (.int .i64 x)) (c1 : w.cell? ⟨b, off + 1, none⟩ = some (.int .i64 y)) (c2 : w.cell? ⟨b, off + 2, none⟩ = some (.int .i64 z)) :
    Calls Tryz.prog 78 #[.int .i64 28, .int .i64 k, .int .i64 s, .slice (some ⟨b, off, none⟩) 3 cap] w fun e w' => e = .returned (.tuple #[.int .i64 (ex 28 k s x y z).1, .int .i64 (ex 28 k s x y z).2]) ∧ w' = w := by
  have CH := hide (fun w => rchosen_any 28 k s x y z w rfl)
  go_enter Tryz.func78, Tryz.ntmps78
  go_wp2_with fail
  refine (CH.out _).mono ?_
  rintro e w' ⟨rfl, rfl⟩
  go_wp2_with fail
  go_ret2
  exact ⟨rfl, rfl⟩

end Go.Proofs.YtbingoelpeoimaaGreat.Spn

/-
  The document's own Value: what it answers, for every operator, every constants and every list of numbers.
-/
namespace Go.Proofs.YtbingoelpeoimaaGreat.Spn
open Go.RowKit Go.IntWalk
set_option linter.unusedVariables false

theorem plain_1 (op k s x : Int) (b off cap : Nat) (w : World) (hcap : 1 ≤ cap) (ho : ar op = 1) (hk : cons op k s = true) (hx : -2147483648 ≤ x ∧ x ≤ 2147483647)
    (c0 : w.cell? ⟨b, off, none⟩ = some (.int .i64 x)) :
    Calls Tryz.prog 78 #[.int .i64 op, .int .i64 k, .int .i64 s, .slice (some ⟨b, off, none⟩) 1 cap] w fun e w' => e = .returned (.tuple #[.int .i64 (ex op k s x 0 0).1, .int .i64 (ex op k s x 0 0).2]) ∧ w' = w := by
  rcases one_cases ho with rfl | rfl | rfl | rfl | rfl | rfl | rfl | rfl
  · exact pl_5 k s x b off cap w hcap hx c0
  · exact pl_6 k s x b off cap w hcap hx c0
  · exact pl_7 k s x b off cap w hcap hx c0
  · exact pl_29 k s x b off cap w hcap hx (inB_iff.1 hk) c0
  · exact pl_30 k s x b off cap w hcap hx (inB_iff.1 hk) c0
  · exact pl_31 k s x b off cap w hcap hx (inB_iff.1 hk) c0
  · exact pl_32 k s x b off cap w hcap hx (wd_iff.1 hk) c0
  · have hk : (inB k 1 4611686018427387904 && inB s 0 62) = true := hk
    rw [Bool.and_eq_true, inB_iff, inB_iff] at hk
    by_cases h0 : x = 0
    · exact pl_33z k s x b off cap w hcap hx hk.1 hk.2 h0 c0
    · by_cases hb : 4611686018427387904 < max x (-x) * k
      · exact pl_33b k s x b off cap w hcap hx hk.1 hk.2 h0 hb c0
      · exact pl_33s k s x b off cap w hcap hx hk.1 hk.2 h0 hb c0

theorem plain_2 (op k s x y : Int) (b off cap : Nat) (w : World) (hcap : 2 ≤ cap) (ho : ar op = 2) (hx : -2147483648 ≤ x ∧ x ≤ 2147483647) (hy : -2147483648 ≤ y ∧ y ≤ 2147483647)
    (c0 : w.cell? ⟨b, off, none⟩ = some (.int .i64 x)) (c1 : w.cell? ⟨b, off + 1, none⟩ = some (.int .i64 y)) :
    Calls Tryz.prog 78 #[.int .i64 op, .int .i64 k, .int .i64 s, .slice (some ⟨b, off, none⟩) 2 cap] w fun e w' => e = .returned (.tuple #[.int .i64 (ex op k s x y 0).1, .int .i64 (ex op k s x y 0).2]) ∧ w' = w := by
  have h := inB_iff.1 (two_cases ho)
  clear ho
  rcases (show op = 8 ∨ op = 9 ∨ op = 10 ∨ op = 11 ∨ op = 12 ∨ op = 13 ∨ op = 14 ∨ op = 15 ∨ op = 16 ∨ op = 17 ∨ op = 18 ∨ op = 19 ∨ op = 20 ∨ op = 21 ∨ op = 22 ∨ op = 23 ∨ op = 24 ∨ op = 25 by omega) with
    rfl | rfl | rfl | rfl | rfl | rfl | rfl | rfl | rfl | rfl | rfl | rfl | rfl | rfl | rfl | rfl | rfl | rfl
  · exact pl_8 k s x y b off cap w hcap hx hy c0 c1
  · exact pl_9 k s x y b off cap w hcap hx hy c0 c1
  · exact pl_10 k s x y b off cap w hcap hx hy c0 c1
  · by_cases h0 : y = 0
    · exact pl_11z k s x y b off cap w hcap hx hy h0 c0 c1
    · exact pl_11 k s x y b off cap w hcap hx hy h0 c0 c1
  · by_cases h0 : y = 0
    · exact pl_12z k s x y b off cap w hcap hx hy h0 c0 c1
    · exact pl_12 k s x y b off cap w hcap hx hy h0 c0 c1
  · rcases (show y < 0 ∨ 31 < y ∨ (0 ≤ y ∧ y ≤ 31) by omega) with h0 | h0 | h0
    · exact pl_13lo k s x y b off cap w hcap hx hy h0 c0 c1
    · exact pl_13hi k s x y b off cap w hcap hx hy h0 c0 c1
    · exact pl_13 k s x y b off cap w hcap hx hy h0 c0 c1
  · rcases (show y < 0 ∨ 31 < y ∨ (0 ≤ y ∧ y ≤ 31) by omega) with h0 | h0 | h0
    · exact pl_14lo k s x y b off cap w hcap hx hy h0 c0 c1
    · exact pl_14hi k s x y b off cap w hcap hx hy h0 c0 c1
    · exact pl_14 k s x y b off cap w hcap hx hy h0 c0 c1
  · exact pl_15 k s x y b off cap w hcap hx hy c0 c1
  · exact pl_16 k s x y b off cap w hcap hx hy c0 c1
  · exact pl_17 k s x y b off cap w hcap hx hy c0 c1
  · exact pl_18 k s x y b off cap w hcap c0 c1
  · exact pl_19 k s x y b off cap w hcap c0 c1
  · exact pl_20 k s x y b off cap w hcap c0 c1
  · exact pl_21 k s x y b off cap w hcap c0 c1
  · exact pl_22 k s x y b off cap w hcap c0 c1
  · exact pl_23 k s x y b off cap w hcap c0 c1
  · exact pl_24 k s x y b off cap w hcap c0 c1
  · exact pl_25 k s x y b off cap w hcap c0 c1

theorem plain_3 (op k s x y z : Int) (b off cap : Nat) (w : World) (hcap : 3 ≤ cap) (ho : ar op = 3)
    (c0 : w.cell? ⟨b, off, none⟩ = some (.int .i64 x)) (c1 : w.cell? ⟨b, off + 1, none⟩ = some (.int .i64 y)) (c2 : w.cell? ⟨b, off + 2, none⟩ = some (.int .i64 z)) :
    Calls Tryz.prog 78 #[.int .i64 op, .int .i64 k, .int .i64 s, .slice (some ⟨b, off, none⟩) 3 cap] w fun e w' => e = .returned (.tuple #[.int .i64 (ex op k s x y z).1, .int .i64 (ex op k s x y z).2]) ∧ w' = w := by
  have h := inB_iff.1 (three_cases ho)
  clear ho
  rcases (show op = 26 ∨ op = 27 ∨ op = 28 by omega) with rfl | rfl | rfl
  · exact pl_26 k s x y z b off cap w hcap c0 c1 c2
  · exact pl_27 k s x y z b off cap w hcap c0 c1 c2
  · exact pl_28 k s x y z b off cap w hcap c0 c1 c2

theorem plain_any (op k s : Int) (a : Option Addr) (n cap : Nat) (xs : List Int) (w : World) (h : Ints w a n cap xs) (hm : mayB op k s xs = true) :
    Calls Tryz.prog 78 #[.int .i64 op, .int .i64 k, .int .i64 s, .slice a n cap] w fun e w' =>
      e = .returned (.tuple #[.int .i64 (ex op k s (xs.getD 0 0) (xs.getD 1 0) (xs.getD 2 0)).1, .int .i64 (ex op k s (xs.getD 0 0) (xs.getD 1 0) (xs.getD 2 0)).2]) ∧ w' = w := by
  simp only [mayB, Bool.and_eq_true, decide_eq_true_eq, List.all_eq_true] at hm
  obtain ⟨⟨⟨m1, m2⟩, m3⟩, m4⟩ := hm
  have hl := h.len
  have h3 := ar_le op
  have hle := h.le
  obtain ⟨b, off, rfl, -, hc⟩ := h.at (by omega)
  have hw : ∀ x ∈ xs, -2147483648 ≤ x ∧ x ≤ 2147483647 := fun x hx => wd_iff.1 (m4 x hx)
  match xs, hl, m2, hc, hw with
  | [x], hl, m2, hc, hw =>
    subst hl
    exact plain_1 op k s x b off cap w hle (by simpa using m2.symm) m3 (hw x (by simp)) (hc 0 (by simp))
  | [x, y], hl, m2, hc, hw =>
    subst hl
    exact plain_2 op k s x y b off cap w hle (by simpa using m2.symm) (hw x (by simp)) (hw y (by simp)) (hc 0 (by simp)) (hc 1 (by simp))
  | [x, y, z], hl, m2, hc, hw =>
    subst hl
    exact plain_3 op k s x y z b off cap w hle (by simpa using m2.symm) (hc 0 (by simp)) (hc 1 (by simp)) (hc 2 (by simp))
  | [], hl, m2, hc, hw => simp at m2; omega
  | _ :: _ :: _ :: _ :: _, hl, m2, hc, hw => simp at m2; omega

def fin (E : Int × Int) : Int × Int := if E.2 = 0 then (if wd E.1 = true then (E.1, 0) else (0, 13)) else (0, E.2)
theorem val_fin {op k s : Int} {xs : List Int} (h : mayB op k s xs = true) : valZ op k s xs = fin (ex op k s (xs.getD 0 0) (xs.getD 1 0) (xs.getD 2 0)) := by
  unfold valZ fin
  rw [if_pos h]

/-- The list is no operator's: refused ahead of its numbers. -/
theorem rvalue_head (op k s : Int) (a : Option Addr) (n cap : Nat) (xs : List Int) (w : World) (h : Ints w a n cap xs) (hm : ¬ (1 ≤ ar op ∧ (n : Int) = ar op ∧ cons op k s = true)) :
    Calls Tryz.prog 63 #[.int .i64 op, .int .i64 k, .int .i64 s, .slice a n cap] w fun e w' => e = .returned (.tuple #[.int .i64 0, .int .i64 1]) ∧ w' = w := by
  clear h
  by_cases h1 : ar op < 1
  · go_enter Tryz.func63, Tryz.ntmps63
    go_wp2_with fail
    refine (rarity_any _ _).mono ?_
    rintro e w' ⟨rfl, rfl⟩
    go_wp2_with fail
    go_ret2
    exact ⟨rfl, rfl⟩
  · by_cases h2 : (n : Int) = ar op
    · have h3 : cons op k s = false := by
        cases h : cons op k s
        · rfl
        · exact absurd ⟨by omega, h2, h⟩ hm
      have h2' : ((n : Int) != ar op) = false := by simp [h2]
      clear hm h2
      go_enter Tryz.func63, Tryz.ntmps63
      go_wp2_with fail
      refine (rarity_any _ _).mono ?_
      rintro e w' ⟨rfl, rfl⟩
      go_wp2_with fail
      refine (rarity_any _ _).mono ?_
      rintro e w' ⟨rfl, rfl⟩
      go_wp2_with fail
      refine (rconstants_any _ _ _ _).mono ?_
      rintro e w' ⟨rfl, rfl⟩
      go_wp2_with fail
      go_ret2
      exact ⟨rfl, rfl⟩
    · have h2' : ((n : Int) != ar op) = true := by simp [h2]
      clear hm h2
      go_enter Tryz.func63, Tryz.ntmps63
      go_wp2_with fail
      refine (rarity_any _ _).mono ?_
      rintro e w' ⟨rfl, rfl⟩
      go_wp2_with fail
      refine (rarity_any _ _).mono ?_
      rintro e w' ⟨rfl, rfl⟩
      go_wp2_with fail
      go_ret2
      exact ⟨rfl, rfl⟩

set_option maxRecDepth 100000 in
set_option maxHeartbeats 2000000 in
theorem rvalue_any (op k s : Int) (a : Option Addr) (n cap : Nat) (xs : List Int) (w : World) (h : Ints w a n cap xs) :
    Calls Tryz.prog 63 #[.int .i64 op, .int .i64 k, .int .i64 s, .slice a n cap] w fun e w' => e = .returned (.tuple #[.int .i64 (valZ op k s xs).1, .int .i64 (valZ op k s xs).2]) ∧ w' = w := by
  have hl := h.len
  by_cases hm : 1 ≤ ar op ∧ (n : Int) = ar op ∧ cons op k s = true
  · obtain ⟨m1, m2, m3⟩ := hm
    have hmb : mayB op k s xs = xs.all wd := by simp [mayB, m1, m3, hl, m2]
    have h2' : ((n : Int) != ar op) = false := by simp [m2]
    have h1 : ¬ ar op < 1 := by omega
    have hm1 : n ≤ 9223372036854775807 := by have := h.le; have := h.max; unfold maxLen at this; omega
    have H := hide h
    have HL := hide hl
    have HMB := hide hmb
    clear hl hmb h m1 m2
    go_enter Tryz.func63, Tryz.ntmps63
    go_wp2_with fail
    refine (rarity_any _ _).mono ?_
    rintro e w' ⟨rfl, rfl⟩
    go_wp2_with fail
    refine (rarity_any _ _).mono ?_
    rintro e w' ⟨rfl, rfl⟩
    go_wp2_with fail
    refine (rconstants_any _ _ _ _).mono ?_
    rintro e w' ⟨rfl, rfl⟩
    go_wp2_with fail
    go_loop [10] (fun i => ∃ j : Nat, j ≤ n ∧ i = .int .i64 j ∧ (xs.take j).all wd = true) (fun i => n - (intOf i).toNat)
    case atStart => exact ⟨0, Nat.zero_le _, rfl, rfl⟩
    case round =>
      obtain ⟨j, hj, rfl, hA⟩ := hrel
      have HA := hide hA
      clear hA
      by_cases hlt : j < n
      · obtain ⟨b1, o1, rfl, _, hc1⟩ := H.out.at (by omega)
        have g1 := hc1 j hlt
        clear hc1
        generalize ea : xs.getD j 0 = x at g1
        have EA := hide ea
        clear ea
        cases hx : wd x
        · have HV : Hid (valZ op k s xs = (0, 1)) := by
            unfold Hid valZ
            rw [if_neg]
            rw [HMB.out]
            simp only [Bool.not_eq_true, List.all_eq_false]
            refine ⟨x, ?_, by simp [hx]⟩
            have e1 := EA.out
            rw [← e1]
            simp [List.getD, HL.out, hlt]
          go_wp2_with fail
          refine (rword_any _ _).mono ?_
          rintro e w' ⟨rfl, rfl⟩
          go_wp2_with fail
          go_ret2
          exact ⟨ret_two (show (0 : Int) = (valZ op k s xs).1 by rw [HV.out]) (show (1 : Int) = (valZ op k s xs).2 by rw [HV.out]), rfl⟩
        · go_wp2_with fail
          refine (rword_any _ _).mono ?_
          rintro e w' ⟨rfl, rfl⟩
          go_wp2_with fail
          go_round
          case rel => exact ⟨j + 1, by omega, by go_num, all_take_succ (by rw [HL.out]; exact hlt) HA.out (by rw [EA.out]; exact hx)⟩
          case measure => simp [intOf]; omega
      · have hall : mayB op k s xs = true := by
          rw [HMB.out]
          have h3 := HA.out
          rw [List.take_of_length_le (by rw [HL.out]; omega)] at h3
          exact h3
        have PL := hide (plain_any op k s a n cap xs _ H.out hall)
        have HV := hide (val_fin hall)
        generalize ex op k s (xs.getD 0 0) (xs.getD 1 0) (xs.getD 2 0) = E at *
        obtain ⟨x, e⟩ := E
        clear hall
        by_cases he : e = 0
        · subst he
          cases hx : wd x
          · have HV2 : Hid (valZ op k s xs = (0, 13)) := hide (by rw [HV.out]; simp [fin, hx])
            go_wp2_with fail
            refine PL.out.mono ?_
            rintro e w' ⟨rfl, rfl⟩
            go_wp2_with fail
            refine (rword_any _ _).mono ?_
            rintro e w' ⟨rfl, rfl⟩
            go_wp2_with fail
            go_ret2
            exact ⟨ret_two (show (0 : Int) = (valZ op k s xs).1 by rw [HV2.out]) (show (13 : Int) = (valZ op k s xs).2 by rw [HV2.out]), rfl⟩
          · have HV2 : Hid (valZ op k s xs = (x, 0)) := hide (by rw [HV.out]; simp [fin, hx])
            go_wp2_with fail
            refine PL.out.mono ?_
            rintro e w' ⟨rfl, rfl⟩
            go_wp2_with fail
            refine (rword_any _ _).mono ?_
            rintro e w' ⟨rfl, rfl⟩
            go_wp2_with fail
            go_ret2
            exact ⟨ret_two (show (x : Int) = (valZ op k s xs).1 by rw [HV2.out]) (show (0 : Int) = (valZ op k s xs).2 by rw [HV2.out]), rfl⟩
        · have HV2 : Hid (valZ op k s xs = (0, e)) := hide (by rw [HV.out]; simp [fin, he])
          have he' : (e != 0) = true := by simp [he]
          clear he
          go_wp2_with fail
          refine PL.out.mono ?_
          rintro r w' ⟨rfl, rfl⟩
          go_wp2_with fail
          go_ret2
          exact ⟨ret_two (show (0 : Int) = (valZ op k s xs).1 by rw [HV2.out]) (show (e : Int) = (valZ op k s xs).2 by rw [HV2.out]), rfl⟩
  · have hv : valZ op k s xs = (0, 1) := by
      unfold valZ
      rw [if_neg]
      intro hb
      simp only [mayB, Bool.and_eq_true, decide_eq_true_eq] at hb
      exact hm ⟨hb.1.1.1, by rw [← hl]; exact hb.1.1.2, hb.1.2⟩
    rw [hv]
    exact rvalue_head op k s a n cap xs w h hm

end Go.Proofs.YtbingoelpeoimaaGreat.Spn

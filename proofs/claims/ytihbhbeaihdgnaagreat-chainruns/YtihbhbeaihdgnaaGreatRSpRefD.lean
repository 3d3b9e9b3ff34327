/-
  The document's own comparisons and choices.
-/
import Derived.Test.YtihbhbeaihdgnaaGreatRGN
namespace Go.Proofs.YtihbhbeaihdgnaaGreat.Spn
open Go.RowKit Go.IntWalk
set_option linter.unusedVariables false

theorem not_lt_le (a b : Int) : (!decide (b < a)) = decide (a ≤ b) := by
  by_cases h : a ≤ b <;> simp [h] <;> omega

theorem rchosen_cmp (op k s a b c : Int) (w : World) (ho : inB op 18 23 = true) :
    Calls Tryz.prog 174 #[.int .i64 op, .int .i64 a, .int .i64 b, .int .i64 c] w fun e w' => e = .returned (.int .i64 (ex op k s a b c).1) ∧ w' = w := by
  have h := inB_iff.1 ho
  clear ho
  rcases (show op = 18 ∨ op = 19 ∨ op = 20 ∨ op = 21 ∨ op = 22 ∨ op = 23 by omega) with rfl | rfl | rfl | rfl | rfl | rfl <;> clear h
  · go_enter Tryz.func174, Tryz.ntmps174
    go_wp2_with (go_at_call 171; refine (rtruth_any _ _).mono ?_; rintro e w' ⟨rfl, rfl⟩)
    go_ret
    exact ⟨rfl, rfl⟩
  · go_enter Tryz.func174, Tryz.ntmps174
    go_wp2_with (go_at_call 171; refine (rtruth_any _ _).mono ?_; rintro e w' ⟨rfl, rfl⟩)
    go_ret
    refine ⟨ret_int ?_, rfl⟩
    rw [not_lt_le]
    rfl
  · go_enter Tryz.func174, Tryz.ntmps174
    go_wp2_with (go_at_call 171; refine (rtruth_any _ _).mono ?_; rintro e w' ⟨rfl, rfl⟩)
    go_ret
    exact ⟨rfl, rfl⟩
  · go_enter Tryz.func174, Tryz.ntmps174
    go_wp2_with (go_at_call 171; refine (rtruth_any _ _).mono ?_; rintro e w' ⟨rfl, rfl⟩)
    go_ret
    refine ⟨ret_int ?_, rfl⟩
    rw [not_lt_le]
    rfl
  · go_enter Tryz.func174, Tryz.ntmps174
    go_wp2_with (go_at_call 171; refine (rtruth_any _ _).mono ?_; rintro e w' ⟨rfl, rfl⟩)
    go_ret
    exact ⟨rfl, rfl⟩
  · go_enter Tryz.func174, Tryz.ntmps174
    go_wp2_with (go_at_call 171; refine (rtruth_any _ _).mono ?_; rintro e w' ⟨rfl, rfl⟩)
    go_ret
    exact ⟨rfl, rfl⟩

theorem rchosen_min (k s a b c : Int) (w : World) :
    Calls Tryz.prog 174 #[.int .i64 24, .int .i64 a, .int .i64 b, .int .i64 c] w fun e w' => e = .returned (.int .i64 (ex 24 k s a b c).1) ∧ w' = w := by
  rw [show ex 24 k s a b c = (min a b, 0) from rfl]
  go_enter Tryz.func174, Tryz.ntmps174
  go_wp2_with fail
  all_goals go_ret
  all_goals exact ⟨ret_int (by omega), rfl⟩
theorem rchosen_max (k s a b c : Int) (w : World) :
    Calls Tryz.prog 174 #[.int .i64 25, .int .i64 a, .int .i64 b, .int .i64 c] w fun e w' => e = .returned (.int .i64 (ex 25 k s a b c).1) ∧ w' = w := by
  rw [show ex 25 k s a b c = (max a b, 0) from rfl]
  go_enter Tryz.func174, Tryz.ntmps174
  go_wp2_with fail
  all_goals go_ret
  all_goals exact ⟨ret_int (by omega), rfl⟩
theorem rchosen_clamp (k s a b c : Int) (w : World) :
    Calls Tryz.prog 174 #[.int .i64 26, .int .i64 a, .int .i64 b, .int .i64 c] w fun e w' => e = .returned (.int .i64 (ex 26 k s a b c).1) ∧ w' = w := by
  rw [show ex 26 k s a b c = (min c (max a b), 0) from rfl]
  go_enter Tryz.func174, Tryz.ntmps174
  go_wp2_with fail
  all_goals go_ret
  all_goals exact ⟨ret_int (by omega), rfl⟩
theorem rchosen_sel (k s a b c : Int) (w : World) :
    Calls Tryz.prog 174 #[.int .i64 28, .int .i64 a, .int .i64 b, .int .i64 c] w fun e w' => e = .returned (.int .i64 (ex 28 k s a b c).1) ∧ w' = w := by
  by_cases h0 : a = 0
  · subst h0
    go_enter Tryz.func174, Tryz.ntmps174
    go_wp2_with fail
    go_ret
    exact ⟨rfl, rfl⟩
  · have h1 : (a == 0) = false := by simp [h0]
    rw [show ex 28 k s a b c = (b, 0) by simp [ex, h0]]
    go_enter Tryz.func174, Tryz.ntmps174
    go_wp2_with fail
    go_ret
    exact ⟨rfl, rfl⟩

theorem rchosen_med (k s a b c : Int) (w : World) :
    Calls Tryz.prog 174 #[.int .i64 27, .int .i64 a, .int .i64 b, .int .i64 c] w fun e w' => e = .returned (.int .i64 (ex 27 k s a b c).1) ∧ w' = w := by
  rw [show ex 27 k s a b c = (max (min a b) (min (max a b) c), 0) from rfl]
  rcases (show (b ≤ a ∧ a ≤ c) ∨ (¬ b ≤ a ∧ c ≤ a) ∨ (b ≤ a ∧ ¬ a ≤ c ∧ c ≤ a ∧ a ≤ b) ∨ (b ≤ a ∧ ¬ a ≤ c ∧ ¬ a ≤ b ∧ c ≤ b) ∨ (b ≤ a ∧ ¬ a ≤ c ∧ ¬ a ≤ b ∧ ¬ c ≤ b) ∨ (¬ b ≤ a ∧ ¬ c ≤ a ∧ b ≤ c) ∨ (¬ b ≤ a ∧ ¬ c ≤ a ∧ ¬ b ≤ c) by omega) with h | h | h | h | h | h | h <;>
  · go_enter Tryz.func174, Tryz.ntmps174
    go_wp2_with fail
    all_goals go_ret
    all_goals exact ⟨ret_int (by omega), rfl⟩

theorem rchosen_any (op k s a b c : Int) (w : World) (ho : inB op 18 28 = true) :
    Calls Tryz.prog 174 #[.int .i64 op, .int .i64 a, .int .i64 b, .int .i64 c] w fun e w' => e = .returned (.int .i64 (ex op k s a b c).1) ∧ w' = w := by
  have h := inB_iff.1 ho
  rcases (show op ≤ 23 ∨ op = 24 ∨ op = 25 ∨ op = 26 ∨ op = 27 ∨ op = 28 by omega) with h | rfl | rfl | rfl | rfl | rfl
  · exact rchosen_cmp op k s a b c w (inB_t (by omega) (by omega))
  · exact rchosen_min k s a b c w
  · exact rchosen_max k s a b c w
  · exact rchosen_clamp k s a b c w
  · exact rchosen_med k s a b c w
  · exact rchosen_sel k s a b c w

theorem ex_chosen (op k s a b c : Int) (ho : inB op 18 28 = true) : (ex op k s a b c).2 = 0 := by
  have h := inB_iff.1 ho
  rcases (show op = 18 ∨ op = 19 ∨ op = 20 ∨ op = 21 ∨ op = 22 ∨ op = 23 ∨ op = 24 ∨ op = 25 ∨ op = 26 ∨ op = 27 ∨ op = 28 by omega) with rfl | rfl | rfl | rfl | rfl | rfl | rfl | rfl | rfl | rfl | rfl <;> rfl

end Go.Proofs.YtihbhbeaihdgnaaGreat.Spn

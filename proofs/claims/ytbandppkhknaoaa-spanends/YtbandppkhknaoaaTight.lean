/-
  The walk of tight; a number's digits.
-/
import Derived.Test.YtbandppkhknaoaaEndP
import Derived.Test.YtbandppkhknaoaaEs
namespace Go.Proofs.Ytbandppkhknaoaa
open Go.RowKit Go.IntWalk Go.Sort
set_option linter.unusedVariables false

theorem tight_t (op : Int) (w : World) (h : tightB op) : Calls Try.prog 19 #[.int .i64 op] w fun e w' => e = .returned (.bool true) ∧ w' = w := by
  unfold tightB at h
  rcases (show op = 5 ∨ op = 7 ∨ op = 8 ∨ op = 9 ∨ op = 10 ∨ op = 11 ∨ op = 13 ∨ op = 14 ∨ op = 24 ∨ op = 25 ∨ op = 26 ∨ op = 27 ∨ op = 29 ∨ op = 30 ∨ op = 32 ∨ op = 33 by omega) with
    rfl | rfl | rfl | rfl | rfl | rfl | rfl | rfl | rfl | rfl | rfl | rfl | rfl | rfl | rfl | rfl <;>
  · clear h
    go_enter Try.func19, Try.ntmps19
    go_wp2
    go_ret
    exact ⟨rfl, rfl⟩

theorem tight_f (op : Int) (w : World) (h : ¬ tightB op) : Calls Try.prog 19 #[.int .i64 op] w fun e w' => e = .returned (.bool false) ∧ w' = w := by
  unfold tightB at h
  have e1 : (op == 5) = false := by simp; omega
  have e2 : (op == 7) = false := by simp; omega
  have e3 : (op == 13) = false := by simp; omega
  have e4 : (op == 14) = false := by simp; omega
  have e5 : (op == 29) = false := by simp; omega
  have e6 : (op == 30) = false := by simp; omega
  have e7 : (op == 32) = false := by simp; omega
  have e8 : (op == 33) = false := by simp; omega
  rcases (show op < 8 ∨ (11 < op ∧ op < 24) ∨ 27 < op by omega) with g | g | g
  · have d1 : decide (8 ≤ op) = false := by simp; omega
    have d2 : decide (24 ≤ op) = false := by simp; omega
    clear h g
    go_enter Try.func19, Try.ntmps19
    go_wp2
    go_ret
    exact ⟨rfl, rfl⟩
  · have d1 : decide (8 ≤ op) = true := by simp; omega
    have d2 : decide (op ≤ 11) = false := by simp; omega
    have d3 : decide (24 ≤ op) = false := by simp; omega
    clear h g
    go_enter Try.func19, Try.ntmps19
    go_wp2
    go_ret
    exact ⟨rfl, rfl⟩
  · have d1 : decide (8 ≤ op) = true := by simp; omega
    have d2 : decide (op ≤ 11) = false := by simp; omega
    have d3 : decide (24 ≤ op) = true := by simp; omega
    have d4 : decide (op ≤ 27) = false := by simp; omega
    clear h g
    go_enter Try.func19, Try.ntmps19
    go_wp2
    go_ret
    exact ⟨rfl, rfl⟩

theorem and_one {a : Int} (ha : -2147483648 ≤ a ∧ a ≤ 2147483647) : bits BinOp.and IntKind.i64 a 1 = a % 2 := by
  show bw .and a 1 = a % 2
  rw [bw_step .and a 1 (by omega) (by omega)]
  have h := bw_below (a := a / 2) (b := 0) (by omega) (by omega)
  simp only [Bop.dig]
  rw [show (1 : Int) / 2 = 0 by decide, show (1 : Int) % 2 = 1 by decide]
  omega

end Go.Proofs.Ytbandppkhknaoaa

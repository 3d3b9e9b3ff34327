/-
  The walks of the document's own small functions: they answer what the program's do.
-/
import Derived.Test.YtphmamhchkolkaaMKnA
namespace Go.Proofs.Ytphmamhchkolkaa.Knd
open Go.RowKit
set_option linter.unusedVariables false

set_option maxRecDepth 100000 in
set_option maxHeartbeats 1000000 in
theorem rmay_ok (f d : Int) (w : World) (h : May f d) :
    Calls Try.prog 50 #[.agg #[.int .i64 f, .int .i64 d]] w fun e w' => e = .returned (.bool true) ∧ Below w.heap.size w w' := by
  have hb := bel1 w (.cells #[.int .i64 f, .int .i64 d] 23)
  obtain ⟨hf, h1, h2⟩ := h
  rcases hf with rfl | rfl
  · go_enter Try.func50, Try.ntmps50
    go_wp2
    go_ret
    exact ⟨rfl, hb⟩
  · go_enter Try.func50, Try.ntmps50
    go_wp2
    go_ret
    exact ⟨rfl, hb⟩

set_option maxRecDepth 100000 in
set_option maxHeartbeats 1000000 in
theorem rmay_bad (f d : Int) (w : World) (h : ¬ May f d) :
    Calls Try.prog 50 #[.agg #[.int .i64 f, .int .i64 d]] w fun e w' => e = .returned (.bool false) ∧ Below w.heap.size w w' := by
  have hb := bel1 w (.cells #[.int .i64 f, .int .i64 d] 23)
  by_cases h1 : f = 0
  · subst h1
    by_cases h2 : d < 1
    · have h3 : decide (1 ≤ d) = false := by simp; omega
      go_enter Try.func50, Try.ntmps50
      go_wp2
      go_ret
      exact ⟨rfl, hb⟩
    · have h3 : 1 ≤ d := by omega
      have h4 : decide (d ≤ 16) = false := by unfold May at h; simp; omega
      go_enter Try.func50, Try.ntmps50
      go_wp2
      go_ret
      exact ⟨rfl, hb⟩
  · have h5 : (f == 0) = false := by simp [h1]
    by_cases h4 : f = 1
    · subst h4
      by_cases h2 : d < 1
      · have h3 : decide (1 ≤ d) = false := by simp; omega
        go_enter Try.func50, Try.ntmps50
        go_wp2
        go_ret
        exact ⟨rfl, hb⟩
      · have h3 : 1 ≤ d := by omega
        have h4 : decide (d ≤ 16) = false := by unfold May at h; simp; omega
        go_enter Try.func50, Try.ntmps50
        go_wp2
        go_ret
        exact ⟨rfl, hb⟩
    · have h6 : (f == 1) = false := by simp [h4]
      go_enter Try.func50, Try.ntmps50
      go_wp2
      go_ret
      exact ⟨rfl, hb⟩

end Go.Proofs.Ytphmamhchkolkaa.Knd

/-
  The walks of the document's own small functions: they answer what the program's do.
-/
import Derived.Test.YtlpebmngjagbaaaMKnA
namespace Go.Proofs.Ytlpebmngjagbaaa.Knd
open Go.RowKit
set_option linter.unusedVariables false

set_option maxRecDepth 100000 in
set_option maxHeartbeats 1000000 in
theorem rmay_ok (f d : Int) (w : World) (h : May f d) :
    Calls Try.prog 36 #[.agg #[.int .i64 f, .int .i64 d]] w fun e w' => e = .returned (.bool true) ∧ Below w.heap.size w w' := by
  have hb := bel1 w (.cells #[.int .i64 f, .int .i64 d] 33)
  obtain ⟨hf, h1, h2⟩ := h
  rcases hf with rfl | rfl
  · go_enter Try.func36, Try.ntmps36
    go_wp2
    go_ret
    exact ⟨rfl, hb⟩
  · go_enter Try.func36, Try.ntmps36
    go_wp2
    go_ret
    exact ⟨rfl, hb⟩

set_option maxRecDepth 100000 in
set_option maxHeartbeats 1000000 in
theorem rmay_bad (f d : Int) (w : World) (h : ¬ May f d) :
    Calls Try.prog 36 #[.agg #[.int .i64 f, .int .i64 d]] w fun e w' => e = .returned (.bool false) ∧ Below w.heap.size w w' := by
  have hb := bel1 w (.cells #[.int .i64 f, .int .i64 d] 33)
  by_cases h1 : f = 0
  · subst h1
    by_cases h2 : d < 1
    · have h3 : decide (1 ≤ d) = false := by simp; omega
      go_enter Try.func36, Try.ntmps36
      go_wp2
      go_ret
      exact ⟨rfl, hb⟩
    · have h3 : 1 ≤ d := by omega
      have h4 : decide (d ≤ 16) = false := by unfold May at h; simp; omega
      go_enter Try.func36, Try.ntmps36
      go_wp2
      go_ret
      exact ⟨rfl, hb⟩
  · have h5 : (f == 0) = false := by simp [h1]
    by_cases h4 : f = 1
    · subst h4
      by_cases h2 : d < 1
      · have h3 : decide (1 ≤ d) = false := by simp; omega
        go_enter Try.func36, Try.ntmps36
        go_wp2
        go_ret
        exact ⟨rfl, hb⟩
      · have h3 : 1 ≤ d := by omega
        have h4 : decide (d ≤ 16) = false := by unfold May at h; simp; omega
        go_enter Try.func36, Try.ntmps36
        go_wp2
        go_ret
        exact ⟨rfl, hb⟩
    · have h6 : (f == 1) = false := by simp [h4]
      go_enter Try.func36, Try.ntmps36
      go_wp2
      go_ret
      exact ⟨rfl, hb⟩

set_option maxRecDepth 100000 in
set_option maxHeartbeats 1000000 in
theorem rcount_any (f d : Int) (w : World) :
    Calls Try.prog 19 #[.agg #[.int .i64 f, .int .i64 d]] w fun e w' => e = .returned (.int .i64 (countZ f d)) ∧ Below w.heap.size w w' := by
  rcases kind3 f d with ⟨hm, rfl⟩ | ⟨hm, rfl⟩ | hm
  · rw [(zs0 hm).2.2.2]
    have hb := bel1 w (.cells #[.int .i64 0, .int .i64 d] 33)
    obtain ⟨hd1, hd2⟩ : 1 ≤ d ∧ d ≤ 16 := hm.2
    go_enter Try.func19, Try.ntmps19
    go_wp2_with (go_at_call 36; refine (rmay_ok _ _ _ hm).mono ?_; rintro e w2 ⟨rfl, hb2⟩; obtain ⟨hc2, hf2⟩ := bcell hb2)
    go_ret
    exact ⟨rfl, bel hb hb2⟩
  · rw [(zs1 hm).2.2.2]
    have hb := bel1 w (.cells #[.int .i64 1, .int .i64 d] 33)
    obtain ⟨hd1, hd2⟩ : 1 ≤ d ∧ d ≤ 16 := hm.2
    go_enter Try.func19, Try.ntmps19
    go_wp2_with (go_at_call 36; refine (rmay_ok _ _ _ hm).mono ?_; rintro e w2 ⟨rfl, hb2⟩; obtain ⟨hc2, hf2⟩ := bcell hb2)
    go_ret
    exact ⟨rfl, bel hb hb2⟩
  · rw [(zs2 hm).2.2.2]
    have hb := bel1 w (.cells #[.int .i64 f, .int .i64 d] 33)
    go_enter Try.func19, Try.ntmps19
    go_wp2_with (go_at_call 36; refine (rmay_bad _ _ _ hm).mono ?_; rintro e w2 ⟨rfl, hb2⟩; obtain ⟨hc2, hf2⟩ := bcell hb2)
    go_ret
    exact ⟨rfl, bel hb hb2⟩

end Go.Proofs.Ytlpebmngjagbaaa.Knd

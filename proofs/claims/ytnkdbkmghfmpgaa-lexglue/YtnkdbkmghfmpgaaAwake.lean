/-
  The walk of awake; two lists of tokens compared.
-/
import Derived.Test.YtnkdbkmghfmpgaaTokens
namespace Go.Proofs.Ytnkdbkmghfmpgaa
open Go.RowKit Go.IntWalk Lx
set_option linter.unusedVariables false

theorem awake_val : tks [97, 32, 60, 61, 32, 49, 50] = some [⟨2, [97], 0⟩, ⟨3, [60, 61], 2⟩, ⟨1, [49, 50], 5⟩] := by
  have e1 : sz [97, 32, 60, 61, 32, 49, 50] = 1 := by decide
  have k1 : kd [97, 32, 60, 61, 32, 49, 50] = 2 := by decide
  have e2 : sz [60, 61, 32, 49, 50] = 2 := by decide
  have k2 : kd [60, 61, 32, 49, 50] = 3 := by decide
  have e3 : sz [49, 50] = 2 := by decide
  have k3 : kd [49, 50] = 1 := by decide
  unfold tks
  rw [if_neg (by decide), sc_tok (by decide) (by decide) (by decide), e1, k1]
  simp only [List.drop_succ_cons, List.drop_zero, List.take_succ_cons, List.take_zero]
  rw [sc_blank (by decide), sc_tok (by decide) (by decide) (by decide), e2, k2]
  simp only [List.drop_succ_cons, List.drop_zero, List.take_succ_cons, List.take_zero]
  rw [sc_blank (by decide), sc_tok (by decide) (by decide) (by decide), e3, k3]
  simp only [List.drop_succ_cons, List.drop_zero, List.take_succ_cons, List.take_zero]
  rw [sc_nil]
  rfl

set_option maxHeartbeats 1000000 in
theorem awake_any (w : World) : Calls Try.prog 10 #[] w fun e w' => e = .returned (.bool true) ∧ Below w.heap.size w w' := by
  go_enter Try.func10, Try.ntmps10
  go_wp2_with fail
  refine (tokens_any _ _).mono ?_
  rintro e w1 (⟨hn, -, -⟩ | ⟨T, v, hT, rfl, ho, hb⟩)
  · rw [show bs _ = _ from rfl, awake_val] at hn
    cases hn
  · rw [show bs _ = _ from rfl, awake_val] at hT
    cases hT
    obtain ⟨a, cap, rfl, hT, -⟩ := Toks.of_owns ho
    have HB := hide hb
    clear hb ho
    rcases hT.cell with h | ⟨b, off, rfl, hc⟩
    · cases h
    · obtain ⟨c1, c2, c3⟩ := hc 1 (by decide)
      obtain ⟨d1, d2, d3⟩ := hc 2 (by decide)
      simp at c1 c2 c3 d1 d2 d3
      clear hc hT
      go_wp2_with fail
      go_ret
      exact ⟨rfl, HB.out⟩

end Go.Proofs.Ytnkdbkmghfmpgaa

/-
  An instruction as an argument.
-/
import Derived.Test.YtncdekefhonljaaMCdOpenC
namespace Go.Proofs.Shr
open Go.RowKit Go.IntWalk Ytncdekefhonljaa.Knd
open Cde (In i0 ia i6)
set_option linter.unusedVariables false

set_option maxRecDepth 100000 in
/-- An instruction that came in. -/
theorem open_inst {H : Type} {enc : TypeId × Value → H} {W : World} {r : Reach} {b0 : Nat} {v : Value} {d : DataW H} {ps : List MemPlace}
    (hval : Value.okWide Try.prog W r b0 23 v) (h : DataW.Trod enc Try.prog W 0 (fun _ => true) true 23 v d ps) : ∃ n : In, v = .agg (ia n) := by
  unfold Value.okWide at hval
  rw [Try.underlying23] at hval
  obtain ⟨cs, rfl, hsz, _⟩ := hval
  obtain ⟨fuel, hf⟩ := h
  obtain ⟨n, hn⟩ := Cde.open_in hf
  refine ⟨n, ?_⟩
  simp only [Value.cells] at hn
  have : cs = (i6 n).toArray := by rw [← hn]
  rw [this]; rfl

end Go.Proofs.Shr

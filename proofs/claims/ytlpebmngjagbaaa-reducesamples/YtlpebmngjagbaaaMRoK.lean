/-
  A kind as an argument.
-/
import Derived.Test.YtlpebmngjagbaaaMCdOpenC
namespace Go.Proofs.Rdc
open Go.RowKit Go.IntWalk Ytlpebmngjagbaaa.Knd
set_option linter.unusedVariables false

set_option maxRecDepth 100000 in
/-- A kind that came in. -/
theorem open_kind {H : Type} {enc : TypeId × Value → H} {W : World} {r : Reach} {b0 : Nat} {v : Value} {d : DataW H} {ps : List MemPlace}
    (hval : Value.okWide Try.prog W r b0 33 v) (h : DataW.Trod enc Try.prog W 0 (fun _ => true) true 33 v d ps) : ∃ p q, v = .agg #[.int .i64 p, .int .i64 q] := by
  unfold Value.okWide at hval
  rw [Try.underlying33] at hval
  obtain ⟨cs, rfl, hsz, _⟩ := hval
  obtain ⟨fuel, hf⟩ := h
  obtain ⟨p, q, hn⟩ := Cde.open_kd hf
  refine ⟨p, q, ?_⟩
  simp only [Value.cells] at hn
  have : cs = [Value.int .i64 p, Value.int .i64 q].toArray := by rw [← hn]
  rw [this]

end Go.Proofs.Rdc

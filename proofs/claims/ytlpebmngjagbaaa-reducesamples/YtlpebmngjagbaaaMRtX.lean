/-
  ReduceSamples' walk, whatever the kind and the divisor.
-/
import Derived.Test.YtlpebmngjagbaaaMRtW
namespace Go.Proofs.Rdc
open Go.RowKit Go.IntWalk Ytlpebmngjagbaaa.Knd
set_option linter.unusedVariables false

theorem rsam_walk (f dd d x : Int) {W : World} (hd : 0 ≤ d ∧ d ≤ 65535) :
    Calls Try.prog 7 #[.agg #[.int .i64 f, .int .i64 dd], .int .u16 d, .int .i64 x] W fun e w' => e = .returned (.bool true) ∧ Below W.heap.size W w' := by
  by_cases hm : May f dd
  · by_cases h2 : d < 2
    · exact rsam_no f dd d x (.inr h2) hd
    · by_cases h : Vfy.vfE f dd (smC d) 6 = 0
      · exact rsam_ok f dd d x hm ⟨by omega, hd.2⟩ h
      · exact rsam_bad f dd d x hm ⟨by omega, hd.2⟩ h
  · exact rsam_no f dd d x (.inl hm) hd

end Go.Proofs.Rdc

/-
  The walk of awake.
-/
import Derived.Test.YtbandppkhknaoaaOfS
namespace Go.Proofs.Ytbandppkhknaoaa
open Go.RowKit Go.IntWalk Go.Sort
set_option linter.unusedVariables false

theorem awake_val : ofZ 9 0 0 [(0, 255), (0, 255)] = ((-255, 255), 0) := by decide

theorem awake_any (w : World) : Calls Try.prog 11 #[] w fun e w' => e = .returned (.bool true) ∧ Below w.heap.size w w' := by
  have HB := hide (bel1 w (.cells #[.int .i64 0, .int .i64 255, .int .i64 0, .int .i64 255] 26))
  have h2 := hide (of_any 9 0 0 _ _ _ _ _ (slit2 w 0 255 0 255))
  rw [awake_val] at h2
  go_enter Try.func11, Try.ntmps11
  go_wp2_with fail
  refine h2.out.mono ?_
  rintro e w2 ⟨rfl, hb⟩
  have HB2 := hide (bel (bel HB.out hb) (bel1 _ (cs (-255) 255)))
  clear hb
  go_wp2_with fail
  go_ret
  exact ⟨rfl, HB2.out⟩

end Go.Proofs.Ytbandppkhknaoaa

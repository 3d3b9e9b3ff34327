/-
  The walk of LexWords.
-/
import Derived.Test.YtnkdbkmghfmpgaaAwake
namespace Go.Proofs.Ytnkdbkmghfmpgaa
open Go.RowKit Go.IntWalk Lx
set_option linter.unusedVariables false

set_option maxHeartbeats 1000000 in
theorem words_walk (s : ByteArray) (w : World) (hs : s.size ≤ maxLen) :
    Calls Try.prog 4 #[.string s] w fun e w' => e = .returned (.bool true) ∧ Below w.heap.size w w' := by
  have h1 := hide fun w => number_any s w hs
  have h2 := hide fun w => rnumber_any s w hs
  have h3 := hide fun w => word_any s w hs
  have h4 := hide fun w => rword_any s w hs
  generalize nv (bs s) = n at h1 h2
  generalize num (bs s) = b at h1 h2
  generalize wrd (bs s) = c at h3 h4
  clear hs
  go_enter Try.func4, Try.ntmps4
  go_wp2_with fail
  refine (h1.out _).mono ?_
  rintro e w1 ⟨rfl, rfl⟩
  go_wp2_with fail
  refine (h2.out _).mono ?_
  rintro e w1 ⟨rfl, rfl⟩
  go_wp2_with fail
  refine (awake_any _).mono ?_
  rintro e w1 ⟨rfl, hb⟩
  have HB := hide hb
  clear hb
  go_wp2_with fail
  refine (h3.out _).mono ?_
  rintro e w1 ⟨rfl, rfl⟩
  go_wp2_with fail
  refine (h4.out _).mono ?_
  rintro e w1 ⟨rfl, rfl⟩
  go_wp2_with fail
  go_ret
  exact ⟨ret_bool (by simp), HB.out⟩

end Go.Proofs.Ytnkdbkmghfmpgaa

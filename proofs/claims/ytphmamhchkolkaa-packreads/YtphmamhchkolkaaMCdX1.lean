/-
  The document's Args.
-/
import Derived.Test.YtphmamhchkolkaaMCdC
namespace Go.Proofs.Cde
open Ytphmamhchkolkaa (Wd wdA Fits inpV fitE_cases)
open Go.RowKit Go.IntWalk Ytphmamhchkolkaa.Knd
set_option linter.unusedVariables false

set_option maxRecDepth 100000 in
set_option maxHeartbeats 4000000 in
theorem xargs_any (n : In) (W : World) :
    Calls Try.prog 29 #[.agg (ia n)] W fun e W' => ∃ g, e = .returned (.slice (some ⟨g, 0, none⟩) (arN n) 3) ∧ W.heap.size ≤ g ∧ HasC W' g 3 (zA (abc n)) ∧ Below W.heap.size W W' := by
  have HA := hide fun W => Ytphmamhchkolkaa.Spn.rarity_any n.op W
  have HB := hide (bel (bel1 W (.cells (ia n) 51)) (bel1 (W.alloc (.cells (ia n) 51)) (.cells (zA (abc n)) 3)))
  have HG := hide (has_new1 W (.cells (ia n) 51) 3 (zA (abc n)))
  rcases ar_five n.op with h | h | h | h | h
  all_goals
    first
      | rw [show arN n = 0 by unfold arN; rw [h]; rfl]
      | rw [show arN n = 1 by unfold arN; rw [h]; rfl]
      | rw [show arN n = 2 by unfold arN; rw [h]; rfl]
      | rw [show arN n = 3 by unfold arN; rw [h]; rfl]
    rw [h] at HA
    clear h
    go_enter Try.func29, Try.ntmps29
    go_wp2_with (go_at_call 38; refine (HA.out _).mono ?_; rintro e w2 ⟨rfl, rfl⟩)
    go_ret
    exact ⟨_, rfl, Nat.le_succ _, HG.out, HB.out⟩

end Go.Proofs.Cde

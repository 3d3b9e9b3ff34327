/-
  The walk of KindBounds.
-/
import Derived.Test.YtinlknflkgijmaaAwake
import Derived.Test.YtinlknflkgijmaaRef
import Derived.Lib.QuietBelow
import Derived.BigQuiet
namespace Go.Proofs.Ytinlknflkgijmaa
open Go.RowKit Go.Sort
set_option linter.unusedVariables false

theorem mixed : Try.prog.follows .mixedOrders = true := by kernel_rfl

set_option maxRecDepth 100000 in
set_option maxHeartbeats 4000000 in
theorem bounds_ok (f d : Int) (hm : May f d) (w : World) :
    Calls Try.prog 3 #[.agg #[.int .i64 f, .int .i64 d]] w fun e w' => e = .returned (.bool true) ∧ Below w.heap.size w w' := by
  have hb := bel1 w (.cells #[.int .i64 f, .int .i64 d] 23)
  go_enter Try.func3, Try.ntmps3
  go_wp2_with (go_at_call 9; refine (check_ok _ _ _ hm).mono ?_; rintro e w2 ⟨rfl, hb2⟩; obtain ⟨hc2, hf2⟩ := bcell hb2)
  have HB := hide (bel hb hb2)
  have c0 : w2.cell? ⟨w.heap.size, 0, none⟩ = some (.int .i64 f) := by rw [hc2 _ _ (by simp)]; simp
  have c1 : w2.cell? ⟨w.heap.size, 1, none⟩ = some (.int .i64 d) := by rw [hc2 _ _ (by simp)]; simp
  clear hb hb2 hc2 hf2
  have k0 := cell_regrown c0
  have k1 := cell_regrown c1
  refine wp_region_quiet_below mixed (by kernel_rfl) ?_
  repeat (first | go_big_quiet_step (first
    | (go_at_call 10; exact Calls.regrown_of (awake_any _))
    | (go_at_call 11; exact Calls.regrown_of (rmay_ok _ _ _ hm))
    | (go_at_call 12; exact Calls.regrown_of (low_any _ _ _))
    | (go_at_call 13; exact Calls.regrown_of (rlow_any _ _ _))
    | (go_at_call 14; exact Calls.regrown_of (high_any _ _ _))
    | (go_at_call 15; exact Calls.regrown_of (rhigh_any _ _ _))
    | (go_at_call 16; exact Calls.regrown_of (border_any _ _ _))
    | (go_at_call 17; exact Calls.regrown_of (rborder_any _ _ _))
    | (go_at_call 18; exact Calls.regrown_of (count_any _ _ _))
    | (go_at_call 19; exact Calls.regrown_of (rcount_any _ _ _))))
  refine wpQuiet_nil ?_
  intro _ hw'
  obtain ⟨⟨dq, osq⟩, hw''⟩ := hw'
  subst hw''
  go_wp2
  go_ret
  exact ⟨rfl, bel HB.out (below_regrown _ _ _)⟩

set_option maxRecDepth 100000 in
set_option maxHeartbeats 4000000 in
theorem bounds_bad (f d : Int) (hm : ¬ May f d) (w : World) :
    Calls Try.prog 3 #[.agg #[.int .i64 f, .int .i64 d]] w fun e w' => e = .returned (.bool true) ∧ Below w.heap.size w w' := by
  have hb := bel1 w (.cells #[.int .i64 f, .int .i64 d] 23)
  go_enter Try.func3, Try.ntmps3
  go_wp2_with (go_at_call 9; refine (check_bad _ _ _ hm).mono ?_; rintro e w2 ⟨rfl, hb2⟩; obtain ⟨hc2, hf2⟩ := bcell hb2)
  have HB := hide (bel hb hb2)
  have c0 : w2.cell? ⟨w.heap.size, 0, none⟩ = some (.int .i64 f) := by rw [hc2 _ _ (by simp)]; simp
  have c1 : w2.cell? ⟨w.heap.size, 1, none⟩ = some (.int .i64 d) := by rw [hc2 _ _ (by simp)]; simp
  clear hb hb2 hc2 hf2
  have k0 := cell_regrown c0
  have k1 := cell_regrown c1
  refine wp_region_quiet_below mixed (by kernel_rfl) ?_
  repeat (first | go_big_quiet_step (first
    | (go_at_call 10; exact Calls.regrown_of (awake_any _))
    | (go_at_call 11; exact Calls.regrown_of (rmay_bad _ _ _ hm))
    | (go_at_call 12; exact Calls.regrown_of (low_any _ _ _))
    | (go_at_call 13; exact Calls.regrown_of (rlow_any _ _ _))
    | (go_at_call 14; exact Calls.regrown_of (high_any _ _ _))
    | (go_at_call 15; exact Calls.regrown_of (rhigh_any _ _ _))
    | (go_at_call 16; exact Calls.regrown_of (border_any _ _ _))
    | (go_at_call 17; exact Calls.regrown_of (rborder_any _ _ _))
    | (go_at_call 18; exact Calls.regrown_of (count_any _ _ _))
    | (go_at_call 19; exact Calls.regrown_of (rcount_any _ _ _))))
  refine wpQuiet_nil ?_
  intro _ hw'
  obtain ⟨⟨dq, osq⟩, hw''⟩ := hw'
  subst hw''
  go_wp2
  go_ret
  exact ⟨rfl, bel HB.out (below_regrown _ _ _)⟩

end Go.Proofs.Ytinlknflkgijmaa

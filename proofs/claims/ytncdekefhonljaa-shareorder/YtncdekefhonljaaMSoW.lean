/-
  ShareOrder's walk.
-/
import Derived.Test.YtncdekefhonljaaMG6
import Derived.Test.YtncdekefhonljaaMG2d
import Derived.Test.YtncdekefhonljaaMCdS0
namespace Go.Proofs.Shr
open Go.RowKit Go.IntWalk Ytncdekefhonljaa.Knd
open Cde (In i0 ia kd cd Ins at6 six_of four_of has_new1 i6 below_drew in_run)
set_option linter.unusedVariables false

theorem or_cases (n : In) : orI n = n ∨ (orI n = swI n ∧ n.b < n.a) := by
  unfold orI
  split
  · rename_i h
    exact .inr ⟨rfl, h.2⟩
  · exact .inl rfl

set_option maxRecDepth 100000 in
set_option maxHeartbeats 16000000 in
theorem gorder_walk (n : In) {W : World} :
    Calls Try.prog 3 #[.agg (ia n)] W fun e w' => e = .returned (.bool true) ∧ Below W.heap.size W w' := by
  have HA := hide fun V => gawake_any V
  have HO1 := hide fun V => gorder_any n V
  have HO2 := hide fun V => gorder_any (orI n) V
  have HD := hide fun V => dorder_any n V
  rw [or_twice] at HO2
  have HB0 := hide (bel1 W (.cells (ia n) 23))
  have HN0 := hide (HasC.new W 23 (ia n))
  have hC := or_cases n
  obtain ⟨q, hq⟩ : ∃ q, orI n = q := ⟨_, rfl⟩
  rw [hq] at hC HO1 HO2 HD
  have HC := hide hC
  clear hC hq
  obtain ⟨op, xa, xb, xc, xk, xs⟩ := n
  go_enter Try.func3, Try.ntmps3
  go_wp2_with fail
  refine (HO1.out _).mono ?_
  rintro e V1 ⟨rfl, hb⟩
  have hb2 := bel1 V1 (.cells (ia q) 23)
  have HN1 := hide ((HN0.out.below hb).below hb2)
  have HQ1 := hide (HasC.new V1 23 (ia q))
  have HB1 := hide (bel (bel HB0.out hb) hb2)
  clear hb hb2 HN0 HB0 HO1
  go_upto_region 2 with fail
  generalize V1.heap.size = gq at *
  obtain ⟨V2, hV2⟩ : ∃ V2, V1.alloc (.cells (ia q) 23) = V2 := ⟨_, rfl⟩
  rw [hV2] at HN1 HQ1 HB1 ⊢
  clear hV2
  obtain ⟨e0, e1, e2, e3, e4, e5⟩ := six_of HN1.out
  obtain ⟨f0, f1, f2, f3, f4, f5⟩ := six_of HQ1.out
  dsimp only at e0 e1 e2 e3 e4 e5
  have E0 := cell_regrown e0
  have E1 := cell_regrown e1
  have E2 := cell_regrown e2
  have E3 := cell_regrown e3
  have E4 := cell_regrown e4
  have E5 := cell_regrown e5
  have F0 := cell_regrown f0
  have F1 := cell_regrown f1
  have F2 := cell_regrown f2
  have F3 := cell_regrown f3
  have F4 := cell_regrown f4
  have F5 := cell_regrown f5
  rcases HC.out with rfl | ⟨rfl, hlt⟩
  · dsimp only at *
    refine wp_region_quiet_below mixedF (by kernel_rfl) ?_
    repeat (go_big_quiet_step (fail))
    go_big_quiet_step ((go_at_call 7; exact Calls.regrown_of (HA.out _)))
    repeat (go_big_quiet_step (fail))
    go_big_quiet_step ((go_at_call 8; exact Calls.regrown_of (HD.out _)))
    repeat (go_big_quiet_step (fail))
    go_big_quiet_step ((go_at_call 6; exact Calls.regrown_of (HO2.out _)))
    repeat (go_big_quiet_step (fail))
    refine wpQuiet_nil ?_
    intro V5 hw'
    obtain ⟨⟨dq, osq⟩, hw''⟩ := hw'
    have hb := below_regrown V2 dq osq
    simp only at hw''
    rw [← hw''] at hb
    have HB5 := hide (bel HB1.out hb)
    clear hw'' hb
    go_wp2_with fail
    go_ret
    exact ⟨rfl, HB5.out⟩
  · dsimp only [swI] at *
    have q1 : decide (xb < xa) = true := by simpa using hlt
    have q2 : (xb == xa) = false := by simp; omega
    have q3 : ¬ xb = xa := by omega
    refine wp_region_quiet_below mixedF (by kernel_rfl) ?_
    repeat (go_big_quiet_step (fail))
    go_big_quiet_step ((go_at_call 7; exact Calls.regrown_of (HA.out _)))
    repeat (go_big_quiet_step (fail))
    go_big_quiet_step ((go_at_call 8; exact Calls.regrown_of (HD.out _)))
    repeat (go_big_quiet_step (fail))
    go_big_quiet_step ((go_at_call 6; exact Calls.regrown_of (HO2.out _)))
    repeat (go_big_quiet_step (fail))
    refine wpQuiet_nil ?_
    intro V5 hw'
    obtain ⟨⟨dq, osq⟩, hw''⟩ := hw'
    have hb := below_regrown V2 dq osq
    simp only at hw''
    rw [← hw''] at hb
    have HB5 := hide (bel HB1.out hb)
    clear hw'' hb
    go_wp2_with fail
    go_ret
    exact ⟨rfl, HB5.out⟩

end Go.Proofs.Shr

/-
  The small functions of package share: eitherWay, Order; the document's Order.
-/
import Derived.Test.YtijbmdmeiancgaaGreatMG0
import Derived.Test.YtijbmdmeiancgaaGreatMFB
namespace Go.Proofs.Shr
open Go.RowKit Go.IntWalk YtijbmdmeiancgaaGreat.Knd
open Cde (In i0 ia kd cd Ins at6 six_of has_new1)
set_option linter.unusedVariables false

theorem ew_cases (op : Int) : (ewB op = true ∧ (op = 8 ∨ op = 10 ∨ op = 15 ∨ op = 16 ∨ op = 17 ∨ op = 22 ∨ op = 23 ∨ op = 24 ∨ op = 25)) ∨ (ewB op = false ∧ (op == 8) = false ∧ (op == 10) = false ∧ (op == 15) = false ∧ (op == 16) = false ∧ (op == 17) = false ∧ (op == 22) = false ∧ (op == 23) = false ∧ (op == 24) = false ∧ (op == 25) = false) := by
  cases h : ewB op
  · right
    refine ⟨rfl, ?_⟩
    simpa [ewB, and_assoc] using h
  · left
    refine ⟨rfl, ?_⟩
    simpa [ewB, or_assoc] using h

set_option maxRecDepth 100000 in
set_option maxHeartbeats 4000000 in
theorem gew_any (op : Int) (W : World) : Calls Tryz.prog 161 #[.int .i64 op] W fun e W' => e = .returned (.bool (ewB op)) ∧ W' = W := by
  rcases ew_cases op with ⟨h, h2⟩ | ⟨h, q0, q1, q2, q3, q4, q5, q6, q7, q8⟩
  · rw [h]
    clear h
    rcases h2 with rfl | rfl | rfl | rfl | rfl | rfl | rfl | rfl | rfl <;>
    · go_enter Tryz.func161, Tryz.ntmps161
      go_wp2_with fail
      go_ret
      exact ⟨rfl, rfl⟩
  · rw [h]
    clear h
    go_enter Tryz.func161, Tryz.ntmps161
    go_wp2_with fail
    go_ret
    exact ⟨rfl, rfl⟩

theorem or_yes {n : In} (h : ewB n.op = true) (h2 : n.b < n.a) : orI n = ⟨n.op, n.b, n.a, n.c, n.k, n.s⟩ := if_pos ⟨h, h2⟩
theorem or_no1 {n : In} (h : ewB n.op = false) : orI n = n := if_neg (by rw [h]; rintro ⟨h, -⟩; cases h)
theorem or_no2 {n : In} (h2 : ¬ n.b < n.a) : orI n = n := if_neg fun h => h2 h.2

set_option maxRecDepth 100000 in
set_option maxHeartbeats 4000000 in
theorem gorder_any (n : In) (W : World) : Calls Tryz.prog 135 #[.agg (ia n)] W fun e W' => e = .returned (.agg (ia (orI n))) ∧ Below W.heap.size W W' := by
  have HE := hide fun W => gew_any n.op W
  cases h : ewB n.op
  · rw [or_no1 h]
    rw [h] at HE
    clear h
    go_enter Tryz.func135, Tryz.ntmps135
    go_wp2_with (go_at_call 161; refine (HE.out _).mono ?_; rintro e w' ⟨rfl, rfl⟩)
    exact bodyPost_ret (v := .agg (ia _)) (by simp [results, Tryz.results135, go_sem]) rfl ⟨rfl, by first | exact bel (bel1 W _) (bel1 _ _) | exact bel ((bel1 W _).setCell (by simp) _) (bel1 _ _) | exact bel (((bel1 W _).setCell (by simp) _).setCell (by simp) _) (bel1 _ _)⟩
  · by_cases h2 : n.b < n.a
    · rw [or_yes h h2]
      rw [h] at HE
      have q : decide (n.b < n.a) = true := by simpa using h2
      clear h h2
      go_enter Tryz.func135, Tryz.ntmps135
      go_wp2_with (go_at_call 161; refine (HE.out _).mono ?_; rintro e w' ⟨rfl, rfl⟩)
      exact bodyPost_ret (v := .agg (ia _)) (by simp [results, Tryz.results135, go_sem]) rfl ⟨rfl, by first | exact bel (bel1 W _) (bel1 _ _) | exact bel ((bel1 W _).setCell (by simp) _) (bel1 _ _) | exact bel (((bel1 W _).setCell (by simp) _).setCell (by simp) _) (bel1 _ _)⟩
    · rw [or_no2 h2]
      rw [h] at HE
      have q : decide (n.b < n.a) = false := by simpa using h2
      clear h h2
      go_enter Tryz.func135, Tryz.ntmps135
      go_wp2_with (go_at_call 161; refine (HE.out _).mono ?_; rintro e w' ⟨rfl, rfl⟩)
      exact bodyPost_ret (v := .agg (ia _)) (by simp [results, Tryz.results135, go_sem]) rfl ⟨rfl, by first | exact bel (bel1 W _) (bel1 _ _) | exact bel ((bel1 W _).setCell (by simp) _) (bel1 _ _) | exact bel (((bel1 W _).setCell (by simp) _).setCell (by simp) _) (bel1 _ _)⟩

end Go.Proofs.Shr

/-
  The small functions of parse.Check.
-/
import Derived.Test.YtamekjocchekoaaRtree
import Derived.Laws.CopyOwn
namespace Go.Proofs.Ytamekjocchekoaa
open Go.RowKit Go.IntWalk Lx Pz
set_option linter.unusedVariables false

abbrev MX : Int := 2147483647
def prZ (op : Int) : Int := if op = 4 then 0 else if 28 < op then -1 else arZ op
def mostZ (op bd : Int) : Int := if op = 1 then MX else if op = 2 then 5 else if op = 4 then bd - 1 else 0
def mayP (back co x y : Int) : Bool := (co == 2 || (co == 1 && y == 0)) && (wthn back 0 MX && (wthn x (-MX) MX && wthn y (-MX) MX))
def plc0 (n : Nd) : Bool := n.back == 0 && n.co == 0 && n.x == 0 && n.y == 0
def fldP (n : Nd) (bd : Int) : Bool := if n.op = 3 then n.k == 0 && mayP n.back n.co n.x n.y else plc0 n && wthn n.k 0 (mostZ n.op bd)

set_option maxHeartbeats 1000000 in
theorem pwithin_any (x a b : Int) (W : World) : Calls Try.prog 53 #[.int .i64 x, .int .i64 a, .int .i64 b] W fun e W' => e = .returned (.bool (wthn x a b)) ∧ W' = W := by
  by_cases h : a ≤ x
  · rw [show wthn x a b = decide (x ≤ b) by simp [wthn, h]]
    go_enter Try.func53, Try.ntmps53
    go_wp2
    go_ret
    exact ⟨rfl, rfl⟩
  · rw [show wthn x a b = false by simp [wthn]; omega]
    go_enter Try.func53, Try.ntmps53
    go_wp2
    go_ret
    exact ⟨rfl, rfl⟩

set_option maxHeartbeats 1000000 in
theorem parts_any (op : Int) (W : World) : Calls Try.prog 54 #[.int .i64 op] W fun e W' => e = .returned (.int .i64 (prZ op)) ∧ W' = W := by
  by_cases h4 : op = 4
  · subst h4
    go_enter Try.func54, Try.ntmps54
    go_wp2
    go_ret
    exact ⟨rfl, rfl⟩
  · have k4 : (op == 4) = false := by simpa using h4
    by_cases h28 : 28 < op
    · rw [show prZ op = -1 by unfold prZ; rw [if_neg h4, if_pos h28]]
      go_enter Try.func54, Try.ntmps54
      go_wp2
      go_ret
      exact ⟨rfl, rfl⟩
    · rw [show prZ op = arZ op by unfold prZ; rw [if_neg h4, if_neg h28]]
      have HA := hide fun W => arity_any op W
      generalize arZ op = z at HA
      clear h4
      go_enter Try.func54, Try.ntmps54
      go_wp2_with fail
      refine (HA.out _).mono ?_
      rintro e W1 ⟨rfl, rfl⟩
      go_wp2_with fail
      go_ret
      exact ⟨rfl, rfl⟩

set_option maxHeartbeats 1000000 in
theorem most_any (op bd : Int) (W : World) (hb : -1000000 ≤ bd) (hb2 : bd ≤ 9223372036854775807) : Calls Try.prog 73 #[.int .i64 op, .int .i64 bd] W fun e W' => e = .returned (.int .i64 (mostZ op bd)) ∧ W' = W := by
  by_cases h1 : op = 1
  · subst h1
    go_enter Try.func73, Try.ntmps73
    go_wp2
    go_ret
    exact ⟨rfl, rfl⟩
  by_cases h2 : op = 2
  · subst h2
    go_enter Try.func73, Try.ntmps73
    go_wp2
    go_ret
    exact ⟨rfl, rfl⟩
  by_cases h4 : op = 4
  · subst h4
    go_enter Try.func73, Try.ntmps73
    go_wp2
    go_ret
    exact ⟨rfl, rfl⟩
  · rw [show mostZ op bd = 0 by unfold mostZ; rw [if_neg h1, if_neg h2, if_neg h4]]
    have k1 : (op == 1) = false := by simpa using h1
    have k2 : (op == 2) = false := by simpa using h2
    have k4 : (op == 4) = false := by simpa using h4
    go_enter Try.func73, Try.ntmps73
    go_wp2
    go_ret
    exact ⟨rfl, rfl⟩

set_option maxHeartbeats 1000000 in
theorem offsetP_any (x : Int) (W : World) : Calls Try.prog 84 #[.int .i64 x] W fun e W' => e = .returned (.bool (wthn x (-MX) MX)) ∧ W' = W := by
  have H := hide fun W => pwithin_any x (-MX) MX W
  generalize wthn x (-MX) MX = z at H
  go_enter Try.func84, Try.ntmps84
  go_wp2_with fail
  refine (H.out _).mono ?_
  rintro e W1 ⟨rfl, rfl⟩
  go_wp2_with fail
  go_ret
  exact ⟨rfl, rfl⟩

set_option maxRecDepth 100000 in
set_option maxHeartbeats 2000000 in
theorem mayBe_any (a b c d : Int) (W : World) : Calls Try.prog 72 #[.agg (pl4 a b c d)] W fun e W' => e = .returned (.bool (mayP a b c d)) ∧ Below W.heap.size W W' := by
  have HB := hide (bel1 W (.cells (pl4 a b c d) 35))
  have H1 := hide fun W => pwithin_any a 0 MX W
  have H2 := hide fun W => offsetP_any c W
  have H3 := hide fun W => offsetP_any d W
  cases hok : (b == 2 || (b == 1 && d == 0)) with
  | false =>
    rw [show mayP a b c d = false by unfold mayP; rw [hok]; rfl]
    simp only [Bool.or_eq_false_iff] at hok
    obtain ⟨k1, k2⟩ := hok
    have k1' : (b != 2) = true := by simpa using k1
    cases k3 : (b == 1) with
    | false =>
      have k3' : (b != 1) = true := by simpa using k3
      clear k1 k2 k3
      go_enter Try.func72, Try.ntmps72
      go_wp2_with fail
      go_ret
      exact ⟨rfl, HB.out⟩
    | true =>
      rw [k3, Bool.true_and] at k2
      have k4 : (d != 0) = true := by simpa using k2
      have k3' : (b != 1) = false := by simpa using k3
      clear k1 k2 k3
      go_enter Try.func72, Try.ntmps72
      go_wp2_with fail
      go_ret
      exact ⟨rfl, HB.out⟩
  | true =>
    rw [show mayP a b c d = (wthn a 0 MX && (wthn c (-MX) MX && wthn d (-MX) MX)) by unfold mayP; rw [hok]; rfl]
    generalize wthn a 0 MX = z1 at *
    generalize wthn c (-MX) MX = z2 at *
    generalize wthn d (-MX) MX = z3 at *
    have hg : ((b != 2) = false) ∨ ((b != 2) = true ∧ (b != 1) = false ∧ (d != 0) = false) := by
      simp only [Bool.or_eq_true, Bool.and_eq_true, beq_iff_eq] at hok
      by_cases h2 : b = 2
      · left; simp [h2]
      · right
        rcases hok with h | ⟨h, h'⟩
        · exact absurd h h2
        · subst h; subst h'; decide
    clear hok
    cases z1 with
    | false =>
      rw [Bool.false_and]
      rcases hg with hg | ⟨hg1, hg2, hg3⟩
      all_goals
        go_enter Try.func72, Try.ntmps72
        go_wp2_with fail
        refine (H1.out _).mono ?_
        rintro e W1 ⟨rfl, rfl⟩
        go_wp2_with fail
        go_ret
        exact ⟨rfl, HB.out⟩
    | true =>
      rw [Bool.true_and]
      cases z2 with
      | false =>
        rw [Bool.false_and]
        rcases hg with hg | ⟨hg1, hg2, hg3⟩
        all_goals
          go_enter Try.func72, Try.ntmps72
          go_wp2_with fail
          refine (H1.out _).mono ?_
          rintro e W1 ⟨rfl, rfl⟩
          go_wp2_with fail
          refine (H2.out _).mono ?_
          rintro e W1 ⟨rfl, rfl⟩
          go_wp2_with fail
          go_ret
          exact ⟨rfl, HB.out⟩
      | true =>
        rw [Bool.true_and]
        rcases hg with hg | ⟨hg1, hg2, hg3⟩
        all_goals
          go_enter Try.func72, Try.ntmps72
          go_wp2_with fail
          refine (H1.out _).mono ?_
          rintro e W1 ⟨rfl, rfl⟩
          go_wp2_with fail
          refine (H2.out _).mono ?_
          rintro e W1 ⟨rfl, rfl⟩
          go_wp2_with fail
          refine (H3.out _).mono ?_
          rintro e W1 ⟨rfl, rfl⟩
          go_wp2_with fail
          go_ret
          exact ⟨rfl, HB.out⟩

end Go.Proofs.Ytamekjocchekoaa

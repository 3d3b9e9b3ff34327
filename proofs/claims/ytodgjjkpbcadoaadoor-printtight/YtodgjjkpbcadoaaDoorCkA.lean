/-
  The small functions of parse.Check.
-/
import Derived.Test.YtodgjjkpbcadoaaDoorRtree
import Derived.Laws.CopyOwn
import Derived.Deep.QuietTactic
import Derived.BigQuiet
namespace Go.Proofs.YtodgjjkpbcadoaaDoor
open Go.RowKit Go.IntWalk Lx Pz
set_option linter.unusedVariables false

abbrev MX : Int := 2147483647
def prZ (op : Int) : Int := if op = 4 then 0 else if 28 < op then -1 else arZ op
def mostZ (op bd : Int) : Int := if op = 1 then MX else if op = 2 then 5 else if op = 4 then bd - 1 else 0
def mayP (back co x y : Int) : Bool := (co == 2 || (co == 1 && y == 0)) && (wthn back 0 MX && (wthn x (-MX) MX && wthn y (-MX) MX))
def plc0 (n : Nd) : Bool := n.back == 0 && n.co == 0 && n.x == 0 && n.y == 0
def fldP (n : Nd) (bd : Int) : Bool := if n.op = 3 then n.k == 0 && mayP n.back n.co n.x n.y else plc0 n && wthn n.k 0 (mostZ n.op bd)

set_option maxHeartbeats 1000000 in
theorem pwithin_any (x a b : Int) (W : World) : Calls Tryd.prog 23 #[.int .i64 x, .int .i64 a, .int .i64 b] W fun e W' => e = .returned (.bool (wthn x a b)) ∧ W' = W := by
  by_cases h : a ≤ x
  · rw [show wthn x a b = decide (x ≤ b) by simp [wthn, h]]
    go_enter Tryd.func23, Tryd.ntmps23
    go_wp2
    go_ret
    exact ⟨rfl, rfl⟩
  · rw [show wthn x a b = false by simp [wthn]; omega]
    go_enter Tryd.func23, Tryd.ntmps23
    go_wp2
    go_ret
    exact ⟨rfl, rfl⟩

set_option maxHeartbeats 1000000 in
theorem parts_any (op : Int) (W : World) : Calls Tryd.prog 24 #[.int .i64 op] W fun e W' => e = .returned (.int .i64 (prZ op)) ∧ W' = W := by
  by_cases h4 : op = 4
  · subst h4
    go_enter Tryd.func24, Tryd.ntmps24
    go_wp2
    go_ret
    exact ⟨rfl, rfl⟩
  · have k4 : (op == 4) = false := by simpa using h4
    by_cases h28 : 28 < op
    · rw [show prZ op = -1 by unfold prZ; rw [if_neg h4, if_pos h28]]
      go_enter Tryd.func24, Tryd.ntmps24
      go_wp2
      go_ret
      exact ⟨rfl, rfl⟩
    · rw [show prZ op = arZ op by unfold prZ; rw [if_neg h4, if_neg h28]]
      have HA := hide fun W => arity_any op W
      generalize arZ op = z at HA
      clear h4
      go_enter Tryd.func24, Tryd.ntmps24
      go_wp2_with fail
      refine (HA.out _).mono ?_
      rintro e W1 ⟨rfl, rfl⟩
      go_wp2_with fail
      go_ret
      exact ⟨rfl, rfl⟩

set_option maxHeartbeats 1000000 in
theorem most_any (op bd : Int) (W : World) (hb : -1000000 ≤ bd) (hb2 : bd ≤ 9223372036854775807) : Calls Tryd.prog 42 #[.int .i64 op, .int .i64 bd] W fun e W' => e = .returned (.int .i64 (mostZ op bd)) ∧ W' = W := by
  by_cases h1 : op = 1
  · subst h1
    go_enter Tryd.func42, Tryd.ntmps42
    go_wp2
    go_ret
    exact ⟨rfl, rfl⟩
  by_cases h2 : op = 2
  · subst h2
    go_enter Tryd.func42, Tryd.ntmps42
    go_wp2
    go_ret
    exact ⟨rfl, rfl⟩
  by_cases h4 : op = 4
  · subst h4
    go_enter Tryd.func42, Tryd.ntmps42
    go_wp2
    go_ret
    exact ⟨rfl, rfl⟩
  · rw [show mostZ op bd = 0 by unfold mostZ; rw [if_neg h1, if_neg h2, if_neg h4]]
    have k1 : (op == 1) = false := by simpa using h1
    have k2 : (op == 2) = false := by simpa using h2
    have k4 : (op == 4) = false := by simpa using h4
    go_enter Tryd.func42, Tryd.ntmps42
    go_wp2
    go_ret
    exact ⟨rfl, rfl⟩

set_option maxHeartbeats 1000000 in
theorem offsetP_any (x : Int) (W : World) : Calls Tryd.prog 60 #[.int .i64 x] W fun e W' => e = .returned (.bool (wthn x (-MX) MX)) ∧ W' = W := by
  have H := hide fun W => pwithin_any x (-MX) MX W
  generalize wthn x (-MX) MX = z at H
  go_enter Tryd.func60, Tryd.ntmps60
  go_wp2_with fail
  refine (H.out _).mono ?_
  rintro e W1 ⟨rfl, rfl⟩
  go_wp2_with fail
  go_ret
  exact ⟨rfl, rfl⟩

set_option maxRecDepth 100000 in
set_option maxHeartbeats 2000000 in
theorem mayBe_any (a b c d : Int) (W : World) : Calls Tryd.prog 41 #[.agg (pl4 a b c d)] W fun e W' => e = .returned (.bool (mayP a b c d)) ∧ Below W.heap.size W W' := by
  have HB := hide (bel1 W (.cells (pl4 a b c d) 53))
  have H1 := hide fun W => pwithin_any a 0 MX W
  have H2 := hide fun W => offsetP_any c W
  have H3 := hide fun W => offsetP_any d W
  cases hok : (b == 2 || (b == 1 && d == 0)) with
  | false =>
    rw [show mayP a b c d = false by unfold mayP; rw [hok]; rfl]
    simp only [Bool.or_eq_false_iff] at hok
    obtain ⟨k1, k2⟩ := hok
    have k1' : (b != 2) = true := by simpa using k1
    cases k3 : (b == 1) with
    | false =>
      have k3' : (b != 1) = true := by simpa using k3
      clear k1 k2 k3
      go_enter Tryd.func41, Tryd.ntmps41
      go_wp2_with fail
      go_ret
      exact ⟨rfl, HB.out⟩
    | true =>
      rw [k3, Bool.true_and] at k2
      have k4 : (d != 0) = true := by simpa using k2
      have k3' : (b != 1) = false := by simpa using k3
      clear k1 k2 k3
      go_enter Tryd.func41, Tryd.ntmps41
      go_wp2_with fail
      go_ret
      exact ⟨rfl, HB.out⟩
  | true =>
    rw [show mayP a b c d = (wthn a 0 MX && (wthn c (-MX) MX && wthn d (-MX) MX)) by unfold mayP; rw [hok]; rfl]
    generalize wthn a 0 MX = z1 at *
    generalize wthn c (-MX) MX = z2 at *
    generalize wthn d (-MX) MX = z3 at *
    have hg : ((b != 2) = false) ∨ ((b != 2) = true ∧ (b != 1) = false ∧ (d != 0) = false) := by
      simp only [Bool.or_eq_true, Bool.and_eq_true, beq_iff_eq] at hok
      by_cases h2 : b = 2
      · left; simp [h2]
      · right
        rcases hok with h | ⟨h, h'⟩
        · exact absurd h h2
        · subst h; subst h'; decide
    clear hok
    cases z1 with
    | false =>
      rw [Bool.false_and]
      rcases hg with hg | ⟨hg1, hg2, hg3⟩
      all_goals
        go_enter Tryd.func41, Tryd.ntmps41
        go_wp2_with fail
        refine (H1.out _).mono ?_
        rintro e W1 ⟨rfl, rfl⟩
        go_wp2_with fail
        go_ret
        exact ⟨rfl, HB.out⟩
    | true =>
      rw [Bool.true_and]
      cases z2 with
      | false =>
        rw [Bool.false_and]
        rcases hg with hg | ⟨hg1, hg2, hg3⟩
        all_goals
          go_enter Tryd.func41, Tryd.ntmps41
          go_wp2_with fail
          refine (H1.out _).mono ?_
          rintro e W1 ⟨rfl, rfl⟩
          go_wp2_with fail
          refine (H2.out _).mono ?_
          rintro e W1 ⟨rfl, rfl⟩
          go_wp2_with fail
          go_ret
          exact ⟨rfl, HB.out⟩
      | true =>
        rw [Bool.true_and]
        rcases hg with hg | ⟨hg1, hg2, hg3⟩
        all_goals
          go_enter Tryd.func41, Tryd.ntmps41
          go_wp2_with fail
          refine (H1.out _).mono ?_
          rintro e W1 ⟨rfl, rfl⟩
          go_wp2_with fail
          refine (H2.out _).mono ?_
          rintro e W1 ⟨rfl, rfl⟩
          go_wp2_with fail
          refine (H3.out _).mono ?_
          rintro e W1 ⟨rfl, rfl⟩
          go_wp2_with fail
          go_ret
          exact ⟨rfl, HB.out⟩

end Go.Proofs.YtodgjjkpbcadoaaDoor

/-
  fields, taken, ends of parse.Check.
-/
namespace Go.Proofs.YtodgjjkpbcadoaaDoor
open Go.RowKit Go.IntWalk Lx Pz
set_option linter.unusedVariables false

theorem eq_arr3 (d : Nat) (a b c x y z : Int) (w : World) : (Op.equalIn (d + 2) 67 (.agg #[.int .i64 a, .int .i64 b, .int .i64 c]) (.agg #[.int .i64 x, .int .i64 y, .int .i64 z])).run Tryd.prog w = .ok (a == x && (b == y && c == z)) w := by
  rw [Op.equalIn]
  simp only [Sem.run_bind, run_underlying Tryd.underlying67, Result.andThen_ok]
  simp [go_sem, Std.Legacy.Range.forIn_eq_forIn_range', List.range']
  by_cases h1 : a = x
  · by_cases h2 : b = y
    · by_cases h3 : c = z
      · simp [h1, h2, h3]
      · simp [h1, h2, h3]
    · simp [h1, h2]
  · simp [h1]

theorem plc0_no {n : Nd} (h : plc0 n = false) : ¬ n.back = 0 ∨ (n.back = 0 ∧ ¬ n.co = 0) ∨ (n.back = 0 ∧ n.co = 0 ∧ ¬ n.x = 0) ∨ (n.back = 0 ∧ n.co = 0 ∧ n.x = 0 ∧ ¬ n.y = 0) := by
  by_cases h1 : n.back = 0
  · by_cases h2 : n.co = 0
    · by_cases h3 : n.x = 0
      · by_cases h4 : n.y = 0
        · simp [plc0, h1, h2, h3, h4] at h
        · exact .inr (.inr (.inr ⟨h1, h2, h3, h4⟩))
      · exact .inr (.inr (.inl ⟨h1, h2, h3⟩))
    · exact .inr (.inl ⟨h1, h2⟩)
  · exact .inl h1
theorem plc0_yes {n : Nd} (h : plc0 n = true) : n.back = 0 ∧ n.co = 0 ∧ n.x = 0 ∧ n.y = 0 := by
  simp only [plc0, Bool.and_eq_true, beq_iff_eq] at h
  exact ⟨h.1.1.1, h.1.1.2, h.1.2, h.2⟩

set_option maxRecDepth 100000 in
set_option maxHeartbeats 4000000 in
theorem fields_any (n : Nd) (bd : Int) (W : World) (hb : -1000000 ≤ bd) (hb2 : bd ≤ 9223372036854775807) : Calls Tryd.prog 25 #[.agg (ndA n), .int .i64 bd] W fun e W' => e = .returned (.bool (fldP n bd)) ∧ Below W.heap.size W W' := by
  have HB := hide (bel1 W (.cells (ndA n) 55))
  have HM := hide fun W => mayBe_any n.back n.co n.x n.y W
  have HO := hide fun W => most_any n.op bd W hb hb2
  have HW := hide fun W => pwithin_any n.k 0 (mostZ n.op bd) W
  by_cases h3 : n.op = 3
  · rw [show fldP n bd = (n.k == 0 && mayP n.back n.co n.x n.y) by unfold fldP; rw [if_pos h3]]
    have k3 : (n.op == 3) = true := by simpa using h3
    cases hk : (n.k == 0) with
    | false =>
      rw [Bool.false_and]
      clear h3
      go_enter Tryd.func25, Tryd.ntmps25
      go_wp2_with fail
      go_ret
      exact ⟨rfl, HB.out⟩
    | true =>
      rw [Bool.true_and]
      clear h3
      go_enter Tryd.func25, Tryd.ntmps25
      go_wp2_with fail
      refine (HM.out _).mono ?_
      rintro e W1 ⟨rfl, hb1⟩
      have HB1 := hide (bel HB.out hb1)
      clear hb1
      go_wp2_with fail
      go_ret
      exact ⟨rfl, HB1.out⟩
  · have k3 : (n.op == 3) = false := by simpa using h3
    rw [show fldP n bd = (plc0 n && wthn n.k 0 (mostZ n.op bd)) by unfold fldP; rw [if_neg h3]]
    generalize mostZ n.op bd = mz at *
    generalize wthn n.k 0 mz = z at *
    have HN := hide (HasC.new W 55 (ndA n))
    clear h3 HM
    cases hp : plc0 n with
    | false =>
      rw [Bool.false_and]
      have hc := plc0_no hp
      obtain ⟨op, a, b, c, k, back, co, x, y⟩ := n
      simp only at hc k3 HB HN HO HW
      clear hp HO HW
      have HBB := hide (show ∀ nq, Below W.heap.size W ((W.alloc (.cells (ndA ⟨op, a, b, c, k, back, co, x, y⟩) 55)).drewN nq) from fun nq => bel HB.out (below_drewN _ nq))
      go_enter Tryd.func25, Tryd.ntmps25
      go_wp2_with fail
      obtain ⟨e0, e1, e2, e3, e4, e5, e6, e7, e8⟩ := HN.out.nine
      simp only at e0 e1 e2 e3 e4 e5 e6 e7 e8
      generalize W.alloc (.cells (ndA ⟨op, a, b, c, k, back, co, x, y⟩) 55) = V at *
      generalize hq : W.heap.size = q at *
      rcases hc with h1 | ⟨h1, h2⟩ | ⟨h1, h2, h3⟩ | ⟨h1, h2, h3, h4⟩
      · go_quiet (fail)
        go_wp2_with fail
        go_ret
        exact ⟨rfl, by rw [hq]; exact HBB.out _⟩
      · subst h1
        go_quiet (fail)
        go_wp2_with fail
        go_ret
        exact ⟨rfl, by rw [hq]; exact HBB.out _⟩
      · subst h1 h2
        go_quiet (fail)
        go_wp2_with fail
        go_ret
        exact ⟨rfl, by rw [hq]; exact HBB.out _⟩
      · subst h1 h2 h3
        go_quiet (fail)
        go_wp2_with fail
        go_ret
        exact ⟨rfl, by rw [hq]; exact HBB.out _⟩
    | true =>
      rw [Bool.true_and]
      obtain ⟨h1, h2, h3, h4⟩ := plc0_yes hp
      obtain ⟨op, a, b, c, k, back, co, x, y⟩ := n
      simp only at h1 h2 h3 h4 k3 HB HN HO HW
      subst h1 h2 h3 h4
      clear hp
      have HBB := hide (show ∀ nq, Below W.heap.size W ((W.alloc (.cells (ndA ⟨op, a, b, c, k, 0, 0, 0, 0⟩) 55)).drewN nq) from fun nq => bel HB.out (below_drewN _ nq))
      go_enter Tryd.func25, Tryd.ntmps25
      go_wp2_with fail
      obtain ⟨e0, e1, e2, e3, e4, e5, e6, e7, e8⟩ := HN.out.nine
      simp only at e0 e1 e2 e3 e4 e5 e6 e7 e8
      generalize W.alloc (.cells (ndA ⟨op, a, b, c, k, 0, 0, 0, 0⟩) 55) = V at *
      generalize hq : W.heap.size = q at *
      go_quiet ((first | (go_at_call 42; exact Calls.quiet_of_same (HO.out _)) | (go_at_call 23; exact Calls.quiet_of_same (HW.out _))))
      go_wp2_with fail
      go_ret
      exact ⟨rfl, by rw [hq]; exact HBB.out _⟩

/-- At most three numbers, as a node tells them. -/
abbrev tk3 (L : List Int) : Array Value := #[.int .i64 (L.getD 0 0), .int .i64 (L.getD 1 0), .int .i64 (L.getD 2 0)]
theorem splice3 {L : List Int} (h : L.length ≤ 3) : (splice [Value.int .i64 0, .int .i64 0, .int .i64 0] 0 (in64 L)).toArray = tk3 L := by
  match L, h with
  | [], _ => rfl
  | [a], _ => rfl
  | [a, b], _ => rfl
  | [a, b, c], _ => rfl
  | _ :: _ :: _ :: _ :: _, h => simp at h

theorem infoI1 : (Tryd.prog.info? 3).map (·.size) = some 1 := by kernel_rfl
theorem copy3 {V : World} {a : Option Addr} {n cap g : Nat} {L : List Int} (h : Iz V a n cap L) (h3 : n ≤ 3) (hA : HasC V g 67 #[.int .i64 0, .int .i64 0, .int .i64 0]) :
    ∃ V', (Builtin.copy_ #[23, 23] 3 #[.slice (some ⟨g, 0, none⟩) 3 3, .slice a n cap]).run Tryd.prog V = .ok (.int .i64 L.length) V' ∧ HasC V' g 67 (tk3 L) ∧ V.grownBy V' (some g) := by
  have hl := h.len
  by_cases hn : n = 0
  · subst hn
    obtain rfl : L = [] := List.length_eq_zero_iff.1 hl
    exact ⟨V, run_copy_none V 23 23 3 3 _ _ 3 3 0 cap Tryd.underlying23 infoI1 rfl, hA, World.grownBy.refl _ _⟩
  · obtain ⟨b, off, rfl, hlt, hc⟩ : ∃ b off, a = some ⟨b, off, none⟩ ∧ b < V.heap.size ∧ ∀ i, i < n → V.cell? ⟨b, off + i, none⟩ = some (.int .i64 (L.getD i 0)) := by
      rcases h.cell with h0 | h
      · exact absurd h0 hn
      · exact h
    have hr := run_copy_row (P := Tryd.prog) V 23 23 3 3 g 0 3 3 ⟨b, off, none⟩ n cap #[.int .i64 0, .int .i64 0, .int .i64 0] 67 (in64 L) Tryd.underlying23 infoI1 hA (by rw [List.length_map, hl]; exact (Nat.min_eq_left h3).symm)
      (by
        intro j v hv
        rw [List.getElem?_map] at hv
        cases hj : L[j]? with
        | none => rw [hj] at hv; cases hv
        | some x =>
          rw [hj] at hv
          cases hv
          have hjl : j < L.length := (List.getElem?_eq_some_iff.1 hj).1
          have := hc j (by omega)
          rw [List.getD_eq_getElem?_getD, hj] at this
          rw [Addr.add_lit]
          exact this) (by simp; omega) (by simp [Value.oneCell'])
    have e : (#[Value.int .i64 0, .int .i64 0, .int .i64 0].toList.take 0 ++ in64 L ++ #[Value.int .i64 0, .int .i64 0, .int .i64 0].toList.drop (0 + (in64 L).length)).toArray = tk3 L := by
      match L, (show L.length ≤ 3 by omega) with
      | [], _ => rfl
      | [x], _ => rfl
      | [x, y], _ => rfl
      | [x, y, z], _ => rfl
      | _ :: _ :: _ :: _ :: _, h => simp at h
    rw [e, List.length_map] at hr
    refine ⟨V.setRow g (tk3 L), hr, setRow_heap V g _ (tk3 L) 67 (0, 0) hA, ⟨rfl, rfl, rfl, by rw [size_setRow]; exact Nat.le_refl _, fun k hk hne => setRow_other V g k _ (fun e => hne (by rw [e]))⟩⟩

set_option maxRecDepth 100000 in
set_option maxHeartbeats 2000000 in
theorem taken_any {W : World} {a : Option Addr} {n cap : Nat} {L : List Int} (h : Iz W a n cap L) (h3 : n ≤ 3) :
    Calls Tryd.prog 26 #[.slice a n cap] W fun e W' => e = .returned (.agg (tk3 L)) ∧ Below W.heap.size W W' := by
  have hb2 := bel (bel1 W (.cells #[.int .i64 0, .int .i64 0, .int .i64 0] 67)) (bel1 (W.alloc (.cells #[.int .i64 0, .int .i64 0, .int .i64 0] 67)) (.cells #[.int .i64 0, .int .i64 0, .int .i64 0] 67))
  have hR := (HasC.new W 67 #[.int .i64 0, .int .i64 0, .int .i64 0]).alloc (.cells #[.int .i64 0, .int .i64 0, .int .i64 0] 67)
  have hA := HasC.new (W.alloc (.cells #[.int .i64 0, .int .i64 0, .int .i64 0] 67)) 67 #[.int .i64 0, .int .i64 0, .int .i64 0]
  rw [World.size_alloc] at hA
  obtain ⟨V', hrun, hA', hg⟩ := copy3 (h.later hb2) h3 hA
  have HR := hide (hR.kept hg (by simp))
  have HA' := hide hA'
  have HB := hide (hb2.grown hg hb2.size (fun k hk => by cases hk; omega))
  clear h hb2 hR hA hA' hg
  go_enter Tryd.func26, Tryd.ntmps26
  go_upto_region 2 with fail
  generalize (W.alloc (.cells #[.int .i64 0, .int .i64 0, .int .i64 0] 67)).alloc (.cells #[.int .i64 0, .int .i64 0, .int .i64 0] 67) = V at hrun ⊢
  obtain ⟨c0, c1, c2⟩ := facts3 HA'.out
  obtain ⟨d0, d1, d2⟩ := facts3 HR.out
  obtain ⟨y0, y1, y2⟩ := free3 HR.out
  have e1 := (HR.out.set 0 (.int .i64 (L.getD 0 0))).cell 1 rfl
  have z1 := (HR.out.set 0 (.int .i64 (L.getD 0 0))).frozen 1
  have e2 := ((HR.out.set 0 (.int .i64 (L.getD 0 0))).set 1 (.int .i64 (L.getD 1 0))).cell 2 rfl
  have z2 := ((HR.out.set 0 (.int .i64 (L.getD 0 0))).set 1 (.int .i64 (L.getD 1 0))).frozen 2
  have HF := hide (((HR.out.set 0 (.int .i64 (L.getD 0 0))).set 1 (.int .i64 (L.getD 1 0))).set 2 (.int .i64 (L.getD 2 0)))
  have HFB := hide (((HB.out.setCell (p := ⟨W.heap.size, 0, none⟩) (Nat.le_refl _) (.int .i64 (L.getD 0 0))).setCell (p := ⟨W.heap.size, 1, none⟩) (Nat.le_refl _) (.int .i64 (L.getD 1 0))).setCell (p := ⟨W.heap.size, 2, none⟩) (Nat.le_refl _) (.int .i64 (L.getD 2 0)))
  generalize hl0 : L.getD 0 0 = l0 at *
  generalize hl1 : L.getD 1 0 = l1 at *
  generalize hl2 : L.getD 2 0 = l2 at *
  have H0 := hide hl0
  have H1 := hide hl1
  have H2 := hide hl2
  clear hl0 hl1 hl2
  go_wp2_with fail
  obtain ⟨f0, f1, f2⟩ := facts3 HF.out
  exact bodyPost_ret (v := .agg #[.int .i64 l0, .int .i64 l1, .int .i64 l2]) (by simp [results, Tryd.results26, go_sem, f0, f1, f2]) rfl ⟨by rw [← H0.out, ← H1.out, ← H2.out], HFB.out⟩

/-- ends. -/
def endsP (n : Nat) (root : Int) : Bool := wthn n 1 1024 && root == (n : Int) - 1
set_option maxRecDepth 100000 in
set_option maxHeartbeats 2000000 in
theorem ends_any (nv bv : Value) (da : Option Addr) (d dc : Nat) (root : Int) (W : World) (hd : d ≤ 9223372036854775807) (h1 : ∃ a n c, nv = .slice a n c) (h2 : ∃ a n c, bv = .slice a n c) :
    Calls Tryd.prog 14 #[.agg (tr4 nv bv (.slice da d dc) (.int .i64 root))] W fun e W' => e = .returned (.bool (endsP d root)) ∧ Below W.heap.size W W' := by
  obtain ⟨a1, n1, c1, rfl⟩ := h1
  obtain ⟨a2, n2, c2, rfl⟩ := h2
  have HB := hide (bel1 W (.cells (tr4 (.slice a1 n1 c1) (.slice a2 n2 c2) (.slice da d dc) (.int .i64 root)) 26))
  have HW := hide fun W => pwithin_any d 1 1024 W
  unfold endsP
  cases hz : wthn d 1 1024 with
  | false =>
    rw [hz] at HW
    rw [Bool.false_and]
    clear hz
    go_enter Tryd.func14, Tryd.ntmps14
    go_wp2_with fail
    refine (HW.out _).mono ?_
    rintro e W1 ⟨rfl, rfl⟩
    go_wp2_with fail
    go_ret
    exact ⟨rfl, HB.out⟩
  | true =>
    rw [hz] at HW
    rw [Bool.true_and]
    clear hz
    go_enter Tryd.func14, Tryd.ntmps14
    go_wp2_with fail
    refine (HW.out _).mono ?_
    rintro e W1 ⟨rfl, rfl⟩
    go_wp2_with fail
    go_ret
    exact ⟨rfl, HB.out⟩

end Go.Proofs.YtodgjjkpbcadoaaDoor

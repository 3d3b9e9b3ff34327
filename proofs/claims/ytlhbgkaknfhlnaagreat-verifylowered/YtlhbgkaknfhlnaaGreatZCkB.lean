/-
  The small functions of parse.Check.
-/
import Derived.Test.YtlhbgkaknfhlnaaGreatZRpA
import Derived.Laws.CopyOwn
import Derived.Deep.QuietTactic
import Derived.BigQuiet
import Derived.Maps.OwnSet
namespace Go.Proofs.YtlhbgkaknfhlnaaGreat
open Go.RowKit Go.IntWalk Lx Pz
set_option linter.unusedVariables false

abbrev MX : Int := 2147483647
def prZ (op : Int) : Int := if op = 4 then 0 else if 28 < op then -1 else arZ op
def mostZ (op bd : Int) : Int := if op = 1 then MX else if op = 2 then 5 else if op = 4 then bd - 1 else 0
def mayP (back co x y : Int) : Bool := (co == 2 || (co == 1 && y == 0)) && (wthn back 0 MX && (wthn x (-MX) MX && wthn y (-MX) MX))
def plc0 (n : Nd) : Bool := n.back == 0 && n.co == 0 && n.x == 0 && n.y == 0
def fldP (n : Nd) (bd : Int) : Bool := if n.op = 3 then n.k == 0 && mayP n.back n.co n.x n.y else plc0 n && wthn n.k 0 (mostZ n.op bd)

set_option maxHeartbeats 1000000 in
theorem pwithin_any (x a b : Int) (W : World) : Calls Tryz.prog 120 #[.int .i64 x, .int .i64 a, .int .i64 b] W fun e W' => e = .returned (.bool (wthn x a b)) ∧ W' = W := by
  by_cases h : a ≤ x
  · rw [show wthn x a b = decide (x ≤ b) by simp [wthn, h]]
    go_enter Tryz.func120, Tryz.ntmps120
    go_wp2
    go_ret
    exact ⟨rfl, rfl⟩
  · rw [show wthn x a b = false by simp [wthn]; omega]
    go_enter Tryz.func120, Tryz.ntmps120
    go_wp2
    go_ret
    exact ⟨rfl, rfl⟩

set_option maxHeartbeats 1000000 in
theorem parts_any (op : Int) (W : World) : Calls Tryz.prog 121 #[.int .i64 op] W fun e W' => e = .returned (.int .i64 (prZ op)) ∧ W' = W := by
  by_cases h4 : op = 4
  · subst h4
    go_enter Tryz.func121, Tryz.ntmps121
    go_wp2
    go_ret
    exact ⟨rfl, rfl⟩
  · have k4 : (op == 4) = false := by simpa using h4
    by_cases h28 : 28 < op
    · rw [show prZ op = -1 by unfold prZ; rw [if_neg h4, if_pos h28]]
      go_enter Tryz.func121, Tryz.ntmps121
      go_wp2
      go_ret
      exact ⟨rfl, rfl⟩
    · rw [show prZ op = arZ op by unfold prZ; rw [if_neg h4, if_neg h28]]
      have HA := hide fun W => arity_any op W
      generalize arZ op = z at HA
      clear h4
      go_enter Tryz.func121, Tryz.ntmps121
      go_wp2_with fail
      refine (HA.out _).mono ?_
      rintro e W1 ⟨rfl, rfl⟩
      go_wp2_with fail
      go_ret
      exact ⟨rfl, rfl⟩

set_option maxHeartbeats 1000000 in
theorem most_any (op bd : Int) (W : World) (hb : -1000000 ≤ bd) (hb2 : bd ≤ 9223372036854775807) : Calls Tryz.prog 141 #[.int .i64 op, .int .i64 bd] W fun e W' => e = .returned (.int .i64 (mostZ op bd)) ∧ W' = W := by
  by_cases h1 : op = 1
  · subst h1
    go_enter Tryz.func141, Tryz.ntmps141
    go_wp2
    go_ret
    exact ⟨rfl, rfl⟩
  by_cases h2 : op = 2
  · subst h2
    go_enter Tryz.func141, Tryz.ntmps141
    go_wp2
    go_ret
    exact ⟨rfl, rfl⟩
  by_cases h4 : op = 4
  · subst h4
    go_enter Tryz.func141, Tryz.ntmps141
    go_wp2
    go_ret
    exact ⟨rfl, rfl⟩
  · rw [show mostZ op bd = 0 by unfold mostZ; rw [if_neg h1, if_neg h2, if_neg h4]]
    have k1 : (op == 1) = false := by simpa using h1
    have k2 : (op == 2) = false := by simpa using h2
    have k4 : (op == 4) = false := by simpa using h4
    go_enter Tryz.func141, Tryz.ntmps141
    go_wp2
    go_ret
    exact ⟨rfl, rfl⟩

set_option maxHeartbeats 1000000 in
theorem offsetP_any (x : Int) (W : World) : Calls Tryz.prog 156 #[.int .i64 x] W fun e W' => e = .returned (.bool (wthn x (-MX) MX)) ∧ W' = W := by
  have H := hide fun W => pwithin_any x (-MX) MX W
  generalize wthn x (-MX) MX = z at H
  go_enter Tryz.func156, Tryz.ntmps156
  go_wp2_with fail
  refine (H.out _).mono ?_
  rintro e W1 ⟨rfl, rfl⟩
  go_wp2_with fail
  go_ret
  exact ⟨rfl, rfl⟩

set_option maxRecDepth 100000 in
set_option maxHeartbeats 2000000 in
theorem mayBe_any (a b c d : Int) (W : World) : Calls Tryz.prog 140 #[.agg (pl4 a b c d)] W fun e W' => e = .returned (.bool (mayP a b c d)) ∧ Below W.heap.size W W' := by
  have HB := hide (bel1 W (.cells (pl4 a b c d) 76))
  have H1 := hide fun W => pwithin_any a 0 MX W
  have H2 := hide fun W => offsetP_any c W
  have H3 := hide fun W => offsetP_any d W
  cases hok : (b == 2 || (b == 1 && d == 0)) with
  | false =>
    rw [show mayP a b c d = false by unfold mayP; rw [hok]; rfl]
    simp only [Bool.or_eq_false_iff] at hok
    obtain ⟨k1, k2⟩ := hok
    have k1' : (b != 2) = true := by simpa using k1
    cases k3 : (b == 1) with
    | false =>
      have k3' : (b != 1) = true := by simpa using k3
      clear k1 k2 k3
      go_enter Tryz.func140, Tryz.ntmps140
      go_wp2_with fail
      go_ret
      exact ⟨rfl, HB.out⟩
    | true =>
      rw [k3, Bool.true_and] at k2
      have k4 : (d != 0) = true := by simpa using k2
      have k3' : (b != 1) = false := by simpa using k3
      clear k1 k2 k3
      go_enter Tryz.func140, Tryz.ntmps140
      go_wp2_with fail
      go_ret
      exact ⟨rfl, HB.out⟩
  | true =>
    rw [show mayP a b c d = (wthn a 0 MX && (wthn c (-MX) MX && wthn d (-MX) MX)) by unfold mayP; rw [hok]; rfl]
    generalize wthn a 0 MX = z1 at *
    generalize wthn c (-MX) MX = z2 at *
    generalize wthn d (-MX) MX = z3 at *
    have hg : ((b != 2) = false) ∨ ((b != 2) = true ∧ (b != 1) = false ∧ (d != 0) = false) := by
      simp only [Bool.or_eq_true, Bool.and_eq_true, beq_iff_eq] at hok
      by_cases h2 : b = 2
      · left; simp [h2]
      · right
        rcases hok with h | ⟨h, h'⟩
        · exact absurd h h2
        · subst h; subst h'; decide
    clear hok
    cases z1 with
    | false =>
      rw [Bool.false_and]
      rcases hg with hg | ⟨hg1, hg2, hg3⟩
      all_goals
        go_enter Tryz.func140, Tryz.ntmps140
        go_wp2_with fail
        refine (H1.out _).mono ?_
        rintro e W1 ⟨rfl, rfl⟩
        go_wp2_with fail
        go_ret
        exact ⟨rfl, HB.out⟩
    | true =>
      rw [Bool.true_and]
      cases z2 with
      | false =>
        rw [Bool.false_and]
        rcases hg with hg | ⟨hg1, hg2, hg3⟩
        all_goals
          go_enter Tryz.func140, Tryz.ntmps140
          go_wp2_with fail
          refine (H1.out _).mono ?_
          rintro e W1 ⟨rfl, rfl⟩
          go_wp2_with fail
          refine (H2.out _).mono ?_
          rintro e W1 ⟨rfl, rfl⟩
          go_wp2_with fail
          go_ret
          exact ⟨rfl, HB.out⟩
      | true =>
        rw [Bool.true_and]
        rcases hg with hg | ⟨hg1, hg2, hg3⟩
        all_goals
          go_enter Tryz.func140, Tryz.ntmps140
          go_wp2_with fail
          refine (H1.out _).mono ?_
          rintro e W1 ⟨rfl, rfl⟩
          go_wp2_with fail
          refine (H2.out _).mono ?_
          rintro e W1 ⟨rfl, rfl⟩
          go_wp2_with fail
          refine (H3.out _).mono ?_
          rintro e W1 ⟨rfl, rfl⟩
          go_wp2_with fail
          go_ret
          exact ⟨rfl, HB.out⟩

end Go.Proofs.YtlhbgkaknfhlnaaGreat

/-
  fields, taken, ends of parse.Check.
-/
namespace Go.Proofs.YtlhbgkaknfhlnaaGreat
open Go.RowKit Go.IntWalk Lx Pz
set_option linter.unusedVariables false

theorem eq_arr3 (d : Nat) (a b c x y z : Int) (w : World) : (Op.equalIn (d + 2) 135 (.agg #[.int .i64 a, .int .i64 b, .int .i64 c]) (.agg #[.int .i64 x, .int .i64 y, .int .i64 z])).run Tryz.prog w = .ok (a == x && (b == y && c == z)) w := by
  rw [Op.equalIn]
  simp only [Sem.run_bind, run_underlying Tryz.underlying135, Result.andThen_ok]
  simp [go_sem, Std.Legacy.Range.forIn_eq_forIn_range', List.range']
  by_cases h1 : a = x
  · by_cases h2 : b = y
    · by_cases h3 : c = z
      · simp [h1, h2, h3]
      · simp [h1, h2, h3]
    · simp [h1, h2]
  · simp [h1]

theorem plc0_no {n : Nd} (h : plc0 n = false) : ¬ n.back = 0 ∨ (n.back = 0 ∧ ¬ n.co = 0) ∨ (n.back = 0 ∧ n.co = 0 ∧ ¬ n.x = 0) ∨ (n.back = 0 ∧ n.co = 0 ∧ n.x = 0 ∧ ¬ n.y = 0) := by
  by_cases h1 : n.back = 0
  · by_cases h2 : n.co = 0
    · by_cases h3 : n.x = 0
      · by_cases h4 : n.y = 0
        · simp [plc0, h1, h2, h3, h4] at h
        · exact .inr (.inr (.inr ⟨h1, h2, h3, h4⟩))
      · exact .inr (.inr (.inl ⟨h1, h2, h3⟩))
    · exact .inr (.inl ⟨h1, h2⟩)
  · exact .inl h1
theorem plc0_yes {n : Nd} (h : plc0 n = true) : n.back = 0 ∧ n.co = 0 ∧ n.x = 0 ∧ n.y = 0 := by
  simp only [plc0, Bool.and_eq_true, beq_iff_eq] at h
  exact ⟨h.1.1.1, h.1.1.2, h.1.2, h.2⟩

set_option maxRecDepth 100000 in
set_option maxHeartbeats 4000000 in
theorem fields_any (n : Nd) (bd : Int) (W : World) (hb : -1000000 ≤ bd) (hb2 : bd ≤ 9223372036854775807) : Calls Tryz.prog 122 #[.agg (ndA n), .int .i64 bd] W fun e W' => e = .returned (.bool (fldP n bd)) ∧ Below W.heap.size W W' := by
  have HB := hide (bel1 W (.cells (ndA n) 78))
  have HM := hide fun W => mayBe_any n.back n.co n.x n.y W
  have HO := hide fun W => most_any n.op bd W hb hb2
  have HW := hide fun W => pwithin_any n.k 0 (mostZ n.op bd) W
  by_cases h3 : n.op = 3
  · rw [show fldP n bd = (n.k == 0 && mayP n.back n.co n.x n.y) by unfold fldP; rw [if_pos h3]]
    have k3 : (n.op == 3) = true := by simpa using h3
    cases hk : (n.k == 0) with
    | false =>
      rw [Bool.false_and]
      clear h3
      go_enter Tryz.func122, Tryz.ntmps122
      go_wp2_with fail
      go_ret
      exact ⟨rfl, HB.out⟩
    | true =>
      rw [Bool.true_and]
      clear h3
      go_enter Tryz.func122, Tryz.ntmps122
      go_wp2_with fail
      refine (HM.out _).mono ?_
      rintro e W1 ⟨rfl, hb1⟩
      have HB1 := hide (bel HB.out hb1)
      clear hb1
      go_wp2_with fail
      go_ret
      exact ⟨rfl, HB1.out⟩
  · have k3 : (n.op == 3) = false := by simpa using h3
    rw [show fldP n bd = (plc0 n && wthn n.k 0 (mostZ n.op bd)) by unfold fldP; rw [if_neg h3]]
    generalize mostZ n.op bd = mz at *
    generalize wthn n.k 0 mz = z at *
    have HN := hide (HasC.new W 78 (ndA n))
    clear h3 HM
    cases hp : plc0 n with
    | false =>
      rw [Bool.false_and]
      have hc := plc0_no hp
      obtain ⟨op, a, b, c, k, back, co, x, y⟩ := n
      simp only at hc k3 HB HN HO HW
      clear hp HO HW
      have HBB := hide (show ∀ nq, Below W.heap.size W ((W.alloc (.cells (ndA ⟨op, a, b, c, k, back, co, x, y⟩) 78)).drewN nq) from fun nq => bel HB.out (below_drewN _ nq))
      go_enter Tryz.func122, Tryz.ntmps122
      go_wp2_with fail
      obtain ⟨e0, e1, e2, e3, e4, e5, e6, e7, e8⟩ := HN.out.nine
      simp only at e0 e1 e2 e3 e4 e5 e6 e7 e8
      generalize W.alloc (.cells (ndA ⟨op, a, b, c, k, back, co, x, y⟩) 78) = V at *
      generalize hq : W.heap.size = q at *
      rcases hc with h1 | ⟨h1, h2⟩ | ⟨h1, h2, h3⟩ | ⟨h1, h2, h3, h4⟩
      · go_quiet (fail)
        go_wp2_with fail
        go_ret
        exact ⟨rfl, by rw [hq]; exact HBB.out _⟩
      · subst h1
        go_quiet (fail)
        go_wp2_with fail
        go_ret
        exact ⟨rfl, by rw [hq]; exact HBB.out _⟩
      · subst h1 h2
        go_quiet (fail)
        go_wp2_with fail
        go_ret
        exact ⟨rfl, by rw [hq]; exact HBB.out _⟩
      · subst h1 h2 h3
        go_quiet (fail)
        go_wp2_with fail
        go_ret
        exact ⟨rfl, by rw [hq]; exact HBB.out _⟩
    | true =>
      rw [Bool.true_and]
      obtain ⟨h1, h2, h3, h4⟩ := plc0_yes hp
      obtain ⟨op, a, b, c, k, back, co, x, y⟩ := n
      simp only at h1 h2 h3 h4 k3 HB HN HO HW
      subst h1 h2 h3 h4
      clear hp
      have HBB := hide (show ∀ nq, Below W.heap.size W ((W.alloc (.cells (ndA ⟨op, a, b, c, k, 0, 0, 0, 0⟩) 78)).drewN nq) from fun nq => bel HB.out (below_drewN _ nq))
      go_enter Tryz.func122, Tryz.ntmps122
      go_wp2_with fail
      obtain ⟨e0, e1, e2, e3, e4, e5, e6, e7, e8⟩ := HN.out.nine
      simp only at e0 e1 e2 e3 e4 e5 e6 e7 e8
      generalize W.alloc (.cells (ndA ⟨op, a, b, c, k, 0, 0, 0, 0⟩) 78) = V at *
      generalize hq : W.heap.size = q at *
      go_quiet ((first | (go_at_call 141; exact Calls.quiet_of_same (HO.out _)) | (go_at_call 120; exact Calls.quiet_of_same (HW.out _))))
      go_wp2_with fail
      go_ret
      exact ⟨rfl, by rw [hq]; exact HBB.out _⟩

/-- At most three numbers, as a node tells them. -/
abbrev tk3 (L : List Int) : Array Value := #[.int .i64 (L.getD 0 0), .int .i64 (L.getD 1 0), .int .i64 (L.getD 2 0)]
theorem splice3 {L : List Int} (h : L.length ≤ 3) : (splice [Value.int .i64 0, .int .i64 0, .int .i64 0] 0 (in64 L)).toArray = tk3 L := by
  match L, h with
  | [], _ => rfl
  | [a], _ => rfl
  | [a, b], _ => rfl
  | [a, b, c], _ => rfl
  | _ :: _ :: _ :: _ :: _, h => simp at h

theorem infoI1 : (Tryz.prog.info? 3).map (·.size) = some 1 := by kernel_rfl
theorem copy3 {V : World} {a : Option Addr} {n cap g : Nat} {L : List Int} (h : Iz V a n cap L) (h3 : n ≤ 3) (hA : HasC V g 135 #[.int .i64 0, .int .i64 0, .int .i64 0]) :
    ∃ V', (Builtin.copy_ #[43, 43] 3 #[.slice (some ⟨g, 0, none⟩) 3 3, .slice a n cap]).run Tryz.prog V = .ok (.int .i64 L.length) V' ∧ HasC V' g 135 (tk3 L) ∧ V.grownBy V' (some g) := by
  have hl := h.len
  by_cases hn : n = 0
  · subst hn
    obtain rfl : L = [] := List.length_eq_zero_iff.1 hl
    exact ⟨V, run_copy_none V 43 43 3 3 _ _ 3 3 0 cap Tryz.underlying43 infoI1 rfl, hA, World.grownBy.refl _ _⟩
  · obtain ⟨b, off, rfl, hlt, hc⟩ : ∃ b off, a = some ⟨b, off, none⟩ ∧ b < V.heap.size ∧ ∀ i, i < n → V.cell? ⟨b, off + i, none⟩ = some (.int .i64 (L.getD i 0)) := by
      rcases h.cell with h0 | h
      · exact absurd h0 hn
      · exact h
    have hr := run_copy_row (P := Tryz.prog) V 43 43 3 3 g 0 3 3 ⟨b, off, none⟩ n cap #[.int .i64 0, .int .i64 0, .int .i64 0] 135 (in64 L) Tryz.underlying43 infoI1 hA (by rw [List.length_map, hl]; exact (Nat.min_eq_left h3).symm)
      (by
        intro j v hv
        rw [List.getElem?_map] at hv
        cases hj : L[j]? with
        | none => rw [hj] at hv; cases hv
        | some x =>
          rw [hj] at hv
          cases hv
          have hjl : j < L.length := (List.getElem?_eq_some_iff.1 hj).1
          have := hc j (by omega)
          rw [List.getD_eq_getElem?_getD, hj] at this
          rw [Addr.add_lit]
          exact this) (by simp; omega) (by simp [Value.oneCell'])
    have e : (#[Value.int .i64 0, .int .i64 0, .int .i64 0].toList.take 0 ++ in64 L ++ #[Value.int .i64 0, .int .i64 0, .int .i64 0].toList.drop (0 + (in64 L).length)).toArray = tk3 L := by
      match L, (show L.length ≤ 3 by omega) with
      | [], _ => rfl
      | [x], _ => rfl
      | [x, y], _ => rfl
      | [x, y, z], _ => rfl
      | _ :: _ :: _ :: _ :: _, h => simp at h
    rw [e, List.length_map] at hr
    refine ⟨V.setRow g (tk3 L), hr, setRow_heap V g _ (tk3 L) 135 (0, 0) hA, ⟨rfl, rfl, rfl, by rw [size_setRow]; exact Nat.le_refl _, fun k hk hne => setRow_other V g k _ (fun e => hne (by rw [e]))⟩⟩

set_option maxRecDepth 100000 in
set_option maxHeartbeats 2000000 in
theorem taken_any {W : World} {a : Option Addr} {n cap : Nat} {L : List Int} (h : Iz W a n cap L) (h3 : n ≤ 3) :
    Calls Tryz.prog 123 #[.slice a n cap] W fun e W' => e = .returned (.agg (tk3 L)) ∧ Below W.heap.size W W' := by
  have hb2 := bel (bel1 W (.cells #[.int .i64 0, .int .i64 0, .int .i64 0] 135)) (bel1 (W.alloc (.cells #[.int .i64 0, .int .i64 0, .int .i64 0] 135)) (.cells #[.int .i64 0, .int .i64 0, .int .i64 0] 135))
  have hR := (HasC.new W 135 #[.int .i64 0, .int .i64 0, .int .i64 0]).alloc (.cells #[.int .i64 0, .int .i64 0, .int .i64 0] 135)
  have hA := HasC.new (W.alloc (.cells #[.int .i64 0, .int .i64 0, .int .i64 0] 135)) 135 #[.int .i64 0, .int .i64 0, .int .i64 0]
  rw [World.size_alloc] at hA
  obtain ⟨V', hrun, hA', hg⟩ := copy3 (h.later hb2) h3 hA
  have HR := hide (hR.kept hg (by simp))
  have HA' := hide hA'
  have HB := hide (hb2.grown hg hb2.size (fun k hk => by cases hk; omega))
  clear h hb2 hR hA hA' hg
  go_enter Tryz.func123, Tryz.ntmps123
  go_upto_region 2 with fail
  generalize (W.alloc (.cells #[.int .i64 0, .int .i64 0, .int .i64 0] 135)).alloc (.cells #[.int .i64 0, .int .i64 0, .int .i64 0] 135) = V at hrun ⊢
  obtain ⟨c0, c1, c2⟩ := facts3 HA'.out
  obtain ⟨d0, d1, d2⟩ := facts3 HR.out
  obtain ⟨y0, y1, y2⟩ := free3 HR.out
  have e1 := (HR.out.set 0 (.int .i64 (L.getD 0 0))).cell 1 rfl
  have z1 := (HR.out.set 0 (.int .i64 (L.getD 0 0))).frozen 1
  have e2 := ((HR.out.set 0 (.int .i64 (L.getD 0 0))).set 1 (.int .i64 (L.getD 1 0))).cell 2 rfl
  have z2 := ((HR.out.set 0 (.int .i64 (L.getD 0 0))).set 1 (.int .i64 (L.getD 1 0))).frozen 2
  have HF := hide (((HR.out.set 0 (.int .i64 (L.getD 0 0))).set 1 (.int .i64 (L.getD 1 0))).set 2 (.int .i64 (L.getD 2 0)))
  have HFB := hide (((HB.out.setCell (p := ⟨W.heap.size, 0, none⟩) (Nat.le_refl _) (.int .i64 (L.getD 0 0))).setCell (p := ⟨W.heap.size, 1, none⟩) (Nat.le_refl _) (.int .i64 (L.getD 1 0))).setCell (p := ⟨W.heap.size, 2, none⟩) (Nat.le_refl _) (.int .i64 (L.getD 2 0)))
  generalize hl0 : L.getD 0 0 = l0 at *
  generalize hl1 : L.getD 1 0 = l1 at *
  generalize hl2 : L.getD 2 0 = l2 at *
  have H0 := hide hl0
  have H1 := hide hl1
  have H2 := hide hl2
  clear hl0 hl1 hl2
  go_wp2_with fail
  obtain ⟨f0, f1, f2⟩ := facts3 HF.out
  exact bodyPost_ret (v := .agg #[.int .i64 l0, .int .i64 l1, .int .i64 l2]) (by simp [results, Tryz.results123, go_sem, f0, f1, f2]) rfl ⟨by rw [← H0.out, ← H1.out, ← H2.out], HFB.out⟩

/-- ends. -/
def endsP (n : Nat) (root : Int) : Bool := wthn n 1 1024 && root == (n : Int) - 1
set_option maxRecDepth 100000 in
set_option maxHeartbeats 2000000 in
theorem ends_any (nv bv : Value) (da : Option Addr) (d dc : Nat) (root : Int) (W : World) (hd : d ≤ 9223372036854775807) (h1 : ∃ a n c, nv = .slice a n c) (h2 : ∃ a n c, bv = .slice a n c) :
    Calls Tryz.prog 88 #[.agg (tr4 nv bv (.slice da d dc) (.int .i64 root))] W fun e W' => e = .returned (.bool (endsP d root)) ∧ Below W.heap.size W W' := by
  obtain ⟨a1, n1, c1, rfl⟩ := h1
  obtain ⟨a2, n2, c2, rfl⟩ := h2
  have HB := hide (bel1 W (.cells (tr4 (.slice a1 n1 c1) (.slice a2 n2 c2) (.slice da d dc) (.int .i64 root)) 46))
  have HW := hide fun W => pwithin_any d 1 1024 W
  unfold endsP
  cases hz : wthn d 1 1024 with
  | false =>
    rw [hz] at HW
    rw [Bool.false_and]
    clear hz
    go_enter Tryz.func88, Tryz.ntmps88
    go_wp2_with fail
    refine (HW.out _).mono ?_
    rintro e W1 ⟨rfl, rfl⟩
    go_wp2_with fail
    go_ret
    exact ⟨rfl, HB.out⟩
  | true =>
    rw [hz] at HW
    rw [Bool.true_and]
    clear hz
    go_enter Tryz.func88, Tryz.ntmps88
    go_wp2_with fail
    refine (HW.out _).mono ?_
    rintro e W1 ⟨rfl, rfl⟩
    go_wp2_with fail
    go_ret
    exact ⟨rfl, HB.out⟩

end Go.Proofs.YtlhbgkaknfhlnaaGreat

/-
  mayBeBound of parse.Check.
-/
namespace Pz
open Lx
def nodB : List Txt → Bool
  | [] => true
  | s :: r => !r.contains s && nodB r
theorem nodB_snoc : ∀ (L : List Txt) (s : Txt), nodB (L ++ [s]) = (nodB L && !L.contains s)
  | [], s => by simp [nodB]
  | a :: L, s => by
    simp only [List.cons_append, nodB, nodB_snoc L s, List.contains_append, List.contains_cons, List.contains_nil, Bool.or_false]
    rw [show (a == s) = (s == a) by rw [Bool.eq_iff_iff]; simp; exact ⟨Eq.symm, Eq.symm⟩]
    cases L.contains a <;> cases (s == a) <;> cases nodB L <;> cases L.contains s <;> rfl
/-- May these names be bound? -/
def nmB (L : List Txt) : Bool := (L.all fun s => wrd s && !resv s) && nodB L
theorem nmB_snoc (L : List Txt) (s : Txt) : nmB (L ++ [s]) = (nmB L && (wrd s && !resv s && !L.contains s)) := by
  unfold nmB
  rw [List.all_append, nodB_snoc]
  simp only [List.all_cons, List.all_nil, Bool.and_true]
  cases (L.all fun s => wrd s && !resv s) <;> cases wrd s <;> cases resv s <;> cases nodB L <;> cases L.contains s <;> rfl
theorem nmB_pre {L : List Txt} {k : Nat} (h : nmB (L.take k) = false) : nmB L = false := by
  induction h2 : L.length - k generalizing k with
  | zero => rw [List.take_of_length_le (by omega)] at h; exact h
  | succ m ih =>
    refine ih (k := k + 1) ?_ (by omega)
    rw [List.take_succ_eq_append_getElem (by omega), nmB_snoc, h]
    rfl
end Pz
namespace Go.Proofs.YtlhbgkaknfhlnaaGreat
open Go.RowKit Go.IntWalk Lx Pz
set_option linter.unusedVariables false

theorem lawS : Maps.Keyed Tryz.prog 9 := Maps.string_keyed Tryz.underlying9
theorem zeroU (w : World) : (zeroValue 138).run Tryz.prog w = .ok (.agg #[]) w := by simp [Tryz.zeroValue138]
abbrev setS (L : List Txt) : DataW Unit := Maps.setOf (.agg []) (L.map fun s => Lit.string s)
theorem has_setS (L : List Txt) (s : Txt) : Maps.has (setS L) (.string s) = L.contains s := by
  rw [Maps.has_setOf _ _ _ (by intro x hx; simp at hx; obtain ⟨a, -, rfl⟩ := hx; trivial)]
  rw [List.any_map]
  rw [Bool.eq_iff_iff]
  simp only [List.any_eq_true, Function.comp, Lit.sameKey, beq_iff_eq, List.contains_iff_mem]
  exact ⟨fun ⟨x, hx, e⟩ => e ▸ hx, fun h => ⟨s, h, rfl⟩⟩

theorem keyS (u : ByteArray) (h : u.size ≤ maxLen) : keyOf Tryz.prog 9 (.string u) = some (.string u.data.toList) := by
  rw [keyOf_string Tryz.underlying9]
  simp [mapKey, Tryz.underlying9, h]

theorem makeMap84 (V : World) {n : Nat} (hn : n ≤ 1024) : (Instr.makeMap 137 (some (.int .i64 n))).run Tryz.prog V = .ok (.map (some V.heap.size)) (V.alloc (.map #[] 0)) := by
  simp [Instr.makeMap, asInt, asIntOf, Result.andThen]

set_option maxRecDepth 100000 in
set_option maxHeartbeats 4000000 in
theorem bound_any {W : World} {a : Option Addr} {n cap : Nat} {L : List Txt} (h : Tx W a n cap L) (hn : n ≤ 1024) (hs : ∀ s ∈ L, s.length ≤ 9223372036854775807) :
    Calls Tryz.prog 90 #[.slice a n cap] W fun e W' => e = .returned (.bool (nmB L)) ∧ Below W.heap.size W W' := by
  have HT := hide h
  have HS := hide hs
  have hl := hide h.len
  clear h hs
  have hmm := fun V => makeMap84 V hn
  go_enter Tryz.func90, Tryz.ntmps90
  go_wp2_with fail
  go_loopw [13] (fun i wr => ∃ k : Nat, k ≤ n ∧ i = .int .i64 k ∧ Hid (nmB (L.take k) = true) ∧ Hid (wr.ownsMap Tryz.prog 9 (unitElem (H := Unit)) W.heap.size k (setS (L.take k))) ∧ Hid (Below W.heap.size W wr)) (fun i _ => n - (intOf i).toNat)
  case atStart => exact ⟨0, Nat.zero_le _, rfl, hide (by simp; rfl), hide (World.ownsMap_made W _ _ _), hide (bel1 _ _)⟩
  case round =>
    obtain ⟨k, hk, rfl, HN, HO, HB⟩ := hrel
    rename World => V
    by_cases hlt : k < n
    · obtain ⟨b, off, rfl, hc0⟩ : ∃ b off, a = some ⟨b, off, none⟩ ∧ W.cell? ⟨b, off + k, none⟩ = some (.string (sB (L.getD k []))) := by
        rcases HT.out.cell with h0 | ⟨b, off, ha, hc⟩
        · omega
        · exact ⟨b, off, ha, hc k hlt⟩
      have hc := (HB.out.cell (p := ⟨b, off + k, none⟩) (World.block_lt_of_cell? W _ hc0)).trans hc0
      have hi0 : (0 : Int) ≤ k := by omega
      have hi1 : (k : Int) < n := by omega
      have hkl : k < L.length := by rw [hl.out]; exact hlt
      have hget : L.getD k [] = L[k] := by rw [List.getD_eq_getElem?_getD, List.getElem?_eq_getElem hkl]; rfl
      rw [hget] at hc
      have HSN := hide (show nmB (L.take (k + 1)) = (nmB (L.take k) && (wrd L[k] && !resv L[k] && !(L.take k).contains L[k])) by rw [List.take_succ_eq_append_getElem hkl, nmB_snoc])
      have HTK := hide (show setS (L.take (k + 1)) = (setS (L.take k)).put (.string L[k]) (.agg []) by rw [List.take_succ_eq_append_getElem hkl]; unfold setS; rw [List.map_append]; exact Maps.setOf_snoc _ _ _)
      have hsz := HS.out L[k] (List.getElem_mem hkl)
      have HWd := hide fun V => word_any (sB L[k]) V (by rw [sB_size]; unfold maxLen; omega)
      have HRs := hide fun V => reserved_any (sB L[k]) V
      rw [bs_sB] at HWd HRs
      have HKY := hide (keyS (sB L[k]) (by rw [sB_size]; unfold maxLen; omega))
      rw [show (sB L[k]).data.toList = L[k] from rfl] at HKY
      have HHS := hide (has_setS (L.take k) L[k])
      clear hc0 hget
      generalize L[k] = s at *
      clear hkl
      rw [HN.out, Bool.true_and] at HSN
      cases hw : wrd s with
      | false =>
        rw [hw] at HWd HSN
        generalize sB s = u at hc HWd HRs HKY
        have HF := hide (nmB_pre HSN.out)
        clear hw
        go_wp2_with fail
        refine (HWd.out _).mono ?_
        rintro e V1 ⟨rfl, rfl⟩
        go_wp2_with fail
        go_ret
        exact ⟨ret_bool HF.out.symm, HB.out⟩
      | true =>
        rw [hw] at HWd HSN
        cases hr : resv s with
        | true =>
          rw [hr] at HRs HSN
          generalize sB s = u at hc HWd HRs HKY
          have HF := hide (nmB_pre HSN.out)
          clear hw hr
          go_wp2_with fail
          refine (HWd.out _).mono ?_
          rintro e V1 ⟨rfl, rfl⟩
          go_wp2_with fail
          refine (HRs.out _).mono ?_
          rintro e V1 ⟨rfl, rfl⟩
          go_wp2_with fail
          go_ret
          exact ⟨ret_bool HF.out.symm, HB.out⟩
        | false =>
          rw [hr] at HRs HSN
          clear hw hr
          cases hct : (L.take k).contains s with
          | true =>
            rw [hct] at HSN HHS
            have HF := hide (nmB_pre HSN.out)
            clear hct
            generalize sB s = u at hc HWd HRs HKY
            go_wp2_with fail
            refine (HWd.out _).mono ?_
            rintro e V1 ⟨rfl, rfl⟩
            go_wp2_with fail
            refine (HRs.out _).mono ?_
            rintro e V1 ⟨rfl, rfl⟩
            go_wp2_with (at_lookup; refine wpList_lookup_own_unit _ rfl _ _ 137 rfl 9 138 lawS Tryz.underlying137 (zeroU _) W.heap.size k _ rfl HO.out _ _ rfl HKY.out ?_; rw [HHS.out])
            go_ret
            exact ⟨ret_bool HF.out.symm, bel HB.out (bel1 _ _)⟩
          | false =>
            rw [hct] at HSN HHS
            clear hct
            generalize sB s = u at hc HWd HRs HKY
            go_wp2_with fail
            refine (HWd.out _).mono ?_
            rintro e V1 ⟨rfl, rfl⟩
            go_wp2_with fail
            refine (HRs.out _).mono ?_
            rintro e V1 ⟨rfl, rfl⟩
            go_wp2_with (first | (at_lookup; refine wpList_lookup_own_unit _ rfl _ _ 137 rfl 9 138 lawS Tryz.underlying137 (zeroU _) W.heap.size k _ rfl HO.out _ _ rfl HKY.out ?_; rw [HHS.out]) | (at_mapUpdate; refine wpList_mapUpdate_own _ rfl _ _ _ 137 rfl 9 138 lawS Tryz.underlying137 (unitElem (H := Unit)) W.heap.size k _ rfl (HO.out.alloc _) (by unfold maxLen; omega) _ _ (.string s) rfl rfl HKY.out (.agg []) [] unitElem_mk ?_; intro w1 hown1 hgrow1))
            go_roundw
            case rel => exact ⟨k + 1, by omega, by go_num, hide HSN.out, hide (by rw [HTK.out]; exact hown1), hide ((bel HB.out (bel1 _ _)).grown hgrow1 (by have := HB.out.size; simp; omega) (fun q hq => by cases hq; exact Nat.le_refl _))⟩
            case measure => simp [intOf]; omega
    · obtain rfl : k = n := by omega
      have HF := hide (show nmB L = true by rw [← HN.out, List.take_of_length_le (by rw [hl.out]; exact Nat.le_refl _)])
      go_wp2_with fail
      go_ret
      exact ⟨ret_bool HF.out.symm, HB.out⟩

end Go.Proofs.YtlhbgkaknfhlnaaGreat

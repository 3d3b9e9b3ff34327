/-
  The document's own functions of layer 5: compared.
-/
import Derived.Test.YtbingoelpeoimaaGreatMSpQc
namespace Go.Proofs.YtbingoelpeoimaaGreat.Spn
open Go.RowKit Go.IntWalk Go.Sort
set_option linter.unusedVariables false

set_option maxRecDepth 100000 in
set_option maxHeartbeats 1000000 in
theorem qcmp_22 (a b c d : Int) (w : World) : Calls Tryz.prog 81 #[.int .i64 22, .agg #[.int .i64 a, .int .i64 b], .agg #[.int .i64 c, .int .i64 d]] w fun e w' => e = .returned (.agg #[.int .i64 (eqZ a b c d).1, .int .i64 (eqZ a b c d).2]) ∧ Below w.heap.size w w' := by
  have HB := hide (B3.start w a b c d 0 0)
  rcases (show (b < c ∧ a ≠ b) ∨ (b < c ∧ (a = b ∧ c ≠ d)) ∨ (b < c ∧ (a = b ∧ c = d ∧ a ≠ c)) ∨ ((c ≤ b ∧ d < a) ∧ a ≠ b) ∨ ((c ≤ b ∧ d < a) ∧ (a = b ∧ c ≠ d)) ∨ ((c ≤ b ∧ d < a) ∧ (a = b ∧ c = d ∧ a ≠ c)) ∨ ((c ≤ b ∧ a ≤ d) ∧ a ≠ b) ∨ ((c ≤ b ∧ a ≤ d) ∧ (a = b ∧ c ≠ d)) ∨ ((c ≤ b ∧ a ≤ d) ∧ (a = b ∧ c = d ∧ a = c)) by omega) with g | g | g | g | g | g | g | g | g
  · have e1 : decide (b < c) = true := by simp; omega
    have e3 : (a == b) = false := by simp; omega
    rw [show eqZ a b c d = (0, 0) by unfold eqZ; rw [if_pos (by omega)]]
    clear g
    go_enter Tryz.func81, Tryz.ntmps81
    go_wp2
    exact bodyPost_ret (v := .agg #[.int .i64 0, .int .i64 0]) (by simp [results, Tryz.results81, go_sem]) rfl ⟨rfl, bel3 _ _ _ _ _⟩
  · have e1 : decide (b < c) = true := by simp; omega
    have e3 : (a == b) = true := by simp; omega
    have e4 : (c == d) = false := by simp; omega
    rw [show eqZ a b c d = (0, 0) by unfold eqZ; rw [if_pos (by omega)]]
    clear g
    go_enter Tryz.func81, Tryz.ntmps81
    go_wp2
    exact bodyPost_ret (v := .agg #[.int .i64 0, .int .i64 0]) (by simp [results, Tryz.results81, go_sem]) rfl ⟨rfl, bel3 _ _ _ _ _⟩
  · have e1 : decide (b < c) = true := by simp; omega
    have e3 : (a == b) = true := by simp; omega
    have e4 : (c == d) = true := by simp; omega
    have e5 : (a == c) = false := by simp; omega
    rw [show eqZ a b c d = (0, 0) by unfold eqZ; rw [if_pos (by omega)]]
    clear g
    go_enter Tryz.func81, Tryz.ntmps81
    go_wp2
    exact bodyPost_ret (v := .agg #[.int .i64 0, .int .i64 0]) (by simp [results, Tryz.results81, go_sem]) rfl ⟨rfl, bel3 _ _ _ _ _⟩
  · have e1 : decide (b < c) = false := by simp; omega
    have e2 : decide (d < a) = true := by simp; omega
    have e3 : (a == b) = false := by simp; omega
    rw [show eqZ a b c d = (0, 0) by unfold eqZ; rw [if_pos (by omega)]]
    clear g
    go_enter Tryz.func81, Tryz.ntmps81
    go_wp2
    exact bodyPost_ret (v := .agg #[.int .i64 0, .int .i64 0]) (by simp [results, Tryz.results81, go_sem]) rfl ⟨rfl, bel3 _ _ _ _ _⟩
  · have e1 : decide (b < c) = false := by simp; omega
    have e2 : decide (d < a) = true := by simp; omega
    have e3 : (a == b) = true := by simp; omega
    have e4 : (c == d) = false := by simp; omega
    rw [show eqZ a b c d = (0, 0) by unfold eqZ; rw [if_pos (by omega)]]
    clear g
    go_enter Tryz.func81, Tryz.ntmps81
    go_wp2
    exact bodyPost_ret (v := .agg #[.int .i64 0, .int .i64 0]) (by simp [results, Tryz.results81, go_sem]) rfl ⟨rfl, bel3 _ _ _ _ _⟩
  · have e1 : decide (b < c) = false := by simp; omega
    have e2 : decide (d < a) = true := by simp; omega
    have e3 : (a == b) = true := by simp; omega
    have e4 : (c == d) = true := by simp; omega
    have e5 : (a == c) = false := by simp; omega
    rw [show eqZ a b c d = (0, 0) by unfold eqZ; rw [if_pos (by omega)]]
    clear g
    go_enter Tryz.func81, Tryz.ntmps81
    go_wp2
    exact bodyPost_ret (v := .agg #[.int .i64 0, .int .i64 0]) (by simp [results, Tryz.results81, go_sem]) rfl ⟨rfl, bel3 _ _ _ _ _⟩
  · have e1 : decide (b < c) = false := by simp; omega
    have e2 : decide (d < a) = false := by simp; omega
    have e3 : (a == b) = false := by simp; omega
    rw [show eqZ a b c d = (0, 1) by unfold eqZ; rw [if_neg (by omega), if_neg (by omega)]]
    clear g
    go_enter Tryz.func81, Tryz.ntmps81
    go_wp2
    exact bodyPost_ret (v := .agg #[.int .i64 0, .int .i64 1]) (by simp [results, Tryz.results81, go_sem]) rfl ⟨rfl, bel3 _ _ _ _ _⟩
  · have e1 : decide (b < c) = false := by simp; omega
    have e2 : decide (d < a) = false := by simp; omega
    have e3 : (a == b) = true := by simp; omega
    have e4 : (c == d) = false := by simp; omega
    rw [show eqZ a b c d = (0, 1) by unfold eqZ; rw [if_neg (by omega), if_neg (by omega)]]
    clear g
    go_enter Tryz.func81, Tryz.ntmps81
    go_wp2
    exact bodyPost_ret (v := .agg #[.int .i64 0, .int .i64 1]) (by simp [results, Tryz.results81, go_sem]) rfl ⟨rfl, bel3 _ _ _ _ _⟩
  · have e1 : decide (b < c) = false := by simp; omega
    have e2 : decide (d < a) = false := by simp; omega
    have e3 : (a == b) = true := by simp; omega
    have e4 : (c == d) = true := by simp; omega
    have e5 : (a == c) = true := by simp; omega
    rw [show eqZ a b c d = (1, 1) by unfold eqZ; rw [if_neg (by omega), if_pos (by omega)]]
    clear g
    go_enter Tryz.func81, Tryz.ntmps81
    go_wp2
    exact bodyPost_ret (v := .agg #[.int .i64 1, .int .i64 1]) (by simp [results, Tryz.results81, go_sem]) rfl ⟨rfl, bel3 _ _ _ _ _⟩

set_option maxRecDepth 100000 in
set_option maxHeartbeats 1000000 in
theorem qcmp_23 (a b c d : Int) (w : World) : Calls Tryz.prog 81 #[.int .i64 23, .agg #[.int .i64 a, .int .i64 b], .agg #[.int .i64 c, .int .i64 d]] w fun e w' => e = .returned (.agg #[.int .i64 (1 - (eqZ a b c d).2), .int .i64 (1 - (eqZ a b c d).1)]) ∧ Below w.heap.size w w' := by
  have HB := hide (B3.start w a b c d 0 0)
  rcases (show (b < c ∧ a ≠ b) ∨ (b < c ∧ (a = b ∧ c ≠ d)) ∨ (b < c ∧ (a = b ∧ c = d ∧ a ≠ c)) ∨ ((c ≤ b ∧ d < a) ∧ a ≠ b) ∨ ((c ≤ b ∧ d < a) ∧ (a = b ∧ c ≠ d)) ∨ ((c ≤ b ∧ d < a) ∧ (a = b ∧ c = d ∧ a ≠ c)) ∨ ((c ≤ b ∧ a ≤ d) ∧ a ≠ b) ∨ ((c ≤ b ∧ a ≤ d) ∧ (a = b ∧ c ≠ d)) ∨ ((c ≤ b ∧ a ≤ d) ∧ (a = b ∧ c = d ∧ a = c)) by omega) with g | g | g | g | g | g | g | g | g
  · have e1 : decide (b < c) = true := by simp; omega
    have e3 : (a == b) = false := by simp; omega
    rw [show eqZ a b c d = (0, 0) by unfold eqZ; rw [if_pos (by omega)]]
    clear g
    go_enter Tryz.func81, Tryz.ntmps81
    go_wp2
    exact bodyPost_ret (v := .agg #[.int .i64 1, .int .i64 1]) (by simp [results, Tryz.results81, go_sem]) rfl ⟨rfl, bel3 _ _ _ _ _⟩
  · have e1 : decide (b < c) = true := by simp; omega
    have e3 : (a == b) = true := by simp; omega
    have e4 : (c == d) = false := by simp; omega
    rw [show eqZ a b c d = (0, 0) by unfold eqZ; rw [if_pos (by omega)]]
    clear g
    go_enter Tryz.func81, Tryz.ntmps81
    go_wp2
    exact bodyPost_ret (v := .agg #[.int .i64 1, .int .i64 1]) (by simp [results, Tryz.results81, go_sem]) rfl ⟨rfl, bel3 _ _ _ _ _⟩
  · have e1 : decide (b < c) = true := by simp; omega
    have e3 : (a == b) = true := by simp; omega
    have e4 : (c == d) = true := by simp; omega
    have e5 : (a == c) = false := by simp; omega
    rw [show eqZ a b c d = (0, 0) by unfold eqZ; rw [if_pos (by omega)]]
    clear g
    go_enter Tryz.func81, Tryz.ntmps81
    go_wp2
    exact bodyPost_ret (v := .agg #[.int .i64 1, .int .i64 1]) (by simp [results, Tryz.results81, go_sem]) rfl ⟨rfl, bel3 _ _ _ _ _⟩
  · have e1 : decide (b < c) = false := by simp; omega
    have e2 : decide (d < a) = true := by simp; omega
    have e3 : (a == b) = false := by simp; omega
    rw [show eqZ a b c d = (0, 0) by unfold eqZ; rw [if_pos (by omega)]]
    clear g
    go_enter Tryz.func81, Tryz.ntmps81
    go_wp2
    exact bodyPost_ret (v := .agg #[.int .i64 1, .int .i64 1]) (by simp [results, Tryz.results81, go_sem]) rfl ⟨rfl, bel3 _ _ _ _ _⟩
  · have e1 : decide (b < c) = false := by simp; omega
    have e2 : decide (d < a) = true := by simp; omega
    have e3 : (a == b) = true := by simp; omega
    have e4 : (c == d) = false := by simp; omega
    rw [show eqZ a b c d = (0, 0) by unfold eqZ; rw [if_pos (by omega)]]
    clear g
    go_enter Tryz.func81, Tryz.ntmps81
    go_wp2
    exact bodyPost_ret (v := .agg #[.int .i64 1, .int .i64 1]) (by simp [results, Tryz.results81, go_sem]) rfl ⟨rfl, bel3 _ _ _ _ _⟩
  · have e1 : decide (b < c) = false := by simp; omega
    have e2 : decide (d < a) = true := by simp; omega
    have e3 : (a == b) = true := by simp; omega
    have e4 : (c == d) = true := by simp; omega
    have e5 : (a == c) = false := by simp; omega
    rw [show eqZ a b c d = (0, 0) by unfold eqZ; rw [if_pos (by omega)]]
    clear g
    go_enter Tryz.func81, Tryz.ntmps81
    go_wp2
    exact bodyPost_ret (v := .agg #[.int .i64 1, .int .i64 1]) (by simp [results, Tryz.results81, go_sem]) rfl ⟨rfl, bel3 _ _ _ _ _⟩
  · have e1 : decide (b < c) = false := by simp; omega
    have e2 : decide (d < a) = false := by simp; omega
    have e3 : (a == b) = false := by simp; omega
    rw [show eqZ a b c d = (0, 1) by unfold eqZ; rw [if_neg (by omega), if_neg (by omega)]]
    clear g
    go_enter Tryz.func81, Tryz.ntmps81
    go_wp2
    exact bodyPost_ret (v := .agg #[.int .i64 0, .int .i64 1]) (by simp [results, Tryz.results81, go_sem]) rfl ⟨rfl, bel3 _ _ _ _ _⟩
  · have e1 : decide (b < c) = false := by simp; omega
    have e2 : decide (d < a) = false := by simp; omega
    have e3 : (a == b) = true := by simp; omega
    have e4 : (c == d) = false := by simp; omega
    rw [show eqZ a b c d = (0, 1) by unfold eqZ; rw [if_neg (by omega), if_neg (by omega)]]
    clear g
    go_enter Tryz.func81, Tryz.ntmps81
    go_wp2
    exact bodyPost_ret (v := .agg #[.int .i64 0, .int .i64 1]) (by simp [results, Tryz.results81, go_sem]) rfl ⟨rfl, bel3 _ _ _ _ _⟩
  · have e1 : decide (b < c) = false := by simp; omega
    have e2 : decide (d < a) = false := by simp; omega
    have e3 : (a == b) = true := by simp; omega
    have e4 : (c == d) = true := by simp; omega
    have e5 : (a == c) = true := by simp; omega
    rw [show eqZ a b c d = (1, 1) by unfold eqZ; rw [if_neg (by omega), if_pos (by omega)]]
    clear g
    go_enter Tryz.func81, Tryz.ntmps81
    go_wp2
    exact bodyPost_ret (v := .agg #[.int .i64 0, .int .i64 0]) (by simp [results, Tryz.results81, go_sem]) rfl ⟨rfl, bel3 _ _ _ _ _⟩

set_option maxRecDepth 100000 in
set_option maxHeartbeats 1000000 in
theorem qcmp_18 (a b c d : Int) (w : World) : Calls Tryz.prog 81 #[.int .i64 18, .agg #[.int .i64 a, .int .i64 b], .agg #[.int .i64 c, .int .i64 d]] w fun e w' => e = .returned (.agg #[.int .i64 (min (valZ 18 0 0 [a, d]).1 (valZ 18 0 0 [b, c]).1), .int .i64 (max (valZ 18 0 0 [a, d]).1 (valZ 18 0 0 [b, c]).1)]) ∧ Below w.heap.size w w' := by
  have HB := hide (B3.start w a b c d 0 0)
  have V10 := rvalue_any 18 0 0 _ 2 2 _ _ (lit2 (((w.alloc (cs a b)).alloc (cs c d)).alloc (cs 0 0)) 3 a d)
  simp only [World.size_alloc] at V10
  have V1 := hide V10
  clear V10
  have V2 := fun W => hide (rvalue_any 18 0 0 _ 2 2 _ _ (lit2 W 3 b c))
  obtain ⟨⟨v1, e1⟩, h1⟩ : ∃ Z, valZ 18 0 0 [a, d] = Z := ⟨_, rfl⟩
  obtain ⟨⟨v2, e2⟩, h2⟩ : ∃ Z, valZ 18 0 0 [b, c] = Z := ⟨_, rfl⟩
  rw [h1] at V1 ⊢
  rw [h2] at V2 ⊢
  clear h1 h2
  go_enter Tryz.func81, Tryz.ntmps81
  go_wp2_with fail
  refine V1.out.mono ?_
  rintro e w2 ⟨rfl, hw2⟩
  have hq := hw2.symm
  subst hq
  clear hw2
  have HB2 := hide (HB.out.later (bel1 _ (.cells #[.int .i64 a, .int .i64 d] 3)))
  obtain ⟨W, hW⟩ : ∃ W, ((((w.alloc (.cells #[.int .i64 a, .int .i64 b] 64)).alloc (.cells #[.int .i64 c, .int .i64 d] 64)).alloc (.cells #[.int .i64 0, .int .i64 0] 64)).alloc (.cells #[.int .i64 a, .int .i64 d] 3)) = W := ⟨_, rfl⟩
  rw [hW] at HB2 ⊢
  clear hW HB
  obtain ⟨u1, u2, -, -⟩ := facts2 HB2.out.a
  obtain ⟨u3, u4, -, -⟩ := facts2 HB2.out.b
  go_wp2_with fail
  refine (V2 _).out.mono ?_
  rintro e w2 ⟨rfl, hw2⟩
  have hq := hw2.symm
  subst hq
  clear hw2
  have HB3 := hide (HB2.out.later (bel1 _ (.cells #[.int .i64 b, .int .i64 c] 3)))
  obtain ⟨W2, hW2⟩ : ∃ W2, W.alloc (.cells #[.int .i64 b, .int .i64 c] 3) = W2 := ⟨_, rfl⟩
  rw [hW2] at HB3 ⊢
  clear hW2 HB2 u1 u2 u3 u4
  go_wp2_with fail
  refine (hull2 _ _ _).mono ?_
  rintro e w3 ⟨rfl, hb3⟩
  have HB4 := hide (HB3.out.later (bel (bel1 _ _) hb3))
  clear hb3 HB3
  obtain ⟨u5, u6, u7, u8⟩ := facts2 HB4.out.r
  obtain ⟨x, hx⟩ : ∃ x, min v1 v2 = x := ⟨_, rfl⟩
  obtain ⟨y, hy⟩ : ∃ y, max v1 v2 = y := ⟨_, rfl⟩
  rw [hx, hy]
  have HX := hide hx
  have HY := hide hy
  clear hx hy
  go_wp2_with fail
  obtain ⟨c0, c1, hB4⟩ := stored2 HB4.out.r HB4.out.bel (by omega) x y
  exact bodyPost_ret (v := .agg #[.int .i64 x, .int .i64 y]) (by simp [results, Tryz.results81, go_sem, c0, c1]) rfl ⟨by rw [HX.out, HY.out], hB4⟩

set_option maxRecDepth 100000 in
set_option maxHeartbeats 1000000 in
theorem qcmp_19 (a b c d : Int) (w : World) : Calls Tryz.prog 81 #[.int .i64 19, .agg #[.int .i64 a, .int .i64 b], .agg #[.int .i64 c, .int .i64 d]] w fun e w' => e = .returned (.agg #[.int .i64 (min (valZ 19 0 0 [a, d]).1 (valZ 19 0 0 [b, c]).1), .int .i64 (max (valZ 19 0 0 [a, d]).1 (valZ 19 0 0 [b, c]).1)]) ∧ Below w.heap.size w w' := by
  have HB := hide (B3.start w a b c d 0 0)
  have V10 := rvalue_any 19 0 0 _ 2 2 _ _ (lit2 (((w.alloc (cs a b)).alloc (cs c d)).alloc (cs 0 0)) 3 a d)
  simp only [World.size_alloc] at V10
  have V1 := hide V10
  clear V10
  have V2 := fun W => hide (rvalue_any 19 0 0 _ 2 2 _ _ (lit2 W 3 b c))
  obtain ⟨⟨v1, e1⟩, h1⟩ : ∃ Z, valZ 19 0 0 [a, d] = Z := ⟨_, rfl⟩
  obtain ⟨⟨v2, e2⟩, h2⟩ : ∃ Z, valZ 19 0 0 [b, c] = Z := ⟨_, rfl⟩
  rw [h1] at V1 ⊢
  rw [h2] at V2 ⊢
  clear h1 h2
  go_enter Tryz.func81, Tryz.ntmps81
  go_wp2_with fail
  refine V1.out.mono ?_
  rintro e w2 ⟨rfl, hw2⟩
  have hq := hw2.symm
  subst hq
  clear hw2
  have HB2 := hide (HB.out.later (bel1 _ (.cells #[.int .i64 a, .int .i64 d] 3)))
  obtain ⟨W, hW⟩ : ∃ W, ((((w.alloc (.cells #[.int .i64 a, .int .i64 b] 64)).alloc (.cells #[.int .i64 c, .int .i64 d] 64)).alloc (.cells #[.int .i64 0, .int .i64 0] 64)).alloc (.cells #[.int .i64 a, .int .i64 d] 3)) = W := ⟨_, rfl⟩
  rw [hW] at HB2 ⊢
  clear hW HB
  obtain ⟨u1, u2, -, -⟩ := facts2 HB2.out.a
  obtain ⟨u3, u4, -, -⟩ := facts2 HB2.out.b
  go_wp2_with fail
  refine (V2 _).out.mono ?_
  rintro e w2 ⟨rfl, hw2⟩
  have hq := hw2.symm
  subst hq
  clear hw2
  have HB3 := hide (HB2.out.later (bel1 _ (.cells #[.int .i64 b, .int .i64 c] 3)))
  obtain ⟨W2, hW2⟩ : ∃ W2, W.alloc (.cells #[.int .i64 b, .int .i64 c] 3) = W2 := ⟨_, rfl⟩
  rw [hW2] at HB3 ⊢
  clear hW2 HB2 u1 u2 u3 u4
  go_wp2_with fail
  refine (hull2 _ _ _).mono ?_
  rintro e w3 ⟨rfl, hb3⟩
  have HB4 := hide (HB3.out.later (bel (bel1 _ _) hb3))
  clear hb3 HB3
  obtain ⟨u5, u6, u7, u8⟩ := facts2 HB4.out.r
  obtain ⟨x, hx⟩ : ∃ x, min v1 v2 = x := ⟨_, rfl⟩
  obtain ⟨y, hy⟩ : ∃ y, max v1 v2 = y := ⟨_, rfl⟩
  rw [hx, hy]
  have HX := hide hx
  have HY := hide hy
  clear hx hy
  go_wp2_with fail
  obtain ⟨c0, c1, hB4⟩ := stored2 HB4.out.r HB4.out.bel (by omega) x y
  exact bodyPost_ret (v := .agg #[.int .i64 x, .int .i64 y]) (by simp [results, Tryz.results81, go_sem, c0, c1]) rfl ⟨by rw [HX.out, HY.out], hB4⟩

set_option maxRecDepth 100000 in
set_option maxHeartbeats 1000000 in
theorem qcmp_20 (a b c d : Int) (w : World) : Calls Tryz.prog 81 #[.int .i64 20, .agg #[.int .i64 a, .int .i64 b], .agg #[.int .i64 c, .int .i64 d]] w fun e w' => e = .returned (.agg #[.int .i64 (min (valZ 20 0 0 [a, d]).1 (valZ 20 0 0 [b, c]).1), .int .i64 (max (valZ 20 0 0 [a, d]).1 (valZ 20 0 0 [b, c]).1)]) ∧ Below w.heap.size w w' := by
  have HB := hide (B3.start w a b c d 0 0)
  have V10 := rvalue_any 20 0 0 _ 2 2 _ _ (lit2 (((w.alloc (cs a b)).alloc (cs c d)).alloc (cs 0 0)) 3 a d)
  simp only [World.size_alloc] at V10
  have V1 := hide V10
  clear V10
  have V2 := fun W => hide (rvalue_any 20 0 0 _ 2 2 _ _ (lit2 W 3 b c))
  obtain ⟨⟨v1, e1⟩, h1⟩ : ∃ Z, valZ 20 0 0 [a, d] = Z := ⟨_, rfl⟩
  obtain ⟨⟨v2, e2⟩, h2⟩ : ∃ Z, valZ 20 0 0 [b, c] = Z := ⟨_, rfl⟩
  rw [h1] at V1 ⊢
  rw [h2] at V2 ⊢
  clear h1 h2
  go_enter Tryz.func81, Tryz.ntmps81
  go_wp2_with fail
  refine V1.out.mono ?_
  rintro e w2 ⟨rfl, hw2⟩
  have hq := hw2.symm
  subst hq
  clear hw2
  have HB2 := hide (HB.out.later (bel1 _ (.cells #[.int .i64 a, .int .i64 d] 3)))
  obtain ⟨W, hW⟩ : ∃ W, ((((w.alloc (.cells #[.int .i64 a, .int .i64 b] 64)).alloc (.cells #[.int .i64 c, .int .i64 d] 64)).alloc (.cells #[.int .i64 0, .int .i64 0] 64)).alloc (.cells #[.int .i64 a, .int .i64 d] 3)) = W := ⟨_, rfl⟩
  rw [hW] at HB2 ⊢
  clear hW HB
  obtain ⟨u1, u2, -, -⟩ := facts2 HB2.out.a
  obtain ⟨u3, u4, -, -⟩ := facts2 HB2.out.b
  go_wp2_with fail
  refine (V2 _).out.mono ?_
  rintro e w2 ⟨rfl, hw2⟩
  have hq := hw2.symm
  subst hq
  clear hw2
  have HB3 := hide (HB2.out.later (bel1 _ (.cells #[.int .i64 b, .int .i64 c] 3)))
  obtain ⟨W2, hW2⟩ : ∃ W2, W.alloc (.cells #[.int .i64 b, .int .i64 c] 3) = W2 := ⟨_, rfl⟩
  rw [hW2] at HB3 ⊢
  clear hW2 HB2 u1 u2 u3 u4
  go_wp2_with fail
  refine (hull2 _ _ _).mono ?_
  rintro e w3 ⟨rfl, hb3⟩
  have HB4 := hide (HB3.out.later (bel (bel1 _ _) hb3))
  clear hb3 HB3
  obtain ⟨u5, u6, u7, u8⟩ := facts2 HB4.out.r
  obtain ⟨x, hx⟩ : ∃ x, min v1 v2 = x := ⟨_, rfl⟩
  obtain ⟨y, hy⟩ : ∃ y, max v1 v2 = y := ⟨_, rfl⟩
  rw [hx, hy]
  have HX := hide hx
  have HY := hide hy
  clear hx hy
  go_wp2_with fail
  obtain ⟨c0, c1, hB4⟩ := stored2 HB4.out.r HB4.out.bel (by omega) x y
  exact bodyPost_ret (v := .agg #[.int .i64 x, .int .i64 y]) (by simp [results, Tryz.results81, go_sem, c0, c1]) rfl ⟨by rw [HX.out, HY.out], hB4⟩

set_option maxRecDepth 100000 in
set_option maxHeartbeats 1000000 in
theorem qcmp_21 (a b c d : Int) (w : World) : Calls Tryz.prog 81 #[.int .i64 21, .agg #[.int .i64 a, .int .i64 b], .agg #[.int .i64 c, .int .i64 d]] w fun e w' => e = .returned (.agg #[.int .i64 (min (valZ 21 0 0 [a, d]).1 (valZ 21 0 0 [b, c]).1), .int .i64 (max (valZ 21 0 0 [a, d]).1 (valZ 21 0 0 [b, c]).1)]) ∧ Below w.heap.size w w' := by
  have HB := hide (B3.start w a b c d 0 0)
  have V10 := rvalue_any 21 0 0 _ 2 2 _ _ (lit2 (((w.alloc (cs a b)).alloc (cs c d)).alloc (cs 0 0)) 3 a d)
  simp only [World.size_alloc] at V10
  have V1 := hide V10
  clear V10
  have V2 := fun W => hide (rvalue_any 21 0 0 _ 2 2 _ _ (lit2 W 3 b c))
  obtain ⟨⟨v1, e1⟩, h1⟩ : ∃ Z, valZ 21 0 0 [a, d] = Z := ⟨_, rfl⟩
  obtain ⟨⟨v2, e2⟩, h2⟩ : ∃ Z, valZ 21 0 0 [b, c] = Z := ⟨_, rfl⟩
  rw [h1] at V1 ⊢
  rw [h2] at V2 ⊢
  clear h1 h2
  go_enter Tryz.func81, Tryz.ntmps81
  go_wp2_with fail
  refine V1.out.mono ?_
  rintro e w2 ⟨rfl, hw2⟩
  have hq := hw2.symm
  subst hq
  clear hw2
  have HB2 := hide (HB.out.later (bel1 _ (.cells #[.int .i64 a, .int .i64 d] 3)))
  obtain ⟨W, hW⟩ : ∃ W, ((((w.alloc (.cells #[.int .i64 a, .int .i64 b] 64)).alloc (.cells #[.int .i64 c, .int .i64 d] 64)).alloc (.cells #[.int .i64 0, .int .i64 0] 64)).alloc (.cells #[.int .i64 a, .int .i64 d] 3)) = W := ⟨_, rfl⟩
  rw [hW] at HB2 ⊢
  clear hW HB
  obtain ⟨u1, u2, -, -⟩ := facts2 HB2.out.a
  obtain ⟨u3, u4, -, -⟩ := facts2 HB2.out.b
  go_wp2_with fail
  refine (V2 _).out.mono ?_
  rintro e w2 ⟨rfl, hw2⟩
  have hq := hw2.symm
  subst hq
  clear hw2
  have HB3 := hide (HB2.out.later (bel1 _ (.cells #[.int .i64 b, .int .i64 c] 3)))
  obtain ⟨W2, hW2⟩ : ∃ W2, W.alloc (.cells #[.int .i64 b, .int .i64 c] 3) = W2 := ⟨_, rfl⟩
  rw [hW2] at HB3 ⊢
  clear hW2 HB2 u1 u2 u3 u4
  go_wp2_with fail
  refine (hull2 _ _ _).mono ?_
  rintro e w3 ⟨rfl, hb3⟩
  have HB4 := hide (HB3.out.later (bel (bel1 _ _) hb3))
  clear hb3 HB3
  obtain ⟨u5, u6, u7, u8⟩ := facts2 HB4.out.r
  obtain ⟨x, hx⟩ : ∃ x, min v1 v2 = x := ⟨_, rfl⟩
  obtain ⟨y, hy⟩ : ∃ y, max v1 v2 = y := ⟨_, rfl⟩
  rw [hx, hy]
  have HX := hide hx
  have HY := hide hy
  clear hx hy
  go_wp2_with fail
  obtain ⟨c0, c1, hB4⟩ := stored2 HB4.out.r HB4.out.bel (by omega) x y
  exact bodyPost_ret (v := .agg #[.int .i64 x, .int .i64 y]) (by simp [results, Tryz.results81, go_sem, c0, c1]) rfl ⟨by rw [HX.out, HY.out], hB4⟩

end Go.Proofs.YtbingoelpeoimaaGreat.Spn

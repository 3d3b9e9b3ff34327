/-
  The document's own functions of layer 5: compared.
-/
import Derived.Test.YtihbhbeaihdgnaaGreatRGS
namespace Go.Proofs.YtihbhbeaihdgnaaGreat.Spn
open Go.RowKit Go.IntWalk Go.Sort
set_option linter.unusedVariables false

set_option maxRecDepth 100000 in
set_option maxHeartbeats 1000000 in
theorem qcmp_22 (a b c d : Int) (w : World) : Calls Tryz.prog 134 #[.int .i64 22, .agg #[.int .i64 a, .int .i64 b], .agg #[.int .i64 c, .int .i64 d]] w fun e w' => e = .returned (.agg #[.int .i64 (eqZ a b c d).1, .int .i64 (eqZ a b c d).2]) ∧ Below w.heap.size w w' := by
  have HB := hide (B3.start w a b c d 0 0)
  rcases (show (b < c ∧ a ≠ b) ∨ (b < c ∧ (a = b ∧ c ≠ d)) ∨ (b < c ∧ (a = b ∧ c = d ∧ a ≠ c)) ∨ ((c ≤ b ∧ d < a) ∧ a ≠ b) ∨ ((c ≤ b ∧ d < a) ∧ (a = b ∧ c ≠ d)) ∨ ((c ≤ b ∧ d < a) ∧ (a = b ∧ c = d ∧ a ≠ c)) ∨ ((c ≤ b ∧ a ≤ d) ∧ a ≠ b) ∨ ((c ≤ b ∧ a ≤ d) ∧ (a = b ∧ c ≠ d)) ∨ ((c ≤ b ∧ a ≤ d) ∧ (a = b ∧ c = d ∧ a = c)) by omega) with g | g | g | g | g | g | g | g | g
  · have e1 : decide (b < c) = true := by simp; omega
    have e3 : (a == b) = false := by simp; omega
    rw [show eqZ a b c d = (0, 0) by unfold eqZ; rw [if_pos (by omega)]]
    clear g
    go_enter Tryz.func134, Tryz.ntmps134
    go_wp2
    exact bodyPost_ret (v := .agg #[.int .i64 0, .int .i64 0]) (by simp [results, Tryz.results134, go_sem]) rfl ⟨rfl, bel3 _ _ _ _ _⟩
  · have e1 : decide (b < c) = true := by simp; omega
    have e3 : (a == b) = true := by simp; omega
    have e4 : (c == d) = false := by simp; omega
    rw [show eqZ a b c d = (0, 0) by unfold eqZ; rw [if_pos (by omega)]]
    clear g
    go_enter Tryz.func134, Tryz.ntmps134
    go_wp2
    exact bodyPost_ret (v := .agg #[.int .i64 0, .int .i64 0]) (by simp [results, Tryz.results134, go_sem]) rfl ⟨rfl, bel3 _ _ _ _ _⟩
  · have e1 : decide (b < c) = true := by simp; omega
    have e3 : (a == b) = true := by simp; omega
    have e4 : (c == d) = true := by simp; omega
    have e5 : (a == c) = false := by simp; omega
    rw [show eqZ a b c d = (0, 0) by unfold eqZ; rw [if_pos (by omega)]]
    clear g
    go_enter Tryz.func134, Tryz.ntmps134
    go_wp2
    exact bodyPost_ret (v := .agg #[.int .i64 0, .int .i64 0]) (by simp [results, Tryz.results134, go_sem]) rfl ⟨rfl, bel3 _ _ _ _ _⟩
  · have e1 : decide (b < c) = false := by simp; omega
    have e2 : decide (d < a) = true := by simp; omega
    have e3 : (a == b) = false := by simp; omega
    rw [show eqZ a b c d = (0, 0) by unfold eqZ; rw [if_pos (by omega)]]
    clear g
    go_enter Tryz.func134, Tryz.ntmps134
    go_wp2
    exact bodyPost_ret (v := .agg #[.int .i64 0, .int .i64 0]) (by simp [results, Tryz.results134, go_sem]) rfl ⟨rfl, bel3 _ _ _ _ _⟩
  · have e1 : decide (b < c) = false := by simp; omega
    have e2 : decide (d < a) = true := by simp; omega
    have e3 : (a == b) = true := by simp; omega
    have e4 : (c == d) = false := by simp; omega
    rw [show eqZ a b c d = (0, 0) by unfold eqZ; rw [if_pos (by omega)]]
    clear g
    go_enter Tryz.func134, Tryz.ntmps134
    go_wp2
    exact bodyPost_ret (v := .agg #[.int .i64 0, .int .i64 0]) (by simp [results, Tryz.results134, go_sem]) rfl ⟨rfl, bel3 _ _ _ _ _⟩
  · have e1 : decide (b < c) = false := by simp; omega
    have e2 : decide (d < a) = true := by simp; omega
    have e3 : (a == b) = true := by simp; omega
    have e4 : (c == d) = true := by simp; omega
    have e5 : (a == c) = false := by simp; omega
    rw [show eqZ a b c d = (0, 0) by unfold eqZ; rw [if_pos (by omega)]]
    clear g
    go_enter Tryz.func134, Tryz.ntmps134
    go_wp2
    exact bodyPost_ret (v := .agg #[.int .i64 0, .int .i64 0]) (by simp [results, Tryz.results134, go_sem]) rfl ⟨rfl, bel3 _ _ _ _ _⟩
  · have e1 : decide (b < c) = false := by simp; omega
    have e2 : decide (d < a) = false := by simp; omega
    have e3 : (a == b) = false := by simp; omega
    rw [show eqZ a b c d = (0, 1) by unfold eqZ; rw [if_neg (by omega), if_neg (by omega)]]
    clear g
    go_enter Tryz.func134, Tryz.ntmps134
    go_wp2
    exact bodyPost_ret (v := .agg #[.int .i64 0, .int .i64 1]) (by simp [results, Tryz.results134, go_sem]) rfl ⟨rfl, bel3 _ _ _ _ _⟩
  · have e1 : decide (b < c) = false := by simp; omega
    have e2 : decide (d < a) = false := by simp; omega
    have e3 : (a == b) = true := by simp; omega
    have e4 : (c == d) = false := by simp; omega
    rw [show eqZ a b c d = (0, 1) by unfold eqZ; rw [if_neg (by omega), if_neg (by omega)]]
    clear g
    go_enter Tryz.func134, Tryz.ntmps134
    go_wp2
    exact bodyPost_ret (v := .agg #[.int .i64 0, .int .i64 1]) (by simp [results, Tryz.results134, go_sem]) rfl ⟨rfl, bel3 _ _ _ _ _⟩
  · have e1 : decide (b < c) = false := by simp; omega
    have e2 : decide (d < a) = false := by simp; omega
    have e3 : (a == b) = true := by simp; omega
    have e4 : (c == d) = true := by simp; omega
    have e5 : (a == c) = true := by simp; omega
    rw [show eqZ a b c d = (1, 1) by unfold eqZ; rw [if_neg (by omega), if_pos (by omega)]]
    clear g
    go_enter Tryz.func134, Tryz.ntmps134
    go_wp2
    exact bodyPost_ret (v := .agg #[.int .i64 1, .int .i64 1]) (by simp [results, Tryz.results134, go_sem]) rfl ⟨rfl, bel3 _ _ _ _ _⟩

set_option maxRecDepth 100000 in
set_option maxHeartbeats 1000000 in
theorem qcmp_23 (a b c d : Int) (w : World) : Calls Tryz.prog 134 #[.int .i64 23, .agg #[.int .i64 a, .int .i64 b], .agg #[.int .i64 c, .int .i64 d]] w fun e w' => e = .returned (.agg #[.int .i64 (1 - (eqZ a b c d).2), .int .i64 (1 - (eqZ a b c d).1)]) ∧ Below w.heap.size w w' := by
  have HB := hide (B3.start w a b c d 0 0)
  rcases (show (b < c ∧ a ≠ b) ∨ (b < c ∧ (a = b ∧ c ≠ d)) ∨ (b < c ∧ (a = b ∧ c = d ∧ a ≠ c)) ∨ ((c ≤ b ∧ d < a) ∧ a ≠ b) ∨ ((c ≤ b ∧ d < a) ∧ (a = b ∧ c ≠ d)) ∨ ((c ≤ b ∧ d < a) ∧ (a = b ∧ c = d ∧ a ≠ c)) ∨ ((c ≤ b ∧ a ≤ d) ∧ a ≠ b) ∨ ((c ≤ b ∧ a ≤ d) ∧ (a = b ∧ c ≠ d)) ∨ ((c ≤ b ∧ a ≤ d) ∧ (a = b ∧ c = d ∧ a = c)) by omega) with g | g | g | g | g | g | g | g | g
  · have e1 : decide (b < c) = true := by simp; omega
    have e3 : (a == b) = false := by simp; omega
    rw [show eqZ a b c d = (0, 0) by unfold eqZ; rw [if_pos (by omega)]]
    clear g
    go_enter Tryz.func134, Tryz.ntmps134
    go_wp2
    exact bodyPost_ret (v := .agg #[.int .i64 1, .int .i64 1]) (by simp [results, Tryz.results134, go_sem]) rfl ⟨rfl, bel3 _ _ _ _ _⟩
  · have e1 : decide (b < c) = true := by simp; omega
    have e3 : (a == b) = true := by simp; omega
    have e4 : (c == d) = false := by simp; omega
    rw [show eqZ a b c d = (0, 0) by unfold eqZ; rw [if_pos (by omega)]]
    clear g
    go_enter Tryz.func134, Tryz.ntmps134
    go_wp2
    exact bodyPost_ret (v := .agg #[.int .i64 1, .int .i64 1]) (by simp [results, Tryz.results134, go_sem]) rfl ⟨rfl, bel3 _ _ _ _ _⟩
  · have e1 : decide (b < c) = true := by simp; omega
    have e3 : (a == b) = true := by simp; omega
    have e4 : (c == d) = true := by simp; omega
    have e5 : (a == c) = false := by simp; omega
    rw [show eqZ a b c d = (0, 0) by unfold eqZ; rw [if_pos (by omega)]]
    clear g
    go_enter Tryz.func134, Tryz.ntmps134
    go_wp2
    exact bodyPost_ret (v := .agg #[.int .i64 1, .int .i64 1]) (by simp [results, Tryz.results134, go_sem]) rfl ⟨rfl, bel3 _ _ _ _ _⟩
  · have e1 : decide (b < c) = false := by simp; omega
    have e2 : decide (d < a) = true := by simp; omega
    have e3 : (a == b) = false := by simp; omega
    rw [show eqZ a b c d = (0, 0) by unfold eqZ; rw [if_pos (by omega)]]
    clear g
    go_enter Tryz.func134, Tryz.ntmps134
    go_wp2
    exact bodyPost_ret (v := .agg #[.int .i64 1, .int .i64 1]) (by simp [results, Tryz.results134, go_sem]) rfl ⟨rfl, bel3 _ _ _ _ _⟩
  · have e1 : decide (b < c) = false := by simp; omega
    have e2 : decide (d < a) = true := by simp; omega
    have e3 : (a == b) = true := by simp; omega
    have e4 : (c == d) = false := by simp; omega
    rw [show eqZ a b c d = (0, 0) by unfold eqZ; rw [if_pos (by omega)]]
    clear g
    go_enter Tryz.func134, Tryz.ntmps134
    go_wp2
    exact bodyPost_ret (v := .agg #[.int .i64 1, .int .i64 1]) (by simp [results, Tryz.results134, go_sem]) rfl ⟨rfl, bel3 _ _ _ _ _⟩
  · have e1 : decide (b < c) = false := by simp; omega
    have e2 : decide (d < a) = true := by simp; omega
    have e3 : (a == b) = true := by simp; omega
    have e4 : (c == d) = true := by simp; omega
    have e5 : (a == c) = false := by simp; omega
    rw [show eqZ a b c d = (0, 0) by unfold eqZ; rw [if_pos (by omega)]]
    clear g
    go_enter Tryz.func134, Tryz.ntmps134
    go_wp2
    exact bodyPost_ret (v := .agg #[.int .i64 1, .int .i64 1]) (by simp [results, Tryz.results134, go_sem]) rfl ⟨rfl, bel3 _ _ _ _ _⟩
  · have e1 : decide (b < c) = false := by simp; omega
    have e2 : decide (d < a) = false := by simp; omega
    have e3 : (a == b) = false := by simp; omega
    rw [show eqZ a b c d = (0, 1) by unfold eqZ; rw [if_neg (by omega), if_neg (by omega)]]
    clear g
    go_enter Tryz.func134, Tryz.ntmps134
    go_wp2
    exact bodyPost_ret (v := .agg #[.int .i64 0, .int .i64 1]) (by simp [results, Tryz.results134, go_sem]) rfl ⟨rfl, bel3 _ _ _ _ _⟩
  · have e1 : decide (b < c) = false := by simp; omega
    have e2 : decide (d < a) = false := by simp; omega
    have e3 : (a == b) = true := by simp; omega
    have e4 : (c == d) = false := by simp; omega
    rw [show eqZ a b c d = (0, 1) by unfold eqZ; rw [if_neg (by omega), if_neg (by omega)]]
    clear g
    go_enter Tryz.func134, Tryz.ntmps134
    go_wp2
    exact bodyPost_ret (v := .agg #[.int .i64 0, .int .i64 1]) (by simp [results, Tryz.results134, go_sem]) rfl ⟨rfl, bel3 _ _ _ _ _⟩
  · have e1 : decide (b < c) = false := by simp; omega
    have e2 : decide (d < a) = false := by simp; omega
    have e3 : (a == b) = true := by simp; omega
    have e4 : (c == d) = true := by simp; omega
    have e5 : (a == c) = true := by simp; omega
    rw [show eqZ a b c d = (1, 1) by unfold eqZ; rw [if_neg (by omega), if_pos (by omega)]]
    clear g
    go_enter Tryz.func134, Tryz.ntmps134
    go_wp2
    exact bodyPost_ret (v := .agg #[.int .i64 0, .int .i64 0]) (by simp [results, Tryz.results134, go_sem]) rfl ⟨rfl, bel3 _ _ _ _ _⟩

set_option maxRecDepth 100000 in
set_option maxHeartbeats 1000000 in
theorem qcmp_18 (a b c d : Int) (w : World) : Calls Tryz.prog 134 #[.int .i64 18, .agg #[.int .i64 a, .int .i64 b], .agg #[.int .i64 c, .int .i64 d]] w fun e w' => e = .returned (.agg #[.int .i64 (min (valZ 18 0 0 [a, d]).1 (valZ 18 0 0 [b, c]).1), .int .i64 (max (valZ 18 0 0 [a, d]).1 (valZ 18 0 0 [b, c]).1)]) ∧ Below w.heap.size w w' := by
  have HB := hide (B3.start w a b c d 0 0)
  have V10 := rvalue_any 18 0 0 _ 2 2 _ _ (lit2 (((w.alloc (cs a b)).alloc (cs c d)).alloc (cs 0 0)) 3 a d)
  simp only [World.size_alloc] at V10
  have V1 := hide V10
  clear V10
  have V2 := fun W => hide (rvalue_any 18 0 0 _ 2 2 _ _ (lit2 W 3 b c))
  obtain ⟨⟨v1, e1⟩, h1⟩ : ∃ Z, valZ 18 0 0 [a, d] = Z := ⟨_, rfl⟩
  obtain ⟨⟨v2, e2⟩, h2⟩ : ∃ Z, valZ 18 0 0 [b, c] = Z := ⟨_, rfl⟩
  rw [h1] at V1 ⊢
  rw [h2] at V2 ⊢
  clear h1 h2
  go_enter Tryz.func134, Tryz.ntmps134
  go_wp2_with fail
  refine V1.out.mono ?_
  rintro e w2 ⟨rfl, hw2⟩
  have hq := hw2.symm
  subst hq
  clear hw2
  have HB2 := hide (HB.out.later (bel1 _ (.cells #[.int .i64 a, .int .i64 d] 3)))
  obtain ⟨W, hW⟩ : ∃ W, ((((w.alloc (.cells #[.int .i64 a, .int .i64 b] 74)).alloc (.cells #[.int .i64 c, .int .i64 d] 74)).alloc (.cells #[.int .i64 0, .int .i64 0] 74)).alloc (.cells #[.int .i64 a, .int .i64 d] 3)) = W := ⟨_, rfl⟩
  rw [hW] at HB2 ⊢
  clear hW HB
  obtain ⟨u1, u2, -, -⟩ := facts2 HB2.out.a
  obtain ⟨u3, u4, -, -⟩ := facts2 HB2.out.b
  go_wp2_with fail
  refine (V2 _).out.mono ?_
  rintro e w2 ⟨rfl, hw2⟩
  have hq := hw2.symm
  subst hq
  clear hw2
  have HB3 := hide (HB2.out.later (bel1 _ (.cells #[.int .i64 b, .int .i64 c] 3)))
  obtain ⟨W2, hW2⟩ : ∃ W2, W.alloc (.cells #[.int .i64 b, .int .i64 c] 3) = W2 := ⟨_, rfl⟩
  rw [hW2] at HB3 ⊢
  clear hW2 HB2 u1 u2 u3 u4
  go_wp2_with fail
  refine (hull2 _ _ _).mono ?_
  rintro e w3 ⟨rfl, hb3⟩
  have HB4 := hide (HB3.out.later (bel (bel1 _ _) hb3))
  clear hb3 HB3
  obtain ⟨u5, u6, u7, u8⟩ := facts2 HB4.out.r
  obtain ⟨x, hx⟩ : ∃ x, min v1 v2 = x := ⟨_, rfl⟩
  obtain ⟨y, hy⟩ : ∃ y, max v1 v2 = y := ⟨_, rfl⟩
  rw [hx, hy]
  have HX := hide hx
  have HY := hide hy
  clear hx hy
  go_wp2_with fail
  obtain ⟨c0, c1, hB4⟩ := stored2 HB4.out.r HB4.out.bel (by omega) x y
  exact bodyPost_ret (v := .agg #[.int .i64 x, .int .i64 y]) (by simp [results, Tryz.results134, go_sem, c0, c1]) rfl ⟨by rw [HX.out, HY.out], hB4⟩

set_option maxRecDepth 100000 in
set_option maxHeartbeats 1000000 in
theorem qcmp_19 (a b c d : Int) (w : World) : Calls Tryz.prog 134 #[.int .i64 19, .agg #[.int .i64 a, .int .i64 b], .agg #[.int .i64 c, .int .i64 d]] w fun e w' => e = .returned (.agg #[.int .i64 (min (valZ 19 0 0 [a, d]).1 (valZ 19 0 0 [b, c]).1), .int .i64 (max (valZ 19 0 0 [a, d]).1 (valZ 19 0 0 [b, c]).1)]) ∧ Below w.heap.size w w' := by
  have HB := hide (B3.start w a b c d 0 0)
  have V10 := rvalue_any 19 0 0 _ 2 2 _ _ (lit2 (((w.alloc (cs a b)).alloc (cs c d)).alloc (cs 0 0)) 3 a d)
  simp only [World.size_alloc] at V10
  have V1 := hide V10
  clear V10
  have V2 := fun W => hide (rvalue_any 19 0 0 _ 2 2 _ _ (lit2 W 3 b c))
  obtain ⟨⟨v1, e1⟩, h1⟩ : ∃ Z, valZ 19 0 0 [a, d] = Z := ⟨_, rfl⟩
  obtain ⟨⟨v2, e2⟩, h2⟩ : ∃ Z, valZ 19 0 0 [b, c] = Z := ⟨_, rfl⟩
  rw [h1] at V1 ⊢
  rw [h2] at V2 ⊢
  clear h1 h2
  go_enter Tryz.func134, Tryz.ntmps134
  go_wp2_with fail
  refine V1.out.mono ?_
  rintro e w2 ⟨rfl, hw2⟩
  have hq := hw2.symm
  subst hq
  clear hw2
  have HB2 := hide (HB.out.later (bel1 _ (.cells #[.int .i64 a, .int .i64 d] 3)))
  obtain ⟨W, hW⟩ : ∃ W, ((((w.alloc (.cells #[.int .i64 a, .int .i64 b] 74)).alloc (.cells #[.int .i64 c, .int .i64 d] 74)).alloc (.cells #[.int .i64 0, .int .i64 0] 74)).alloc (.cells #[.int .i64 a, .int .i64 d] 3)) = W := ⟨_, rfl⟩
  rw [hW] at HB2 ⊢
  clear hW HB
  obtain ⟨u1, u2, -, -⟩ := facts2 HB2.out.a
  obtain ⟨u3, u4, -, -⟩ := facts2 HB2.out.b
  go_wp2_with fail
  refine (V2 _).out.mono ?_
  rintro e w2 ⟨rfl, hw2⟩
  have hq := hw2.symm
  subst hq
  clear hw2
  have HB3 := hide (HB2.out.later (bel1 _ (.cells #[.int .i64 b, .int .i64 c] 3)))
  obtain ⟨W2, hW2⟩ : ∃ W2, W.alloc (.cells #[.int .i64 b, .int .i64 c] 3) = W2 := ⟨_, rfl⟩
  rw [hW2] at HB3 ⊢
  clear hW2 HB2 u1 u2 u3 u4
  go_wp2_with fail
  refine (hull2 _ _ _).mono ?_
  rintro e w3 ⟨rfl, hb3⟩
  have HB4 := hide (HB3.out.later (bel (bel1 _ _) hb3))
  clear hb3 HB3
  obtain ⟨u5, u6, u7, u8⟩ := facts2 HB4.out.r
  obtain ⟨x, hx⟩ : ∃ x, min v1 v2 = x := ⟨_, rfl⟩
  obtain ⟨y, hy⟩ : ∃ y, max v1 v2 = y := ⟨_, rfl⟩
  rw [hx, hy]
  have HX := hide hx
  have HY := hide hy
  clear hx hy
  go_wp2_with fail
  obtain ⟨c0, c1, hB4⟩ := stored2 HB4.out.r HB4.out.bel (by omega) x y
  exact bodyPost_ret (v := .agg #[.int .i64 x, .int .i64 y]) (by simp [results, Tryz.results134, go_sem, c0, c1]) rfl ⟨by rw [HX.out, HY.out], hB4⟩

set_option maxRecDepth 100000 in
set_option maxHeartbeats 1000000 in
theorem qcmp_20 (a b c d : Int) (w : World) : Calls Tryz.prog 134 #[.int .i64 20, .agg #[.int .i64 a, .int .i64 b], .agg #[.int .i64 c, .int .i64 d]] w fun e w' => e = .returned (.agg #[.int .i64 (min (valZ 20 0 0 [a, d]).1 (valZ 20 0 0 [b, c]).1), .int .i64 (max (valZ 20 0 0 [a, d]).1 (valZ 20 0 0 [b, c]).1)]) ∧ Below w.heap.size w w' := by
  have HB := hide (B3.start w a b c d 0 0)
  have V10 := rvalue_any 20 0 0 _ 2 2 _ _ (lit2 (((w.alloc (cs a b)).alloc (cs c d)).alloc (cs 0 0)) 3 a d)
  simp only [World.size_alloc] at V10
  have V1 := hide V10
  clear V10
  have V2 := fun W => hide (rvalue_any 20 0 0 _ 2 2 _ _ (lit2 W 3 b c))
  obtain ⟨⟨v1, e1⟩, h1⟩ : ∃ Z, valZ 20 0 0 [a, d] = Z := ⟨_, rfl⟩
  obtain ⟨⟨v2, e2⟩, h2⟩ : ∃ Z, valZ 20 0 0 [b, c] = Z := ⟨_, rfl⟩
  rw [h1] at V1 ⊢
  rw [h2] at V2 ⊢
  clear h1 h2
  go_enter Tryz.func134, Tryz.ntmps134
  go_wp2_with fail
  refine V1.out.mono ?_
  rintro e w2 ⟨rfl, hw2⟩
  have hq := hw2.symm
  subst hq
  clear hw2
  have HB2 := hide (HB.out.later (bel1 _ (.cells #[.int .i64 a, .int .i64 d] 3)))
  obtain ⟨W, hW⟩ : ∃ W, ((((w.alloc (.cells #[.int .i64 a, .int .i64 b] 74)).alloc (.cells #[.int .i64 c, .int .i64 d] 74)).alloc (.cells #[.int .i64 0, .int .i64 0] 74)).alloc (.cells #[.int .i64 a, .int .i64 d] 3)) = W := ⟨_, rfl⟩
  rw [hW] at HB2 ⊢
  clear hW HB
  obtain ⟨u1, u2, -, -⟩ := facts2 HB2.out.a
  obtain ⟨u3, u4, -, -⟩ := facts2 HB2.out.b
  go_wp2_with fail
  refine (V2 _).out.mono ?_
  rintro e w2 ⟨rfl, hw2⟩
  have hq := hw2.symm
  subst hq
  clear hw2
  have HB3 := hide (HB2.out.later (bel1 _ (.cells #[.int .i64 b, .int .i64 c] 3)))
  obtain ⟨W2, hW2⟩ : ∃ W2, W.alloc (.cells #[.int .i64 b, .int .i64 c] 3) = W2 := ⟨_, rfl⟩
  rw [hW2] at HB3 ⊢
  clear hW2 HB2 u1 u2 u3 u4
  go_wp2_with fail
  refine (hull2 _ _ _).mono ?_
  rintro e w3 ⟨rfl, hb3⟩
  have HB4 := hide (HB3.out.later (bel (bel1 _ _) hb3))
  clear hb3 HB3
  obtain ⟨u5, u6, u7, u8⟩ := facts2 HB4.out.r
  obtain ⟨x, hx⟩ : ∃ x, min v1 v2 = x := ⟨_, rfl⟩
  obtain ⟨y, hy⟩ : ∃ y, max v1 v2 = y := ⟨_, rfl⟩
  rw [hx, hy]
  have HX := hide hx
  have HY := hide hy
  clear hx hy
  go_wp2_with fail
  obtain ⟨c0, c1, hB4⟩ := stored2 HB4.out.r HB4.out.bel (by omega) x y
  exact bodyPost_ret (v := .agg #[.int .i64 x, .int .i64 y]) (by simp [results, Tryz.results134, go_sem, c0, c1]) rfl ⟨by rw [HX.out, HY.out], hB4⟩

set_option maxRecDepth 100000 in
set_option maxHeartbeats 1000000 in
theorem qcmp_21 (a b c d : Int) (w : World) : Calls Tryz.prog 134 #[.int .i64 21, .agg #[.int .i64 a, .int .i64 b], .agg #[.int .i64 c, .int .i64 d]] w fun e w' => e = .returned (.agg #[.int .i64 (min (valZ 21 0 0 [a, d]).1 (valZ 21 0 0 [b, c]).1), .int .i64 (max (valZ 21 0 0 [a, d]).1 (valZ 21 0 0 [b, c]).1)]) ∧ Below w.heap.size w w' := by
  have HB := hide (B3.start w a b c d 0 0)
  have V10 := rvalue_any 21 0 0 _ 2 2 _ _ (lit2 (((w.alloc (cs a b)).alloc (cs c d)).alloc (cs 0 0)) 3 a d)
  simp only [World.size_alloc] at V10
  have V1 := hide V10
  clear V10
  have V2 := fun W => hide (rvalue_any 21 0 0 _ 2 2 _ _ (lit2 W 3 b c))
  obtain ⟨⟨v1, e1⟩, h1⟩ : ∃ Z, valZ 21 0 0 [a, d] = Z := ⟨_, rfl⟩
  obtain ⟨⟨v2, e2⟩, h2⟩ : ∃ Z, valZ 21 0 0 [b, c] = Z := ⟨_, rfl⟩
  rw [h1] at V1 ⊢
  rw [h2] at V2 ⊢
  clear h1 h2
  go_enter Tryz.func134, Tryz.ntmps134
  go_wp2_with fail
  refine V1.out.mono ?_
  rintro e w2 ⟨rfl, hw2⟩
  have hq := hw2.symm
  subst hq
  clear hw2
  have HB2 := hide (HB.out.later (bel1 _ (.cells #[.int .i64 a, .int .i64 d] 3)))
  obtain ⟨W, hW⟩ : ∃ W, ((((w.alloc (.cells #[.int .i64 a, .int .i64 b] 74)).alloc (.cells #[.int .i64 c, .int .i64 d] 74)).alloc (.cells #[.int .i64 0, .int .i64 0] 74)).alloc (.cells #[.int .i64 a, .int .i64 d] 3)) = W := ⟨_, rfl⟩
  rw [hW] at HB2 ⊢
  clear hW HB
  obtain ⟨u1, u2, -, -⟩ := facts2 HB2.out.a
  obtain ⟨u3, u4, -, -⟩ := facts2 HB2.out.b
  go_wp2_with fail
  refine (V2 _).out.mono ?_
  rintro e w2 ⟨rfl, hw2⟩
  have hq := hw2.symm
  subst hq
  clear hw2
  have HB3 := hide (HB2.out.later (bel1 _ (.cells #[.int .i64 b, .int .i64 c] 3)))
  obtain ⟨W2, hW2⟩ : ∃ W2, W.alloc (.cells #[.int .i64 b, .int .i64 c] 3) = W2 := ⟨_, rfl⟩
  rw [hW2] at HB3 ⊢
  clear hW2 HB2 u1 u2 u3 u4
  go_wp2_with fail
  refine (hull2 _ _ _).mono ?_
  rintro e w3 ⟨rfl, hb3⟩
  have HB4 := hide (HB3.out.later (bel (bel1 _ _) hb3))
  clear hb3 HB3
  obtain ⟨u5, u6, u7, u8⟩ := facts2 HB4.out.r
  obtain ⟨x, hx⟩ : ∃ x, min v1 v2 = x := ⟨_, rfl⟩
  obtain ⟨y, hy⟩ : ∃ y, max v1 v2 = y := ⟨_, rfl⟩
  rw [hx, hy]
  have HX := hide hx
  have HY := hide hy
  clear hx hy
  go_wp2_with fail
  obtain ⟨c0, c1, hB4⟩ := stored2 HB4.out.r HB4.out.bel (by omega) x y
  exact bodyPost_ret (v := .agg #[.int .i64 x, .int .i64 y]) (by simp [results, Tryz.results134, go_sem, c0, c1]) rfl ⟨by rw [HX.out, HY.out], hB4⟩

end Go.Proofs.YtihbhbeaihdgnaaGreat.Spn

/-
  The document's own functions of layer 5: paired.
-/
namespace Go.Proofs.YtihbhbeaihdgnaaGreat.Spn
open Go.RowKit Go.IntWalk Go.Sort
set_option linter.unusedVariables false
attribute [local go_sem] fld0 fld1

theorem B3.put {w W : World} {a b c d : Int} (h : B3 w W a b c d 0 0) (x y : Int) : Below w.heap.size w ((W.setCell ⟨w.heap.size + 1 + 1, 0, none⟩ (.int .i64 x)).setCell ⟨w.heap.size + 1 + 1, 1, none⟩ (.int .i64 y)) := (stored2 h.r h.bel (by omega) x y).2.2

set_option maxRecDepth 100000 in
/-- One call, whose answer is handed on. -/
theorem qpair_call (op : Int) (fn : FuncId) (a b c d : Int) (Z : Int × Int) (w : World) (hop : (fn = 94 ∧ op = 10) ∨ (fn = 95 ∧ (op = 15 ∨ op = 16 ∨ op = 17)) ∨ (fn = 134 ∧ (op = 18 ∨ op = 19 ∨ op = 20 ∨ op = 21 ∨ op = 22 ∨ op = 23)))
    (H : ∀ W, Calls Tryz.prog fn #[.int .i64 op, .agg #[.int .i64 a, .int .i64 b], .agg #[.int .i64 c, .int .i64 d]] W fun e w' => e = .returned (.agg #[.int .i64 Z.1, .int .i64 Z.2]) ∧ Below W.heap.size W w') :
    Calls Tryz.prog 99 #[.int .i64 op, .agg #[.int .i64 a, .int .i64 b], .agg #[.int .i64 c, .int .i64 d]] w fun e w' => e = .returned (spV (Z, 0)) ∧ Below w.heap.size w w' := by
  have HB := hide (B3.start w a b c d 0 0)
  have HC := fun W => hide (H W)
  clear H
  obtain ⟨x, y⟩ := Z
  rcases hop with ⟨rfl, rfl⟩ | ⟨rfl, rfl | rfl | rfl⟩ | ⟨rfl, rfl | rfl | rfl | rfl | rfl | rfl⟩ <;>
  · go_enter Tryz.func99, Tryz.ntmps99
    go_wp2_with fail
    refine (HC _).out.mono ?_
    rintro e w2 ⟨rfl, hb2⟩
    have HB2 := hide (HB.out.later hb2)
    clear hb2
    obtain ⟨u5, u6, u7, u8⟩ := facts2 HB2.out.r
    go_wp2_with fail
    obtain ⟨c0, c1, hB4⟩ := stored2 HB2.out.r HB2.out.bel (by omega) x y
    exact bodyPost_ret (v := .tuple #[.agg #[.int .i64 x, .int .i64 y], .int .i64 0]) (by simp [results, Tryz.results99, go_sem, c0, c1]) rfl ⟨rfl, hB4⟩

set_option maxRecDepth 100000 in
theorem qpair_8 (a b c d : Int) (w : World) (ha : W32 a) (hb : W32 b) (hc : W32 c) (hd : W32 d) : Calls Tryz.prog 99 #[.int .i64 8, .agg #[.int .i64 a, .int .i64 b], .agg #[.int .i64 c, .int .i64 d]] w fun e w' => e = .returned (spV ((a + c, b + d), 0)) ∧ Below w.heap.size w w' := by
  go_enter Tryz.func99, Tryz.ntmps99
  go_wp2
  exact bodyPost_ret (v := .tuple #[.agg #[.int .i64 (a + c), .int .i64 (b + d)], .int .i64 0]) (by simp [results, Tryz.results99, go_sem]) rfl ⟨rfl, bel3 _ _ _ _ _⟩
set_option maxRecDepth 100000 in
theorem qpair_9 (a b c d : Int) (w : World) (ha : W32 a) (hb : W32 b) (hc : W32 c) (hd : W32 d) : Calls Tryz.prog 99 #[.int .i64 9, .agg #[.int .i64 a, .int .i64 b], .agg #[.int .i64 c, .int .i64 d]] w fun e w' => e = .returned (spV ((a - d, b - c), 0)) ∧ Below w.heap.size w w' := by
  go_enter Tryz.func99, Tryz.ntmps99
  go_wp2
  exact bodyPost_ret (v := .tuple #[.agg #[.int .i64 (a - d), .int .i64 (b - c)], .int .i64 0]) (by simp [results, Tryz.results99, go_sem]) rfl ⟨rfl, bel3 _ _ _ _ _⟩

set_option maxRecDepth 100000 in
/-- OpDiv and OpMod by a span that has 0. -/
theorem qpair_zero (op a b c d : Int) (w : World) (ho : op = 11 ∨ op = 12) (h0 : hasB c d 0 = true) : Calls Tryz.prog 99 #[.int .i64 op, .agg #[.int .i64 a, .int .i64 b], .agg #[.int .i64 c, .int .i64 d]] w fun e w' => e = .returned (spV ((0, 0), 12)) ∧ Below w.heap.size w w' := by
  have HB := hide (B3.start w a b c d 0 0)
  have HH := fun w => hide (rhas_any c d 0 w)
  rw [h0] at HH
  rcases ho with rfl | rfl <;>
  · go_enter Tryz.func99, Tryz.ntmps99
    go_wp2_with fail
    refine (HH _).out.mono ?_
    rintro e w2 ⟨rfl, hb2⟩
    have HB2 := hide (HB.out.later hb2)
    clear hb2
    obtain ⟨u5, u6, u7, u8⟩ := facts2 HB2.out.r
    go_wp2_with fail
    obtain ⟨c0, c1, hB4⟩ := stored2 HB2.out.r HB2.out.bel (by omega) 0 0
    exact bodyPost_ret (v := .tuple #[.agg #[.int .i64 0, .int .i64 0], .int .i64 12]) (by simp [results, Tryz.results99, go_sem, c0, c1]) rfl ⟨rfl, hB4⟩

set_option maxRecDepth 100000 in
theorem qpair_11 (a b c d : Int) (Z : Int × Int) (w : World) (h0 : hasB c d 0 = false)
    (H : ∀ W, Calls Tryz.prog 94 #[.int .i64 11, .agg #[.int .i64 a, .int .i64 b], .agg #[.int .i64 c, .int .i64 d]] W fun e w' => e = .returned (.agg #[.int .i64 Z.1, .int .i64 Z.2]) ∧ Below W.heap.size W w') :
    Calls Tryz.prog 99 #[.int .i64 11, .agg #[.int .i64 a, .int .i64 b], .agg #[.int .i64 c, .int .i64 d]] w fun e w' => e = .returned (spV (Z, 0)) ∧ Below w.heap.size w w' := by
  have HB := hide (B3.start w a b c d 0 0)
  have HC := fun W => hide (H W)
  have HH := fun w => hide (rhas_any c d 0 w)
  rw [h0] at HH
  clear H
  obtain ⟨x, y⟩ := Z
  go_enter Tryz.func99, Tryz.ntmps99
  go_wp2_with fail
  refine (HH _).out.mono ?_
  rintro e w2 ⟨rfl, hb2⟩
  have HB2 := hide (HB.out.later hb2)
  clear hb2
  obtain ⟨u1, u2, -, -⟩ := facts2 HB2.out.a
  obtain ⟨u3, u4, -, -⟩ := facts2 HB2.out.b
  go_wp2_with fail
  refine (HC _).out.mono ?_
  rintro e w3 ⟨rfl, hb3⟩
  have HB3 := hide (HB2.out.later hb3)
  clear hb3
  obtain ⟨u5, u6, u7, u8⟩ := facts2 HB3.out.r
  go_wp2_with fail
  obtain ⟨c0, c1, hB4⟩ := stored2 HB3.out.r HB3.out.bel (by omega) x y
  exact bodyPost_ret (v := .tuple #[.agg #[.int .i64 x, .int .i64 y], .int .i64 0]) (by simp [results, Tryz.results99, go_sem, c0, c1]) rfl ⟨rfl, hB4⟩

set_option maxRecDepth 100000 in
theorem qpair_sh_bad (op a b c d : Int) (w : World) (ho : op = 13 ∨ op = 14) (h0 : c < 0 ∨ 31 < d) : Calls Tryz.prog 99 #[.int .i64 op, .agg #[.int .i64 a, .int .i64 b], .agg #[.int .i64 c, .int .i64 d]] w fun e w' => e = .returned (spV ((0, 0), 13)) ∧ Below w.heap.size w w' := by
  rcases (show c < 0 ∨ (0 ≤ c ∧ 31 < d) by omega) with g | g
  · have e1 : decide (c < 0) = true := by simp; omega
    rcases ho with rfl | rfl <;>
    · go_enter Tryz.func99, Tryz.ntmps99
      go_wp2
      exact bodyPost_ret (v := .tuple #[.agg #[.int .i64 0, .int .i64 0], .int .i64 13]) (by simp [results, Tryz.results99, go_sem]) rfl ⟨rfl, bel3 _ _ _ _ _⟩
  · have e1 : decide (c < 0) = false := by simp; omega
    have e2 : decide (31 < d) = true := by simp; omega
    rcases ho with rfl | rfl <;>
    · go_enter Tryz.func99, Tryz.ntmps99
      go_wp2
      exact bodyPost_ret (v := .tuple #[.agg #[.int .i64 0, .int .i64 0], .int .i64 13]) (by simp [results, Tryz.results99, go_sem]) rfl ⟨rfl, bel3 _ _ _ _ _⟩

set_option maxRecDepth 100000 in
theorem qpair_sh (op a b c d : Int) (Z : Int × Int) (w : World) (ho : op = 13 ∨ op = 14) (h0 : 0 ≤ c ∧ d ≤ 31)
    (H : ∀ W, Calls Tryz.prog 94 #[.int .i64 op, .agg #[.int .i64 a, .int .i64 b], .agg #[.int .i64 c, .int .i64 d]] W fun e w' => e = .returned (.agg #[.int .i64 Z.1, .int .i64 Z.2]) ∧ Below W.heap.size W w') :
    Calls Tryz.prog 99 #[.int .i64 op, .agg #[.int .i64 a, .int .i64 b], .agg #[.int .i64 c, .int .i64 d]] w fun e w' => e = .returned (spV (Z, 0)) ∧ Below w.heap.size w w' := by
  have HB := hide (B3.start w a b c d 0 0)
  have HC := fun W => hide (H W)
  clear H
  obtain ⟨x, y⟩ := Z
  have e1 : decide (c < 0) = false := by simp; omega
  have e2 : decide (31 < d) = false := by simp; omega
  rcases ho with rfl | rfl <;>
  · go_enter Tryz.func99, Tryz.ntmps99
    go_wp2_with fail
    refine (HC _).out.mono ?_
    rintro e w3 ⟨rfl, hb3⟩
    have HB3 := hide (HB.out.later hb3)
    clear hb3
    obtain ⟨u5, u6, u7, u8⟩ := facts2 HB3.out.r
    go_wp2_with fail
    obtain ⟨c0, c1, hB4⟩ := stored2 HB3.out.r HB3.out.bel (by omega) x y
    exact bodyPost_ret (v := .tuple #[.agg #[.int .i64 x, .int .i64 y], .int .i64 0]) (by simp [results, Tryz.results99, go_sem, c0, c1]) rfl ⟨rfl, hB4⟩

end Go.Proofs.YtihbhbeaihdgnaaGreat.Spn

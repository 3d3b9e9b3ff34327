/-
  The document's own functions of layer 5: bitwise, compared, ends.
-/
import Derived.Test.YtbingoelpeoimaaGreatMSqC
namespace Go.Proofs.YtbingoelpeoimaaGreat.Spn
open Go.RowKit Go.IntWalk Go.Sort
set_option linter.unusedVariables false

theorem fld0 (x y : Int) (w : World) : (Instr.field 64 (.agg #[.int .i64 x, .int .i64 y]) 0).run Tryz.prog w = .ok (.int .i64 x) w := by
  simp [Instr.field, asAgg, go_sem]
theorem fld1 (x y : Int) (w : World) : (Instr.field 64 (.agg #[.int .i64 x, .int .i64 y]) 1).run Tryz.prog w = .ok (.int .i64 y) w := by
  simp [Instr.field, asAgg, go_sem]
attribute [local go_sem] fld0 fld1

theorem h2 (a b : Int) : hlo [a, b] = min a b ∧ hhi [a, b] = max a b := by
  simp [hlo, hhi]
theorem h4 (a b c d : Int) : hlo [a, b, c, d] = min (min (min a b) c) d ∧ hhi [a, b, c, d] = max (max (max a b) c) d := by
  simp [hlo, hhi]
theorem hull2 (w : World) (a b : Int) : Calls Tryz.prog 61 #[.slice (some ⟨w.heap.size, 0, none⟩) 2 2] (w.alloc (.cells #[.int .i64 a, .int .i64 b] 3)) fun e w' => e = .returned (.agg #[.int .i64 (min a b), .int .i64 (max a b)]) ∧ Below (w.alloc (.cells #[.int .i64 a, .int .i64 b] 3)).heap.size (w.alloc (.cells #[.int .i64 a, .int .i64 b] 3)) w' := by
  have h := hull_any _ 2 2 _ _ (lit2 w 3 a b) (by decide) (by decide)
  rw [(h2 a b).1, (h2 a b).2] at h
  exact h
theorem hull4 (w : World) (a b c d : Int) : Calls Tryz.prog 61 #[.slice (some ⟨w.heap.size, 0, none⟩) 4 4] (w.alloc (.cells #[.int .i64 a, .int .i64 b, .int .i64 c, .int .i64 d] 3)) fun e w' => e = .returned (.agg #[.int .i64 (min (min (min a b) c) d), .int .i64 (max (max (max a b) c) d)]) ∧ Below (w.alloc (.cells #[.int .i64 a, .int .i64 b, .int .i64 c, .int .i64 d] 3)).heap.size (w.alloc (.cells #[.int .i64 a, .int .i64 b, .int .i64 c, .int .i64 d] 3)) w' := by
  have h := hull_any _ 4 4 _ _ (lit4 w 3 a b c d) (by decide) (by decide)
  rw [(h4 a b c d).1, (h4 a b c d).2] at h
  exact h

set_option maxRecDepth 100000 in
set_option maxHeartbeats 1000000 in
theorem qbit_and (a b c d : Int) (w : World) (ha : W32 a) (hb : W32 b) (hc : W32 c) (hd : W32 d) : Calls Tryz.prog 65 #[.int .i64 15, .agg #[.int .i64 a, .int .i64 b], .agg #[.int .i64 c, .int .i64 d]] w fun e w' => e = .returned (.agg #[.int .i64 (bothZ a b c d).1, .int .i64 (bothZ a b c d).2]) ∧ Below w.heap.size w w' := by
  have HB := hide ((B3.start w a b c d 0 0).later (bel1 _ (.cells #[.int .i64 a, .int .i64 b, .int .i64 c, .int .i64 d] 3)))
  have HR0 := room_any _ 4 4 _ _ (lit4 (((w.alloc (cs a b)).alloc (cs c d)).alloc (cs 0 0)) 3 a b c d) (by decide) (by intro x hx; simp at hx; rcases hx with rfl | rfl | rfl | rfl <;> assumption)
  simp only [mxw4, World.size_alloc] at HR0
  have HR := hide HR0
  clear HR0
  have hP := (arP_bd ha hb hc hd).2
  rcases (show (0 ≤ a ∧ 0 ≤ c ∧ d < b) ∨ (0 ≤ a ∧ 0 ≤ c ∧ b ≤ d) ∨ (0 ≤ a ∧ c < 0) ∨ (a < 0 ∧ 0 ≤ c) ∨ (a < 0 ∧ c < 0) by omega) with g | g | g | g | g
  · have e1 : decide (0 ≤ a) = true := by simp; omega
    have e2 : decide (0 ≤ c) = true := by simp; omega
    have e3 : decide (a < 0) = false := by simp; omega
    have e4 : decide (d < b) = true := by simp; omega
    rw [show bothZ a b c d = (0, d) by unfold bothZ; rw [if_pos (by omega), show min b d = d by omega]]
    generalize arP a b c d = p at *
    go_enter Tryz.func65, Tryz.ntmps65
    go_wp2_with fail
    refine HR.out.mono ?_
    rintro e w2 ⟨rfl, hw2⟩
    have hq := hw2.symm
    subst hq
    clear hw2
    have f := fun x' y' : Int => HB.out.later (bel1 _ (cs x' y'))
    have q1 := fun x' y' => (facts2 (f x' y').a).1
    have q2 := fun x' y' => (facts2 (f x' y').a).2.1
    have r1 := fun x' y' => (facts2 (f x' y').b).1
    have r2 := fun x' y' => (facts2 (f x' y').b).2.1
    have s1 := fun x' y' => (facts2 (f x' y').r).1
    have s2 := fun x' y' => (facts2 (f x' y').r).2.1
    have s3 := fun x' y' => (facts2 (f x' y').r).2.2.1
    have s4 := fun x' y' => (facts2 (f x' y').r).2.2.2
    have HB2 := hide f
    clear f
    obtain ⟨u1, u2, -, -⟩ := facts2 HB.out.a
    obtain ⟨u3, u4, -, -⟩ := facts2 HB.out.b
    obtain ⟨u5, u6, u7, u8⟩ := facts2 HB.out.r
    obtain ⟨W, hW⟩ : ∃ W, ((((w.alloc (.cells #[.int .i64 a, .int .i64 b] 64)).alloc (.cells #[.int .i64 c, .int .i64 d] 64)).alloc (.cells #[.int .i64 0, .int .i64 0] 64)).alloc (.cells #[.int .i64 a, .int .i64 b, .int .i64 c, .int .i64 d] 3)) = W := ⟨_, rfl⟩
    rw [hW] at q1 q2 r1 r2 s1 s2 s3 s4 u1 u2 u3 u4 u5 u6 u7 u8 HB HB2 ⊢
    clear hW
    go_wp2_with fail
    obtain ⟨c0, c1, hB4⟩ := stored2 (HB2.out _ _).r (HB2.out _ _).bel (by omega) (0) (d)
    exact bodyPost_ret (v := .agg #[.int .i64 (0), .int .i64 (d)]) (by simp [results, Tryz.results65, go_sem, c0, c1]) rfl ⟨rfl, hB4⟩
  · have e1 : decide (0 ≤ a) = true := by simp; omega
    have e2 : decide (0 ≤ c) = true := by simp; omega
    have e3 : decide (a < 0) = false := by simp; omega
    have e4 : decide (d < b) = false := by simp; omega
    rw [show bothZ a b c d = (0, b) by unfold bothZ; rw [if_pos (by omega), show min b d = b by omega]]
    generalize arP a b c d = p at *
    go_enter Tryz.func65, Tryz.ntmps65
    go_wp2_with fail
    refine HR.out.mono ?_
    rintro e w2 ⟨rfl, hw2⟩
    have hq := hw2.symm
    subst hq
    clear hw2
    have f := fun x' y' : Int => HB.out.later (bel1 _ (cs x' y'))
    have q1 := fun x' y' => (facts2 (f x' y').a).1
    have q2 := fun x' y' => (facts2 (f x' y').a).2.1
    have r1 := fun x' y' => (facts2 (f x' y').b).1
    have r2 := fun x' y' => (facts2 (f x' y').b).2.1
    have s1 := fun x' y' => (facts2 (f x' y').r).1
    have s2 := fun x' y' => (facts2 (f x' y').r).2.1
    have s3 := fun x' y' => (facts2 (f x' y').r).2.2.1
    have s4 := fun x' y' => (facts2 (f x' y').r).2.2.2
    have HB2 := hide f
    clear f
    obtain ⟨u1, u2, -, -⟩ := facts2 HB.out.a
    obtain ⟨u3, u4, -, -⟩ := facts2 HB.out.b
    obtain ⟨u5, u6, u7, u8⟩ := facts2 HB.out.r
    obtain ⟨W, hW⟩ : ∃ W, ((((w.alloc (.cells #[.int .i64 a, .int .i64 b] 64)).alloc (.cells #[.int .i64 c, .int .i64 d] 64)).alloc (.cells #[.int .i64 0, .int .i64 0] 64)).alloc (.cells #[.int .i64 a, .int .i64 b, .int .i64 c, .int .i64 d] 3)) = W := ⟨_, rfl⟩
    rw [hW] at q1 q2 r1 r2 s1 s2 s3 s4 u1 u2 u3 u4 u5 u6 u7 u8 HB HB2 ⊢
    clear hW
    go_wp2_with fail
    obtain ⟨c0, c1, hB4⟩ := stored2 (HB2.out _ _).r (HB2.out _ _).bel (by omega) (0) (b)
    exact bodyPost_ret (v := .agg #[.int .i64 (0), .int .i64 (b)]) (by simp [results, Tryz.results65, go_sem, c0, c1]) rfl ⟨rfl, hB4⟩
  · have e1 : decide (0 ≤ a) = true := by simp; omega
    have e2 : decide (0 ≤ c) = false := by simp; omega
    have e3 : decide (a < 0) = false := by simp; omega
    rw [show bothZ a b c d = (0, b) by unfold bothZ; rw [if_neg (by omega), if_pos (by omega)]]
    generalize arP a b c d = p at *
    go_enter Tryz.func65, Tryz.ntmps65
    go_wp2_with fail
    refine HR.out.mono ?_
    rintro e w2 ⟨rfl, hw2⟩
    have hq := hw2.symm
    subst hq
    clear hw2
    have f := fun x' y' : Int => HB.out.later (bel1 _ (cs x' y'))
    have q1 := fun x' y' => (facts2 (f x' y').a).1
    have q2 := fun x' y' => (facts2 (f x' y').a).2.1
    have r1 := fun x' y' => (facts2 (f x' y').b).1
    have r2 := fun x' y' => (facts2 (f x' y').b).2.1
    have s1 := fun x' y' => (facts2 (f x' y').r).1
    have s2 := fun x' y' => (facts2 (f x' y').r).2.1
    have s3 := fun x' y' => (facts2 (f x' y').r).2.2.1
    have s4 := fun x' y' => (facts2 (f x' y').r).2.2.2
    have HB2 := hide f
    clear f
    obtain ⟨u1, u2, -, -⟩ := facts2 HB.out.a
    obtain ⟨u3, u4, -, -⟩ := facts2 HB.out.b
    obtain ⟨u5, u6, u7, u8⟩ := facts2 HB.out.r
    obtain ⟨W, hW⟩ : ∃ W, ((((w.alloc (.cells #[.int .i64 a, .int .i64 b] 64)).alloc (.cells #[.int .i64 c, .int .i64 d] 64)).alloc (.cells #[.int .i64 0, .int .i64 0] 64)).alloc (.cells #[.int .i64 a, .int .i64 b, .int .i64 c, .int .i64 d] 3)) = W := ⟨_, rfl⟩
    rw [hW] at q1 q2 r1 r2 s1 s2 s3 s4 u1 u2 u3 u4 u5 u6 u7 u8 HB HB2 ⊢
    clear hW
    go_wp2_with fail
    obtain ⟨c0, c1, hB4⟩ := stored2 (HB2.out _ _).r (HB2.out _ _).bel (by omega) (0) (b)
    exact bodyPost_ret (v := .agg #[.int .i64 (0), .int .i64 (b)]) (by simp [results, Tryz.results65, go_sem, c0, c1]) rfl ⟨rfl, hB4⟩
  · have e1 : decide (0 ≤ a) = false := by simp; omega
    have e2 : decide (0 ≤ c) = true := by simp; omega
    have e3 : decide (a < 0) = true := by simp; omega
    rw [show bothZ a b c d = (0, d) by unfold bothZ; rw [if_neg (by omega), if_neg (by omega), if_pos (by omega)]]
    generalize arP a b c d = p at *
    go_enter Tryz.func65, Tryz.ntmps65
    go_wp2_with fail
    refine HR.out.mono ?_
    rintro e w2 ⟨rfl, hw2⟩
    have hq := hw2.symm
    subst hq
    clear hw2
    have f := fun x' y' : Int => HB.out.later (bel1 _ (cs x' y'))
    have q1 := fun x' y' => (facts2 (f x' y').a).1
    have q2 := fun x' y' => (facts2 (f x' y').a).2.1
    have r1 := fun x' y' => (facts2 (f x' y').b).1
    have r2 := fun x' y' => (facts2 (f x' y').b).2.1
    have s1 := fun x' y' => (facts2 (f x' y').r).1
    have s2 := fun x' y' => (facts2 (f x' y').r).2.1
    have s3 := fun x' y' => (facts2 (f x' y').r).2.2.1
    have s4 := fun x' y' => (facts2 (f x' y').r).2.2.2
    have HB2 := hide f
    clear f
    obtain ⟨u1, u2, -, -⟩ := facts2 HB.out.a
    obtain ⟨u3, u4, -, -⟩ := facts2 HB.out.b
    obtain ⟨u5, u6, u7, u8⟩ := facts2 HB.out.r
    obtain ⟨W, hW⟩ : ∃ W, ((((w.alloc (.cells #[.int .i64 a, .int .i64 b] 64)).alloc (.cells #[.int .i64 c, .int .i64 d] 64)).alloc (.cells #[.int .i64 0, .int .i64 0] 64)).alloc (.cells #[.int .i64 a, .int .i64 b, .int .i64 c, .int .i64 d] 3)) = W := ⟨_, rfl⟩
    rw [hW] at q1 q2 r1 r2 s1 s2 s3 s4 u1 u2 u3 u4 u5 u6 u7 u8 HB HB2 ⊢
    clear hW
    go_wp2_with fail
    obtain ⟨c0, c1, hB4⟩ := stored2 (HB2.out _ _).r (HB2.out _ _).bel (by omega) (0) (d)
    exact bodyPost_ret (v := .agg #[.int .i64 (0), .int .i64 (d)]) (by simp [results, Tryz.results65, go_sem, c0, c1]) rfl ⟨rfl, hB4⟩
  · have e1 : decide (0 ≤ a) = false := by simp; omega
    have e2 : decide (0 ≤ c) = false := by simp; omega
    have e3 : decide (a < 0) = true := by simp; omega
    rw [show bothZ a b c d = (-arP a b c d, arP a b c d - 1) by unfold bothZ; rw [if_neg (by omega), if_neg (by omega), if_neg (by omega)]]
    generalize arP a b c d = p at *
    go_enter Tryz.func65, Tryz.ntmps65
    go_wp2_with fail
    refine HR.out.mono ?_
    rintro e w2 ⟨rfl, hw2⟩
    have hq := hw2.symm
    subst hq
    clear hw2
    have f := fun x' y' : Int => HB.out.later (bel1 _ (cs x' y'))
    have q1 := fun x' y' => (facts2 (f x' y').a).1
    have q2 := fun x' y' => (facts2 (f x' y').a).2.1
    have r1 := fun x' y' => (facts2 (f x' y').b).1
    have r2 := fun x' y' => (facts2 (f x' y').b).2.1
    have s1 := fun x' y' => (facts2 (f x' y').r).1
    have s2 := fun x' y' => (facts2 (f x' y').r).2.1
    have s3 := fun x' y' => (facts2 (f x' y').r).2.2.1
    have s4 := fun x' y' => (facts2 (f x' y').r).2.2.2
    have HB2 := hide f
    clear f
    obtain ⟨u1, u2, -, -⟩ := facts2 HB.out.a
    obtain ⟨u3, u4, -, -⟩ := facts2 HB.out.b
    obtain ⟨u5, u6, u7, u8⟩ := facts2 HB.out.r
    obtain ⟨W, hW⟩ : ∃ W, ((((w.alloc (.cells #[.int .i64 a, .int .i64 b] 64)).alloc (.cells #[.int .i64 c, .int .i64 d] 64)).alloc (.cells #[.int .i64 0, .int .i64 0] 64)).alloc (.cells #[.int .i64 a, .int .i64 b, .int .i64 c, .int .i64 d] 3)) = W := ⟨_, rfl⟩
    rw [hW] at q1 q2 r1 r2 s1 s2 s3 s4 u1 u2 u3 u4 u5 u6 u7 u8 HB HB2 ⊢
    clear hW
    go_wp2_with fail
    obtain ⟨c0, c1, hB4⟩ := stored2 (HB2.out _ _).r (HB2.out _ _).bel (by omega) (-p) (p - 1)
    exact bodyPost_ret (v := .agg #[.int .i64 (-p), .int .i64 (p - 1)]) (by simp [results, Tryz.results65, go_sem, c0, c1]) rfl ⟨rfl, hB4⟩

set_option maxRecDepth 100000 in
set_option maxHeartbeats 1000000 in
theorem qbit_16 (a b c d : Int) (w : World) (ha : W32 a) (hb : W32 b) (hc : W32 c) (hd : W32 d) : Calls Tryz.prog 65 #[.int .i64 16, .agg #[.int .i64 a, .int .i64 b], .agg #[.int .i64 c, .int .i64 d]] w fun e w' => e = .returned (.agg #[.int .i64 (eithZ 16 a b c d).1, .int .i64 (eithZ 16 a b c d).2]) ∧ Below w.heap.size w w' := by
  have HB := hide ((B3.start w a b c d 0 0).later (bel1 _ (.cells #[.int .i64 a, .int .i64 b, .int .i64 c, .int .i64 d] 3)))
  have HR0 := room_any _ 4 4 _ _ (lit4 (((w.alloc (cs a b)).alloc (cs c d)).alloc (cs 0 0)) 3 a b c d) (by decide) (by intro x hx; simp at hx; rcases hx with rfl | rfl | rfl | rfl <;> assumption)
  simp only [mxw4, World.size_alloc] at HR0
  have HR := hide HR0
  clear HR0
  have hP := (arP_bd ha hb hc hd).2
  rcases (show a < 0 ∨ (0 ≤ a ∧ c < 0) ∨ (0 ≤ a ∧ 0 ≤ c) by omega) with g | g | g
  · have e3 : decide (a < 0) = true := by simp; omega
    rw [show eithZ 16 a b c d = (-arP a b c d, arP a b c d - 1) by unfold eithZ; rw [if_pos (by omega)]]
    generalize arP a b c d = p at *
    go_enter Tryz.func65, Tryz.ntmps65
    go_wp2_with fail
    refine HR.out.mono ?_
    rintro e w2 ⟨rfl, hw2⟩
    have hq := hw2.symm
    subst hq
    clear hw2
    have f := fun x' y' : Int => HB.out.later (bel1 _ (cs x' y'))
    have q1 := fun x' y' => (facts2 (f x' y').a).1
    have q2 := fun x' y' => (facts2 (f x' y').a).2.1
    have r1 := fun x' y' => (facts2 (f x' y').b).1
    have r2 := fun x' y' => (facts2 (f x' y').b).2.1
    have s1 := fun x' y' => (facts2 (f x' y').r).1
    have s2 := fun x' y' => (facts2 (f x' y').r).2.1
    have s3 := fun x' y' => (facts2 (f x' y').r).2.2.1
    have s4 := fun x' y' => (facts2 (f x' y').r).2.2.2
    have HB2 := hide f
    clear f
    obtain ⟨u1, u2, -, -⟩ := facts2 HB.out.a
    obtain ⟨u3, u4, -, -⟩ := facts2 HB.out.b
    obtain ⟨u5, u6, u7, u8⟩ := facts2 HB.out.r
    obtain ⟨W, hW⟩ : ∃ W, ((((w.alloc (.cells #[.int .i64 a, .int .i64 b] 64)).alloc (.cells #[.int .i64 c, .int .i64 d] 64)).alloc (.cells #[.int .i64 0, .int .i64 0] 64)).alloc (.cells #[.int .i64 a, .int .i64 b, .int .i64 c, .int .i64 d] 3)) = W := ⟨_, rfl⟩
    rw [hW] at q1 q2 r1 r2 s1 s2 s3 s4 u1 u2 u3 u4 u5 u6 u7 u8 HB HB2 ⊢
    clear hW
    clear q1 q2 r1 r2 s1 s2 s3 s4
    go_wp2_with fail
    obtain ⟨c0, c1, hB4⟩ := stored2 HB.out.r HB.out.bel (by omega) (-p) (p - 1)
    exact bodyPost_ret (v := .agg #[.int .i64 (-p), .int .i64 (p - 1)]) (by simp [results, Tryz.results65, go_sem, c0, c1]) rfl ⟨rfl, hB4⟩
  · have e3 : decide (a < 0) = false := by simp; omega
    have e4 : decide (c < 0) = true := by simp; omega
    rw [show eithZ 16 a b c d = (-arP a b c d, arP a b c d - 1) by unfold eithZ; rw [if_pos (by omega)]]
    generalize arP a b c d = p at *
    go_enter Tryz.func65, Tryz.ntmps65
    go_wp2_with fail
    refine HR.out.mono ?_
    rintro e w2 ⟨rfl, hw2⟩
    have hq := hw2.symm
    subst hq
    clear hw2
    have f := fun x' y' : Int => HB.out.later (bel1 _ (cs x' y'))
    have q1 := fun x' y' => (facts2 (f x' y').a).1
    have q2 := fun x' y' => (facts2 (f x' y').a).2.1
    have r1 := fun x' y' => (facts2 (f x' y').b).1
    have r2 := fun x' y' => (facts2 (f x' y').b).2.1
    have s1 := fun x' y' => (facts2 (f x' y').r).1
    have s2 := fun x' y' => (facts2 (f x' y').r).2.1
    have s3 := fun x' y' => (facts2 (f x' y').r).2.2.1
    have s4 := fun x' y' => (facts2 (f x' y').r).2.2.2
    have HB2 := hide f
    clear f
    obtain ⟨u1, u2, -, -⟩ := facts2 HB.out.a
    obtain ⟨u3, u4, -, -⟩ := facts2 HB.out.b
    obtain ⟨u5, u6, u7, u8⟩ := facts2 HB.out.r
    obtain ⟨W, hW⟩ : ∃ W, ((((w.alloc (.cells #[.int .i64 a, .int .i64 b] 64)).alloc (.cells #[.int .i64 c, .int .i64 d] 64)).alloc (.cells #[.int .i64 0, .int .i64 0] 64)).alloc (.cells #[.int .i64 a, .int .i64 b, .int .i64 c, .int .i64 d] 3)) = W := ⟨_, rfl⟩
    rw [hW] at q1 q2 r1 r2 s1 s2 s3 s4 u1 u2 u3 u4 u5 u6 u7 u8 HB HB2 ⊢
    clear hW
    clear q1 q2 r1 r2 s1 s2 s3 s4
    go_wp2_with fail
    obtain ⟨c0, c1, hB4⟩ := stored2 HB.out.r HB.out.bel (by omega) (-p) (p - 1)
    exact bodyPost_ret (v := .agg #[.int .i64 (-p), .int .i64 (p - 1)]) (by simp [results, Tryz.results65, go_sem, c0, c1]) rfl ⟨rfl, hB4⟩
  · have e3 : decide (a < 0) = false := by simp; omega
    have e4 : decide (c < 0) = false := by simp; omega
    rw [show eithZ 16 a b c d = (max a c, arP a b c d - 1) by unfold eithZ; rw [if_neg (by omega), if_pos rfl]]
    generalize arP a b c d = p at *
    go_enter Tryz.func65, Tryz.ntmps65
    go_wp2_with fail
    refine HR.out.mono ?_
    rintro e w2 ⟨rfl, hw2⟩
    have hq := hw2.symm
    subst hq
    clear hw2
    have f := fun x' y' : Int => HB.out.later (bel1 _ (cs x' y'))
    have q1 := fun x' y' => (facts2 (f x' y').a).1
    have q2 := fun x' y' => (facts2 (f x' y').a).2.1
    have r1 := fun x' y' => (facts2 (f x' y').b).1
    have r2 := fun x' y' => (facts2 (f x' y').b).2.1
    have s1 := fun x' y' => (facts2 (f x' y').r).1
    have s2 := fun x' y' => (facts2 (f x' y').r).2.1
    have s3 := fun x' y' => (facts2 (f x' y').r).2.2.1
    have s4 := fun x' y' => (facts2 (f x' y').r).2.2.2
    have HB2 := hide f
    clear f
    obtain ⟨u1, u2, -, -⟩ := facts2 HB.out.a
    obtain ⟨u3, u4, -, -⟩ := facts2 HB.out.b
    obtain ⟨u5, u6, u7, u8⟩ := facts2 HB.out.r
    obtain ⟨W, hW⟩ : ∃ W, ((((w.alloc (.cells #[.int .i64 a, .int .i64 b] 64)).alloc (.cells #[.int .i64 c, .int .i64 d] 64)).alloc (.cells #[.int .i64 0, .int .i64 0] 64)).alloc (.cells #[.int .i64 a, .int .i64 b, .int .i64 c, .int .i64 d] 3)) = W := ⟨_, rfl⟩
    rw [hW] at q1 q2 r1 r2 s1 s2 s3 s4 u1 u2 u3 u4 u5 u6 u7 u8 HB HB2 ⊢
    clear hW
    clear q1 q2 r1 r2 s1 s2 s3 s4
    go_wp2_with fail
    refine (hull2 _ _ _).mono ?_
    rintro e w3 ⟨rfl, hb3⟩
    have HB3 := hide (HB.out.later (bel (bel1 _ _) hb3))
    clear hb3 u1 u2 u3 u4 u5 u6 u7 u8
    obtain ⟨u5, u6, u7, u8⟩ := facts2 HB3.out.r
    obtain ⟨x, hx⟩ : ∃ x, max a c = x := ⟨_, rfl⟩
    obtain ⟨y, hy⟩ : ∃ y, min a c = y := ⟨_, rfl⟩
    rw [hx, hy]
    have HX := hide hx
    clear hx hy
    go_wp2_with fail
    obtain ⟨c0, c1, hB4⟩ := stored2 HB3.out.r HB3.out.bel (by omega) x (p - 1)
    exact bodyPost_ret (v := .agg #[.int .i64 x, .int .i64 (p - 1)]) (by simp [results, Tryz.results65, go_sem, c0, c1]) rfl ⟨by rw [HX.out], hB4⟩

set_option maxRecDepth 100000 in
set_option maxHeartbeats 1000000 in
theorem qbit_17 (a b c d : Int) (w : World) (ha : W32 a) (hb : W32 b) (hc : W32 c) (hd : W32 d) : Calls Tryz.prog 65 #[.int .i64 17, .agg #[.int .i64 a, .int .i64 b], .agg #[.int .i64 c, .int .i64 d]] w fun e w' => e = .returned (.agg #[.int .i64 (eithZ 17 a b c d).1, .int .i64 (eithZ 17 a b c d).2]) ∧ Below w.heap.size w w' := by
  have HB := hide ((B3.start w a b c d 0 0).later (bel1 _ (.cells #[.int .i64 a, .int .i64 b, .int .i64 c, .int .i64 d] 3)))
  have HR0 := room_any _ 4 4 _ _ (lit4 (((w.alloc (cs a b)).alloc (cs c d)).alloc (cs 0 0)) 3 a b c d) (by decide) (by intro x hx; simp at hx; rcases hx with rfl | rfl | rfl | rfl <;> assumption)
  simp only [mxw4, World.size_alloc] at HR0
  have HR := hide HR0
  clear HR0
  have hP := (arP_bd ha hb hc hd).2
  rcases (show a < 0 ∨ (0 ≤ a ∧ c < 0) ∨ (0 ≤ a ∧ 0 ≤ c) by omega) with g | g | g
  · have e3 : decide (a < 0) = true := by simp; omega
    rw [show eithZ 17 a b c d = (-arP a b c d, arP a b c d - 1) by unfold eithZ; rw [if_pos (by omega)]]
    generalize arP a b c d = p at *
    go_enter Tryz.func65, Tryz.ntmps65
    go_wp2_with fail
    refine HR.out.mono ?_
    rintro e w2 ⟨rfl, hw2⟩
    have hq := hw2.symm
    subst hq
    clear hw2
    have f := fun x' y' : Int => HB.out.later (bel1 _ (cs x' y'))
    have q1 := fun x' y' => (facts2 (f x' y').a).1
    have q2 := fun x' y' => (facts2 (f x' y').a).2.1
    have r1 := fun x' y' => (facts2 (f x' y').b).1
    have r2 := fun x' y' => (facts2 (f x' y').b).2.1
    have s1 := fun x' y' => (facts2 (f x' y').r).1
    have s2 := fun x' y' => (facts2 (f x' y').r).2.1
    have s3 := fun x' y' => (facts2 (f x' y').r).2.2.1
    have s4 := fun x' y' => (facts2 (f x' y').r).2.2.2
    have HB2 := hide f
    clear f
    obtain ⟨u1, u2, -, -⟩ := facts2 HB.out.a
    obtain ⟨u3, u4, -, -⟩ := facts2 HB.out.b
    obtain ⟨u5, u6, u7, u8⟩ := facts2 HB.out.r
    obtain ⟨W, hW⟩ : ∃ W, ((((w.alloc (.cells #[.int .i64 a, .int .i64 b] 64)).alloc (.cells #[.int .i64 c, .int .i64 d] 64)).alloc (.cells #[.int .i64 0, .int .i64 0] 64)).alloc (.cells #[.int .i64 a, .int .i64 b, .int .i64 c, .int .i64 d] 3)) = W := ⟨_, rfl⟩
    rw [hW] at q1 q2 r1 r2 s1 s2 s3 s4 u1 u2 u3 u4 u5 u6 u7 u8 HB HB2 ⊢
    clear hW
    clear q1 q2 r1 r2 s1 s2 s3 s4
    go_wp2_with fail
    obtain ⟨c0, c1, hB4⟩ := stored2 HB.out.r HB.out.bel (by omega) (-p) (p - 1)
    exact bodyPost_ret (v := .agg #[.int .i64 (-p), .int .i64 (p - 1)]) (by simp [results, Tryz.results65, go_sem, c0, c1]) rfl ⟨rfl, hB4⟩
  · have e3 : decide (a < 0) = false := by simp; omega
    have e4 : decide (c < 0) = true := by simp; omega
    rw [show eithZ 17 a b c d = (-arP a b c d, arP a b c d - 1) by unfold eithZ; rw [if_pos (by omega)]]
    generalize arP a b c d = p at *
    go_enter Tryz.func65, Tryz.ntmps65
    go_wp2_with fail
    refine HR.out.mono ?_
    rintro e w2 ⟨rfl, hw2⟩
    have hq := hw2.symm
    subst hq
    clear hw2
    have f := fun x' y' : Int => HB.out.later (bel1 _ (cs x' y'))
    have q1 := fun x' y' => (facts2 (f x' y').a).1
    have q2 := fun x' y' => (facts2 (f x' y').a).2.1
    have r1 := fun x' y' => (facts2 (f x' y').b).1
    have r2 := fun x' y' => (facts2 (f x' y').b).2.1
    have s1 := fun x' y' => (facts2 (f x' y').r).1
    have s2 := fun x' y' => (facts2 (f x' y').r).2.1
    have s3 := fun x' y' => (facts2 (f x' y').r).2.2.1
    have s4 := fun x' y' => (facts2 (f x' y').r).2.2.2
    have HB2 := hide f
    clear f
    obtain ⟨u1, u2, -, -⟩ := facts2 HB.out.a
    obtain ⟨u3, u4, -, -⟩ := facts2 HB.out.b
    obtain ⟨u5, u6, u7, u8⟩ := facts2 HB.out.r
    obtain ⟨W, hW⟩ : ∃ W, ((((w.alloc (.cells #[.int .i64 a, .int .i64 b] 64)).alloc (.cells #[.int .i64 c, .int .i64 d] 64)).alloc (.cells #[.int .i64 0, .int .i64 0] 64)).alloc (.cells #[.int .i64 a, .int .i64 b, .int .i64 c, .int .i64 d] 3)) = W := ⟨_, rfl⟩
    rw [hW] at q1 q2 r1 r2 s1 s2 s3 s4 u1 u2 u3 u4 u5 u6 u7 u8 HB HB2 ⊢
    clear hW
    clear q1 q2 r1 r2 s1 s2 s3 s4
    go_wp2_with fail
    obtain ⟨c0, c1, hB4⟩ := stored2 HB.out.r HB.out.bel (by omega) (-p) (p - 1)
    exact bodyPost_ret (v := .agg #[.int .i64 (-p), .int .i64 (p - 1)]) (by simp [results, Tryz.results65, go_sem, c0, c1]) rfl ⟨rfl, hB4⟩
  · have e3 : decide (a < 0) = false := by simp; omega
    have e4 : decide (c < 0) = false := by simp; omega
    rw [show eithZ 17 a b c d = (0, arP a b c d - 1) by unfold eithZ; rw [if_neg (by omega), if_neg (by decide)]]
    generalize arP a b c d = p at *
    go_enter Tryz.func65, Tryz.ntmps65
    go_wp2_with fail
    refine HR.out.mono ?_
    rintro e w2 ⟨rfl, hw2⟩
    have hq := hw2.symm
    subst hq
    clear hw2
    have f := fun x' y' : Int => HB.out.later (bel1 _ (cs x' y'))
    have q1 := fun x' y' => (facts2 (f x' y').a).1
    have q2 := fun x' y' => (facts2 (f x' y').a).2.1
    have r1 := fun x' y' => (facts2 (f x' y').b).1
    have r2 := fun x' y' => (facts2 (f x' y').b).2.1
    have s1 := fun x' y' => (facts2 (f x' y').r).1
    have s2 := fun x' y' => (facts2 (f x' y').r).2.1
    have s3 := fun x' y' => (facts2 (f x' y').r).2.2.1
    have s4 := fun x' y' => (facts2 (f x' y').r).2.2.2
    have HB2 := hide f
    clear f
    obtain ⟨u1, u2, -, -⟩ := facts2 HB.out.a
    obtain ⟨u3, u4, -, -⟩ := facts2 HB.out.b
    obtain ⟨u5, u6, u7, u8⟩ := facts2 HB.out.r
    obtain ⟨W, hW⟩ : ∃ W, ((((w.alloc (.cells #[.int .i64 a, .int .i64 b] 64)).alloc (.cells #[.int .i64 c, .int .i64 d] 64)).alloc (.cells #[.int .i64 0, .int .i64 0] 64)).alloc (.cells #[.int .i64 a, .int .i64 b, .int .i64 c, .int .i64 d] 3)) = W := ⟨_, rfl⟩
    rw [hW] at q1 q2 r1 r2 s1 s2 s3 s4 u1 u2 u3 u4 u5 u6 u7 u8 HB HB2 ⊢
    clear hW
    clear q1 q2 r1 r2 s1 s2 s3 s4
    go_wp2_with fail
    obtain ⟨c0, c1, hB4⟩ := stored2 HB.out.r HB.out.bel (by omega) (0) (p - 1)
    exact bodyPost_ret (v := .agg #[.int .i64 (0), .int .i64 (p - 1)]) (by simp [results, Tryz.results65, go_sem, c0, c1]) rfl ⟨rfl, hB4⟩

end Go.Proofs.YtbingoelpeoimaaGreat.Spn

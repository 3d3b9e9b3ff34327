/-
  The functions of package span that reckon without asking for a value: equal, ofTwo, chosen.
-/
import Derived.Test.YtlhbgkaknfhlnaaSpThr
namespace Go.Proofs.Ytlhbgkaknfhlnaa.Spn
open Go.RowKit Go.IntWalk Go.Sort
set_option linter.unusedVariables false

/-- OpEq. -/
def eqZ (a b c d : Int) : Int × Int := if b < c ∨ d < a then (0, 0) else if a = c ∧ b = d ∧ a = b then (1, 1) else (0, 1)

/-- The region of '==' behind the walk: what is known of the world. -/
theorem box_rg {w W : World} {b1 b2 b3 : Nat} {a b c d x y : Int} (k1 : HasC W b1 42 #[.int .i64 a, .int .i64 b]) (k2 : HasC W b2 42 #[.int .i64 c, .int .i64 d]) (k3 : HasC W b3 42 #[.int .i64 x, .int .i64 y]) (hB : Below w.heap.size w W) (dq : Nat) (os : Array Obj) :
    HasC (grow (redrawn W dq) os) b1 42 #[.int .i64 a, .int .i64 b] ∧ HasC (grow (redrawn W dq) os) b2 42 #[.int .i64 c, .int .i64 d] ∧ HasC (grow (redrawn W dq) os) b3 42 #[.int .i64 x, .int .i64 y] ∧ Below w.heap.size w (grow (redrawn W dq) os) :=
  ⟨k1.below (below_regrown _ _ _), k2.below (below_regrown _ _ _), k3.below (below_regrown _ _ _), bel hB (below_regrown _ _ _)⟩

set_option maxRecDepth 100000 in
set_option maxHeartbeats 1000000 in
theorem equal_any (a b c d : Int) (w : World) :
    Calls Try.prog 71 #[.agg #[.int .i64 a, .int .i64 b], .agg #[.int .i64 c, .int .i64 d]] w fun e w' => e = .returned (.agg #[.int .i64 (eqZ a b c d).1, .int .i64 (eqZ a b c d).2]) ∧ Below w.heap.size w w' := by
  by_cases h1 : b < c
  · have e1 : decide (b < c) = true := by simp [h1]
    rw [show eqZ a b c d = (0, 0) by simp [eqZ, h1]]
    go_enter Try.func71, Try.ntmps71
    go_wp2_with fail
    refine (alone_any _ _).mono ?_
    rintro e w2 ⟨rfl, hb2⟩
    obtain ⟨-, -, h3, hB⟩ := box2 hb2
    obtain ⟨s1, s2, s3, s4⟩ := facts2 h3
    go_wp2_with fail
    obtain ⟨c0, c1, hB2⟩ := stored2 h3 hB (by omega) 0 0
    exact bodyPost_ret (v := .agg #[.int .i64 0, .int .i64 0]) (by simp [results, Try.results71, go_sem, c0, c1]) rfl ⟨rfl, hB2⟩
  have e1 : decide (b < c) = false := by simp; omega
  by_cases h2 : d < a
  · rw [show eqZ a b c d = (0, 0) by simp [eqZ, h2]]
    go_enter Try.func71, Try.ntmps71
    go_wp2_with fail
    refine (alone_any _ _).mono ?_
    rintro e w2 ⟨rfl, hb2⟩
    obtain ⟨-, -, h3, hB⟩ := box2 hb2
    obtain ⟨s1, s2, s3, s4⟩ := facts2 h3
    go_wp2_with fail
    obtain ⟨c0, c1, hB2⟩ := stored2 h3 hB (by omega) 0 0
    exact bodyPost_ret (v := .agg #[.int .i64 0, .int .i64 0]) (by simp [results, Try.results71, go_sem, c0, c1]) rfl ⟨rfl, hB2⟩
  have hap : ¬ (b < c ∨ d < a) := by omega
  by_cases h3 : a = c
  · subst h3
    by_cases h5 : b = d
    · subst h5
      by_cases h4 : a = b
      · subst h4
        rw [show eqZ a a a a = (1, 1) by simp [eqZ]]
        go_enter Try.func71, Try.ntmps71
        go_wp2_with fail
        obtain ⟨k1, k2, k3, hB⟩ := box2 (w := w) (a := a) (b := a) (c := a) (d := a) (x := 0) (y := 0) (Below.refl _ _)
        obtain ⟨W, hW⟩ : ∃ W, ((w.alloc (.cells #[.int .i64 a, .int .i64 a] 42)).alloc (.cells #[.int .i64 a, .int .i64 a] 42)).alloc (.cells #[.int .i64 0, .int .i64 0] 42) = W := ⟨_, rfl⟩
        rw [hW] at k1 k2 k3 hB ⊢
        clear hW
        obtain ⟨q1, q2, -, -⟩ := facts2 k1
        obtain ⟨r1, r2, -, -⟩ := facts2 k2
        have m1 := cell_regrown q1
        have m2 := cell_regrown q2
        have m3 := cell_regrown r1
        have m4 := cell_regrown r2
        refine wp_region_quiet_below mixed (by kernel_rfl) ?_
        repeat (go_big_quiet_step ((go_at_call 49; exact Calls.regrown_of (alone_any _ _))))
        refine wpQuiet_nil ?_
        intro _ hw'
        obtain ⟨⟨dq, osq⟩, hw''⟩ := hw'
        subst hw''
        obtain ⟨-, -, k4, hB4⟩ := box_rg k1 k2 k3 hB dq osq
        clear k1 k2 k3 hB q1 q2 r1 r2 m1 m2 m3 m4
        simp only
        generalize grow (redrawn W dq) osq = G at *
        go_wp2_with fail
        refine (alone_any _ _).mono ?_
        rintro e w2 ⟨rfl, hb2⟩
        have h3 := k4.below hb2
        have hB := bel hB4 hb2
        obtain ⟨s1, s2, s3, s4⟩ := facts2 h3
        clear hb2 k4 hB4
        go_wp2_with fail
        obtain ⟨c0, c1, hB2⟩ := stored2 h3 hB (by omega) 1 1
        exact bodyPost_ret (v := .agg #[.int .i64 1, .int .i64 1]) (by simp [results, Try.results71, go_sem, c0, c1]) rfl ⟨rfl, hB2⟩
      · rw [show eqZ a b a b = (0, 1) by simp [eqZ, h4]; omega]
        have e4 : (b == a) = false := by simp; omega
        have e5 : (a == b) = false := by simp; omega
        clear h4
        go_enter Try.func71, Try.ntmps71
        go_wp2_with fail
        obtain ⟨k1, k2, k3, hB⟩ := box2 (w := w) (a := a) (b := b) (c := a) (d := b) (x := 0) (y := 0) (Below.refl _ _)
        obtain ⟨W, hW⟩ : ∃ W, ((w.alloc (.cells #[.int .i64 a, .int .i64 b] 42)).alloc (.cells #[.int .i64 a, .int .i64 b] 42)).alloc (.cells #[.int .i64 0, .int .i64 0] 42) = W := ⟨_, rfl⟩
        rw [hW] at k1 k2 k3 hB ⊢
        clear hW
        obtain ⟨q1, q2, -, -⟩ := facts2 k1
        obtain ⟨r1, r2, -, -⟩ := facts2 k2
        have m1 := cell_regrown q1
        have m2 := cell_regrown q2
        have m3 := cell_regrown r1
        have m4 := cell_regrown r2
        refine wp_region_quiet_below mixed (by kernel_rfl) ?_
        repeat (go_big_quiet_step ((go_at_call 49; exact Calls.regrown_of (alone_any _ _))))
        refine wpQuiet_nil ?_
        intro _ hw'
        obtain ⟨⟨dq, osq⟩, hw''⟩ := hw'
        subst hw''
        obtain ⟨-, -, k4, hB4⟩ := box_rg k1 k2 k3 hB dq osq
        clear k1 k2 k3 hB q1 q2 r1 r2 m1 m2 m3 m4
        simp only
        generalize grow (redrawn W dq) osq = G at *
        obtain ⟨s1, s2, s3, s4⟩ := facts2 k4
        go_wp2_with fail
        obtain ⟨c0, c1, hB2⟩ := stored2 k4 hB4 (by omega) 0 1
        exact bodyPost_ret (v := .agg #[.int .i64 0, .int .i64 1]) (by simp [results, Try.results71, go_sem, c0, c1]) rfl ⟨rfl, hB2⟩
    · rw [show eqZ a b a d = (0, 1) by simp [eqZ, h5]; omega]
      have e4 : (b == d) = false := by simp; omega
      clear h5
      go_enter Try.func71, Try.ntmps71
      go_wp2_with fail
      obtain ⟨k1, k2, k3, hB⟩ := box2 (w := w) (a := a) (b := b) (c := a) (d := d) (x := 0) (y := 0) (Below.refl _ _)
      obtain ⟨W, hW⟩ : ∃ W, ((w.alloc (.cells #[.int .i64 a, .int .i64 b] 42)).alloc (.cells #[.int .i64 a, .int .i64 d] 42)).alloc (.cells #[.int .i64 0, .int .i64 0] 42) = W := ⟨_, rfl⟩
      rw [hW] at k1 k2 k3 hB ⊢
      clear hW
      obtain ⟨q1, q2, -, -⟩ := facts2 k1
      obtain ⟨r1, r2, -, -⟩ := facts2 k2
      have m1 := cell_regrown q1
      have m2 := cell_regrown q2
      have m3 := cell_regrown r1
      have m4 := cell_regrown r2
      refine wp_region_quiet_below mixed (by kernel_rfl) ?_
      repeat (go_big_quiet_step ((go_at_call 49; exact Calls.regrown_of (alone_any _ _))))
      refine wpQuiet_nil ?_
      intro _ hw'
      obtain ⟨⟨dq, osq⟩, hw''⟩ := hw'
      subst hw''
      obtain ⟨-, -, k4, hB4⟩ := box_rg k1 k2 k3 hB dq osq
      clear k1 k2 k3 hB q1 q2 r1 r2 m1 m2 m3 m4
      simp only
      generalize grow (redrawn W dq) osq = G at *
      obtain ⟨s1, s2, s3, s4⟩ := facts2 k4
      go_wp2_with fail
      obtain ⟨c0, c1, hB2⟩ := stored2 k4 hB4 (by omega) 0 1
      exact bodyPost_ret (v := .agg #[.int .i64 0, .int .i64 1]) (by simp [results, Try.results71, go_sem, c0, c1]) rfl ⟨rfl, hB2⟩
  · rw [show eqZ a b c d = (0, 1) by simp [eqZ, h3]; omega]
    have e4 : (a == c) = false := by simp; omega
    clear h3
    go_enter Try.func71, Try.ntmps71
    go_wp2_with fail
    obtain ⟨k1, k2, k3, hB⟩ := box2 (w := w) (a := a) (b := b) (c := c) (d := d) (x := 0) (y := 0) (Below.refl _ _)
    obtain ⟨W, hW⟩ : ∃ W, ((w.alloc (.cells #[.int .i64 a, .int .i64 b] 42)).alloc (.cells #[.int .i64 c, .int .i64 d] 42)).alloc (.cells #[.int .i64 0, .int .i64 0] 42) = W := ⟨_, rfl⟩
    rw [hW] at k1 k2 k3 hB ⊢
    clear hW
    obtain ⟨q1, q2, -, -⟩ := facts2 k1
    obtain ⟨r1, r2, -, -⟩ := facts2 k2
    have m1 := cell_regrown q1
    have m2 := cell_regrown q2
    have m3 := cell_regrown r1
    have m4 := cell_regrown r2
    refine wp_region_quiet_below mixed (by kernel_rfl) ?_
    repeat (go_big_quiet_step ((go_at_call 49; exact Calls.regrown_of (alone_any _ _))))
    refine wpQuiet_nil ?_
    intro _ hw'
    obtain ⟨⟨dq, osq⟩, hw''⟩ := hw'
    subst hw''
    obtain ⟨-, -, k4, hB4⟩ := box_rg k1 k2 k3 hB dq osq
    clear k1 k2 k3 hB q1 q2 r1 r2 m1 m2 m3 m4
    simp only
    generalize grow (redrawn W dq) osq = G at *
    obtain ⟨s1, s2, s3, s4⟩ := facts2 k4
    go_wp2_with fail
    obtain ⟨c0, c1, hB2⟩ := stored2 k4 hB4 (by omega) 0 1
    exact bodyPost_ret (v := .agg #[.int .i64 0, .int .i64 1]) (by simp [results, Try.results71, go_sem, c0, c1]) rfl ⟨rfl, hB2⟩

end Go.Proofs.Ytlhbgkaknfhlnaa.Spn

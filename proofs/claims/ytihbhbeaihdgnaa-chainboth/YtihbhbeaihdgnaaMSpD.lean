/-
  The functions of package span that reckon without asking for a value: either, equal, ofTwo, chosen.
-/
import Derived.Test.YtihbhbeaihdgnaaMSpTwo
namespace Go.Proofs.Ytihbhbeaihdgnaa.Spn
open Go.RowKit Go.IntWalk Go.Sort
set_option linter.unusedVariables false

/-- OpOr and OpXor. -/
def eithZ (op a b c d : Int) : Int × Int := if a < 0 ∨ c < 0 then (-arP a b c d, arP a b c d - 1) else if op = 16 then (max a c, arP a b c d - 1) else (0, arP a b c d - 1)

/-- The blocks of a span's function behind a call, and one more that is laid behind it. -/
theorem box3 {w w2 : World} {t : TypeId} {x y : Value} {x' y' : Int} {b : Nat} (h : HasC w2 b t #[x, y]) (hB : Below w.heap.size w w2) :
    HasC (w2.alloc (.cells #[.int .i64 x', .int .i64 y'] 73)) b t #[x, y] ∧ HasC (w2.alloc (.cells #[.int .i64 x', .int .i64 y'] 73)) w2.heap.size 73 #[.int .i64 x', .int .i64 y'] ∧ Below w.heap.size w (w2.alloc (.cells #[.int .i64 x', .int .i64 y'] 73)) :=
  ⟨h.alloc _, HasC.new _ _ _, hB.alloc hB.size _⟩

set_option maxRecDepth 100000 in
set_option maxHeartbeats 1000000 in
theorem either_any (op a b c d : Int) (w : World) (ha : W32 a) (hb : W32 b) (hc : W32 c) (hd : W32 d) :
    Calls Try.prog 92 #[.int .i64 op, .agg #[.int .i64 a, .int .i64 b], .agg #[.int .i64 c, .int .i64 d]] w fun e w' => e = .returned (.agg #[.int .i64 (eithZ op a b c d).1, .int .i64 (eithZ op a b c d).2]) ∧ Below w.heap.size w w' := by
  have HA := fun w => hide (around_any a b c d w ha hb hc hd)
  have HZ : Hid (eithZ op a b c d = if a < 0 ∨ c < 0 then (-arP a b c d, arP a b c d - 1) else if op = 16 then (max a c, arP a b c d - 1) else (0, arP a b c d - 1)) := hide rfl
  have hP := (arP_bd ha hb hc hd).2
  generalize arP a b c d = p at *
  by_cases h1 : a < 0
  · have e1 : decide (a < 0) = true := by simp [h1]
    have hz := HZ.out
    rw [if_pos (.inl h1)] at hz
    rw [hz]
    clear hz HZ
    go_enter Try.func92, Try.ntmps92
    go_wp2_with fail
    refine (HA _).out.mono ?_
    rintro e w2 ⟨rfl, hb2⟩
    obtain ⟨k1, k2, h3, hB⟩ := box2 hb2
    clear hb2
    have f1 := fun x' y' : Int => facts2 (box3 (x' := x') (y' := y') k1 hB).1
    have f2 := fun x' y' : Int => facts2 (box3 (x' := x') (y' := y') k2 hB).1
    have f3 := fun x' y' : Int => facts2 (box3 (x' := x') (y' := y') h3 hB).1
    have q1 := fun x' y' => (f1 x' y').1
    have q2 := fun x' y' => (f1 x' y').2.1
    have r1 := fun x' y' => (f2 x' y').1
    have r2 := fun x' y' => (f2 x' y').2.1
    have s1 := fun x' y' => (f3 x' y').1
    have s2 := fun x' y' => (f3 x' y').2.1
    have s3 := fun x' y' => (f3 x' y').2.2.1
    have s4 := fun x' y' => (f3 x' y').2.2.2
    have HB := hide fun x' y' : Int => (box3 (x' := x') (y' := y') k1 hB).2.2
    have H3 := hide fun x' y' : Int => (box3 (x' := x') (y' := y') h3 hB).1
    clear f1 f2 f3 k1 k2 h3 hB
    go_wp2_with fail
    obtain ⟨c0, c1, hB2⟩ := stored2 (H3.out _ _) (HB.out _ _) (by omega) (-p) (p - 1)
    exact bodyPost_ret (v := .agg #[.int .i64 (-p), .int .i64 (p - 1)]) (by simp [results, Try.results92, go_sem, c0, c1]) rfl ⟨rfl, hB2⟩
  have e1 : decide (a < 0) = false := by simp; omega
  by_cases h2 : c < 0
  · have hz := HZ.out
    rw [if_pos (.inr h2)] at hz
    rw [hz]
    clear hz HZ
    go_enter Try.func92, Try.ntmps92
    go_wp2_with fail
    refine (HA _).out.mono ?_
    rintro e w2 ⟨rfl, hb2⟩
    obtain ⟨k1, k2, h3, hB⟩ := box2 hb2
    clear hb2
    have f1 := fun x' y' : Int => facts2 (box3 (x' := x') (y' := y') k1 hB).1
    have f2 := fun x' y' : Int => facts2 (box3 (x' := x') (y' := y') k2 hB).1
    have f3 := fun x' y' : Int => facts2 (box3 (x' := x') (y' := y') h3 hB).1
    have q1 := fun x' y' => (f1 x' y').1
    have q2 := fun x' y' => (f1 x' y').2.1
    have r1 := fun x' y' => (f2 x' y').1
    have r2 := fun x' y' => (f2 x' y').2.1
    have s1 := fun x' y' => (f3 x' y').1
    have s2 := fun x' y' => (f3 x' y').2.1
    have s3 := fun x' y' => (f3 x' y').2.2.1
    have s4 := fun x' y' => (f3 x' y').2.2.2
    have HB := hide fun x' y' : Int => (box3 (x' := x') (y' := y') k1 hB).2.2
    have H3 := hide fun x' y' : Int => (box3 (x' := x') (y' := y') h3 hB).1
    clear f1 f2 f3 k1 k2 h3 hB
    go_wp2_with fail
    obtain ⟨c0, c1, hB2⟩ := stored2 (H3.out _ _) (HB.out _ _) (by omega) (-p) (p - 1)
    exact bodyPost_ret (v := .agg #[.int .i64 (-p), .int .i64 (p - 1)]) (by simp [results, Try.results92, go_sem, c0, c1]) rfl ⟨rfl, hB2⟩
  have h12 : ¬ (a < 0 ∨ c < 0) := by omega
  by_cases h0 : op = 16
  · subst h0
    have hz := HZ.out
    rw [if_neg h12, if_pos rfl] at hz
    rw [hz]
    clear hz HZ
    go_enter Try.func92, Try.ntmps92
    go_wp2_with fail
    refine (HA _).out.mono ?_
    rintro e w2 ⟨rfl, hb2⟩
    obtain ⟨k1, k2, h3, hB⟩ := box2 hb2
    clear hb2
    have f1 := fun x' y' : Int => facts2 (box3 (x' := x') (y' := y') k1 hB).1
    have f2 := fun x' y' : Int => facts2 (box3 (x' := x') (y' := y') k2 hB).1
    have f3 := fun x' y' : Int => facts2 (box3 (x' := x') (y' := y') h3 hB).1
    have q1 := fun x' y' => (f1 x' y').1
    have q2 := fun x' y' => (f1 x' y').2.1
    have r1 := fun x' y' => (f2 x' y').1
    have r2 := fun x' y' => (f2 x' y').2.1
    have s1 := fun x' y' => (f3 x' y').1
    have s2 := fun x' y' => (f3 x' y').2.1
    have s3 := fun x' y' => (f3 x' y').2.2.1
    have s4 := fun x' y' => (f3 x' y').2.2.2
    have HB := hide fun x' y' : Int => (box3 (x' := x') (y' := y') k1 hB).2.2
    have H3 := hide fun x' y' : Int => (box3 (x' := x') (y' := y') h3 hB).1
    clear f1 f2 f3 k1 k2 h3 hB
    go_wp2_with fail
    · obtain ⟨c0, c1, hB2⟩ := stored2 (H3.out _ _) (HB.out _ _) (by omega) c (p - 1)
      exact bodyPost_ret (v := .agg #[.int .i64 c, .int .i64 (p - 1)]) (by simp [results, Try.results92, go_sem, c0, c1]) rfl ⟨ret_span (by omega) rfl, hB2⟩
    · obtain ⟨c0, c1, hB2⟩ := stored2 (H3.out _ _) (HB.out _ _) (by omega) a (p - 1)
      exact bodyPost_ret (v := .agg #[.int .i64 a, .int .i64 (p - 1)]) (by simp [results, Try.results92, go_sem, c0, c1]) rfl ⟨ret_span (by omega) rfl, hB2⟩
  · have e0 : (op == 16) = false := by simp [h0]
    have hz := HZ.out
    rw [if_neg h12, if_neg h0] at hz
    rw [hz]
    clear hz HZ
    go_enter Try.func92, Try.ntmps92
    go_wp2_with fail
    refine (HA _).out.mono ?_
    rintro e w2 ⟨rfl, hb2⟩
    obtain ⟨k1, k2, h3, hB⟩ := box2 hb2
    clear hb2
    have f1 := fun x' y' : Int => facts2 (box3 (x' := x') (y' := y') k1 hB).1
    have f2 := fun x' y' : Int => facts2 (box3 (x' := x') (y' := y') k2 hB).1
    have f3 := fun x' y' : Int => facts2 (box3 (x' := x') (y' := y') h3 hB).1
    have q1 := fun x' y' => (f1 x' y').1
    have q2 := fun x' y' => (f1 x' y').2.1
    have r1 := fun x' y' => (f2 x' y').1
    have r2 := fun x' y' => (f2 x' y').2.1
    have s1 := fun x' y' => (f3 x' y').1
    have s2 := fun x' y' => (f3 x' y').2.1
    have s3 := fun x' y' => (f3 x' y').2.2.1
    have s4 := fun x' y' => (f3 x' y').2.2.2
    have HB := hide fun x' y' : Int => (box3 (x' := x') (y' := y') k1 hB).2.2
    have H3 := hide fun x' y' : Int => (box3 (x' := x') (y' := y') h3 hB).1
    clear f1 f2 f3 k1 k2 h3 hB
    go_wp2_with fail
    obtain ⟨c0, c1, hB2⟩ := stored2 (H3.out _ _) (HB.out _ _) (by omega) 0 (p - 1)
    exact bodyPost_ret (v := .agg #[.int .i64 0, .int .i64 (p - 1)]) (by simp [results, Try.results92, go_sem, c0, c1]) rfl ⟨rfl, hB2⟩

end Go.Proofs.Ytihbhbeaihdgnaa.Spn

/-
  The functions of package span that reckon without asking for a value: equal, ofTwo, chosen.
-/
namespace Go.Proofs.Ytihbhbeaihdgnaa.Spn
open Go.RowKit Go.IntWalk Go.Sort
set_option linter.unusedVariables false

/-- OpEq. -/
def eqZ (a b c d : Int) : Int × Int := if b < c ∨ d < a then (0, 0) else if a = c ∧ b = d ∧ a = b then (1, 1) else (0, 1)

/-- The region of '==' behind the walk: what is known of the world. -/
theorem box_rg {w W : World} {b1 b2 b3 : Nat} {a b c d x y : Int} (k1 : HasC W b1 73 #[.int .i64 a, .int .i64 b]) (k2 : HasC W b2 73 #[.int .i64 c, .int .i64 d]) (k3 : HasC W b3 73 #[.int .i64 x, .int .i64 y]) (hB : Below w.heap.size w W) (dq : Nat) (os : Array Obj) :
    HasC (grow (redrawn W dq) os) b1 73 #[.int .i64 a, .int .i64 b] ∧ HasC (grow (redrawn W dq) os) b2 73 #[.int .i64 c, .int .i64 d] ∧ HasC (grow (redrawn W dq) os) b3 73 #[.int .i64 x, .int .i64 y] ∧ Below w.heap.size w (grow (redrawn W dq) os) :=
  ⟨k1.below (below_regrown _ _ _), k2.below (below_regrown _ _ _), k3.below (below_regrown _ _ _), bel hB (below_regrown _ _ _)⟩

set_option maxRecDepth 100000 in
set_option maxHeartbeats 1000000 in
theorem equal_any (a b c d : Int) (w : World) :
    Calls Try.prog 93 #[.agg #[.int .i64 a, .int .i64 b], .agg #[.int .i64 c, .int .i64 d]] w fun e w' => e = .returned (.agg #[.int .i64 (eqZ a b c d).1, .int .i64 (eqZ a b c d).2]) ∧ Below w.heap.size w w' := by
  by_cases h1 : b < c
  · have e1 : decide (b < c) = true := by simp [h1]
    rw [show eqZ a b c d = (0, 0) by simp [eqZ, h1]]
    go_enter Try.func93, Try.ntmps93
    go_wp2_with fail
    refine (alone_any _ _).mono ?_
    rintro e w2 ⟨rfl, hb2⟩
    obtain ⟨-, -, h3, hB⟩ := box2 hb2
    obtain ⟨s1, s2, s3, s4⟩ := facts2 h3
    go_wp2_with fail
    obtain ⟨c0, c1, hB2⟩ := stored2 h3 hB (by omega) 0 0
    exact bodyPost_ret (v := .agg #[.int .i64 0, .int .i64 0]) (by simp [results, Try.results93, go_sem, c0, c1]) rfl ⟨rfl, hB2⟩
  have e1 : decide (b < c) = false := by simp; omega
  by_cases h2 : d < a
  · rw [show eqZ a b c d = (0, 0) by simp [eqZ, h2]]
    go_enter Try.func93, Try.ntmps93
    go_wp2_with fail
    refine (alone_any _ _).mono ?_
    rintro e w2 ⟨rfl, hb2⟩
    obtain ⟨-, -, h3, hB⟩ := box2 hb2
    obtain ⟨s1, s2, s3, s4⟩ := facts2 h3
    go_wp2_with fail
    obtain ⟨c0, c1, hB2⟩ := stored2 h3 hB (by omega) 0 0
    exact bodyPost_ret (v := .agg #[.int .i64 0, .int .i64 0]) (by simp [results, Try.results93, go_sem, c0, c1]) rfl ⟨rfl, hB2⟩
  have hap : ¬ (b < c ∨ d < a) := by omega
  by_cases h3 : a = c
  · subst h3
    by_cases h5 : b = d
    · subst h5
      by_cases h4 : a = b
      · subst h4
        rw [show eqZ a a a a = (1, 1) by simp [eqZ]]
        go_enter Try.func93, Try.ntmps93
        go_wp2_with fail
        obtain ⟨k1, k2, k3, hB⟩ := box2 (w := w) (a := a) (b := a) (c := a) (d := a) (x := 0) (y := 0) (Below.refl _ _)
        obtain ⟨W, hW⟩ : ∃ W, ((w.alloc (.cells #[.int .i64 a, .int .i64 a] 73)).alloc (.cells #[.int .i64 a, .int .i64 a] 73)).alloc (.cells #[.int .i64 0, .int .i64 0] 73) = W := ⟨_, rfl⟩
        rw [hW] at k1 k2 k3 hB ⊢
        clear hW
        obtain ⟨q1, q2, -, -⟩ := facts2 k1
        obtain ⟨r1, r2, -, -⟩ := facts2 k2
        have m1 := cell_regrown q1
        have m2 := cell_regrown q2
        have m3 := cell_regrown r1
        have m4 := cell_regrown r2
        refine wp_region_quiet_below mixed (by kernel_rfl) ?_
        repeat (go_big_quiet_step ((go_at_call 68; exact Calls.regrown_of (alone_any _ _))))
        refine wpQuiet_nil ?_
        intro _ hw'
        obtain ⟨⟨dq, osq⟩, hw''⟩ := hw'
        subst hw''
        obtain ⟨-, -, k4, hB4⟩ := box_rg k1 k2 k3 hB dq osq
        clear k1 k2 k3 hB q1 q2 r1 r2 m1 m2 m3 m4
        simp only
        generalize grow (redrawn W dq) osq = G at *
        go_wp2_with fail
        refine (alone_any _ _).mono ?_
        rintro e w2 ⟨rfl, hb2⟩
        have h3 := k4.below hb2
        have hB := bel hB4 hb2
        obtain ⟨s1, s2, s3, s4⟩ := facts2 h3
        clear hb2 k4 hB4
        go_wp2_with fail
        obtain ⟨c0, c1, hB2⟩ := stored2 h3 hB (by omega) 1 1
        exact bodyPost_ret (v := .agg #[.int .i64 1, .int .i64 1]) (by simp [results, Try.results93, go_sem, c0, c1]) rfl ⟨rfl, hB2⟩
      · rw [show eqZ a b a b = (0, 1) by simp [eqZ, h4]; omega]
        have e4 : (b == a) = false := by simp; omega
        have e5 : (a == b) = false := by simp; omega
        clear h4
        go_enter Try.func93, Try.ntmps93
        go_wp2_with fail
        obtain ⟨k1, k2, k3, hB⟩ := box2 (w := w) (a := a) (b := b) (c := a) (d := b) (x := 0) (y := 0) (Below.refl _ _)
        obtain ⟨W, hW⟩ : ∃ W, ((w.alloc (.cells #[.int .i64 a, .int .i64 b] 73)).alloc (.cells #[.int .i64 a, .int .i64 b] 73)).alloc (.cells #[.int .i64 0, .int .i64 0] 73) = W := ⟨_, rfl⟩
        rw [hW] at k1 k2 k3 hB ⊢
        clear hW
        obtain ⟨q1, q2, -, -⟩ := facts2 k1
        obtain ⟨r1, r2, -, -⟩ := facts2 k2
        have m1 := cell_regrown q1
        have m2 := cell_regrown q2
        have m3 := cell_regrown r1
        have m4 := cell_regrown r2
        refine wp_region_quiet_below mixed (by kernel_rfl) ?_
        repeat (go_big_quiet_step ((go_at_call 68; exact Calls.regrown_of (alone_any _ _))))
        refine wpQuiet_nil ?_
        intro _ hw'
        obtain ⟨⟨dq, osq⟩, hw''⟩ := hw'
        subst hw''
        obtain ⟨-, -, k4, hB4⟩ := box_rg k1 k2 k3 hB dq osq
        clear k1 k2 k3 hB q1 q2 r1 r2 m1 m2 m3 m4
        simp only
        generalize grow (redrawn W dq) osq = G at *
        obtain ⟨s1, s2, s3, s4⟩ := facts2 k4
        go_wp2_with fail
        obtain ⟨c0, c1, hB2⟩ := stored2 k4 hB4 (by omega) 0 1
        exact bodyPost_ret (v := .agg #[.int .i64 0, .int .i64 1]) (by simp [results, Try.results93, go_sem, c0, c1]) rfl ⟨rfl, hB2⟩
    · rw [show eqZ a b a d = (0, 1) by simp [eqZ, h5]; omega]
      have e4 : (b == d) = false := by simp; omega
      clear h5
      go_enter Try.func93, Try.ntmps93
      go_wp2_with fail
      obtain ⟨k1, k2, k3, hB⟩ := box2 (w := w) (a := a) (b := b) (c := a) (d := d) (x := 0) (y := 0) (Below.refl _ _)
      obtain ⟨W, hW⟩ : ∃ W, ((w.alloc (.cells #[.int .i64 a, .int .i64 b] 73)).alloc (.cells #[.int .i64 a, .int .i64 d] 73)).alloc (.cells #[.int .i64 0, .int .i64 0] 73) = W := ⟨_, rfl⟩
      rw [hW] at k1 k2 k3 hB ⊢
      clear hW
      obtain ⟨q1, q2, -, -⟩ := facts2 k1
      obtain ⟨r1, r2, -, -⟩ := facts2 k2
      have m1 := cell_regrown q1
      have m2 := cell_regrown q2
      have m3 := cell_regrown r1
      have m4 := cell_regrown r2
      refine wp_region_quiet_below mixed (by kernel_rfl) ?_
      repeat (go_big_quiet_step ((go_at_call 68; exact Calls.regrown_of (alone_any _ _))))
      refine wpQuiet_nil ?_
      intro _ hw'
      obtain ⟨⟨dq, osq⟩, hw''⟩ := hw'
      subst hw''
      obtain ⟨-, -, k4, hB4⟩ := box_rg k1 k2 k3 hB dq osq
      clear k1 k2 k3 hB q1 q2 r1 r2 m1 m2 m3 m4
      simp only
      generalize grow (redrawn W dq) osq = G at *
      obtain ⟨s1, s2, s3, s4⟩ := facts2 k4
      go_wp2_with fail
      obtain ⟨c0, c1, hB2⟩ := stored2 k4 hB4 (by omega) 0 1
      exact bodyPost_ret (v := .agg #[.int .i64 0, .int .i64 1]) (by simp [results, Try.results93, go_sem, c0, c1]) rfl ⟨rfl, hB2⟩
  · rw [show eqZ a b c d = (0, 1) by simp [eqZ, h3]; omega]
    have e4 : (a == c) = false := by simp; omega
    clear h3
    go_enter Try.func93, Try.ntmps93
    go_wp2_with fail
    obtain ⟨k1, k2, k3, hB⟩ := box2 (w := w) (a := a) (b := b) (c := c) (d := d) (x := 0) (y := 0) (Below.refl _ _)
    obtain ⟨W, hW⟩ : ∃ W, ((w.alloc (.cells #[.int .i64 a, .int .i64 b] 73)).alloc (.cells #[.int .i64 c, .int .i64 d] 73)).alloc (.cells #[.int .i64 0, .int .i64 0] 73) = W := ⟨_, rfl⟩
    rw [hW] at k1 k2 k3 hB ⊢
    clear hW
    obtain ⟨q1, q2, -, -⟩ := facts2 k1
    obtain ⟨r1, r2, -, -⟩ := facts2 k2
    have m1 := cell_regrown q1
    have m2 := cell_regrown q2
    have m3 := cell_regrown r1
    have m4 := cell_regrown r2
    refine wp_region_quiet_below mixed (by kernel_rfl) ?_
    repeat (go_big_quiet_step ((go_at_call 68; exact Calls.regrown_of (alone_any _ _))))
    refine wpQuiet_nil ?_
    intro _ hw'
    obtain ⟨⟨dq, osq⟩, hw''⟩ := hw'
    subst hw''
    obtain ⟨-, -, k4, hB4⟩ := box_rg k1 k2 k3 hB dq osq
    clear k1 k2 k3 hB q1 q2 r1 r2 m1 m2 m3 m4
    simp only
    generalize grow (redrawn W dq) osq = G at *
    obtain ⟨s1, s2, s3, s4⟩ := facts2 k4
    go_wp2_with fail
    obtain ⟨c0, c1, hB2⟩ := stored2 k4 hB4 (by omega) 0 1
    exact bodyPost_ret (v := .agg #[.int .i64 0, .int .i64 1]) (by simp [results, Try.results93, go_sem, c0, c1]) rfl ⟨rfl, hB2⟩

end Go.Proofs.Ytihbhbeaihdgnaa.Spn

/-
  The functions of package span that reckon without asking for a value: ofTwo, chosen.
-/
namespace Go.Proofs.Ytihbhbeaihdgnaa.Spn
open Go.RowKit Go.IntWalk Go.Sort
set_option linter.unusedVariables false

/-- The operators of two numbers whose span is reckoned from the ends. -/
def twoZ (op a b c d : Int) : Int × Int :=
  if op = 8 then (a + c, b + d) else if op = 9 then (a - d, b - c) else if op = 15 then bothZ a b c d else if op = 16 ∨ op = 17 then eithZ op a b c d else if op = 22 then eqZ a b c d else (1 - (eqZ a b c d).2, 1 - (eqZ a b c d).1)

theorem eqZ_01 (a b c d : Int) : 0 ≤ (eqZ a b c d).1 ∧ (eqZ a b c d).1 ≤ 1 ∧ 0 ≤ (eqZ a b c d).2 ∧ (eqZ a b c d).2 ≤ 1 := by
  unfold eqZ
  split
  · simp
  · split <;> simp

set_option maxRecDepth 100000 in
set_option maxHeartbeats 1000000 in
theorem sofTwo_any (op a b c d : Int) (w : World) (ha : W32 a) (hb : W32 b) (hc : W32 c) (hd : W32 d) (ho : op = 8 ∨ op = 9 ∨ op = 15 ∨ op = 16 ∨ op = 17 ∨ op = 22 ∨ op = 23) :
    Calls Try.prog 87 #[.int .i64 op, .agg #[.int .i64 a, .int .i64 b], .agg #[.int .i64 c, .int .i64 d]] w fun e w' => e = .returned (.agg #[.int .i64 (twoZ op a b c d).1, .int .i64 (twoZ op a b c d).2]) ∧ Below w.heap.size w w' := by
  rcases ho with rfl | rfl | rfl | rfl | rfl | rfl | rfl
  · rw [show twoZ 8 a b c d = (a + c, b + d) from rfl]
    go_enter Try.func87, Try.ntmps87
    go_wp2
    exact bodyPost_ret (v := .agg #[.int .i64 (a + c), .int .i64 (b + d)]) (by simp [results, Try.results87, go_sem]) rfl ⟨rfl, bel3 _ _ _ _ _⟩
  · rw [show twoZ 9 a b c d = (a - d, b - c) from rfl]
    go_enter Try.func87, Try.ntmps87
    go_wp2
    exact bodyPost_ret (v := .agg #[.int .i64 (a - d), .int .i64 (b - c)]) (by simp [results, Try.results87, go_sem]) rfl ⟨rfl, bel3 _ _ _ _ _⟩
  · rw [show twoZ 15 a b c d = bothZ a b c d from rfl]
    have HA := fun w => hide (both_any a b c d w ha hb hc hd)
    generalize bothZ a b c d = Z at *
    obtain ⟨x, y⟩ := Z
    go_enter Try.func87, Try.ntmps87
    go_wp2_with fail
    refine (HA _).out.mono ?_
    rintro e w2 ⟨rfl, hb2⟩
    obtain ⟨-, -, h3, hB⟩ := box2 hb2
    obtain ⟨s1, s2, s3, s4⟩ := facts2 h3
    clear hb2
    go_wp2_with fail
    obtain ⟨c0, c1, hB2⟩ := stored2 h3 hB (by omega) x y
    exact bodyPost_ret (v := .agg #[.int .i64 x, .int .i64 y]) (by simp [results, Try.results87, go_sem, c0, c1]) rfl ⟨rfl, hB2⟩
  · rw [show twoZ 16 a b c d = eithZ 16 a b c d from rfl]
    have HA := fun w => hide (either_any 16 a b c d w ha hb hc hd)
    generalize eithZ 16 a b c d = Z at *
    obtain ⟨x, y⟩ := Z
    go_enter Try.func87, Try.ntmps87
    go_wp2_with fail
    refine (HA _).out.mono ?_
    rintro e w2 ⟨rfl, hb2⟩
    obtain ⟨-, -, h3, hB⟩ := box2 hb2
    obtain ⟨s1, s2, s3, s4⟩ := facts2 h3
    clear hb2
    go_wp2_with fail
    obtain ⟨c0, c1, hB2⟩ := stored2 h3 hB (by omega) x y
    exact bodyPost_ret (v := .agg #[.int .i64 x, .int .i64 y]) (by simp [results, Try.results87, go_sem, c0, c1]) rfl ⟨rfl, hB2⟩
  · rw [show twoZ 17 a b c d = eithZ 17 a b c d from rfl]
    have HA := fun w => hide (either_any 17 a b c d w ha hb hc hd)
    generalize eithZ 17 a b c d = Z at *
    obtain ⟨x, y⟩ := Z
    go_enter Try.func87, Try.ntmps87
    go_wp2_with fail
    refine (HA _).out.mono ?_
    rintro e w2 ⟨rfl, hb2⟩
    obtain ⟨-, -, h3, hB⟩ := box2 hb2
    obtain ⟨s1, s2, s3, s4⟩ := facts2 h3
    clear hb2
    go_wp2_with fail
    obtain ⟨c0, c1, hB2⟩ := stored2 h3 hB (by omega) x y
    exact bodyPost_ret (v := .agg #[.int .i64 x, .int .i64 y]) (by simp [results, Try.results87, go_sem, c0, c1]) rfl ⟨rfl, hB2⟩
  · rw [show twoZ 22 a b c d = eqZ a b c d from rfl]
    have HA := fun w => hide (equal_any a b c d w)
    generalize eqZ a b c d = Z at *
    obtain ⟨x, y⟩ := Z
    go_enter Try.func87, Try.ntmps87
    go_wp2_with fail
    refine (HA _).out.mono ?_
    rintro e w2 ⟨rfl, hb2⟩
    obtain ⟨-, -, h3, hB⟩ := box2 hb2
    obtain ⟨s1, s2, s3, s4⟩ := facts2 h3
    clear hb2
    go_wp2_with fail
    obtain ⟨c0, c1, hB2⟩ := stored2 h3 hB (by omega) x y
    exact bodyPost_ret (v := .agg #[.int .i64 x, .int .i64 y]) (by simp [results, Try.results87, go_sem, c0, c1]) rfl ⟨rfl, hB2⟩
  · rw [show twoZ 23 a b c d = (1 - (eqZ a b c d).2, 1 - (eqZ a b c d).1) from rfl]
    have HA := fun w => hide (equal_any a b c d w)
    have h01 := eqZ_01 a b c d
    generalize eqZ a b c d = Z at *
    obtain ⟨x, y⟩ := Z
    simp only at h01
    go_enter Try.func87, Try.ntmps87
    go_wp2_with fail
    refine (HA _).out.mono ?_
    rintro e w2 ⟨rfl, hb2⟩
    obtain ⟨-, -, h3, hB⟩ := box2 hb2
    have f3 := fun x' y' : Int => facts2 (box3 (x' := x') (y' := y') h3 hB).1
    have s1 := fun x' y' => (f3 x' y').1
    have s2 := fun x' y' => (f3 x' y').2.1
    have s3 := fun x' y' => (f3 x' y').2.2.1
    have s4 := fun x' y' => (f3 x' y').2.2.2
    have H3 := hide fun x' y' : Int => (box3 (x' := x') (y' := y') h3 hB)
    clear f3 h3 hB hb2
    go_wp2_with fail
    obtain ⟨c0, c1, hB2⟩ := stored2 (H3.out _ _).1 (H3.out _ _).2.2 (by omega) (1 - y) (1 - x)
    exact bodyPost_ret (v := .agg #[.int .i64 (1 - y), .int .i64 (1 - x)]) (by simp [results, Try.results87, go_sem, c0, c1]) rfl ⟨rfl, hB2⟩

/-- OpSel. -/
def selZ (a b c d e f : Int) : Int × Int := if hasB a b 0 = true then (if a = 0 ∧ b = 0 then (e, f) else (min c e, max d f)) else (c, d)

abbrev cs (x y : Int) : Obj := .cells #[.int .i64 x, .int .i64 y] 73

theorem bel4' (w : World) (a b c d e f x y : Int) : Below w.heap.size w ((((w.alloc (cs a b)).alloc (cs c d)).alloc (cs e f)).alloc (cs x y)) :=
  ((((Below.refl _ _).alloc (Nat.le_refl _) _).alloc (by simp) _).alloc (by simp; omega) _).alloc (by simp; omega) _

theorem box4 {w w2 : World} {a b c d e f x y : Int} (h : Below ((((w.alloc (cs a b)).alloc (cs c d)).alloc (cs e f)).alloc (cs x y)).heap.size ((((w.alloc (cs a b)).alloc (cs c d)).alloc (cs e f)).alloc (cs x y)) w2) :
    HasC w2 w.heap.size 73 #[.int .i64 a, .int .i64 b] ∧ HasC w2 (w.heap.size + 1) 73 #[.int .i64 c, .int .i64 d] ∧ HasC w2 (w.heap.size + 1 + 1) 73 #[.int .i64 e, .int .i64 f] ∧ HasC w2 (w.heap.size + 1 + 1 + 1) 73 #[.int .i64 x, .int .i64 y] ∧ Below w.heap.size w w2 := by
  have h1 := ((((HasC.new w 73 #[.int .i64 a, .int .i64 b]).alloc (cs c d)).alloc (cs e f)).alloc (cs x y)).below h
  have h2 := (((HasC.new (w.alloc (cs a b)) 73 #[.int .i64 c, .int .i64 d]).alloc (cs e f)).alloc (cs x y)).below h
  have h3 := ((HasC.new ((w.alloc (cs a b)).alloc (cs c d)) 73 #[.int .i64 e, .int .i64 f]).alloc (cs x y)).below h
  have h4 := (HasC.new (((w.alloc (cs a b)).alloc (cs c d)).alloc (cs e f)) 73 #[.int .i64 x, .int .i64 y]).below h
  simp only [World.size_alloc] at h2 h3 h4
  exact ⟨h1, h2, h3, h4, bel (bel4' _ _ _ _ _ _ _ _ _) h⟩

set_option maxRecDepth 100000 in
set_option maxHeartbeats 1000000 in
theorem schosen_any (a b c d e f : Int) (w : World) :
    Calls Try.prog 88 #[.agg #[.int .i64 a, .int .i64 b], .agg #[.int .i64 c, .int .i64 d], .agg #[.int .i64 e, .int .i64 f]] w fun r w' => r = .returned (.agg #[.int .i64 (selZ a b c d e f).1, .int .i64 (selZ a b c d e f).2]) ∧ Below w.heap.size w w' := by
  have HH := fun w => hide (has_any a b 0 w)
  cases h0 : hasB a b 0
  · rw [show selZ a b c d e f = (c, d) by simp [selZ, h0]]
    rw [h0] at HH
    go_enter Try.func88, Try.ntmps88
    go_wp2_with fail
    refine (HH _).out.mono ?_
    rintro r w2 ⟨rfl, hb2⟩
    obtain ⟨k1, k2, k3, h3, hB⟩ := box4 hb2
    obtain ⟨q1, q2, -, -⟩ := facts2 k2
    obtain ⟨s1, s2, s3, s4⟩ := facts2 h3
    clear hb2 k1 k3
    go_wp2_with fail
    obtain ⟨c0, c1, hB2⟩ := stored2 h3 hB (by omega) c d
    exact bodyPost_ret (v := .agg #[.int .i64 c, .int .i64 d]) (by simp [results, Try.results88, go_sem, c0, c1]) rfl ⟨rfl, hB2⟩
  · rw [h0] at HH
    have HZ : Hid (selZ a b c d e f = if a = 0 ∧ b = 0 then (e, f) else (min c e, max d f)) := hide (by simp [selZ, h0])
    clear h0
    by_cases h1 : a = 0
    · subst h1
      by_cases h2 : b = 0
      · subst h2
        have hz := HZ.out
        rw [if_pos ⟨rfl, rfl⟩] at hz
        rw [hz]
        clear hz HZ
        go_enter Try.func88, Try.ntmps88
        go_wp2_with fail
        refine (HH _).out.mono ?_
        rintro r W ⟨rfl, hb2⟩
        obtain ⟨k1, k2, k3, h3, hB⟩ := box4 hb2
        clear hb2
        obtain ⟨q1, q2, -, -⟩ := facts2 k1
        go_wp2_with fail
        have m1 := cell_regrown q1
        have m2 := cell_regrown q2
        refine wp_region_quiet_below mixed (by kernel_rfl) ?_
        repeat (go_big_quiet_step ((go_at_call 68; exact Calls.regrown_of (alone_any _ _))))
        refine wpQuiet_nil ?_
        intro _ hw'
        obtain ⟨⟨dq, osq⟩, hw''⟩ := hw'
        subst hw''
        obtain ⟨K2, K3, K4, hB4⟩ := box_rg k2 k3 h3 hB dq osq
        clear k1 k2 k3 h3 hB q1 q2 m1 m2
        simp only
        generalize grow (redrawn W dq) osq = G at *
        obtain ⟨p1, p2, -, -⟩ := facts2 K2
        obtain ⟨q1, q2, -, -⟩ := facts2 K3
        obtain ⟨s1, s2, s3, s4⟩ := facts2 K4
        go_wp2_with fail
        obtain ⟨c0, c1, hB2⟩ := stored2 K4 hB4 (by omega) e f
        exact bodyPost_ret (v := .agg #[.int .i64 e, .int .i64 f]) (by simp [results, Try.results88, go_sem, c0, c1]) rfl ⟨rfl, hB2⟩
      · have e1 : (b == 0) = false := by simp [h2]
        have hz := HZ.out
        rw [if_neg (by omega)] at hz
        rw [hz]
        clear hz HZ h2
        go_enter Try.func88, Try.ntmps88
        go_wp2_with fail
        refine (HH _).out.mono ?_
        rintro r W ⟨rfl, hb2⟩
        obtain ⟨k1, k2, k3, h3, hB⟩ := box4 hb2
        clear hb2
        obtain ⟨q1, q2, -, -⟩ := facts2 k1
        go_wp2_with fail
        have m1 := cell_regrown q1
        have m2 := cell_regrown q2
        refine wp_region_quiet_below mixed (by kernel_rfl) ?_
        repeat (go_big_quiet_step ((go_at_call 68; exact Calls.regrown_of (alone_any _ _))))
        refine wpQuiet_nil ?_
        intro _ hw'
        obtain ⟨⟨dq, osq⟩, hw''⟩ := hw'
        subst hw''
        obtain ⟨K2, K3, K4, hB4⟩ := box_rg k2 k3 h3 hB dq osq
        clear k1 k2 k3 h3 hB q1 q2 m1 m2
        simp only
        generalize grow (redrawn W dq) osq = G at *
        obtain ⟨p1, p2, -, -⟩ := facts2 K2
        obtain ⟨q1, q2, -, -⟩ := facts2 K3
        obtain ⟨s1, s2, s3, s4⟩ := facts2 K4
        go_wp2_with fail
        refine (join_any _ _ _ _ _).mono ?_
        rintro r w2 ⟨rfl, hb2⟩
        have h3 := K4.below hb2
        have hB := bel hB4 hb2
        clear s1 s2 s3 s4
        obtain ⟨s1, s2, s3, s4⟩ := facts2 h3
        clear hb2 K4 hB4
        obtain ⟨x, hx⟩ : ∃ x, min c e = x := ⟨_, rfl⟩
        obtain ⟨y, hy⟩ : ∃ y, max d f = y := ⟨_, rfl⟩
        rw [hx, hy]
        have HX := hide hx
        have HY := hide hy
        clear hx hy
        go_wp2_with fail
        obtain ⟨c0, c1, hB2⟩ := stored2 h3 hB (by omega) x y
        exact bodyPost_ret (v := .agg #[.int .i64 x, .int .i64 y]) (by simp [results, Try.results88, go_sem, c0, c1]) rfl ⟨by rw [HX.out, HY.out], hB2⟩
    · have e1 : (a == 0) = false := by simp [h1]
      have hz := HZ.out
      rw [if_neg (by omega)] at hz
      rw [hz]
      clear hz HZ h1
      go_enter Try.func88, Try.ntmps88
      go_wp2_with fail
      refine (HH _).out.mono ?_
      rintro r W ⟨rfl, hb2⟩
      obtain ⟨k1, k2, k3, h3, hB⟩ := box4 hb2
      clear hb2
      obtain ⟨q1, q2, -, -⟩ := facts2 k1
      go_wp2_with fail
      have m1 := cell_regrown q1
      have m2 := cell_regrown q2
      refine wp_region_quiet_below mixed (by kernel_rfl) ?_
      repeat (go_big_quiet_step ((go_at_call 68; exact Calls.regrown_of (alone_any _ _))))
      refine wpQuiet_nil ?_
      intro _ hw'
      obtain ⟨⟨dq, osq⟩, hw''⟩ := hw'
      subst hw''
      obtain ⟨K2, K3, K4, hB4⟩ := box_rg k2 k3 h3 hB dq osq
      clear k1 k2 k3 h3 hB q1 q2 m1 m2
      simp only
      generalize grow (redrawn W dq) osq = G at *
      obtain ⟨p1, p2, -, -⟩ := facts2 K2
      obtain ⟨q1, q2, -, -⟩ := facts2 K3
      obtain ⟨s1, s2, s3, s4⟩ := facts2 K4
      go_wp2_with fail
      refine (join_any _ _ _ _ _).mono ?_
      rintro r w2 ⟨rfl, hb2⟩
      have h3 := K4.below hb2
      have hB := bel hB4 hb2
      clear s1 s2 s3 s4
      obtain ⟨s1, s2, s3, s4⟩ := facts2 h3
      clear hb2 K4 hB4
      obtain ⟨x, hx⟩ : ∃ x, min c e = x := ⟨_, rfl⟩
      obtain ⟨y, hy⟩ : ∃ y, max d f = y := ⟨_, rfl⟩
      rw [hx, hy]
      have HX := hide hx
      have HY := hide hy
      clear hx hy
      go_wp2_with fail
      obtain ⟨c0, c1, hB2⟩ := stored2 h3 hB (by omega) x y
      exact bodyPost_ret (v := .agg #[.int .i64 x, .int .i64 y]) (by simp [results, Try.results88, go_sem, c0, c1]) rfl ⟨by rw [HX.out, HY.out], hB2⟩

end Go.Proofs.Ytihbhbeaihdgnaa.Spn

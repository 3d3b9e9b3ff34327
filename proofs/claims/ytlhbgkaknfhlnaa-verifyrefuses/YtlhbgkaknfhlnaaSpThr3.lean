/-
  The functions of package span that reckon without asking for a value: ofTwo, chosen.
-/
import Derived.Test.YtlhbgkaknfhlnaaSpThr2
namespace Go.Proofs.Ytlhbgkaknfhlnaa.Spn
open Go.RowKit Go.IntWalk Go.Sort
set_option linter.unusedVariables false

/-- The operators of two numbers whose span is reckoned from the ends. -/
def twoZ (op a b c d : Int) : Int × Int :=
  if op = 8 then (a + c, b + d) else if op = 9 then (a - d, b - c) else if op = 15 then bothZ a b c d else if op = 16 ∨ op = 17 then eithZ op a b c d else if op = 22 then eqZ a b c d else (1 - (eqZ a b c d).2, 1 - (eqZ a b c d).1)

theorem eqZ_01 (a b c d : Int) : 0 ≤ (eqZ a b c d).1 ∧ (eqZ a b c d).1 ≤ 1 ∧ 0 ≤ (eqZ a b c d).2 ∧ (eqZ a b c d).2 ≤ 1 := by
  unfold eqZ
  split
  · simp
  · split <;> simp

set_option maxRecDepth 100000 in
set_option maxHeartbeats 1000000 in
theorem sofTwo_any (op a b c d : Int) (w : World) (ha : W32 a) (hb : W32 b) (hc : W32 c) (hd : W32 d) (ho : op = 8 ∨ op = 9 ∨ op = 15 ∨ op = 16 ∨ op = 17 ∨ op = 22 ∨ op = 23) :
    Calls Try.prog 65 #[.int .i64 op, .agg #[.int .i64 a, .int .i64 b], .agg #[.int .i64 c, .int .i64 d]] w fun e w' => e = .returned (.agg #[.int .i64 (twoZ op a b c d).1, .int .i64 (twoZ op a b c d).2]) ∧ Below w.heap.size w w' := by
  rcases ho with rfl | rfl | rfl | rfl | rfl | rfl | rfl
  · rw [show twoZ 8 a b c d = (a + c, b + d) from rfl]
    go_enter Try.func65, Try.ntmps65
    go_wp2
    exact bodyPost_ret (v := .agg #[.int .i64 (a + c), .int .i64 (b + d)]) (by simp [results, Try.results65, go_sem]) rfl ⟨rfl, bel3 _ _ _ _ _⟩
  · rw [show twoZ 9 a b c d = (a - d, b - c) from rfl]
    go_enter Try.func65, Try.ntmps65
    go_wp2
    exact bodyPost_ret (v := .agg #[.int .i64 (a - d), .int .i64 (b - c)]) (by simp [results, Try.results65, go_sem]) rfl ⟨rfl, bel3 _ _ _ _ _⟩
  · rw [show twoZ 15 a b c d = bothZ a b c d from rfl]
    have HA := fun w => hide (both_any a b c d w ha hb hc hd)
    generalize bothZ a b c d = Z at *
    obtain ⟨x, y⟩ := Z
    go_enter Try.func65, Try.ntmps65
    go_wp2_with fail
    refine (HA _).out.mono ?_
    rintro e w2 ⟨rfl, hb2⟩
    obtain ⟨-, -, h3, hB⟩ := box2 hb2
    obtain ⟨s1, s2, s3, s4⟩ := facts2 h3
    clear hb2
    go_wp2_with fail
    obtain ⟨c0, c1, hB2⟩ := stored2 h3 hB (by omega) x y
    exact bodyPost_ret (v := .agg #[.int .i64 x, .int .i64 y]) (by simp [results, Try.results65, go_sem, c0, c1]) rfl ⟨rfl, hB2⟩
  · rw [show twoZ 16 a b c d = eithZ 16 a b c d from rfl]
    have HA := fun w => hide (either_any 16 a b c d w ha hb hc hd)
    generalize eithZ 16 a b c d = Z at *
    obtain ⟨x, y⟩ := Z
    go_enter Try.func65, Try.ntmps65
    go_wp2_with fail
    refine (HA _).out.mono ?_
    rintro e w2 ⟨rfl, hb2⟩
    obtain ⟨-, -, h3, hB⟩ := box2 hb2
    obtain ⟨s1, s2, s3, s4⟩ := facts2 h3
    clear hb2
    go_wp2_with fail
    obtain ⟨c0, c1, hB2⟩ := stored2 h3 hB (by omega) x y
    exact bodyPost_ret (v := .agg #[.int .i64 x, .int .i64 y]) (by simp [results, Try.results65, go_sem, c0, c1]) rfl ⟨rfl, hB2⟩
  · rw [show twoZ 17 a b c d = eithZ 17 a b c d from rfl]
    have HA := fun w => hide (either_any 17 a b c d w ha hb hc hd)
    generalize eithZ 17 a b c d = Z at *
    obtain ⟨x, y⟩ := Z
    go_enter Try.func65, Try.ntmps65
    go_wp2_with fail
    refine (HA _).out.mono ?_
    rintro e w2 ⟨rfl, hb2⟩
    obtain ⟨-, -, h3, hB⟩ := box2 hb2
    obtain ⟨s1, s2, s3, s4⟩ := facts2 h3
    clear hb2
    go_wp2_with fail
    obtain ⟨c0, c1, hB2⟩ := stored2 h3 hB (by omega) x y
    exact bodyPost_ret (v := .agg #[.int .i64 x, .int .i64 y]) (by simp [results, Try.results65, go_sem, c0, c1]) rfl ⟨rfl, hB2⟩
  · rw [show twoZ 22 a b c d = eqZ a b c d from rfl]
    have HA := fun w => hide (equal_any a b c d w)
    generalize eqZ a b c d = Z at *
    obtain ⟨x, y⟩ := Z
    go_enter Try.func65, Try.ntmps65
    go_wp2_with fail
    refine (HA _).out.mono ?_
    rintro e w2 ⟨rfl, hb2⟩
    obtain ⟨-, -, h3, hB⟩ := box2 hb2
    obtain ⟨s1, s2, s3, s4⟩ := facts2 h3
    clear hb2
    go_wp2_with fail
    obtain ⟨c0, c1, hB2⟩ := stored2 h3 hB (by omega) x y
    exact bodyPost_ret (v := .agg #[.int .i64 x, .int .i64 y]) (by simp [results, Try.results65, go_sem, c0, c1]) rfl ⟨rfl, hB2⟩
  · rw [show twoZ 23 a b c d = (1 - (eqZ a b c d).2, 1 - (eqZ a b c d).1) from rfl]
    have HA := fun w => hide (equal_any a b c d w)
    have h01 := eqZ_01 a b c d
    generalize eqZ a b c d = Z at *
    obtain ⟨x, y⟩ := Z
    simp only at h01
    go_enter Try.func65, Try.ntmps65
    go_wp2_with fail
    refine (HA _).out.mono ?_
    rintro e w2 ⟨rfl, hb2⟩
    obtain ⟨-, -, h3, hB⟩ := box2 hb2
    have f3 := fun x' y' : Int => facts2 (box3 (x' := x') (y' := y') h3 hB).1
    have s1 := fun x' y' => (f3 x' y').1
    have s2 := fun x' y' => (f3 x' y').2.1
    have s3 := fun x' y' => (f3 x' y').2.2.1
    have s4 := fun x' y' => (f3 x' y').2.2.2
    have H3 := hide fun x' y' : Int => (box3 (x' := x') (y' := y') h3 hB)
    clear f3 h3 hB hb2
    go_wp2_with fail
    obtain ⟨c0, c1, hB2⟩ := stored2 (H3.out _ _).1 (H3.out _ _).2.2 (by omega) (1 - y) (1 - x)
    exact bodyPost_ret (v := .agg #[.int .i64 (1 - y), .int .i64 (1 - x)]) (by simp [results, Try.results65, go_sem, c0, c1]) rfl ⟨rfl, hB2⟩

/-- OpSel. -/
def selZ (a b c d e f : Int) : Int × Int := if hasB a b 0 = true then (if a = 0 ∧ b = 0 then (e, f) else (min c e, max d f)) else (c, d)

abbrev cs (x y : Int) : Obj := .cells #[.int .i64 x, .int .i64 y] 42

theorem bel4' (w : World) (a b c d e f x y : Int) : Below w.heap.size w ((((w.alloc (cs a b)).alloc (cs c d)).alloc (cs e f)).alloc (cs x y)) :=
  ((((Below.refl _ _).alloc (Nat.le_refl _) _).alloc (by simp) _).alloc (by simp; omega) _).alloc (by simp; omega) _

theorem box4 {w w2 : World} {a b c d e f x y : Int} (h : Below ((((w.alloc (cs a b)).alloc (cs c d)).alloc (cs e f)).alloc (cs x y)).heap.size ((((w.alloc (cs a b)).alloc (cs c d)).alloc (cs e f)).alloc (cs x y)) w2) :
    HasC w2 w.heap.size 42 #[.int .i64 a, .int .i64 b] ∧ HasC w2 (w.heap.size + 1) 42 #[.int .i64 c, .int .i64 d] ∧ HasC w2 (w.heap.size + 1 + 1) 42 #[.int .i64 e, .int .i64 f] ∧ HasC w2 (w.heap.size + 1 + 1 + 1) 42 #[.int .i64 x, .int .i64 y] ∧ Below w.heap.size w w2 := by
  have h1 := ((((HasC.new w 42 #[.int .i64 a, .int .i64 b]).alloc (cs c d)).alloc (cs e f)).alloc (cs x y)).below h
  have h2 := (((HasC.new (w.alloc (cs a b)) 42 #[.int .i64 c, .int .i64 d]).alloc (cs e f)).alloc (cs x y)).below h
  have h3 := ((HasC.new ((w.alloc (cs a b)).alloc (cs c d)) 42 #[.int .i64 e, .int .i64 f]).alloc (cs x y)).below h
  have h4 := (HasC.new (((w.alloc (cs a b)).alloc (cs c d)).alloc (cs e f)) 42 #[.int .i64 x, .int .i64 y]).below h
  simp only [World.size_alloc] at h2 h3 h4
  exact ⟨h1, h2, h3, h4, bel (bel4' _ _ _ _ _ _ _ _ _) h⟩

set_option maxRecDepth 100000 in
set_option maxHeartbeats 1000000 in
theorem schosen_any (a b c d e f : Int) (w : World) :
    Calls Try.prog 66 #[.agg #[.int .i64 a, .int .i64 b], .agg #[.int .i64 c, .int .i64 d], .agg #[.int .i64 e, .int .i64 f]] w fun r w' => r = .returned (.agg #[.int .i64 (selZ a b c d e f).1, .int .i64 (selZ a b c d e f).2]) ∧ Below w.heap.size w w' := by
  have HH := fun w => hide (has_any a b 0 w)
  cases h0 : hasB a b 0
  · rw [show selZ a b c d e f = (c, d) by simp [selZ, h0]]
    rw [h0] at HH
    go_enter Try.func66, Try.ntmps66
    go_wp2_with fail
    refine (HH _).out.mono ?_
    rintro r w2 ⟨rfl, hb2⟩
    obtain ⟨k1, k2, k3, h3, hB⟩ := box4 hb2
    obtain ⟨q1, q2, -, -⟩ := facts2 k2
    obtain ⟨s1, s2, s3, s4⟩ := facts2 h3
    clear hb2 k1 k3
    go_wp2_with fail
    obtain ⟨c0, c1, hB2⟩ := stored2 h3 hB (by omega) c d
    exact bodyPost_ret (v := .agg #[.int .i64 c, .int .i64 d]) (by simp [results, Try.results66, go_sem, c0, c1]) rfl ⟨rfl, hB2⟩
  · rw [h0] at HH
    have HZ : Hid (selZ a b c d e f = if a = 0 ∧ b = 0 then (e, f) else (min c e, max d f)) := hide (by simp [selZ, h0])
    clear h0
    by_cases h1 : a = 0
    · subst h1
      by_cases h2 : b = 0
      · subst h2
        have hz := HZ.out
        rw [if_pos ⟨rfl, rfl⟩] at hz
        rw [hz]
        clear hz HZ
        go_enter Try.func66, Try.ntmps66
        go_wp2_with fail
        refine (HH _).out.mono ?_
        rintro r W ⟨rfl, hb2⟩
        obtain ⟨k1, k2, k3, h3, hB⟩ := box4 hb2
        clear hb2
        obtain ⟨q1, q2, -, -⟩ := facts2 k1
        go_wp2_with fail
        have m1 := cell_regrown q1
        have m2 := cell_regrown q2
        refine wp_region_quiet_below mixed (by kernel_rfl) ?_
        repeat (go_big_quiet_step ((go_at_call 49; exact Calls.regrown_of (alone_any _ _))))
        refine wpQuiet_nil ?_
        intro _ hw'
        obtain ⟨⟨dq, osq⟩, hw''⟩ := hw'
        subst hw''
        obtain ⟨K2, K3, K4, hB4⟩ := box_rg k2 k3 h3 hB dq osq
        clear k1 k2 k3 h3 hB q1 q2 m1 m2
        simp only
        generalize grow (redrawn W dq) osq = G at *
        obtain ⟨p1, p2, -, -⟩ := facts2 K2
        obtain ⟨q1, q2, -, -⟩ := facts2 K3
        obtain ⟨s1, s2, s3, s4⟩ := facts2 K4
        go_wp2_with fail
        obtain ⟨c0, c1, hB2⟩ := stored2 K4 hB4 (by omega) e f
        exact bodyPost_ret (v := .agg #[.int .i64 e, .int .i64 f]) (by simp [results, Try.results66, go_sem, c0, c1]) rfl ⟨rfl, hB2⟩
      · have e1 : (b == 0) = false := by simp [h2]
        have hz := HZ.out
        rw [if_neg (by omega)] at hz
        rw [hz]
        clear hz HZ h2
        go_enter Try.func66, Try.ntmps66
        go_wp2_with fail
        refine (HH _).out.mono ?_
        rintro r W ⟨rfl, hb2⟩
        obtain ⟨k1, k2, k3, h3, hB⟩ := box4 hb2
        clear hb2
        obtain ⟨q1, q2, -, -⟩ := facts2 k1
        go_wp2_with fail
        have m1 := cell_regrown q1
        have m2 := cell_regrown q2
        refine wp_region_quiet_below mixed (by kernel_rfl) ?_
        repeat (go_big_quiet_step ((go_at_call 49; exact Calls.regrown_of (alone_any _ _))))
        refine wpQuiet_nil ?_
        intro _ hw'
        obtain ⟨⟨dq, osq⟩, hw''⟩ := hw'
        subst hw''
        obtain ⟨K2, K3, K4, hB4⟩ := box_rg k2 k3 h3 hB dq osq
        clear k1 k2 k3 h3 hB q1 q2 m1 m2
        simp only
        generalize grow (redrawn W dq) osq = G at *
        obtain ⟨p1, p2, -, -⟩ := facts2 K2
        obtain ⟨q1, q2, -, -⟩ := facts2 K3
        obtain ⟨s1, s2, s3, s4⟩ := facts2 K4
        go_wp2_with fail
        refine (join_any _ _ _ _ _).mono ?_
        rintro r w2 ⟨rfl, hb2⟩
        have h3 := K4.below hb2
        have hB := bel hB4 hb2
        clear s1 s2 s3 s4
        obtain ⟨s1, s2, s3, s4⟩ := facts2 h3
        clear hb2 K4 hB4
        obtain ⟨x, hx⟩ : ∃ x, min c e = x := ⟨_, rfl⟩
        obtain ⟨y, hy⟩ : ∃ y, max d f = y := ⟨_, rfl⟩
        rw [hx, hy]
        have HX := hide hx
        have HY := hide hy
        clear hx hy
        go_wp2_with fail
        obtain ⟨c0, c1, hB2⟩ := stored2 h3 hB (by omega) x y
        exact bodyPost_ret (v := .agg #[.int .i64 x, .int .i64 y]) (by simp [results, Try.results66, go_sem, c0, c1]) rfl ⟨by rw [HX.out, HY.out], hB2⟩
    · have e1 : (a == 0) = false := by simp [h1]
      have hz := HZ.out
      rw [if_neg (by omega)] at hz
      rw [hz]
      clear hz HZ h1
      go_enter Try.func66, Try.ntmps66
      go_wp2_with fail
      refine (HH _).out.mono ?_
      rintro r W ⟨rfl, hb2⟩
      obtain ⟨k1, k2, k3, h3, hB⟩ := box4 hb2
      clear hb2
      obtain ⟨q1, q2, -, -⟩ := facts2 k1
      go_wp2_with fail
      have m1 := cell_regrown q1
      have m2 := cell_regrown q2
      refine wp_region_quiet_below mixed (by kernel_rfl) ?_
      repeat (go_big_quiet_step ((go_at_call 49; exact Calls.regrown_of (alone_any _ _))))
      refine wpQuiet_nil ?_
      intro _ hw'
      obtain ⟨⟨dq, osq⟩, hw''⟩ := hw'
      subst hw''
      obtain ⟨K2, K3, K4, hB4⟩ := box_rg k2 k3 h3 hB dq osq
      clear k1 k2 k3 h3 hB q1 q2 m1 m2
      simp only
      generalize grow (redrawn W dq) osq = G at *
      obtain ⟨p1, p2, -, -⟩ := facts2 K2
      obtain ⟨q1, q2, -, -⟩ := facts2 K3
      obtain ⟨s1, s2, s3, s4⟩ := facts2 K4
      go_wp2_with fail
      refine (join_any _ _ _ _ _).mono ?_
      rintro r w2 ⟨rfl, hb2⟩
      have h3 := K4.below hb2
      have hB := bel hB4 hb2
      clear s1 s2 s3 s4
      obtain ⟨s1, s2, s3, s4⟩ := facts2 h3
      clear hb2 K4 hB4
      obtain ⟨x, hx⟩ : ∃ x, min c e = x := ⟨_, rfl⟩
      obtain ⟨y, hy⟩ : ∃ y, max d f = y := ⟨_, rfl⟩
      rw [hx, hy]
      have HX := hide hx
      have HY := hide hy
      clear hx hy
      go_wp2_with fail
      obtain ⟨c0, c1, hB2⟩ := stored2 h3 hB (by omega) x y
      exact bodyPost_ret (v := .agg #[.int .i64 x, .int .i64 y]) (by simp [results, Try.results66, go_sem, c0, c1]) rfl ⟨by rw [HX.out, HY.out], hB2⟩

end Go.Proofs.Ytlhbgkaknfhlnaa.Spn

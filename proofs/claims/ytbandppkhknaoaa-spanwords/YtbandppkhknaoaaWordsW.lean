/-
  The walk of SpanWords.
-/
import Derived.Test.YtbandppkhknaoaaAwakeS
namespace Go.Proofs.Ytbandppkhknaoaa
open Go.RowKit Go.IntWalk Go.Sort
set_option linter.unusedVariables false

theorem hasB_join {a b c d z : Int} : (hasB a b z = true ∨ hasB c d z = true) → hasB (min a c) (max b d) z = true := by
  simp only [hasB_iff]
  omega

set_option maxRecDepth 100000 in
set_option maxHeartbeats 4000000 in
theorem words_at (a b c d z x y : Int) (w : World) (hx : min a c = x) (hy : max b d = y) :
    Calls Try.prog 4 #[.agg #[.int .i64 a, .int .i64 b], .agg #[.int .i64 c, .int .i64 d], .int .i64 z] w fun e w' => e = .returned (.bool true) ∧ Below w.heap.size w w' := by
  have J1 := fun w => hide (join_any a b c d w)
  have J2 := fun w => join_any c d a b w
  rw [show min c a = x by omega, show max d b = y by omega] at J2
  rw [hx, hy] at J1
  have HA := fun w => hide (has_any a b z w)
  have HC := fun w => hide (has_any c d z w)
  have HJ := fun w => hide (has_any x y z w)
  have hj : hasB a b z = true ∨ hasB c d z = true → hasB x y z = true := by rw [← hx, ← hy]; exact hasB_join
  have HX := hide hx
  have HY := hide hy
  obtain ⟨k1, k2, hB⟩ : HasC ((w.alloc (cs a b)).alloc (cs c d)) w.heap.size 26 #[.int .i64 a, .int .i64 b] ∧ HasC ((w.alloc (cs a b)).alloc (cs c d)) (w.heap.size + 1) 26 #[.int .i64 c, .int .i64 d] ∧ Below w.heap.size w ((w.alloc (cs a b)).alloc (cs c d)) := by
    have h1 := (HasC.new w 26 #[.int .i64 a, .int .i64 b]).alloc (cs c d)
    have h2 := HasC.new (w.alloc (cs a b)) 26 #[.int .i64 c, .int .i64 d]
    simp only [World.size_alloc] at h2
    exact ⟨h1, h2, ((Below.refl _ _).alloc (Nat.le_refl _) _).alloc (by simp) _⟩
  have K1 := hide k1
  have K2 := hide k2
  have HB := hide hB
  clear k1 k2 hB
  go_enter Try.func4, Try.ntmps4
  go_wp2_with fail
  refine (J1 _).out.mono ?_
  rintro e w2 ⟨rfl, hb2⟩
  have L1 := hide ((K1.out.below hb2).alloc (cs x y))
  have L2 := hide ((K2.out.below hb2).alloc (cs x y))
  have L3 := hide (HasC.new w2 26 #[.int .i64 x, .int .i64 y])
  have HB2 := hide (bel (bel HB.out hb2) (bel1 _ (cs x y)))
  clear hb2 K1 K2 HB hx hy
  go_wp2_with fail
  obtain ⟨W, hW⟩ : ∃ W, w2.alloc (.cells #[.int .i64 x, .int .i64 y] 26) = W := ⟨_, rfl⟩
  rw [hW] at L1 L2 L3 HB2 ⊢
  clear hW
  obtain ⟨q1, q2, -, -⟩ := facts2 L1.out
  obtain ⟨r1, r2, -, -⟩ := facts2 L2.out
  obtain ⟨s1, s2, -, -⟩ := facts2 L3.out
  have m1 := cell_regrown q1
  have m2 := cell_regrown q2
  have m3 := cell_regrown r1
  have m4 := cell_regrown r2
  have m5 := cell_regrown s1
  have m6 := cell_regrown s2
  refine wp_region_quiet_below mixed (by kernel_rfl) ?_
  repeat (first | go_big_quiet_step ((first
    | (go_at_call 11; exact Calls.regrown_of (awake_any _))
    | (go_at_call 13; exact Calls.regrown_of (whole_any _ _ _))
    | (go_at_call 14; exact Calls.regrown_of (rwhole_any _ _ _))
    | (go_at_call 15; exact Calls.regrown_of (has_any _ _ _ _))
    | (go_at_call 16; exact Calls.regrown_of (rhas_any _ _ _ _))
    | (go_at_call 12; exact Calls.regrown_of (J2 _)))))
  refine wpQuiet_nil ?_
  intro _ hw'
  obtain ⟨pq, hw''⟩ := hw'
  subst hw''
  have hbg := below_regrown W pq.d pq.os
  have M1 := hide (L1.out.below hbg)
  have M2 := hide (L2.out.below hbg)
  have M3 := hide (L3.out.below hbg)
  have HB3 := hide (bel HB2.out hbg)
  clear hbg L1 L2 L3 HB2 q1 q2 r1 r2 s1 s2 m1 m2 m3 m4 m5 m6
  generalize grow (redrawn W pq.d) pq.os = G at *
  obtain ⟨q1, q2, -, -⟩ := facts2 M1.out
  obtain ⟨r1, r2, -, -⟩ := facts2 M2.out
  obtain ⟨s1, s2, -, -⟩ := facts2 M3.out
  have g1 : decide (x ≤ a) = true := by have := HX.out; simp; omega
  have g2 : decide (x ≤ c) = true := by have := HX.out; simp; omega
  have g3 : decide (b ≤ y) = true := by have := HY.out; simp; omega
  have g4 : decide (d ≤ y) = true := by have := HY.out; simp; omega
  have hxc : (x == a) = true ∨ ((x == a) = false ∧ (x == c) = true) := by have := HX.out; simp; omega
  have hyc : (y == b) = true ∨ ((y == b) = false ∧ (y == d) = true) := by have := HY.out; simp; omega
  have HJJ := hide hj
  clear hj
  cases hp : hasB a b z
  · rw [hp] at HA
    cases hq : hasB c d z
    · rw [hq] at HC
      go_wp2_with fail
      refine (HA _).out.mono ?_
      rintro e w3 ⟨rfl, hb⟩
      have N1 := hide (M1.out.below hb)
      have N2 := hide (M2.out.below hb)
      have N3 := hide (M3.out.below hb)
      have HN := hide (bel HB3.out hb)
      clear hb M1 M2 M3 HB3 q1 q2 r1 r2 s1 s2
      rename Hid (HasC w3 w.heap.size 26 _) => M1
      rename Hid (HasC w3 (w.heap.size + 1) 26 _) => M2
      rename Hid (HasC w3 w2.heap.size 26 _) => M3
      rename Hid (Below w.heap.size w w3) => HB3
      obtain ⟨q1, q2, -, -⟩ := facts2 M1.out
      obtain ⟨r1, r2, -, -⟩ := facts2 M2.out
      obtain ⟨s1, s2, -, -⟩ := facts2 M3.out
      go_wp2_with fail
      refine (HC _).out.mono ?_
      rintro e w4 ⟨rfl, hb⟩
      have N1 := hide (M1.out.below hb)
      have N2 := hide (M2.out.below hb)
      have N3 := hide (M3.out.below hb)
      have HN := hide (bel HB3.out hb)
      clear hb M1 M2 M3 HB3 q1 q2 r1 r2 s1 s2
      rename Hid (HasC w4 w.heap.size 26 _) => M1
      rename Hid (HasC w4 (w.heap.size + 1) 26 _) => M2
      rename Hid (HasC w4 w2.heap.size 26 _) => M3
      rename Hid (Below w.heap.size w w4) => HB3
      obtain ⟨q1, q2, -, -⟩ := facts2 M1.out
      obtain ⟨r1, r2, -, -⟩ := facts2 M2.out
      obtain ⟨s1, s2, -, -⟩ := facts2 M3.out
      rcases hxc with e1 | ⟨e1, e2⟩ <;> rcases hyc with e3 | ⟨e3, e4⟩ <;>
      · go_wp2_with fail
        go_ret
        exact ⟨rfl, HB3.out⟩
    · rw [hq] at HC
      rw [HJJ.out (.inr hq)] at HJ
      go_wp2_with fail
      refine (HA _).out.mono ?_
      rintro e w3 ⟨rfl, hb⟩
      have N1 := hide (M1.out.below hb)
      have N2 := hide (M2.out.below hb)
      have N3 := hide (M3.out.below hb)
      have HN := hide (bel HB3.out hb)
      clear hb M1 M2 M3 HB3 q1 q2 r1 r2 s1 s2
      rename Hid (HasC w3 w.heap.size 26 _) => M1
      rename Hid (HasC w3 (w.heap.size + 1) 26 _) => M2
      rename Hid (HasC w3 w2.heap.size 26 _) => M3
      rename Hid (Below w.heap.size w w3) => HB3
      obtain ⟨q1, q2, -, -⟩ := facts2 M1.out
      obtain ⟨r1, r2, -, -⟩ := facts2 M2.out
      obtain ⟨s1, s2, -, -⟩ := facts2 M3.out
      go_wp2_with fail
      refine (HC _).out.mono ?_
      rintro e w4 ⟨rfl, hb⟩
      have N1 := hide (M1.out.below hb)
      have N2 := hide (M2.out.below hb)
      have N3 := hide (M3.out.below hb)
      have HN := hide (bel HB3.out hb)
      clear hb M1 M2 M3 HB3 q1 q2 r1 r2 s1 s2
      rename Hid (HasC w4 w.heap.size 26 _) => M1
      rename Hid (HasC w4 (w.heap.size + 1) 26 _) => M2
      rename Hid (HasC w4 w2.heap.size 26 _) => M3
      rename Hid (Below w.heap.size w w4) => HB3
      obtain ⟨q1, q2, -, -⟩ := facts2 M1.out
      obtain ⟨r1, r2, -, -⟩ := facts2 M2.out
      obtain ⟨s1, s2, -, -⟩ := facts2 M3.out
      go_wp2_with fail
      refine (HJ _).out.mono ?_
      rintro e w5 ⟨rfl, hb⟩
      have N1 := hide (M1.out.below hb)
      have N2 := hide (M2.out.below hb)
      have N3 := hide (M3.out.below hb)
      have HN := hide (bel HB3.out hb)
      clear hb M1 M2 M3 HB3 q1 q2 r1 r2 s1 s2
      rename Hid (HasC w5 w.heap.size 26 _) => M1
      rename Hid (HasC w5 (w.heap.size + 1) 26 _) => M2
      rename Hid (HasC w5 w2.heap.size 26 _) => M3
      rename Hid (Below w.heap.size w w5) => HB3
      obtain ⟨q1, q2, -, -⟩ := facts2 M1.out
      obtain ⟨r1, r2, -, -⟩ := facts2 M2.out
      obtain ⟨s1, s2, -, -⟩ := facts2 M3.out
      rcases hxc with e1 | ⟨e1, e2⟩ <;> rcases hyc with e3 | ⟨e3, e4⟩ <;>
      · go_wp2_with fail
        go_ret
        exact ⟨rfl, HB3.out⟩
  · rw [hp] at HA
    rw [HJJ.out (.inl hp)] at HJ
    go_wp2_with fail
    refine (HA _).out.mono ?_
    rintro e w3 ⟨rfl, hb⟩
    have N1 := hide (M1.out.below hb)
    have N2 := hide (M2.out.below hb)
    have N3 := hide (M3.out.below hb)
    have HN := hide (bel HB3.out hb)
    clear hb M1 M2 M3 HB3 q1 q2 r1 r2 s1 s2
    rename Hid (HasC w3 w.heap.size 26 _) => M1
    rename Hid (HasC w3 (w.heap.size + 1) 26 _) => M2
    rename Hid (HasC w3 w2.heap.size 26 _) => M3
    rename Hid (Below w.heap.size w w3) => HB3
    obtain ⟨q1, q2, -, -⟩ := facts2 M1.out
    obtain ⟨r1, r2, -, -⟩ := facts2 M2.out
    obtain ⟨s1, s2, -, -⟩ := facts2 M3.out
    go_wp2_with fail
    refine (HJ _).out.mono ?_
    rintro e w5 ⟨rfl, hb⟩
    have N1 := hide (M1.out.below hb)
    have N2 := hide (M2.out.below hb)
    have N3 := hide (M3.out.below hb)
    have HN := hide (bel HB3.out hb)
    clear hb M1 M2 M3 HB3 q1 q2 r1 r2 s1 s2
    rename Hid (HasC w5 w.heap.size 26 _) => M1
    rename Hid (HasC w5 (w.heap.size + 1) 26 _) => M2
    rename Hid (HasC w5 w2.heap.size 26 _) => M3
    rename Hid (Below w.heap.size w w5) => HB3
    obtain ⟨q1, q2, -, -⟩ := facts2 M1.out
    obtain ⟨r1, r2, -, -⟩ := facts2 M2.out
    obtain ⟨s1, s2, -, -⟩ := facts2 M3.out
    rcases hxc with e1 | ⟨e1, e2⟩ <;> rcases hyc with e3 | ⟨e3, e4⟩ <;>
    · go_wp2_with fail
      go_ret
      exact ⟨rfl, HB3.out⟩

theorem words_walk (a b c d z : Int) (w : World) :
    Calls Try.prog 4 #[.agg #[.int .i64 a, .int .i64 b], .agg #[.int .i64 c, .int .i64 d], .int .i64 z] w fun e w' => e = .returned (.bool true) ∧ Below w.heap.size w w' :=
  words_at a b c d z _ _ w rfl rfl

end Go.Proofs.Ytbandppkhknaoaa

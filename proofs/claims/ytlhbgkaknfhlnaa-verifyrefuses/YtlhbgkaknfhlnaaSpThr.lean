/-
  The functions of package span that reckon without asking for a value: either, equal, ofTwo, chosen.
-/
import Derived.Test.YtlhbgkaknfhlnaaSpTwo
namespace Go.Proofs.Ytlhbgkaknfhlnaa.Spn
open Go.RowKit Go.IntWalk Go.Sort
set_option linter.unusedVariables false

/-- OpOr and OpXor. -/
def eithZ (op a b c d : Int) : Int × Int := if a < 0 ∨ c < 0 then (-arP a b c d, arP a b c d - 1) else if op = 16 then (max a c, arP a b c d - 1) else (0, arP a b c d - 1)

/-- The blocks of a span's function behind a call, and one more that is laid behind it. -/
theorem box3 {w w2 : World} {t : TypeId} {x y : Value} {x' y' : Int} {b : Nat} (h : HasC w2 b t #[x, y]) (hB : Below w.heap.size w w2) :
    HasC (w2.alloc (.cells #[.int .i64 x', .int .i64 y'] 42)) b t #[x, y] ∧ HasC (w2.alloc (.cells #[.int .i64 x', .int .i64 y'] 42)) w2.heap.size 42 #[.int .i64 x', .int .i64 y'] ∧ Below w.heap.size w (w2.alloc (.cells #[.int .i64 x', .int .i64 y'] 42)) :=
  ⟨h.alloc _, HasC.new _ _ _, hB.alloc hB.size _⟩

set_option maxRecDepth 100000 in
set_option maxHeartbeats 1000000 in
theorem either_any (op a b c d : Int) (w : World) (ha : W32 a) (hb : W32 b) (hc : W32 c) (hd : W32 d) :
    Calls Try.prog 70 #[.int .i64 op, .agg #[.int .i64 a, .int .i64 b], .agg #[.int .i64 c, .int .i64 d]] w fun e w' => e = .returned (.agg #[.int .i64 (eithZ op a b c d).1, .int .i64 (eithZ op a b c d).2]) ∧ Below w.heap.size w w' := by
  have HA := fun w => hide (around_any a b c d w ha hb hc hd)
  have HZ : Hid (eithZ op a b c d = if a < 0 ∨ c < 0 then (-arP a b c d, arP a b c d - 1) else if op = 16 then (max a c, arP a b c d - 1) else (0, arP a b c d - 1)) := hide rfl
  have hP := (arP_bd ha hb hc hd).2
  generalize arP a b c d = p at *
  by_cases h1 : a < 0
  · have e1 : decide (a < 0) = true := by simp [h1]
    have hz := HZ.out
    rw [if_pos (.inl h1)] at hz
    rw [hz]
    clear hz HZ
    go_enter Try.func70, Try.ntmps70
    go_wp2_with fail
    refine (HA _).out.mono ?_
    rintro e w2 ⟨rfl, hb2⟩
    obtain ⟨k1, k2, h3, hB⟩ := box2 hb2
    clear hb2
    have f1 := fun x' y' : Int => facts2 (box3 (x' := x') (y' := y') k1 hB).1
    have f2 := fun x' y' : Int => facts2 (box3 (x' := x') (y' := y') k2 hB).1
    have f3 := fun x' y' : Int => facts2 (box3 (x' := x') (y' := y') h3 hB).1
    have q1 := fun x' y' => (f1 x' y').1
    have q2 := fun x' y' => (f1 x' y').2.1
    have r1 := fun x' y' => (f2 x' y').1
    have r2 := fun x' y' => (f2 x' y').2.1
    have s1 := fun x' y' => (f3 x' y').1
    have s2 := fun x' y' => (f3 x' y').2.1
    have s3 := fun x' y' => (f3 x' y').2.2.1
    have s4 := fun x' y' => (f3 x' y').2.2.2
    have HB := hide fun x' y' : Int => (box3 (x' := x') (y' := y') k1 hB).2.2
    have H3 := hide fun x' y' : Int => (box3 (x' := x') (y' := y') h3 hB).1
    clear f1 f2 f3 k1 k2 h3 hB
    go_wp2_with fail
    obtain ⟨c0, c1, hB2⟩ := stored2 (H3.out _ _) (HB.out _ _) (by omega) (-p) (p - 1)
    exact bodyPost_ret (v := .agg #[.int .i64 (-p), .int .i64 (p - 1)]) (by simp [results, Try.results70, go_sem, c0, c1]) rfl ⟨rfl, hB2⟩
  have e1 : decide (a < 0) = false := by simp; omega
  by_cases h2 : c < 0
  · have hz := HZ.out
    rw [if_pos (.inr h2)] at hz
    rw [hz]
    clear hz HZ
    go_enter Try.func70, Try.ntmps70
    go_wp2_with fail
    refine (HA _).out.mono ?_
    rintro e w2 ⟨rfl, hb2⟩
    obtain ⟨k1, k2, h3, hB⟩ := box2 hb2
    clear hb2
    have f1 := fun x' y' : Int => facts2 (box3 (x' := x') (y' := y') k1 hB).1
    have f2 := fun x' y' : Int => facts2 (box3 (x' := x') (y' := y') k2 hB).1
    have f3 := fun x' y' : Int => facts2 (box3 (x' := x') (y' := y') h3 hB).1
    have q1 := fun x' y' => (f1 x' y').1
    have q2 := fun x' y' => (f1 x' y').2.1
    have r1 := fun x' y' => (f2 x' y').1
    have r2 := fun x' y' => (f2 x' y').2.1
    have s1 := fun x' y' => (f3 x' y').1
    have s2 := fun x' y' => (f3 x' y').2.1
    have s3 := fun x' y' => (f3 x' y').2.2.1
    have s4 := fun x' y' => (f3 x' y').2.2.2
    have HB := hide fun x' y' : Int => (box3 (x' := x') (y' := y') k1 hB).2.2
    have H3 := hide fun x' y' : Int => (box3 (x' := x') (y' := y') h3 hB).1
    clear f1 f2 f3 k1 k2 h3 hB
    go_wp2_with fail
    obtain ⟨c0, c1, hB2⟩ := stored2 (H3.out _ _) (HB.out _ _) (by omega) (-p) (p - 1)
    exact bodyPost_ret (v := .agg #[.int .i64 (-p), .int .i64 (p - 1)]) (by simp [results, Try.results70, go_sem, c0, c1]) rfl ⟨rfl, hB2⟩
  have h12 : ¬ (a < 0 ∨ c < 0) := by omega
  by_cases h0 : op = 16
  · subst h0
    have hz := HZ.out
    rw [if_neg h12, if_pos rfl] at hz
    rw [hz]
    clear hz HZ
    go_enter Try.func70, Try.ntmps70
    go_wp2_with fail
    refine (HA _).out.mono ?_
    rintro e w2 ⟨rfl, hb2⟩
    obtain ⟨k1, k2, h3, hB⟩ := box2 hb2
    clear hb2
    have f1 := fun x' y' : Int => facts2 (box3 (x' := x') (y' := y') k1 hB).1
    have f2 := fun x' y' : Int => facts2 (box3 (x' := x') (y' := y') k2 hB).1
    have f3 := fun x' y' : Int => facts2 (box3 (x' := x') (y' := y') h3 hB).1
    have q1 := fun x' y' => (f1 x' y').1
    have q2 := fun x' y' => (f1 x' y').2.1
    have r1 := fun x' y' => (f2 x' y').1
    have r2 := fun x' y' => (f2 x' y').2.1
    have s1 := fun x' y' => (f3 x' y').1
    have s2 := fun x' y' => (f3 x' y').2.1
    have s3 := fun x' y' => (f3 x' y').2.2.1
    have s4 := fun x' y' => (f3 x' y').2.2.2
    have HB := hide fun x' y' : Int => (box3 (x' := x') (y' := y') k1 hB).2.2
    have H3 := hide fun x' y' : Int => (box3 (x' := x') (y' := y') h3 hB).1
    clear f1 f2 f3 k1 k2 h3 hB
    go_wp2_with fail
    · obtain ⟨c0, c1, hB2⟩ := stored2 (H3.out _ _) (HB.out _ _) (by omega) c (p - 1)
      exact bodyPost_ret (v := .agg #[.int .i64 c, .int .i64 (p - 1)]) (by simp [results, Try.results70, go_sem, c0, c1]) rfl ⟨ret_span (by omega) rfl, hB2⟩
    · obtain ⟨c0, c1, hB2⟩ := stored2 (H3.out _ _) (HB.out _ _) (by omega) a (p - 1)
      exact bodyPost_ret (v := .agg #[.int .i64 a, .int .i64 (p - 1)]) (by simp [results, Try.results70, go_sem, c0, c1]) rfl ⟨ret_span (by omega) rfl, hB2⟩
  · have e0 : (op == 16) = false := by simp [h0]
    have hz := HZ.out
    rw [if_neg h12, if_neg h0] at hz
    rw [hz]
    clear hz HZ
    go_enter Try.func70, Try.ntmps70
    go_wp2_with fail
    refine (HA _).out.mono ?_
    rintro e w2 ⟨rfl, hb2⟩
    obtain ⟨k1, k2, h3, hB⟩ := box2 hb2
    clear hb2
    have f1 := fun x' y' : Int => facts2 (box3 (x' := x') (y' := y') k1 hB).1
    have f2 := fun x' y' : Int => facts2 (box3 (x' := x') (y' := y') k2 hB).1
    have f3 := fun x' y' : Int => facts2 (box3 (x' := x') (y' := y') h3 hB).1
    have q1 := fun x' y' => (f1 x' y').1
    have q2 := fun x' y' => (f1 x' y').2.1
    have r1 := fun x' y' => (f2 x' y').1
    have r2 := fun x' y' => (f2 x' y').2.1
    have s1 := fun x' y' => (f3 x' y').1
    have s2 := fun x' y' => (f3 x' y').2.1
    have s3 := fun x' y' => (f3 x' y').2.2.1
    have s4 := fun x' y' => (f3 x' y').2.2.2
    have HB := hide fun x' y' : Int => (box3 (x' := x') (y' := y') k1 hB).2.2
    have H3 := hide fun x' y' : Int => (box3 (x' := x') (y' := y') h3 hB).1
    clear f1 f2 f3 k1 k2 h3 hB
    go_wp2_with fail
    obtain ⟨c0, c1, hB2⟩ := stored2 (H3.out _ _) (HB.out _ _) (by omega) 0 (p - 1)
    exact bodyPost_ret (v := .agg #[.int .i64 0, .int .i64 (p - 1)]) (by simp [results, Try.results70, go_sem, c0, c1]) rfl ⟨rfl, hB2⟩

end Go.Proofs.Ytlhbgkaknfhlnaa.Spn

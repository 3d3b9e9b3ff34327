/-
  The functions of package span that reckon without asking for a value.
-/
import Derived.Test.YtihbhbeaihdgnaaMSpC
import Derived.BigQuiet
import Derived.BigRegion
namespace Go.Proofs.Ytihbhbeaihdgnaa.Spn
open Go.RowKit Go.IntWalk Go.Sort
set_option linter.unusedVariables false

theorem mixed : Try.prog.follows .mixedOrders = true := by kernel_rfl

/-- What is known of the three blocks behind a call. -/
theorem box2 {w w2 : World} {a b c d x y : Int} (h : Below (((w.alloc (.cells #[.int .i64 a, .int .i64 b] 73)).alloc (.cells #[.int .i64 c, .int .i64 d] 73)).alloc (.cells #[.int .i64 x, .int .i64 y] 73)).heap.size (((w.alloc (.cells #[.int .i64 a, .int .i64 b] 73)).alloc (.cells #[.int .i64 c, .int .i64 d] 73)).alloc (.cells #[.int .i64 x, .int .i64 y] 73)) w2) :
    HasC w2 w.heap.size 73 #[.int .i64 a, .int .i64 b] ∧ HasC w2 (w.heap.size + 1) 73 #[.int .i64 c, .int .i64 d] ∧ HasC w2 (w.heap.size + 1 + 1) 73 #[.int .i64 x, .int .i64 y] ∧ Below w.heap.size w w2 := by
  have h1 := (((HasC.new w 73 #[.int .i64 a, .int .i64 b]).alloc (.cells #[.int .i64 c, .int .i64 d] 73)).alloc (.cells #[.int .i64 x, .int .i64 y] 73)).below h
  have h2 := ((HasC.new (w.alloc (.cells #[.int .i64 a, .int .i64 b] 73)) 73 #[.int .i64 c, .int .i64 d]).alloc (.cells #[.int .i64 x, .int .i64 y] 73)).below h
  have h3 := (HasC.new ((w.alloc (.cells #[.int .i64 a, .int .i64 b] 73)).alloc (.cells #[.int .i64 c, .int .i64 d] 73)) 73 #[.int .i64 x, .int .i64 y]).below h
  simp only [World.size_alloc] at h2 h3
  exact ⟨h1, h2, h3, bel (bel3 _ _ _ _ _) h⟩

/-- 2 to the n, n being the least number for which all ends are from -2^n to 2^n - 1. -/
def arN (a b c d : Int) : Nat := max (max (max (wdN a) (wdN b)) (wdN c)) (wdN d)
def arP (a b c d : Int) : Int := 2 ^ arN a b c d

abbrev W32 (x : Int) : Prop := -2147483648 ≤ x ∧ x ≤ 2147483647

theorem arP_bd {a b c d : Int} (ha : W32 a) (hb : W32 b) (hc : W32 c) (hd : W32 d) : arN a b c d ≤ 31 ∧ 1 ≤ arP a b c d ∧ arP a b c d ≤ 2147483648 := by
  have h1 := (wdN_facts ha).1
  have h2 := (wdN_facts hb).1
  have h3 := (wdN_facts hc).1
  have h4 := (wdN_facts hd).1
  have h5 : arN a b c d ≤ 31 := by unfold arN; omega
  exact ⟨h5, pow_bd _ 31 h5⟩

def mx4 (a b c d : Int) : Int := max (max (max a b) c) d
theorem run_max_int4 {P : Program} {w : World} (ts : Array TypeId) (t : TypeId) (k k' k'' k3 : IntKind) (x y z u : Int) : (Builtin.max_ ts t #[.int k x, .int k' y, .int k'' z, .int k3 u]).run P w = .ok (.int k (mx4 x y z u)) w := by
  simp [Builtin.max_, Builtin.max2, mx4]
  omega
attribute [local go_sem] run_max_int4

set_option maxRecDepth 100000 in
set_option maxHeartbeats 400000 in
theorem around_any (a b c d : Int) (w : World) (ha : W32 a) (hb : W32 b) (hc : W32 c) (hd : W32 d) :
    Calls Try.prog 82 #[.agg #[.int .i64 a, .int .i64 b], .agg #[.int .i64 c, .int .i64 d]] w fun e w' => e = .returned (.agg #[.int .i64 (-arP a b c d), .int .i64 (arP a b c d - 1)]) ∧ Below w.heap.size w w' := by
  have w1 := fun w => width_any a w ha
  have w2 := fun w => width_any b w hb
  have w3 := fun w => width_any c w hc
  have w4 := fun w => width_any d w hd
  have f1 := (wdN_facts ha).1
  have f2 := (wdN_facts hb).1
  have f3 := (wdN_facts hc).1
  have f4 := (wdN_facts hd).1
  have hP := arP_bd ha hb hc hd
  have hN : ((arN a b c d : Nat) : Int) = mx4 (wdZ a) (wdZ b) (wdZ c) (wdZ d) := by unfold arN wdZ mx4; omega
  have HN := hide hN
  have HP := hide hP
  clear hN hP w1 w2 w3 w4
  go_enter Try.func82, Try.ntmps82
  go_wp2_with fail
  go_quiet ((go_at_call 91; exact Calls.quiet_of_same (width_any _ _ (by assumption))))
  go_wp2_with fail
  rw [← HN.out]
  have hN := HP.out.1
  have hN2 : ¬ ((arN a b c d : Nat) : Int) < 0 := by omega
  have hQ : (2 : Int) ^ arN a b c d = arP a b c d := rfl
  have hQ1 := HP.out.2
  generalize hp : arP a b c d = p at *
  have EP := hide hp
  clear hp
  generalize arN a b c d = n at *
  go_region
  go_wp2_with fail
  have hB := bdrew (bel3 w (.cells #[.int .i64 a, .int .i64 b] 73) (.cells #[.int .i64 c, .int .i64 d] 73) 0 0) (nq + 1)
  have hR := HasC.new ((w.alloc (.cells #[.int .i64 a, .int .i64 b] 73)).alloc (.cells #[.int .i64 c, .int .i64 d] 73)) 73 #[.int .i64 0, .int .i64 0]
  simp only [World.size_alloc] at hR
  obtain ⟨c0, c1, hB2⟩ := stored2 (w := w) (b := w.heap.size + 1 + 1) (w2 := (((w.alloc (.cells #[.int .i64 a, .int .i64 b] 73)).alloc (.cells #[.int .i64 c, .int .i64 d] 73)).alloc (.cells #[.int .i64 0, .int .i64 0] 73)).drewN (nq + 1)) hR hB (by omega) (-p) (p - 1)
  exact bodyPost_ret (v := .agg #[.int .i64 (-p), .int .i64 (p - 1)]) (by simp [results, Try.results82, go_sem, c0, c1]) rfl ⟨by rw [EP.out], hB2⟩

/-- OpMod. -/
def leftZ (a b c d : Int) : Int × Int := (if a < 0 then max a (-(max (-c) d - 1)) else 0, if 0 < b then min b (max (-c) d - 1) else 0)

theorem bel4 (w : World) (o1 o2 : Obj) (x y x' y' : Int) : Below w.heap.size w ((((w.alloc o1).alloc o2).alloc (.cells #[.int .i64 x, .int .i64 y] 73)).alloc (.cells #[.int .i64 x', .int .i64 y'] 73)) :=
  ((((Below.refl _ _).alloc (Nat.le_refl _) _).alloc (by simp) _).alloc (by simp; omega) _).alloc (by simp; omega) _

set_option maxRecDepth 100000 in
set_option maxHeartbeats 1000000 in
theorem left_any (a b c d : Int) (w : World) (ha : W32 a) (hb : W32 b) (hc : W32 c) (hd : W32 d) :
    Calls Try.prog 84 #[.agg #[.int .i64 a, .int .i64 b], .agg #[.int .i64 c, .int .i64 d]] w fun e w' => e = .returned (.agg #[.int .i64 (leftZ a b c d).1, .int .i64 (leftZ a b c d).2]) ∧ Below w.heap.size w w' := by
  by_cases h1 : a < 0 <;> by_cases h2 : 0 < b
  · rw [show leftZ a b c d = (max a (-(max (-c) d - 1)), min b (max (-c) d - 1)) by simp [leftZ, h1, h2]]
    go_enter Try.func84, Try.ntmps84
    go_wp2
    all_goals exact bodyPost_ret (v := .agg #[.int .i64 (max a (-(max (-c) d - 1))), .int .i64 (min b (max (-c) d - 1))]) (by simp [results, Try.results84, go_sem]; omega) rfl ⟨rfl, bel4 _ _ _ _ _ _ _⟩
  · rw [show leftZ a b c d = (max a (-(max (-c) d - 1)), 0) by simp [leftZ, h1, h2]]
    go_enter Try.func84, Try.ntmps84
    go_wp2
    all_goals exact bodyPost_ret (v := .agg #[.int .i64 (max a (-(max (-c) d - 1))), .int .i64 0]) (by simp [results, Try.results84, go_sem]; omega) rfl ⟨rfl, bel4 _ _ _ _ _ _ _⟩
  · rw [show leftZ a b c d = (0, min b (max (-c) d - 1)) by simp [leftZ, h1, h2]]
    go_enter Try.func84, Try.ntmps84
    go_wp2
    all_goals exact bodyPost_ret (v := .agg #[.int .i64 0, .int .i64 (min b (max (-c) d - 1))]) (by simp [results, Try.results84, go_sem]; omega) rfl ⟨rfl, bel4 _ _ _ _ _ _ _⟩
  · rw [show leftZ a b c d = (0, 0) by simp [leftZ, h1, h2]]
    go_enter Try.func84, Try.ntmps84
    go_wp2
    all_goals exact bodyPost_ret (v := .agg #[.int .i64 0, .int .i64 0]) (by simp [results, Try.results84, go_sem]) rfl ⟨rfl, bel4 _ _ _ _ _ _ _⟩

/-- OpNeg and OpAbs. -/
def oneZ (op a b : Int) : Int × Int := if op = 5 then (-b, -a) else if 0 ≤ a then (a, b) else if b < 0 then (-b, -a) else (0, max (-a) b)

set_option maxRecDepth 100000 in
set_option maxHeartbeats 1000000 in
theorem sofOne_any (op a b : Int) (w : World) (ha : W32 a) (hb : W32 b) :
    Calls Try.prog 86 #[.int .i64 op, .agg #[.int .i64 a, .int .i64 b]] w fun e w' => e = .returned (.agg #[.int .i64 (oneZ op a b).1, .int .i64 (oneZ op a b).2]) ∧ Below w.heap.size w w' := by
  by_cases h0 : op = 5
  · subst h0
    rw [show oneZ 5 a b = (-b, -a) from rfl]
    go_enter Try.func86, Try.ntmps86
    go_wp2
    exact bodyPost_ret (v := .agg #[.int .i64 (-b), .int .i64 (-a)]) (by simp [results, Try.results86, go_sem]) rfl ⟨rfl, bel3 _ _ _ _ _⟩
  have e0 : (op == 5) = false := by simp [h0]
  by_cases h1 : 0 ≤ a
  · rw [show oneZ op a b = (a, b) by simp [oneZ, h0, h1]]
    clear h0
    go_enter Try.func86, Try.ntmps86
    go_wp2
    exact bodyPost_ret (v := .agg #[.int .i64 a, .int .i64 b]) (by simp [results, Try.results86, go_sem]) rfl ⟨rfl, bel3 _ _ _ _ _⟩
  by_cases h2 : b < 0
  · rw [show oneZ op a b = (-b, -a) by simp [oneZ, h0, h1, h2]]
    clear h0
    go_enter Try.func86, Try.ntmps86
    go_wp2
    exact bodyPost_ret (v := .agg #[.int .i64 (-b), .int .i64 (-a)]) (by simp [results, Try.results86, go_sem]) rfl ⟨rfl, bel3 _ _ _ _ _⟩
  · rw [show oneZ op a b = (0, max (-a) b) by simp [oneZ, h0, h1, h2]]
    clear h0
    go_enter Try.func86, Try.ntmps86
    go_wp2
    all_goals exact bodyPost_ret (v := .agg #[.int .i64 0, .int .i64 (max (-a) b)]) (by simp [results, Try.results86, go_sem]; omega) rfl ⟨rfl, bel3 _ _ _ _ _⟩

/-- OpAnd. -/
def bothZ (a b c d : Int) : Int × Int := if 0 ≤ a ∧ 0 ≤ c then (0, min b d) else if 0 ≤ a then (0, b) else if 0 ≤ c then (0, d) else (-arP a b c d, arP a b c d - 1)

set_option maxRecDepth 100000 in
set_option maxHeartbeats 1000000 in
theorem both_any (a b c d : Int) (w : World) (ha : W32 a) (hb : W32 b) (hc : W32 c) (hd : W32 d) :
    Calls Try.prog 69 #[.agg #[.int .i64 a, .int .i64 b], .agg #[.int .i64 c, .int .i64 d]] w fun e w' => e = .returned (.agg #[.int .i64 (bothZ a b c d).1, .int .i64 (bothZ a b c d).2]) ∧ Below w.heap.size w w' := by
  by_cases h1 : 0 ≤ a
  · have e1 : decide (0 ≤ a) = true := by simp [h1]
    by_cases h2 : 0 ≤ c
    · rw [show bothZ a b c d = (0, min b d) by simp [bothZ, h1, h2]]
      go_enter Try.func69, Try.ntmps69
      go_wp2
      all_goals exact bodyPost_ret (v := .agg #[.int .i64 0, .int .i64 (min b d)]) (by simp [results, Try.results69, go_sem]; omega) rfl ⟨rfl, bel3 _ _ _ _ _⟩
    · rw [show bothZ a b c d = (0, b) by simp [bothZ, h1, h2]]
      go_enter Try.func69, Try.ntmps69
      go_wp2
      exact bodyPost_ret (v := .agg #[.int .i64 0, .int .i64 b]) (by simp [results, Try.results69, go_sem]) rfl ⟨rfl, bel3 _ _ _ _ _⟩
  · have e1 : decide (0 ≤ a) = false := by simp; omega
    by_cases h2 : 0 ≤ c
    · rw [show bothZ a b c d = (0, d) by simp [bothZ, h1, h2]]
      go_enter Try.func69, Try.ntmps69
      go_wp2
      exact bodyPost_ret (v := .agg #[.int .i64 0, .int .i64 d]) (by simp [results, Try.results69, go_sem]) rfl ⟨rfl, bel3 _ _ _ _ _⟩
    · rw [show bothZ a b c d = (-arP a b c d, arP a b c d - 1) by simp [bothZ, h1, h2]]
      have HA := fun w => hide (around_any a b c d w ha hb hc hd)
      generalize arP a b c d = p at *
      go_enter Try.func69, Try.ntmps69
      go_wp2_with fail
      refine (HA _).out.mono ?_
      rintro e w2 ⟨rfl, hb2⟩
      obtain ⟨-, -, h3, hB⟩ := box2 hb2
      obtain ⟨s1, s2, s3, s4⟩ := facts2 h3
      go_wp2_with fail
      obtain ⟨c0, c1, hB2⟩ := stored2 h3 hB (by omega) (-p) (p - 1)
      exact bodyPost_ret (v := .agg #[.int .i64 (-p), .int .i64 (p - 1)]) (by simp [results, Try.results69, go_sem, c0, c1]) rfl ⟨rfl, hB2⟩

end Go.Proofs.Ytihbhbeaihdgnaa.Spn

/-
  How many bits a number has: math/bits.Len64 and Len at numbers of 31 bits, span.width.
-/
import Derived.Test.YtihbhbeaihdgnaaGreatRGF
import Derived.Lib.BitFns
import Derived.BigQuiet
import Derived.BigRegion
namespace Go.Proofs.YtihbhbeaihdgnaaGreat.Spn
open Go.RowKit Go.IntWalk
set_option linter.unusedVariables false

theorem bitLen_gt (k : Nat) : ∀ x : Nat, x < 2 ^ k → k ≤ 63 → x < 2 ^ Lib.bitLen x := by
  induction k with
  | zero =>
    intro x h _
    obtain rfl : x = 0 := by simp at h; omega
    decide
  | succ k ih =>
    intro x h hk
    by_cases h0 : x = 0
    · subst h0; decide
    · have hp : 2 ^ (k + 1) ≤ 2 ^ 63 := Nat.pow_le_pow_right (by decide) hk
      have h1 := ih (x / 2) (by rw [Nat.pow_succ] at h; omega) (by omega)
      rw [Lib.bitLen_half x h0 (by omega), Nat.add_comm, Nat.pow_succ]
      omega

theorem tab_all : ∀ n : Fin 256, (Lib.len8tab[n.val]'(Nat.lt_of_lt_of_le n.isLt (by decide +kernel))).toNat = Lib.bitLen n.val := by decide +kernel
theorem tab_of (n : Nat) (hn : n < 256) (h : n < Lib.len8tab.size) : (Lib.len8tab[n]'h).toNat = Lib.bitLen n := tab_all ⟨n, hn⟩

set_option maxRecDepth 100000 in
set_option maxHeartbeats 4000000 in
set_option maxRecDepth 100000 in
theorem len64_any (x : Int) (w : World) (h : 0 ≤ x ∧ x ≤ 2147483647) :
    Calls Tryz.prog 246 #[.int .u64 x] w fun e w' => e = .returned (.int .i64 (Lib.bitLen x.toNat)) ∧ w' = w := by
  have hs : Lib.len8tab.size = 256 := by decide +kernel
  rcases (show x < 256 ∨ (256 ≤ x ∧ x < 65536) ∨ (65536 ≤ x ∧ x < 16777216) ∨ 16777216 ≤ x by omega) with g | g | g | g
  · go_enter Tryz.func246, Tryz.ntmps246
    go_wp2
    go_ret
    refine ⟨ret_int ?_, rfl⟩
    rw [tab_of x.toNat (by omega)]
    have l := Lib.bitLen_le x.toNat 31 (by decide) (by omega)
    unfold wrap64
    omega
  · go_enter Tryz.func246, Tryz.ntmps246
    go_wp2
    go_ret
    refine ⟨ret_int ?_, rfl⟩
    rw [tab_of (x / 256).toNat (by omega)]
    have l := Lib.bitLen_le x.toNat 31 (by decide) (by omega)
    have s := Lib.bitLen_shift8 x.toNat (by omega) (by omega)
    rw [show (x / 256).toNat = x.toNat / 256 by omega]
    unfold wrap64
    omega
  · go_enter Tryz.func246, Tryz.ntmps246
    go_wp2
    go_ret
    refine ⟨ret_int ?_, rfl⟩
    rw [tab_of (x / 65536).toNat (by omega)]
    have l := Lib.bitLen_le x.toNat 31 (by decide) (by omega)
    have s := Lib.bitLen_shift16 x.toNat (by omega) (by omega)
    rw [show (x / 65536).toNat = x.toNat / 65536 by omega]
    unfold wrap64
    omega
  · go_enter Tryz.func246, Tryz.ntmps246
    go_wp2
    go_ret
    refine ⟨ret_int ?_, rfl⟩
    rw [tab_of (x / 65536 / 256).toNat (by omega)]
    have l := Lib.bitLen_le x.toNat 31 (by decide) (by omega)
    have s := Lib.bitLen_shift24 x.toNat (by omega) (by omega)
    rw [show (x / 65536 / 256).toNat = x.toNat / 16777216 by omega]
    unfold wrap64
    omega

theorem len_any (x : Int) (w : World) (h : 0 ≤ x ∧ x ≤ 2147483647) :
    Calls Tryz.prog 244 #[.int .u64 x] w fun e w' => e = .returned (.int .i64 (Lib.bitLen x.toNat)) ∧ w' = w := by
  go_enter Tryz.func244, Tryz.ntmps244
  go_wp2_with (go_at_call 246; refine (len64_any x _ h).mono ?_; rintro e w' ⟨rfl, rfl⟩)
  go_ret
  exact ⟨rfl, rfl⟩

/-- How many bits a number has beside its sign. -/
def wdN (x : Int) : Nat := Lib.bitLen (if x < 0 then -x - 1 else x).toNat
def wdZ (x : Int) : Int := (wdN x : Nat)
theorem wdN_facts {x : Int} (h : -2147483648 ≤ x ∧ x ≤ 2147483647) : wdN x ≤ 31 ∧ -(2 ^ wdN x : Nat) ≤ x ∧ x < (2 ^ wdN x : Nat) := by
  unfold wdN
  have h1 := Lib.bitLen_le (if x < 0 then -x - 1 else x).toNat 31 (by decide) (by split <;> omega)
  have h2 := bitLen_gt 31 (if x < 0 then -x - 1 else x).toNat (by split <;> omega) (by decide)
  revert h1 h2
  generalize Lib.bitLen (if x < 0 then -x - 1 else x).toNat = m
  intro h1 h2
  refine ⟨h1, ?_⟩
  generalize 2 ^ m = P at *
  split at h2 <;> omega
theorem wdN_least {x : Int} {n : Nat} (hn : n ≤ 62) (h : -(2 ^ n : Nat) ≤ x ∧ x < (2 ^ n : Nat)) : wdN x ≤ n := by
  unfold wdN
  refine Lib.bitLen_le _ _ (by omega) ?_
  generalize 2 ^ n = P at *
  split <;> omega

theorem bw_turn' {a : Int} (ha : -2147483648 ≤ a ∧ a ≤ 2147483647) : bw .xor (-1) a = -a - 1 := by
  have h := bw_32 (fun b a => b = -1 → bw .xor b a = -a - 1) (fun h => by cases h) (fun h => by cases h) (fun _ => by decide) (fun _ => by decide) (by
    intro b a hb ha h e
    subst e
    have h1 := h (by decide)
    rw [show ((-1 : Int) / 2) = -1 by decide] at h1
    show bw .xor (-1) a = -a - 1
    rw [bw_step .xor (-1) a (by omega) ha, show ((-1 : Int) / 2) = -1 by decide, h1]
    simp only [Bop.dig]
    omega) (show -2147483648 ≤ (-1 : Int) ∧ (-1 : Int) ≤ 2147483647 by decide) ha
  exact h rfl

theorem width_any (x : Int) (w : World) (h : -2147483648 ≤ x ∧ x ≤ 2147483647) :
    Calls Tryz.prog 239 #[.int .i64 x] w fun e w' => e = .returned (.int .i64 (wdZ x)) ∧ w' = w := by
  by_cases h0 : x < 0
  · have hl := fun w => len_any (-x - 1) w (by omega)
    have hx : bits BinOp.xor IntKind.i64 (-1) x = -x - 1 := bw_turn' h
    have hk : wdZ x = Lib.bitLen (-x - 1).toNat := by simp [wdZ, wdN, h0]
    rw [hk]
    clear hk
    generalize hy : -x - 1 = y at *
    have hy0 : 0 ≤ y ∧ y ≤ 2147483647 := by omega
    clear hy
    have hu : IntKind.u64.wrap y = y := by simp [IntKind.wrap, IntKind.bits, IntKind.signed]; omega
    go_enter Tryz.func239, Tryz.ntmps239
    go_wp2_with fail
    refine (hl _).mono ?_
    rintro e w' ⟨rfl, rfl⟩
    go_wp2_with fail
    go_ret
    exact ⟨rfl, rfl⟩
  · have hl := fun w => len_any x w (by omega)
    go_enter Tryz.func239, Tryz.ntmps239
    go_wp2_with (go_at_call 244; refine (hl _).mono ?_; rintro e w' ⟨rfl, rfl⟩)
    go_ret
    exact ⟨ret_int (by simp [wdZ, wdN]; rw [if_neg (by omega)]), rfl⟩

end Go.Proofs.YtihbhbeaihdgnaaGreat.Spn

/-
  The functions of package span that reckon without asking for a value.
-/
namespace Go.Proofs.YtihbhbeaihdgnaaGreat.Spn
open Go.RowKit Go.IntWalk Go.Sort
set_option linter.unusedVariables false

theorem mixed : Tryz.prog.follows .mixedOrders = true := by kernel_rfl

/-- What is known of the three blocks behind a call. -/
theorem box2 {w w2 : World} {a b c d x y : Int} (h : Below (((w.alloc (.cells #[.int .i64 a, .int .i64 b] 74)).alloc (.cells #[.int .i64 c, .int .i64 d] 74)).alloc (.cells #[.int .i64 x, .int .i64 y] 74)).heap.size (((w.alloc (.cells #[.int .i64 a, .int .i64 b] 74)).alloc (.cells #[.int .i64 c, .int .i64 d] 74)).alloc (.cells #[.int .i64 x, .int .i64 y] 74)) w2) :
    HasC w2 w.heap.size 74 #[.int .i64 a, .int .i64 b] ∧ HasC w2 (w.heap.size + 1) 74 #[.int .i64 c, .int .i64 d] ∧ HasC w2 (w.heap.size + 1 + 1) 74 #[.int .i64 x, .int .i64 y] ∧ Below w.heap.size w w2 := by
  have h1 := (((HasC.new w 74 #[.int .i64 a, .int .i64 b]).alloc (.cells #[.int .i64 c, .int .i64 d] 74)).alloc (.cells #[.int .i64 x, .int .i64 y] 74)).below h
  have h2 := ((HasC.new (w.alloc (.cells #[.int .i64 a, .int .i64 b] 74)) 74 #[.int .i64 c, .int .i64 d]).alloc (.cells #[.int .i64 x, .int .i64 y] 74)).below h
  have h3 := (HasC.new ((w.alloc (.cells #[.int .i64 a, .int .i64 b] 74)).alloc (.cells #[.int .i64 c, .int .i64 d] 74)) 74 #[.int .i64 x, .int .i64 y]).below h
  simp only [World.size_alloc] at h2 h3
  exact ⟨h1, h2, h3, bel (bel3 _ _ _ _ _) h⟩

/-- 2 to the n, n being the least number for which all ends are from -2^n to 2^n - 1. -/
def arN (a b c d : Int) : Nat := max (max (max (wdN a) (wdN b)) (wdN c)) (wdN d)
def arP (a b c d : Int) : Int := 2 ^ arN a b c d

abbrev W32 (x : Int) : Prop := -2147483648 ≤ x ∧ x ≤ 2147483647

theorem arP_bd {a b c d : Int} (ha : W32 a) (hb : W32 b) (hc : W32 c) (hd : W32 d) : arN a b c d ≤ 31 ∧ 1 ≤ arP a b c d ∧ arP a b c d ≤ 2147483648 := by
  have h1 := (wdN_facts ha).1
  have h2 := (wdN_facts hb).1
  have h3 := (wdN_facts hc).1
  have h4 := (wdN_facts hd).1
  have h5 : arN a b c d ≤ 31 := by unfold arN; omega
  exact ⟨h5, pow_bd _ 31 h5⟩

def mx4 (a b c d : Int) : Int := max (max (max a b) c) d
theorem run_max_int4 {P : Program} {w : World} (ts : Array TypeId) (t : TypeId) (k k' k'' k3 : IntKind) (x y z u : Int) : (Builtin.max_ ts t #[.int k x, .int k' y, .int k'' z, .int k3 u]).run P w = .ok (.int k (mx4 x y z u)) w := by
  simp [Builtin.max_, Builtin.max2, mx4]
  omega
attribute [local go_sem] run_max_int4

set_option maxRecDepth 100000 in
set_option maxHeartbeats 400000 in
theorem around_any (a b c d : Int) (w : World) (ha : W32 a) (hb : W32 b) (hc : W32 c) (hd : W32 d) :
    Calls Tryz.prog 222 #[.agg #[.int .i64 a, .int .i64 b], .agg #[.int .i64 c, .int .i64 d]] w fun e w' => e = .returned (.agg #[.int .i64 (-arP a b c d), .int .i64 (arP a b c d - 1)]) ∧ Below w.heap.size w w' := by
  have w1 := fun w => width_any a w ha
  have w2 := fun w => width_any b w hb
  have w3 := fun w => width_any c w hc
  have w4 := fun w => width_any d w hd
  have f1 := (wdN_facts ha).1
  have f2 := (wdN_facts hb).1
  have f3 := (wdN_facts hc).1
  have f4 := (wdN_facts hd).1
  have hP := arP_bd ha hb hc hd
  have hN : ((arN a b c d : Nat) : Int) = mx4 (wdZ a) (wdZ b) (wdZ c) (wdZ d) := by unfold arN wdZ mx4; omega
  have HN := hide hN
  have HP := hide hP
  clear hN hP w1 w2 w3 w4
  go_enter Tryz.func222, Tryz.ntmps222
  go_wp2_with fail
  go_quiet ((go_at_call 239; exact Calls.quiet_of_same (width_any _ _ (by assumption))))
  go_wp2_with fail
  rw [← HN.out]
  have hN := HP.out.1
  have hN2 : ¬ ((arN a b c d : Nat) : Int) < 0 := by omega
  have hQ : (2 : Int) ^ arN a b c d = arP a b c d := rfl
  have hQ1 := HP.out.2
  generalize hp : arP a b c d = p at *
  have EP := hide hp
  clear hp
  generalize arN a b c d = n at *
  go_region
  go_wp2_with fail
  have hB := bdrew (bel3 w (.cells #[.int .i64 a, .int .i64 b] 74) (.cells #[.int .i64 c, .int .i64 d] 74) 0 0) (nq + 1)
  have hR := HasC.new ((w.alloc (.cells #[.int .i64 a, .int .i64 b] 74)).alloc (.cells #[.int .i64 c, .int .i64 d] 74)) 74 #[.int .i64 0, .int .i64 0]
  simp only [World.size_alloc] at hR
  obtain ⟨c0, c1, hB2⟩ := stored2 (w := w) (b := w.heap.size + 1 + 1) (w2 := (((w.alloc (.cells #[.int .i64 a, .int .i64 b] 74)).alloc (.cells #[.int .i64 c, .int .i64 d] 74)).alloc (.cells #[.int .i64 0, .int .i64 0] 74)).drewN (nq + 1)) hR hB (by omega) (-p) (p - 1)
  exact bodyPost_ret (v := .agg #[.int .i64 (-p), .int .i64 (p - 1)]) (by simp [results, Tryz.results222, go_sem, c0, c1]) rfl ⟨by rw [EP.out], hB2⟩

/-- OpMod. -/
def leftZ (a b c d : Int) : Int × Int := (if a < 0 then max a (-(max (-c) d - 1)) else 0, if 0 < b then min b (max (-c) d - 1) else 0)

theorem bel4 (w : World) (o1 o2 : Obj) (x y x' y' : Int) : Below w.heap.size w ((((w.alloc o1).alloc o2).alloc (.cells #[.int .i64 x, .int .i64 y] 74)).alloc (.cells #[.int .i64 x', .int .i64 y'] 74)) :=
  ((((Below.refl _ _).alloc (Nat.le_refl _) _).alloc (by simp) _).alloc (by simp; omega) _).alloc (by simp; omega) _

set_option maxRecDepth 100000 in
set_option maxHeartbeats 1000000 in
theorem left_any (a b c d : Int) (w : World) (ha : W32 a) (hb : W32 b) (hc : W32 c) (hd : W32 d) :
    Calls Tryz.prog 224 #[.agg #[.int .i64 a, .int .i64 b], .agg #[.int .i64 c, .int .i64 d]] w fun e w' => e = .returned (.agg #[.int .i64 (leftZ a b c d).1, .int .i64 (leftZ a b c d).2]) ∧ Below w.heap.size w w' := by
  by_cases h1 : a < 0 <;> by_cases h2 : 0 < b
  · rw [show leftZ a b c d = (max a (-(max (-c) d - 1)), min b (max (-c) d - 1)) by simp [leftZ, h1, h2]]
    go_enter Tryz.func224, Tryz.ntmps224
    go_wp2
    all_goals exact bodyPost_ret (v := .agg #[.int .i64 (max a (-(max (-c) d - 1))), .int .i64 (min b (max (-c) d - 1))]) (by simp [results, Tryz.results224, go_sem]; omega) rfl ⟨rfl, bel4 _ _ _ _ _ _ _⟩
  · rw [show leftZ a b c d = (max a (-(max (-c) d - 1)), 0) by simp [leftZ, h1, h2]]
    go_enter Tryz.func224, Tryz.ntmps224
    go_wp2
    all_goals exact bodyPost_ret (v := .agg #[.int .i64 (max a (-(max (-c) d - 1))), .int .i64 0]) (by simp [results, Tryz.results224, go_sem]; omega) rfl ⟨rfl, bel4 _ _ _ _ _ _ _⟩
  · rw [show leftZ a b c d = (0, min b (max (-c) d - 1)) by simp [leftZ, h1, h2]]
    go_enter Tryz.func224, Tryz.ntmps224
    go_wp2
    all_goals exact bodyPost_ret (v := .agg #[.int .i64 0, .int .i64 (min b (max (-c) d - 1))]) (by simp [results, Tryz.results224, go_sem]; omega) rfl ⟨rfl, bel4 _ _ _ _ _ _ _⟩
  · rw [show leftZ a b c d = (0, 0) by simp [leftZ, h1, h2]]
    go_enter Tryz.func224, Tryz.ntmps224
    go_wp2
    all_goals exact bodyPost_ret (v := .agg #[.int .i64 0, .int .i64 0]) (by simp [results, Tryz.results224, go_sem]) rfl ⟨rfl, bel4 _ _ _ _ _ _ _⟩

/-- OpNeg and OpAbs. -/
def oneZ (op a b : Int) : Int × Int := if op = 5 then (-b, -a) else if 0 ≤ a then (a, b) else if b < 0 then (-b, -a) else (0, max (-a) b)

set_option maxRecDepth 100000 in
set_option maxHeartbeats 1000000 in
theorem sofOne_any (op a b : Int) (w : World) (ha : W32 a) (hb : W32 b) :
    Calls Tryz.prog 226 #[.int .i64 op, .agg #[.int .i64 a, .int .i64 b]] w fun e w' => e = .returned (.agg #[.int .i64 (oneZ op a b).1, .int .i64 (oneZ op a b).2]) ∧ Below w.heap.size w w' := by
  by_cases h0 : op = 5
  · subst h0
    rw [show oneZ 5 a b = (-b, -a) from rfl]
    go_enter Tryz.func226, Tryz.ntmps226
    go_wp2
    exact bodyPost_ret (v := .agg #[.int .i64 (-b), .int .i64 (-a)]) (by simp [results, Tryz.results226, go_sem]) rfl ⟨rfl, bel3 _ _ _ _ _⟩
  have e0 : (op == 5) = false := by simp [h0]
  by_cases h1 : 0 ≤ a
  · rw [show oneZ op a b = (a, b) by simp [oneZ, h0, h1]]
    clear h0
    go_enter Tryz.func226, Tryz.ntmps226
    go_wp2
    exact bodyPost_ret (v := .agg #[.int .i64 a, .int .i64 b]) (by simp [results, Tryz.results226, go_sem]) rfl ⟨rfl, bel3 _ _ _ _ _⟩
  by_cases h2 : b < 0
  · rw [show oneZ op a b = (-b, -a) by simp [oneZ, h0, h1, h2]]
    clear h0
    go_enter Tryz.func226, Tryz.ntmps226
    go_wp2
    exact bodyPost_ret (v := .agg #[.int .i64 (-b), .int .i64 (-a)]) (by simp [results, Tryz.results226, go_sem]) rfl ⟨rfl, bel3 _ _ _ _ _⟩
  · rw [show oneZ op a b = (0, max (-a) b) by simp [oneZ, h0, h1, h2]]
    clear h0
    go_enter Tryz.func226, Tryz.ntmps226
    go_wp2
    all_goals exact bodyPost_ret (v := .agg #[.int .i64 0, .int .i64 (max (-a) b)]) (by simp [results, Tryz.results226, go_sem]; omega) rfl ⟨rfl, bel3 _ _ _ _ _⟩

/-- OpAnd. -/
def bothZ (a b c d : Int) : Int × Int := if 0 ≤ a ∧ 0 ≤ c then (0, min b d) else if 0 ≤ a then (0, b) else if 0 ≤ c then (0, d) else (-arP a b c d, arP a b c d - 1)

set_option maxRecDepth 100000 in
set_option maxHeartbeats 1000000 in
theorem both_any (a b c d : Int) (w : World) (ha : W32 a) (hb : W32 b) (hc : W32 c) (hd : W32 d) :
    Calls Tryz.prog 191 #[.agg #[.int .i64 a, .int .i64 b], .agg #[.int .i64 c, .int .i64 d]] w fun e w' => e = .returned (.agg #[.int .i64 (bothZ a b c d).1, .int .i64 (bothZ a b c d).2]) ∧ Below w.heap.size w w' := by
  by_cases h1 : 0 ≤ a
  · have e1 : decide (0 ≤ a) = true := by simp [h1]
    by_cases h2 : 0 ≤ c
    · rw [show bothZ a b c d = (0, min b d) by simp [bothZ, h1, h2]]
      go_enter Tryz.func191, Tryz.ntmps191
      go_wp2
      all_goals exact bodyPost_ret (v := .agg #[.int .i64 0, .int .i64 (min b d)]) (by simp [results, Tryz.results191, go_sem]; omega) rfl ⟨rfl, bel3 _ _ _ _ _⟩
    · rw [show bothZ a b c d = (0, b) by simp [bothZ, h1, h2]]
      go_enter Tryz.func191, Tryz.ntmps191
      go_wp2
      exact bodyPost_ret (v := .agg #[.int .i64 0, .int .i64 b]) (by simp [results, Tryz.results191, go_sem]) rfl ⟨rfl, bel3 _ _ _ _ _⟩
  · have e1 : decide (0 ≤ a) = false := by simp; omega
    by_cases h2 : 0 ≤ c
    · rw [show bothZ a b c d = (0, d) by simp [bothZ, h1, h2]]
      go_enter Tryz.func191, Tryz.ntmps191
      go_wp2
      exact bodyPost_ret (v := .agg #[.int .i64 0, .int .i64 d]) (by simp [results, Tryz.results191, go_sem]) rfl ⟨rfl, bel3 _ _ _ _ _⟩
    · rw [show bothZ a b c d = (-arP a b c d, arP a b c d - 1) by simp [bothZ, h1, h2]]
      have HA := fun w => hide (around_any a b c d w ha hb hc hd)
      generalize arP a b c d = p at *
      go_enter Tryz.func191, Tryz.ntmps191
      go_wp2_with fail
      refine (HA _).out.mono ?_
      rintro e w2 ⟨rfl, hb2⟩
      obtain ⟨-, -, h3, hB⟩ := box2 hb2
      obtain ⟨s1, s2, s3, s4⟩ := facts2 h3
      go_wp2_with fail
      obtain ⟨c0, c1, hB2⟩ := stored2 h3 hB (by omega) (-p) (p - 1)
      exact bodyPost_ret (v := .agg #[.int .i64 (-p), .int .i64 (p - 1)]) (by simp [results, Tryz.results191, go_sem, c0, c1]) rfl ⟨rfl, hB2⟩

end Go.Proofs.YtihbhbeaihdgnaaGreat.Spn

/-
  The functions of package span that reckon without asking for a value: either, equal, ofTwo, chosen.
-/
namespace Go.Proofs.YtihbhbeaihdgnaaGreat.Spn
open Go.RowKit Go.IntWalk Go.Sort
set_option linter.unusedVariables false

/-- OpOr and OpXor. -/
def eithZ (op a b c d : Int) : Int × Int := if a < 0 ∨ c < 0 then (-arP a b c d, arP a b c d - 1) else if op = 16 then (max a c, arP a b c d - 1) else (0, arP a b c d - 1)

/-- The blocks of a span's function behind a call, and one more that is laid behind it. -/
theorem box3 {w w2 : World} {t : TypeId} {x y : Value} {x' y' : Int} {b : Nat} (h : HasC w2 b t #[x, y]) (hB : Below w.heap.size w w2) :
    HasC (w2.alloc (.cells #[.int .i64 x', .int .i64 y'] 74)) b t #[x, y] ∧ HasC (w2.alloc (.cells #[.int .i64 x', .int .i64 y'] 74)) w2.heap.size 74 #[.int .i64 x', .int .i64 y'] ∧ Below w.heap.size w (w2.alloc (.cells #[.int .i64 x', .int .i64 y'] 74)) :=
  ⟨h.alloc _, HasC.new _ _ _, hB.alloc hB.size _⟩

set_option maxRecDepth 100000 in
set_option maxHeartbeats 1000000 in
theorem either_any (op a b c d : Int) (w : World) (ha : W32 a) (hb : W32 b) (hc : W32 c) (hd : W32 d) :
    Calls Tryz.prog 240 #[.int .i64 op, .agg #[.int .i64 a, .int .i64 b], .agg #[.int .i64 c, .int .i64 d]] w fun e w' => e = .returned (.agg #[.int .i64 (eithZ op a b c d).1, .int .i64 (eithZ op a b c d).2]) ∧ Below w.heap.size w w' := by
  have HA := fun w => hide (around_any a b c d w ha hb hc hd)
  have HZ : Hid (eithZ op a b c d = if a < 0 ∨ c < 0 then (-arP a b c d, arP a b c d - 1) else if op = 16 then (max a c, arP a b c d - 1) else (0, arP a b c d - 1)) := hide rfl
  have hP := (arP_bd ha hb hc hd).2
  generalize arP a b c d = p at *
  by_cases h1 : a < 0
  · have e1 : decide (a < 0) = true := by simp [h1]
    have hz := HZ.out
    rw [if_pos (.inl h1)] at hz
    rw [hz]
    clear hz HZ
    go_enter Tryz.func240, Tryz.ntmps240
    go_wp2_with fail
    refine (HA _).out.mono ?_
    rintro e w2 ⟨rfl, hb2⟩
    obtain ⟨k1, k2, h3, hB⟩ := box2 hb2
    clear hb2
    have f1 := fun x' y' : Int => facts2 (box3 (x' := x') (y' := y') k1 hB).1
    have f2 := fun x' y' : Int => facts2 (box3 (x' := x') (y' := y') k2 hB).1
    have f3 := fun x' y' : Int => facts2 (box3 (x' := x') (y' := y') h3 hB).1
    have q1 := fun x' y' => (f1 x' y').1
    have q2 := fun x' y' => (f1 x' y').2.1
    have r1 := fun x' y' => (f2 x' y').1
    have r2 := fun x' y' => (f2 x' y').2.1
    have s1 := fun x' y' => (f3 x' y').1
    have s2 := fun x' y' => (f3 x' y').2.1
    have s3 := fun x' y' => (f3 x' y').2.2.1
    have s4 := fun x' y' => (f3 x' y').2.2.2
    have HB := hide fun x' y' : Int => (box3 (x' := x') (y' := y') k1 hB).2.2
    have H3 := hide fun x' y' : Int => (box3 (x' := x') (y' := y') h3 hB).1
    clear f1 f2 f3 k1 k2 h3 hB
    go_wp2_with fail
    obtain ⟨c0, c1, hB2⟩ := stored2 (H3.out _ _) (HB.out _ _) (by omega) (-p) (p - 1)
    exact bodyPost_ret (v := .agg #[.int .i64 (-p), .int .i64 (p - 1)]) (by simp [results, Tryz.results240, go_sem, c0, c1]) rfl ⟨rfl, hB2⟩
  have e1 : decide (a < 0) = false := by simp; omega
  by_cases h2 : c < 0
  · have hz := HZ.out
    rw [if_pos (.inr h2)] at hz
    rw [hz]
    clear hz HZ
    go_enter Tryz.func240, Tryz.ntmps240
    go_wp2_with fail
    refine (HA _).out.mono ?_
    rintro e w2 ⟨rfl, hb2⟩
    obtain ⟨k1, k2, h3, hB⟩ := box2 hb2
    clear hb2
    have f1 := fun x' y' : Int => facts2 (box3 (x' := x') (y' := y') k1 hB).1
    have f2 := fun x' y' : Int => facts2 (box3 (x' := x') (y' := y') k2 hB).1
    have f3 := fun x' y' : Int => facts2 (box3 (x' := x') (y' := y') h3 hB).1
    have q1 := fun x' y' => (f1 x' y').1
    have q2 := fun x' y' => (f1 x' y').2.1
    have r1 := fun x' y' => (f2 x' y').1
    have r2 := fun x' y' => (f2 x' y').2.1
    have s1 := fun x' y' => (f3 x' y').1
    have s2 := fun x' y' => (f3 x' y').2.1
    have s3 := fun x' y' => (f3 x' y').2.2.1
    have s4 := fun x' y' => (f3 x' y').2.2.2
    have HB := hide fun x' y' : Int => (box3 (x' := x') (y' := y') k1 hB).2.2
    have H3 := hide fun x' y' : Int => (box3 (x' := x') (y' := y') h3 hB).1
    clear f1 f2 f3 k1 k2 h3 hB
    go_wp2_with fail
    obtain ⟨c0, c1, hB2⟩ := stored2 (H3.out _ _) (HB.out _ _) (by omega) (-p) (p - 1)
    exact bodyPost_ret (v := .agg #[.int .i64 (-p), .int .i64 (p - 1)]) (by simp [results, Tryz.results240, go_sem, c0, c1]) rfl ⟨rfl, hB2⟩
  have h12 : ¬ (a < 0 ∨ c < 0) := by omega
  by_cases h0 : op = 16
  · subst h0
    have hz := HZ.out
    rw [if_neg h12, if_pos rfl] at hz
    rw [hz]
    clear hz HZ
    go_enter Tryz.func240, Tryz.ntmps240
    go_wp2_with fail
    refine (HA _).out.mono ?_
    rintro e w2 ⟨rfl, hb2⟩
    obtain ⟨k1, k2, h3, hB⟩ := box2 hb2
    clear hb2
    have f1 := fun x' y' : Int => facts2 (box3 (x' := x') (y' := y') k1 hB).1
    have f2 := fun x' y' : Int => facts2 (box3 (x' := x') (y' := y') k2 hB).1
    have f3 := fun x' y' : Int => facts2 (box3 (x' := x') (y' := y') h3 hB).1
    have q1 := fun x' y' => (f1 x' y').1
    have q2 := fun x' y' => (f1 x' y').2.1
    have r1 := fun x' y' => (f2 x' y').1
    have r2 := fun x' y' => (f2 x' y').2.1
    have s1 := fun x' y' => (f3 x' y').1
    have s2 := fun x' y' => (f3 x' y').2.1
    have s3 := fun x' y' => (f3 x' y').2.2.1
    have s4 := fun x' y' => (f3 x' y').2.2.2
    have HB := hide fun x' y' : Int => (box3 (x' := x') (y' := y') k1 hB).2.2
    have H3 := hide fun x' y' : Int => (box3 (x' := x') (y' := y') h3 hB).1
    clear f1 f2 f3 k1 k2 h3 hB
    go_wp2_with fail
    · obtain ⟨c0, c1, hB2⟩ := stored2 (H3.out _ _) (HB.out _ _) (by omega) c (p - 1)
      exact bodyPost_ret (v := .agg #[.int .i64 c, .int .i64 (p - 1)]) (by simp [results, Tryz.results240, go_sem, c0, c1]) rfl ⟨ret_span (by omega) rfl, hB2⟩
    · obtain ⟨c0, c1, hB2⟩ := stored2 (H3.out _ _) (HB.out _ _) (by omega) a (p - 1)
      exact bodyPost_ret (v := .agg #[.int .i64 a, .int .i64 (p - 1)]) (by simp [results, Tryz.results240, go_sem, c0, c1]) rfl ⟨ret_span (by omega) rfl, hB2⟩
  · have e0 : (op == 16) = false := by simp [h0]
    have hz := HZ.out
    rw [if_neg h12, if_neg h0] at hz
    rw [hz]
    clear hz HZ
    go_enter Tryz.func240, Tryz.ntmps240
    go_wp2_with fail
    refine (HA _).out.mono ?_
    rintro e w2 ⟨rfl, hb2⟩
    obtain ⟨k1, k2, h3, hB⟩ := box2 hb2
    clear hb2
    have f1 := fun x' y' : Int => facts2 (box3 (x' := x') (y' := y') k1 hB).1
    have f2 := fun x' y' : Int => facts2 (box3 (x' := x') (y' := y') k2 hB).1
    have f3 := fun x' y' : Int => facts2 (box3 (x' := x') (y' := y') h3 hB).1
    have q1 := fun x' y' => (f1 x' y').1
    have q2 := fun x' y' => (f1 x' y').2.1
    have r1 := fun x' y' => (f2 x' y').1
    have r2 := fun x' y' => (f2 x' y').2.1
    have s1 := fun x' y' => (f3 x' y').1
    have s2 := fun x' y' => (f3 x' y').2.1
    have s3 := fun x' y' => (f3 x' y').2.2.1
    have s4 := fun x' y' => (f3 x' y').2.2.2
    have HB := hide fun x' y' : Int => (box3 (x' := x') (y' := y') k1 hB).2.2
    have H3 := hide fun x' y' : Int => (box3 (x' := x') (y' := y') h3 hB).1
    clear f1 f2 f3 k1 k2 h3 hB
    go_wp2_with fail
    obtain ⟨c0, c1, hB2⟩ := stored2 (H3.out _ _) (HB.out _ _) (by omega) 0 (p - 1)
    exact bodyPost_ret (v := .agg #[.int .i64 0, .int .i64 (p - 1)]) (by simp [results, Tryz.results240, go_sem, c0, c1]) rfl ⟨rfl, hB2⟩

end Go.Proofs.YtihbhbeaihdgnaaGreat.Spn

/-
  The functions of package span that reckon without asking for a value: equal, ofTwo, chosen.
-/
namespace Go.Proofs.YtihbhbeaihdgnaaGreat.Spn
open Go.RowKit Go.IntWalk Go.Sort
set_option linter.unusedVariables false

/-- OpEq. -/
def eqZ (a b c d : Int) : Int × Int := if b < c ∨ d < a then (0, 0) else if a = c ∧ b = d ∧ a = b then (1, 1) else (0, 1)

/-- The region of '==' behind the walk: what is known of the world. -/
theorem box_rg {w W : World} {b1 b2 b3 : Nat} {a b c d x y : Int} (k1 : HasC W b1 74 #[.int .i64 a, .int .i64 b]) (k2 : HasC W b2 74 #[.int .i64 c, .int .i64 d]) (k3 : HasC W b3 74 #[.int .i64 x, .int .i64 y]) (hB : Below w.heap.size w W) (dq : Nat) (os : Array Obj) :
    HasC (grow (redrawn W dq) os) b1 74 #[.int .i64 a, .int .i64 b] ∧ HasC (grow (redrawn W dq) os) b2 74 #[.int .i64 c, .int .i64 d] ∧ HasC (grow (redrawn W dq) os) b3 74 #[.int .i64 x, .int .i64 y] ∧ Below w.heap.size w (grow (redrawn W dq) os) :=
  ⟨k1.below (below_regrown _ _ _), k2.below (below_regrown _ _ _), k3.below (below_regrown _ _ _), bel hB (below_regrown _ _ _)⟩

set_option maxRecDepth 100000 in
set_option maxHeartbeats 1000000 in
theorem equal_any (a b c d : Int) (w : World) :
    Calls Tryz.prog 241 #[.agg #[.int .i64 a, .int .i64 b], .agg #[.int .i64 c, .int .i64 d]] w fun e w' => e = .returned (.agg #[.int .i64 (eqZ a b c d).1, .int .i64 (eqZ a b c d).2]) ∧ Below w.heap.size w w' := by
  by_cases h1 : b < c
  · have e1 : decide (b < c) = true := by simp [h1]
    rw [show eqZ a b c d = (0, 0) by simp [eqZ, h1]]
    go_enter Tryz.func241, Tryz.ntmps241
    go_wp2_with fail
    refine (alone_any _ _).mono ?_
    rintro e w2 ⟨rfl, hb2⟩
    obtain ⟨-, -, h3, hB⟩ := box2 hb2
    obtain ⟨s1, s2, s3, s4⟩ := facts2 h3
    go_wp2_with fail
    obtain ⟨c0, c1, hB2⟩ := stored2 h3 hB (by omega) 0 0
    exact bodyPost_ret (v := .agg #[.int .i64 0, .int .i64 0]) (by simp [results, Tryz.results241, go_sem, c0, c1]) rfl ⟨rfl, hB2⟩
  have e1 : decide (b < c) = false := by simp; omega
  by_cases h2 : d < a
  · rw [show eqZ a b c d = (0, 0) by simp [eqZ, h2]]
    go_enter Tryz.func241, Tryz.ntmps241
    go_wp2_with fail
    refine (alone_any _ _).mono ?_
    rintro e w2 ⟨rfl, hb2⟩
    obtain ⟨-, -, h3, hB⟩ := box2 hb2
    obtain ⟨s1, s2, s3, s4⟩ := facts2 h3
    go_wp2_with fail
    obtain ⟨c0, c1, hB2⟩ := stored2 h3 hB (by omega) 0 0
    exact bodyPost_ret (v := .agg #[.int .i64 0, .int .i64 0]) (by simp [results, Tryz.results241, go_sem, c0, c1]) rfl ⟨rfl, hB2⟩
  have hap : ¬ (b < c ∨ d < a) := by omega
  by_cases h3 : a = c
  · subst h3
    by_cases h5 : b = d
    · subst h5
      by_cases h4 : a = b
      · subst h4
        rw [show eqZ a a a a = (1, 1) by simp [eqZ]]
        go_enter Tryz.func241, Tryz.ntmps241
        go_wp2_with fail
        obtain ⟨k1, k2, k3, hB⟩ := box2 (w := w) (a := a) (b := a) (c := a) (d := a) (x := 0) (y := 0) (Below.refl _ _)
        obtain ⟨W, hW⟩ : ∃ W, ((w.alloc (.cells #[.int .i64 a, .int .i64 a] 74)).alloc (.cells #[.int .i64 a, .int .i64 a] 74)).alloc (.cells #[.int .i64 0, .int .i64 0] 74) = W := ⟨_, rfl⟩
        rw [hW] at k1 k2 k3 hB ⊢
        clear hW
        obtain ⟨q1, q2, -, -⟩ := facts2 k1
        obtain ⟨r1, r2, -, -⟩ := facts2 k2
        have m1 := cell_regrown q1
        have m2 := cell_regrown q2
        have m3 := cell_regrown r1
        have m4 := cell_regrown r2
        refine wp_region_quiet_below mixed (by kernel_rfl) ?_
        repeat (go_big_quiet_step ((go_at_call 190; exact Calls.regrown_of (alone_any _ _))))
        refine wpQuiet_nil ?_
        intro _ hw'
        obtain ⟨⟨dq, osq⟩, hw''⟩ := hw'
        subst hw''
        obtain ⟨-, -, k4, hB4⟩ := box_rg k1 k2 k3 hB dq osq
        clear k1 k2 k3 hB q1 q2 r1 r2 m1 m2 m3 m4
        simp only
        generalize grow (redrawn W dq) osq = G at *
        go_wp2_with fail
        refine (alone_any _ _).mono ?_
        rintro e w2 ⟨rfl, hb2⟩
        have h3 := k4.below hb2
        have hB := bel hB4 hb2
        obtain ⟨s1, s2, s3, s4⟩ := facts2 h3
        clear hb2 k4 hB4
        go_wp2_with fail
        obtain ⟨c0, c1, hB2⟩ := stored2 h3 hB (by omega) 1 1
        exact bodyPost_ret (v := .agg #[.int .i64 1, .int .i64 1]) (by simp [results, Tryz.results241, go_sem, c0, c1]) rfl ⟨rfl, hB2⟩
      · rw [show eqZ a b a b = (0, 1) by simp [eqZ, h4]; omega]
        have e4 : (b == a) = false := by simp; omega
        have e5 : (a == b) = false := by simp; omega
        clear h4
        go_enter Tryz.func241, Tryz.ntmps241
        go_wp2_with fail
        obtain ⟨k1, k2, k3, hB⟩ := box2 (w := w) (a := a) (b := b) (c := a) (d := b) (x := 0) (y := 0) (Below.refl _ _)
        obtain ⟨W, hW⟩ : ∃ W, ((w.alloc (.cells #[.int .i64 a, .int .i64 b] 74)).alloc (.cells #[.int .i64 a, .int .i64 b] 74)).alloc (.cells #[.int .i64 0, .int .i64 0] 74) = W := ⟨_, rfl⟩
        rw [hW] at k1 k2 k3 hB ⊢
        clear hW
        obtain ⟨q1, q2, -, -⟩ := facts2 k1
        obtain ⟨r1, r2, -, -⟩ := facts2 k2
        have m1 := cell_regrown q1
        have m2 := cell_regrown q2
        have m3 := cell_regrown r1
        have m4 := cell_regrown r2
        refine wp_region_quiet_below mixed (by kernel_rfl) ?_
        repeat (go_big_quiet_step ((go_at_call 190; exact Calls.regrown_of (alone_any _ _))))
        refine wpQuiet_nil ?_
        intro _ hw'
        obtain ⟨⟨dq, osq⟩, hw''⟩ := hw'
        subst hw''
        obtain ⟨-, -, k4, hB4⟩ := box_rg k1 k2 k3 hB dq osq
        clear k1 k2 k3 hB q1 q2 r1 r2 m1 m2 m3 m4
        simp only
        generalize grow (redrawn W dq) osq = G at *
        obtain ⟨s1, s2, s3, s4⟩ := facts2 k4
        go_wp2_with fail
        obtain ⟨c0, c1, hB2⟩ := stored2 k4 hB4 (by omega) 0 1
        exact bodyPost_ret (v := .agg #[.int .i64 0, .int .i64 1]) (by simp [results, Tryz.results241, go_sem, c0, c1]) rfl ⟨rfl, hB2⟩
    · rw [show eqZ a b a d = (0, 1) by simp [eqZ, h5]; omega]
      have e4 : (b == d) = false := by simp; omega
      clear h5
      go_enter Tryz.func241, Tryz.ntmps241
      go_wp2_with fail
      obtain ⟨k1, k2, k3, hB⟩ := box2 (w := w) (a := a) (b := b) (c := a) (d := d) (x := 0) (y := 0) (Below.refl _ _)
      obtain ⟨W, hW⟩ : ∃ W, ((w.alloc (.cells #[.int .i64 a, .int .i64 b] 74)).alloc (.cells #[.int .i64 a, .int .i64 d] 74)).alloc (.cells #[.int .i64 0, .int .i64 0] 74) = W := ⟨_, rfl⟩
      rw [hW] at k1 k2 k3 hB ⊢
      clear hW
      obtain ⟨q1, q2, -, -⟩ := facts2 k1
      obtain ⟨r1, r2, -, -⟩ := facts2 k2
      have m1 := cell_regrown q1
      have m2 := cell_regrown q2
      have m3 := cell_regrown r1
      have m4 := cell_regrown r2
      refine wp_region_quiet_below mixed (by kernel_rfl) ?_
      repeat (go_big_quiet_step ((go_at_call 190; exact Calls.regrown_of (alone_any _ _))))
      refine wpQuiet_nil ?_
      intro _ hw'
      obtain ⟨⟨dq, osq⟩, hw''⟩ := hw'
      subst hw''
      obtain ⟨-, -, k4, hB4⟩ := box_rg k1 k2 k3 hB dq osq
      clear k1 k2 k3 hB q1 q2 r1 r2 m1 m2 m3 m4
      simp only
      generalize grow (redrawn W dq) osq = G at *
      obtain ⟨s1, s2, s3, s4⟩ := facts2 k4
      go_wp2_with fail
      obtain ⟨c0, c1, hB2⟩ := stored2 k4 hB4 (by omega) 0 1
      exact bodyPost_ret (v := .agg #[.int .i64 0, .int .i64 1]) (by simp [results, Tryz.results241, go_sem, c0, c1]) rfl ⟨rfl, hB2⟩
  · rw [show eqZ a b c d = (0, 1) by simp [eqZ, h3]; omega]
    have e4 : (a == c) = false := by simp; omega
    clear h3
    go_enter Tryz.func241, Tryz.ntmps241
    go_wp2_with fail
    obtain ⟨k1, k2, k3, hB⟩ := box2 (w := w) (a := a) (b := b) (c := c) (d := d) (x := 0) (y := 0) (Below.refl _ _)
    obtain ⟨W, hW⟩ : ∃ W, ((w.alloc (.cells #[.int .i64 a, .int .i64 b] 74)).alloc (.cells #[.int .i64 c, .int .i64 d] 74)).alloc (.cells #[.int .i64 0, .int .i64 0] 74) = W := ⟨_, rfl⟩
    rw [hW] at k1 k2 k3 hB ⊢
    clear hW
    obtain ⟨q1, q2, -, -⟩ := facts2 k1
    obtain ⟨r1, r2, -, -⟩ := facts2 k2
    have m1 := cell_regrown q1
    have m2 := cell_regrown q2
    have m3 := cell_regrown r1
    have m4 := cell_regrown r2
    refine wp_region_quiet_below mixed (by kernel_rfl) ?_
    repeat (go_big_quiet_step ((go_at_call 190; exact Calls.regrown_of (alone_any _ _))))
    refine wpQuiet_nil ?_
    intro _ hw'
    obtain ⟨⟨dq, osq⟩, hw''⟩ := hw'
    subst hw''
    obtain ⟨-, -, k4, hB4⟩ := box_rg k1 k2 k3 hB dq osq
    clear k1 k2 k3 hB q1 q2 r1 r2 m1 m2 m3 m4
    simp only
    generalize grow (redrawn W dq) osq = G at *
    obtain ⟨s1, s2, s3, s4⟩ := facts2 k4
    go_wp2_with fail
    obtain ⟨c0, c1, hB2⟩ := stored2 k4 hB4 (by omega) 0 1
    exact bodyPost_ret (v := .agg #[.int .i64 0, .int .i64 1]) (by simp [results, Tryz.results241, go_sem, c0, c1]) rfl ⟨rfl, hB2⟩

end Go.Proofs.YtihbhbeaihdgnaaGreat.Spn

/-
  The small functions of package arith: what each answers, memory untouched.
-/
import Derived.Test.YtihbhbeaihdgnaaChecked
import Derived.WalkKit
import Derived.WalkSpells
import Derived.Deep.QuietTactic
import Derived.BigQuiet
import Derived.Below
namespace Go.Proofs.Ytihbhbeaihdgnaa.Spn
open Go.RowKit Go.IntWalk
set_option linter.unusedVariables false

theorem hide {p : Prop} (h : p) : Hid p := h
theorem bel {w w1 w2 : World} (h : Below w.heap.size w w1) (k : Below w1.heap.size w1 w2) : Below w.heap.size w w2 := h.trans (k.mono h.size)
theorem bel1 (w : World) (o : Obj) : Below w.heap.size w (w.alloc o) := (Below.refl _ _).alloc (Nat.le_refl _) _
theorem ret_int {k : IntKind} {a b : Int} (h : a = b) : Ending.returned (.int k a) = .returned (.int k b) := by rw [h]
theorem ret_bool {a b : Bool} (h : a = b) : Ending.returned (.bool a) = .returned (.bool b) := by rw [h]
theorem ret_two {a b c d : Int} (h : a = b) (h' : c = d) : Ending.returned (.tuple #[.int .i64 a, .int .i64 c]) = .returned (.tuple #[.int .i64 b, .int .i64 d]) := by rw [h, h']

/-- x lies from l to h. -/
def inB (x l h : Int) : Bool := decide (l ≤ x) && decide (x ≤ h)
theorem inB_t {x l h : Int} (h1 : l ≤ x) (h2 : x ≤ h) : inB x l h = true := by simp [inB, h1, h2]
theorem inB_f {x l h : Int} (h1 : x < l ∨ h < x) : inB x l h = false := by simp [inB]; omega
theorem inB_iff {x l h : Int} : inB x l h = true ↔ l ≤ x ∧ x ≤ h := by simp [inB]

theorem within_any (x l h : Int) (w : World) :
    Calls Try.prog 53 #[.int .i64 x, .int .i64 l, .int .i64 h] w fun e w' => e = .returned (.bool (inB x l h)) ∧ w' = w := by
  by_cases h1 : l ≤ x
  · go_enter Try.func53, Try.ntmps53
    go_wp2
    go_ret
    exact ⟨ret_bool (by simp [inB, h1]), rfl⟩
  · rw [inB_f (by omega)]
    go_enter Try.func53, Try.ntmps53
    go_wp2
    go_ret
    exact ⟨rfl, rfl⟩

/-- x has 32 bits. -/
def wd (x : Int) : Bool := inB x (-2147483648) 2147483647
theorem wd_iff {x : Int} : wd x = true ↔ -2147483648 ≤ x ∧ x ≤ 2147483647 := inB_iff

theorem word_any (x : Int) (w : World) :
    Calls Try.prog 52 #[.int .i64 x] w fun e w' => e = .returned (.bool (wd x)) ∧ w' = w := by
  go_enter Try.func52, Try.ntmps52
  go_wp2_with (go_at_call 53; refine (within_any _ _ _ _).mono ?_; rintro e w' ⟨rfl, rfl⟩)
  go_ret
  exact ⟨rfl, rfl⟩

def ar (op : Int) : Int := if op = 1 ∨ op = 2 ∨ op = 3 then 0 else if inB op 5 7 = true ∨ inB op 29 33 = true then 1 else if inB op 8 25 = true then 2 else if inB op 26 28 = true then 3 else -1

theorem arity_any (op : Int) (w : World) :
    Calls Try.prog 40 #[.int .i64 op] w fun e w' => e = .returned (.int .i64 (ar op)) ∧ w' = w := by
  by_cases h1 : op = 1 ∨ op = 2 ∨ op = 3
  · rcases h1 with rfl | rfl | rfl <;>
    · go_enter Try.func40, Try.ntmps40
      go_wp2
      go_ret
      exact ⟨rfl, rfl⟩
  · have e1 : (op == 1) = false := by simp; omega
    have e2 : (op == 2) = false := by simp; omega
    have e3 : (op == 3) = false := by simp; omega
    cases h2 : inB op 5 7
    · cases h3 : inB op 29 33
      · cases h4 : inB op 8 25
        · cases h5 : inB op 26 28
          · rw [show ar op = -1 by unfold ar; rw [if_neg h1]; simp [h2, h3, h4, h5]]
            clear h1
            go_enter Try.func40, Try.ntmps40
            go_wp2_with (go_at_call 53; refine (within_any _ _ _ _).mono ?_; rintro e w' ⟨rfl, rfl⟩)
            go_ret
            exact ⟨rfl, rfl⟩
          · rw [show ar op = 3 by unfold ar; rw [if_neg h1]; simp [h2, h3, h4, h5]]
            clear h1
            go_enter Try.func40, Try.ntmps40
            go_wp2_with (go_at_call 53; refine (within_any _ _ _ _).mono ?_; rintro e w' ⟨rfl, rfl⟩)
            go_ret
            exact ⟨rfl, rfl⟩
        · rw [show ar op = 2 by unfold ar; rw [if_neg h1]; simp [h2, h3, h4]]
          clear h1
          go_enter Try.func40, Try.ntmps40
          go_wp2_with (go_at_call 53; refine (within_any _ _ _ _).mono ?_; rintro e w' ⟨rfl, rfl⟩)
          go_ret
          exact ⟨rfl, rfl⟩
      · rw [show ar op = 1 by unfold ar; rw [if_neg h1]; simp [h2, h3]]
        clear h1
        go_enter Try.func40, Try.ntmps40
        go_wp2_with (go_at_call 53; refine (within_any _ _ _ _).mono ?_; rintro e w' ⟨rfl, rfl⟩)
        go_ret
        exact ⟨rfl, rfl⟩
    · rw [show ar op = 1 by unfold ar; rw [if_neg h1]; simp [h2]]
      clear h1
      go_enter Try.func40, Try.ntmps40
      go_wp2_with (go_at_call 53; refine (within_any _ _ _ _).mono ?_; rintro e w' ⟨rfl, rfl⟩)
      go_ret
      exact ⟨rfl, rfl⟩

def cons (op k s : Int) : Bool :=
  if op = 29 ∨ op = 30 then inB k 0 31 else if op = 31 then inB k 0 2147483647 else if op = 32 then wd k else if op = 33 then inB k 1 4611686018427387904 && inB s 0 62 else true

theorem constants_any (op k s : Int) (w : World) :
    Calls Try.prog 54 #[.int .i64 op, .int .i64 k, .int .i64 s] w fun e w' => e = .returned (.bool (cons op k s)) ∧ w' = w := by
  by_cases h1 : op = 29 ∨ op = 30 ∨ op = 31 ∨ op = 32
  · rcases h1 with rfl | rfl | rfl | rfl <;>
    · go_enter Try.func54, Try.ntmps54
      go_wp2_with (first | (go_at_call 53; refine (within_any _ _ _ _).mono ?_; rintro e w' ⟨rfl, rfl⟩) | (go_at_call 52; refine (word_any _ _).mono ?_; rintro e w' ⟨rfl, rfl⟩))
      go_ret
      exact ⟨rfl, rfl⟩
  · by_cases h2 : op = 33
    · subst h2
      cases h3 : inB k 1 4611686018427387904
      · go_enter Try.func54, Try.ntmps54
        go_wp2_with (go_at_call 53; refine (within_any _ _ _ _).mono ?_; rintro e w' ⟨rfl, rfl⟩)
        go_ret
        exact ⟨ret_bool (by simp [cons, h3]), rfl⟩
      · go_enter Try.func54, Try.ntmps54
        go_wp2_with (go_at_call 53; refine (within_any _ _ _ _).mono ?_; rintro e w' ⟨rfl, rfl⟩)
        go_ret
        exact ⟨ret_bool (by simp [cons, h3]), rfl⟩
    · have e1 : (op == 29) = false := by simp; omega
      have e2 : (op == 30) = false := by simp; omega
      have e3 : (op == 31) = false := by simp; omega
      have e4 : (op == 32) = false := by simp; omega
      have e5 : (op == 33) = false := by simp; omega
      have hc : cons op k s = true := by unfold cons; rw [if_neg (by omega), if_neg (by omega), if_neg (by omega), if_neg (by omega)]
      rw [hc]
      clear h1 h2 hc
      go_enter Try.func54, Try.ntmps54
      go_wp2
      go_ret
      exact ⟨rfl, rfl⟩

def tr (b : Bool) : Int := if b then 1 else 0

theorem truth_any (b : Bool) (w : World) :
    Calls Try.prog 90 #[.bool b] w fun e w' => e = .returned (.int .i64 (tr b)) ∧ w' = w := by
  cases b <;>
  · go_enter Try.func90, Try.ntmps90
    go_wp2
    go_ret
    exact ⟨rfl, rfl⟩

end Go.Proofs.Ytihbhbeaihdgnaa.Spn

/-
  What each operator of arith answers: the whole number, also one of more than 32 bits, and the error; memory stays.
-/
namespace Go.Proofs.Ytihbhbeaihdgnaa.Spn
open Go.RowKit Go.IntWalk
set_option linter.unusedVariables false

theorem pow_bd (n m : Nat) (h : n ≤ m) : (1 : Int) ≤ 2 ^ n ∧ (2 : Int) ^ n ≤ 2 ^ m := by
  have h2 : 2 ^ n ≤ 2 ^ m := Nat.pow_le_pow_right (by decide) h
  have h3 : 0 < 2 ^ n := Nat.pow_pos (by decide)
  have e : ((2 : Int) ^ n) = ((2 ^ n : Nat) : Int) := by simp
  have e' : ((2 : Int) ^ m) = ((2 ^ m : Nat) : Int) := by simp
  rw [e, e']
  omega

theorem mul_bd {a b : Int} {A B : Int} (ha : -A ≤ a ∧ a ≤ A) (hb : -B ≤ b ∧ b ≤ B) : -(A * B) ≤ a * b ∧ a * b ≤ A * B := by
  have h1 : 0 ≤ (A - a) * (B + b) := Int.mul_nonneg (by omega) (by omega)
  have h2 : 0 ≤ (A + a) * (B - b) := Int.mul_nonneg (by omega) (by omega)
  have h3 : 0 ≤ (A - a) * (B - b) := Int.mul_nonneg (by omega) (by omega)
  have h4 : 0 ≤ (A + a) * (B + b) := Int.mul_nonneg (by omega) (by omega)
  simp only [Int.sub_mul, Int.add_mul, Int.mul_sub, Int.mul_add] at h1 h2 h3 h4
  omega

theorem mul_wd {a b : Int} (ha : -2147483648 ≤ a ∧ a ≤ 2147483647) (hb : -2147483648 ≤ b ∧ b ≤ 2147483648) : -4611686018427387904 ≤ a * b ∧ a * b ≤ 4611686018427387904 := by
  have := mul_bd (A := 2147483648) (B := 2147483648) (a := a) (b := b) (by omega) (by omega)
  omega

theorem tdiv_bd (a b : Int) (ha : -2147483648 ≤ a ∧ a ≤ 2147483647) : -2147483648 ≤ a.tdiv b ∧ a.tdiv b ≤ 2147483648 := by
  have h := Int.natAbs_tdiv_le_natAbs a b
  omega

theorem bdrew {B : Nat} {a w : World} (h : Below B a w) (n : Nat) : Below B a (w.drewN n) := h.trans ⟨rfl, rfl, rfl, Nat.le_refl _, fun _ _ => rfl⟩

theorem w64 {x : Int} (h : -9223372036854775808 ≤ x ∧ x ≤ 9223372036854775807) : wrap64 x = x := wrap64_in _ h

/-- The exact answer of an operator, and its error. -/
def ex (op k s a b c : Int) : Int × Int :=
  if op = 5 then (-a, 0) else
  if op = 6 then (max a (-a), 0) else
  if op = 7 then (tr (decide (0 < a)) - tr (decide (a < 0)), 0) else
  if op = 8 then (a + b, 0) else
  if op = 9 then (a - b, 0) else
  if op = 10 then (a * b, 0) else
  if op = 11 then (if b = 0 then (0, 12) else (a.tdiv b, 0)) else
  if op = 12 then (if b = 0 then (0, 12) else (a.tmod b, 0)) else
  if op = 13 then (if inB b 0 31 = true then (a * 2 ^ b.toNat, 0) else (0, 13)) else
  if op = 14 then (if inB b 0 31 = true then (a / 2 ^ b.toNat, 0) else (0, 13)) else
  if op = 15 then (bits .and .i64 a b, 0) else
  if op = 16 then (bits .or .i64 a b, 0) else
  if op = 17 then (bits .xor .i64 a b, 0) else
  if op = 18 then (tr (decide (a < b)), 0) else
  if op = 19 then (tr (decide (a ≤ b)), 0) else
  if op = 20 then (tr (decide (b < a)), 0) else
  if op = 21 then (tr (decide (b ≤ a)), 0) else
  if op = 22 then (tr (a == b), 0) else
  if op = 23 then (tr (a != b), 0) else
  if op = 24 then (min a b, 0) else
  if op = 25 then (max a b, 0) else
  if op = 26 then (min c (max a b), 0) else
  if op = 27 then (max (min a b) (min (max a b) c), 0) else
  if op = 28 then (if a = 0 then c else b, 0) else
  if op = 29 then (a * 2 ^ k.toNat, 0) else
  if op = 30 then (a / 2 ^ k.toNat, 0) else
  if op = 31 then (bits .and .i64 a k, 0) else
  if op = 32 then (a * k, 0) else
  if 4611686018427387904 < max a (-a) * k then (0, 13) else (a * k / 2 ^ s.toNat, 0)

theorem size_any (a : Int) (w : World) (ha : -2147483648 ≤ a ∧ a ≤ 2147483647) :
    Calls Try.prog 76 #[.int .i64 a] w fun e w' => e = .returned (.int .i64 (max a (-a))) ∧ w' = w := by
  go_enter Try.func76, Try.ntmps76
  go_wp2
  all_goals go_ret
  all_goals exact ⟨ret_int (by omega), rfl⟩

theorem compare_any (a b : Int) (w : World) :
    Calls Try.prog 77 #[.int .i64 a, .int .i64 b] w fun e w' => e = .returned (.int .i64 (tr (decide (b < a)) - tr (decide (a < b)))) ∧ w' = w := by
  go_enter Try.func77, Try.ntmps77
  go_wp2
  all_goals go_ret
  all_goals refine ⟨ret_int ?_, rfl⟩
  all_goals simp [tr]
  all_goals omega

theorem divided_any (op a b : Int) (w : World) (ho : op = 11 ∨ op = 12) (ha : -2147483648 ≤ a ∧ a ≤ 2147483647) :
    Calls Try.prog 79 #[.int .i64 op, .int .i64 a, .int .i64 b] w fun e w' => e = .returned (.tuple #[.int .i64 (ex op 0 0 a b 0).1, .int .i64 (ex op 0 0 a b 0).2]) ∧ w' = w := by
  by_cases h0 : b = 0
  · subst h0
    rcases ho with rfl | rfl <;>
    · go_enter Try.func79, Try.ntmps79
      go_wp2
      go_ret2
      exact ⟨rfl, rfl⟩
  · have h1 : (b == 0) = false := by simp [h0]
    rcases ho with rfl | rfl
    · have h2 : ex 11 0 0 a b 0 = (a.tdiv b, 0) := by simp [ex, h0]
      rw [h2]
      clear h2
      go_enter Try.func79, Try.ntmps79
      go_wp2
      go_ret2
      have := tdiv_bd a b ha
      refine ⟨ret_two (w64 ?_) rfl, rfl⟩; omega
    · have h2 : ex 12 0 0 a b 0 = (a.tmod b, 0) := by simp [ex, h0]
      rw [h2]
      clear h2
      go_enter Try.func79, Try.ntmps79
      go_wp2
      go_ret2
      exact ⟨rfl, rfl⟩

theorem moved_any (op a b : Int) (w : World) (ho : op = 13 ∨ op = 14) (ha : -2147483648 ≤ a ∧ a ≤ 2147483647) :
    Calls Try.prog 80 #[.int .i64 op, .int .i64 a, .int .i64 b] w fun e w' => e = .returned (.tuple #[.int .i64 (ex op 0 0 a b 0).1, .int .i64 (ex op 0 0 a b 0).2]) ∧ w' = w := by
  cases h0 : inB b 0 31
  · have e1 : ex 13 0 0 a b 0 = (0, 13) := by simp [ex, h0]
    have e2 : ex 14 0 0 a b 0 = (0, 13) := by simp [ex, h0]
    rcases ho with rfl | rfl
    · rw [e1]
      clear e1 e2
      go_enter Try.func80, Try.ntmps80
      go_wp2_with (go_at_call 53; refine (within_any _ _ _ _).mono ?_; rintro e w' ⟨rfl, rfl⟩)
      go_ret2
      exact ⟨rfl, rfl⟩
    · rw [e2]
      clear e1 e2
      go_enter Try.func80, Try.ntmps80
      go_wp2_with (go_at_call 53; refine (within_any _ _ _ _).mono ?_; rintro e w' ⟨rfl, rfl⟩)
      go_ret2
      exact ⟨rfl, rfl⟩
  · have e1 : ex 13 0 0 a b 0 = (a * 2 ^ b.toNat, 0) := by simp [ex, h0]
    have e2 : ex 14 0 0 a b 0 = (a / 2 ^ b.toNat, 0) := by simp [ex, h0]
    obtain ⟨hb0, hb1⟩ := inB_iff.1 h0
    rcases ho with rfl | rfl
    · rw [e1]
      clear e1 e2
      go_enter Try.func80, Try.ntmps80
      go_wp2_with (go_at_call 53; refine (within_any _ _ _ _).mono ?_; rintro e w' ⟨rfl, rfl⟩)
      go_ret2
      have h1 := pow_bd b.toNat 31 (by omega)
      have h2 := mul_wd (b := 2 ^ b.toNat) ha (by omega)
      refine ⟨ret_two (w64 ?_) rfl, rfl⟩; omega
    · rw [e2]
      clear e1 e2
      go_enter Try.func80, Try.ntmps80
      go_wp2_with (go_at_call 53; refine (within_any _ _ _ _).mono ?_; rintro e w' ⟨rfl, rfl⟩)
      go_ret2
      exact ⟨rfl, rfl⟩

theorem compared_any (op a b : Int) (w : World) (ho : inB op 18 23 = true) :
    Calls Try.prog 81 #[.int .i64 op, .int .i64 a, .int .i64 b] w fun e w' => e = .returned (.int .i64 (ex op 0 0 a b 0).1) ∧ w' = w := by
  have h := inB_iff.1 ho
  clear ho
  rcases (show op = 18 ∨ op = 19 ∨ op = 20 ∨ op = 21 ∨ op = 22 ∨ op = 23 by omega) with rfl | rfl | rfl | rfl | rfl | rfl <;>
  · go_enter Try.func81, Try.ntmps81
    go_wp2_with (go_at_call 90; refine (truth_any _ _).mono ?_; rintro e w' ⟨rfl, rfl⟩)
    go_ret
    exact ⟨rfl, rfl⟩

theorem ofThree_any (op k s a b c : Int) (w : World) (ho : inB op 26 28 = true) :
    Calls Try.prog 66 #[.int .i64 op, .int .i64 a, .int .i64 b, .int .i64 c] w fun e w' => e = .returned (.int .i64 (ex op k s a b c).1) ∧ w' = w := by
  have h := inB_iff.1 ho
  clear ho
  rcases (show op = 26 ∨ op = 27 ∨ op = 28 by omega) with rfl | rfl | rfl
  · clear h
    rw [show ex 26 k s a b c = (min c (max a b), 0) from rfl]
    go_enter Try.func66, Try.ntmps66
    go_wp2
    all_goals go_ret
    all_goals exact ⟨ret_int (by omega), rfl⟩
  · clear h
    rw [show ex 27 k s a b c = (max (min a b) (min (max a b) c), 0) from rfl]
    go_enter Try.func66, Try.ntmps66
    go_wp2
    all_goals go_ret
    all_goals exact ⟨ret_int (by omega), rfl⟩
  · clear h
    by_cases h0 : a = 0
    · subst h0
      go_enter Try.func66, Try.ntmps66
      go_wp2
      go_ret
      exact ⟨rfl, rfl⟩
    · have h1 : (a != 0) = true := by simp [h0]
      rw [show ex 28 k s a b c = (b, 0) by simp [ex, h0]]
      go_enter Try.func66, Try.ntmps66
      go_wp2
      go_ret
      exact ⟨rfl, rfl⟩

theorem ex_two (op k s a b c : Int) (ho : inB op 8 25 = true) : ex op k s a b c = ex op 0 0 a b 0 := by
  have h := inB_iff.1 ho
  rcases (show op = 8 ∨ op = 9 ∨ op = 10 ∨ op = 11 ∨ op = 12 ∨ op = 13 ∨ op = 14 ∨ op = 15 ∨ op = 16 ∨ op = 17 ∨ op = 18 ∨ op = 19 ∨ op = 20 ∨ op = 21 ∨ op = 22 ∨ op = 23 ∨ op = 24 ∨ op = 25 by omega) with
    rfl | rfl | rfl | rfl | rfl | rfl | rfl | rfl | rfl | rfl | rfl | rfl | rfl | rfl | rfl | rfl | rfl | rfl <;> rfl

theorem ofTwo_any (op a b : Int) (w : World) (ho : inB op 8 25 = true) (ha : -2147483648 ≤ a ∧ a ≤ 2147483647) (hb : -2147483648 ≤ b ∧ b ≤ 2147483647) :
    Calls Try.prog 65 #[.int .i64 op, .int .i64 a, .int .i64 b] w fun e w' => e = .returned (.tuple #[.int .i64 (ex op 0 0 a b 0).1, .int .i64 (ex op 0 0 a b 0).2]) ∧ w' = w := by
  have h := inB_iff.1 ho
  clear ho
  have hm := mul_wd (b := b) ha (by omega)
  rcases (show op = 8 ∨ op = 9 ∨ op = 10 ∨ op = 15 ∨ op = 16 ∨ op = 17 ∨ (op = 11 ∨ op = 12) ∨ (op = 13 ∨ op = 14) ∨ (op = 18 ∨ op = 19 ∨ op = 20 ∨ op = 21 ∨ op = 22 ∨ op = 23) ∨ op = 24 ∨ op = 25 by omega) with
    rfl | rfl | rfl | rfl | rfl | rfl | h1 | h1 | h1 | rfl | rfl
  · clear h
    go_enter Try.func65, Try.ntmps65
    go_wp2
    go_ret2
    exact ⟨rfl, rfl⟩
  · clear h
    go_enter Try.func65, Try.ntmps65
    go_wp2
    go_ret2
    exact ⟨rfl, rfl⟩
  · clear h
    go_enter Try.func65, Try.ntmps65
    go_wp2
    go_ret2
    exact ⟨rfl, rfl⟩
  · clear h
    go_enter Try.func65, Try.ntmps65
    go_wp2
    go_ret2
    exact ⟨rfl, rfl⟩
  · clear h
    go_enter Try.func65, Try.ntmps65
    go_wp2
    go_ret2
    exact ⟨rfl, rfl⟩
  · clear h
    go_enter Try.func65, Try.ntmps65
    go_wp2
    go_ret2
    exact ⟨rfl, rfl⟩
  · have hc := fun w => divided_any op a b w h1 ha
    rcases h1 with rfl | rfl <;>
    · clear h
      go_enter Try.func65, Try.ntmps65
      go_wp2_with (go_at_call 79; refine (hc _).mono ?_; rintro e w' ⟨rfl, rfl⟩)
      go_ret2
      exact ⟨rfl, rfl⟩
  · have hc := fun w => moved_any op a b w h1 ha
    rcases h1 with rfl | rfl <;>
    · clear h
      go_enter Try.func65, Try.ntmps65
      go_wp2_with (go_at_call 80; refine (hc _).mono ?_; rintro e w' ⟨rfl, rfl⟩)
      go_ret2
      exact ⟨rfl, rfl⟩
  · have hc := fun w => compared_any op a b w (inB_t (by omega) (by omega))
    rcases h1 with rfl | rfl | rfl | rfl | rfl | rfl <;>
    · clear h
      go_enter Try.func65, Try.ntmps65
      go_wp2_with (go_at_call 81; refine (hc _).mono ?_; rintro e w' ⟨rfl, rfl⟩)
      go_ret2
      exact ⟨rfl, rfl⟩
  · clear h
    rw [show ex 24 0 0 a b 0 = (min a b, 0) from rfl]
    go_enter Try.func65, Try.ntmps65
    go_wp2
    all_goals go_ret2
    all_goals exact ⟨ret_two (by omega) rfl, rfl⟩
  · clear h
    rw [show ex 25 0 0 a b 0 = (max a b, 0) from rfl]
    go_enter Try.func65, Try.ntmps65
    go_wp2
    all_goals go_ret2
    all_goals exact ⟨ret_two (by omega) rfl, rfl⟩

theorem div_test {m k : Int} (hk : 1 ≤ k) : 4611686018427387904 / k < m ↔ 4611686018427387904 < m * k := by
  constructor
  · intro h
    have h1 := Int.lt_mul_of_ediv_lt (show 0 < k by omega) h
    exact h1
  · intro h
    exact Int.ediv_lt_of_lt_mul (by omega) h

theorem scaled_any (k s a b c : Int) (w : World) (hk : 1 ≤ k ∧ k ≤ 4611686018427387904) (hs : 0 ≤ s ∧ s ≤ 62) (ha : -2147483648 ≤ a ∧ a ≤ 2147483647) :
    Calls Try.prog 78 #[.int .i64 a, .int .i64 k, .int .i64 s] w fun e w' => e = .returned (.tuple #[.int .i64 (ex 33 k s a b c).1, .int .i64 (ex 33 k s a b c).2]) ∧ Below w.heap.size w w' := by
  have hk0 : k ≠ 0 := by omega
  have hsz := fun w => size_any a w ha
  by_cases h0 : 4611686018427387904 < max a (-a) * k
  · rw [show ex 33 k s a b c = (0, 13) by simp [ex, h0]]
    have h1 := (div_test (m := max a (-a)) hk.1).2 h0
    clear h0
    generalize hM : max a (-a) = M at *
    clear hM
    go_enter Try.func78, Try.ntmps78
    go_wp2
    go_quiet ((go_at_call 76; exact Calls.quiet_of_same (hsz _)))
    go_wp2
    go_ret2
    exact ⟨rfl, bdrew (Below.refl _ _) _⟩
  · rw [show ex 33 k s a b c = (a * k / 2 ^ s.toNat, 0) by simp [ex, h0]]
    have h1 : ¬ 4611686018427387904 / k < max a (-a) := fun h => h0 ((div_test hk.1).1 h)
    have h2 : -4611686018427387904 ≤ a * k ∧ a * k ≤ 4611686018427387904 := by
      rcases Int.le_total 0 a with h | h
      · rw [show max a (-a) = a by omega] at h0
        have : 0 ≤ a * k := Int.mul_nonneg h (by omega)
        omega
      · rw [show max a (-a) = -a by omega, Int.neg_mul] at h0
        have : 0 ≤ -a * k := Int.mul_nonneg (by omega) (by omega)
        rw [Int.neg_mul] at this
        omega
    clear h0
    generalize hM : max a (-a) = M at *
    clear hM
    go_enter Try.func78, Try.ntmps78
    go_wp2
    go_quiet ((go_at_call 76; exact Calls.quiet_of_same (hsz _)))
    go_wp2
    go_ret2
    exact ⟨rfl, bdrew (Below.refl _ _) _⟩

end Go.Proofs.Ytihbhbeaihdgnaa.Spn

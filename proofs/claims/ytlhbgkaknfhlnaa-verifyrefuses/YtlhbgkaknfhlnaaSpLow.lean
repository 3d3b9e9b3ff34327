/-
  The small functions of package arith: what each answers, memory untouched.
-/
import Derived.Test.YtlhbgkaknfhlnaaChecked
import Derived.WalkKit
import Derived.WalkSpells
namespace Go.Proofs.Ytlhbgkaknfhlnaa.Spn
open Go.RowKit Go.IntWalk
set_option linter.unusedVariables false

theorem hide {p : Prop} (h : p) : Hid p := h
theorem bel {w w1 w2 : World} (h : Below w.heap.size w w1) (k : Below w1.heap.size w1 w2) : Below w.heap.size w w2 := h.trans (k.mono h.size)
theorem bel1 (w : World) (o : Obj) : Below w.heap.size w (w.alloc o) := (Below.refl _ _).alloc (Nat.le_refl _) _
theorem ret_int {k : IntKind} {a b : Int} (h : a = b) : Ending.returned (.int k a) = .returned (.int k b) := by rw [h]
theorem ret_bool {a b : Bool} (h : a = b) : Ending.returned (.bool a) = .returned (.bool b) := by rw [h]
theorem ret_two {a b c d : Int} (h : a = b) (h' : c = d) : Ending.returned (.tuple #[.int .i64 a, .int .i64 c]) = .returned (.tuple #[.int .i64 b, .int .i64 d]) := by rw [h, h']

/-- x lies from l to h. -/
def inB (x l h : Int) : Bool := decide (l ≤ x) && decide (x ≤ h)
theorem inB_t {x l h : Int} (h1 : l ≤ x) (h2 : x ≤ h) : inB x l h = true := by simp [inB, h1, h2]
theorem inB_f {x l h : Int} (h1 : x < l ∨ h < x) : inB x l h = false := by simp [inB]; omega
theorem inB_iff {x l h : Int} : inB x l h = true ↔ l ≤ x ∧ x ≤ h := by simp [inB]

theorem within_any (x l h : Int) (w : World) :
    Calls Try.prog 21 #[.int .i64 x, .int .i64 l, .int .i64 h] w fun e w' => e = .returned (.bool (inB x l h)) ∧ w' = w := by
  by_cases h1 : l ≤ x
  · go_enter Try.func21, Try.ntmps21
    go_wp2
    go_ret
    exact ⟨ret_bool (by simp [inB, h1]), rfl⟩
  · rw [inB_f (by omega)]
    go_enter Try.func21, Try.ntmps21
    go_wp2
    go_ret
    exact ⟨rfl, rfl⟩

/-- x has 32 bits. -/
def wd (x : Int) : Bool := inB x (-2147483648) 2147483647
theorem wd_iff {x : Int} : wd x = true ↔ -2147483648 ≤ x ∧ x ≤ 2147483647 := inB_iff

theorem word_any (x : Int) (w : World) :
    Calls Try.prog 10 #[.int .i64 x] w fun e w' => e = .returned (.bool (wd x)) ∧ w' = w := by
  go_enter Try.func10, Try.ntmps10
  go_wp2_with (go_at_call 21; refine (within_any _ _ _ _).mono ?_; rintro e w' ⟨rfl, rfl⟩)
  go_ret
  exact ⟨rfl, rfl⟩

def ar (op : Int) : Int := if op = 1 ∨ op = 2 ∨ op = 3 then 0 else if inB op 5 7 = true ∨ inB op 29 33 = true then 1 else if inB op 8 25 = true then 2 else if inB op 26 28 = true then 3 else -1

theorem arity_any (op : Int) (w : World) :
    Calls Try.prog 26 #[.int .i64 op] w fun e w' => e = .returned (.int .i64 (ar op)) ∧ w' = w := by
  by_cases h1 : op = 1 ∨ op = 2 ∨ op = 3
  · rcases h1 with rfl | rfl | rfl <;>
    · go_enter Try.func26, Try.ntmps26
      go_wp2
      go_ret
      exact ⟨rfl, rfl⟩
  · have e1 : (op == 1) = false := by simp; omega
    have e2 : (op == 2) = false := by simp; omega
    have e3 : (op == 3) = false := by simp; omega
    cases h2 : inB op 5 7
    · cases h3 : inB op 29 33
      · cases h4 : inB op 8 25
        · cases h5 : inB op 26 28
          · rw [show ar op = -1 by unfold ar; rw [if_neg h1]; simp [h2, h3, h4, h5]]
            clear h1
            go_enter Try.func26, Try.ntmps26
            go_wp2_with (go_at_call 21; refine (within_any _ _ _ _).mono ?_; rintro e w' ⟨rfl, rfl⟩)
            go_ret
            exact ⟨rfl, rfl⟩
          · rw [show ar op = 3 by unfold ar; rw [if_neg h1]; simp [h2, h3, h4, h5]]
            clear h1
            go_enter Try.func26, Try.ntmps26
            go_wp2_with (go_at_call 21; refine (within_any _ _ _ _).mono ?_; rintro e w' ⟨rfl, rfl⟩)
            go_ret
            exact ⟨rfl, rfl⟩
        · rw [show ar op = 2 by unfold ar; rw [if_neg h1]; simp [h2, h3, h4]]
          clear h1
          go_enter Try.func26, Try.ntmps26
          go_wp2_with (go_at_call 21; refine (within_any _ _ _ _).mono ?_; rintro e w' ⟨rfl, rfl⟩)
          go_ret
          exact ⟨rfl, rfl⟩
      · rw [show ar op = 1 by unfold ar; rw [if_neg h1]; simp [h2, h3]]
        clear h1
        go_enter Try.func26, Try.ntmps26
        go_wp2_with (go_at_call 21; refine (within_any _ _ _ _).mono ?_; rintro e w' ⟨rfl, rfl⟩)
        go_ret
        exact ⟨rfl, rfl⟩
    · rw [show ar op = 1 by unfold ar; rw [if_neg h1]; simp [h2]]
      clear h1
      go_enter Try.func26, Try.ntmps26
      go_wp2_with (go_at_call 21; refine (within_any _ _ _ _).mono ?_; rintro e w' ⟨rfl, rfl⟩)
      go_ret
      exact ⟨rfl, rfl⟩

def cons (op k s : Int) : Bool :=
  if op = 29 ∨ op = 30 then inB k 0 31 else if op = 31 then inB k 0 2147483647 else if op = 32 then wd k else if op = 33 then inB k 1 4611686018427387904 && inB s 0 62 else true

theorem constants_any (op k s : Int) (w : World) :
    Calls Try.prog 35 #[.int .i64 op, .int .i64 k, .int .i64 s] w fun e w' => e = .returned (.bool (cons op k s)) ∧ w' = w := by
  by_cases h1 : op = 29 ∨ op = 30 ∨ op = 31 ∨ op = 32
  · rcases h1 with rfl | rfl | rfl | rfl <;>
    · go_enter Try.func35, Try.ntmps35
      go_wp2_with (first | (go_at_call 21; refine (within_any _ _ _ _).mono ?_; rintro e w' ⟨rfl, rfl⟩) | (go_at_call 10; refine (word_any _ _).mono ?_; rintro e w' ⟨rfl, rfl⟩))
      go_ret
      exact ⟨rfl, rfl⟩
  · by_cases h2 : op = 33
    · subst h2
      cases h3 : inB k 1 4611686018427387904
      · go_enter Try.func35, Try.ntmps35
        go_wp2_with (go_at_call 21; refine (within_any _ _ _ _).mono ?_; rintro e w' ⟨rfl, rfl⟩)
        go_ret
        exact ⟨ret_bool (by simp [cons, h3]), rfl⟩
      · go_enter Try.func35, Try.ntmps35
        go_wp2_with (go_at_call 21; refine (within_any _ _ _ _).mono ?_; rintro e w' ⟨rfl, rfl⟩)
        go_ret
        exact ⟨ret_bool (by simp [cons, h3]), rfl⟩
    · have e1 : (op == 29) = false := by simp; omega
      have e2 : (op == 30) = false := by simp; omega
      have e3 : (op == 31) = false := by simp; omega
      have e4 : (op == 32) = false := by simp; omega
      have e5 : (op == 33) = false := by simp; omega
      have hc : cons op k s = true := by unfold cons; rw [if_neg (by omega), if_neg (by omega), if_neg (by omega), if_neg (by omega)]
      rw [hc]
      clear h1 h2 hc
      go_enter Try.func35, Try.ntmps35
      go_wp2
      go_ret
      exact ⟨rfl, rfl⟩

def tr (b : Bool) : Int := if b then 1 else 0

theorem truth_any (b : Bool) (w : World) :
    Calls Try.prog 68 #[.bool b] w fun e w' => e = .returned (.int .i64 (tr b)) ∧ w' = w := by
  cases b <;>
  · go_enter Try.func68, Try.ntmps68
    go_wp2
    go_ret
    exact ⟨rfl, rfl⟩

end Go.Proofs.Ytlhbgkaknfhlnaa.Spn

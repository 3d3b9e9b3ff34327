/-
  The laws of the bitwise operators on numbers of 32 bits.
-/
import Derived.Test.YtlhbgkaknfhlnaaSpBitsP
namespace Go.Proofs.Ytlhbgkaknfhlnaa.Spn
open Go.RowKit Go.IntWalk
set_option linter.unusedVariables false

theorem bw_induct (P : Int → Int → Prop) (h0 : P 0 0) (h1 : P 0 (-1)) (h2 : P (-1) 0) (h3 : P (-1) (-1))
    (hs : ∀ a b : Int, (-9223372036854775808 ≤ a ∧ a ≤ 9223372036854775807) → (-9223372036854775808 ≤ b ∧ b ≤ 9223372036854775807) → P (a / 2) (b / 2) → P a b) :
    ∀ n : Nat, n ≤ 63 → ∀ a b : Int, (-(2 ^ n : Nat) ≤ a ∧ a < (2 ^ n : Nat)) → (-(2 ^ n : Nat) ≤ b ∧ b < (2 ^ n : Nat)) → P a b := by
  intro n
  induction n with
  | zero =>
    intro _ a b ha hb
    have ha' : a = 0 ∨ a = -1 := by simp at ha; omega
    have hb' : b = 0 ∨ b = -1 := by simp at hb; omega
    rcases ha' with rfl | rfl <;> rcases hb' with rfl | rfl <;> assumption
  | succ n ih =>
    intro hn a b ha hb
    have hp : 2 ^ (n + 1) ≤ 2 ^ 63 := Nat.pow_le_pow_right (by decide) hn
    rw [Nat.pow_succ] at ha hb hp
    exact hs a b (by omega) (by omega) (ih (by omega) _ _ (by omega) (by omega))

theorem bw_32 (P : Int → Int → Prop) (h0 : P 0 0) (h1 : P 0 (-1)) (h2 : P (-1) 0) (h3 : P (-1) (-1))
    (hs : ∀ a b : Int, (-9223372036854775808 ≤ a ∧ a ≤ 9223372036854775807) → (-9223372036854775808 ≤ b ∧ b ≤ 9223372036854775807) → P (a / 2) (b / 2) → P a b)
    {a b : Int} (ha : -2147483648 ≤ a ∧ a ≤ 2147483647) (hb : -2147483648 ≤ b ∧ b ≤ 2147483647) : P a b :=
  bw_induct P h0 h1 h2 h3 hs 31 (by decide) a b (by omega) (by omega)

theorem bw_sum {a b : Int} (ha : -2147483648 ≤ a ∧ a ≤ 2147483647) (hb : -2147483648 ≤ b ∧ b ≤ 2147483647) : bw .and a b + bw .or a b = a + b := by
  refine bw_32 (fun a b => bw .and a b + bw .or a b = a + b) (by decide) (by decide) (by decide) (by decide) ?_ ha hb
  intro a b ha hb h
  show bw .and a b + bw .or a b = a + b
  rw [bw_step .and a b ha hb, bw_step .or a b ha hb]
  simp only [Bop.dig]
  generalize a % 2 * (b % 2) = m
  omega

theorem bw_diff {a b : Int} (ha : -2147483648 ≤ a ∧ a ≤ 2147483647) (hb : -2147483648 ≤ b ∧ b ≤ 2147483647) : bw .or a b - bw .and a b = bw .xor a b := by
  refine bw_32 (fun a b => bw .or a b - bw .and a b = bw .xor a b) (by decide) (by decide) (by decide) (by decide) ?_ ha hb
  intro a b ha hb h
  show bw .or a b - bw .and a b = bw .xor a b
  rw [bw_step .and a b ha hb, bw_step .or a b ha hb, bw_step .xor a b ha hb]
  simp only [Bop.dig]
  rcases two_dig a with e | e <;> rcases two_dig b with f | f <;> rw [e, f] <;> omega

/-- Each digit's answer is a digit. -/
theorem dig_01 (o : Bop) (a b : Int) : 0 ≤ o.dig (a % 2) (b % 2) ∧ o.dig (a % 2) (b % 2) ≤ 1 := by
  rcases o with _ | _ | _ <;> simp only [Bop.dig] <;> rcases two_dig a with e | e <;> rcases two_dig b with f | f <;> rw [e, f] <;> decide

theorem bw_range (o : Bop) (n : Nat) (hn : n ≤ 63) (a b : Int) (ha : -(2 ^ n : Nat) ≤ a ∧ a < (2 ^ n : Nat)) (hb : -(2 ^ n : Nat) ≤ b ∧ b < (2 ^ n : Nat)) : -((2 ^ n : Nat) : Int) ≤ bw o a b ∧ bw o a b < (2 ^ n : Nat) := by
  induction n generalizing a b with
  | zero =>
    have ha' : a = 0 ∨ a = -1 := by simp at ha; omega
    have hb' : b = 0 ∨ b = -1 := by simp at hb; omega
    rcases ha' with rfl | rfl <;> rcases hb' with rfl | rfl <;> rcases o with _ | _ | _ <;> decide
  | succ n ih =>
    have hp : 2 ^ (n + 1) ≤ 2 ^ 63 := Nat.pow_le_pow_right (by decide) hn
    rw [Nat.pow_succ] at ha hb hp ⊢
    have h := ih (by omega) (a / 2) (b / 2) (by omega) (by omega)
    have h2 := dig_01 o a b
    rw [bw_step o a b (by omega) (by omega)]
    omega

theorem bw_wd (o : Bop) {a b : Int} (ha : -2147483648 ≤ a ∧ a ≤ 2147483647) (hb : -2147483648 ≤ b ∧ b ≤ 2147483647) : -2147483648 ≤ bw o a b ∧ bw o a b ≤ 2147483647 := by
  have h := bw_range o 31 (by decide) a b (by omega) (by omega)
  omega

theorem bw_turn {a : Int} (ha : -2147483648 ≤ a ∧ a ≤ 2147483647) : bw .xor a (-1) = -a - 1 := by
  have h := bw_32 (fun a b => b = -1 → bw .xor a b = -a - 1) (fun h => by cases h) (fun _ => by decide) (fun h => by cases h) (fun _ => by decide) (by
    intro a b ha hb h e
    subst e
    have h1 := h (by decide)
    rw [show ((-1 : Int) / 2) = -1 by decide] at h1
    show bw .xor a (-1) = -a - 1
    rw [bw_step .xor a (-1) ha (by omega), show ((-1 : Int) / 2) = -1 by decide, h1]
    simp only [Bop.dig]
    omega) ha (show -2147483648 ≤ (-1 : Int) ∧ (-1 : Int) ≤ 2147483647 by decide)
  exact h rfl

theorem bw_none {a : Int} (ha : -2147483648 ≤ a ∧ a ≤ 2147483647) : bw .and a (-a - 1) = 0 := by
  have h := bw_32 (fun a b => b = -a - 1 → bw .and a b = 0) (fun _ => by decide) (fun _ => by decide) (fun _ => by decide) (fun h => by omega) (by
    intro a b ha hb h e
    have h1 := h (by omega)
    show bw .and a b = 0
    rw [bw_step .and a b ha hb, h1]
    simp only [Bop.dig]
    rcases two_dig a with f | f
    · rw [f]; omega
    · rw [f, show b % 2 = 0 by omega]; decide) ha (show -2147483648 ≤ -a - 1 ∧ -a - 1 ≤ 2147483647 by omega)
  exact h rfl

theorem bw_below {a b : Int} (ha : -2147483648 ≤ a ∧ a ≤ 2147483647) (hb : 0 ≤ b ∧ b ≤ 2147483647) : 0 ≤ bw .and a b ∧ bw .and a b ≤ b := by
  have h := bw_32 (fun a b => 0 ≤ b → 0 ≤ bw .and a b ∧ bw .and a b ≤ b) (fun _ => by decide) (fun _ => by omega) (fun _ => by decide) (fun _ => by omega) (by
    intro a b ha hb h e
    have h1 := h (by omega)
    show 0 ≤ bw .and a b ∧ bw .and a b ≤ b
    rw [bw_step .and a b ha hb]
    simp only [Bop.dig]
    rcases two_dig a with f | f <;> rcases two_dig b with g | g <;> rw [f, g] <;> omega) ha (show -2147483648 ≤ b ∧ b ≤ 2147483647 by omega)
  exact h hb.1

end Go.Proofs.Ytlhbgkaknfhlnaa.Spn

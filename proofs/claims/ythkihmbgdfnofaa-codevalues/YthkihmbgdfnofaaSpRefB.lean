/-
  The document's own bitwise: digit by digit.
-/
import Derived.Test.YthkihmbgdfnofaaSpRefA
import Derived.Test.YthkihmbgdfnofaaSpBitsF
namespace Go.Proofs.Ythkihmbgdfnofaa.Spn
open Go.RowKit Go.IntWalk
set_option linter.unusedVariables false

/-- What the digits below 2 to the k come to. -/
def outK (o : Bop) (a b : Int) (k : Nat) : Int := bw o a b - 2 ^ k * bw o (a / 2 ^ k) (b / 2 ^ k)

theorem outK_0 (o : Bop) (a b : Int) : outK o a b 0 = 0 := by simp [outK]

theorem div_range {a : Int} (ha : -2147483648 ≤ a ∧ a ≤ 2147483647) (k : Nat) : -2147483648 ≤ a / 2 ^ k ∧ a / 2 ^ k ≤ 2147483647 := by
  have hp : (0 : Int) < 2 ^ k := Int.pow_pos (by decide)
  generalize (2 : Int) ^ k = P at *
  constructor
  · exact Int.le_ediv_of_mul_le hp (by omega)
  · have : a / P < 2147483648 := Int.ediv_lt_of_lt_mul hp (by omega)
    omega

theorem div_next (a : Int) (k : Nat) : a / 2 ^ (k + 1) = a / 2 ^ k / 2 := by
  rw [Int.ediv_ediv_of_nonneg (Int.le_of_lt (Int.pow_pos (by decide))), Int.pow_succ]

theorem outK_next (o : Bop) {a b : Int} (ha : -2147483648 ≤ a ∧ a ≤ 2147483647) (hb : -2147483648 ≤ b ∧ b ≤ 2147483647) (k : Nat) :
    outK o a b (k + 1) = outK o a b k + o.dig (a / 2 ^ k % 2) (b / 2 ^ k % 2) * 2 ^ k := by
  have h1 := div_range ha k
  have h2 := div_range hb k
  have h := bw_step o (a / 2 ^ k) (b / 2 ^ k) (by omega) (by omega)
  unfold outK
  rw [div_next, div_next, h, Int.pow_succ, Int.mul_add, Int.mul_comm (o.dig _ _), Int.mul_assoc]
  omega

theorem outK_bd (o : Bop) {a b : Int} (ha : -2147483648 ≤ a ∧ a ≤ 2147483647) (hb : -2147483648 ≤ b ∧ b ≤ 2147483647) : ∀ k : Nat, 0 ≤ outK o a b k ∧ outK o a b k < 2 ^ k
  | 0 => by rw [outK_0]; decide
  | k + 1 => by
    have ih := outK_bd o ha hb k
    have hd := dig_01 o (a / 2 ^ k) (b / 2 ^ k)
    rw [outK_next o ha hb, Int.pow_succ]
    generalize (2 : Int) ^ k = P at *
    rcases (show o.dig (a / P % 2) (b / P % 2) = 0 ∨ o.dig (a / P % 2) (b / P % 2) = 1 by omega) with e | e <;> rw [e] <;> omega

theorem end_32 {a : Int} (ha : -2147483648 ≤ a ∧ a ≤ 2147483647) : a / 2 ^ 32 = 0 ∨ a / 2 ^ 32 = -1 := by omega

theorem outK_32 (o : Bop) {a b : Int} (ha : -2147483648 ≤ a ∧ a ≤ 2147483647) (hb : -2147483648 ≤ b ∧ b ≤ 2147483647) :
    (2147483648 ≤ outK o a b 32 ∧ outK o a b 32 - 4294967296 = bw o a b) ∨ (outK o a b 32 < 2147483648 ∧ outK o a b 32 = bw o a b) := by
  have h1 := bw_wd o ha hb
  have h2 : bw o (a / 2 ^ 32) (b / 2 ^ 32) = 0 ∨ bw o (a / 2 ^ 32) (b / 2 ^ 32) = -1 := by
    rcases end_32 ha with e | e <;> rcases end_32 hb with f | f <;> rw [e, f] <;> rcases o with _ | _ | _ <;> decide
  unfold outK
  omega

/-- The number as 32 digits. -/
def up (a : Int) : Int := if a < 0 then a + 4294967296 else a
theorem up_bd {a : Int} (ha : -2147483648 ≤ a ∧ a ≤ 2147483647) : 0 ≤ up a ∧ up a ≤ 4294967295 := by unfold up; split <;> omega

theorem up_dig {a : Int} (ha : -2147483648 ≤ a ∧ a ≤ 2147483647) (k : Nat) (hk : k < 32) : up a / 2 ^ k % 2 = a / 2 ^ k % 2 := by
  unfold up
  split
  · have e : (4294967296 : Int) = 2 ^ k * (2 * 2 ^ (31 - k)) := by
      rw [show (4294967296 : Int) = 2 ^ (k + (1 + (31 - k))) by rw [show k + (1 + (31 - k)) = 32 by omega]; decide, Int.pow_add, Int.pow_add]
      rfl
    rw [e, Int.add_mul_ediv_left _ _ (Int.ne_of_gt (Int.pow_pos (by decide))), Int.add_mul_emod_self_left]
  · rfl

theorem up_range {a : Int} (ha : -2147483648 ≤ a ∧ a ≤ 2147483647) (k : Nat) : 0 ≤ up a / 2 ^ k ∧ up a / 2 ^ k ≤ 4294967295 := by
  have h := up_bd ha
  have hp : (0 : Int) < 2 ^ k := Int.pow_pos (by decide)
  have := Int.ediv_le_self (2 ^ k) h.1
  exact ⟨Int.ediv_nonneg h.1 (Int.le_of_lt hp), by omega⟩

/-- What a round asks, and what it makes. -/
theorem bit_round (o : Bop) {a b : Int} (ha : -2147483648 ≤ a ∧ a ≤ 2147483647) (hb : -2147483648 ≤ b ∧ b ≤ 2147483647) (k : Nat) (hk : k < 32) :
    ∃ x y t p q m E, x = up a / 2 ^ k ∧ y = up b / 2 ^ k ∧ t = (2 : Int) ^ k ∧ x % 2 = p ∧ y % 2 = q ∧ p * q = m ∧ o.dig p q * t = E ∧ outK o a b (k + 1) = outK o a b k + E ∧ x / 2 = up a / 2 ^ (k + 1) ∧ y / 2 = up b / 2 ^ (k + 1) ∧ 2 * t = (2 : Int) ^ (k + 1) ∧
      (0 ≤ x ∧ x ≤ 4294967295) ∧ (0 ≤ y ∧ y ≤ 4294967295) ∧ (1 ≤ t ∧ t ≤ 2147483648) ∧ (0 ≤ p ∧ p ≤ 1) ∧ (0 ≤ q ∧ q ≤ 1) ∧ (0 ≤ m ∧ m ≤ 1) ∧ (0 ≤ E ∧ E ≤ 2147483648) ∧ (0 ≤ outK o a b k ∧ outK o a b k ≤ 4294967296) := by
  have h1 := pow_bd k 31 (by omega)
  have h2 := up_range ha k
  have h3 := up_range hb k
  have h4 := outK_next o ha hb k
  rw [← up_dig ha k hk, ← up_dig hb k hk] at h4
  have h5 := outK_bd o ha hb k
  have hd := dig_01 o (up a / 2 ^ k) (up b / 2 ^ k)
  refine ⟨_, _, _, _, _, _, _, rfl, rfl, rfl, rfl, rfl, rfl, rfl, h4, (div_next _ _).symm, (div_next _ _).symm, by rw [Int.pow_succ]; omega, h2, h3, ⟨h1.1, by omega⟩, by omega, by omega, ?_, ?_, by omega⟩
  · rcases two_dig (up a / 2 ^ k) with e | e <;> rcases two_dig (up b / 2 ^ k) with f | f <;> rw [e, f] <;> decide
  · rcases (show o.dig (up a / 2 ^ k % 2) (up b / 2 ^ k % 2) = 0 ∨ o.dig (up a / 2 ^ k % 2) (up b / 2 ^ k % 2) = 1 by omega) with e | e <;> rw [e] <;> omega

end Go.Proofs.Ythkihmbgdfnofaa.Spn

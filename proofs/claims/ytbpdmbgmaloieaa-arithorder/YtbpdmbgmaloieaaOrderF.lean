/-
  ArithOrder: the numbers that the walk asks for.
-/
import Derived.Test.YtbpdmbgmaloieaaOrderW
namespace Go.Proofs.Ytbpdmbgmaloieaa
open Go.RowKit Go.IntWalk
set_option linter.unusedVariables false

theorem tr_bd (x : Bool) : 0 ≤ tr x ∧ tr x ≤ 1 := by cases x <;> decide
theorem tr_one (x : Bool) : (tr x == 1) = x := by cases x <;> rfl

theorem order_walk (a b c : Int) (w : World) (ha : -2147483648 ≤ a ∧ a ≤ 2147483647) (hb : -2147483648 ≤ b ∧ b ≤ 2147483647) (hc : -2147483648 ≤ c ∧ c ≤ 2147483647) :
    Calls Try.prog 8 #[.int .i32 a, .int .i32 b, .int .i32 c] w fun e w' => e = .returned (.bool true) ∧ Below w.heap.size w w' := by
  have bd := tr_bd
  have w2 : ∀ {x : Int}, 0 ≤ x ∧ x ≤ 1 → -2147483648 ≤ x ∧ x ≤ 2147483647 := fun h => ⟨by omega, by omega⟩
  have v1 : valZ 18 0 0 [a, b] = (tr (decide (a < b)), 0) := val_ok (may2 rfl rfl ha hb) rfl (w2 (bd _))
  have v2 : valZ 20 0 0 [a, b] = (tr (decide (b < a)), 0) := val_ok (may2 rfl rfl ha hb) rfl (w2 (bd _))
  have v3 : valZ 22 0 0 [a, b] = (tr (a == b), 0) := val_ok (may2 rfl rfl ha hb) rfl (w2 (bd _))
  have v4 : valZ 19 0 0 [a, b] = (tr (decide (a ≤ b)), 0) := val_ok (may2 rfl rfl ha hb) rfl (w2 (bd _))
  have v5 : valZ 21 0 0 [a, b] = (tr (decide (b ≤ a)), 0) := val_ok (may2 rfl rfl ha hb) rfl (w2 (bd _))
  have v6 : valZ 23 0 0 [a, b] = (tr (a != b), 0) := val_ok (may2 rfl rfl ha hb) rfl (w2 (bd _))
  have v7 : valZ 24 0 0 [a, b] = (min a b, 0) := val_ok (may2 rfl rfl ha hb) rfl (by omega)
  have v8 : valZ 25 0 0 [a, b] = (max a b, 0) := val_ok (may2 rfl rfl ha hb) rfl (by omega)
  have v9 : valZ 27 0 0 [a, b, c] = (max (min a b) (min (max a b) c), 0) := val_ok (may3 rfl rfl ha hb hc) rfl (by omega)
  have v10 : valZ 26 0 0 [c, min a b, max a b] = (max (min a b) (min (max a b) c), 0) := by
    refine val_ok (may3 rfl rfl hc (by omega) (by omega)) ?_ (by omega)
    show (min (max a b) (max c (min a b)), (0 : Int)) = _
    rw [show min (max a b) (max c (min a b)) = max (min a b) (min (max a b) c) by omega]
  have t : (tr (decide (a < b)) + tr (decide (b < a)) + tr (a == b) != 1) = false ∧ (tr (decide (a ≤ b)) != tr (decide (a < b)) + tr (a == b)) = false ∧ (tr (decide (b ≤ a)) != tr (decide (b < a)) + tr (a == b)) = false ∧ (tr (a != b) != tr (decide (a < b)) + tr (decide (b < a))) = false := by
    rcases (show a < b ∨ a = b ∨ b < a by omega) with h | h | h
    · have e1 : decide (a < b) = true := by simp [h]
      have e2 : decide (b < a) = false := by simp; omega
      have e3 : (a == b) = false := by simp; omega
      have e4 : decide (a ≤ b) = true := by simp; omega
      have e5 : decide (b ≤ a) = false := by simp; omega
      have e6 : (a != b) = true := by simp; omega
      rw [e1, e2, e3, e4, e5, e6]
      decide
    · subst h
      simp [tr]
    · have e1 : decide (a < b) = false := by simp; omega
      have e2 : decide (b < a) = true := by simp; omega
      have e3 : (a == b) = false := by simp; omega
      have e4 : decide (a ≤ b) = false := by simp; omega
      have e5 : decide (b ≤ a) = true := by simp; omega
      have e6 : (a != b) = true := by simp; omega
      rw [e1, e2, e3, e4, e5, e6]
      decide
  obtain ⟨t1, t2, t3, t4⟩ := t
  have t7 : (min a b + max a b != a + b) = false := by simp; omega
  by_cases h0 : a = 0
  · have v11 : valZ 28 0 0 [a, b, c] = (c, 0) := by
      refine val_ok (may3 rfl rfl ha hb hc) ?_ hc
      show ex 28 0 0 a b c = _
      simp [ex, h0]
    exact order_z a b c _ _ _ _ _ _ _ _ _ _ w ha hb hc v1 v2 v3 v4 v5 v6 v7 v8 v9 v10 v11 (bd _) (bd _) (bd _) (bd _) (bd _) (bd _) t1 t2 t3 t4 (tr_one _) (tr_one _) (by omega) (by omega) t7 (by omega) (by omega) (by omega)
      (by simp [h0]) (by simp [h0]) (by simp)
  · have v11 : valZ 28 0 0 [a, b, c] = (b, 0) := by
      refine val_ok (may3 rfl rfl ha hb hc) ?_ hb
      show ex 28 0 0 a b c = _
      simp [ex, h0]
    exact order_nz a b c _ _ _ _ _ _ _ _ _ _ w ha hb hc v1 v2 v3 v4 v5 v6 v7 v8 v9 v10 v11 (bd _) (bd _) (bd _) (bd _) (bd _) (bd _) t1 t2 t3 t4 (tr_one _) (tr_one _) (by omega) (by omega) t7 (by omega) (by omega) (by omega)
      (by simp [h0]) (by simp)

end Go.Proofs.Ytbpdmbgmaloieaa

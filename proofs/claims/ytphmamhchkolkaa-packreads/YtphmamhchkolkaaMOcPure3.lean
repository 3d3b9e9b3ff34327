/-
  Plain facts on damaskref01.Read: it comes to what scanning comes to.
-/
import Derived.Test.YtphmamhchkolkaaMOcQ
namespace Go.Proofs.Ytphmamhchkolkaa.Oct

/-- The number of some bytes, the lowest first. -/
def lev : List Int → Int
  | [] => 0
  | c :: r => c % 128 + 128 * lev r

theorem lev_nonneg (l : List Int) : 0 ≤ lev l := by
  induction l with
  | nil => simp [lev]
  | cons c r ih => simp only [lev]; omega

theorem lev_append (a b : List Int) : lev (a ++ b) = lev a + pw a.length * lev b := by
  induction a with
  | nil => simp [lev, pw]
  | cons c r ih =>
    simp only [List.cons_append, lev, ih, List.length_cons, pw]
    rw [Int.mul_add, Int.mul_assoc]
    omega

theorem lev_drop_le (l : List Int) (k : Nat) : lev (l.drop k) ≤ lev l := by
  induction l generalizing k with
  | nil => simp [lev]
  | cons c r ih =>
    cases k with
    | zero => exact Int.le_refl _
    | succ k =>
      have h1 := ih k
      have h2 := lev_nonneg r
      simp only [List.drop_succ_cons, lev]
      omega

theorem take_snoc {l : List Int} {k : Nat} (h : k < l.length) : l.take (k + 1) = l.take k ++ [l.getD k 0] := by
  rw [List.take_succ_eq_append_getElem h]
  simp [List.getD, h]

/-- Behind k bytes that are not the last one. -/
theorem scan_more (zs : List Int) (k : Nat) (hk : k ≤ 9) (hl : k ≤ zs.length) (h : ∀ j, j < k → 128 ≤ zs.getD j 0) : scan zs = scn k (lev (zs.take k)) (pw k) (zs.drop k) := by
  induction k with
  | zero => rfl
  | succ k ih =>
    have hlt : k < zs.length := by omega
    rw [ih (by omega) (by omega) (fun j hj => h j (by omega)), drop_cons hlt, scn, if_neg (by omega), if_pos (h k (by omega)), take_snoc hlt, lev_append, List.length_take, Nat.min_eq_left (by omega)]
    simp only [lev, pw]
    congr 1
    rw [Int.mul_zero, Int.add_zero, Int.mul_comm]

theorem read_short (zs : List Int) (k : Nat) (hk : k ≤ 9) (hl : k = zs.length) (h : ∀ j, j < k → 128 ≤ zs.getD j 0) : scan zs = (0, 0, 2) := by
  rw [scan_more zs k hk (by omega) h, List.drop_eq_nil_of_le (by omega)]
  rfl
theorem read_form (zs : List Int) (k : Nat) (hk : k ≤ 9) (hl : k < zs.length) (h : ∀ j, j < k → 128 ≤ zs.getD j 0) (h1 : k = 9 ∧ 1 < zs.getD k 0 ∨ 0 < k ∧ zs.getD k 0 = 0) : scan zs = (0, 0, 3) := by
  rw [scan_more zs k hk (by omega) h, drop_cons hl, scn]
  rcases h1 with h1 | h1
  · rw [if_pos h1]
  · rw [if_neg (by omega), if_neg (by omega), if_pos ⟨h1.2, h1.1⟩]
theorem read_ok (zs : List Int) (k : Nat) (hk : k ≤ 9) (hl : k < zs.length) (h : ∀ j, j < k → 128 ≤ zs.getD j 0) (h1 : ¬ (k = 9 ∧ 1 < zs.getD k 0)) (h2 : ¬ (0 < k ∧ zs.getD k 0 = 0)) (h3 : zs.getD k 0 < 128) :
    scan zs = (lev (zs.take (k + 1)), (k : Int) + 1, 0) := by
  rw [scan_more zs k hk (by omega) h, drop_cons hl, scn, if_neg h1, if_neg (by omega), if_neg (by omega), take_snoc hl, lev_append, List.length_take, Nat.min_eq_left (by omega)]
  simp only [lev]
  rw [Int.mul_zero, Int.add_zero, Int.mul_comm]

/-- One byte more ahead. -/
theorem lev_step {l : List Int} {i : Nat} (h : i < l.length) : lev (l.drop i) = l.getD i 0 % 128 + 128 * lev (l.drop (i + 1)) := by
  rw [drop_cons h]; rfl

end Go.Proofs.Ytphmamhchkolkaa.Oct

/-
  What the operators and the spans have to do with each other: facts on whole numbers.
-/
import Derived.Test.YtlhbgkaknfhlnaaSpOfS
namespace Go.Proofs.Ytlhbgkaknfhlnaa.Spn
open Go.RowKit Go.IntWalk
set_option linter.unusedVariables false

/-- q lies between p and r, whichever is less. -/
def bet (p q r : Int) : Prop := (p ≤ q ∧ q ≤ r) ∨ (r ≤ q ∧ q ≤ p)

def fnE (E : Int × Int) : Int × Int := if E.2 = 0 then (if wd E.1 = true then (E.1, 0) else (0, 13)) else (0, E.2)
theorem val_fnE {op k s : Int} {xs : List Int} (h : mayB op k s xs = true) : valZ op k s xs = fnE (ex op k s (xs.getD 0 0) (xs.getD 1 0) (xs.getD 2 0)) := by
  unfold valZ fnE
  rw [if_pos h]
theorem fnE_ok {E : Int × Int} (h : (fnE E).2 = 0) : E.2 = 0 ∧ wd E.1 = true ∧ (fnE E).1 = E.1 := by
  unfold fnE at *
  by_cases h1 : E.2 = 0
  · rw [if_pos h1] at *
    by_cases h2 : wd E.1 = true
    · rw [if_pos h2] at *; exact ⟨h1, h2, rfl⟩
    · rw [if_neg h2] at h; simp at h
  · rw [if_neg h1] at *; exact absurd h h1
theorem fnE_mk {E : Int × Int} (h1 : E.2 = 0) (h2 : wd E.1 = true) : fnE E = (E.1, 0) := by
  unfold fnE; rw [if_pos h1, if_pos h2]
theorem wd_mid {l v h : Int} (hl : wd l = true) (hh : wd h = true) (h1 : l ≤ v) (h2 : v ≤ h) : wd v = true := by
  rw [wd_iff] at *; omega

theorem may1 {op k s x : Int} (ho : ar op = 1) (hc : cons op k s = true) (hx : W32 x) : mayB op k s [x] = true := by
  simp [mayB, ho, hc, wd_iff]; exact hx
theorem may2 {op k s x y : Int} (ho : ar op = 2) (hc : cons op k s = true) (hx : W32 x) (hy : W32 y) : mayB op k s [x, y] = true := by
  simp [mayB, ho, hc, wd_iff]; exact ⟨hx, hy⟩
theorem may3 {op k s x y z : Int} (ho : ar op = 3) (hc : cons op k s = true) (hx : W32 x) (hy : W32 y) (hz : W32 z) : mayB op k s [x, y, z] = true := by
  simp [mayB, ho, hc, wd_iff]; exact ⟨hx, hy, hz⟩
theorem val1 {op k s x : Int} (ho : ar op = 1) (hc : cons op k s = true) (hx : W32 x) : valZ op k s [x] = fnE (ex op k s x 0 0) := val_fnE (may1 ho hc hx)
theorem val2 {op k s x y : Int} (ho : ar op = 2) (hc : cons op k s = true) (hx : W32 x) (hy : W32 y) : valZ op k s [x, y] = fnE (ex op k s x y 0) := val_fnE (may2 ho hc hx hy)
theorem val3 {op k s x y z : Int} (ho : ar op = 3) (hc : cons op k s = true) (hx : W32 x) (hy : W32 y) (hz : W32 z) : valZ op k s [x, y, z] = fnE (ex op k s x y z) := val_fnE (may3 ho hc hx hy hz)

/-! ### corners -/
theorem cornZ_inv {f : Int → Int → Int × Int} {a b c d lo hi : Int} (h : cornZ f a b c d = ((lo, hi), 0)) :
    (f a c).2 = 0 ∧ (f a d).2 = 0 ∧ (f b c).2 = 0 ∧ (f b d).2 = 0 ∧
    lo = min (min (min (min 9223372036854775807 (f a c).1) (f a d).1) (f b c).1) (f b d).1 ∧ hi = max (max (max (max (-9223372036854775808) (f a c).1) (f a d).1) (f b c).1) (f b d).1 := by
  have e0 : cv f a b c d 0 = f a c := rfl
  have e1 : cv f a b c d 1 = f a d := rfl
  have e2 : cv f a b c d 2 = f b c := rfl
  have e3 : cv f a b c d 3 = f b d := rfl
  unfold cornZ at h
  rw [e0, e1, e2, e3] at h
  by_cases h0 : (f a c).2 = 0
  · rw [if_neg (by simp [h0])] at h
    by_cases h1 : (f a d).2 = 0
    · rw [if_neg (by simp [h1])] at h
      by_cases h2 : (f b c).2 = 0
      · rw [if_neg (by simp [h2])] at h
        by_cases h3 : (f b d).2 = 0
        · rw [if_neg (by simp [h3])] at h
          simp only [Prod.mk.injEq, and_true] at h
          refine ⟨h0, h1, h2, h3, ?_, ?_⟩
          · rw [← h.1]; simp only [cLo, e0, e1, e2, e3]
          · rw [← h.2]; simp only [cHi, e0, e1, e2, e3]
        · rw [if_pos h3] at h; simp only [Prod.mk.injEq] at h; exact absurd h.2 h3
      · rw [if_pos h2] at h; simp only [Prod.mk.injEq] at h; exact absurd h.2 h2
    · rw [if_pos h1] at h; simp only [Prod.mk.injEq] at h; exact absurd h.2 h1
  · rw [if_pos h0] at h; simp only [Prod.mk.injEq] at h; exact absurd h.2 h0
theorem cornZ_mk {f : Int → Int → Int × Int} {a b c d : Int} (h0 : (f a c).2 = 0) (h1 : (f a d).2 = 0) (h2 : (f b c).2 = 0) (h3 : (f b d).2 = 0) :
    cornZ f a b c d = ((min (min (min (min 9223372036854775807 (f a c).1) (f a d).1) (f b c).1) (f b d).1, max (max (max (max (-9223372036854775808) (f a c).1) (f a d).1) (f b c).1) (f b d).1), 0) := by
  have e0 : cv f a b c d 0 = f a c := rfl
  have e1 : cv f a b c d 1 = f a d := rfl
  have e2 : cv f a b c d 2 = f b c := rfl
  have e3 : cv f a b c d 3 = f b d := rfl
  unfold cornZ
  rw [e0, e1, e2, e3, if_neg (by simp [h0]), if_neg (by simp [h1]), if_neg (by simp [h2]), if_neg (by simp [h3])]
  simp only [cLo, cHi, e0, e1, e2, e3]

/-- A function that between ends is between its values at the ends. -/
structure Mid (g : Int → Int → Int) (a b c d : Int) : Prop where
  fst : ∀ x y, a ≤ x → x ≤ b → c ≤ y → y ≤ d → bet (g a y) (g x y) (g b y)
  snd : ∀ x y, a ≤ x → x ≤ b → c ≤ y → y ≤ d → bet (g x c) (g x y) (g x d)

theorem Mid.hull {g : Int → Int → Int} {a b c d : Int} (h : Mid g a b c d) (hab : a ≤ b) (hcd : c ≤ d) {x y : Int} (h1 : a ≤ x) (h2 : x ≤ b) (h3 : c ≤ y) (h4 : y ≤ d) :
    min (min (min (g a c) (g a d)) (g b c)) (g b d) ≤ g x y ∧ g x y ≤ max (max (max (g a c) (g a d)) (g b c)) (g b d) := by
  have e1 := h.fst x y h1 h2 h3 h4
  have e2 := h.snd a y (Int.le_refl _) hab h3 h4
  have e3 := h.snd b y hab (Int.le_refl _) h3 h4
  unfold bet at e1 e2 e3
  omega

theorem mul_mid (a b c d : Int) : Mid (fun x y => x * y) a b c d := by
  constructor
  · intro x y h1 h2 h3 h4
    unfold bet
    rcases Int.le_total 0 y with hy | hy
    · left
      exact ⟨Int.mul_le_mul_of_nonneg_right h1 hy, Int.mul_le_mul_of_nonneg_right h2 hy⟩
    · right
      exact ⟨Int.mul_le_mul_of_nonpos_right h2 hy, Int.mul_le_mul_of_nonpos_right h1 hy⟩
  · intro x y h1 h2 h3 h4
    unfold bet
    rcases Int.le_total 0 x with hx | hx
    · left
      exact ⟨Int.mul_le_mul_of_nonneg_left h3 hx, Int.mul_le_mul_of_nonneg_left h4 hx⟩
    · right
      exact ⟨Int.mul_le_mul_of_nonpos_left hx h4, Int.mul_le_mul_of_nonpos_left hx h3⟩

theorem pow_mono {m n : Nat} (h : m ≤ n) : (2 : Int) ^ m ≤ 2 ^ n ∧ (1 : Int) ≤ 2 ^ m := by
  have := pow_bd m n h
  omega

theorem shl_mid (a b c d : Int) (hc : 0 ≤ c) : Mid (fun x y => x * 2 ^ y.toNat) a b c d := by
  constructor
  · intro x y h1 h2 h3 h4
    exact (mul_mid a b (2 ^ y.toNat) (2 ^ y.toNat)).fst x _ h1 h2 (Int.le_refl _) (Int.le_refl _)
  · intro x y h1 h2 h3 h4
    exact (mul_mid x x (2 ^ c.toNat) (2 ^ d.toNat)).snd x _ (Int.le_refl _) (Int.le_refl _) (pow_mono (by omega)).1 (pow_mono (by omega)).1

theorem ediv_mono {x y p : Int} (hp : 0 < p) (h : x ≤ y) : x / p ≤ y / p := Int.ediv_le_ediv hp h

theorem shr_mid (a b c d : Int) (hc : 0 ≤ c) : Mid (fun x y => x / 2 ^ y.toNat) a b c d := by
  constructor
  · intro x y h1 h2 h3 h4
    have hp := (pow_mono (Nat.le_refl y.toNat)).2
    exact .inl ⟨ediv_mono (by omega) h1, ediv_mono (by omega) h2⟩
  · intro x y h1 h2 h3 h4
    have key : ∀ m n : Nat, m ≤ n → (0 ≤ x → x / 2 ^ n ≤ x / 2 ^ m) ∧ (x < 0 → x / 2 ^ m ≤ x / 2 ^ n) := by
      intro m n hmn
      obtain ⟨q, rfl⟩ : ∃ q, n = m + q := ⟨n - m, by omega⟩
      have hm := (pow_mono (Nat.le_refl m)).2
      have hq := (pow_mono (Nat.le_refl q)).2
      have e : x / 2 ^ (m + q) = x / 2 ^ m / 2 ^ q := by rw [Int.pow_add, Int.ediv_ediv_of_nonneg (by omega)]
      rw [e]
      generalize (2 : Int) ^ q = Q at *
      constructor
      · intro hx
        have : 0 ≤ x / 2 ^ m := Int.ediv_nonneg hx (by omega)
        exact Int.ediv_le_self _ this
      · intro hx
        have hneg : x / 2 ^ m < 0 := Int.ediv_neg_of_neg_of_pos hx (by omega)
        generalize x / 2 ^ m = z at *
        have h1 : z * Q ≤ z * 1 := Int.mul_le_mul_of_nonpos_left (by omega) hq
        exact (Int.le_ediv_iff_mul_le (by omega)).2 (by omega)
    unfold bet
    rcases Int.lt_or_le x 0 with hx | hx
    · exact .inl ⟨(key c.toNat y.toNat (by omega)).2 hx, (key y.toNat d.toNat (by omega)).2 hx⟩
    · exact .inr ⟨(key y.toNat d.toNat (by omega)).1 hx, (key c.toNat y.toNat (by omega)).1 hx⟩

theorem tdiv_neg' (x y : Int) : x.tdiv (-y) = -(x.tdiv y) := Int.tdiv_neg x y
theorem neg_tdiv' (x y : Int) : (-x).tdiv y = -(x.tdiv y) := Int.neg_tdiv x y

theorem tdiv_mono_left {x x' y : Int} (hy : 0 < y) (h : x ≤ x') : x.tdiv y ≤ x'.tdiv y := by
  rcases Int.lt_or_le x 0 with hx | hx
  · rcases Int.lt_or_le x' 0 with hx' | hx'
    · have e1 : x.tdiv y = -((-x) / y) := by rw [← Int.tdiv_eq_ediv_of_nonneg (by omega), Int.neg_tdiv, Int.neg_neg]
      have e2 : x'.tdiv y = -((-x') / y) := by rw [← Int.tdiv_eq_ediv_of_nonneg (by omega), Int.neg_tdiv, Int.neg_neg]
      have := ediv_mono hy (show -x' ≤ -x by omega)
      omega
    · have e1 : x.tdiv y = -((-x) / y) := by rw [← Int.tdiv_eq_ediv_of_nonneg (by omega), Int.neg_tdiv, Int.neg_neg]
      have e2 : x'.tdiv y = x' / y := Int.tdiv_eq_ediv_of_nonneg hx'
      have h1 : 0 ≤ (-x) / y := Int.ediv_nonneg (by omega) (by omega)
      have h2 : 0 ≤ x' / y := Int.ediv_nonneg hx' (by omega)
      omega
  · rw [Int.tdiv_eq_ediv_of_nonneg hx, Int.tdiv_eq_ediv_of_nonneg (by omega)]
    exact ediv_mono hy h

theorem tdiv_anti_right {x y y' : Int} (hx : 0 ≤ x) (hy : 0 < y) (h : y ≤ y') : x.tdiv y' ≤ x.tdiv y := by
  rw [Int.tdiv_eq_ediv_of_nonneg hx, Int.tdiv_eq_ediv_of_nonneg hx]
  refine (Int.le_ediv_iff_mul_le hy).2 ?_
  have h0 : 0 ≤ x / y' := Int.ediv_nonneg hx (by omega)
  have h1 : x / y' * y ≤ x / y' * y' := Int.mul_le_mul_of_nonneg_left h h0
  have h2 := Int.ediv_mul_le x (show y' ≠ 0 by omega)
  omega

theorem tdiv_mid (a b c d : Int) (h0 : ¬ (c ≤ 0 ∧ 0 ≤ d)) : Mid (fun x y => x.tdiv y) a b c d := by
  constructor
  · intro x y h1 h2 h3 h4
    unfold bet
    rcases (show 0 < y ∨ y < 0 by omega) with hy | hy
    · exact .inl ⟨tdiv_mono_left hy h1, tdiv_mono_left hy h2⟩
    · right
      have e := fun z : Int => tdiv_neg' z (-y)
      simp only [Int.neg_neg] at e
      have h5 := tdiv_mono_left (show 0 < -y by omega) h1
      have h6 := tdiv_mono_left (show 0 < -y by omega) h2
      show b.tdiv y ≤ x.tdiv y ∧ x.tdiv y ≤ a.tdiv y
      rw [e a, e x, e b]
      omega
  · intro x y h1 h2 h3 h4
    show bet (x.tdiv c) (x.tdiv y) (x.tdiv d)
    unfold bet
    rcases (show 0 < c ∨ d < 0 by omega) with hc | hd
    · rcases Int.le_total 0 x with hx | hx
      · exact .inr ⟨tdiv_anti_right hx (by omega) h4, tdiv_anti_right hx (by omega) h3⟩
      · left
        have e := fun z : Int => neg_tdiv' (-x) z
        simp only [Int.neg_neg] at e
        have h5 := tdiv_anti_right (show 0 ≤ -x by omega) (show 0 < c by omega) h3
        have h6 := tdiv_anti_right (show 0 ≤ -x by omega) (show 0 < y by omega) h4
        rw [e c, e y, e d]
        omega
    · have ed := fun z w : Int => tdiv_neg' z (-w)
      simp only [Int.neg_neg] at ed
      rw [ed x c, ed x y, ed x d]
      rcases Int.le_total 0 x with hx | hx
      · have h5 := tdiv_anti_right hx (show 0 < -y by omega) (show -y ≤ -c by omega)
        have h6 := tdiv_anti_right hx (show 0 < -d by omega) (show -d ≤ -y by omega)
        omega
      · have e := fun z : Int => neg_tdiv' (-x) z
        simp only [Int.neg_neg] at e
        have h5 := tdiv_anti_right (show 0 ≤ -x by omega) (show 0 < -y by omega) (show -y ≤ -c by omega)
        have h6 := tdiv_anti_right (show 0 ≤ -x by omega) (show 0 < -d by omega) (show -d ≤ -y by omega)
        rw [e (-c), e (-y), e (-d)]
        omega

theorem tr_le {p q : Bool} (h : p = true → q = true) : tr p ≤ tr q := by
  cases p <;> cases q <;> simp [tr] at *

theorem cmp_mid (op : Int) (ho : op = 18 ∨ op = 19 ∨ op = 20 ∨ op = 21) (k s a b c d : Int) : Mid (fun x y => (ex op k s x y 0).1) a b c d := by
  rcases ho with rfl | rfl | rfl | rfl
  · constructor
    · intro x y h1 h2 h3 h4
      exact .inr ⟨tr_le (by simp; omega), tr_le (by simp; omega)⟩
    · intro x y h1 h2 h3 h4
      exact .inl ⟨tr_le (by simp; omega), tr_le (by simp; omega)⟩
  · constructor
    · intro x y h1 h2 h3 h4
      exact .inr ⟨tr_le (by simp; omega), tr_le (by simp; omega)⟩
    · intro x y h1 h2 h3 h4
      exact .inl ⟨tr_le (by simp; omega), tr_le (by simp; omega)⟩
  · constructor
    · intro x y h1 h2 h3 h4
      exact .inl ⟨tr_le (by simp; omega), tr_le (by simp; omega)⟩
    · intro x y h1 h2 h3 h4
      exact .inr ⟨tr_le (by simp; omega), tr_le (by simp; omega)⟩
  · constructor
    · intro x y h1 h2 h3 h4
      exact .inl ⟨tr_le (by simp; omega), tr_le (by simp; omega)⟩
    · intro x y h1 h2 h3 h4
      exact .inr ⟨tr_le (by simp; omega), tr_le (by simp; omega)⟩

end Go.Proofs.Ytlhbgkaknfhlnaa.Spn

/-
  What the operators and the spans have to do with each other: facts on whole numbers.
-/
import Derived.Test.YtihbhbeaihdgnaaMSpOfS
import Derived.Test.YtihbhbeaihdgnaaMSpB
namespace Go.Proofs.Ytihbhbeaihdgnaa.Spn
open Go.RowKit Go.IntWalk
set_option linter.unusedVariables false

/-- q lies between p and r, whichever is less. -/
def bet (p q r : Int) : Prop := (p ≤ q ∧ q ≤ r) ∨ (r ≤ q ∧ q ≤ p)

def fnE (E : Int × Int) : Int × Int := if E.2 = 0 then (if wd E.1 = true then (E.1, 0) else (0, 13)) else (0, E.2)
theorem val_fnE {op k s : Int} {xs : List Int} (h : mayB op k s xs = true) : valZ op k s xs = fnE (ex op k s (xs.getD 0 0) (xs.getD 1 0) (xs.getD 2 0)) := by
  unfold valZ fnE
  rw [if_pos h]
theorem fnE_ok {E : Int × Int} (h : (fnE E).2 = 0) : E.2 = 0 ∧ wd E.1 = true ∧ (fnE E).1 = E.1 := by
  unfold fnE at *
  by_cases h1 : E.2 = 0
  · rw [if_pos h1] at *
    by_cases h2 : wd E.1 = true
    · rw [if_pos h2] at *; exact ⟨h1, h2, rfl⟩
    · rw [if_neg h2] at h; simp at h
  · rw [if_neg h1] at *; exact absurd h h1
theorem fnE_mk {E : Int × Int} (h1 : E.2 = 0) (h2 : wd E.1 = true) : fnE E = (E.1, 0) := by
  unfold fnE; rw [if_pos h1, if_pos h2]
theorem wd_mid {l v h : Int} (hl : wd l = true) (hh : wd h = true) (h1 : l ≤ v) (h2 : v ≤ h) : wd v = true := by
  rw [wd_iff] at *; omega

theorem may1 {op k s x : Int} (ho : ar op = 1) (hc : cons op k s = true) (hx : W32 x) : mayB op k s [x] = true := by
  simp [mayB, ho, hc, wd_iff]; exact hx
theorem may2 {op k s x y : Int} (ho : ar op = 2) (hc : cons op k s = true) (hx : W32 x) (hy : W32 y) : mayB op k s [x, y] = true := by
  simp [mayB, ho, hc, wd_iff]; exact ⟨hx, hy⟩
theorem may3 {op k s x y z : Int} (ho : ar op = 3) (hc : cons op k s = true) (hx : W32 x) (hy : W32 y) (hz : W32 z) : mayB op k s [x, y, z] = true := by
  simp [mayB, ho, hc, wd_iff]; exact ⟨hx, hy, hz⟩
theorem val1 {op k s x : Int} (ho : ar op = 1) (hc : cons op k s = true) (hx : W32 x) : valZ op k s [x] = fnE (ex op k s x 0 0) := val_fnE (may1 ho hc hx)
theorem val2 {op k s x y : Int} (ho : ar op = 2) (hc : cons op k s = true) (hx : W32 x) (hy : W32 y) : valZ op k s [x, y] = fnE (ex op k s x y 0) := val_fnE (may2 ho hc hx hy)
theorem val3 {op k s x y z : Int} (ho : ar op = 3) (hc : cons op k s = true) (hx : W32 x) (hy : W32 y) (hz : W32 z) : valZ op k s [x, y, z] = fnE (ex op k s x y z) := val_fnE (may3 ho hc hx hy hz)

/-! ### corners -/
theorem cornZ_inv {f : Int → Int → Int × Int} {a b c d lo hi : Int} (h : cornZ f a b c d = ((lo, hi), 0)) :
    (f a c).2 = 0 ∧ (f a d).2 = 0 ∧ (f b c).2 = 0 ∧ (f b d).2 = 0 ∧
    lo = min (min (min (min 9223372036854775807 (f a c).1) (f a d).1) (f b c).1) (f b d).1 ∧ hi = max (max (max (max (-9223372036854775808) (f a c).1) (f a d).1) (f b c).1) (f b d).1 := by
  have e0 : cv f a b c d 0 = f a c := rfl
  have e1 : cv f a b c d 1 = f a d := rfl
  have e2 : cv f a b c d 2 = f b c := rfl
  have e3 : cv f a b c d 3 = f b d := rfl
  unfold cornZ at h
  rw [e0, e1, e2, e3] at h
  by_cases h0 : (f a c).2 = 0
  · rw [if_neg (by simp [h0])] at h
    by_cases h1 : (f a d).2 = 0
    · rw [if_neg (by simp [h1])] at h
      by_cases h2 : (f b c).2 = 0
      · rw [if_neg (by simp [h2])] at h
        by_cases h3 : (f b d).2 = 0
        · rw [if_neg (by simp [h3])] at h
          simp only [Prod.mk.injEq, and_true] at h
          refine ⟨h0, h1, h2, h3, ?_, ?_⟩
          · rw [← h.1]; simp only [cLo, e0, e1, e2, e3]
          · rw [← h.2]; simp only [cHi, e0, e1, e2, e3]
        · rw [if_pos h3] at h; simp only [Prod.mk.injEq] at h; exact absurd h.2 h3
      · rw [if_pos h2] at h; simp only [Prod.mk.injEq] at h; exact absurd h.2 h2
    · rw [if_pos h1] at h; simp only [Prod.mk.injEq] at h; exact absurd h.2 h1
  · rw [if_pos h0] at h; simp only [Prod.mk.injEq] at h; exact absurd h.2 h0
theorem cornZ_mk {f : Int → Int → Int × Int} {a b c d : Int} (h0 : (f a c).2 = 0) (h1 : (f a d).2 = 0) (h2 : (f b c).2 = 0) (h3 : (f b d).2 = 0) :
    cornZ f a b c d = ((min (min (min (min 9223372036854775807 (f a c).1) (f a d).1) (f b c).1) (f b d).1, max (max (max (max (-9223372036854775808) (f a c).1) (f a d).1) (f b c).1) (f b d).1), 0) := by
  have e0 : cv f a b c d 0 = f a c := rfl
  have e1 : cv f a b c d 1 = f a d := rfl
  have e2 : cv f a b c d 2 = f b c := rfl
  have e3 : cv f a b c d 3 = f b d := rfl
  unfold cornZ
  rw [e0, e1, e2, e3, if_neg (by simp [h0]), if_neg (by simp [h1]), if_neg (by simp [h2]), if_neg (by simp [h3])]
  simp only [cLo, cHi, e0, e1, e2, e3]

/-- A function that between ends is between its values at the ends. -/
structure Mid (g : Int → Int → Int) (a b c d : Int) : Prop where
  fst : ∀ x y, a ≤ x → x ≤ b → c ≤ y → y ≤ d → bet (g a y) (g x y) (g b y)
  snd : ∀ x y, a ≤ x → x ≤ b → c ≤ y → y ≤ d → bet (g x c) (g x y) (g x d)

theorem Mid.hull {g : Int → Int → Int} {a b c d : Int} (h : Mid g a b c d) (hab : a ≤ b) (hcd : c ≤ d) {x y : Int} (h1 : a ≤ x) (h2 : x ≤ b) (h3 : c ≤ y) (h4 : y ≤ d) :
    min (min (min (g a c) (g a d)) (g b c)) (g b d) ≤ g x y ∧ g x y ≤ max (max (max (g a c) (g a d)) (g b c)) (g b d) := by
  have e1 := h.fst x y h1 h2 h3 h4
  have e2 := h.snd a y (Int.le_refl _) hab h3 h4
  have e3 := h.snd b y hab (Int.le_refl _) h3 h4
  unfold bet at e1 e2 e3
  omega

theorem mul_mid (a b c d : Int) : Mid (fun x y => x * y) a b c d := by
  constructor
  · intro x y h1 h2 h3 h4
    unfold bet
    rcases Int.le_total 0 y with hy | hy
    · left
      exact ⟨Int.mul_le_mul_of_nonneg_right h1 hy, Int.mul_le_mul_of_nonneg_right h2 hy⟩
    · right
      exact ⟨Int.mul_le_mul_of_nonpos_right h2 hy, Int.mul_le_mul_of_nonpos_right h1 hy⟩
  · intro x y h1 h2 h3 h4
    unfold bet
    rcases Int.le_total 0 x with hx | hx
    · left
      exact ⟨Int.mul_le_mul_of_nonneg_left h3 hx, Int.mul_le_mul_of_nonneg_left h4 hx⟩
    · right
      exact ⟨Int.mul_le_mul_of_nonpos_left hx h4, Int.mul_le_mul_of_nonpos_left hx h3⟩

theorem pow_mono {m n : Nat} (h : m ≤ n) : (2 : Int) ^ m ≤ 2 ^ n ∧ (1 : Int) ≤ 2 ^ m := by
  have := pow_bd m n h
  omega

theorem shl_mid (a b c d : Int) (hc : 0 ≤ c) : Mid (fun x y => x * 2 ^ y.toNat) a b c d := by
  constructor
  · intro x y h1 h2 h3 h4
    exact (mul_mid a b (2 ^ y.toNat) (2 ^ y.toNat)).fst x _ h1 h2 (Int.le_refl _) (Int.le_refl _)
  · intro x y h1 h2 h3 h4
    exact (mul_mid x x (2 ^ c.toNat) (2 ^ d.toNat)).snd x _ (Int.le_refl _) (Int.le_refl _) (pow_mono (by omega)).1 (pow_mono (by omega)).1

theorem ediv_mono {x y p : Int} (hp : 0 < p) (h : x ≤ y) : x / p ≤ y / p := Int.ediv_le_ediv hp h

theorem shr_mid (a b c d : Int) (hc : 0 ≤ c) : Mid (fun x y => x / 2 ^ y.toNat) a b c d := by
  constructor
  · intro x y h1 h2 h3 h4
    have hp := (pow_mono (Nat.le_refl y.toNat)).2
    exact .inl ⟨ediv_mono (by omega) h1, ediv_mono (by omega) h2⟩
  · intro x y h1 h2 h3 h4
    have key : ∀ m n : Nat, m ≤ n → (0 ≤ x → x / 2 ^ n ≤ x / 2 ^ m) ∧ (x < 0 → x / 2 ^ m ≤ x / 2 ^ n) := by
      intro m n hmn
      obtain ⟨q, rfl⟩ : ∃ q, n = m + q := ⟨n - m, by omega⟩
      have hm := (pow_mono (Nat.le_refl m)).2
      have hq := (pow_mono (Nat.le_refl q)).2
      have e : x / 2 ^ (m + q) = x / 2 ^ m / 2 ^ q := by rw [Int.pow_add, Int.ediv_ediv_of_nonneg (by omega)]
      rw [e]
      generalize (2 : Int) ^ q = Q at *
      constructor
      · intro hx
        have : 0 ≤ x / 2 ^ m := Int.ediv_nonneg hx (by omega)
        exact Int.ediv_le_self _ this
      · intro hx
        have hneg : x / 2 ^ m < 0 := Int.ediv_neg_of_neg_of_pos hx (by omega)
        generalize x / 2 ^ m = z at *
        have h1 : z * Q ≤ z * 1 := Int.mul_le_mul_of_nonpos_left (by omega) hq
        exact (Int.le_ediv_iff_mul_le (by omega)).2 (by omega)
    unfold bet
    rcases Int.lt_or_le x 0 with hx | hx
    · exact .inl ⟨(key c.toNat y.toNat (by omega)).2 hx, (key y.toNat d.toNat (by omega)).2 hx⟩
    · exact .inr ⟨(key y.toNat d.toNat (by omega)).1 hx, (key c.toNat y.toNat (by omega)).1 hx⟩

theorem tdiv_neg' (x y : Int) : x.tdiv (-y) = -(x.tdiv y) := Int.tdiv_neg x y
theorem neg_tdiv' (x y : Int) : (-x).tdiv y = -(x.tdiv y) := Int.neg_tdiv x y

theorem tdiv_mono_left {x x' y : Int} (hy : 0 < y) (h : x ≤ x') : x.tdiv y ≤ x'.tdiv y := by
  rcases Int.lt_or_le x 0 with hx | hx
  · rcases Int.lt_or_le x' 0 with hx' | hx'
    · have e1 : x.tdiv y = -((-x) / y) := by rw [← Int.tdiv_eq_ediv_of_nonneg (by omega), Int.neg_tdiv, Int.neg_neg]
      have e2 : x'.tdiv y = -((-x') / y) := by rw [← Int.tdiv_eq_ediv_of_nonneg (by omega), Int.neg_tdiv, Int.neg_neg]
      have := ediv_mono hy (show -x' ≤ -x by omega)
      omega
    · have e1 : x.tdiv y = -((-x) / y) := by rw [← Int.tdiv_eq_ediv_of_nonneg (by omega), Int.neg_tdiv, Int.neg_neg]
      have e2 : x'.tdiv y = x' / y := Int.tdiv_eq_ediv_of_nonneg hx'
      have h1 : 0 ≤ (-x) / y := Int.ediv_nonneg (by omega) (by omega)
      have h2 : 0 ≤ x' / y := Int.ediv_nonneg hx' (by omega)
      omega
  · rw [Int.tdiv_eq_ediv_of_nonneg hx, Int.tdiv_eq_ediv_of_nonneg (by omega)]
    exact ediv_mono hy h

theorem tdiv_anti_right {x y y' : Int} (hx : 0 ≤ x) (hy : 0 < y) (h : y ≤ y') : x.tdiv y' ≤ x.tdiv y := by
  rw [Int.tdiv_eq_ediv_of_nonneg hx, Int.tdiv_eq_ediv_of_nonneg hx]
  refine (Int.le_ediv_iff_mul_le hy).2 ?_
  have h0 : 0 ≤ x / y' := Int.ediv_nonneg hx (by omega)
  have h1 : x / y' * y ≤ x / y' * y' := Int.mul_le_mul_of_nonneg_left h h0
  have h2 := Int.ediv_mul_le x (show y' ≠ 0 by omega)
  omega

theorem tdiv_mid (a b c d : Int) (h0 : ¬ (c ≤ 0 ∧ 0 ≤ d)) : Mid (fun x y => x.tdiv y) a b c d := by
  constructor
  · intro x y h1 h2 h3 h4
    unfold bet
    rcases (show 0 < y ∨ y < 0 by omega) with hy | hy
    · exact .inl ⟨tdiv_mono_left hy h1, tdiv_mono_left hy h2⟩
    · right
      have e := fun z : Int => tdiv_neg' z (-y)
      simp only [Int.neg_neg] at e
      have h5 := tdiv_mono_left (show 0 < -y by omega) h1
      have h6 := tdiv_mono_left (show 0 < -y by omega) h2
      show b.tdiv y ≤ x.tdiv y ∧ x.tdiv y ≤ a.tdiv y
      rw [e a, e x, e b]
      omega
  · intro x y h1 h2 h3 h4
    show bet (x.tdiv c) (x.tdiv y) (x.tdiv d)
    unfold bet
    rcases (show 0 < c ∨ d < 0 by omega) with hc | hd
    · rcases Int.le_total 0 x with hx | hx
      · exact .inr ⟨tdiv_anti_right hx (by omega) h4, tdiv_anti_right hx (by omega) h3⟩
      · left
        have e := fun z : Int => neg_tdiv' (-x) z
        simp only [Int.neg_neg] at e
        have h5 := tdiv_anti_right (show 0 ≤ -x by omega) (show 0 < c by omega) h3
        have h6 := tdiv_anti_right (show 0 ≤ -x by omega) (show 0 < y by omega) h4
        rw [e c, e y, e d]
        omega
    · have ed := fun z w : Int => tdiv_neg' z (-w)
      simp only [Int.neg_neg] at ed
      rw [ed x c, ed x y, ed x d]
      rcases Int.le_total 0 x with hx | hx
      · have h5 := tdiv_anti_right hx (show 0 < -y by omega) (show -y ≤ -c by omega)
        have h6 := tdiv_anti_right hx (show 0 < -d by omega) (show -d ≤ -y by omega)
        omega
      · have e := fun z : Int => neg_tdiv' (-x) z
        simp only [Int.neg_neg] at e
        have h5 := tdiv_anti_right (show 0 ≤ -x by omega) (show 0 < -y by omega) (show -y ≤ -c by omega)
        have h6 := tdiv_anti_right (show 0 ≤ -x by omega) (show 0 < -d by omega) (show -d ≤ -y by omega)
        rw [e (-c), e (-y), e (-d)]
        omega

theorem tr_le {p q : Bool} (h : p = true → q = true) : tr p ≤ tr q := by
  cases p <;> cases q <;> simp [tr] at *

theorem cmp_mid (op : Int) (ho : op = 18 ∨ op = 19 ∨ op = 20 ∨ op = 21) (k s a b c d : Int) : Mid (fun x y => (ex op k s x y 0).1) a b c d := by
  rcases ho with rfl | rfl | rfl | rfl
  · constructor
    · intro x y h1 h2 h3 h4
      exact .inr ⟨tr_le (by simp; omega), tr_le (by simp; omega)⟩
    · intro x y h1 h2 h3 h4
      exact .inl ⟨tr_le (by simp; omega), tr_le (by simp; omega)⟩
  · constructor
    · intro x y h1 h2 h3 h4
      exact .inr ⟨tr_le (by simp; omega), tr_le (by simp; omega)⟩
    · intro x y h1 h2 h3 h4
      exact .inl ⟨tr_le (by simp; omega), tr_le (by simp; omega)⟩
  · constructor
    · intro x y h1 h2 h3 h4
      exact .inl ⟨tr_le (by simp; omega), tr_le (by simp; omega)⟩
    · intro x y h1 h2 h3 h4
      exact .inr ⟨tr_le (by simp; omega), tr_le (by simp; omega)⟩
  · constructor
    · intro x y h1 h2 h3 h4
      exact .inl ⟨tr_le (by simp; omega), tr_le (by simp; omega)⟩
    · intro x y h1 h2 h3 h4
      exact .inr ⟨tr_le (by simp; omega), tr_le (by simp; omega)⟩

end Go.Proofs.Ytihbhbeaihdgnaa.Spn

/-
  Where a span is answered, the operator's answer lies in it: on whole numbers.
-/
namespace Go.Proofs.Ytihbhbeaihdgnaa.Spn
open Go.RowKit Go.IntWalk
set_option linter.unusedVariables false

theorem trd (p : Prop) [Decidable p] : (p ∧ tr (decide p) = 1) ∨ (¬ p ∧ tr (decide p) = 0) := by
  by_cases h : p <;> simp [tr, h]
theorem trb (x y : Int) : (x = y ∧ tr (x == y) = 1 ∧ tr (x != y) = 0) ∨ (x ≠ y ∧ tr (x == y) = 0 ∧ tr (x != y) = 1) := by
  by_cases h : x = y <;> simp [tr, h]

theorem endsZ_inv {f : List Int → Int × Int} {L : List (Int × Int)} {lo hi : Int} (h : endsZ f L = ((lo, hi), 0)) :
    (f (fsts L)).2 = 0 ∧ (f (snds L)).2 = 0 ∧ lo = (f (fsts L)).1 ∧ hi = (f (snds L)).1 := by
  unfold endsZ at h
  by_cases h0 : (f (fsts L)).2 = 0
  · rw [if_neg (by simp [h0])] at h
    simp only [Prod.mk.injEq] at h
    exact ⟨h0, h.2, h.1.1.symm, h.1.2.symm⟩
  · rw [if_pos h0] at h
    simp only [Prod.mk.injEq] at h
    exact absurd h.2 h0
theorem endsZ_mk {f : List Int → Int × Int} {L : List (Int × Int)} (h0 : (f (fsts L)).2 = 0) (h1 : (f (snds L)).2 = 0) : endsZ f L = (((f (fsts L)).1, (f (snds L)).1), 0) := by
  unfold endsZ
  rw [if_neg (by simp [h0]), h1]

theorem finZ_inv {Z : (Int × Int) × Int} {lo hi : Int} (h : finZ Z = ((lo, hi), 0)) : Z = ((lo, hi), 0) ∧ whB lo hi = true := by
  obtain ⟨⟨x, y⟩, e⟩ := Z
  unfold finZ at h
  simp only at h
  by_cases he : e = 0
  · rw [if_neg (by simp [he])] at h
    by_cases hw : whB x y = true
    · rw [if_pos hw] at h
      simp only [Prod.mk.injEq] at h
      obtain ⟨⟨rfl, rfl⟩, -⟩ := h
      exact ⟨by rw [he], hw⟩
    · rw [if_neg hw] at h
      simp at h
  · rw [if_pos he] at h
    simp only [Prod.mk.injEq] at h
    exact absurd h.2 he
theorem finZ_mk {lo hi : Int} (h : whB lo hi = true) : finZ ((lo, hi), 0) = ((lo, hi), 0) := by simp [finZ, h]
theorem ofZ_inv {op k s : Int} {L : List (Int × Int)} {lo hi : Int} (h : ofZ op k s L = ((lo, hi), 0)) : smayB op k s L = true ∧ reckZ op k s L = ((lo, hi), 0) ∧ whB lo hi = true := by
  unfold ofZ at h
  by_cases hm : smayB op k s L = true
  · rw [if_pos hm] at h
    have := finZ_inv h
    exact ⟨hm, this.1, this.2⟩
  · rw [if_neg hm] at h
    simp at h

/-! ### bits -/
theorem bw_below' {a b : Int} (ha : 0 ≤ a ∧ a ≤ 2147483647) (hb : -2147483648 ≤ b ∧ b ≤ 2147483647) : 0 ≤ bw .and a b ∧ bw .and a b ≤ a := by
  have h := bw_32 (fun a b => 0 ≤ a → 0 ≤ bw .and a b ∧ bw .and a b ≤ a) (fun _ => by decide) (fun _ => by decide) (fun _ => by omega) (fun _ => by omega) (by
    intro a b ha hb h e
    have h1 := h (by omega)
    show 0 ≤ bw .and a b ∧ bw .and a b ≤ a
    rw [bw_step .and a b ha hb]
    simp only [Bop.dig]
    rcases two_dig a with f | f <;> rcases two_dig b with g | g <;> rw [f, g] <;> omega) (show -2147483648 ≤ a ∧ a ≤ 2147483647 by omega) hb
  exact h ha.1
theorem bw_up {a b : Int} (ha : 0 ≤ a ∧ a ≤ 2147483647) (hb : 0 ≤ b ∧ b ≤ 2147483647) : a ≤ bw .or a b ∧ b ≤ bw .or a b ∧ 0 ≤ bw .xor a b := by
  have h := bw_32 (fun a b => 0 ≤ a → 0 ≤ b → a ≤ bw .or a b ∧ b ≤ bw .or a b ∧ 0 ≤ bw .xor a b) (fun _ _ => by decide) (fun _ _ => by omega) (fun _ => by omega) (fun _ => by omega) (by
    intro a b ha hb h e f
    have h1 := h (by omega) (by omega)
    show a ≤ bw .or a b ∧ b ≤ bw .or a b ∧ 0 ≤ bw .xor a b
    rw [bw_step .or a b ha hb, bw_step .xor a b ha hb]
    simp only [Bop.dig]
    rcases two_dig a with f | f <;> rcases two_dig b with g | g <;> rw [f, g] <;> omega) (show -2147483648 ≤ a ∧ a ≤ 2147483647 by omega) (show -2147483648 ≤ b ∧ b ≤ 2147483647 by omega)
  exact h ha.1 hb.1

/-- All ends lie from -2^n to 2^n - 1, and n is the least such number. -/
theorem arP_has {a b c d : Int} (ha : W32 a) (hb : W32 b) (hc : W32 c) (hd : W32 d) :
    (-arP a b c d ≤ a ∧ a < arP a b c d) ∧ (-arP a b c d ≤ b ∧ b < arP a b c d) ∧ (-arP a b c d ≤ c ∧ c < arP a b c d) ∧ (-arP a b c d ≤ d ∧ d < arP a b c d) := by
  have key : ∀ x, W32 x → wdN x ≤ arN a b c d → -arP a b c d ≤ x ∧ x < arP a b c d := by
    intro x hx hn
    have h1 := (wdN_facts hx).2
    have h2 := (pow_mono hn).1
    have e : ((2 ^ wdN x : Nat) : Int) = (2 : Int) ^ wdN x := by simp
    unfold arP
    rw [e] at h1
    omega
  refine ⟨key a ha ?_, key b hb ?_, key c hc ?_, key d hd ?_⟩ <;> (unfold arN; omega)

theorem bw_in (o : Bop) {a b c d x y : Int} (ha : W32 a) (hb : W32 b) (hc : W32 c) (hd : W32 d) (h1 : a ≤ x) (h2 : x ≤ b) (h3 : c ≤ y) (h4 : y ≤ d) :
    -arP a b c d ≤ bw o x y ∧ bw o x y ≤ arP a b c d - 1 := by
  have h := arP_has ha hb hc hd
  have hn := (arP_bd ha hb hc hd).1
  have e : ((2 ^ arN a b c d : Nat) : Int) = arP a b c d := by unfold arP; simp
  have hr := bw_range o (arN a b c d) (by omega) x y (by rw [e]; omega) (by rw [e]; omega)
  rw [e] at hr
  omega

/-- Narrower spans want no more bits. -/
theorem arP_le {a b c d a' b' c' d' : Int} (ha : W32 a) (hb : W32 b) (hc : W32 c) (hd : W32 d) (h1 : a ≤ a' ∧ a' ≤ b) (h2 : a ≤ b' ∧ b' ≤ b) (h3 : c ≤ c' ∧ c' ≤ d) (h4 : c ≤ d' ∧ d' ≤ d) : arP a' b' c' d' ≤ arP a b c d := by
  have h := arP_has ha hb hc hd
  have hn := (arP_bd ha hb hc hd).1
  have e : ((2 ^ arN a b c d : Nat) : Int) = arP a b c d := by unfold arP; simp
  have key : ∀ x, -arP a b c d ≤ x ∧ x < arP a b c d → wdN x ≤ arN a b c d := fun x hx => wdN_least (by omega) (by rw [e]; exact hx)
  have k1 := key a' (by omega)
  have k2 := key b' (by omega)
  have k3 := key c' (by omega)
  have k4 := key d' (by omega)
  have : arN a' b' c' d' ≤ arN a b c d := by unfold arN at *; omega
  unfold arP
  exact (pow_mono this).1

/-! ### rests -/
theorem tmod_facts (x y : Int) (hy : y ≠ 0) : (0 ≤ x → 0 ≤ x.tmod y ∧ x.tmod y ≤ x) ∧ (x ≤ 0 → x ≤ x.tmod y ∧ x.tmod y ≤ 0) ∧ (0 < y → -y < x.tmod y ∧ x.tmod y < y) ∧ (y < 0 → y < x.tmod y ∧ x.tmod y < -y) := by
  have h1 := Int.natAbs_tmod x y
  have h2 : x.natAbs % y.natAbs < y.natAbs := Nat.mod_lt _ (by omega)
  have h3 := Nat.mod_le x.natAbs y.natAbs
  have h4 : 0 ≤ x → 0 ≤ x.tmod y := fun h => Int.tmod_nonneg y h
  have h5 : x ≤ 0 → x.tmod y ≤ 0 := fun h => by
    have e : (-x).tmod y = -(x.tmod y) := Int.neg_tmod x y
    have := Int.tmod_nonneg (a := -x) y (by omega)
    omega
  omega

end Go.Proofs.Ytihbhbeaihdgnaa.Spn

/-
  Where a span is answered, the operator answers for all numbers of the arguments' spans, and its answer lies in the span.
-/
namespace Go.Proofs.Ytihbhbeaihdgnaa.Spn
open Go.RowKit Go.IntWalk
set_option linter.unusedVariables false

theorem wh_wd {x y : Int} (h : whB x y = true) : wd x = true ∧ wd y = true := by
  have := whB_iff.1 h
  exact ⟨wd_iff.2 (by omega), wd_iff.2 (by omega)⟩

/-- What is known of the corners of an operator of two. -/
theorem corn_of {op k s a b c d lo hi : Int} (ho : ar op = 2) (hco : cons op k s = true) (ha : W32 a) (hb : W32 b) (hc : W32 c) (hd : W32 d)
    (h : cornZ (fun u v => valZ op k s [u, v]) a b c d = ((lo, hi), 0)) (g : Int → Int → Int) (hg : ∀ x y, a ≤ x → x ≤ b → c ≤ y → y ≤ d → (ex op k s x y 0).2 = 0 → (ex op k s x y 0).1 = g x y) (hm : Mid g a b c d) (hab : a ≤ b) (hcd : c ≤ d)
    {x y : Int} (h1 : a ≤ x) (h2 : x ≤ b) (h3 : c ≤ y) (h4 : y ≤ d) (he : (ex op k s x y 0).2 = 0) : lo ≤ (ex op k s x y 0).1 ∧ (ex op k s x y 0).1 ≤ hi := by
  obtain ⟨e1, e2, e3, e4, rfl, rfl⟩ := cornZ_inv h
  simp only [val2 ho hco ha hc, val2 ho hco ha hd, val2 ho hco hb hc, val2 ho hco hb hd] at *
  obtain ⟨p1, w1, q1⟩ := fnE_ok e1
  obtain ⟨p2, w2, q2⟩ := fnE_ok e2
  obtain ⟨p3, w3, q3⟩ := fnE_ok e3
  obtain ⟨p4, w4, q4⟩ := fnE_ok e4
  rw [q1, q2, q3, q4]
  have k1 := hg a c (Int.le_refl _) hab (Int.le_refl _) hcd p1
  have k2 := hg a d (Int.le_refl _) hab hcd (Int.le_refl _) p2
  have k3 := hg b c hab (Int.le_refl _) (Int.le_refl _) hcd p3
  have k4 := hg b d hab (Int.le_refl _) hcd (Int.le_refl _) p4
  have k5 := hg x y h1 h2 h3 h4 he
  have hh := hm.hull hab hcd h1 h2 h3 h4
  rw [wd_iff] at w1 w2 w3 w4
  rw [k1] at w1; rw [k2] at w2; rw [k3] at w3; rw [k4] at w4
  rw [k1, k2, k3, k4, k5]
  omega

/-- The counts of a shift whose span was answered. -/
theorem corn_count {op k s a b c d lo hi : Int} (hop : op = 13 ∨ op = 14) (ha : W32 a) (hb : W32 b) (hc : W32 c) (hd : W32 d)
    (h : cornZ (fun u v => valZ op k s [u, v]) a b c d = ((lo, hi), 0)) : 0 ≤ c ∧ d ≤ 31 := by
  obtain ⟨e1, e2, -, -, -, -⟩ := cornZ_inv h
  have ho : ar op = 2 := by rcases hop with rfl | rfl <;> rfl
  have hco : cons op k s = true := by rcases hop with rfl | rfl <;> rfl
  simp only [val2 ho hco ha hc, val2 ho hco ha hd] at e1 e2
  have p1 := (fnE_ok e1).1
  have p2 := (fnE_ok e2).1
  have key : ∀ y, (ex op k s a y 0).2 = 0 → inB y 0 31 = true := by
    intro y hy
    cases hi : inB y 0 31
    · rcases hop with rfl | rfl <;> simp [ex, hi] at hy
    · rfl
  have r1 := inB_iff.1 (key c p1)
  have r2 := inB_iff.1 (key d p2)
  omega

theorem hold_corn {op k s a b c d lo hi x y : Int} (hop : op = 10 ∨ op = 13 ∨ op = 14 ∨ op = 18 ∨ op = 19 ∨ op = 20 ∨ op = 21) (hw : whB a b = true) (hw' : whB c d = true)
    (h : cornZ (fun u v => valZ op k s [u, v]) a b c d = ((lo, hi), 0)) (h1 : a ≤ x) (h2 : x ≤ b) (h3 : c ≤ y) (h4 : y ≤ d) :
    (ex op k s x y 0).2 = 0 ∧ lo ≤ (ex op k s x y 0).1 ∧ (ex op k s x y 0).1 ≤ hi := by
  obtain ⟨hab, A1, A2, B1, B2⟩ := whB_iff.1 hw
  obtain ⟨hcd, C1, C2, D1, D2⟩ := whB_iff.1 hw'
  have ho : ar op = 2 := by rcases hop with rfl | rfl | rfl | rfl | rfl | rfl | rfl <;> rfl
  have hco : cons op k s = true := by rcases hop with rfl | rfl | rfl | rfl | rfl | rfl | rfl <;> rfl
  rcases hop with rfl | rfl | rfl | hop
  · exact ⟨rfl, corn_of ho hco ⟨A1, A2⟩ ⟨B1, B2⟩ ⟨C1, C2⟩ ⟨D1, D2⟩ h (fun x y => x * y) (fun _ _ _ _ _ _ _ => rfl) (mul_mid _ _ _ _) hab hcd h1 h2 h3 h4 rfl⟩
  · obtain ⟨hc0, hd31⟩ := corn_count (.inl rfl) ⟨A1, A2⟩ ⟨B1, B2⟩ ⟨C1, C2⟩ ⟨D1, D2⟩ h
    have hi : ∀ y, c ≤ y → y ≤ d → inB y 0 31 = true := fun y p q => inB_t (by omega) (by omega)
    have he : ∀ x y, c ≤ y → y ≤ d → ex 13 k s x y 0 = (x * 2 ^ y.toNat, 0) := fun x y p q => by simp [ex, hi y p q]
    have e0 : (ex 13 k s x y 0).2 = 0 := by rw [he x y h3 h4]
    exact ⟨e0, corn_of ho hco ⟨A1, A2⟩ ⟨B1, B2⟩ ⟨C1, C2⟩ ⟨D1, D2⟩ h (fun x y => x * 2 ^ y.toNat) (fun x y _ _ p q _ => by rw [he x y p q]) (shl_mid _ _ _ _ hc0) hab hcd h1 h2 h3 h4 e0⟩
  · obtain ⟨hc0, hd31⟩ := corn_count (.inr rfl) ⟨A1, A2⟩ ⟨B1, B2⟩ ⟨C1, C2⟩ ⟨D1, D2⟩ h
    have hi : ∀ y, c ≤ y → y ≤ d → inB y 0 31 = true := fun y p q => inB_t (by omega) (by omega)
    have he : ∀ x y, c ≤ y → y ≤ d → ex 14 k s x y 0 = (x / 2 ^ y.toNat, 0) := fun x y p q => by simp [ex, hi y p q]
    have e0 : (ex 14 k s x y 0).2 = 0 := by rw [he x y h3 h4]
    exact ⟨e0, corn_of ho hco ⟨A1, A2⟩ ⟨B1, B2⟩ ⟨C1, C2⟩ ⟨D1, D2⟩ h (fun x y => x / 2 ^ y.toNat) (fun x y _ _ p q _ => by rw [he x y p q]) (shr_mid _ _ _ _ hc0) hab hcd h1 h2 h3 h4 e0⟩
  · have e0 : (ex op k s x y 0).2 = 0 := by rcases hop with rfl | rfl | rfl | rfl <;> rfl
    exact ⟨e0, corn_of ho hco ⟨A1, A2⟩ ⟨B1, B2⟩ ⟨C1, C2⟩ ⟨D1, D2⟩ h (fun x y => (ex op k s x y 0).1) (fun _ _ _ _ _ _ _ => rfl) (cmp_mid op hop k s a b c d) hab hcd h1 h2 h3 h4 e0⟩

theorem hold_div {op k s a b c d lo hi x y : Int} (hop : op = 11 ∨ op = 12) (hw : whB a b = true) (hw' : whB c d = true)
    (h : divZ (fun u v => valZ op k s [u, v]) op a b c d = ((lo, hi), 0)) (h1 : a ≤ x) (h2 : x ≤ b) (h3 : c ≤ y) (h4 : y ≤ d) :
    (ex op k s x y 0).2 = 0 ∧ lo ≤ (ex op k s x y 0).1 ∧ (ex op k s x y 0).1 ≤ hi := by
  obtain ⟨hab, A1, A2, B1, B2⟩ := whB_iff.1 hw
  obtain ⟨hcd, C1, C2, D1, D2⟩ := whB_iff.1 hw'
  unfold divZ at h
  cases h0 : hasB c d 0
  · rw [h0] at h
    simp only [Bool.false_eq_true, if_false] at h
    have hz : ¬ (c ≤ 0 ∧ 0 ≤ d) := fun hh => by rw [hasB_iff.2 hh] at h0; cases h0
    have hy : y ≠ 0 := by omega
    rcases hop with rfl | rfl
    · simp only [if_true] at h
      have he : ∀ x y, c ≤ y → y ≤ d → ex 11 k s x y 0 = (x.tdiv y, 0) := fun x y p q => by simp [ex, show y ≠ 0 by omega]
      have e0 : (ex 11 k s x y 0).2 = 0 := by rw [he x y h3 h4]
      exact ⟨e0, corn_of rfl rfl ⟨A1, A2⟩ ⟨B1, B2⟩ ⟨C1, C2⟩ ⟨D1, D2⟩ h (fun x y => x.tdiv y) (fun x y _ _ p q _ => by rw [he x y p q]) (tdiv_mid _ _ _ _ hz) hab hcd h1 h2 h3 h4 e0⟩
    · rw [if_neg (by decide)] at h
      have he : ex 12 k s x y 0 = (x.tmod y, 0) := by simp [ex, hy]
      rw [he]
      have hf := tmod_facts x y hy
      unfold leftZ at h
      simp only [Prod.mk.injEq, and_true] at h
      obtain ⟨rfl, rfl⟩ := h
      refine ⟨rfl, ?_, ?_⟩
      · show (if a < 0 then _ else _) ≤ x.tmod y
        split <;> omega
      · show x.tmod y ≤ (if 0 < b then _ else _)
        split <;> omega
  · rw [h0] at h
    simp at h

theorem muls_mid {k s a b x : Int} (hk : 1 ≤ k) (h1 : a ≤ x) (h2 : x ≤ b) (ha : max a (-a) * k ≤ 4611686018427387904) (hb : max b (-b) * k ≤ 4611686018427387904) : max x (-x) * k ≤ 4611686018427387904 := by
  rcases (show max x (-x) ≤ max a (-a) ∨ max x (-x) ≤ max b (-b) by omega) with h | h
  · exact Int.le_trans (Int.mul_le_mul_of_nonneg_right h (by omega)) ha
  · exact Int.le_trans (Int.mul_le_mul_of_nonneg_right h (by omega)) hb

theorem ex33 {k s a : Int} (h : (ex 33 k s a 0 0).2 = 0) : max a (-a) * k ≤ 4611686018427387904 := by
  have e : ex 33 k s a 0 0 = if 4611686018427387904 < max a (-a) * k then (0, 13) else (a * k / 2 ^ s.toNat, 0) := rfl
  rw [e] at h
  split at h
  · simp at h
  · omega
theorem ex33' {k s a : Int} (h : max a (-a) * k ≤ 4611686018427387904) : ex 33 k s a 0 0 = (a * k / 2 ^ s.toNat, 0) := by
  have e : ex 33 k s a 0 0 = if 4611686018427387904 < max a (-a) * k then (0, 13) else (a * k / 2 ^ s.toNat, 0) := rfl
  rw [e, if_neg (by omega)]

/-- Operators of one that never fall. -/
theorem hold_ends1 {op k s a b lo hi x : Int} (hop : op = 7 ∨ op = 29 ∨ op = 30 ∨ op = 33) (hco : cons op k s = true) (hw : whB a b = true)
    (h : endsZ (fun xs => valZ op k s xs) [(a, b)] = ((lo, hi), 0)) (h1 : a ≤ x) (h2 : x ≤ b) :
    (ex op k s x 0 0).2 = 0 ∧ lo ≤ (ex op k s x 0 0).1 ∧ (ex op k s x 0 0).1 ≤ hi := by
  obtain ⟨hab, A1, A2, B1, B2⟩ := whB_iff.1 hw
  have ho : ar op = 1 := by rcases hop with rfl | rfl | rfl | rfl <;> rfl
  obtain ⟨e1, e2, rfl, rfl⟩ := endsZ_inv h
  have f1 : fsts [(a, b)] = [a] := rfl
  have f2 : snds [(a, b)] = [b] := rfl
  simp only [f1, f2, val1 ho hco ⟨A1, A2⟩, val1 ho hco ⟨B1, B2⟩] at *
  obtain ⟨p1, w1, q1⟩ := fnE_ok e1
  obtain ⟨p2, w2, q2⟩ := fnE_ok e2
  rw [q1, q2]
  rcases hop with rfl | rfl | rfl | rfl
  · refine ⟨rfl, ?_⟩
    show tr (decide (0 < a)) - tr (decide (a < 0)) ≤ tr (decide (0 < x)) - tr (decide (x < 0)) ∧ tr (decide (0 < x)) - tr (decide (x < 0)) ≤ tr (decide (0 < b)) - tr (decide (b < 0))
    have t1 := trd (0 < a)
    have t2 := trd (a < 0)
    have t3 := trd (0 < x)
    have t4 := trd (x < 0)
    have t5 := trd (0 < b)
    have t6 := trd (b < 0)
    omega
  · refine ⟨rfl, ?_⟩
    have hp := (pow_mono (Nat.le_refl k.toNat)).2
    exact ⟨Int.mul_le_mul_of_nonneg_right h1 (by omega), Int.mul_le_mul_of_nonneg_right h2 (by omega)⟩
  · refine ⟨rfl, ?_⟩
    have hp := (pow_mono (Nat.le_refl k.toNat)).2
    exact ⟨ediv_mono (by omega) h1, ediv_mono (by omega) h2⟩
  · have hk : (inB k 1 4611686018427387904 && inB s 0 62) = true := hco
    rw [Bool.and_eq_true, inB_iff, inB_iff] at hk
    have ma := ex33 p1
    have mb := ex33 p2
    have mx := muls_mid (s := s) hk.1.1 h1 h2 ma mb
    rw [ex33' ma, ex33' mb, ex33' mx]
    have hp := (pow_mono (Nat.le_refl s.toNat)).2
    exact ⟨rfl, ediv_mono (by omega) (Int.mul_le_mul_of_nonneg_right h1 (by omega)), ediv_mono (by omega) (Int.mul_le_mul_of_nonneg_right h2 (by omega))⟩

theorem hold_ends2 {op k s a b c d lo hi x y : Int} (hop : op = 24 ∨ op = 25) (hw : whB a b = true) (hw' : whB c d = true)
    (h : endsZ (fun xs => valZ op k s xs) [(a, b), (c, d)] = ((lo, hi), 0)) (h1 : a ≤ x) (h2 : x ≤ b) (h3 : c ≤ y) (h4 : y ≤ d) :
    (ex op k s x y 0).2 = 0 ∧ lo ≤ (ex op k s x y 0).1 ∧ (ex op k s x y 0).1 ≤ hi := by
  obtain ⟨hab, A1, A2, B1, B2⟩ := whB_iff.1 hw
  obtain ⟨hcd, C1, C2, D1, D2⟩ := whB_iff.1 hw'
  have ho : ar op = 2 := by rcases hop with rfl | rfl <;> rfl
  have hco : cons op k s = true := by rcases hop with rfl | rfl <;> rfl
  obtain ⟨e1, e2, rfl, rfl⟩ := endsZ_inv h
  have f1 : fsts [(a, b), (c, d)] = [a, c] := rfl
  have f2 : snds [(a, b), (c, d)] = [b, d] := rfl
  simp only [f1, f2, val2 ho hco ⟨A1, A2⟩ ⟨C1, C2⟩, val2 ho hco ⟨B1, B2⟩ ⟨D1, D2⟩] at *
  obtain ⟨p1, w1, q1⟩ := fnE_ok e1
  obtain ⟨p2, w2, q2⟩ := fnE_ok e2
  rw [q1, q2]
  rcases hop with rfl | rfl
  · refine ⟨rfl, ?_⟩
    show min a c ≤ min x y ∧ min x y ≤ min b d
    omega
  · refine ⟨rfl, ?_⟩
    show max a c ≤ max x y ∧ max x y ≤ max b d
    omega

theorem hold_ends3 {op k s a b c d e f lo hi x y z : Int} (hop : op = 26 ∨ op = 27) (hw : whB a b = true) (hw' : whB c d = true) (hw'' : whB e f = true)
    (h : endsZ (fun xs => valZ op k s xs) [(a, b), (c, d), (e, f)] = ((lo, hi), 0)) (h1 : a ≤ x) (h2 : x ≤ b) (h3 : c ≤ y) (h4 : y ≤ d) (h5 : e ≤ z) (h6 : z ≤ f) :
    (ex op k s x y z).2 = 0 ∧ lo ≤ (ex op k s x y z).1 ∧ (ex op k s x y z).1 ≤ hi := by
  obtain ⟨hab, A1, A2, B1, B2⟩ := whB_iff.1 hw
  obtain ⟨hcd, C1, C2, D1, D2⟩ := whB_iff.1 hw'
  obtain ⟨hef, E1, E2, F1, F2⟩ := whB_iff.1 hw''
  have ho : ar op = 3 := by rcases hop with rfl | rfl <;> rfl
  have hco : cons op k s = true := by rcases hop with rfl | rfl <;> rfl
  obtain ⟨e1, e2, rfl, rfl⟩ := endsZ_inv h
  have f1 : fsts [(a, b), (c, d), (e, f)] = [a, c, e] := rfl
  have f2 : snds [(a, b), (c, d), (e, f)] = [b, d, f] := rfl
  simp only [f1, f2, val3 ho hco ⟨A1, A2⟩ ⟨C1, C2⟩ ⟨E1, E2⟩, val3 ho hco ⟨B1, B2⟩ ⟨D1, D2⟩ ⟨F1, F2⟩] at *
  obtain ⟨p1, w1, q1⟩ := fnE_ok e1
  obtain ⟨p2, w2, q2⟩ := fnE_ok e2
  rw [q1, q2]
  rcases hop with rfl | rfl
  · refine ⟨rfl, ?_⟩
    show min e (max a c) ≤ min z (max x y) ∧ min z (max x y) ≤ min f (max b d)
    omega
  · refine ⟨rfl, ?_⟩
    show max (min a c) (min (max a c) e) ≤ max (min x y) (min (max x y) z) ∧ max (min x y) (min (max x y) z) ≤ max (min b d) (min (max b d) f)
    omega

theorem hold_both {a b c d x y : Int} (hw : whB a b = true) (hw' : whB c d = true) (h1 : a ≤ x) (h2 : x ≤ b) (h3 : c ≤ y) (h4 : y ≤ d) :
    (bothZ a b c d).1 ≤ bw .and x y ∧ bw .and x y ≤ (bothZ a b c d).2 := by
  obtain ⟨hab, A1, A2, B1, B2⟩ := whB_iff.1 hw
  obtain ⟨hcd, C1, C2, D1, D2⟩ := whB_iff.1 hw'
  unfold bothZ
  by_cases p : 0 ≤ a
  · have q1 := bw_below' (a := x) (b := y) (by omega) (by omega)
    by_cases q : 0 ≤ c
    · have q2 := bw_below (a := x) (b := y) (by omega) (by omega)
      rw [if_pos ⟨p, q⟩]
      show 0 ≤ _ ∧ _ ≤ min b d
      omega
    · rw [if_neg (by omega), if_pos p]
      show 0 ≤ _ ∧ _ ≤ b
      omega
  · by_cases q : 0 ≤ c
    · have q2 := bw_below (a := x) (b := y) (by omega) (by omega)
      rw [if_neg (by omega), if_neg p, if_pos q]
      show 0 ≤ _ ∧ _ ≤ d
      omega
    · rw [if_neg (by omega), if_neg p, if_neg q]
      exact bw_in .and ⟨A1, A2⟩ ⟨B1, B2⟩ ⟨C1, C2⟩ ⟨D1, D2⟩ h1 h2 h3 h4

/-! ### which way a span is reckoned -/
theorem rk_corn {op k s a b c d : Int} (h : op = 10 ∨ op = 13 ∨ op = 14 ∨ op = 18 ∨ op = 19 ∨ op = 20 ∨ op = 21) : reckZ op k s [(a, b), (c, d)] = cornZ (fun u v => valZ op k s [u, v]) a b c d := by
  unfold reckZ; rw [if_neg (by omega), if_neg (by omega), if_neg (by omega), if_pos h]; rfl
theorem rk_div {op k s a b c d : Int} (h : op = 11 ∨ op = 12) : reckZ op k s [(a, b), (c, d)] = divZ (fun u v => valZ op k s [u, v]) op a b c d := by
  unfold reckZ; rw [if_neg (by omega), if_neg (by omega), if_pos h]; rfl
theorem rk_ends {op k s : Int} {L : List (Int × Int)} (h : op = 7 ∨ op = 24 ∨ op = 25 ∨ op = 26 ∨ op = 27 ∨ op = 29 ∨ op = 30 ∨ op = 33) : reckZ op k s L = endsZ (fun xs => valZ op k s xs) L := by
  unfold reckZ; rw [if_neg (by omega), if_neg (by omega), if_neg (by omega), if_neg (by omega), if_pos h]
theorem rk_one {op k s a b : Int} (h : op = 5 ∨ op = 6) : reckZ op k s [(a, b)] = (oneZ op a b, 0) := by
  unfold reckZ; rw [if_neg (by omega), if_neg (by omega), if_neg (by omega), if_neg (by omega), if_neg (by omega)]; rfl
theorem rk_two {op k s a b c d : Int} (h : op = 8 ∨ op = 9 ∨ op = 15 ∨ op = 16 ∨ op = 17 ∨ op = 22 ∨ op = 23) : reckZ op k s [(a, b), (c, d)] = (twoZ op a b c d, 0) := by
  unfold reckZ; rw [if_neg (by omega), if_neg (by omega), if_neg (by omega), if_neg (by omega), if_neg (by omega)]; rfl
theorem rk_three {op k s a b c d e f : Int} (h : op = 28) : reckZ op k s [(a, b), (c, d), (e, f)] = (selZ a b c d e f, 0) := by
  unfold reckZ; rw [if_neg (by omega), if_neg (by omega), if_neg (by omega), if_neg (by omega), if_neg (by omega)]; rfl
theorem rk_mulk {op k s a b : Int} (h : op = 32) : reckZ op k s [(a, b)] = cornZ (fun u v => valZ 10 0 0 [u, v]) a b k k := by
  unfold reckZ; rw [if_pos h]; rfl
theorem rk_andk {op k s a b : Int} (h : op = 31) : reckZ op k s [(a, b)] = (bothZ a b k k, 0) := by
  unfold reckZ; rw [if_neg (by omega), if_pos h]; rfl

theorem two_ways {op : Int} (ho : ar op = 2) : (op = 11 ∨ op = 12) ∨ (op = 10 ∨ op = 13 ∨ op = 14 ∨ op = 18 ∨ op = 19 ∨ op = 20 ∨ op = 21) ∨ (op = 24 ∨ op = 25) ∨ (op = 8 ∨ op = 9 ∨ op = 15 ∨ op = 16 ∨ op = 17 ∨ op = 22 ∨ op = 23) := by
  have hr := inB_iff.1 (two_cases ho)
  omega

theorem hold_1 {op k s a b lo hi x : Int} (ho : ar op = 1) (hco : cons op k s = true) (hw : whB a b = true) (h : reckZ op k s [(a, b)] = ((lo, hi), 0)) (h1 : a ≤ x) (h2 : x ≤ b) :
    (ex op k s x 0 0).2 = 0 ∧ lo ≤ (ex op k s x 0 0).1 ∧ (ex op k s x 0 0).1 ≤ hi := by
  obtain ⟨hab, A1, A2, B1, B2⟩ := whB_iff.1 hw
  rcases one_cases ho with rfl | rfl | rfl | rfl | rfl | rfl | rfl | rfl
  · have h' : (oneZ 5 a b, (0 : Int)) = ((lo, hi), 0) := by rw [← rk_one (.inl rfl)]; exact h
    simp only [oneZ, if_true, Prod.mk.injEq, and_true] at h'
    obtain ⟨rfl, rfl⟩ := h'
    exact ⟨rfl, show -b ≤ -x by omega, show -x ≤ -a by omega⟩
  · have h' : (oneZ 6 a b, (0 : Int)) = ((lo, hi), 0) := by rw [← rk_one (.inr rfl)]; exact h
    refine ⟨rfl, ?_⟩
    show lo ≤ max x (-x) ∧ max x (-x) ≤ hi
    simp only [oneZ, show (6 : Int) ≠ 5 by decide, if_false, Prod.mk.injEq, and_true] at h'
    split at h'
    · simp only [Prod.mk.injEq] at h'; omega
    · split at h' <;> simp only [Prod.mk.injEq] at h' <;> omega
  · rw [rk_ends (by simp)] at h
    exact hold_ends1 (.inl rfl) hco hw h h1 h2
  · rw [rk_ends (by simp)] at h
    exact hold_ends1 (.inr (.inl rfl)) hco hw h h1 h2
  · rw [rk_ends (by simp)] at h
    exact hold_ends1 (.inr (.inr (.inl rfl))) hco hw h h1 h2
  · have hk : inB k 0 2147483647 = true := hco
    have hk' := inB_iff.1 hk
    have h' : (bothZ a b k k, (0 : Int)) = ((lo, hi), 0) := by rw [← rk_andk rfl]; exact h
    have e : bothZ a b k k = (lo, hi) := by simpa using h'
    have hh := hold_both hw (show whB k k = true from whB_iff.2 (by omega)) h1 h2 (Int.le_refl k) (Int.le_refl k)
    rw [e] at hh
    exact ⟨rfl, hh⟩
  · have hk : wd k = true := hco
    have hk' := wd_iff.1 hk
    have h' : cornZ (fun u v => valZ 10 0 0 [u, v]) a b k k = ((lo, hi), 0) := by rw [← rk_mulk (k := k) (s := s) rfl]; exact h
    have hh := hold_corn (op := 10) (k := 0) (s := 0) (.inl rfl) hw (show whB k k = true from whB_iff.2 (by omega)) h' h1 h2 (Int.le_refl k) (Int.le_refl k)
    exact hh
  · rw [rk_ends (by simp)] at h
    exact hold_ends1 (.inr (.inr (.inr rfl))) hco hw h h1 h2

theorem hold_2 {op k s a b c d lo hi x y : Int} (ho : ar op = 2) (hw : whB a b = true) (hw' : whB c d = true) (h : reckZ op k s [(a, b), (c, d)] = ((lo, hi), 0)) (h1 : a ≤ x) (h2 : x ≤ b) (h3 : c ≤ y) (h4 : y ≤ d) :
    (ex op k s x y 0).2 = 0 ∧ lo ≤ (ex op k s x y 0).1 ∧ (ex op k s x y 0).1 ≤ hi := by
  obtain ⟨hab, A1, A2, B1, B2⟩ := whB_iff.1 hw
  obtain ⟨hcd, C1, C2, D1, D2⟩ := whB_iff.1 hw'
  rcases two_ways ho with hop | hop | hop | hop
  · rw [rk_div hop] at h
    exact hold_div hop hw hw' h h1 h2 h3 h4
  · rw [rk_corn hop] at h
    exact hold_corn hop hw hw' h h1 h2 h3 h4
  · rw [rk_ends (by omega)] at h
    exact hold_ends2 hop hw hw' h h1 h2 h3 h4
  rw [rk_two hop] at h
  rcases hop with rfl | rfl | rfl | rfl | rfl | rfl | rfl
  · have h' : ((a + c, b + d), (0 : Int)) = ((lo, hi), 0) := h
    simp only [Prod.mk.injEq, and_true] at h'
    exact ⟨rfl, show lo ≤ x + y ∧ x + y ≤ hi by omega⟩
  · have h' : ((a - d, b - c), (0 : Int)) = ((lo, hi), 0) := h
    simp only [Prod.mk.injEq, and_true] at h'
    exact ⟨rfl, show lo ≤ x - y ∧ x - y ≤ hi by omega⟩
  · have h' : (bothZ a b c d, (0 : Int)) = ((lo, hi), 0) := h
    have e : bothZ a b c d = (lo, hi) := by simpa using h'
    have hh := hold_both hw hw' h1 h2 h3 h4
    rw [e] at hh
    exact ⟨rfl, hh⟩
  · have h' : (eithZ 16 a b c d, (0 : Int)) = ((lo, hi), 0) := h
    have hin := bw_in .or ⟨A1, A2⟩ ⟨B1, B2⟩ ⟨C1, C2⟩ ⟨D1, D2⟩ h1 h2 h3 h4
    refine ⟨rfl, ?_⟩
    show lo ≤ bw .or x y ∧ bw .or x y ≤ hi
    unfold eithZ at h'
    by_cases p : a < 0 ∨ c < 0
    · rw [if_pos p] at h'
      simp only [Prod.mk.injEq, and_true] at h'
      omega
    · rw [if_neg p, if_pos rfl] at h'
      simp only [Prod.mk.injEq, and_true] at h'
      have := bw_up (a := x) (b := y) (by omega) (by omega)
      omega
  · have h' : (eithZ 17 a b c d, (0 : Int)) = ((lo, hi), 0) := h
    have hin := bw_in .xor ⟨A1, A2⟩ ⟨B1, B2⟩ ⟨C1, C2⟩ ⟨D1, D2⟩ h1 h2 h3 h4
    refine ⟨rfl, ?_⟩
    show lo ≤ bw .xor x y ∧ bw .xor x y ≤ hi
    unfold eithZ at h'
    by_cases p : a < 0 ∨ c < 0
    · rw [if_pos p] at h'
      simp only [Prod.mk.injEq, and_true] at h'
      omega
    · rw [if_neg p, if_neg (by decide)] at h'
      simp only [Prod.mk.injEq, and_true] at h'
      have := bw_up (a := x) (b := y) (by omega) (by omega)
      omega
  · have h' : (eqZ a b c d, (0 : Int)) = ((lo, hi), 0) := h
    refine ⟨rfl, ?_⟩
    show lo ≤ tr (x == y) ∧ tr (x == y) ≤ hi
    have t := trb x y
    unfold eqZ at h'
    split at h'
    · simp only [Prod.mk.injEq, and_true] at h'; omega
    · split at h' <;> simp only [Prod.mk.injEq, and_true] at h' <;> omega
  · have h' : ((1 - (eqZ a b c d).2, 1 - (eqZ a b c d).1), (0 : Int)) = ((lo, hi), 0) := h
    refine ⟨rfl, ?_⟩
    show lo ≤ tr (x != y) ∧ tr (x != y) ≤ hi
    have t := trb x y
    unfold eqZ at h'
    split at h'
    · simp only [Prod.mk.injEq, and_true] at h'; omega
    · split at h' <;> simp only [Prod.mk.injEq, and_true] at h' <;> omega

theorem hold_3 {op k s a b c d e f lo hi x y z : Int} (ho : ar op = 3) (hw : whB a b = true) (hw' : whB c d = true) (hw'' : whB e f = true) (h : reckZ op k s [(a, b), (c, d), (e, f)] = ((lo, hi), 0))
    (h1 : a ≤ x) (h2 : x ≤ b) (h3 : c ≤ y) (h4 : y ≤ d) (h5 : e ≤ z) (h6 : z ≤ f) :
    (ex op k s x y z).2 = 0 ∧ lo ≤ (ex op k s x y z).1 ∧ (ex op k s x y z).1 ≤ hi := by
  have hr := inB_iff.1 (three_cases ho)
  rcases (show op = 26 ∨ op = 27 ∨ op = 28 by omega) with rfl | rfl | rfl
  · rw [rk_ends (by simp)] at h
    exact hold_ends3 (.inl rfl) hw hw' hw'' h h1 h2 h3 h4 h5 h6
  · rw [rk_ends (by simp)] at h
    exact hold_ends3 (.inr rfl) hw hw' hw'' h h1 h2 h3 h4 h5 h6
  · have h' : (selZ a b c d e f, (0 : Int)) = ((lo, hi), 0) := by rw [← rk_three rfl]; exact h
    refine ⟨rfl, ?_⟩
    show lo ≤ (if x = 0 then z else y) ∧ (if x = 0 then z else y) ≤ hi
    unfold selZ at h'
    cases h0 : hasB a b 0
    · rw [h0] at h'
      have hz : ¬ (a ≤ 0 ∧ 0 ≤ b) := fun hh => by rw [hasB_iff.2 hh] at h0; cases h0
      simp only [Bool.false_eq_true, if_false, Prod.mk.injEq, and_true] at h'
      rw [if_neg (by omega)]
      omega
    · rw [h0] at h'
      simp only [if_true] at h'
      split at h'
      · simp only [Prod.mk.injEq, and_true] at h'
        rw [if_pos (by omega)]
        omega
      · simp only [Prod.mk.injEq, and_true] at h'
        split <;> omega

end Go.Proofs.Ytihbhbeaihdgnaa.Spn

/-
  The stage's theorem on whole numbers, whatever the operator; and what the laws' walks share.
-/
namespace Go.Proofs.Ytihbhbeaihdgnaa.Spn
open Go.RowKit Go.IntWalk Go.Sort
set_option linter.unusedVariables false

/-- Numbers of the spans, one of each. -/
def Ins : List Int → List (Int × Int) → Prop
  | [], [] => True
  | x :: xs, p :: L => (p.1 ≤ x ∧ x ≤ p.2) ∧ Ins xs L
  | _, _ => False

theorem smay_inv {op k s : Int} {L : List (Int × Int)} (h : smayB op k s L = true) : (L.length : Int) = ar op ∧ 1 ≤ ar op ∧ cons op k s = true ∧ (∀ p ∈ L, whB p.1 p.2 = true) ∧ L.length ≤ 3 := by
  simp only [smayB, Bool.and_eq_true, decide_eq_true_eq, List.all_eq_true] at h
  obtain ⟨⟨⟨m1, m2⟩, m3⟩, m4⟩ := h
  have h3 := ar_le op
  exact ⟨m2, m1, m3, m4, by omega⟩

theorem holds_ex {op k s lo hi : Int} {L : List (Int × Int)} {xs : List Int} (hm : smayB op k s L = true) (hr : reckZ op k s L = ((lo, hi), 0)) (hi' : Ins xs L) :
    mayB op k s xs = true ∧ (ex op k s (xs.getD 0 0) (xs.getD 1 0) (xs.getD 2 0)).2 = 0 ∧ lo ≤ (ex op k s (xs.getD 0 0) (xs.getD 1 0) (xs.getD 2 0)).1 ∧ (ex op k s (xs.getD 0 0) (xs.getD 1 0) (xs.getD 2 0)).1 ≤ hi := by
  obtain ⟨m2, m1, m3, m4, m5⟩ := smay_inv hm
  match L, xs, hi', m2, m4, hr with
  | [(a, b)], [x], hi', m2, m4, hr =>
    have w1 : whB a b = true := m4 (a, b) (by simp)
    obtain ⟨⟨h1, h2⟩, -⟩ := hi'
    have g := whB_iff.1 w1
    simp only at h1 h2
    exact ⟨may1 (by simpa using m2.symm) m3 (by omega), hold_1 (by simpa using m2.symm) m3 w1 hr h1 h2⟩
  | [(a, b), (c, d)], [x, y], hi', m2, m4, hr =>
    have w1 : whB a b = true := m4 (a, b) (by simp)
    have w2 : whB c d = true := m4 (c, d) (by simp)
    obtain ⟨⟨h1, h2⟩, ⟨h3, h4⟩, -⟩ := hi'
    have g := whB_iff.1 w1
    have g' := whB_iff.1 w2
    simp only at h1 h2 h3 h4
    exact ⟨may2 (by simpa using m2.symm) m3 (by omega) (by omega), hold_2 (by simpa using m2.symm) w1 w2 hr h1 h2 h3 h4⟩
  | [(a, b), (c, d), (e, f)], [x, y, z], hi', m2, m4, hr =>
    have w1 : whB a b = true := m4 (a, b) (by simp)
    have w2 : whB c d = true := m4 (c, d) (by simp)
    have w3 : whB e f = true := m4 (e, f) (by simp)
    obtain ⟨⟨h1, h2⟩, ⟨h3, h4⟩, ⟨h5, h6⟩, -⟩ := hi'
    have g := whB_iff.1 w1
    have g' := whB_iff.1 w2
    have g'' := whB_iff.1 w3
    simp only at h1 h2 h3 h4 h5 h6
    exact ⟨may3 (by simpa using m2.symm) m3 (by omega) (by omega) (by omega), hold_3 (by simpa using m2.symm) w1 w2 w3 hr h1 h2 h3 h4 h5 h6⟩
  | [], xs, hi', m2, m4, hr => simp at m2; omega
  | _ :: _ :: _ :: _ :: _, xs, hi', m2, m4, hr => simp at m5
  | [_], [], hi', _, _, _ => exact hi'.elim
  | [_], _ :: _ :: _, hi', _, _, _ => exact hi'.2.elim
  | [_, _], [], hi', _, _, _ => exact hi'.elim
  | [_, _], [_], hi', _, _, _ => exact hi'.2.elim
  | [_, _], _ :: _ :: _ :: _, hi', _, _, _ => exact hi'.2.2.elim
  | [_, _, _], [], hi', _, _, _ => exact hi'.elim
  | [_, _, _], [_], hi', _, _, _ => exact hi'.2.elim
  | [_, _, _], [_, _], hi', _, _, _ => exact hi'.2.2.elim
  | [_, _, _], _ :: _ :: _ :: _ :: _, hi', _, _, _ => exact hi'.2.2.2.elim

theorem holds_all {op k s lo hi : Int} {L : List (Int × Int)} {xs : List Int} (h : ofZ op k s L = ((lo, hi), 0)) (hi' : Ins xs L) :
    ∃ v, valZ op k s xs = (v, 0) ∧ lo ≤ v ∧ v ≤ hi := by
  obtain ⟨hm, hr, hw⟩ := ofZ_inv h
  obtain ⟨h1, h2, h3, h4⟩ := holds_ex hm hr hi'
  have g := whB_iff.1 hw
  refine ⟨_, ?_, h3, h4⟩
  rw [val_fnE h1]
  exact fnE_mk h2 (wd_iff.2 (by omega))

theorem ofZ_err {op k s : Int} {L : List (Int × Int)} {Z : Int × Int} {e : Int} (h : ofZ op k s L = (Z, e)) (he : e ≠ 0) : Z = (0, 0) := by
  unfold ofZ at h
  by_cases hm : smayB op k s L = true
  · rw [if_pos hm] at h
    unfold finZ at h
    split at h
    · simp only [Prod.mk.injEq] at h; exact h.1.symm
    · split at h
      · simp only [Prod.mk.injEq] at h; exact absurd h.2.symm he
      · simp only [Prod.mk.injEq] at h; exact h.1.symm
  · rw [if_neg hm] at h
    simp only [Prod.mk.injEq] at h; exact h.1.symm

/-- The points of the first j spans. -/
def pts (L : List (Int × Int)) (t : Nat → Int) (j : Nat) : List Int := (List.range j).map fun i => ptZ (L.getD i (0, 0)).1 (L.getD i (0, 0)).2 (t i)
theorem pts_succ (L : List (Int × Int)) (t : Nat → Int) (j : Nat) : pts L t (j + 1) = pts L t j ++ [ptZ (L.getD j (0, 0)).1 (L.getD j (0, 0)).2 (t j)] := by
  simp [pts, List.range_succ]
theorem pts_len (L : List (Int × Int)) (t : Nat → Int) (j : Nat) : (pts L t j).length = j := by simp [pts]
theorem ins_of_get : ∀ {L : List (Int × Int)} {xs : List Int}, xs.length = L.length → (∀ i, i < L.length → (L.getD i (0, 0)).1 ≤ xs.getD i 0 ∧ xs.getD i 0 ≤ (L.getD i (0, 0)).2) → Ins xs L
  | [], [], _, _ => trivial
  | [], _ :: _, h, _ => by simp at h
  | _ :: _, [], h, _ => by simp at h
  | p :: L, x :: xs, h, hg => ⟨by have := hg 0 (by simp); simpa using this, ins_of_get (by simpa using h) (fun i hi => by have := hg (i + 1) (by simp; omega); simpa using this)⟩
theorem pts_in {L : List (Int × Int)} {t : Nat → Int} (h : ∀ p ∈ L, whB p.1 p.2 = true) : Ins (pts L t L.length) L := by
  refine ins_of_get (pts_len _ _ _) fun i hi => ?_
  have e : (pts L t L.length).getD i 0 = ptZ (L.getD i (0, 0)).1 (L.getD i (0, 0)).2 (t i) := by simp [pts, List.getD, hi]
  rw [e]
  have hw : whB (L.getD i (0, 0)).1 (L.getD i (0, 0)).2 = true := h _ (by simp [List.getD, hi])
  exact ptZ_in (whB_iff.1 hw).1

/-- The block of a call. -/
abbrev callC (op k s : Int) (a : Option Addr) (n cap : Nat) : Array Value := #[.int .i64 op, .int .i64 k, .int .i64 s, .slice a n cap]
theorem facts4 {W : World} {b : Nat} {t : TypeId} {x y z u : Value} (h : HasC W b t #[x, y, z, u]) : W.cell? ⟨b, 0, none⟩ = some x ∧ W.cell? ⟨b, 1, none⟩ = some y ∧ W.cell? ⟨b, 2, none⟩ = some z ∧ W.cell? ⟨b, 3, none⟩ = some u :=
  ⟨h.cell 0 rfl, h.cell 1 rfl, h.cell 2 rfl, h.cell 3 rfl⟩

/-- One list: the second of two being nil. -/
abbrev En1 (w W : World) (v : Value) (n : Nat) (xs : List Int) : Prop := En w W v (.slice none 0 0) n 0 xs []
theorem En1.start (W : World) : En1 W W (.slice none 0 0) 0 [] := by
  refine ⟨⟨rfl, .inl ⟨rfl, rfl⟩⟩, ⟨rfl, .inl ⟨rfl, rfl⟩⟩, ?_, Below.refl _ _⟩
  intro g hg
  simp [Value.ownBlock] at hg
theorem En.later {w W W' : World} {v1 v2 : Value} {n1 n2 : Nat} {xs ys : List Int} (h : En w W v1 v2 n1 n2 xs ys) (hb : Below W.heap.size W W') : En w W' v1 v2 n1 n2 xs ys := by
  have hg : W.grownBy W' none := ⟨hb.os, hb.tape, hb.output, hb.size, fun k hk _ => hb.block k hk⟩
  refine ⟨h.a.kept hg ?_, h.b.kept hg ?_, h.ap, h.bel.trans (hb.mono h.bel.size)⟩
  · cases hv : v1.ownBlock with
    | none => exact .inl rfl
    | some q => exact .inr (by simp)
  · cases hv : v2.ownBlock with
    | none => exact .inl rfl
    | some q => exact .inr (by simp)

end Go.Proofs.Ytihbhbeaihdgnaa.Spn

/-
  A list of spans that a call makes: an append of one span.
-/
namespace Go.Proofs.Ytihbhbeaihdgnaa.Spn
open Go.RowKit Go.IntWalk Go.Sort
set_option linter.unusedVariables false

theorem info26 : (Try.prog.info? 73).map (fun i => (i.zero, i.size, i.bytes)) = some (some (.agg #[.int .i64 0, .int .i64 0]), 2, 16) := by kernel_rfl

def sp64 (L : List (Int × Int)) : List Value := L.flatMap fun p => [.int .i64 p.1, .int .i64 p.2]
theorem sp64_len (L : List (Int × Int)) : (sp64 L).length = L.length * 2 := by
  induction L with
  | nil => rfl
  | cons p L ih => simp [sp64] at *; omega
theorem sp64_snoc (L : List (Int × Int)) (x y : Int) : sp64 (L ++ [(x, y)]) = sp64 L ++ [.int .i64 x, .int .i64 y] := by simp [sp64]
theorem sp64_get : ∀ (L : List (Int × Int)) (i : Nat), i < L.length → (sp64 L)[i * 2]? = some (.int .i64 (L.getD i (0, 0)).1) ∧ (sp64 L)[i * 2 + 1]? = some (.int .i64 (L.getD i (0, 0)).2)
  | [], i, h => by simp at h
  | p :: L, 0, h => by simp [sp64]
  | p :: L, i + 1, h => by
    have h' := sp64_get L i (by simpa using h)
    have e : sp64 (p :: L) = .int .i64 p.1 :: .int .i64 p.2 :: sp64 L := by simp [sp64]
    rw [e, show (i + 1) * 2 = i * 2 + 1 + 1 by omega, show i * 2 + 1 + 1 + 1 = (i * 2 + 1) + 1 + 1 by omega]
    simp only [List.getElem?_cons_succ]
    simpa using h'
theorem sp64_one (L : List (Int × Int)) : ∀ u ∈ sp64 L, u.oneCell' = true := by
  intro u hu
  simp only [sp64, List.mem_flatMap] at hu
  obtain ⟨p, -, hp⟩ := hu
  simp at hp
  rcases hp with rfl | rfl <;> simp [Value.oneCell']

/-- A list of spans in memory of the call's own. -/
structure Es (w W : World) (v : Value) (n : Nat) (L : List (Int × Int)) : Prop where
  a : W.ownsRow w.heap.size 73 2 v n (sp64 L)
  bel : Below w.heap.size w W
theorem Es.alloc {w W : World} {v : Value} {n : Nat} {L : List (Int × Int)} (h : Es w W v n L) (o : Obj) : Es w (W.alloc o) v n L := ⟨h.a.alloc o, h.bel.alloc h.bel.size o⟩
theorem Es.drew {w W : World} {v : Value} {n : Nat} {L : List (Int × Int)} (h : Es w W v n L) : Es w W.drew v n L := ⟨h.a.drew, h.bel.trans ⟨rfl, rfl, rfl, Nat.le_refl _, fun _ _ => rfl⟩⟩
theorem Es.start (W : World) : Es W W (.slice none 0 0) 0 [] := ⟨⟨rfl, .inl ⟨rfl, rfl⟩⟩, Below.refl _ _⟩
theorem Es.later {w W W' : World} {v : Value} {n : Nat} {L : List (Int × Int)} (h : Es w W v n L) (hb : Below W.heap.size W W') : Es w W' v n L := by
  have hg : W.grownBy W' none := ⟨hb.os, hb.tape, hb.output, hb.size, fun k hk _ => hb.block k hk⟩
  refine ⟨h.a.kept hg ?_, h.bel.trans (hb.mono h.bel.size)⟩
  cases hv : v.ownBlock with
  | none => exact .inl rfl
  | some q => exact .inr (by simp)

theorem Spans.of_owns {w : World} {base : Nat} {v : Value} {n : Nat} {L : List (Int × Int)} (h : w.ownsRow base 73 2 v n (sp64 L)) (hl : L.length = n) : ∃ a cap, v = .slice a n cap ∧ Spans w a n cap L := by
  have hcs := fun g hg => h.cells (g := g) hg
  rcases h.2 with ⟨rfl, rfl⟩ | ⟨g, cap, cur, rfl, hb, hg, hnc, hcm, hsz, htake⟩
  · exact ⟨none, 0, rfl, ⟨hl, Nat.le_refl _, Nat.zero_le _, fun _ => rfl, .inl rfl⟩⟩
  · refine ⟨some ⟨g, 0, none⟩, cap, rfl, ⟨hl, hnc, hcm, (fun h => by cases h), .inr ⟨g, 0, rfl, fun i hi => ?_⟩⟩⟩
    obtain ⟨e1, e2⟩ := sp64_get L i (by omega)
    have h1 := hcs g rfl _ _ e1
    have h2 := hcs g rfl _ _ e2
    rw [Addr.add_lit] at h1 h2
    exact ⟨h1, by rw [Nat.add_assoc]; exact h2⟩

theorem news_two {W : World} {b : Nat} {x y : Int} (h : HasC W b 73 #[.int .i64 x, .int .i64 y]) : ∀ j u, [Value.int .i64 x, .int .i64 y][j]? = some u → W.cell? ((⟨b, 0, none⟩ : Addr).add j) = some u := by
  intro j u hu
  rw [Addr.add_lit]
  match j, hu with
  | 0, hu => simp at hu; subst hu; exact h.cell 0 rfl
  | 1, hu => simp at hu; subst hu; exact h.cell 1 rfl
  | _ + 2, hu => simp at hu

theorem Es.grow {w W w' : World} {v : Value} {n : Nat} {L : List (Int × Int)} (h : Es w W v n L) {g cap : Nat} {x y : Int} (hl : L.length = n)
    (hown : w'.ownsRow w.heap.size 73 2 (.slice (some ⟨g, 0, none⟩) (n + 1) cap) (n + 1) (sp64 L ++ [.int .i64 x, .int .i64 y])) (hgrow : W.grownBy w' v.ownBlock) :
    Es w w' (.slice (some ⟨g, 0, none⟩) (n + 1) cap) (n + 1) (L ++ [(x, y)]) :=
  ⟨by rw [sp64_snoc]; exact hown, h.bel.grown hgrow h.bel.size (fun k hk => (h.a.lt k hk).1)⟩

/-- An append of one span, at a step of a plain region. -/
theorem list_span {w W : World} {v : Value} {n : Nat} {L : List (Int × Int)} {ops : Array Oper} {rest : List Oper} {o : Oper} {a : Act} {Q : Exit → Act → World → Prop}
    (hgd : o.guard = none) (s x : Operand) (ho : o.op = .call { callee := .builtin .append, args := #[s, x], argTypes := #[37, 37] })
    (hs : a.eval s = v) (hen : Es w W v n L) (b : Nat) (p q : Int) (hx : a.eval x = .slice (some ⟨b, 0, none⟩) 1 1) (hc : HasC W b 73 #[.int .i64 p, .int .i64 q]) (h3 : n ≤ 8796093022001)
    (h : ∀ g cap w', Es w w' (.slice (some ⟨g, 0, none⟩) (n + 1) cap) (n + 1) (L ++ [(p, q)]) → W.heap.size ≤ w'.heap.size → wpList Try.prog ops Q rest (a.put o.dst (.slice (some ⟨g, 0, none⟩) (n + 1) cap)) w') :
    wpList Try.prog ops Q (o :: rest) a W := by
  obtain ⟨i0, hi0, hz0, hz1, hz2⟩ := info_parts info26
  have hl : L.length = n := by
    have := hen.a.1
    rw [sp64_len] at this
    omega
  refine wpList_append_lies W hgd s x 37 ho w.heap.size 73 i0 _ 2 16 Try.underlying37 hi0 hz0 hz1 hz2 rfl (by omega) v n (sp64 L) hs hen.a ⟨b, 0, none⟩ 1 1 [.int .i64 p, .int .i64 q] hx rfl (news_two hc) (by simp [Value.oneCell']) (by omega) (by unfold maxLen; omega) (by omega) hen.bel.size W.heap.size rfl ?_
  intro g cap w' hown hgrow hat hlt
  exact h g cap w' (hen.grow hl hown hgrow) hgrow.size

/-- .. at a step of a region that draws. -/
theorem step_span {w W : World} {v : Value} {n : Nat} {L : List (Int × Int)} {ops : Array Oper} {o : Oper} {a : Act} {K : Act → World → Prop} {Q : Exit → Act → World → Prop} {E : Prop}
    (hgd : o.guard = none) (s x : Operand) (ho : o.op = .call { callee := .builtin .append, args := #[s, x], argTypes := #[37, 37] })
    (hs : a.eval s = v) (hen : Es w W v n L) (b : Nat) (p q : Int) (hx : a.eval x = .slice (some ⟨b, 0, none⟩) 1 1) (hc : HasC W b 73 #[.int .i64 p, .int .i64 q]) (h3 : n ≤ 8796093022001)
    (h : ∀ g cap w', Es w w' (.slice (some ⟨g, 0, none⟩) (n + 1) cap) (n + 1) (L ++ [(p, q)]) → W.grownBy w' v.ownBlock → (v.ownBlock = some g ∨ g = W.heap.size) → K (a.put o.dst (.slice (some ⟨g, 0, none⟩) (n + 1) cap)) w') :
    if Region.wanted o (yielded ops a.tmps) = true then Oper.wp Try.prog o a W K Q else E := by
  obtain ⟨i0, hi0, hz0, hz1, hz2⟩ := info_parts info26
  have hl : L.length = n := by
    have := hen.a.1
    rw [sp64_len] at this
    omega
  refine step_append_lies W hgd s x 37 ho w.heap.size 73 i0 _ 2 16 Try.underlying37 hi0 hz0 hz1 hz2 rfl (by omega) v n (sp64 L) hs hen.a ⟨b, 0, none⟩ 1 1 [.int .i64 p, .int .i64 q] hx rfl (news_two hc) (by simp [Value.oneCell']) (by omega) (by unfold maxLen; omega) (by omega) hen.bel.size W.heap.size rfl ?_
  intro g cap w' hown hgrow hat hlt
  exact h g cap w' (hen.grow hl hown hgrow) hgrow hat

/-- An append of one number, at a step of a plain region. -/
theorem list_int {w W : World} {v1 v2 : Value} {n1 n2 : Nat} {xs ys : List Int} {ops : Array Oper} {rest : List Oper} {o : Oper} {a : Act} {Q : Exit → Act → World → Prop}
    (hgd : o.guard = none) (s x : Operand) (ho : o.op = .call { callee := .builtin .append, args := #[s, x], argTypes := #[27, 27] })
    (hs : a.eval s = v1) (hen : En w W v1 v2 n1 n2 xs ys) (b : Nat) (z : Int) (hx : a.eval x = .slice (some ⟨b, 0, none⟩) 1 1) (hc : HasC W b 3 #[.int .i64 z]) (h3 : n1 ≤ 140737488355327 / 8)
    (h : ∀ g cap w', En w w' (.slice (some ⟨g, 0, none⟩) (n1 + 1) cap) v2 (n1 + 1) n2 (xs ++ [z]) ys → W.grownBy w' v1.ownBlock → (v1.ownBlock = some g ∨ g = W.heap.size) → wpList Try.prog ops Q rest (a.put o.dst (.slice (some ⟨g, 0, none⟩) (n1 + 1) cap)) w') :
    wpList Try.prog ops Q (o :: rest) a W := by
  obtain ⟨i0, hi0, hz0, hz1, hz2⟩ := info_parts info3
  refine wpList_append_lies W hgd s x 27 ho w.heap.size 3 i0 _ 1 8 Try.underlying27 hi0 hz0 hz1 hz2 rfl (by omega) v1 n1 (i64s xs) hs hen.a ⟨b, 0, none⟩ 1 1 [.int .i64 z] hx rfl ?_ (by simp [Value.oneCell']) (by omega) (by unfold maxLen; omega) (by omega) hen.bel.size W.heap.size rfl ?_
  · intro j u hu
    rw [Addr.add_lit]
    match j, hu with
    | 0, hu => simp at hu; subst hu; exact hc.cell 0 rfl
    | _ + 1, hu => simp at hu
  · intro g cap w' hown hgrow hat hlt
    have hown' : w'.ownsRow w.heap.size 3 1 (.slice (some ⟨g, 0, none⟩) (n1 + 1) cap) (n1 + 1) (i64s (xs ++ [z])) := by simpa [i64s] using hown
    exact h g cap w' (hen.grow hown' hgrow hat) hgrow hat

end Go.Proofs.Ytihbhbeaihdgnaa.Spn

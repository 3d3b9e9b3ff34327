/-
  Where a span is answered, the operator's answer lies in it: on whole numbers.
-/
import Derived.Test.YtlhbgkaknfhlnaaSpPure
import Derived.Test.YtlhbgkaknfhlnaaSpBitsF
namespace Go.Proofs.Ytlhbgkaknfhlnaa.Spn
open Go.RowKit Go.IntWalk
set_option linter.unusedVariables false

theorem trd (p : Prop) [Decidable p] : (p ∧ tr (decide p) = 1) ∨ (¬ p ∧ tr (decide p) = 0) := by
  by_cases h : p <;> simp [tr, h]
theorem trb (x y : Int) : (x = y ∧ tr (x == y) = 1 ∧ tr (x != y) = 0) ∨ (x ≠ y ∧ tr (x == y) = 0 ∧ tr (x != y) = 1) := by
  by_cases h : x = y <;> simp [tr, h]

theorem endsZ_inv {f : List Int → Int × Int} {L : List (Int × Int)} {lo hi : Int} (h : endsZ f L = ((lo, hi), 0)) :
    (f (fsts L)).2 = 0 ∧ (f (snds L)).2 = 0 ∧ lo = (f (fsts L)).1 ∧ hi = (f (snds L)).1 := by
  unfold endsZ at h
  by_cases h0 : (f (fsts L)).2 = 0
  · rw [if_neg (by simp [h0])] at h
    simp only [Prod.mk.injEq] at h
    exact ⟨h0, h.2, h.1.1.symm, h.1.2.symm⟩
  · rw [if_pos h0] at h
    simp only [Prod.mk.injEq] at h
    exact absurd h.2 h0
theorem endsZ_mk {f : List Int → Int × Int} {L : List (Int × Int)} (h0 : (f (fsts L)).2 = 0) (h1 : (f (snds L)).2 = 0) : endsZ f L = (((f (fsts L)).1, (f (snds L)).1), 0) := by
  unfold endsZ
  rw [if_neg (by simp [h0]), h1]

theorem finZ_inv {Z : (Int × Int) × Int} {lo hi : Int} (h : finZ Z = ((lo, hi), 0)) : Z = ((lo, hi), 0) ∧ whB lo hi = true := by
  obtain ⟨⟨x, y⟩, e⟩ := Z
  unfold finZ at h
  simp only at h
  by_cases he : e = 0
  · rw [if_neg (by simp [he])] at h
    by_cases hw : whB x y = true
    · rw [if_pos hw] at h
      simp only [Prod.mk.injEq] at h
      obtain ⟨⟨rfl, rfl⟩, -⟩ := h
      exact ⟨by rw [he], hw⟩
    · rw [if_neg hw] at h
      simp at h
  · rw [if_pos he] at h
    simp only [Prod.mk.injEq] at h
    exact absurd h.2 he
theorem finZ_mk {lo hi : Int} (h : whB lo hi = true) : finZ ((lo, hi), 0) = ((lo, hi), 0) := by simp [finZ, h]
theorem ofZ_inv {op k s : Int} {L : List (Int × Int)} {lo hi : Int} (h : ofZ op k s L = ((lo, hi), 0)) : smayB op k s L = true ∧ reckZ op k s L = ((lo, hi), 0) ∧ whB lo hi = true := by
  unfold ofZ at h
  by_cases hm : smayB op k s L = true
  · rw [if_pos hm] at h
    have := finZ_inv h
    exact ⟨hm, this.1, this.2⟩
  · rw [if_neg hm] at h
    simp at h

/-! ### bits -/
theorem bw_below' {a b : Int} (ha : 0 ≤ a ∧ a ≤ 2147483647) (hb : -2147483648 ≤ b ∧ b ≤ 2147483647) : 0 ≤ bw .and a b ∧ bw .and a b ≤ a := by
  have h := bw_32 (fun a b => 0 ≤ a → 0 ≤ bw .and a b ∧ bw .and a b ≤ a) (fun _ => by decide) (fun _ => by decide) (fun _ => by omega) (fun _ => by omega) (by
    intro a b ha hb h e
    have h1 := h (by omega)
    show 0 ≤ bw .and a b ∧ bw .and a b ≤ a
    rw [bw_step .and a b ha hb]
    simp only [Bop.dig]
    rcases two_dig a with f | f <;> rcases two_dig b with g | g <;> rw [f, g] <;> omega) (show -2147483648 ≤ a ∧ a ≤ 2147483647 by omega) hb
  exact h ha.1
theorem bw_up {a b : Int} (ha : 0 ≤ a ∧ a ≤ 2147483647) (hb : 0 ≤ b ∧ b ≤ 2147483647) : a ≤ bw .or a b ∧ b ≤ bw .or a b ∧ 0 ≤ bw .xor a b := by
  have h := bw_32 (fun a b => 0 ≤ a → 0 ≤ b → a ≤ bw .or a b ∧ b ≤ bw .or a b ∧ 0 ≤ bw .xor a b) (fun _ _ => by decide) (fun _ _ => by omega) (fun _ => by omega) (fun _ => by omega) (by
    intro a b ha hb h e f
    have h1 := h (by omega) (by omega)
    show a ≤ bw .or a b ∧ b ≤ bw .or a b ∧ 0 ≤ bw .xor a b
    rw [bw_step .or a b ha hb, bw_step .xor a b ha hb]
    simp only [Bop.dig]
    rcases two_dig a with f | f <;> rcases two_dig b with g | g <;> rw [f, g] <;> omega) (show -2147483648 ≤ a ∧ a ≤ 2147483647 by omega) (show -2147483648 ≤ b ∧ b ≤ 2147483647 by omega)
  exact h ha.1 hb.1

/-- All ends lie from -2^n to 2^n - 1, and n is the least such number. -/
theorem arP_has {a b c d : Int} (ha : W32 a) (hb : W32 b) (hc : W32 c) (hd : W32 d) :
    (-arP a b c d ≤ a ∧ a < arP a b c d) ∧ (-arP a b c d ≤ b ∧ b < arP a b c d) ∧ (-arP a b c d ≤ c ∧ c < arP a b c d) ∧ (-arP a b c d ≤ d ∧ d < arP a b c d) := by
  have key : ∀ x, W32 x → wdN x ≤ arN a b c d → -arP a b c d ≤ x ∧ x < arP a b c d := by
    intro x hx hn
    have h1 := (wdN_facts hx).2
    have h2 := (pow_mono hn).1
    have e : ((2 ^ wdN x : Nat) : Int) = (2 : Int) ^ wdN x := by simp
    unfold arP
    rw [e] at h1
    omega
  refine ⟨key a ha ?_, key b hb ?_, key c hc ?_, key d hd ?_⟩ <;> (unfold arN; omega)

theorem bw_in (o : Bop) {a b c d x y : Int} (ha : W32 a) (hb : W32 b) (hc : W32 c) (hd : W32 d) (h1 : a ≤ x) (h2 : x ≤ b) (h3 : c ≤ y) (h4 : y ≤ d) :
    -arP a b c d ≤ bw o x y ∧ bw o x y ≤ arP a b c d - 1 := by
  have h := arP_has ha hb hc hd
  have hn := (arP_bd ha hb hc hd).1
  have e : ((2 ^ arN a b c d : Nat) : Int) = arP a b c d := by unfold arP; simp
  have hr := bw_range o (arN a b c d) (by omega) x y (by rw [e]; omega) (by rw [e]; omega)
  rw [e] at hr
  omega

/-- Narrower spans want no more bits. -/
theorem arP_le {a b c d a' b' c' d' : Int} (ha : W32 a) (hb : W32 b) (hc : W32 c) (hd : W32 d) (h1 : a ≤ a' ∧ a' ≤ b) (h2 : a ≤ b' ∧ b' ≤ b) (h3 : c ≤ c' ∧ c' ≤ d) (h4 : c ≤ d' ∧ d' ≤ d) : arP a' b' c' d' ≤ arP a b c d := by
  have h := arP_has ha hb hc hd
  have hn := (arP_bd ha hb hc hd).1
  have e : ((2 ^ arN a b c d : Nat) : Int) = arP a b c d := by unfold arP; simp
  have key : ∀ x, -arP a b c d ≤ x ∧ x < arP a b c d → wdN x ≤ arN a b c d := fun x hx => wdN_least (by omega) (by rw [e]; exact hx)
  have k1 := key a' (by omega)
  have k2 := key b' (by omega)
  have k3 := key c' (by omega)
  have k4 := key d' (by omega)
  have : arN a' b' c' d' ≤ arN a b c d := by unfold arN at *; omega
  unfold arP
  exact (pow_mono this).1

/-! ### rests -/
theorem tmod_facts (x y : Int) (hy : y ≠ 0) : (0 ≤ x → 0 ≤ x.tmod y ∧ x.tmod y ≤ x) ∧ (x ≤ 0 → x ≤ x.tmod y ∧ x.tmod y ≤ 0) ∧ (0 < y → -y < x.tmod y ∧ x.tmod y < y) ∧ (y < 0 → y < x.tmod y ∧ x.tmod y < -y) := by
  have h1 := Int.natAbs_tmod x y
  have h2 : x.natAbs % y.natAbs < y.natAbs := Nat.mod_lt _ (by omega)
  have h3 := Nat.mod_le x.natAbs y.natAbs
  have h4 : 0 ≤ x → 0 ≤ x.tmod y := fun h => Int.tmod_nonneg y h
  have h5 : x ≤ 0 → x.tmod y ≤ 0 := fun h => by
    have e : (-x).tmod y = -(x.tmod y) := Int.neg_tmod x y
    have := Int.tmod_nonneg (a := -x) y (by omega)
    omega
  omega

end Go.Proofs.Ytlhbgkaknfhlnaa.Spn

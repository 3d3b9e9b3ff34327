/-
  Nothing known is left, plainly.
-/
import Derived.Test.YtjfcdfjegjplhaaMFA
namespace Go.Proofs.Fld
open Go.RowKit Go.IntWalk Ytjfcdfjegjplhaa.Knd
open Cde (In i0 agL arN okI okT mcB csB rgN)
open Vfy (vfE vf_parts)
set_option linter.unusedVariables false

theorem fo_pre (f d : Int) (L : List In) {i : Nat} : ∀ k, k ≤ L.length → i < k → (foF f d (L.take k)).1.getD i i0 = nwI f d (foF f d (L.take i)).1 (thI (L.getD i i0) (foF f d (L.take i)).2)
  | 0, _, h => by omega
  | k + 1, hk, h => by
    have hl := (foF_len f d L k (by omega)).1
    rw [foF_succ f d (by omega), foS]
    by_cases e : i < k
    · rw [getL_pre (by rw [hl]; exact e)]
      exact fo_pre f d L k (by omega) e
    · obtain rfl : i = k := by omega
      show ((foF f d (L.take i)).1 ++ [_]).getD i i0 = _
      rw [show ∀ z : In, ((foF f d (L.take i)).1 ++ [z]).getD i i0 = z from fun z => by have := getL_last (foF f d (L.take i)).1 z; rwa [hl] at this]
theorem fo_at (f d : Int) (L : List In) {i : Nat} (hi : i < L.length) : (foF f d L).1.getD i i0 = nwI f d (foF f d (L.take i)).1 (thI (L.getD i i0) (foF f d (L.take i)).2) := by
  have := fo_pre f d L L.length (Nat.le_refl _) hi
  rwa [List.take_length] at this
theorem fo_same (f d : Int) (L : List In) {i r : Nat} (hi : i < L.length) (hr : r < i) : (foF f d (L.take i)).1.getD r i0 = (foF f d L).1.getD r i0 := by
  rw [fo_pre f d L i (by omega) hr, fo_at f d L (by omega)]
/-- How many of the first j registers that an instruction reads are numbers. -/
def cnN (M : List In) (m : In) : Nat → Nat
  | 0 => 0
  | j + 1 => cnN M m j + (if (rg M (rgN m j)).op = 1 then 1 else 0)
theorem cn_le (M : List In) (m : In) : ∀ j, cnN M m j ≤ j
  | 0 => Nat.le_refl _
  | j + 1 => by have := cn_le M m j; unfold cnN; split <;> omega
theorem cn_all (M : List In) (m : In) : ∀ j, cnN M m j = j → ∀ i, i < j → (rg M (rgN m i)).op = 1
  | 0, _, i, hi => by omega
  | j + 1, h, i, hi => by
    have hl := cn_le M m j
    unfold cnN at h
    split at h
    · rename_i h1
      by_cases e : i < j
      · exact cn_all M m j (by omega) i e
      · obtain rfl : i = j := by omega
        exact h1
    · omega
/-- An instruction of the folded code: no lo, hi or mid; it reads registers ahead, and not numbers alone. -/
theorem fo_left {f d : Int} {L : List In} {out : Int} (h : vfE f d L out = 0) {i : Nat} (hi : i < L.length) {m : In} (hm : (foF f d L).1.getD i i0 = m) :
    ¬ (m.op = 2 ∧ 3 ≤ m.k) ∧ (∀ j, j < arN m → In1 (rgN m j) i) ∧ (0 < arN m → cnN (foF f d L).1 m (arN m) ≠ arN m) := by
  rw [fo_at f d L hi] at hm
  have hok := fo_ok h hi
  unfold nwI at hm
  split at hm
  · subst hm
    have e : arN (nuI (knZ f d (foF f d (L.take i)).1 (thI (L.getD i i0) (foF f d (L.take i)).2)).1) = 0 := by
      show (Ytjfcdfjegjplhaa.Spn.ar 1).toNat = 0
      decide
    refine ⟨fun h => absurd h.1 (by show (1 : Int) ≠ 2; decide), fun j hj => by omega, fun h => by omega⟩
  · rename_i hk
    subst hm
    refine ⟨fun ⟨h2, h3⟩ => ?_, fun j hj => ?_, fun h0 hc => ?_⟩
    · have hc := Cde.ok_con hok
      rw [csB, if_neg (by rw [h2]; decide), if_pos h2, Bool.and_eq_true, Ytjfcdfjegjplhaa.Spn.inB_iff] at hc
      apply hk
      have hb : (bnZ f d (thI (L.getD i i0) (foF f d (L.take i)).2)).2 = true := by
        unfold bnZ
        rw [if_pos h2]
        split
        · rfl
        · split
          · rfl
          · split
            · rfl
            · omega
      unfold knZ
      rw [if_pos hb]; exact hb
    · exact Cde.ok_reg hok hj
    · have hall := cn_all _ _ _ hc
      apply hk
      have ha : 1 ≤ ar (L.getD i i0).op := by
        have h0' : 0 < (Ytjfcdfjegjplhaa.Spn.ar (L.getD i i0).op).toNat := h0
        show 1 ≤ Ytjfcdfjegjplhaa.Spn.ar (L.getD i i0).op
        omega
      have hal : alN (foF f d (L.take i)).1 (thI (L.getD i i0) (foF f d (L.take i)).2) = true := by
        unfold alN
        rw [List.all_eq_true]
        intro r hr
        obtain ⟨j, hj, rfl⟩ := List.getElem_of_mem hr
        rw [Cde.agL_len] at hj
        have h1 := hall j hj
        have h2 := Cde.ok_reg hok hj
        rw [← Cde.agL_at _ j hj, List.getD_eq_getElem?_getD, List.getElem?_eq_getElem (by rw [Cde.agL_len]; exact hj)] at h1 h2
        simp only [Option.getD_some] at h1 h2
        unfold rg at h1 ⊢
        rw [fo_same f d L hi h2.2]
        simpa using h1
      obtain ⟨x, hx, -⟩ := fo_known h hi ha hal
      unfold knZ
      split
      · assumption
      · rw [hx]; rfl

end Go.Proofs.Fld

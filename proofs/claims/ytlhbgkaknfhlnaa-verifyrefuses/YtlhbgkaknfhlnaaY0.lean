/-
  Verify, plainly: the registers' spans, the report or the refusal.
-/
import Derived.Test.YtlhbgkaknfhlnaaCdB6
import Derived.Test.YtlhbgkaknfhlnaaSpHoldR
import Derived.Test.YtlhbgkaknfhlnaaKnInp
namespace Go.Proofs.Vfy
open Go.RowKit Go.IntWalk Ytlhbgkaknfhlnaa.Knd
open Cde (In i0 agL arN okI okT mcB coL coZ)
set_option linter.unusedVariables false

abbrev Sps := List (Int × Int)
/-- The spans that an instruction reads. -/
def asS (S : Sps) (n : In) : Sps := (agL n).map fun r => S.getD r.toNat (0, 0)
/-- A register's span, by those ahead of it; the error beside it. -/
def sgI (f d : Int) (S : Sps) (n : In) : (Int × Int) × Int :=
  if n.op = 1 then ((n.k, n.k), 0) else if n.op = 2 then ((inZ f d n.k).getD (0, 0), 0) else if n.op = 3 then ((lowZ f d, highZ f d), 0) else Ytlhbgkaknfhlnaa.Spn.ofZ n.op n.k n.s (asS S n)
/-- One step, and all of them: the error, and what came out ahead of it. -/
def sgS (f d : Int) (s : Int × Sps) (n : In) : Int × Sps :=
  if s.1 = 0 then (if (sgI f d s.2 n).2 = 0 then (0, s.2 ++ [(sgI f d s.2 n).1]) else ((sgI f d s.2 n).2, [])) else s
def sgF (f d : Int) (L : List In) : Int × Sps := L.foldl (sgS f d) (0, [])
theorem sgF_snoc (f d : Int) (L : List In) (n : In) : sgF f d (L ++ [n]) = sgS f d (sgF f d L) n := by simp [sgF]
theorem sgF_stuck (f d : Int) : ∀ (L : List In) (s : Int × Sps), s.1 ≠ 0 → L.foldl (sgS f d) s = s
  | [], s, h => rfl
  | n :: L, s, h => by
    rw [List.foldl_cons, show sgS f d s n = s by rw [sgS, if_neg h]]
    exact sgF_stuck f d L s h
theorem sgF_app (f d : Int) (A B : List In) : sgF f d (A ++ B) = B.foldl (sgS f d) (sgF f d A) := by rw [sgF, List.foldl_append]; rfl
theorem sgF_bad {f d : Int} {L : List In} {k : Nat} {e : Int × Sps} (h : sgF f d (L.take k) = e) (he : e.1 ≠ 0) : sgF f d L = e := by
  have : sgF f d L = (L.drop k).foldl (sgS f d) (sgF f d (L.take k)) := by
    rw [← sgF_app, List.take_append_drop]
  rw [this, h, sgF_stuck f d _ _ he]
theorem sgF_len (f d : Int) (L : List In) : ∀ k, k ≤ L.length → (sgF f d (L.take k)).1 = 0 → (sgF f d (L.take k)).2.length = k
  | 0, _, _ => by simp [sgF]
  | k + 1, h, he => by
    have ih := sgF_len f d L k (by omega)
    rw [Cde.take_snoc i0 (by omega), sgF_snoc] at he ⊢
    unfold sgS at he ⊢
    split at he
    · rename_i h0
      rw [if_pos h0]
      split at he
      · rename_i h1
        rw [if_pos h1]
        simp [ih h0]
      · rename_i h1
        exact absurd he h1
    · rename_i h0
      exact absurd he h0
theorem sgF_all {f d : Int} {L : List In} {S : Sps} (h : sgF f d L = (0, S)) : S.length = L.length := by
  have := sgF_len f d L L.length (Nat.le_refl _)
  rw [List.take_length, h] at this
  exact this rfl
theorem getS_pre {S Z : Sps} {i : Nat} (h : i < S.length) : (S ++ Z).getD i (0, 0) = S.getD i (0, 0) := by
  rw [List.getD_eq_getElem?_getD, List.getElem?_append_left h, ← List.getD_eq_getElem?_getD]
theorem ag_reg {n : In} {i : Nat} (h : okI n i = true) {r : Int} (hr : r ∈ agL n) : 0 ≤ r ∧ r.toNat < i := by
  obtain ⟨j, hj, rfl⟩ := List.getElem_of_mem hr
  rw [Cde.agL_len] at hj
  have := Cde.ok_reg h hj
  rw [← Cde.agL_at n j hj, List.getD_eq_getElem?_getD, List.getElem?_eq_getElem (by rw [Cde.agL_len]; exact hj)] at this
  exact this
theorem asS_pre {S Z : Sps} {n : In} (h : okI n S.length = true) : asS (S ++ Z) n = asS S n := by
  unfold asS
  apply List.map_congr_left
  intro r hr
  exact getS_pre (ag_reg h hr).2
theorem sgI_pre {f d : Int} {S Z : Sps} {n : In} (h : okI n S.length = true) : sgI f d (S ++ Z) n = sgI f d S n := by
  rw [sgI, sgI, asS_pre h]

/-- An instruction that looks at a place that the kind hasn't. -/
def ahI (f d : Int) (n : In) : Bool := n.op == 3 && decide (countZ f d ≤ n.k)
theorem ah_snoc {f d : Int} {L : List In} {k : Nat} (hk : k < L.length) (h : (L.take k).any (ahI f d) = false) (h2 : ahI f d (L.getD k i0) = false) : (L.take (k + 1)).any (ahI f d) = false := by
  rw [Cde.take_snoc i0 hk, List.any_append, h, List.any_cons, h2]; rfl
theorem ah_of {f d : Int} {L : List In} {k : Nat} (hk : k < L.length) (h2 : ahI f d (L.getD k i0) = true) : L.any (ahI f d) = true := by
  rw [List.any_eq_true]
  exact ⟨L.getD k i0, Cde.getD_mem i0 hk, h2⟩
/-- Why the code may not be looked at: it may not be, or it looks ahead. -/
def myE (f d : Int) (L : List In) (out : Int) : Int := if mcB f d L out = true then (if L.any (ahI f d) = true then 11 else 0) else 15
/-- What Verify answers: the error. -/
def vfE (f d : Int) (L : List In) (out : Int) : Int :=
  if myE f d L out ≠ 0 then myE f d L out else if (sgF f d L).1 ≠ 0 then (sgF f d L).1 else if 200 < coL L then 14 else 0
def vfN (f d : Int) (L : List In) (out : Int) : Nat := if vfE f d L out = 0 then L.length else 0
def vfC (f d : Int) (L : List In) (out : Int) : Int := if vfE f d L out = 0 then coL L else 0
def vfS (f d : Int) (L : List In) (out : Int) : Sps := if vfE f d L out = 0 then (sgF f d L).2 else []
theorem my_zero {f d : Int} {L : List In} {out : Int} : myE f d L out = 0 ↔ mcB f d L out = true ∧ L.any (ahI f d) = false := by
  unfold myE
  constructor
  · intro h
    split at h
    · rename_i h1
      split at h
      · omega
      · rename_i h2
        exact ⟨h1, by simpa using h2⟩
    · omega
  · rintro ⟨h1, h2⟩
    rw [if_pos h1, if_neg (by simp [h2])]
theorem vf_zero {f d : Int} {L : List In} {out : Int} : vfE f d L out = 0 ↔ myE f d L out = 0 ∧ (sgF f d L).1 = 0 ∧ coL L ≤ 200 := by
  unfold vfE
  constructor
  · intro h
    split at h
    · rename_i h1; exact absurd h h1
    · rename_i h1
      split at h
      · rename_i h2; exact absurd h h2
      · rename_i h2
        split at h
        · omega
        · exact ⟨by simpa using h1, by simpa using h2, by omega⟩
  · rintro ⟨h1, h2, h3⟩
    rw [if_neg (by simpa using h1), if_neg (by simpa using h2), if_neg (by omega)]
theorem vf_parts {f d : Int} {L : List In} {out : Int} (h : vfE f d L out = 0) : mcB f d L out = true ∧ L.any (ahI f d) = false ∧ (∃ S, sgF f d L = (0, S) ∧ S.length = L.length ∧ vfS f d L out = S) ∧ coL L ≤ 200 ∧ vfN f d L out = L.length ∧ vfC f d L out = coL L := by
  obtain ⟨h1, h2, h3⟩ := vf_zero.1 h
  obtain ⟨h4, h5⟩ := my_zero.1 h1
  have e : sgF f d L = (0, (sgF f d L).2) := Prod.ext h2 rfl
  exact ⟨h4, h5, ⟨_, e, sgF_all e, by rw [vfS, if_pos h]⟩, h3, by rw [vfN, if_pos h], by rw [vfC, if_pos h]⟩
theorem vf_none {f d : Int} {L : List In} {out : Int} (h : vfE f d L out ≠ 0) : vfN f d L out = 0 ∧ vfC f d L out = 0 ∧ vfS f d L out = [] := by
  refine ⟨by rw [vfN, if_neg h], by rw [vfC, if_neg h], by rw [vfS, if_neg h]⟩
theorem vfS_len (f d : Int) (L : List In) (out : Int) : (vfS f d L out).length = vfN f d L out := by
  by_cases h : vfE f d L out = 0
  · obtain ⟨-, -, ⟨S, -, hl, hs⟩, -, hn, -⟩ := vf_parts h
    rw [hs, hn, hl]
  · obtain ⟨h1, -, h3⟩ := vf_none h
    rw [h1, h3]; rfl
theorem vfN_few (f d : Int) (L : List In) (out : Int) : vfN f d L out ≤ 200 := by
  by_cases h : vfE f d L out = 0
  · obtain ⟨h1, -, -, -, hn, -⟩ := vf_parts h
    obtain ⟨-, -, h2, -⟩ := Cde.mc_parts h1
    rw [hn]; exact h2
  · rw [(vf_none h).1]; omega

end Go.Proofs.Vfy

/-
  How often each register is read, plainly.
-/
import Derived.Test.YtijbmdmeiancgaaGreatMCdC
namespace Go.Proofs.Cde
open YtijbmdmeiancgaaGreat (Wd wdA Fits inpV fitE_cases)
open YtijbmdmeiancgaaGreat.Knd
set_option linter.unusedVariables false

/-- How often r stands in a list. -/
def ctR (r : Nat) (A : List Int) : Int := ((A.filter fun x => decide (x.toNat = r)).length : Nat)
theorem ctR_snoc (r : Nat) (A : List Int) (x : Int) : ctR r (A ++ [x]) = ctR r A + if x.toNat = r then 1 else 0 := by
  unfold ctR
  rw [List.filter_append, List.length_append]
  by_cases h : x.toNat = r
  · simp [h]
  · simp [h]
theorem ctR_le (r : Nat) (A : List Int) : 0 ≤ ctR r A ∧ ctR r A ≤ A.length := by
  unfold ctR
  have := List.length_filter_le (fun x => decide (x.toNat = r)) A
  omega
def bump (U : List Int) (x : Int) : List Int := U.set x.toNat (U.getD x.toNat 0 + 1)
def usF (n : Nat) (A : List Int) : List Int := A.foldl bump (List.replicate n 0)
theorem usF_snoc (n : Nat) (A : List Int) (x : Int) : usF n (A ++ [x]) = bump (usF n A) x := by simp [usF]
theorem foldl_bump_len : ∀ (A U : List Int), (A.foldl bump U).length = U.length
  | [], U => rfl
  | x :: A, U => by rw [List.foldl_cons, foldl_bump_len A]; simp [bump]
theorem usF_len (n : Nat) (A : List Int) : (usF n A).length = n := by rw [usF, foldl_bump_len]; simp
theorem bump_get {U : List Int} {x : Int} {r : Nat} (hr : r < U.length) : (bump U x).getD r 0 = U.getD r 0 + if x.toNat = r then 1 else 0 := by
  unfold bump
  simp only [List.getD_eq_getElem?_getD]
  rw [List.getElem?_set]
  by_cases h : x.toNat = r
  · subst h
    simp [hr]
  · simp [h]
theorem usF_get (n : Nat) {r : Nat} (hr : r < n) (A : List Int) : ∀ k, k ≤ A.length → (usF n (A.take k)).getD r 0 = ctR r (A.take k)
  | 0, _ => by simp [usF, ctR, List.getD_eq_getElem?_getD, hr]
  | k + 1, h => by
    rw [take_snoc 0 (by omega), usF_snoc, bump_get (by rw [usF_len]; exact hr), ctR_snoc, usF_get n hr A k (by omega)]
theorem usF_at (n : Nat) {r : Nat} (hr : r < n) (A : List Int) : (usF n A).getD r 0 = ctR r A := by
  have := usF_get n hr A A.length (Nat.le_refl _)
  rwa [List.take_length] at this
/-- All registers that are read. -/
def agA (L : List In) : List Int := L.flatMap agL
theorem agA_snoc (L : List In) (n : In) : agA (L ++ [n]) = agA L ++ agL n := by simp [agA]
theorem agA_len (L : List In) : (agA L).length ≤ 3 * L.length := by
  induction L with
  | nil => simp [agA]
  | cons n L ih =>
    have := arN_le n
    simp only [agA, List.flatMap_cons, List.length_append, List.length_cons, agL_len] at *
    omega
/-- What Uses tells. -/
def usU (L : List In) (out : Int) : List Int := (List.range L.length).map fun (r : Nat) => (if out = (r : Int) then 1 else 0) + ctR r (agA L)
theorem usU_len (L : List In) (out : Int) : (usU L out).length = L.length := by simp [usU]
theorem usU_at (L : List In) (out : Int) {r : Nat} (hr : r < L.length) : (usU L out).getD r 0 = (if out = (r : Int) then 1 else 0) + ctR r (agA L) := by
  simp [usU, List.getD_eq_getElem?_getD, hr]
theorem usU_eq {L : List In} {out : Int} (h0 : 0 ≤ out) : bump (usF L.length (agA L)) out = usU L out := by
  have hl : (bump (usF L.length (agA L)) out).length = L.length := by simp [bump, usF_len]
  apply List.ext_getElem (by rw [hl, usU_len])
  intro r h1 h2
  rw [hl] at h1
  have e1 := bump_get (U := usF L.length (agA L)) (x := out) (r := r) (by rw [usF_len]; exact h1)
  rw [usF_at _ h1] at e1
  have e2 := usU_at L out h1
  simp only [List.getD_eq_getElem?_getD] at e1 e2
  rw [List.getElem?_eq_getElem (by rw [hl]; exact h1)] at e1
  rw [List.getElem?_eq_getElem (by rw [usU_len]; exact h1)] at e2
  simp only [Option.getD_some] at e1 e2
  rw [e1, e2]
  by_cases h : out = (r : Int)
  · subst h; simp; omega
  · rw [if_neg h, if_neg (by omega)]; omega
def usZ (f d : Int) (L : List In) (out : Int) : Int × List Int := if mcB f d L out = true then (0, usU L out) else (15, [])
theorem agL_succ (n : In) {q : Nat} (h : q < arN n) : (agL n).take (q + 1) = (agL n).take q ++ [rgN n q] := by
  rw [take_snoc 0 (by rw [agL_len]; exact h), agL_at n q h]
theorem agL_full (n : In) : (agL n).take (arN n) = agL n := List.take_of_length_le (by rw [agL_len]; exact Nat.le_refl _)

end Go.Proofs.Cde

/-
 What Check answers, plainly: its errors; lesser depths.
-/
import Derived.Test.YtbgmljmpmemfcaaGreatYEaA
import Derived.Test.YtbgmljmpmemfcaaGreatYSpGrowP
namespace Go.Proofs.YtbgmljmpmemfcaaGreat
open Lx Pz
set_option linter.unusedVariables false

/- errors -/
def Cd (e : Int) : Prop := e = 0 ∨ e = 1 ∨ e = 12 ∨ e = 13
def Nr (S' S : Sps) : Prop := S'.length = S.length ∧ ∀ i, i < S.length → (S.getD i (0, 0)).1 ≤ (S'.getD i (0, 0)).1 ∧ (S'.getD i (0, 0)).1 ≤ (S'.getD i (0, 0)).2 ∧ (S'.getD i (0, 0)).2 ≤ (S.getD i (0, 0)).2
theorem Nr.snoc {S' S : Sps} {p' p : Int × Int} (h : Nr S' S) (h1 : p.1 ≤ p'.1) (h2 : p'.1 ≤ p'.2) (h3 : p'.2 ≤ p.2) : Nr (S' ++ [p']) (S ++ [p]) := by
 obtain ⟨hl, hs⟩ := h
 refine ⟨by simp [hl], fun i hi => ?_⟩
 simp only [List.length_append, List.length_cons, List.length_nil] at hi
 by_cases hlt : i < S.length
 ·have e1 : (S ++ [p]).getD i (0, 0) = S.getD i (0, 0) := by rw [List.getD_eq_getElem?_getD, List.getElem?_append_left hlt, ← List.getD_eq_getElem?_getD]
  have e2 : (S' ++ [p']).getD i (0, 0) = S'.getD i (0, 0) := by rw [List.getD_eq_getElem?_getD, List.getElem?_append_left (by omega), ← List.getD_eq_getElem?_getD]
  rw [e1, e2]
  exact hs i hlt
 ·obtain rfl : i = S.length := by omega
  have e1 : (S ++ [p]).getD S.length (0, 0) = p := by rw [List.getD_eq_getElem?_getD, List.getElem?_append_right (Nat.le_refl _)]; simp
  have e2 : (S' ++ [p']).getD S.length (0, 0) = p' := by rw [List.getD_eq_getElem?_getD, List.getElem?_append_right (by omega)]; simp [hl]
  rw [e1, e2]
  exact ⟨h1, h2, h3⟩
theorem Nr.sub {S' S : Sps} (h : Nr S' S) : ∀ (P : List Int), (∀ p ∈ P, p.toNat < S.length) → Spn.Sub (P.map fun p => S'.getD p.toNat (0, 0)) (P.map fun p => S.getD p.toNat (0, 0))
 | [], _ => trivial
 | p :: P, hp => ⟨h.2 p.toNat (hp p (by simp)), h.sub P fun q hq => hp q (by simp [hq])⟩
theorem ck_zero {f d : Int} {NM : List Txt} {BS : List Int} {NS : List Nd} {root : Int} : ckE f d NM BS NS root = 0 ↔ Knd.May f d ∧ chkP NM BS NS root = true ∧ NS.any (ahB f d) = false ∧ (spR f d BS NS []).2 = 0 ∧ coR NS ≤ 200 ∧ mxR (dpR BS NS []) ≤ 24 := by
 unfold ckE
 by_cases h1 : Knd.May f d
 ·rw [if_neg (by simpa using h1)]
  cases h2 : chkP NM BS NS root
  ·simp
  ·rw [if_neg (by simp)]
   cases h3 : NS.any (ahB f d)
   ·rw [if_neg (by simp)]
    by_cases h4 : (spR f d BS NS []).2 = 0
    ·rw [if_neg (by simpa using h4)]
     by_cases h5 : 200 < coR NS ∨ 24 < mxR (dpR BS NS [])
     ·rw [if_pos h5]
      constructor
      ·intro h; cases h
      ·rintro ⟨-, -, -, -, a, b⟩; omega
     ·rw [if_neg h5]
      exact ⟨fun _ => ⟨h1, rfl, rfl, h4, by omega, by omega⟩, fun _ => rfl⟩
    ·rw [if_pos h4]
     exact ⟨fun h => absurd h h4, fun h => absurd h.2.2.2.1 h4⟩
   ·rw [if_pos rfl]
    constructor
    ·intro h; cases h
    ·rintro ⟨-, -, h, -⟩; cases h
 ·rw [if_pos h1]
  constructor
  ·intro h; cases h
  ·intro h; exact absurd h.1 h1
end Go.Proofs.YtbgmljmpmemfcaaGreat

/-
  The list of places and the formulas tell the same numbers.
-/
import Derived.Test.YtinlknflkgijmaaRNum
import Derived.Test.YtinlknflkgijmaaNumb
namespace Go.Proofs.Ytinlknflkgijmaa
open Go.RowKit
set_option linter.unusedVariables false

theorem imgA : ∀ i, i < 44 → imgZ ((plsAll imageB).getD i zp) = some (i : Int) ∧ 0 ≤ ((plsAll imageB).getD i zp).back ∧ ((plsAll imageB).getD i zp).back ≤ 3 := by decide +kernel
theorem sndA : ∀ i, i < 31 → sndZ ((plsAll soundB).getD i zp) = some (i : Int) ∧ 0 ≤ ((plsAll soundB).getD i zp).back ∧ ((plsAll soundB).getD i zp).back ≤ 3 := by decide +kernel

def okB (L : List Plc) (p : Plc) : Option Int → Bool
  | none => true
  | some n => decide (0 ≤ n) && decide (L[n.toNat]? = some p)

theorem imgB : ∀ b : Nat, b < 4 → ∀ x : Nat, x < 7 → ∀ y : Nat, y < 4 → okB (plsAll imageB) ⟨(b : Int), 2, (x : Int) - 3, (y : Int) - 2⟩ (imgZ ⟨(b : Int), 2, (x : Int) - 3, (y : Int) - 2⟩) = true := by decide +kernel
theorem sndB : ∀ b : Nat, b < 4 → ∀ x : Nat, x < 17 → okB (plsAll soundB) ⟨(b : Int), 1, (x : Int) - 16, 0⟩ (sndZ ⟨(b : Int), 1, (x : Int) - 16, 0⟩) = true := by decide +kernel

theorem okB_some {L : List Plc} {p : Plc} {o : Option Int} {n : Int} (h : okB L p o = true) (e : o = some n) : 0 ≤ n ∧ L[n.toNat]? = some p := by
  subst e
  simpa [okB] using h

theorem imgB' (p : Plc) (n : Int) (h0 : 0 ≤ p.back) (h3 : p.back ≤ 3) (h : imgZ p = some n) : 0 ≤ n ∧ (plsAll imageB)[n.toNat]? = some p := by
  obtain ⟨b, c, x, y⟩ := p
  simp only at h0 h3
  have hbox : c = 2 ∧ -3 ≤ x ∧ x ≤ 3 ∧ -2 ≤ y ∧ y ≤ 1 := by
    unfold imgZ at h
    simp only at h
    split at h
    · cases h
    · rename_i hc
      split at h
      · split at h
        · cases h
        · rename_i h4; refine ⟨by omega, by omega, by omega, by omega, by omega⟩
      · split at h
        · cases h
        · rename_i h4; refine ⟨by omega, by omega, by omega, by omega, by omega⟩
  obtain ⟨rfl, h1, h2, h4, h5⟩ := hbox
  have e : (⟨b, 2, x, y⟩ : Plc) = ⟨((b.toNat : Nat) : Int), 2, (((x + 3).toNat : Nat) : Int) - 3, (((y + 2).toNat : Nat) : Int) - 2⟩ := by
    simp only [Plc.mk.injEq]; refine ⟨by omega, trivial, by omega, by omega⟩
  have hk := imgB b.toNat (by omega) (x + 3).toNat (by omega) (y + 2).toNat (by omega)
  rw [← e] at hk
  exact okB_some hk h

theorem sndB' (p : Plc) (n : Int) (h0 : 0 ≤ p.back) (h3 : p.back ≤ 3) (h : sndZ p = some n) : 0 ≤ n ∧ (plsAll soundB)[n.toNat]? = some p := by
  obtain ⟨b, c, x, y⟩ := p
  simp only at h0 h3
  have hbox : c = 1 ∧ y = 0 ∧ -16 ≤ x ∧ x ≤ 0 := by
    unfold sndZ at h
    simp only at h
    split at h
    · cases h
    · rename_i hc
      split at h
      · refine ⟨by omega, by omega, by omega, by omega⟩
      · split at h
        · refine ⟨by omega, by omega, by omega, by omega⟩
        · cases h
  obtain ⟨rfl, rfl, h1, h2⟩ := hbox
  have e : (⟨b, 1, x, 0⟩ : Plc) = ⟨((b.toNat : Nat) : Int), 1, (((x + 16).toNat : Nat) : Int) - 16, 0⟩ := by
    simp only [Plc.mk.injEq]; refine ⟨by omega, trivial, by omega, trivial⟩
  have hk := sndB b.toNat (by omega) (x + 16).toNat (by omega)
  rw [← e] at hk
  exact okB_some hk h

theorem len44 : (plsAll imageB).length = 44 := by decide +kernel
theorem len31 : (plsAll soundB).length = 31 := by decide +kernel

/-- The place of a number has that number. -/
theorem num_of_at (f d : Int) (i : Nat) (p : Plc) (h : (plcs f d)[i]? = some p) : rnumZ f d p = some (i : Int) := by
  have hi : i < (plcs f d).length := (List.getElem?_eq_some_iff.1 h).1
  rcases kind3 f d with ⟨hm, rfl⟩ | ⟨hm, rfl⟩ | hm
  · have e : plcs 0 d = plsAll imageB := by simp [plcs, blks, hm]
    rw [e] at h hi
    rw [len44] at hi
    obtain ⟨h1, h2, h3⟩ := imgA i hi
    have hp : (plsAll imageB).getD i zp = p := by simp [List.getD, h]
    rw [hp] at h1 h2 h3
    unfold rnumZ
    rw [if_neg (by simp [hm]; omega), if_neg (by decide), h1]
  · have e : plcs 1 d = plsAll soundB := by simp [plcs, blks, hm]
    rw [e] at h hi
    rw [len31] at hi
    obtain ⟨h1, h2, h3⟩ := sndA i hi
    have hp : (plsAll soundB).getD i zp = p := by simp [List.getD, h]
    rw [hp] at h1 h2 h3
    unfold rnumZ
    rw [if_neg (by simp [hm]; omega), if_pos rfl, h1]
  · have e : plcs f d = [] := by simp [plcs, blks, hm, plsAll]
    rw [e] at h
    simp at h

/-- The number of a place is that of the list. -/
theorem at_of_num (f d : Int) (p : Plc) (n : Int) (h : rnumZ f d p = some n) : 0 ≤ n ∧ (plcs f d)[n.toNat]? = some p := by
  unfold rnumZ at h
  split at h
  · cases h
  · rename_i hc
    have hm : May f d := Classical.byContradiction fun h' => hc (.inl h')
    have h0 : 0 ≤ p.back := by omega
    have h3 : p.back ≤ 3 := by omega
    rcases hm.1 with rfl | rfl
    · have e : plcs 0 d = plsAll imageB := by simp [plcs, blks, hm]
      rw [e]
      exact imgB' p n h0 h3 h
    · have e : plcs 1 d = plsAll soundB := by simp [plcs, blks, hm]
      rw [e]
      exact sndB' p n h0 h3 h

theorem at_iff (f d n : Int) (p : Plc) : atZ f d n = some p ↔ rnumZ f d p = some n := by
  constructor
  · intro h
    unfold atZ at h
    split at h
    · rename_i h0
      have := num_of_at f d _ p h
      rw [this]; congr 1; omega
    · cases h
  · intro h
    obtain ⟨h0, h1⟩ := at_of_num f d p n h
    unfold atZ
    rw [if_pos h0]; exact h1

theorem look_spec (L : List Plc) (p : Plc) : ∀ pre : List (Fin 64), (∀ m, look L pre p = some m → ∃ i ∈ pre, i.val = m ∧ L.getD i.val zp = p) ∧ (look L pre p = none → ∀ i ∈ pre, L.getD i.val zp ≠ p) := by
  intro pre
  obtain ⟨qs, rfl⟩ : ∃ qs : List (Fin 64), pre = qs.reverse := ⟨pre.reverse, by simp⟩
  induction qs with
  | nil => simp [look]
  | cons i qs ih =>
    rw [List.reverse_cons, look_snoc]
    by_cases e : L.getD i.val zp = p
    · rw [if_pos e]
      exact ⟨fun m hm => ⟨i, by simp, by simpa using hm, e⟩, fun h => by cases h⟩
    · rw [if_neg e]
      refine ⟨fun m hm => ?_, fun h j hj => ?_⟩
      · obtain ⟨j, h1, h2⟩ := ih.1 m hm
        exact ⟨j, by simp [h1], h2⟩
      · rcases List.mem_append.1 hj with h1 | h1
        · exact ih.2 h j h1
        · simp at h1; subst h1; exact e

/-- The map's answer and the formulas'. -/
theorem num_same (f d : Int) (p : Plc) : numV f d p = optV (rnumZ f d p) := by
  have hle := (blks_bound f d).1
  obtain ⟨h1, h2⟩ := look_spec (plcs f d) p (upto (plcs f d).length)
  unfold numV numZ optV
  cases hz : look (plcs f d) (upto (plcs f d).length) p with
  | some m =>
    obtain ⟨i, hi, rfl, hp⟩ := h1 m hz
    have hil := (upto_mem _ _).1 hi
    have hp' : (plcs f d)[i.val]? = some p := by
      rw [← hp]; simp [List.getD, hil]
    rw [num_of_at f d i.val p hp']
    rfl
  | none =>
    have : rnumZ f d p = none := by
      cases hr : rnumZ f d p with
      | none => rfl
      | some n =>
        obtain ⟨h3, h4⟩ := at_of_num f d p n hr
        have hlt : n.toNat < (plcs f d).length := (List.getElem?_eq_some_iff.1 h4).1
        exact absurd (by simp [List.getD, h4]) (h2 hz ⟨n.toNat, by omega⟩ ((upto_mem _ _).2 hlt))
    rw [this]
    rfl

end Go.Proofs.Ytinlknflkgijmaa

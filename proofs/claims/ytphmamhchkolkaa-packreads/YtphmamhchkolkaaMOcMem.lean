/-
  Lists of bytes in memory: what a byte slice reads as, and how that is carried from one state of memory to another.
-/
import Derived.WalkKit
import Derived.WalkSpells
namespace Go.Proofs.Ytphmamhchkolkaa.Ocm
open Go.RowKit
set_option linter.unusedVariables false

/-- A fact put behind a name, so that the walk does not take it for a rule. -/
theorem hide {p : Prop} (h : p) : Hid p := h

abbrev u8s (zs : List Int) : List Value := zs.map (Value.int .u8)

/-- The slice (a, n, cap) reads as the bytes zs. -/
structure Bytes (w : World) (a : Option Addr) (n cap : Nat) (zs : List Int) : Prop where
  len : zs.length = n
  le : n ≤ cap
  max : cap ≤ maxLen
  nil : a = none → cap = 0
  byte : ∀ z ∈ zs, 0 ≤ z ∧ z ≤ 255
  cell : n = 0 ∨ ∃ b off, a = some ⟨b, off, none⟩ ∧ ∀ i, i < n → w.cell? ⟨b, off + i, none⟩ = some (.int .u8 (zs.getD i 0))

theorem Bytes.at {w : World} {a : Option Addr} {n cap : Nat} {zs : List Int} (h : Bytes w a n cap zs) (hn : n ≠ 0) :
    ∃ b off, a = some ⟨b, off, none⟩ ∧ b < w.heap.size ∧ ∀ i, i < n → w.cell? ⟨b, off + i, none⟩ = some (.int .u8 (zs.getD i 0)) := by
  rcases h.cell with h0 | ⟨b, off, ha, hc⟩
  · exact absurd h0 hn
  · exact ⟨b, off, ha, World.block_lt_of_cell? w _ (hc 0 (by omega)), hc⟩

/-- Reading goes by the cells alone. -/
theorem Bytes.of_cells {w w' : World} {a : Option Addr} {n cap : Nat} {zs : List Int} (h : Bytes w a n cap zs)
    (hc : ∀ b off, a = some ⟨b, off, none⟩ → n ≠ 0 → ∀ i, i < n → w'.cell? ⟨b, off + i, none⟩ = w.cell? ⟨b, off + i, none⟩) : Bytes w' a n cap zs := by
  refine ⟨h.len, h.le, h.max, h.nil, h.byte, ?_⟩
  by_cases hn : n = 0
  · exact .inl hn
  · obtain ⟨b, off, ha, _, hcell⟩ := h.at hn
    exact .inr ⟨b, off, ha, fun i hi => (hc b off ha hn i hi).trans (hcell i hi)⟩

theorem Bytes.later {w w' : World} {a : Option Addr} {n cap : Nat} {zs : List Int} (h : Bytes w a n cap zs) (hb : Below w.heap.size w w') : Bytes w' a n cap zs := by
  refine h.of_cells fun b off ha hn i hi => ?_
  obtain ⟨b', off', ha', hlt, _⟩ := h.at hn
  rw [ha] at ha'
  cases ha'
  exact hb.cell (p := ⟨b, off + i, none⟩) hlt

/-- A byte slice in a block below B, where memory below B is as it was. -/
theorem Bytes.below {B : Nat} {w w' : World} {a : Option Addr} {n cap : Nat} {zs : List Int} (h : Bytes w a n cap zs) (hb : Below B w w') (hB : ∀ x, a = some x → n ≠ 0 → x.block < B) : Bytes w' a n cap zs :=
  h.of_cells fun b off ha hn i hi => hb.cell (p := ⟨b, off + i, none⟩) (hB ⟨b, off, none⟩ ha hn)

/-- What a call has made itself and owns reads as these bytes. -/
theorem Bytes.of_owns {w : World} {base : Nat} {v : Value} {n : Nat} {zs : List Int} (h : w.ownsRow base 5 1 v n (u8s zs)) (hz : ∀ z ∈ zs, 0 ≤ z ∧ z ≤ 255) :
    ∃ a cap, v = .slice a n cap ∧ Bytes w a n cap zs ∧ (∀ x, a = some x → base ≤ x.block ∧ x.block < w.heap.size) := by
  have hl : zs.length = n := by simpa using h.1
  have hlt := h.lt
  have hcs := fun g hg => h.cells (g := g) hg
  rcases h.2 with ⟨rfl, rfl⟩ | ⟨g, cap, cur, rfl, hb, hg, hnc, hcm, hsz, htake⟩
  · exact ⟨none, 0, rfl, ⟨hl, Nat.le_refl _, Nat.zero_le _, fun _ => rfl, hz, .inl rfl⟩, fun x hx => by cases hx⟩
  · refine ⟨some ⟨g, 0, none⟩, cap, rfl, ⟨hl, hnc, hcm, (fun h => by cases h), hz, .inr ⟨g, 0, rfl, fun i hi => ?_⟩⟩, fun x hx => by cases hx; exact hlt g rfl⟩
    have := hcs g rfl i (.int .u8 (zs.getD i 0)) (by simp [List.getD, hl, hi])
    rw [Addr.add_lit] at this
    exact this

theorem getD_byte {zs : List Int} (h : ∀ z ∈ zs, 0 ≤ z ∧ z ≤ 255) (i : Nat) : 0 ≤ zs.getD i 0 ∧ zs.getD i 0 ≤ 255 := by
  by_cases hi : i < zs.length
  · have e : zs.getD i 0 = zs[i] := by simp [List.getD, hi]
    rw [e]; exact h _ (List.getElem_mem hi)
  · simp [List.getD, hi]

end Go.Proofs.Ytphmamhchkolkaa.Ocm

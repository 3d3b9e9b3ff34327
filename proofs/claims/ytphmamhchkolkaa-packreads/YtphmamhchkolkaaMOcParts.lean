/-
  Lists of byte slices in memory, and what they hold one behind the other.
-/
import Derived.Test.YtphmamhchkolkaaMOcMem
namespace Go.Proofs.Ytphmamhchkolkaa.Ocm
open Go.RowKit
set_option linter.unusedVariables false

/-- A byte slice: its address, its length, its capacity; the bytes that it reads as. -/
structure Part where
  a : Option Addr
  n : Nat
  c : Nat
  zs : List Int

abbrev Part.v (p : Part) : Value := .slice p.a p.n p.c

def joined (ps : List Part) : List Int := (ps.map Part.zs).flatten

/-- The slice (pa, pn) of byte slices reads as ps. -/
structure Parts (w : World) (pa : Option Addr) (pn : Nat) (ps : List Part) : Prop where
  len : ps.length = pn
  cell : pn = 0 ∨ ∃ b off, pa = some ⟨b, off, none⟩ ∧ ∀ i (hi : i < ps.length), w.cell? ⟨b, off + i, none⟩ = some ps[i].v
  part : ∀ p ∈ ps, Bytes w p.a p.n p.c p.zs

theorem Parts.at {w : World} {pa : Option Addr} {pn : Nat} {ps : List Part} (h : Parts w pa pn ps) (hn : pn ≠ 0) :
    ∃ b off, pa = some ⟨b, off, none⟩ ∧ b < w.heap.size ∧ ∀ i (hi : i < ps.length), w.cell? ⟨b, off + i, none⟩ = some ps[i].v := by
  rcases h.cell with h0 | ⟨b, off, ha, hc⟩
  · exact absurd h0 hn
  · exact ⟨b, off, ha, World.block_lt_of_cell? w _ (hc 0 (by have := h.len; omega)), hc⟩

theorem joined_succ {ps : List Part} {k : Nat} (hk : k < ps.length) : joined (ps.take (k + 1)) = joined (ps.take k) ++ ps[k].zs := by
  rw [List.take_succ_eq_append_getElem hk]
  simp only [joined, List.map_append, List.flatten_append, List.map_cons, List.map_nil, List.flatten_cons, List.flatten_nil, List.append_nil]

theorem joined_le (ps : List Part) (k : Nat) : (joined (ps.take k)).length ≤ (joined ps).length := by
  have h : joined ps = joined (ps.take k) ++ joined (ps.drop k) := by
    simp only [joined]
    rw [← List.flatten_append, ← List.map_append, List.take_append_drop]
  rw [h, List.length_append]
  omega

theorem Bytes.news {w : World} {a : Option Addr} {n cap : Nat} {zs : List Int} (h : Bytes w a n cap zs) : ∀ ad, a = some ad → ∀ j u, (u8s zs)[j]? = some u → w.cell? (ad.add j) = some u := by
  intro ad had j u hu
  have hj : j < n := by
    have := (List.getElem?_eq_some_iff.1 hu).1
    simpa [h.len] using this
  obtain ⟨b, off, ha, _, hc⟩ := h.at (by omega)
  rw [had] at ha
  cases ha
  rw [Addr.add_lit, hc j hj]
  have e : (u8s zs)[j]? = some (.int .u8 (zs.getD j 0)) := by simp [List.getD, show j < zs.length by rw [h.len]; exact hj]
  rw [e] at hu
  exact hu

theorem Parts.later {w w' : World} {pa : Option Addr} {pn : Nat} {ps : List Part} (h : Parts w pa pn ps) (hb : Below w.heap.size w w') : Parts w' pa pn ps := by
  refine ⟨h.len, ?_, fun p hp => (h.part p hp).later hb⟩
  by_cases hn : pn = 0
  · exact .inl hn
  · obtain ⟨b, off, ha, hlt, hc⟩ := h.at hn
    exact .inr ⟨b, off, ha, fun i hi => (hb.cell (p := ⟨b, off + i, none⟩) hlt).trans (hc i hi)⟩

end Go.Proofs.Ytphmamhchkolkaa.Ocm

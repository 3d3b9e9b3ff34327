/-
  A slice of spans in memory.
-/
import Derived.Test.YtlhbgkaknfhlnaaSpAsk
import Derived.Test.YtlhbgkaknfhlnaaSpApp
namespace Go.Proofs.Ytlhbgkaknfhlnaa.Spn
open Go.RowKit Go.IntWalk Go.Sort
set_option linter.unusedVariables false

/-- The slice (a, n, cap) reads as the spans L. -/
structure Spans (w : World) (a : Option Addr) (n cap : Nat) (L : List (Int × Int)) : Prop where
  len : L.length = n
  le : n ≤ cap
  max : cap ≤ maxLen
  nil : a = none → cap = 0
  cell : n = 0 ∨ ∃ b off, a = some ⟨b, off, none⟩ ∧ ∀ i, i < n → w.cell? ⟨b, off + i * 2, none⟩ = some (.int .i64 (L.getD i (0, 0)).1) ∧ w.cell? ⟨b, off + i * 2 + 1, none⟩ = some (.int .i64 (L.getD i (0, 0)).2)

theorem Spans.at {w : World} {a : Option Addr} {n cap : Nat} {L : List (Int × Int)} (h : Spans w a n cap L) (hn : n ≠ 0) :
    ∃ b off, a = some ⟨b, off, none⟩ ∧ b < w.heap.size ∧ ∀ i, i < n → w.cell? ⟨b, off + i * 2, none⟩ = some (.int .i64 (L.getD i (0, 0)).1) ∧ w.cell? ⟨b, off + i * 2 + 1, none⟩ = some (.int .i64 (L.getD i (0, 0)).2) := by
  rcases h.cell with h0 | ⟨b, off, ha, hc⟩
  · exact absurd h0 hn
  · exact ⟨b, off, ha, World.block_lt_of_cell? w _ (hc 0 (by omega)).1, hc⟩

theorem Spans.later {w w' : World} {a : Option Addr} {n cap : Nat} {L : List (Int × Int)} (h : Spans w a n cap L) (hb : Below w.heap.size w w') : Spans w' a n cap L := by
  refine ⟨h.len, h.le, h.max, h.nil, ?_⟩
  by_cases hn : n = 0
  · exact .inl hn
  · obtain ⟨b, off, ha, hlt, hc⟩ := h.at hn
    exact .inr ⟨b, off, ha, fun i hi => ⟨(hb.cell (p := ⟨b, off + i * 2, none⟩) hlt).trans (hc i hi).1, (hb.cell (p := ⟨b, off + i * 2 + 1, none⟩) hlt).trans (hc i hi).2⟩⟩

/-- Two spans written out. -/
theorem slit2 (w : World) (a b c d : Int) : Spans (w.alloc (.cells #[.int .i64 a, .int .i64 b, .int .i64 c, .int .i64 d] 42)) (some ⟨w.heap.size, 0, none⟩) 2 2 [(a, b), (c, d)] := by
  refine ⟨rfl, Nat.le_refl _, by decide, (fun h => by cases h), .inr ⟨_, _, rfl, fun i hi => ?_⟩⟩
  rcases (show i = 0 ∨ i = 1 by omega) with rfl | rfl <;> simp

end Go.Proofs.Ytlhbgkaknfhlnaa.Spn

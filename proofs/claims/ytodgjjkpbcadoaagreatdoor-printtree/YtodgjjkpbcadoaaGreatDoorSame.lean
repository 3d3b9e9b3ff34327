/-
  The document's Same: two lists that read as the same tokens are alike.
-/
import Derived.Test.YtodgjjkpbcadoaaGreatDoorTokens
import Derived.Deep.QuietTactic
import Derived.BigQuiet
namespace Go.Proofs.YtodgjjkpbcadoaaGreatDoor
open Go.RowKit Go.IntWalk Lx
set_option linter.unusedVariables false

theorem below_drewN (w : World) (q : Nat) : Below w.heap.size w (w.drewN q) := ⟨rfl, rfl, rfl, Nat.le_refl _, fun _ _ => rfl⟩

theorem Toks.at {w : World} {a : Option Addr} {n cap : Nat} {T : List Tok} (h : Toks w a n cap T) (hn : n ≠ 0) :
    ∃ b off, a = some ⟨b, off, none⟩ ∧ b < w.heap.size ∧ ∀ i, i < n → w.cell? ⟨b, off + i * 3, none⟩ = some (.int .i64 (T.getD i t0).kind) ∧ w.cell? ⟨b, off + i * 3 + 1, none⟩ = some (.string (sB (T.getD i t0).text)) ∧ w.cell? ⟨b, off + i * 3 + 2, none⟩ = some (.int .i64 ((T.getD i t0).pos : Int)) := by
  rcases h.cell with h0 | ⟨b, off, ha, hc⟩
  · exact absurd h0 hn
  · exact ⟨b, off, ha, World.block_lt_of_cell? w _ (hc 0 (by omega)).1, hc⟩
theorem Toks.of_cells {w w' : World} {a : Option Addr} {n cap : Nat} {T : List Tok} (h : Toks w a n cap T)
    (hc : ∀ b off, a = some ⟨b, off, none⟩ → n ≠ 0 → ∀ i, w'.cell? ⟨b, i, none⟩ = w.cell? ⟨b, i, none⟩) : Toks w' a n cap T := by
  refine ⟨h.len, h.le, h.max, h.nil, ?_⟩
  by_cases hn : n = 0
  · exact .inl hn
  · obtain ⟨b, off, ha, _, hcell⟩ := h.at hn
    refine .inr ⟨b, off, ha, fun i hi => ?_⟩
    obtain ⟨c1, c2, c3⟩ := hcell i hi
    exact ⟨(hc b off ha hn _).trans c1, (hc b off ha hn _).trans c2, (hc b off ha hn _).trans c3⟩
theorem Toks.later {w w' : World} {a : Option Addr} {n cap : Nat} {T : List Tok} (h : Toks w a n cap T) (hb : Below w.heap.size w w') : Toks w' a n cap T := by
  refine h.of_cells fun b off ha hn i => ?_
  obtain ⟨b', off', ha', hlt, _⟩ := h.at hn
  rw [ha] at ha'
  cases ha'
  exact hb.cell (p := ⟨b, i, none⟩) hlt

end Go.Proofs.YtodgjjkpbcadoaaGreatDoor

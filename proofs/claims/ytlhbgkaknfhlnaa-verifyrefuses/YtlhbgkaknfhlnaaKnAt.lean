/-
  Blocks and their cells.
-/
import Derived.Test.YtlhbgkaknfhlnaaKnLow
import Derived.Laws.AppendOwn
import Derived.Laws.OwnMore
import Derived.OwnWalk
namespace Go.Proofs.Ytlhbgkaknfhlnaa.Knd
open Go.RowKit
set_option linter.unusedVariables false

/-- The block b holds just these cells. -/
def HasC (W : World) (b : Nat) (t : TypeId) (cs : Array Value) : Prop := W.heap[b]? = some (.cells cs t (0, 0))

theorem HasC.lt {W : World} {b : Nat} {t : TypeId} {cs : Array Value} (h : HasC W b t cs) : b < W.heap.size := (Array.getElem?_eq_some_iff.1 h).1
theorem HasC.new (W : World) (t : TypeId) (cs : Array Value) : HasC (W.alloc (.cells cs t)) W.heap.size t cs := heap_alloc_new W _
theorem HasC.kept {W W' : World} {row : Option Nat} {b : Nat} {t : TypeId} {cs : Array Value} (h : HasC W b t cs) (hg : W.grownBy W' row) (hne : some b ≠ row) : HasC W' b t cs := (hg.block b h.lt hne).trans h
theorem HasC.alloc {W : World} {b : Nat} {t : TypeId} {cs : Array Value} (h : HasC W b t cs) (o : Obj) : HasC (W.alloc o) b t cs := h.kept (World.grownBy_alloc W o none) (by simp)
theorem HasC.below {W W' : World} {b : Nat} {t : TypeId} {cs : Array Value} (h : HasC W b t cs) (hb : Below W.heap.size W W') : HasC W' b t cs := (hb.block b h.lt).trans h
theorem HasC.cell {W : World} {b : Nat} {t : TypeId} {cs : Array Value} (h : HasC W b t cs) (i : Nat) {v : Value} (hv : cs[i]? = some v) : W.cell? ⟨b, i, none⟩ = some v := (cell_of_row W b i cs t (0, 0) h).trans hv
theorem HasC.frozen {W : World} {b : Nat} {t : TypeId} {cs : Array Value} (h : HasC W b t cs) (i : Nat) : W.frozen? ⟨b, i, none⟩ = false := by
  simp [World.frozen?, show W.heap[b]? = _ from h]
theorem HasC.other {W : World} {b : Nat} {t : TypeId} {cs : Array Value} (h : HasC W b t cs) {p : Addr} (hne : b ≠ p.block) (u : Value) : HasC (W.setCell p u) b t cs := (Below.heap_setCell W p u b hne).trans h
theorem HasC.set {W : World} {b : Nat} {t : TypeId} {cs : Array Value} (h : HasC W b t cs) (i : Nat) (u : Value) : HasC (W.setCell ⟨b, i, none⟩ u) b t (cs.setIfInBounds i u) := by
  obtain ⟨hlt, hk⟩ := Array.getElem?_eq_some_iff.1 h
  show (W.heap.modify b _)[b]? = _
  rw [Array.getElem?_eq_getElem (by rw [Array.size_modify]; exact hlt), Array.getElem_modify_self, hk]
  rfl
end Go.Proofs.Ytlhbgkaknfhlnaa.Knd

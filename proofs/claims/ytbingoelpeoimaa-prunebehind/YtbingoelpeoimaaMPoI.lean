/-
  An argument that is a list of instructions: what its reading says, and how long it can be.
-/
import Derived.Test.YtbingoelpeoimaaMCdOpenC
namespace Go.Proofs.Prn
open Go.ChangeShapes Go.WideShapes Go.ChangeAt Go.RowKit
open Cde (In Ins open_ins obytesN)
set_option linter.unusedVariables false

set_option maxRecDepth 100000 in
theorem open_insts {H : Type} {enc : TypeId × Value → H} {W : World} {r : Reach} {b0 : Nat} {v : Value} {d : DataW H} {ps : List MemPlace}
    (hval : Value.okWide Try.prog W r b0 24 v) (h : DataW.Trod enc Try.prog W 0 (fun _ => true) true 24 v d ps) :
    ∃ a n c L, v = .slice a n c ∧ Ins W a n c L ∧ ((d = .nil ∧ n = 0) ∨ ∃ els spare, d = .slice els spare ∧ els.length = n) := by
  obtain ⟨a, n, c, rfl⟩ := okWide_slice Try.underlying24 hval
  obtain ⟨fuel, hf⟩ := h
  obtain ⟨a', n', c', L, e, hI, hd⟩ := open_ins (v := .slice a n c) hf
  exact ⟨a', n', c', L, e, hI, hd⟩

set_option maxRecDepth 100000 in
theorem insts_reach {H : Type} {n : Nat} {d : DataW H} {ts : List TypeId} {ds : List (DataW H)} (he : (d = .nil ∧ n = 0) ∨ ∃ els spare, d = .slice els spare ∧ els.length = n)
    (hsz : (DataW.weightsEach Try.prog ts ds).all (· ≤ reachBytes) = true) (j : Nat) (ht : ts[j]? = some 24) (hj : ds[j]? = some d) : n ≤ 2932031007317 := by
  rcases he with ⟨_, rfl⟩ | ⟨els, spare, rfl, rfl⟩
  · omega
  · have hmem : (els.length + spare.length) * Try.prog.bytesOf 48 ∈ (DataW.slice els spare).weights Try.prog 24 := by
      simp [DataW.weights, Try.underlying24]
    have := of_decide_eq_true (List.all_eq_true.1 hsz _ (DataW.weights_mem_each ht hj _ hmem))
    rw [obytesN] at this
    simp only [reachBytes] at this
    omega

end Go.Proofs.Prn

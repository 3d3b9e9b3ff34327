/-
  An argument that is a list of numbers: what its reading says of memory.
-/
import Derived.Test.YtbpdmbgmaloieaaOpen
import Derived.Test.YtbpdmbgmaloieaaVal
import Derived.SizedLaws
namespace Go.Proofs.Ytbpdmbgmaloieaa
open Go.ChangeShapes Go.WideShapes Go.ChangeAt Go.RowKit
set_option linter.unusedVariables false

theorem bytes3 : Try.prog.bytesOf 3 = 8 := by kernel_rfl
theorem cells3 : Try.prog.cellsOf 3 = 1 := by kernel_rfl

theorem open_ints' {H : Type} {enc : TypeId × Value → H} {W : World} {a : Option Addr} {n c : Nat} {d : DataW H} {p : List MemPlace}
    (h : DataW.Trod enc Try.prog W 0 (fun _ => true) true 26 (.slice a n c) d p) :
    ∃ zs, Ints W a n c zs ∧ ((d = .nil ∧ n = 0) ∨ ∃ spare, d = .slice (lits .i64 zs) spare) := by
  obtain ⟨fuel, hf⟩ := h
  rcases open_ints Try.underlying26 Try.underlying3 cells3 hf with ⟨hcs, hx⟩ | ⟨x, l, c', zs, hcs, _, hl, hm, hz, hx, hcell, hwz⟩
  · simp [Value.cells] at hcs
    obtain ⟨rfl, rfl, rfl⟩ := hcs
    simp only [Prod.mk.injEq] at hx
    exact ⟨[], ⟨rfl, Nat.le_refl _, Nat.zero_le _, fun _ => rfl, .inl rfl⟩, .inl ⟨hx.1, rfl⟩⟩
  · simp [Value.cells] at hcs
    obtain ⟨rfl, rfl, rfl⟩ := hcs
    simp only [Prod.mk.injEq] at hx
    simp only [if_true] at hz
    refine ⟨zs.take n, ⟨by rw [List.length_take]; omega, hl, hm, (fun h => by cases h), ?_⟩, .inr ⟨_, hx.1⟩⟩
    by_cases h0 : n = 0
    · exact .inl h0
    · obtain ⟨b, off, spot⟩ := x
      have hspot : spot = none := by simpa [Addr.add] using World.cell?_spot (hcell 0 (by omega))
      subst hspot
      refine .inr ⟨b, off, rfl, fun i hi => ?_⟩
      have := hcell i (by omega)
      rw [Addr.add_lit] at this
      rw [this]
      simp [List.getD, hi]

theorem ints_reach {H : Type} {W : World} {a : Option Addr} {n c : Nat} {zs : List Int} {d : DataW H} {ts : List TypeId} {ds : List (DataW H)} (hb : Ints W a n c zs) (hd : (d = .nil ∧ n = 0) ∨ ∃ spare, d = .slice (lits .i64 zs) spare)
    (hsz : (DataW.weightsEach Try.prog ts ds).all (· ≤ reachBytes) = true) (j : Nat) (ht : ts[j]? = some 26) (hj : ds[j]? = some d) : n * 8 ≤ 140737488355328 := by
  rcases hd with ⟨_, rfl⟩ | ⟨spare, rfl⟩
  · omega
  · have := sized_slice hsz ht hj Try.underlying26
    rw [bytes3] at this
    simp only [lits, List.length_map, reachBytes, hb.len] at this
    omega

end Go.Proofs.Ytbpdmbgmaloieaa

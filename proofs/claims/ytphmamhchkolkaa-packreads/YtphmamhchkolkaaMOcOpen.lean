/-
  Arguments that are byte slices: what their reading says of memory, and how they are read again behind the call.
-/
import Derived.Test.YtphmamhchkolkaaMOcZ
import Derived.ProofKit
import Derived.OpenShut
import Derived.ChangeOld
import Derived.SizedLaws
import Derived.Below
namespace Go.Proofs.Ytphmamhchkolkaa.Ocm
open Go.ChangeShapes Go.WideShapes Go.ChangeAt Go.RowKit Oct
set_option linter.unusedVariables false

theorem bytes5 : Try.prog.bytesOf 5 = 1 := by kernel_rfl
theorem cells5 : Try.prog.cellsOf 5 = 1 := by kernel_rfl

theorem wf_u8 {x : Int} (h : (Lit.int .u8 x).wf = true) : 0 ≤ x ∧ x ≤ 255 := by
  simp [Lit.wf, IntKind.min, IntKind.max, IntKind.signed, IntKind.bits] at h
  exact ⟨by omega, by omega⟩

/-- A byte slice that came in. -/
theorem open_bytes {H : Type} {enc : TypeId × Value → H} {W : World} {a : Option Addr} {n c : Nat} {d : DataW H} {p : List MemPlace}
    (h : DataW.Trod enc Try.prog W 0 (fun _ => true) true 28 (.slice a n c) d p) :
    ∃ zs, Bytes W a n c zs ∧ ((d = .nil ∧ n = 0) ∨ ∃ spare, d = .slice (lits .u8 zs) spare) := by
  obtain ⟨fuel, hf⟩ := h
  rcases open_ints Try.underlying28 Try.underlying5 cells5 hf with ⟨hcs, hx⟩ | ⟨x, l, c', zs, hcs, _, hl, hm, hz, hx, hcell, hwz⟩
  · simp [Value.cells] at hcs
    obtain ⟨rfl, rfl, rfl⟩ := hcs
    simp only [Prod.mk.injEq] at hx
    exact ⟨[], bytes_nil W, .inl ⟨hx.1, rfl⟩⟩
  · simp [Value.cells] at hcs
    obtain ⟨rfl, rfl, rfl⟩ := hcs
    simp only [Prod.mk.injEq] at hx
    simp only [if_true] at hz
    refine ⟨zs.take n, ⟨by rw [List.length_take]; omega, hl, hm, (fun h => by cases h), fun z hz' => wf_u8 (hwz z (List.mem_of_mem_take hz')), ?_⟩, .inr ⟨_, hx.1⟩⟩
    by_cases h0 : n = 0
    · exact .inl h0
    · obtain ⟨b, off, spot⟩ := x
      have hspot : spot = none := by simpa [Addr.add] using World.cell?_spot (hcell 0 (by omega))
      subst hspot
      refine .inr ⟨b, off, rfl, fun i hi => ?_⟩
      have := hcell i (by omega)
      rw [Addr.add_lit] at this
      rw [this]
      simp [List.getD, hi]

theorem bytes_reach {H : Type} {W : World} {a : Option Addr} {n c : Nat} {zs : List Int} {d : DataW H} {ts : List TypeId} {ds : List (DataW H)} (hb : Bytes W a n c zs) (hd : (d = .nil ∧ n = 0) ∨ ∃ spare, d = .slice (lits .u8 zs) spare)
    (hsz : (DataW.weightsEach Try.prog ts ds).all (· ≤ reachBytes) = true) (j : Nat) (ht : ts[j]? = some 28) (hj : ds[j]? = some d) : n ≤ 140737488351232 := by
  rcases hd with ⟨_, rfl⟩ | ⟨spare, rfl⟩
  · exact Nat.zero_le _
  · have := sized_slice hsz ht hj Try.underlying28
    rw [bytes5] at this
    simp only [lits, List.length_map, reachBytes, hb.len] at this
    omega

end Go.Proofs.Ytphmamhchkolkaa.Ocm

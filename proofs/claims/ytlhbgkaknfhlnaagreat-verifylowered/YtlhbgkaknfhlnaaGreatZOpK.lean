/-
  Arguments: what their reading says of them.
-/
import Derived.Test.YtlhbgkaknfhlnaaGreatZLxA
import Derived.ProofKit
import Derived.OpenShut
import Derived.ChangeOld
import Derived.SizedLaws
import Derived.Below
import Derived.Deep.Slices
namespace Go.Proofs.YtlhbgkaknfhlnaaGreat
open Go.ChangeShapes Go.WideShapes Go.ChangeAt Go.RowKit
set_option linter.unusedVariables false

theorem ownK : ownKnob Tryz.prog.godebug = none := by kernel_rfl
theorem laidOut' : laidOutB Tryz.prog = true := by kernel_rfl
theorem ocells5 : Tryz.prog.cellsOf 5 = 1 := by kernel_rfl

theorem wf_u8 {x : Int} (h : (Lit.int .u8 x).wf = true) : 0 ≤ x ∧ x ≤ 255 := by
  simp [Lit.wf, IntKind.min, IntKind.max, IntKind.signed, IntKind.bits] at h
  exact ⟨by omega, by omega⟩

end Go.Proofs.YtlhbgkaknfhlnaaGreat

/-
  An argument that is a kind: what its reading says of it.
-/
namespace Go.Proofs.YtlhbgkaknfhlnaaGreat
open Go.ChangeShapes Go.WideShapes Go.ChangeAt Go.RowKit
set_option linter.unusedVariables false

theorem ocellsK : Tryz.prog.cellsOf 23 = 2 := by kernel_rfl
theorem ocellsI : Tryz.prog.cellsOf 3 = 1 := by kernel_rfl

set_option maxRecDepth 100000 in
/-- One field that is a number. -/
theorem field_intK {H : Type} {enc : TypeId × Value → H} {W : World} {b : Nat} {sp : Nat → Bool} {hd : Bool} {n : Nat} {v : Value} {y : Option (DataW H × List MemPlace)}
    (h : DataW.trod enc Tryz.prog W b sp hd n 3 [v] = y) (hy : y.isSome = true) : ∃ a, v = .int .i64 a ∧ y = some (.lit (.int .i64 a), []) ∧ (Lit.int .i64 a).wf = true := by
  cases y with
  | none => cases hy
  | some x =>
    obtain ⟨a, h1, h2, h3⟩ := DataW.trod_int Tryz.underlying3 h
    simp at h1
    exact ⟨a, h1, by rw [h2], h3⟩

set_option maxRecDepth 100000 in
theorem open_kind {H : Type} {enc : TypeId × Value → H} {W : World} {r : Reach} {b0 b : Nat} {sp : Nat → Bool} {hd : Bool} {v : Value} {d : DataW H} {ps : List MemPlace}
    (hval : Value.okWide Tryz.prog W r b0 23 v) (h : DataW.Trod enc Tryz.prog W b sp hd 23 v d ps) : ∃ x y, v = .agg #[.int .i64 x, .int .i64 y] := by
  unfold Value.okWide at hval
  rw [Tryz.underlying23] at hval
  obtain ⟨cs, rfl, hsz, _⟩ := hval
  rw [ocellsK] at hsz
  obtain ⟨fuel, hf⟩ := h
  obtain ⟨xs, n, _, hx, hl, hxs, hall⟩ := DataW.trod_struct Tryz.underlying23 hf
  obtain ⟨c0, c1, rfl⟩ : ∃ c0 c1, cs = #[c0, c1] := by
    obtain ⟨l⟩ := cs
    match l, hsz with
    | [a, b], _ => exact ⟨a, b, rfl⟩
  have hlen : xs.length = 2 := hxs
  have f0 := hall 0 _ rfl
  have f1 := hall 1 _ rfl
  simp only [Value.cells] at f0 f1
  obtain ⟨x, rfl, _, _⟩ := field_intK f0 (by simp [hlen])
  obtain ⟨y, rfl, _, _⟩ := field_intK f1 (by simp [hlen])
  exact ⟨x, y, rfl⟩

end Go.Proofs.YtlhbgkaknfhlnaaGreat

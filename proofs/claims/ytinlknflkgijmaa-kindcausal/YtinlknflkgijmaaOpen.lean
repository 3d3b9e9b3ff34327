/-
  Arguments that are kinds, places and windows: what their reading says of them.
-/
import Derived.Test.YtinlknflkgijmaaLow
import Derived.ProofKit
import Derived.OpenShut
import Derived.ChangeOld
import Derived.SizedLaws
import Derived.Below
import Derived.Deep.Slices
namespace Go.Proofs.Ytinlknflkgijmaa
open Go.ChangeShapes Go.WideShapes Go.ChangeAt Go.RowKit
set_option linter.unusedVariables false

theorem ownK : ownKnob Try.prog.godebug = none := by kernel_rfl
theorem laidOut' : laidOutB Try.prog = true := by kernel_rfl
theorem ocells3 : Try.prog.cellsOf 3 = 1 := by kernel_rfl
theorem ocells23 : Try.prog.cellsOf 23 = 2 := by kernel_rfl
theorem ocells30 : Try.prog.cellsOf 30 = 4 := by kernel_rfl
theorem ocells41 : Try.prog.cellsOf 41 = 1 := by kernel_rfl
theorem ocells43 : Try.prog.cellsOf 43 = 4 := by kernel_rfl

theorem wf_i64 {x : Int} (h : (Lit.int .i64 x).wf = true) : -9223372036854775808 ≤ x ∧ x ≤ 9223372036854775807 := by
  simp [Lit.wf, IntKind.min, IntKind.max, IntKind.signed, IntKind.bits] at h
  exact ⟨by omega, by omega⟩

/-- One field that is a number. -/
theorem field_int {H : Type} {enc : TypeId × Value → H} {W : World} {b : Nat} {sp : Nat → Bool} {hd : Bool} {n : Nat} {v : Value} {y : Option (DataW H × List MemPlace)}
    (h : DataW.trod enc Try.prog W b sp hd n 3 [v] = y) (hy : y.isSome = true) : ∃ a, v = .int .i64 a ∧ y = some (.lit (.int .i64 a), []) ∧ (Lit.int .i64 a).wf = true := by
  cases y with
  | none => cases hy
  | some x =>
    obtain ⟨a, h1, h2, h3⟩ := DataW.trod_int Try.underlying3 h
    simp at h1
    exact ⟨a, h1, by rw [h2], h3⟩

theorem open_kind {H : Type} {enc : TypeId × Value → H} {W : World} {r : Reach} {b0 b : Nat} {sp : Nat → Bool} {hd : Bool} {v : Value} {d : DataW H} {ps : List MemPlace}
    (hval : Value.okWide Try.prog W r b0 23 v) (h : DataW.Trod enc Try.prog W b sp hd 23 v d ps) : ∃ x y, v = .agg #[.int .i64 x, .int .i64 y] := by
  unfold Value.okWide at hval
  rw [Try.underlying23] at hval
  obtain ⟨cs, rfl, hsz, _⟩ := hval
  rw [ocells23] at hsz
  obtain ⟨fuel, hf⟩ := h
  obtain ⟨xs, n, _, hx, hl, hxs, hall⟩ := DataW.trod_struct Try.underlying23 hf
  obtain ⟨c0, c1, rfl⟩ : ∃ c0 c1, cs = #[c0, c1] := by
    obtain ⟨l⟩ := cs
    match l, hsz with
    | [a, b], _ => exact ⟨a, b, rfl⟩
  have hlen : xs.length = 2 := hxs
  have f0 := hall 0 _ rfl
  have f1 := hall 1 _ rfl
  simp only [Value.cells] at f0 f1
  obtain ⟨x, rfl, _, _⟩ := field_int f0 (by simp [hlen])
  obtain ⟨y, rfl, _, _⟩ := field_int f1 (by simp [hlen])
  exact ⟨x, y, rfl⟩

theorem open_place {H : Type} {enc : TypeId × Value → H} {W : World} {r : Reach} {b0 b : Nat} {sp : Nat → Bool} {hd : Bool} {v : Value} {d : DataW H} {ps : List MemPlace}
    (hval : Value.okWide Try.prog W r b0 30 v) (h : DataW.Trod enc Try.prog W b sp hd 30 v d ps) :
    ∃ x0 x1 x2 x3, v = .agg #[.int .i64 x0, .int .i64 x1, .int .i64 x2, .int .i64 x3] ∧ (Lit.int .i64 x0).wf = true ∧ (Lit.int .i64 x1).wf = true ∧ (Lit.int .i64 x2).wf = true ∧ (Lit.int .i64 x3).wf = true := by
  unfold Value.okWide at hval
  rw [Try.underlying30] at hval
  obtain ⟨cs, rfl, hsz, _⟩ := hval
  rw [ocells30] at hsz
  obtain ⟨fuel, hf⟩ := h
  obtain ⟨xs, n, _, hx, hl, hxs, hall⟩ := DataW.trod_struct Try.underlying30 hf
  obtain ⟨c0, c1, c2, c3, rfl⟩ : ∃ c0 c1 c2 c3, cs = #[c0, c1, c2, c3] := by
    obtain ⟨l⟩ := cs
    match l, hsz with
    | [a, b, c, d], _ => exact ⟨a, b, c, d, rfl⟩
  have hlen : xs.length = 4 := hxs
  have f0 := hall 0 _ rfl
  have f1 := hall 1 _ rfl
  have f2 := hall 2 _ rfl
  have f3 := hall 3 _ rfl
  simp only [Value.cells] at f0 f1 f2 f3
  obtain ⟨x0, rfl, _, w0⟩ := field_int f0 (by simp [hlen])
  obtain ⟨x1, rfl, _, w1⟩ := field_int f1 (by simp [hlen])
  obtain ⟨x2, rfl, _, w2⟩ := field_int f2 (by simp [hlen])
  obtain ⟨x3, rfl, _, w3⟩ := field_int f3 (by simp [hlen])
  exact ⟨x0, x1, x2, x3, rfl, w0, w1, w2, w3⟩

end Go.Proofs.Ytinlknflkgijmaa

/-
  Arguments: what their reading says of them.
-/
import Derived.Test.YtngnnijpdjhelaaGreatZLxA
import Derived.ProofKit
import Derived.OpenShut
import Derived.ChangeOld
import Derived.SizedLaws
import Derived.Below
import Derived.Deep.Slices
import Derived.Test.YtngnnijpdjhelaaGreatZKnF
namespace Go.Proofs.YtngnnijpdjhelaaGreat
open Go.ChangeShapes Go.WideShapes Go.ChangeAt Go.RowKit
set_option linter.unusedVariables false

theorem ownK : ownKnob Tryz.prog.godebug = none := by kernel_rfl
theorem laidOut' : laidOutB Tryz.prog = true := by kernel_rfl
theorem ocells5 : Tryz.prog.cellsOf 5 = 1 := by kernel_rfl

theorem wf_u8 {x : Int} (h : (Lit.int .u8 x).wf = true) : 0 ≤ x ∧ x ≤ 255 := by
  simp [Lit.wf, IntKind.min, IntKind.max, IntKind.signed, IntKind.bits] at h
  exact ⟨by omega, by omega⟩

end Go.Proofs.YtngnnijpdjhelaaGreat

/-
  An argument that is a kind: what its reading says of it.
-/
namespace Go.Proofs.YtngnnijpdjhelaaGreat
open Go.ChangeShapes Go.WideShapes Go.ChangeAt Go.RowKit
set_option linter.unusedVariables false

theorem ocellsK : Tryz.prog.cellsOf 23 = 2 := by kernel_rfl
theorem ocellsI : Tryz.prog.cellsOf 3 = 1 := by kernel_rfl

set_option maxRecDepth 100000 in
/-- One field that is a number. -/
theorem field_intK {H : Type} {enc : TypeId × Value → H} {W : World} {b : Nat} {sp : Nat → Bool} {hd : Bool} {n : Nat} {v : Value} {y : Option (DataW H × List MemPlace)}
    (h : DataW.trod enc Tryz.prog W b sp hd n 3 [v] = y) (hy : y.isSome = true) : ∃ a, v = .int .i64 a ∧ y = some (.lit (.int .i64 a), []) ∧ (Lit.int .i64 a).wf = true := by
  cases y with
  | none => cases hy
  | some x =>
    obtain ⟨a, h1, h2, h3⟩ := DataW.trod_int Tryz.underlying3 h
    simp at h1
    exact ⟨a, h1, by rw [h2], h3⟩

set_option maxRecDepth 100000 in
theorem open_kind {H : Type} {enc : TypeId × Value → H} {W : World} {r : Reach} {b0 b : Nat} {sp : Nat → Bool} {hd : Bool} {v : Value} {d : DataW H} {ps : List MemPlace}
    (hval : Value.okWide Tryz.prog W r b0 23 v) (h : DataW.Trod enc Tryz.prog W b sp hd 23 v d ps) : ∃ x y, v = .agg #[.int .i64 x, .int .i64 y] := by
  unfold Value.okWide at hval
  rw [Tryz.underlying23] at hval
  obtain ⟨cs, rfl, hsz, _⟩ := hval
  rw [ocellsK] at hsz
  obtain ⟨fuel, hf⟩ := h
  obtain ⟨xs, n, _, hx, hl, hxs, hall⟩ := DataW.trod_struct Tryz.underlying23 hf
  obtain ⟨c0, c1, rfl⟩ : ∃ c0 c1, cs = #[c0, c1] := by
    obtain ⟨l⟩ := cs
    match l, hsz with
    | [a, b], _ => exact ⟨a, b, rfl⟩
  have hlen : xs.length = 2 := hxs
  have f0 := hall 0 _ rfl
  have f1 := hall 1 _ rfl
  simp only [Value.cells] at f0 f1
  obtain ⟨x, rfl, _, _⟩ := field_intK f0 (by simp [hlen])
  obtain ⟨y, rfl, _, _⟩ := field_intK f1 (by simp [hlen])
  exact ⟨x, y, rfl⟩

end Go.Proofs.YtngnnijpdjhelaaGreat

/-
  Arguments that are windows or of 16 bits: what its reading says of them.
-/
namespace Go.Proofs.YtngnnijpdjhelaaGreat
open Go.ChangeShapes Go.WideShapes Go.ChangeAt Go.RowKit
set_option linter.unusedVariables false

theorem ocellsW : Tryz.prog.cellsOf 45 = 4 := by kernel_rfl
theorem wf_u16 {x : Int} (h : (Lit.int .u16 x).wf = true) : 0 ≤ x ∧ x ≤ 65535 := by
  simp [Lit.wf, IntKind.min, IntKind.max, IntKind.signed, IntKind.bits] at h
  exact ⟨by omega, by omega⟩
theorem ints_nil (w : World) : Knd.Ints w none 0 0 [] := ⟨rfl, Nat.le_refl _, Nat.zero_le _, fun _ => rfl, .inl rfl⟩

set_option maxRecDepth 100000 in
theorem open_nums {H : Type} {enc : TypeId × Value → H} {W : World} {fuel : Nat} {v : Value} {x : DataW H × List MemPlace}
    (h : DataW.trod enc Tryz.prog W 0 (fun _ => true) true fuel 25 [v] = some x) :
    ∃ a n c zs, v = .slice a n c ∧ Knd.Ints W a n c zs ∧ ((x.1 = .nil ∧ n = 0) ∨ ∃ spare, x.1 = .slice (lits .i64 zs) spare ∧ spare.length = c - n) := by
  rcases open_ints Tryz.underlying25 Tryz.underlying3 ocellsI h with ⟨hcs, hx⟩ | ⟨ad, l, c', zs, hcs, _, hl, hm, hz, hx, hcell, hwz⟩
  · simp at hcs
    exact ⟨none, 0, 0, [], hcs, ints_nil W, .inl ⟨by rw [hx], rfl⟩⟩
  · simp at hcs
    simp only [if_true] at hz
    refine ⟨some ad, l, c', zs.take l, hcs, ⟨by rw [List.length_take]; omega, hl, hm, (fun h => by cases h), ?_⟩, .inr ⟨_, by rw [hx], by simp [lits, List.length_drop, hz]⟩⟩
    by_cases h0 : l = 0
    · exact .inl h0
    · obtain ⟨b, off, spot⟩ := ad
      have hspot : spot = none := by simpa [Addr.add] using World.cell?_spot (hcell 0 (by omega))
      subst hspot
      refine .inr ⟨b, off, rfl, fun i hi => ?_⟩
      have := hcell i (by omega)
      rw [Addr.add_lit] at this
      rw [this]
      simp [List.getD, hi]

set_option maxRecDepth 100000 in
theorem open_window {H : Type} {enc : TypeId × Value → H} {W : World} {r : Reach} {b0 : Nat} {v : Value} {d : DataW H} {ps : List MemPlace}
    (hval : Value.okWide Tryz.prog W r b0 45 v) (h : DataW.Trod enc Tryz.prog W 0 (fun _ => true) true 45 v d ps) :
    ∃ x0 x1 x2 a n c zs, v = .agg #[.int .i64 x0, .int .i64 x1, .int .i64 x2, .slice a n c] ∧ Knd.Ints W a n c zs := by
  unfold Value.okWide at hval
  rw [Tryz.underlying45] at hval
  obtain ⟨cs, rfl, hsz, _⟩ := hval
  rw [ocellsW] at hsz
  obtain ⟨fuel, hf⟩ := h
  obtain ⟨xs, n, _, hx, hl, hxs, hall⟩ := DataW.trod_struct Tryz.underlying45 hf
  obtain ⟨c0, c1, c2, c3, rfl⟩ : ∃ c0 c1 c2 c3, cs = #[c0, c1, c2, c3] := by
    obtain ⟨l⟩ := cs
    match l, hsz with
    | [a, b, c, d], _ => exact ⟨a, b, c, d, rfl⟩
  have hlen : xs.length = 4 := hxs
  have f0 := hall 0 _ rfl
  have f1 := hall 1 _ rfl
  have f2 := hall 2 _ rfl
  have f3 := hall 3 _ rfl
  simp only [Value.cells] at f0 f1 f2 f3
  obtain ⟨x0, rfl, _, w0⟩ := field_intK f0 (by simp [hlen])
  obtain ⟨x1, rfl, _, w1⟩ := field_intK f1 (by simp [hlen])
  obtain ⟨x2, rfl, _, w2⟩ := field_intK f2 (by simp [hlen])
  obtain ⟨y, hy⟩ : ∃ y, xs[3]? = some y := ⟨xs[3], by simp [hlen]⟩
  rw [hy] at f3
  obtain ⟨a, n', c, zs, rfl, hI, _⟩ := open_nums f3
  exact ⟨x0, x1, x2, a, n', c, zs, rfl, hI⟩

end Go.Proofs.YtngnnijpdjhelaaGreat

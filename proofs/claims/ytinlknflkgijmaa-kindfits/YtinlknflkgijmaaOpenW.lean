/-
  An argument that is a window: what its reading says of it.
-/
import Derived.Test.YtinlknflkgijmaaOpen
import Derived.Test.YtinlknflkgijmaaInts
namespace Go.Proofs.Ytinlknflkgijmaa
open Go.ChangeShapes Go.WideShapes Go.ChangeAt Go.RowKit
set_option linter.unusedVariables false

theorem ints_nil (w : World) : Ints w none 0 0 [] := ⟨rfl, Nat.le_refl _, Nat.zero_le _, fun _ => rfl, .inl rfl⟩

/-- A slice of numbers that came in, as a field's cell. -/
theorem open_nums {H : Type} {enc : TypeId × Value → H} {W : World} {fuel : Nat} {v : Value} {x : DataW H × List MemPlace}
    (h : DataW.trod enc Try.prog W 0 (fun _ => true) true fuel 41 [v] = some x) :
    ∃ a n c zs, v = .slice a n c ∧ Ints W a n c zs ∧ ((x.1 = .nil ∧ n = 0) ∨ ∃ spare, x.1 = .slice (lits .i64 zs) spare ∧ spare.length = c - n) := by
  rcases open_ints Try.underlying41 Try.underlying3 ocells3 h with ⟨hcs, hx⟩ | ⟨ad, l, c', zs, hcs, _, hl, hm, hz, hx, hcell, hwz⟩
  · simp at hcs
    exact ⟨none, 0, 0, [], hcs, ints_nil W, .inl ⟨by rw [hx], rfl⟩⟩
  · simp at hcs
    simp only [if_true] at hz
    refine ⟨some ad, l, c', zs.take l, hcs, ⟨by rw [List.length_take]; omega, hl, hm, (fun h => by cases h), ?_⟩, .inr ⟨_, by rw [hx], by simp [lits, List.length_drop, hz]⟩⟩
    by_cases h0 : l = 0
    · exact .inl h0
    · obtain ⟨b, off, spot⟩ := ad
      have hspot : spot = none := by simpa [Addr.add] using World.cell?_spot (hcell 0 (by omega))
      subst hspot
      refine .inr ⟨b, off, rfl, fun i hi => ?_⟩
      have := hcell i (by omega)
      rw [Addr.add_lit] at this
      rw [this]
      simp [List.getD, hi]

theorem open_window {H : Type} {enc : TypeId × Value → H} {W : World} {r : Reach} {b0 : Nat} {v : Value} {d : DataW H} {ps : List MemPlace}
    (hval : Value.okWide Try.prog W r b0 43 v) (h : DataW.Trod enc Try.prog W 0 (fun _ => true) true 43 v d ps) :
    ∃ x0 x1 x2 a n c zs, v = .agg #[.int .i64 x0, .int .i64 x1, .int .i64 x2, .slice a n c] ∧ Ints W a n c zs := by
  unfold Value.okWide at hval
  rw [Try.underlying43] at hval
  obtain ⟨cs, rfl, hsz, _⟩ := hval
  rw [ocells43] at hsz
  obtain ⟨fuel, hf⟩ := h
  obtain ⟨xs, n, _, hx, hl, hxs, hall⟩ := DataW.trod_struct Try.underlying43 hf
  obtain ⟨c0, c1, c2, c3, rfl⟩ : ∃ c0 c1 c2 c3, cs = #[c0, c1, c2, c3] := by
    obtain ⟨l⟩ := cs
    match l, hsz with
    | [a, b, c, d], _ => exact ⟨a, b, c, d, rfl⟩
  have hlen : xs.length = 4 := hxs
  have f0 := hall 0 _ rfl
  have f1 := hall 1 _ rfl
  have f2 := hall 2 _ rfl
  have f3 := hall 3 _ rfl
  simp only [Value.cells] at f0 f1 f2 f3
  obtain ⟨x0, rfl, _, w0⟩ := field_int f0 (by simp [hlen])
  obtain ⟨x1, rfl, _, w1⟩ := field_int f1 (by simp [hlen])
  obtain ⟨x2, rfl, _, w2⟩ := field_int f2 (by simp [hlen])
  obtain ⟨y, hy⟩ : ∃ y, xs[3]? = some y := ⟨xs[3], by simp [hlen]⟩
  rw [hy] at f3
  obtain ⟨a, n', c, zs, rfl, hI, _⟩ := open_nums f3
  exact ⟨x0, x1, x2, a, n', c, zs, rfl, hI⟩

end Go.Proofs.Ytinlknflkgijmaa

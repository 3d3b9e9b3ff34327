/-
  Arguments that are spans, calls and arrays of numbers: what their reading says of them.
-/
import Derived.Test.YtbandppkhknaoaaOpen
import Derived.Test.YtbandppkhknaoaaPairs
import Derived.SizedLaws
import Derived.Deep.SlicePairs
namespace Go.Proofs.Ytbandppkhknaoaa
open Go.ChangeShapes Go.WideShapes Go.ChangeAt Go.RowKit
set_option linter.unusedVariables false

theorem ocells3 : Try.prog.cellsOf 3 = 1 := by kernel_rfl
theorem ocells26 : Try.prog.cellsOf 26 = 2 := by kernel_rfl
theorem ocells24 : Try.prog.cellsOf 24 = 4 := by kernel_rfl
theorem ocells38 : Try.prog.cellsOf 38 = 3 := by kernel_rfl
theorem ocells44 : Try.prog.cellsOf 44 = 6 := by kernel_rfl
theorem obytes26 : Try.prog.bytesOf 26 = 16 := by kernel_rfl

/-- One field that is a number. -/
theorem field_int {H : Type} {enc : TypeId × Value → H} {W : World} {b : Nat} {sp : Nat → Bool} {hd : Bool} {n : Nat} {v : Value} {y : Option (DataW H × List MemPlace)}
    (h : DataW.trod enc Try.prog W b sp hd n 3 [v] = y) (hy : y.isSome = true) : ∃ a, v = .int .i64 a ∧ y = some (.lit (.int .i64 a), []) ∧ (Lit.int .i64 a).wf = true := by
  cases y with
  | none => cases hy
  | some x =>
    obtain ⟨a, h1, h2, h3⟩ := DataW.trod_int Try.underlying3 h
    simp at h1
    exact ⟨a, h1, by rw [h2], h3⟩

theorem open_span {H : Type} {enc : TypeId × Value → H} {W : World} {r : Reach} {b0 b : Nat} {sp : Nat → Bool} {hd : Bool} {v : Value} {d : DataW H} {ps : List MemPlace}
    (hval : Value.okWide Try.prog W r b0 26 v) (h : DataW.Trod enc Try.prog W b sp hd 26 v d ps) : ∃ x y, v = .agg #[.int .i64 x, .int .i64 y] := by
  unfold Value.okWide at hval
  rw [Try.underlying26] at hval
  obtain ⟨cs, rfl, hsz, _⟩ := hval
  rw [ocells26] at hsz
  obtain ⟨fuel, hf⟩ := h
  obtain ⟨xs, n, _, hx, hl, hxs, hall⟩ := DataW.trod_struct Try.underlying26 hf
  obtain ⟨c0, c1, rfl⟩ : ∃ c0 c1, cs = #[c0, c1] := by
    obtain ⟨l⟩ := cs
    match l, hsz with
    | [a, b], _ => exact ⟨a, b, rfl⟩
  have hlen : xs.length = 2 := hxs
  have f0 := hall 0 _ rfl
  have f1 := hall 1 _ rfl
  simp only [Value.cells] at f0 f1
  obtain ⟨x, rfl, _, _⟩ := field_int f0 (by simp [hlen])
  obtain ⟨y, rfl, _, _⟩ := field_int f1 (by simp [hlen])
  exact ⟨x, y, rfl⟩

/-- A slice of spans that came in, as a field's cell. -/
theorem open_spans {H : Type} {enc : TypeId × Value → H} {W : World} {fuel : Nat} {v : Value} {x : DataW H × List MemPlace}
    (h : DataW.trod enc Try.prog W 0 (fun _ => true) true fuel 22 [v] = some x) :
    ∃ a n c L, v = .slice a n c ∧ Spans W a n c L ∧ (∀ p ∈ L, -9223372036854775808 ≤ p.1 ∧ p.1 ≤ 9223372036854775807 ∧ -9223372036854775808 ≤ p.2 ∧ p.2 ≤ 9223372036854775807) ∧ ((x.1 = .nil ∧ n = 0) ∨ ∃ els spare, x.1 = .slice els spare ∧ els.length = n) := by
  rcases Deep.open_slice_pairs Try.underlying22 Try.underlying26 ocells26 rfl rfl ocells3 ocells3 h with ⟨hcs, hx⟩ | ⟨ad, l, c', m, fl, V0, V1, D0, D1, P0, P1, hcs, _, hl, hm, hmm, hx, hel⟩
  · simp at hcs
    exact ⟨none, 0, 0, [], hcs, ⟨rfl, Nat.le_refl _, Nat.zero_le _, fun _ => rfl, .inl rfl⟩, by simp, .inl ⟨by rw [hx], rfl⟩⟩
  · simp at hcs
    simp only [if_true] at hmm
    subst hmm
    have each : ∀ i, i < l → ∃ s : Int × Int, W.cell? (ad.add (i * 2)) = some (.int .i64 s.1) ∧ W.cell? (ad.add (i * 2 + 1)) = some (.int .i64 s.2) ∧ (-9223372036854775808 ≤ s.1 ∧ s.1 ≤ 9223372036854775807 ∧ -9223372036854775808 ≤ s.2 ∧ s.2 ≤ 9223372036854775807) := by
      intro i hi
      obtain ⟨e0, e1, g0, g1⟩ := hel i (by omega)
      obtain ⟨k0, hk0, _, hw0⟩ := DataW.trod_int Try.underlying3 g0
      obtain ⟨k1, hk1, _, hw1⟩ := DataW.trod_int Try.underlying3 g1
      simp at hk0 hk1
      rw [hk0] at e0
      rw [hk1] at e1
      have b0 := wf_i64 hw0
      have b1 := wf_i64 hw1
      exact ⟨(k0, k1), e0, e1, b0.1, b0.2, b1.1, b1.2⟩
    obtain ⟨S, hS⟩ := Deep.choose_lt each
    have hget : ∀ i, i < l → ((List.range l).map S).getD i (0, 0) = S i := fun i hi => by simp [List.getD, hi]
    refine ⟨some ad, l, m, (List.range l).map S, hcs, ⟨by simp, hl, hm, (fun h => by cases h), ?_⟩, ?_, .inr ⟨_, _, by rw [hx], by simp⟩⟩
    · by_cases h0 : l = 0
      · exact .inl h0
      · obtain ⟨b, off, spot⟩ := ad
        have hspot : spot = none := by simpa [Addr.add] using World.cell?_spot (hS 0 (by omega)).1
        subst hspot
        refine .inr ⟨b, off, rfl, fun i hi => ?_⟩
        obtain ⟨h1, h2, _⟩ := hS i hi
        rw [Addr.add_lit] at h1 h2
        rw [hget i hi]
        exact ⟨h1, by rw [Nat.add_assoc]; exact h2⟩
    · intro p hp
      simp only [List.mem_map, List.mem_range] at hp
      obtain ⟨i, hi, rfl⟩ := hp
      exact (hS i hi).2.2

theorem open_call {H : Type} {enc : TypeId × Value → H} {W : World} {r : Reach} {b0 : Nat} {v : Value} {d : DataW H} {ps : List MemPlace}
    (hval : Value.okWide Try.prog W r b0 24 v) (h : DataW.Trod enc Try.prog W 0 (fun _ => true) true 24 v d ps) :
    ∃ x0 x1 x2 a n c L, v = .agg #[.int .i64 x0, .int .i64 x1, .int .i64 x2, .slice a n c] ∧ Spans W a n c L ∧ (∀ p ∈ L, -9223372036854775808 ≤ p.1 ∧ p.1 ≤ 9223372036854775807 ∧ -9223372036854775808 ≤ p.2 ∧ p.2 ≤ 9223372036854775807) ∧
      ∃ e0 e1 e2 e3, d = .agg [e0, e1, e2, e3] ∧ ((e3 = .nil ∧ n = 0) ∨ ∃ els spare, e3 = .slice els spare ∧ els.length = n) := by
  unfold Value.okWide at hval
  rw [Try.underlying24] at hval
  obtain ⟨cs, rfl, hsz, _⟩ := hval
  rw [ocells24] at hsz
  obtain ⟨fuel, hf⟩ := h
  obtain ⟨xs, n, _, hx, hl, hxs, hall⟩ := DataW.trod_struct Try.underlying24 hf
  obtain ⟨c0, c1, c2, c3, rfl⟩ : ∃ c0 c1 c2 c3, cs = #[c0, c1, c2, c3] := by
    obtain ⟨l⟩ := cs
    match l, hsz with
    | [a, b, c, d], _ => exact ⟨a, b, c, d, rfl⟩
  have hlen : xs.length = 4 := hxs
  have f0 := hall 0 _ rfl
  have f1 := hall 1 _ rfl
  have f2 := hall 2 _ rfl
  have f3 := hall 3 _ rfl
  simp only [Value.cells] at f0 f1 f2 f3
  obtain ⟨x0, rfl, _, w0⟩ := field_int f0 (by simp [hlen])
  obtain ⟨x1, rfl, _, w1⟩ := field_int f1 (by simp [hlen])
  obtain ⟨x2, rfl, _, w2⟩ := field_int f2 (by simp [hlen])
  match xs, hlen with
  | [y0, y1, y2, y3], _ =>
    simp only [List.getElem?_cons_succ, List.getElem?_cons_zero] at f3
    obtain ⟨a, n', c, L, rfl, hI, hbd, hd⟩ := open_spans f3
    simp only [Prod.mk.injEq] at hx
    exact ⟨x0, x1, x2, a, n', c, L, rfl, hI, hbd, y0.1, y1.1, y2.1, y3.1, by rw [hx.1]; rfl, hd⟩

theorem call_reach {H : Type} {n : Nat} {d : DataW H} {ts : List TypeId} {ds : List (DataW H)} {e0 e1 e2 e3 : DataW H} (hd : d = .agg [e0, e1, e2, e3]) (he : (e3 = .nil ∧ n = 0) ∨ ∃ els spare, e3 = .slice els spare ∧ els.length = n)
    (hsz : (DataW.weightsEach Try.prog ts ds).all (· ≤ reachBytes) = true) (j : Nat) (ht : ts[j]? = some 24) (hj : ds[j]? = some d) : n ≤ 8796093022000 := by
  rcases he with ⟨_, rfl⟩ | ⟨els, spare, rfl, rfl⟩
  · omega
  · subst hd
    have hmem : (els.length + spare.length) * Try.prog.bytesOf 26 ∈ (DataW.agg [e0, e1, e2, DataW.slice els spare]).weights Try.prog 24 := by
      simp [DataW.weights, Try.underlying24, DataW.weightsEach, Try.underlying22]
    have := of_decide_eq_true (List.all_eq_true.1 hsz _ (DataW.weights_mem_each ht hj _ hmem))
    rw [obytes26] at this
    simp only [reachBytes] at this
    omega

theorem open_arr3 {H : Type} {enc : TypeId × Value → H} {W : World} {r : Reach} {b0 : Nat} {v : Value} {d : DataW H} {ps : List MemPlace}
    (hval : Value.okWide Try.prog W r b0 38 v) (h : DataW.Trod enc Try.prog W 0 (fun _ => true) true 38 v d ps) : ∃ x0 x1 x2, v = .agg #[.int .i64 x0, .int .i64 x1, .int .i64 x2] := by
  unfold Value.okWide at hval
  rw [Try.underlying38] at hval
  obtain ⟨cs, rfl, hsz, _⟩ := hval
  rw [ocells38] at hsz
  obtain ⟨fuel, hf⟩ := h
  obtain ⟨xs, n, _, hx, hl, hxs, hall⟩ := DataW.trod_array Try.underlying38 hf
  obtain ⟨c0, c1, c2, rfl⟩ : ∃ c0 c1 c2, cs = #[c0, c1, c2] := by
    obtain ⟨l⟩ := cs
    match l, hsz with
    | [a, b, c], _ => exact ⟨a, b, c, rfl⟩
  have f0 := hall 0 (by decide)
  have f1 := hall 1 (by decide)
  have f2 := hall 2 (by decide)
  simp only [Value.cells, ocells3] at f0 f1 f2
  obtain ⟨x0, rfl, _, _⟩ := field_int f0 (by simp [hxs])
  obtain ⟨x1, rfl, _, _⟩ := field_int f1 (by simp [hxs])
  obtain ⟨x2, rfl, _, _⟩ := field_int f2 (by simp [hxs])
  exact ⟨x0, x1, x2, rfl⟩

theorem open_arr6 {H : Type} {enc : TypeId × Value → H} {W : World} {r : Reach} {b0 : Nat} {v : Value} {d : DataW H} {ps : List MemPlace}
    (hval : Value.okWide Try.prog W r b0 44 v) (h : DataW.Trod enc Try.prog W 0 (fun _ => true) true 44 v d ps) : ∃ x0 x1 x2 x3 x4 x5, v = .agg #[.int .i64 x0, .int .i64 x1, .int .i64 x2, .int .i64 x3, .int .i64 x4, .int .i64 x5] := by
  unfold Value.okWide at hval
  rw [Try.underlying44] at hval
  obtain ⟨cs, rfl, hsz, _⟩ := hval
  rw [ocells44] at hsz
  obtain ⟨fuel, hf⟩ := h
  obtain ⟨xs, n, _, hx, hl, hxs, hall⟩ := DataW.trod_array Try.underlying44 hf
  obtain ⟨c0, c1, c2, c3, c4, c5, rfl⟩ : ∃ c0 c1 c2 c3 c4 c5, cs = #[c0, c1, c2, c3, c4, c5] := by
    obtain ⟨l⟩ := cs
    match l, hsz with
    | [a, b, c, d, e, f], _ => exact ⟨a, b, c, d, e, f, rfl⟩
  have f0 := hall 0 (by decide)
  have f1 := hall 1 (by decide)
  have f2 := hall 2 (by decide)
  have f3 := hall 3 (by decide)
  have f4 := hall 4 (by decide)
  have f5 := hall 5 (by decide)
  simp only [Value.cells, ocells3] at f0 f1 f2 f3 f4 f5
  obtain ⟨x0, rfl, _, _⟩ := field_int f0 (by simp [hxs])
  obtain ⟨x1, rfl, _, _⟩ := field_int f1 (by simp [hxs])
  obtain ⟨x2, rfl, _, _⟩ := field_int f2 (by simp [hxs])
  obtain ⟨x3, rfl, _, _⟩ := field_int f3 (by simp [hxs])
  obtain ⟨x4, rfl, _, _⟩ := field_int f4 (by simp [hxs])
  obtain ⟨x5, rfl, _, _⟩ := field_int f5 (by simp [hxs])
  exact ⟨x0, x1, x2, x3, x4, x5, rfl⟩

end Go.Proofs.Ytbandppkhknaoaa

/-
  Arguments that are codes, windows, numbers: what their reading says of them, and how long their lists can be.
-/
import Derived.Test.YtihbhbeaihdgnaaMCdC
import Derived.ProofKit
import Derived.OpenShut
import Derived.ChangeOld
import Derived.SizedLaws
import Derived.Below
import Derived.Deep.Slices
namespace Go.Proofs.Cde
open Ytihbhbeaihdgnaa (Wd wdA Fits inpV fitE_cases)
open Go.ChangeShapes Go.WideShapes Go.ChangeAt Go.RowKit
set_option linter.unusedVariables false

theorem ownK : ownKnob Try.prog.godebug = none := by kernel_rfl
theorem laidOut' : laidOutB Try.prog = true := by kernel_rfl
theorem ocellsK : Try.prog.cellsOf 23 = 2 := by kernel_rfl
theorem ocellsI : Try.prog.cellsOf 3 = 1 := by kernel_rfl
theorem ocellsW : Try.prog.cellsOf 29 = 4 := by kernel_rfl
theorem ocellsN : Try.prog.cellsOf 51 = 6 := by kernel_rfl
theorem ocellsC : Try.prog.cellsOf 26 = 4 := by kernel_rfl
theorem obytesI : Try.prog.bytesOf 3 = 8 := by kernel_rfl
theorem obytesN : Try.prog.bytesOf 51 = 48 := by kernel_rfl

set_option maxRecDepth 100000 in
/-- One field that is a number. -/
theorem field_int {H : Type} {enc : TypeId × Value → H} {W : World} {b : Nat} {sp : Nat → Bool} {hd : Bool} {n : Nat} {v : Value} {y : Option (DataW H × List MemPlace)}
    (h : DataW.trod enc Try.prog W b sp hd n 3 [v] = y) (hy : y.isSome = true) : ∃ a, v = .int .i64 a := by
  cases y with
  | none => cases hy
  | some x =>
    obtain ⟨a, h1, h2, h3⟩ := DataW.trod_int Try.underlying3 h
    simp at h1
    exact ⟨a, h1⟩

set_option maxRecDepth 100000 in
/-- A kind's cells. -/
theorem open_kd {H : Type} {enc : TypeId × Value → H} {W : World} {b : Nat} {sp : Nat → Bool} {hd : Bool} {fuel : Nat} {cs : List Value} {x : DataW H × List MemPlace}
    (h : DataW.trod enc Try.prog W b sp hd fuel 23 cs = some x) : ∃ p q, cs = [.int .i64 p, .int .i64 q] := by
  obtain ⟨xs, n, _, hx, hl, hxs, hall⟩ := DataW.trod_struct Try.underlying23 h
  rw [ocellsK] at hl
  have hlen : xs.length = 2 := hxs
  match cs, hl with
  | [c0, c1], _ =>
    have f0 := hall 0 _ rfl
    have f1 := hall 1 _ rfl
    obtain ⟨p, rfl⟩ := field_int (v := c0) f0 (by simp [hlen])
    obtain ⟨q, rfl⟩ := field_int (v := c1) f1 (by simp [hlen])
    exact ⟨p, q, rfl⟩

set_option maxRecDepth 100000 in
/-- An instruction's cells. -/
theorem open_in {H : Type} {enc : TypeId × Value → H} {W : World} {b : Nat} {sp : Nat → Bool} {hd : Bool} {fuel : Nat} {cs : List Value} {x : DataW H × List MemPlace}
    (h : DataW.trod enc Try.prog W b sp hd fuel 51 cs = some x) : ∃ n : In, cs = i6 n := by
  obtain ⟨xs, n, _, hx, hl, hxs, hall⟩ := DataW.trod_struct Try.underlying51 h
  rw [ocellsN] at hl
  have hlen : xs.length = 6 := hxs
  match cs, hl with
  | [c0, c1, c2, c3, c4, c5], _ =>
    have f0 := hall 0 _ rfl
    have f1 := hall 1 _ rfl
    have f2 := hall 2 _ rfl
    have f3 := hall 3 _ rfl
    have f4 := hall 4 _ rfl
    have f5 := hall 5 _ rfl
    obtain ⟨y0, rfl⟩ := field_int (v := c0) f0 (by simp [hlen])
    obtain ⟨y1, rfl⟩ := field_int (v := c1) f1 (by simp [hlen])
    obtain ⟨y2, rfl⟩ := field_int (v := c2) f2 (by simp [hlen])
    obtain ⟨y3, rfl⟩ := field_int (v := c3) f3 (by simp [hlen])
    obtain ⟨y4, rfl⟩ := field_int (v := c4) f4 (by simp [hlen])
    obtain ⟨y5, rfl⟩ := field_int (v := c5) f5 (by simp [hlen])
    exact ⟨⟨y0, y1, y2, y3, y4, y5⟩, rfl⟩

set_option maxRecDepth 100000 in
/-- A list of numbers that came in, as a field's cell. -/
theorem open_nums {H : Type} {enc : TypeId × Value → H} {W : World} {fuel : Nat} {v : Value} {x : DataW H × List MemPlace}
    (h : DataW.trod enc Try.prog W 0 (fun _ => true) true fuel 27 [v] = some x) :
    ∃ a n c zs, v = .slice a n c ∧ Ytihbhbeaihdgnaa.Knd.Ints W a n c zs ∧ ((x.1 = .nil ∧ n = 0) ∨ ∃ els spare, x.1 = .slice els spare ∧ els.length = n) := by
  rcases open_ints Try.underlying27 Try.underlying3 ocellsI h with ⟨hcs, hx⟩ | ⟨ad, l, c', zs, hcs, _, hl, hm, hz, hx, hcell, hwz⟩
  · simp at hcs
    exact ⟨none, 0, 0, [], hcs, ⟨rfl, Nat.le_refl _, Nat.zero_le _, fun _ => rfl, .inl rfl⟩, .inl ⟨by rw [hx], rfl⟩⟩
  · simp at hcs
    simp only [if_true] at hz
    refine ⟨some ad, l, c', zs.take l, hcs, ⟨by rw [List.length_take]; omega, hl, hm, (fun h => by cases h), ?_⟩, .inr ⟨_, _, by rw [hx], by simp [lits, List.length_take]; omega⟩⟩
    by_cases h0 : l = 0
    · exact .inl h0
    · obtain ⟨b, off, spot⟩ := ad
      have hspot : spot = none := by simpa [Addr.add] using World.cell?_spot (hcell 0 (by omega))
      subst hspot
      refine .inr ⟨b, off, rfl, fun i hi => ?_⟩
      have := hcell i (by omega)
      rw [Addr.add_lit] at this
      rw [this]
      simp [List.getD, hi]

set_option maxRecDepth 100000 in
/-- A list of instructions that came in, as a field's cell. -/
theorem open_ins {H : Type} {enc : TypeId × Value → H} {W : World} {fuel : Nat} {v : Value} {x : DataW H × List MemPlace}
    (h : DataW.trod enc Try.prog W 0 (fun _ => true) true fuel 24 [v] = some x) :
    ∃ a n c L, v = .slice a n c ∧ Ins W a n c L ∧ ((x.1 = .nil ∧ n = 0) ∨ ∃ els spare, x.1 = .slice els spare ∧ els.length = n) := by
  rcases DataW.trod_slice Try.underlying24 h with ⟨hcs, hx⟩ | ⟨ad, l, c', elems, rest, m, _, hcs, hx, _, hl, hm, hlen, hel, -, -⟩
  · simp at hcs
    exact ⟨none, 0, 0, [], hcs, ⟨rfl, Nat.le_refl _, Nat.zero_le _, fun _ => rfl, .inl rfl⟩, .inl ⟨by rw [hx], rfl⟩⟩
  · simp at hcs
    by_cases h0 : l = 0
    · exact ⟨some ad, l, c', [], hcs, ⟨h0.symm, hl, hm, (fun h => by cases h), .inl h0⟩, .inr ⟨_, _, by rw [hx], by simp [hlen]⟩⟩
    obtain ⟨b, off, spot⟩ := ad
    have hspot : spot = none := by
      have h1 := hel 0 (by omega)
      rw [ocellsN, List.getElem?_eq_getElem (by omega), Option.bind_eq_some_iff] at h1
      obtain ⟨cs, hc, ht⟩ := h1
      obtain ⟨n, rfl⟩ := open_in ht
      obtain ⟨-, hcl, hce⟩ := World.cells?_some hc
      have h2 := hce 0 (by omega)
      exact by simpa [Addr.add] using World.cell?_spot (h2.trans rfl)
    subst hspot
    have each : ∀ i, i < l → ∃ n : In, ∀ j v, (i6 n)[j]? = some v → W.cell? ⟨b, off + i * 6 + j, none⟩ = some v := by
      intro i hi
      have h1 := hel i hi
      rw [ocellsN, List.getElem?_eq_getElem (by omega), Option.bind_eq_some_iff] at h1
      obtain ⟨cs, hc, ht⟩ := h1
      obtain ⟨n, rfl⟩ := open_in ht
      obtain ⟨-, hcl, hce⟩ := World.cells?_some hc
      refine ⟨n, fun j v hj => ?_⟩
      have hj6 : j < 6 := by have := (List.getElem?_eq_some_iff.1 hj).1; omega
      have := hce j hj6
      rw [hj, Addr.add_lit, Addr.add_lit] at this
      exact this
    obtain ⟨S, hS⟩ : ∃ S : Nat → In, ∀ i, i < l → ∀ j v, (i6 (S i))[j]? = some v → W.cell? ⟨b, off + i * 6 + j, none⟩ = some v := by
      refine ⟨fun i => if hi : i < l then (each i hi).choose else i0, fun i hi => ?_⟩
      simp only [dif_pos hi]
      exact (each i hi).choose_spec
    have hget : ∀ i, i < l → ((List.range l).map S).getD i i0 = S i := fun i hi => by simp [List.getD, hi]
    refine ⟨some ⟨b, off, none⟩, l, c', (List.range l).map S, hcs, ⟨by simp, hl, hm, (fun h => by cases h), ?_⟩, .inr ⟨_, _, by rw [hx], by simp [hlen]⟩⟩
    refine .inr ⟨b, off, rfl, World.block_lt_of_cell? W _ (hS 0 (by omega) 0 _ rfl), fun i hi j v hj => ?_⟩
    rw [hget i hi] at hj
    exact hS i hi j v hj

set_option maxRecDepth 100000 in
/-- A code that came in. -/
theorem open_code {H : Type} {enc : TypeId × Value → H} {W : World} {r : Reach} {b0 : Nat} {v : Value} {d : DataW H} {ps : List MemPlace}
    (hval : Value.okWide Try.prog W r b0 26 v) (h : DataW.Trod enc Try.prog W 0 (fun _ => true) true 26 v d ps) :
    ∃ f e a n c L o, v = .agg (cd f e a n c o) ∧ Ins W a n c L ∧ ∃ e0 e1 e2, d = .agg [e0, e1, e2] ∧ ((e1 = .nil ∧ n = 0) ∨ ∃ els spare, e1 = .slice els spare ∧ els.length = n) := by
  unfold Value.okWide at hval
  rw [Try.underlying26] at hval
  obtain ⟨cs, rfl, hsz, _⟩ := hval
  rw [ocellsC] at hsz
  obtain ⟨fuel, hf⟩ := h
  obtain ⟨xs, n, _, hx, hl, hxs, hall⟩ := DataW.trod_struct Try.underlying26 hf
  obtain ⟨c0, c1, c2, c3, rfl⟩ : ∃ c0 c1 c2 c3, cs = #[c0, c1, c2, c3] := by
    obtain ⟨l⟩ := cs
    match l, hsz with
    | [a, b, c, d], _ => exact ⟨a, b, c, d, rfl⟩
  have hlen : xs.length = 3 := hxs
  match xs, hlen with
  | [y0, y1, y2], _ =>
    have f0 := hall 0 _ rfl
    have f1 := hall 1 _ rfl
    have f2 := hall 2 _ rfl
    simp only [Value.cells] at f0 f1 f2
    obtain ⟨p, q, hp⟩ := open_kd (cs := [c0, c1]) f0
    simp only [List.cons.injEq, and_true] at hp
    obtain ⟨rfl, rfl⟩ := hp
    obtain ⟨a, n', c, L, rfl, hI, hd⟩ := open_ins (v := c2) f1
    obtain ⟨o, rfl⟩ := field_int (v := c3) f2 rfl
    simp only [Prod.mk.injEq] at hx
    exact ⟨p, q, a, n', c, L, o, rfl, hI, y0.1, y1.1, y2.1, by rw [hx.1]; rfl, hd⟩

set_option maxRecDepth 100000 in
theorem code_reach {H : Type} {n : Nat} {d : DataW H} {ts : List TypeId} {ds : List (DataW H)} {e0 e1 e2 : DataW H} (hd : d = .agg [e0, e1, e2]) (he : (e1 = .nil ∧ n = 0) ∨ ∃ els spare, e1 = .slice els spare ∧ els.length = n)
    (hsz : (DataW.weightsEach Try.prog ts ds).all (· ≤ reachBytes) = true) (j : Nat) (ht : ts[j]? = some 26) (hj : ds[j]? = some d) : n ≤ 2932031007317 := by
  rcases he with ⟨_, rfl⟩ | ⟨els, spare, rfl, rfl⟩
  · omega
  · subst hd
    have hmem : (els.length + spare.length) * Try.prog.bytesOf 51 ∈ (DataW.agg [e0, DataW.slice els spare, e2]).weights Try.prog 26 := by
      simp [DataW.weights, Try.underlying26, DataW.weightsEach, Try.underlying24]
    have := of_decide_eq_true (List.all_eq_true.1 hsz _ (DataW.weights_mem_each ht hj _ hmem))
    rw [obytesN] at this
    simp only [reachBytes] at this
    omega

set_option maxRecDepth 100000 in
/-- A window that came in. -/
theorem open_window {H : Type} {enc : TypeId × Value → H} {W : World} {r : Reach} {b0 : Nat} {v : Value} {d : DataW H} {ps : List MemPlace}
    (hval : Value.okWide Try.prog W r b0 29 v) (h : DataW.Trod enc Try.prog W 0 (fun _ => true) true 29 v d ps) :
    ∃ (w : Wd) (a : Option Addr) (n c : Nat), v = .agg (wdA w a n c) ∧ Ytihbhbeaihdgnaa.Knd.Ints W a n c w.ps ∧
      ∃ e0 e1 e2 e3, d = .agg [e0, e1, e2, e3] ∧ ((e3 = .nil ∧ n = 0) ∨ ∃ els spare, e3 = .slice els spare ∧ els.length = n) := by
  unfold Value.okWide at hval
  rw [Try.underlying29] at hval
  obtain ⟨cs, rfl, hsz, _⟩ := hval
  rw [ocellsW] at hsz
  obtain ⟨fuel, hf⟩ := h
  obtain ⟨xs, n, _, hx, hl, hxs, hall⟩ := DataW.trod_struct Try.underlying29 hf
  obtain ⟨c0, c1, c2, c3, rfl⟩ : ∃ c0 c1 c2 c3, cs = #[c0, c1, c2, c3] := by
    obtain ⟨l⟩ := cs
    match l, hsz with
    | [a, b, c, d], _ => exact ⟨a, b, c, d, rfl⟩
  have hlen : xs.length = 4 := hxs
  match xs, hlen with
  | [y0, y1, y2, y3], _ =>
    have f0 := hall 0 _ rfl
    have f1 := hall 1 _ rfl
    have f2 := hall 2 _ rfl
    have f3 := hall 3 _ rfl
    simp only [Value.cells] at f0 f1 f2 f3
    obtain ⟨x0, rfl⟩ := field_int (v := c0) f0 rfl
    obtain ⟨x1, rfl⟩ := field_int (v := c1) f1 rfl
    obtain ⟨x2, rfl⟩ := field_int (v := c2) f2 rfl
    obtain ⟨a, n', c, zs, rfl, hI, hd⟩ := open_nums (v := c3) f3
    simp only [Prod.mk.injEq] at hx
    exact ⟨⟨x0, x1, x2, zs⟩, a, n', c, rfl, hI, y0.1, y1.1, y2.1, y3.1, by rw [hx.1]; rfl, hd⟩

set_option maxRecDepth 100000 in
theorem window_reach {H : Type} {n : Nat} {d : DataW H} {ts : List TypeId} {ds : List (DataW H)} {e0 e1 e2 e3 : DataW H} (hd : d = .agg [e0, e1, e2, e3]) (he : (e3 = .nil ∧ n = 0) ∨ ∃ els spare, e3 = .slice els spare ∧ els.length = n)
    (hsz : (DataW.weightsEach Try.prog ts ds).all (· ≤ reachBytes) = true) (j : Nat) (ht : ts[j]? = some 29) (hj : ds[j]? = some d) : n ≤ 17592186044000 := by
  rcases he with ⟨_, rfl⟩ | ⟨els, spare, rfl, rfl⟩
  · omega
  · subst hd
    have hmem : (els.length + spare.length) * Try.prog.bytesOf 3 ∈ (DataW.agg [e0, e1, e2, DataW.slice els spare]).weights Try.prog 29 := by
      simp [DataW.weights, Try.underlying29, DataW.weightsEach, Try.underlying27]
    have := of_decide_eq_true (List.all_eq_true.1 hsz _ (DataW.weights_mem_each ht hj _ hmem))
    rw [obytesI] at this
    simp only [reachBytes] at this
    omega

end Go.Proofs.Cde

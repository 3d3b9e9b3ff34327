/-
  code.input and code.value: what an instruction comes to.
-/
import Derived.Test.YtihbhbeaihdgnaaGreatRGY
import Derived.Test.YtihbhbeaihdgnaaGreatRVa0
import Derived.ProofKit
import Derived.OpenShut
import Derived.ChangeOld
import Derived.SizedLaws
import Derived.Below
import Derived.Deep.Slices
import Derived.Deep.RegionWith
import Derived.Test.YtihbhbeaihdgnaaGreatRGB
namespace Go.Proofs.Cde
open Go.RowKit Go.IntWalk YtihbhbeaihdgnaaGreat.Knd
set_option linter.unusedVariables false

open YtihbhbeaihdgnaaGreat (Wd wdA Fits inpV fitE_cases)
/-- What an instruction comes to, by the registers ahead of it; the error beside it. -/
def arV (V : List Int) (n : In) : List Int := (agL n).map fun r => V.getD r.toNat 0
def vlI (f d : Int) (v : Wd) (V : List Int) (n : In) : Int × Int :=
  if n.op = 1 then (n.k, 0) else if n.op = 2 then (inpV f d v n.k, 0) else if n.op = 3 then (if countZ f d ≤ n.k then (0, 11) else (v.ps.getD n.k.toNat 0, 0)) else YtihbhbeaihdgnaaGreat.Spn.valZ n.op n.k n.s (arV V n)
theorem arV_len (V : List Int) (n : In) : (arV V n).length = arN n := by rw [arV, List.length_map, agL_len]
theorem agL_at (n : In) (k : Nat) (h : k < arN n) : (agL n).getD k 0 = rgN n k := by
  rw [agL, List.getD_eq_getElem?_getD, List.getElem?_take_of_lt h]
  rfl
theorem arV_at (V : List Int) (n : In) (k : Nat) (h : k < arN n) : (arV V n).getD k 0 = V.getD (rgN n k).toNat 0 := by
  rw [← agL_at n k h, arV]
  simp [List.getD_eq_getElem?_getD, List.getElem?_map, List.getElem?_eq_getElem (show k < (agL n).length by rw [agL_len]; exact h)]
/-- What stands in the list of arguments behind k rounds. -/
def arM (V : List Int) (n : In) (k : Nat) : List Int := (arV V n).take k ++ (abc n).drop k
theorem arM_len (V : List Int) (n : In) {k : Nat} (h : k ≤ arN n) : (arM V n k).length = 3 := by
  have := arN_le n
  simp [arM, arV_len, abc]
  omega
theorem arM_split (V : List Int) (n : In) {k : Nat} (h : k < arN n) : arM V n k = (arV V n).take k ++ rgN n k :: (abc n).drop (k + 1) := by
  have := arN_le n
  rw [arM, List.drop_eq_getElem_cons (show k < (abc n).length by simp [abc]; omega)]
  congr 2
  rw [← abc_at n k (by omega), List.getD_eq_getElem?_getD, List.getElem?_eq_getElem (by simp [abc]; omega)]
  rfl
theorem arM_succ (V : List Int) (n : In) {k : Nat} (h : k < arN n) : (arV V n).take k ++ V.getD (rgN n k).toNat 0 :: (abc n).drop (k + 1) = arM V n (k + 1) := by
  rw [arM, take_snoc 0 (by rw [arV_len]; exact h), arV_at V n k h]
  simp
theorem arM_get (V : List Int) (n : In) {k : Nat} (h : k < arN n) : (arM V n k).getD k 0 = rgN n k := by
  rw [arM_split V n h, List.getD_eq_getElem?_getD, List.getElem?_append_right (by rw [List.length_take]; omega)]
  have e : k - ((arV V n).take k).length = 0 := by rw [List.length_take, arV_len]; omega
  rw [e]
  rfl
theorem arM_done (V : List Int) (n : In) : arM V n (arN n) = arV V n ++ (abc n).drop (arN n) := by
  rw [arM, List.take_of_length_le (by rw [arV_len]; exact Nat.le_refl _)]
theorem z_pre {W : World} {g : Nat} {L M : List Int} (h : HasC W g 3 (zA (L ++ M))) (hl : (L ++ M).length = 3) : Ints W (some ⟨g, 0, none⟩) L.length 3 L := by
  have h2 : L.length ≤ 3 := by rw [← hl]; simp
  refine ⟨rfl, h2, by decide, (fun h => by cases h), .inr ⟨g, 0, rfl, fun i hi => ?_⟩⟩
  rw [Nat.zero_add, h.cell i (zA_get _ i (by simp; omega)), getD_pre hi]
theorem fit_len {f d : Int} {v : Wd} (h : Fits f d v) : (v.ps.length : Int) = countZ f d := h.2.1

theorem ok_reg {n : In} {i : Nat} (h : okI n i = true) {j : Nat} (hj : j < arN n) : 0 ≤ rgN n j ∧ (rgN n j).toNat < i := by
  simp only [okI, Bool.and_eq_true] at h
  have h3 := arN_le n
  have hr := h.1.2
  rw [← rgT_three] at hr
  simp only [rgT, List.all_eq_true, List.mem_range] at hr
  have := hr j (by omega)
  rw [rgB, if_pos (by simp [arN] at *; omega), YtihbhbeaihdgnaaGreat.Spn.inB_iff] at this
  omega
theorem ok_con {n : In} {i : Nat} (h : okI n i = true) : csB n = true := by
  simp only [okI, Bool.and_eq_true] at h
  exact h.2
theorem ok_ar {n : In} {i : Nat} (h : okI n i = true) : 0 ≤ YtihbhbeaihdgnaaGreat.Spn.ar n.op := by
  simp only [okI, Bool.and_eq_true, decide_eq_true_eq] at h
  exact h.1.1
theorem cargs_ex (n : In) (W : World) :
    Calls Tryz.prog 85 #[.agg (ia n)] W fun e W' => ∃ g, e = .returned (.slice (some ⟨g, 0, none⟩) (arN n) 3) ∧ W.heap.size ≤ g ∧ HasC W' g 3 (zA (abc n)) ∧ Below W.heap.size W W' :=
  (cargs_any n W).mono fun e W' ⟨h1, h2, h3⟩ => ⟨_, h1, by omega, h2, h3⟩

end Go.Proofs.Cde

/-
  Arguments that are codes, windows, numbers: what their reading says of them, and how long their lists can be.
-/
namespace Go.Proofs.Cde
open YtihbhbeaihdgnaaGreat (Wd wdA Fits inpV fitE_cases)
open Go.ChangeShapes Go.WideShapes Go.ChangeAt Go.RowKit
set_option linter.unusedVariables false

theorem ownK : ownKnob Tryz.prog.godebug = none := by kernel_rfl
theorem laidOut' : laidOutB Tryz.prog = true := by kernel_rfl
theorem ocellsK : Tryz.prog.cellsOf 23 = 2 := by kernel_rfl
theorem ocellsI : Tryz.prog.cellsOf 3 = 1 := by kernel_rfl
theorem ocellsW : Tryz.prog.cellsOf 44 = 4 := by kernel_rfl
theorem ocellsN : Tryz.prog.cellsOf 41 = 6 := by kernel_rfl
theorem ocellsC : Tryz.prog.cellsOf 26 = 4 := by kernel_rfl
theorem obytesI : Tryz.prog.bytesOf 3 = 8 := by kernel_rfl
theorem obytesN : Tryz.prog.bytesOf 41 = 48 := by kernel_rfl

set_option maxRecDepth 100000 in
/-- One field that is a number. -/
theorem field_int {H : Type} {enc : TypeId × Value → H} {W : World} {b : Nat} {sp : Nat → Bool} {hd : Bool} {n : Nat} {v : Value} {y : Option (DataW H × List MemPlace)}
    (h : DataW.trod enc Tryz.prog W b sp hd n 3 [v] = y) (hy : y.isSome = true) : ∃ a, v = .int .i64 a := by
  cases y with
  | none => cases hy
  | some x =>
    obtain ⟨a, h1, h2, h3⟩ := DataW.trod_int Tryz.underlying3 h
    simp at h1
    exact ⟨a, h1⟩

set_option maxRecDepth 100000 in
/-- A kind's cells. -/
theorem open_kd {H : Type} {enc : TypeId × Value → H} {W : World} {b : Nat} {sp : Nat → Bool} {hd : Bool} {fuel : Nat} {cs : List Value} {x : DataW H × List MemPlace}
    (h : DataW.trod enc Tryz.prog W b sp hd fuel 23 cs = some x) : ∃ p q, cs = [.int .i64 p, .int .i64 q] := by
  obtain ⟨xs, n, _, hx, hl, hxs, hall⟩ := DataW.trod_struct Tryz.underlying23 h
  rw [ocellsK] at hl
  have hlen : xs.length = 2 := hxs
  match cs, hl with
  | [c0, c1], _ =>
    have f0 := hall 0 _ rfl
    have f1 := hall 1 _ rfl
    obtain ⟨p, rfl⟩ := field_int (v := c0) f0 (by simp [hlen])
    obtain ⟨q, rfl⟩ := field_int (v := c1) f1 (by simp [hlen])
    exact ⟨p, q, rfl⟩

set_option maxRecDepth 100000 in
/-- An instruction's cells. -/
theorem open_in {H : Type} {enc : TypeId × Value → H} {W : World} {b : Nat} {sp : Nat → Bool} {hd : Bool} {fuel : Nat} {cs : List Value} {x : DataW H × List MemPlace}
    (h : DataW.trod enc Tryz.prog W b sp hd fuel 41 cs = some x) : ∃ n : In, cs = i6 n := by
  obtain ⟨xs, n, _, hx, hl, hxs, hall⟩ := DataW.trod_struct Tryz.underlying41 h
  rw [ocellsN] at hl
  have hlen : xs.length = 6 := hxs
  match cs, hl with
  | [c0, c1, c2, c3, c4, c5], _ =>
    have f0 := hall 0 _ rfl
    have f1 := hall 1 _ rfl
    have f2 := hall 2 _ rfl
    have f3 := hall 3 _ rfl
    have f4 := hall 4 _ rfl
    have f5 := hall 5 _ rfl
    obtain ⟨y0, rfl⟩ := field_int (v := c0) f0 (by simp [hlen])
    obtain ⟨y1, rfl⟩ := field_int (v := c1) f1 (by simp [hlen])
    obtain ⟨y2, rfl⟩ := field_int (v := c2) f2 (by simp [hlen])
    obtain ⟨y3, rfl⟩ := field_int (v := c3) f3 (by simp [hlen])
    obtain ⟨y4, rfl⟩ := field_int (v := c4) f4 (by simp [hlen])
    obtain ⟨y5, rfl⟩ := field_int (v := c5) f5 (by simp [hlen])
    exact ⟨⟨y0, y1, y2, y3, y4, y5⟩, rfl⟩

set_option maxRecDepth 100000 in
/-- A list of numbers that came in, as a field's cell. -/
theorem open_nums {H : Type} {enc : TypeId × Value → H} {W : World} {fuel : Nat} {v : Value} {x : DataW H × List MemPlace}
    (h : DataW.trod enc Tryz.prog W 0 (fun _ => true) true fuel 42 [v] = some x) :
    ∃ a n c zs, v = .slice a n c ∧ YtihbhbeaihdgnaaGreat.Knd.Ints W a n c zs ∧ ((x.1 = .nil ∧ n = 0) ∨ ∃ els spare, x.1 = .slice els spare ∧ els.length = n) := by
  rcases open_ints Tryz.underlying42 Tryz.underlying3 ocellsI h with ⟨hcs, hx⟩ | ⟨ad, l, c', zs, hcs, _, hl, hm, hz, hx, hcell, hwz⟩
  · simp at hcs
    exact ⟨none, 0, 0, [], hcs, ⟨rfl, Nat.le_refl _, Nat.zero_le _, fun _ => rfl, .inl rfl⟩, .inl ⟨by rw [hx], rfl⟩⟩
  · simp at hcs
    simp only [if_true] at hz
    refine ⟨some ad, l, c', zs.take l, hcs, ⟨by rw [List.length_take]; omega, hl, hm, (fun h => by cases h), ?_⟩, .inr ⟨_, _, by rw [hx], by simp [lits, List.length_take]; omega⟩⟩
    by_cases h0 : l = 0
    · exact .inl h0
    · obtain ⟨b, off, spot⟩ := ad
      have hspot : spot = none := by simpa [Addr.add] using World.cell?_spot (hcell 0 (by omega))
      subst hspot
      refine .inr ⟨b, off, rfl, fun i hi => ?_⟩
      have := hcell i (by omega)
      rw [Addr.add_lit] at this
      rw [this]
      simp [List.getD, hi]

set_option maxRecDepth 100000 in
/-- A list of instructions that came in, as a field's cell. -/
theorem open_ins {H : Type} {enc : TypeId × Value → H} {W : World} {fuel : Nat} {v : Value} {x : DataW H × List MemPlace}
    (h : DataW.trod enc Tryz.prog W 0 (fun _ => true) true fuel 24 [v] = some x) :
    ∃ a n c L, v = .slice a n c ∧ Ins W a n c L ∧ ((x.1 = .nil ∧ n = 0) ∨ ∃ els spare, x.1 = .slice els spare ∧ els.length = n) := by
  rcases DataW.trod_slice Tryz.underlying24 h with ⟨hcs, hx⟩ | ⟨ad, l, c', elems, rest, m, _, hcs, hx, _, hl, hm, hlen, hel, -, -⟩
  · simp at hcs
    exact ⟨none, 0, 0, [], hcs, ⟨rfl, Nat.le_refl _, Nat.zero_le _, fun _ => rfl, .inl rfl⟩, .inl ⟨by rw [hx], rfl⟩⟩
  · simp at hcs
    by_cases h0 : l = 0
    · exact ⟨some ad, l, c', [], hcs, ⟨h0.symm, hl, hm, (fun h => by cases h), .inl h0⟩, .inr ⟨_, _, by rw [hx], by simp [hlen]⟩⟩
    obtain ⟨b, off, spot⟩ := ad
    have hspot : spot = none := by
      have h1 := hel 0 (by omega)
      rw [ocellsN, List.getElem?_eq_getElem (by omega), Option.bind_eq_some_iff] at h1
      obtain ⟨cs, hc, ht⟩ := h1
      obtain ⟨n, rfl⟩ := open_in ht
      obtain ⟨-, hcl, hce⟩ := World.cells?_some hc
      have h2 := hce 0 (by omega)
      exact by simpa [Addr.add] using World.cell?_spot (h2.trans rfl)
    subst hspot
    have each : ∀ i, i < l → ∃ n : In, ∀ j v, (i6 n)[j]? = some v → W.cell? ⟨b, off + i * 6 + j, none⟩ = some v := by
      intro i hi
      have h1 := hel i hi
      rw [ocellsN, List.getElem?_eq_getElem (by omega), Option.bind_eq_some_iff] at h1
      obtain ⟨cs, hc, ht⟩ := h1
      obtain ⟨n, rfl⟩ := open_in ht
      obtain ⟨-, hcl, hce⟩ := World.cells?_some hc
      refine ⟨n, fun j v hj => ?_⟩
      have hj6 : j < 6 := by have := (List.getElem?_eq_some_iff.1 hj).1; omega
      have := hce j hj6
      rw [hj, Addr.add_lit, Addr.add_lit] at this
      exact this
    obtain ⟨S, hS⟩ : ∃ S : Nat → In, ∀ i, i < l → ∀ j v, (i6 (S i))[j]? = some v → W.cell? ⟨b, off + i * 6 + j, none⟩ = some v := by
      refine ⟨fun i => if hi : i < l then (each i hi).choose else i0, fun i hi => ?_⟩
      simp only [dif_pos hi]
      exact (each i hi).choose_spec
    have hget : ∀ i, i < l → ((List.range l).map S).getD i i0 = S i := fun i hi => by simp [List.getD, hi]
    refine ⟨some ⟨b, off, none⟩, l, c', (List.range l).map S, hcs, ⟨by simp, hl, hm, (fun h => by cases h), ?_⟩, .inr ⟨_, _, by rw [hx], by simp [hlen]⟩⟩
    refine .inr ⟨b, off, rfl, World.block_lt_of_cell? W _ (hS 0 (by omega) 0 _ rfl), fun i hi j v hj => ?_⟩
    rw [hget i hi] at hj
    exact hS i hi j v hj

set_option maxRecDepth 100000 in
/-- A code that came in. -/
theorem open_code {H : Type} {enc : TypeId × Value → H} {W : World} {r : Reach} {b0 : Nat} {v : Value} {d : DataW H} {ps : List MemPlace}
    (hval : Value.okWide Tryz.prog W r b0 26 v) (h : DataW.Trod enc Tryz.prog W 0 (fun _ => true) true 26 v d ps) :
    ∃ f e a n c L o, v = .agg (cd f e a n c o) ∧ Ins W a n c L ∧ ∃ e0 e1 e2, d = .agg [e0, e1, e2] ∧ ((e1 = .nil ∧ n = 0) ∨ ∃ els spare, e1 = .slice els spare ∧ els.length = n) := by
  unfold Value.okWide at hval
  rw [Tryz.underlying26] at hval
  obtain ⟨cs, rfl, hsz, _⟩ := hval
  rw [ocellsC] at hsz
  obtain ⟨fuel, hf⟩ := h
  obtain ⟨xs, n, _, hx, hl, hxs, hall⟩ := DataW.trod_struct Tryz.underlying26 hf
  obtain ⟨c0, c1, c2, c3, rfl⟩ : ∃ c0 c1 c2 c3, cs = #[c0, c1, c2, c3] := by
    obtain ⟨l⟩ := cs
    match l, hsz with
    | [a, b, c, d], _ => exact ⟨a, b, c, d, rfl⟩
  have hlen : xs.length = 3 := hxs
  match xs, hlen with
  | [y0, y1, y2], _ =>
    have f0 := hall 0 _ rfl
    have f1 := hall 1 _ rfl
    have f2 := hall 2 _ rfl
    simp only [Value.cells] at f0 f1 f2
    obtain ⟨p, q, hp⟩ := open_kd (cs := [c0, c1]) f0
    simp only [List.cons.injEq, and_true] at hp
    obtain ⟨rfl, rfl⟩ := hp
    obtain ⟨a, n', c, L, rfl, hI, hd⟩ := open_ins (v := c2) f1
    obtain ⟨o, rfl⟩ := field_int (v := c3) f2 rfl
    simp only [Prod.mk.injEq] at hx
    exact ⟨p, q, a, n', c, L, o, rfl, hI, y0.1, y1.1, y2.1, by rw [hx.1]; rfl, hd⟩

set_option maxRecDepth 100000 in
theorem code_reach {H : Type} {n : Nat} {d : DataW H} {ts : List TypeId} {ds : List (DataW H)} {e0 e1 e2 : DataW H} (hd : d = .agg [e0, e1, e2]) (he : (e1 = .nil ∧ n = 0) ∨ ∃ els spare, e1 = .slice els spare ∧ els.length = n)
    (hsz : (DataW.weightsEach Tryz.prog ts ds).all (· ≤ reachBytes) = true) (j : Nat) (ht : ts[j]? = some 26) (hj : ds[j]? = some d) : n ≤ 2932031007317 := by
  rcases he with ⟨_, rfl⟩ | ⟨els, spare, rfl, rfl⟩
  · omega
  · subst hd
    have hmem : (els.length + spare.length) * Tryz.prog.bytesOf 41 ∈ (DataW.agg [e0, DataW.slice els spare, e2]).weights Tryz.prog 26 := by
      simp [DataW.weights, Tryz.underlying26, DataW.weightsEach, Tryz.underlying24]
    have := of_decide_eq_true (List.all_eq_true.1 hsz _ (DataW.weights_mem_each ht hj _ hmem))
    rw [obytesN] at this
    simp only [reachBytes] at this
    omega

set_option maxRecDepth 100000 in
/-- A window that came in. -/
theorem open_window {H : Type} {enc : TypeId × Value → H} {W : World} {r : Reach} {b0 : Nat} {v : Value} {d : DataW H} {ps : List MemPlace}
    (hval : Value.okWide Tryz.prog W r b0 44 v) (h : DataW.Trod enc Tryz.prog W 0 (fun _ => true) true 44 v d ps) :
    ∃ (w : Wd) (a : Option Addr) (n c : Nat), v = .agg (wdA w a n c) ∧ YtihbhbeaihdgnaaGreat.Knd.Ints W a n c w.ps ∧
      ∃ e0 e1 e2 e3, d = .agg [e0, e1, e2, e3] ∧ ((e3 = .nil ∧ n = 0) ∨ ∃ els spare, e3 = .slice els spare ∧ els.length = n) := by
  unfold Value.okWide at hval
  rw [Tryz.underlying44] at hval
  obtain ⟨cs, rfl, hsz, _⟩ := hval
  rw [ocellsW] at hsz
  obtain ⟨fuel, hf⟩ := h
  obtain ⟨xs, n, _, hx, hl, hxs, hall⟩ := DataW.trod_struct Tryz.underlying44 hf
  obtain ⟨c0, c1, c2, c3, rfl⟩ : ∃ c0 c1 c2 c3, cs = #[c0, c1, c2, c3] := by
    obtain ⟨l⟩ := cs
    match l, hsz with
    | [a, b, c, d], _ => exact ⟨a, b, c, d, rfl⟩
  have hlen : xs.length = 4 := hxs
  match xs, hlen with
  | [y0, y1, y2, y3], _ =>
    have f0 := hall 0 _ rfl
    have f1 := hall 1 _ rfl
    have f2 := hall 2 _ rfl
    have f3 := hall 3 _ rfl
    simp only [Value.cells] at f0 f1 f2 f3
    obtain ⟨x0, rfl⟩ := field_int (v := c0) f0 rfl
    obtain ⟨x1, rfl⟩ := field_int (v := c1) f1 rfl
    obtain ⟨x2, rfl⟩ := field_int (v := c2) f2 rfl
    obtain ⟨a, n', c, zs, rfl, hI, hd⟩ := open_nums (v := c3) f3
    simp only [Prod.mk.injEq] at hx
    exact ⟨⟨x0, x1, x2, zs⟩, a, n', c, rfl, hI, y0.1, y1.1, y2.1, y3.1, by rw [hx.1]; rfl, hd⟩

set_option maxRecDepth 100000 in
theorem window_reach {H : Type} {n : Nat} {d : DataW H} {ts : List TypeId} {ds : List (DataW H)} {e0 e1 e2 e3 : DataW H} (hd : d = .agg [e0, e1, e2, e3]) (he : (e3 = .nil ∧ n = 0) ∨ ∃ els spare, e3 = .slice els spare ∧ els.length = n)
    (hsz : (DataW.weightsEach Tryz.prog ts ds).all (· ≤ reachBytes) = true) (j : Nat) (ht : ts[j]? = some 44) (hj : ds[j]? = some d) : n ≤ 17592186044000 := by
  rcases he with ⟨_, rfl⟩ | ⟨els, spare, rfl, rfl⟩
  · omega
  · subst hd
    have hmem : (els.length + spare.length) * Tryz.prog.bytesOf 3 ∈ (DataW.agg [e0, e1, e2, DataW.slice els spare]).weights Tryz.prog 44 := by
      simp [DataW.weights, Tryz.underlying44, DataW.weightsEach, Tryz.underlying42]
    have := of_decide_eq_true (List.all_eq_true.1 hsz _ (DataW.weights_mem_each ht hj _ hmem))
    rw [obytesI] at this
    simp only [reachBytes] at this
    omega

end Go.Proofs.Cde

/-
  code.Values: what every register comes to.
-/
namespace Go.Proofs.Cde
open YtihbhbeaihdgnaaGreat (Wd wdA Fits inpV fitE_cases)
open Go.RowKit Go.IntWalk YtihbhbeaihdgnaaGreat.Knd
set_option linter.unusedVariables false

/-- One step, and all of them: the error, and what came out ahead of it. -/
def vlS (f d : Int) (v : Wd) (s : Int × List Int) (n : In) : Int × List Int :=
  if s.1 = 0 then (if (vlI f d v s.2 n).2 = 0 then (0, s.2 ++ [(vlI f d v s.2 n).1]) else ((vlI f d v s.2 n).2, [])) else s
def vlF (f d : Int) (v : Wd) (L : List In) : Int × List Int := L.foldl (vlS f d v) (0, [])
theorem vlF_snoc (f d : Int) (v : Wd) (L : List In) (n : In) : vlF f d v (L ++ [n]) = vlS f d v (vlF f d v L) n := by simp [vlF]
theorem vlF_stuck (f d : Int) (v : Wd) : ∀ (L : List In) (s : Int × List Int), s.1 ≠ 0 → L.foldl (vlS f d v) s = s
  | [], s, h => rfl
  | n :: L, s, h => by
    rw [List.foldl_cons, show vlS f d v s n = s by rw [vlS, if_neg h]]
    exact vlF_stuck f d v L s h
theorem vlF_bad {f d : Int} {v : Wd} {L : List In} {k : Nat} {e : Int × List Int} (h : vlF f d v (L.take k) = e) (he : e.1 ≠ 0) : vlF f d v L = e := by
  have : vlF f d v L = (L.drop k).foldl (vlS f d v) (vlF f d v (L.take k)) := by
    rw [vlF, vlF, ← List.foldl_append, List.take_append_drop]
  rw [this, h, vlF_stuck f d v _ _ he]
theorem vlF_len (f d : Int) (v : Wd) (L : List In) : ∀ k, k ≤ L.length → (vlF f d v (L.take k)).1 = 0 → (vlF f d v (L.take k)).2.length = k
  | 0, _, _ => by simp [vlF]
  | k + 1, h, he => by
    have ih := vlF_len f d v L k (by omega)
    rw [take_snoc i0 (by omega), vlF_snoc] at he ⊢
    unfold vlS at he ⊢
    split at he
    · rename_i h0
      rw [if_pos h0]
      split at he
      · rename_i h1
        rw [if_pos h1]
        simp [ih h0]
      · rename_i h1
        exact absurd he h1
    · rename_i h0
      exact absurd he h0
open Classical in
/-- What Values answers: the error, and the registers. -/
noncomputable def vaZ (f d : Int) (v : Wd) (L : List In) (out : Int) : Int × List Int := if mcB f d L out = true then (if Fits f d v then vlF f d v L else (1, [])) else (15, [])
/-- An answer of two parts: a list of the call's own, and an error. -/
def TwP (w : World) (Z : Int × List Int) (e : Ending) (W' : World) : Prop :=
  ∃ a c, e = .returned (.tuple #[.slice a Z.2.length c, .int .i64 Z.1]) ∧ W'.ownsRow w.heap.size 3 1 (.slice a Z.2.length c) Z.2.length (i64s Z.2) ∧ Below w.heap.size w W'
theorem TwP.no {w W' : World} {er : Int} (hb : Below w.heap.size w W') : TwP w (er, []) (.returned (.tuple #[.slice none 0 0, .int .i64 er])) W' := ⟨_, _, rfl, ⟨rfl, .inl ⟨rfl, rfl⟩⟩, hb⟩
theorem TwP.row {w W' : World} {D : List Int} {g n : Nat} (hg : HasC W' g 3 (zA D)) (hn : D.length = n) (h0 : w.heap.size ≤ g) (hl : n ≤ 1024) (hb : Below w.heap.size w W') : TwP w (0, D) (.returned (.tuple #[.slice (some ⟨g, 0, none⟩) n n, .int .i64 0])) W' := by
  subst hn
  exact ⟨_, _, rfl, z_owns hg h0 hl, hb⟩
theorem ccE_zero {f d : Int} {L : List In} {out : Int} (h : ccE f d L out = 0) : mcB f d L out = true := by
  unfold ccE at h
  split at h
  · assumption
  · omega
theorem ccE_cases (f d : Int) (L : List In) (out : Int) : (mcB f d L out = true ∧ ccE f d L out = 0) ∨ (¬ mcB f d L out = true ∧ ccE f d L out = 15) := by
  unfold ccE
  by_cases h : mcB f d L out = true
  · exact .inl ⟨h, if_pos h⟩
  · exact .inr ⟨h, if_neg h⟩
theorem mc_parts {f d : Int} {L : List In} {out : Int} (h : mcB f d L out = true) : May f d ∧ 1 ≤ L.length ∧ L.length ≤ 200 ∧ 0 ≤ out ∧ out < L.length ∧ okT L L.length = true := by
  simp only [mcB, Bool.and_eq_true, decide_eq_true_eq, YtihbhbeaihdgnaaGreat.Spn.inB_iff] at h
  obtain ⟨⟨⟨h1, h2⟩, h3⟩, h4⟩ := h
  exact ⟨h1, by omega, by omega, by omega, by omega, h4⟩
theorem vlI_pre {f d : Int} {v : Wd} {D Z : List Int} {n : In} (h : okI n D.length = true) : vlI f d v (D ++ Z) n = vlI f d v D n := by
  have e : arV (D ++ Z) n = arV D n := by
    unfold arV
    apply List.map_congr_left
    intro r hr
    obtain ⟨j, hj, rfl⟩ := List.getElem_of_mem hr
    rw [agL_len] at hj
    have := ok_reg h hj
    rw [← agL_at n j hj, List.getD_eq_getElem?_getD, List.getElem?_eq_getElem (by rw [agL_len]; exact hj)] at this
    exact getD_pre this.2
  rw [vlI, vlI, e]

end Go.Proofs.Cde

/-
  code.Cost; seven and awake of the statements.
-/
namespace Go.Proofs.Cde
open YtihbhbeaihdgnaaGreat (Wd wdA Fits inpV fitE_cases)
open Go.RowKit Go.IntWalk YtihbhbeaihdgnaaGreat.Knd
set_option linter.unusedVariables false

def coL (L : List In) : Int := L.foldl (fun s n => s + coZ n.op) 0
theorem coL_snoc (L : List In) (n : In) : coL (L ++ [n]) = coL L + coZ n.op := by simp [coL]
theorem coL_le (L : List In) : ∀ k, k ≤ L.length → 0 ≤ coL (L.take k) ∧ coL (L.take k) ≤ 6 * k
  | 0, _ => by simp [coL]
  | k + 1, h => by
    have ih := coL_le L k (by omega)
    rw [take_snoc i0 (by omega), coL_snoc]
    have := coZ_le (L.getD k i0).op
    omega

set_option maxRecDepth 100000 in
set_option maxHeartbeats 4000000 in
theorem ccost_any (f d out : Int) {a : Option Addr} {n cap : Nat} {L : List In} {W : World} (hL : Ins W a n cap L) (hn : n ≤ 1000000000000000) :
    Calls Tryz.prog 40 #[.agg (cd f d a n cap out)] W fun e W' => e = .returned (.int .i64 (coL L)) ∧ Below W.heap.size W W' := by
  have HB0 := hide (bel1 W (.cells (cd f d a n cap out) 26))
  have HLI := hide hL
  have HLn := hide hL.len
  clear hL
  go_enter Tryz.func40, Tryz.ntmps40
  go_wp2_with fail
  go_loopw [3, 9] (fun s i wr => ∃ (k : Nat) (c : Int), k ≤ n ∧ i = .int .i64 k ∧ s = .int .i64 c ∧ 0 ≤ c ∧ c ≤ 6 * k ∧ Hid (c = coL (L.take k)) ∧ Hid (Below W.heap.size W wr)) (fun _ i _ => n - (intOf i).toNat)
  case atStart => exact ⟨0, 0, Nat.zero_le _, rfl, rfl, Int.le_refl _, Int.le_refl _, hide rfl, HB0⟩
  case round =>
    obtain ⟨k, c, hk, rfl, rfl, hc0, hc6, HC, HB⟩ := hrel
    rename World => V
    clear HB0
    by_cases hlt : k < n
    · obtain ⟨g, off, rfl, -, hat⟩ := (HLI.out.later HB.out).at (by omega)
      obtain ⟨e0, e1, e2, e3, e4, e5⟩ := hat k hlt
      clear hat
      have hi0 : (0 : Int) ≤ k := by omega
      have hi1 : (k : Int) < n := by omega
      have HC2 := hide (show c + coZ (L.getD k i0).op = coL (L.take (k + 1)) by rw [take_snoc i0 (by rw [HLn.out]; exact hlt), coL_snoc, HC.out])
      generalize L.getD k i0 = m at *
      have HCo := hide fun w => cost_any m.op w
      obtain ⟨z0, z1⟩ := coZ_le m.op
      generalize coZ m.op = z at *
      have HB2 := hide (bel HB.out (bel1 V (.cells (ia m) 41)))
      go_wp2_with (go_at_call 79; refine (HCo.out _).mono ?_; rintro e w' ⟨rfl, rfl⟩)
      go_roundw
      case rel => exact ⟨k + 1, c + z, by omega, by go_num, rfl, by omega, by omega, HC2, HB2⟩
      case measure => simp [intOf]; omega
    · obtain rfl : k = n := by omega
      have hC := HC.out
      rw [List.take_of_length_le (by rw [HLn.out]; exact Nat.le_refl _)] at hC
      have HC2 := hide hC
      clear hC
      go_wp2_with fail
      go_ret
      exact ⟨ret_int HC2.out, HB.out⟩

theorem has_ins {W : World} {g : Nat} {L : List In} (h : HasC W g 41 (is6 L).toArray) (hl : L.length ≤ 1024) : Ins W (some ⟨g, 0, none⟩) L.length L.length L := by
  refine ⟨rfl, Nat.le_refl _, by unfold maxLen; omega, (fun h => by cases h), .inr ⟨g, 0, rfl, h.lt, fun i hi j v hv => ?_⟩⟩
  rw [Nat.add_assoc, Nat.zero_add]
  refine h.cell _ ?_
  rw [List.getElem?_toArray]
  exact is6_get L i hi j v hv

end Go.Proofs.Cde

/-
  The document's may and May: which codes may be.
-/
namespace Go.Proofs.Cde
open Go.RowKit Go.IntWalk YtihbhbeaihdgnaaGreat.Knd
set_option linter.unusedVariables false

theorem csB_s {n : In} (h : n.op ≠ 33) (hs : n.s ≠ 0) : csB n = false := by
  have e : (n.s == 0) = false := by simpa using hs
  unfold csB
  rw [e, if_neg h]
  simp
/-- Constants, where S is 0 or asked for. -/
theorem csB_k {n : In} (ha : 0 ≤ YtihbhbeaihdgnaaGreat.Spn.ar n.op) (h : n.op = 33 ∨ n.s = 0) :
    csB n = if n.op = 1 then YtihbhbeaihdgnaaGreat.Spn.wd n.k else if n.op = 2 then YtihbhbeaihdgnaaGreat.Spn.inB n.k 0 5 else if n.op = 3 then YtihbhbeaihdgnaaGreat.Spn.inB n.k 0 255 else if 29 ≤ n.op then YtihbhbeaihdgnaaGreat.Spn.cons n.op n.k n.s else n.k == 0 := by
  have hle : ¬ 33 < n.op := fun h' => by rw [YtihbhbeaihdgnaaGreat.Spn.ar_out (by omega)] at ha; omega
  unfold csB
  by_cases h1 : n.op = 1
  · rw [if_pos h1, if_pos h1, show n.s = 0 by omega]; simp
  by_cases h2 : n.op = 2
  · rw [if_neg h1, if_neg h1, if_pos h2, if_pos h2, show n.s = 0 by omega]; simp
  by_cases h3 : n.op = 3
  · rw [if_neg h1, if_neg h1, if_neg h2, if_neg h2, if_pos h3, if_pos h3, show n.s = 0 by omega]; simp
  rw [if_neg h1, if_neg h1, if_neg h2, if_neg h2, if_neg h3, if_neg h3]
  by_cases h4 : 29 ≤ n.op
  · rw [if_pos h4]
    by_cases h5 : n.op = 33
    · rw [if_neg (by omega), if_pos h5]
    · rw [if_pos (by omega), show n.s = 0 by omega]; simp
  · rw [if_neg h4, if_neg (by omega), if_neg (by omega), show n.s = 0 by omega]; simp

set_option maxRecDepth 100000 in
set_option maxHeartbeats 4000000 in
theorem xmay_any (n : In) (i : Nat) (hi : i ≤ 9223372036854775807) (W : World) :
    Calls Tryz.prog 46 #[.agg (ia n), .int .i64 (i : Int)] W fun e W' => e = .returned (.bool (okI n i)) ∧ Below W.heap.size W W' := by
  have HA := hide fun W => YtihbhbeaihdgnaaGreat.Spn.rarity_any n.op W
  have HB0 := hide (bel1 W (.cells (ia n) 41))
  by_cases ha : YtihbhbeaihdgnaaGreat.Spn.ar n.op < 0
  · rw [show okI n i = false by simp [okI]; omega]
    go_enter Tryz.func46, Tryz.ntmps46
    go_wp2_with (go_at_call 50; refine (HA.out _).mono ?_; rintro e w1 ⟨rfl, rfl⟩)
    go_ret
    exact ⟨rfl, HB0.out⟩
  have ha2 : decide (YtihbhbeaihdgnaaGreat.Spn.ar n.op < 0) = false := by simpa using ha
  by_cases hs : n.op ≠ 33 ∧ n.s ≠ 0
  · rw [show okI n i = false by simp [okI, csB_s hs.1 hs.2]]
    have q1 : (n.op != 33) = true := by simpa using hs.1
    have q2 : (n.s != 0) = true := by simpa using hs.2
    clear hs
    go_enter Tryz.func46, Tryz.ntmps46
    go_wp2_with (go_at_call 50; refine (HA.out _).mono ?_; rintro e w1 ⟨rfl, rfl⟩)
    go_ret
    exact ⟨rfl, HB0.out⟩
  have hC := csB_k (n := n) (by omega) (by omega)
  have HOk : Hid (okI n i = (rgT n i 3 && csB n)) := hide (by rw [rgT_three, okI, decide_eq_true (show 0 ≤ YtihbhbeaihdgnaaGreat.Spn.ar n.op by omega), Bool.true_and])
  have hq : ((n.op != 33) = false) ∨ ((n.op != 33) = true ∧ (n.s != 0) = false) := by
    by_cases h : n.op = 33
    · exact .inl (by simp [h])
    · exact .inr ⟨by simpa using h, by simp; omega⟩
  have HC := hide hC
  have HB := hide (bel (bel1 W (.cells (ia n) 41)) (bel1 (W.alloc (.cells (ia n) 41)) (.cells #[.int .i64 n.a, .int .i64 n.b, .int .i64 n.c] 3)))
  have HG := hide (has_new1 W (.cells (ia n) 41) 3 #[.int .i64 n.a, .int .i64 n.b, .int .i64 n.c])
  have HN := hide ((HasC.new W 41 (ia n)).alloc (.cells #[.int .i64 n.a, .int .i64 n.b, .int .i64 n.c] 3))
  have HT := hide fun k => rgT_succ n i k
  have HD := hide fun k m (h : rgT n i m = true) (hk : k ≤ m) => rgT_down h hk
  have H0 : Hid (rgT n i 0 = true) := hide rfl
  have i1 : -9223372036854775808 ≤ (i : Int) - 1 := by omega
  have i2 : (i : Int) - 1 ≤ 9223372036854775807 := by omega
  generalize rgT n i = T at *
  have HR := hide fun j h => rgN_at n j h
  have HW := hide fun x w => YtihbhbeaihdgnaaGreat.Spn.rword_any x w
  have HCo := hide fun op k s w => YtihbhbeaihdgnaaGreat.Spn.rconstants_any op k s w
  have HAr := hide ha
  clear hC ha hs
  rcases hq with q1 | ⟨q1, q2⟩
  all_goals
    go_enter Tryz.func46, Tryz.ntmps46
    go_wp2_with (go_at_call 50; refine (HA.out _).mono ?_; rintro e w1 ⟨rfl, rfl⟩)
    obtain ⟨V, hV⟩ : ∃ V, (W.alloc (.cells (ia n) 41)).alloc (.cells #[.int .i64 n.a, .int .i64 n.b, .int .i64 n.c] 3) = V := ⟨_, rfl⟩
    rw [hV] at HB HG HN ⊢
    clear hV HA
    go_loop [7] (fun j => ∃ k : Nat, k ≤ 3 ∧ j = .int .i64 k ∧ Hid (T k = true)) (fun j => 3 - (intOf j).toNat)
    case atStart => exact ⟨0, by omega, rfl, hide H0.out⟩
    case round =>
      obtain ⟨k, hk, rfl, HK⟩ := hrel
      by_cases hlt : k < 3
      · have c0 := HG.out.cell k (HR.out k hlt)
        have hs := HT.out k
        rw [HK.out, Bool.true_and] at hs
        generalize rgN n k = r at *
        have j0 : (0 : Int) ≤ k := by omega
        have j1 : (k : Int) < 3 := by omega
        by_cases hu : (k : Int) < YtihbhbeaihdgnaaGreat.Spn.ar n.op
        · rw [show rgB r (decide ((k : Int) < YtihbhbeaihdgnaaGreat.Spn.ar n.op)) i = YtihbhbeaihdgnaaGreat.Spn.inB r 0 ((i : Int) - 1) by simp [rgB, hu]] at hs
          have HS := hide hs
          clear hs
          have hu2 : decide (YtihbhbeaihdgnaaGreat.Spn.ar n.op ≤ (k : Int)) = false := by simp; omega
          by_cases hr0 : r < 0
          · have HF : Hid (T (k + 1) = false) := hide (by rw [HS.out]; exact YtihbhbeaihdgnaaGreat.Spn.inB_f (by omega))
            go_wp2_with fail
            go_ret
            refine ⟨ret_b ?_, HB.out⟩
            rw [HOk.out]
            cases h3 : T 3
            · rfl
            · have := HD.out (k + 1) 3 h3 (by omega)
              rw [HF.out] at this
              cases this
          · have hr1 : decide (r < 0) = false := by simpa using hr0
            by_cases hr2 : (i : Int) - 1 < r
            · have HF : Hid (T (k + 1) = false) := hide (by rw [HS.out]; exact YtihbhbeaihdgnaaGreat.Spn.inB_f (by omega))
              go_wp2_with fail
              go_ret
              refine ⟨ret_b ?_, HB.out⟩
              rw [HOk.out]
              cases h3 : T 3
              · rfl
              · have := HD.out (k + 1) 3 h3 (by omega)
                rw [HF.out] at this
                cases this
            · have hr3 : decide ((i : Int) - 1 < r) = false := by simpa using hr2
              have HF : Hid (T (k + 1) = true) := hide (by rw [HS.out, YtihbhbeaihdgnaaGreat.Spn.inB_iff]; omega)
              clear hr0 hr2
              go_wp2_with fail
              go_round
              case rel => exact ⟨k + 1, by omega, by go_num, HF⟩
              case measure => simp [intOf]; omega
        · rw [show rgB r (decide ((k : Int) < YtihbhbeaihdgnaaGreat.Spn.ar n.op)) i = (r == 0) by simp [rgB, hu]] at hs
          have HS := hide hs
          clear hs
          have hu2 : YtihbhbeaihdgnaaGreat.Spn.ar n.op ≤ (k : Int) := by omega
          have hu3 : decide ((k : Int) < YtihbhbeaihdgnaaGreat.Spn.ar n.op) = false := by simpa using hu
          by_cases hr : r = 0
          · subst hr
            go_wp2_with fail
            go_round
            case rel => exact ⟨k + 1, by omega, by go_num, hide HS.out⟩
            case measure => simp [intOf]; omega
          · have hr2 : (r != 0) = true := by simpa using hr
            have HF : Hid (T (k + 1) = false) := hide (by rw [HS.out]; simpa using hr)
            clear hr
            go_wp2_with fail
            go_ret
            refine ⟨ret_b ?_, HB.out⟩
            rw [HOk.out]
            cases h3 : T 3
            · rfl
            · have := HD.out (k + 1) 3 h3 (by omega)
              rw [HF.out] at this
              cases this
      · obtain rfl : k = 3 := by omega
        have hO := HOk.out
        rw [HK.out, Bool.true_and, HC.out] at hO
        obtain ⟨e0, -, -, -, e4, e5⟩ := six_of HN.out
        by_cases h1 : n.op = 1
        · rw [if_pos h1] at hO
          have HO := hide hO
          have p1 : (n.op == 1) = true := by simpa using h1
          clear hO h1
          go_wp2_with (go_at_call 88; refine (HW.out _ _).mono ?_; rintro e w1 ⟨rfl, rfl⟩)
          go_ret
          exact ⟨ret_b HO.out.symm, HB.out⟩
        rw [if_neg h1] at hO
        have p1 : (n.op == 1) = false := by simpa using h1
        by_cases h2 : n.op = 2
        · rw [if_pos h2] at hO
          have HO := hide hO
          have p2 : (n.op == 2) = true := by simpa using h2
          clear hO h1 h2
          by_cases hk0 : 0 ≤ n.k
          · go_wp2_with fail
            go_ret
            refine ⟨ret_b ?_, HB.out⟩
            rw [HO.out]
            simp [YtihbhbeaihdgnaaGreat.Spn.inB, hk0]
            omega
          · have hk1 : decide (0 ≤ n.k) = false := by simpa using hk0
            have HO2 : Hid (okI n i = false) := hide (by rw [HO.out]; exact YtihbhbeaihdgnaaGreat.Spn.inB_f (by omega))
            go_wp2_with fail
            go_ret
            exact ⟨ret_b HO2.out.symm, HB.out⟩
        rw [if_neg h2] at hO
        have p2 : (n.op == 2) = false := by simpa using h2
        by_cases h3 : n.op = 3
        · rw [if_pos h3] at hO
          have HO := hide hO
          have p3 : (n.op == 3) = true := by simpa using h3
          clear hO h1 h2 h3
          by_cases hk0 : 0 ≤ n.k
          · go_wp2_with fail
            go_ret
            refine ⟨ret_b ?_, HB.out⟩
            rw [HO.out]
            simp [YtihbhbeaihdgnaaGreat.Spn.inB, hk0]
            omega
          · have hk1 : decide (0 ≤ n.k) = false := by simpa using hk0
            have HO2 : Hid (okI n i = false) := hide (by rw [HO.out]; exact YtihbhbeaihdgnaaGreat.Spn.inB_f (by omega))
            go_wp2_with fail
            go_ret
            exact ⟨ret_b HO2.out.symm, HB.out⟩
        rw [if_neg h3] at hO
        have p3 : (n.op == 3) = false := by simpa using h3
        by_cases h4 : 29 ≤ n.op
        · rw [if_pos h4] at hO
          have HO := hide hO
          clear hO h1 h2 h3
          go_wp2_with (go_at_call 51; refine (HCo.out _ _ _ _).mono ?_; rintro e w1 ⟨rfl, rfl⟩)
          go_ret
          exact ⟨ret_b HO.out.symm, HB.out⟩
        · rw [if_neg h4] at hO
          have HO := hide hO
          have p4 : decide (29 ≤ n.op) = false := by simpa using h4
          clear hO h1 h2 h3 h4
          go_wp2_with fail
          go_ret
          exact ⟨ret_b HO.out.symm, HB.out⟩

end Go.Proofs.Cde

/-
  The document's May.
-/
namespace Go.Proofs.Cde
open Go.RowKit Go.IntWalk YtihbhbeaihdgnaaGreat.Knd
set_option linter.unusedVariables false

theorem rmay_any (f d : Int) (w : World) : Calls Tryz.prog 45 #[.agg (kd f d)] w fun e w' => e = .returned (.bool (decide (May f d))) ∧ Below w.heap.size w w' := by
  by_cases h : May f d
  · rw [decide_eq_true h]; exact rmay_ok f d w h
  · rw [decide_eq_false h]; exact rmay_bad f d w h
theorem okT_bad {L : List In} {m k : Nat} (hk : k < m) (h : okI (L.getD k i0) k = false) : okT L m = false := by
  cases h2 : okT L m
  · rfl
  · have := okT_at h2 hk
    rw [h] at this
    cases this

set_option maxRecDepth 100000 in
set_option maxHeartbeats 4000000 in
theorem xMay_any (f d out : Int) {a : Option Addr} {n cap : Nat} {L : List In} {W : World} (hL : Ins W a n cap L) :
    Calls Tryz.prog 20 #[.agg (cd f d a n cap out)] W fun e W' => e = .returned (.bool (mcB f d L out)) ∧ Below W.heap.size W W' := by
  have HB0 := hide (bel1 W (.cells (cd f d a n cap out) 26))
  have HC0 := hide (HasC.new W 26 (cd f d a n cap out))
  have hn := hL.short
  have HLn := hide hL.len
  have HK := hide fun w => rmay_any f d w
  have HL0 := hide hL
  clear hL
  have n0 : 0 ≤ (n : Int) := by omega
  have hE : mcB f d L out = (decide (May f d) && YtihbhbeaihdgnaaGreat.Spn.inB (n : Int) 1 200 && YtihbhbeaihdgnaaGreat.Spn.inB out 0 ((n : Int) - 1) && okT L n) := by rw [mcB, HLn.out]
  rw [hE]
  clear hE
  cases hm : decide (May f d)
  · rw [hm] at HK
    go_enter Tryz.func20, Tryz.ntmps20
    go_wp2_with (go_at_call 45; refine (HK.out _).mono ?_; rintro e w1 ⟨rfl, hb⟩; have HB1 := hide (bel HB0.out hb); obtain ⟨c0, c1, c2, c3⟩ := four_of (HC0.out.below hb); clear hb)
    go_ret
    exact ⟨ret_b rfl, HB1.out⟩
  rw [hm] at HK
  rw [Bool.true_and]
  by_cases h1 : n = 0
  · subst h1
    rw [show YtihbhbeaihdgnaaGreat.Spn.inB ((0 : Nat) : Int) 1 200 = false from rfl]
    go_enter Tryz.func20, Tryz.ntmps20
    go_wp2_with (go_at_call 45; refine (HK.out _).mono ?_; rintro e w1 ⟨rfl, hb⟩; have HB1 := hide (bel HB0.out hb); obtain ⟨c0, c1, c2, c3⟩ := four_of (HC0.out.below hb); clear hb)
    go_ret
    exact ⟨ret_b rfl, HB1.out⟩
  have q1 : ((n : Int) == 0) = false := by simpa using h1
  by_cases h2 : 200 < (n : Int)
  · rw [show YtihbhbeaihdgnaaGreat.Spn.inB (n : Int) 1 200 = false from YtihbhbeaihdgnaaGreat.Spn.inB_f (by omega)]
    go_enter Tryz.func20, Tryz.ntmps20
    go_wp2_with (go_at_call 45; refine (HK.out _).mono ?_; rintro e w1 ⟨rfl, hb⟩; have HB1 := hide (bel HB0.out hb); obtain ⟨c0, c1, c2, c3⟩ := four_of (HC0.out.below hb); clear hb)
    go_ret
    exact ⟨ret_b rfl, HB1.out⟩
  have q2 : decide (200 < (n : Int)) = false := by simpa using h2
  rw [YtihbhbeaihdgnaaGreat.Spn.inB_t (show 1 ≤ (n : Int) by omega) (by omega), Bool.true_and]
  by_cases h3 : out < 0
  · rw [show YtihbhbeaihdgnaaGreat.Spn.inB out 0 ((n : Int) - 1) = false from YtihbhbeaihdgnaaGreat.Spn.inB_f (by omega)]
    go_enter Tryz.func20, Tryz.ntmps20
    go_wp2_with (go_at_call 45; refine (HK.out _).mono ?_; rintro e w1 ⟨rfl, hb⟩; have HB1 := hide (bel HB0.out hb); obtain ⟨c0, c1, c2, c3⟩ := four_of (HC0.out.below hb); clear hb)
    go_ret
    exact ⟨ret_b rfl, HB1.out⟩
  have q3 : decide (out < 0) = false := by simpa using h3
  by_cases h4 : (n : Int) ≤ out
  · rw [show YtihbhbeaihdgnaaGreat.Spn.inB out 0 ((n : Int) - 1) = false from YtihbhbeaihdgnaaGreat.Spn.inB_f (by omega)]
    go_enter Tryz.func20, Tryz.ntmps20
    go_wp2_with (go_at_call 45; refine (HK.out _).mono ?_; rintro e w1 ⟨rfl, hb⟩; have HB1 := hide (bel HB0.out hb); obtain ⟨c0, c1, c2, c3⟩ := four_of (HC0.out.below hb); clear hb)
    go_ret
    exact ⟨ret_b rfl, HB1.out⟩
  have q4 : decide ((n : Int) ≤ out) = false := by simpa using h4
  rw [YtihbhbeaihdgnaaGreat.Spn.inB_t (show 0 ≤ out by omega) (by omega), Bool.true_and]
  have hn2 : n ≤ 200 := by omega
  clear h1 h2 h3 h4
  go_enter Tryz.func20, Tryz.ntmps20
  go_wp2_with (go_at_call 45; refine (HK.out _).mono ?_; rintro e w1 ⟨rfl, hb⟩; have HB1 := hide (bel HB0.out hb); have HC1 := hide (HC0.out.below hb); obtain ⟨c0, c1, c2, c3⟩ := four_of (HC0.out.below hb); clear hb)
  clear c0 c1 c2 c3 HB0 HC0 HK q1 q2 q3 q4 hm
  go_loopw [3] (fun i wr => ∃ k : Nat, k ≤ n ∧ i = .int .i64 k ∧ Hid (okT L k = true) ∧ Hid (HasC wr W.heap.size 26 (cd f d a n cap out)) ∧ Hid (Below W.heap.size W wr)) (fun i _ => n - (intOf i).toNat)
  case atStart => exact ⟨0, Nat.zero_le _, rfl, hide rfl, HC1, HB1⟩
  case round =>
    obtain ⟨k, hk, rfl, HT, HC, HB⟩ := hrel
    rename World => V
    clear HC1 HB1
    obtain ⟨c0, c1, c2, c3⟩ := four_of HC.out
    by_cases hlt : k < n
    · obtain ⟨g, off, rfl, -, hat⟩ := (HL0.out.later HB.out).at (by omega)
      obtain ⟨e0, e1, e2, e3, e4, e5⟩ := hat k hlt
      clear hat
      have hi0 : (0 : Int) ≤ k := by omega
      have hi1 : (k : Int) < n := by omega
      have hS := okT_succ L k
      have HD := hide fun h => okT_bad (L := L) (m := n) hlt h
      generalize L.getD k i0 = m at *
      rw [HT.out, Bool.true_and] at hS
      have HS := hide hS
      clear hS
      have HM := hide fun w => xmay_any m k (by omega) w
      cases ho : okI m k
      · rw [ho] at HM
        have HF := hide (HD.out ho)
        go_wp2_with (go_at_call 46; refine (HM.out _).mono ?_; rintro e w2 ⟨rfl, hb⟩; have HB2 := hide (bel HB.out hb); clear hb)
        go_ret
        exact ⟨ret_b HF.out.symm, HB2.out⟩
      · rw [ho] at HM HS
        go_wp2_with (go_at_call 46; refine (HM.out _).mono ?_; rintro e w2 ⟨rfl, hb⟩; have HB2 := hide (bel HB.out hb); have HC2 := hide (HC.out.below hb); clear hb)
        go_roundw
        case rel => exact ⟨k + 1, by omega, by go_num, HS, HC2, HB2⟩
        case measure => simp [intOf]; omega
    · obtain rfl : k = n := by omega
      go_wp2_with fail
      go_ret
      exact ⟨ret_b HT.out.symm, HB.out⟩

end Go.Proofs.Cde

/-
  The document's Args.
-/
namespace Go.Proofs.Cde
open YtihbhbeaihdgnaaGreat (Wd wdA Fits inpV fitE_cases)
open Go.RowKit Go.IntWalk YtihbhbeaihdgnaaGreat.Knd
set_option linter.unusedVariables false

set_option maxRecDepth 100000 in
set_option maxHeartbeats 4000000 in
theorem xargs_any (n : In) (W : World) :
    Calls Tryz.prog 23 #[.agg (ia n)] W fun e W' => ∃ g, e = .returned (.slice (some ⟨g, 0, none⟩) (arN n) 3) ∧ W.heap.size ≤ g ∧ HasC W' g 3 (zA (abc n)) ∧ Below W.heap.size W W' := by
  have HA := hide fun W => YtihbhbeaihdgnaaGreat.Spn.rarity_any n.op W
  have HB := hide (bel (bel1 W (.cells (ia n) 41)) (bel1 (W.alloc (.cells (ia n) 41)) (.cells (zA (abc n)) 3)))
  have HG := hide (has_new1 W (.cells (ia n) 41) 3 (zA (abc n)))
  rcases ar_five n.op with h | h | h | h | h
  all_goals
    first
      | rw [show arN n = 0 by unfold arN; rw [h]; rfl]
      | rw [show arN n = 1 by unfold arN; rw [h]; rfl]
      | rw [show arN n = 2 by unfold arN; rw [h]; rfl]
      | rw [show arN n = 3 by unfold arN; rw [h]; rfl]
    rw [h] at HA
    clear h
    go_enter Tryz.func23, Tryz.ntmps23
    go_wp2_with (go_at_call 50; refine (HA.out _).mono ?_; rintro e w2 ⟨rfl, rfl⟩)
    go_ret
    exact ⟨_, rfl, Nat.le_succ _, HG.out, HB.out⟩

end Go.Proofs.Cde

/-
  How often each register is read, plainly.
-/
namespace Go.Proofs.Cde
open YtihbhbeaihdgnaaGreat (Wd wdA Fits inpV fitE_cases)
open YtihbhbeaihdgnaaGreat.Knd
set_option linter.unusedVariables false

/-- How often r stands in a list. -/
def ctR (r : Nat) (A : List Int) : Int := ((A.filter fun x => decide (x.toNat = r)).length : Nat)
theorem ctR_snoc (r : Nat) (A : List Int) (x : Int) : ctR r (A ++ [x]) = ctR r A + if x.toNat = r then 1 else 0 := by
  unfold ctR
  rw [List.filter_append, List.length_append]
  by_cases h : x.toNat = r
  · simp [h]
  · simp [h]
theorem ctR_le (r : Nat) (A : List Int) : 0 ≤ ctR r A ∧ ctR r A ≤ A.length := by
  unfold ctR
  have := List.length_filter_le (fun x => decide (x.toNat = r)) A
  omega
def bump (U : List Int) (x : Int) : List Int := U.set x.toNat (U.getD x.toNat 0 + 1)
def usF (n : Nat) (A : List Int) : List Int := A.foldl bump (List.replicate n 0)
theorem usF_snoc (n : Nat) (A : List Int) (x : Int) : usF n (A ++ [x]) = bump (usF n A) x := by simp [usF]
theorem foldl_bump_len : ∀ (A U : List Int), (A.foldl bump U).length = U.length
  | [], U => rfl
  | x :: A, U => by rw [List.foldl_cons, foldl_bump_len A]; simp [bump]
theorem usF_len (n : Nat) (A : List Int) : (usF n A).length = n := by rw [usF, foldl_bump_len]; simp
theorem bump_get {U : List Int} {x : Int} {r : Nat} (hr : r < U.length) : (bump U x).getD r 0 = U.getD r 0 + if x.toNat = r then 1 else 0 := by
  unfold bump
  simp only [List.getD_eq_getElem?_getD]
  rw [List.getElem?_set]
  by_cases h : x.toNat = r
  · subst h
    simp [hr]
  · simp [h]
theorem usF_get (n : Nat) {r : Nat} (hr : r < n) (A : List Int) : ∀ k, k ≤ A.length → (usF n (A.take k)).getD r 0 = ctR r (A.take k)
  | 0, _ => by simp [usF, ctR, List.getD_eq_getElem?_getD, hr]
  | k + 1, h => by
    rw [take_snoc 0 (by omega), usF_snoc, bump_get (by rw [usF_len]; exact hr), ctR_snoc, usF_get n hr A k (by omega)]
theorem usF_at (n : Nat) {r : Nat} (hr : r < n) (A : List Int) : (usF n A).getD r 0 = ctR r A := by
  have := usF_get n hr A A.length (Nat.le_refl _)
  rwa [List.take_length] at this
/-- All registers that are read. -/
def agA (L : List In) : List Int := L.flatMap agL
theorem agA_snoc (L : List In) (n : In) : agA (L ++ [n]) = agA L ++ agL n := by simp [agA]
theorem agA_len (L : List In) : (agA L).length ≤ 3 * L.length := by
  induction L with
  | nil => simp [agA]
  | cons n L ih =>
    have := arN_le n
    simp only [agA, List.flatMap_cons, List.length_append, List.length_cons, agL_len] at *
    omega
/-- What Uses tells. -/
def usU (L : List In) (out : Int) : List Int := (List.range L.length).map fun (r : Nat) => (if out = (r : Int) then 1 else 0) + ctR r (agA L)
theorem usU_len (L : List In) (out : Int) : (usU L out).length = L.length := by simp [usU]
theorem usU_at (L : List In) (out : Int) {r : Nat} (hr : r < L.length) : (usU L out).getD r 0 = (if out = (r : Int) then 1 else 0) + ctR r (agA L) := by
  simp [usU, List.getD_eq_getElem?_getD, hr]
theorem usU_eq {L : List In} {out : Int} (h0 : 0 ≤ out) : bump (usF L.length (agA L)) out = usU L out := by
  have hl : (bump (usF L.length (agA L)) out).length = L.length := by simp [bump, usF_len]
  apply List.ext_getElem (by rw [hl, usU_len])
  intro r h1 h2
  rw [hl] at h1
  have e1 := bump_get (U := usF L.length (agA L)) (x := out) (r := r) (by rw [usF_len]; exact h1)
  rw [usF_at _ h1] at e1
  have e2 := usU_at L out h1
  simp only [List.getD_eq_getElem?_getD] at e1 e2
  rw [List.getElem?_eq_getElem (by rw [hl]; exact h1)] at e1
  rw [List.getElem?_eq_getElem (by rw [usU_len]; exact h1)] at e2
  simp only [Option.getD_some] at e1 e2
  rw [e1, e2]
  by_cases h : out = (r : Int)
  · subst h; simp; omega
  · rw [if_neg h, if_neg (by omega)]; omega
def usZ (f d : Int) (L : List In) (out : Int) : Int × List Int := if mcB f d L out = true then (0, usU L out) else (15, [])
theorem agL_succ (n : In) {q : Nat} (h : q < arN n) : (agL n).take (q + 1) = (agL n).take q ++ [rgN n q] := by
  rw [take_snoc 0 (by rw [agL_len]; exact h), agL_at n q h]
theorem agL_full (n : In) : (agL n).take (arN n) = agL n := List.take_of_length_le (by rw [agL_len]; exact Nat.le_refl _)

end Go.Proofs.Cde

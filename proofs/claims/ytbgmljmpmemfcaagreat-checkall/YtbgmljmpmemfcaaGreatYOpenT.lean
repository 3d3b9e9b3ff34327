/-
 An argument that is a tree: what its reading says of memory.
-/
import Derived.Test.YtbgmljmpmemfcaaGreatYOpK
import Derived.Test.YtbgmljmpmemfcaaGreatYRpA
import Derived.SliceStrings
namespace Go.Proofs.YtbgmljmpmemfcaaGreat
open Go.ChangeShapes Go.WideShapes Go.ChangeAt Go.RowKit Lx Pz
set_option linter.unusedVariables false

theorem tcells3 : Tryz.prog.cellsOf 3 = 1 := by kernel_rfl
theorem tcells9 : Tryz.prog.cellsOf 9 = 1 := by kernel_rfl
theorem tcellsN : Tryz.prog.cellsOf 53 = 9 := by kernel_rfl
theorem tcellsPl : Tryz.prog.cellsOf 51 = 4 := by kernel_rfl
theorem tcellsTr : Tryz.prog.cellsOf 28 = 4 := by kernel_rfl

theorem len4 {cs : List Value} (h : cs.length = 4) : ∃ c0 c1 c2 c3, cs = [c0, c1, c2, c3] := by
 match cs, h with
 | [c0, c1, c2, c3], _ => exact ⟨c0, c1, c2, c3, rfl⟩
theorem len9 {cs : List Value} (h : cs.length = 9) : ∃ c0 c1 c2 c3 c4 c5 c6 c7 c8, cs = [c0, c1, c2, c3, c4, c5, c6, c7, c8] := by
 match cs, h with
 | [c0, c1, c2, c3, c4, c5, c6, c7, c8], _ => exact ⟨c0, c1, c2, c3, c4, c5, c6, c7, c8, rfl⟩

/-- One field that is a number. -/
theorem field_int {H : Type} {enc : TypeId × Value → H} {W : World} {b : Nat} {sp : Nat → Bool} {hd : Bool} {n : Nat} {v : Value} {y : Option (DataW H × List MemPlace)}
  (h : DataW.trod enc Tryz.prog W b sp hd n 3 [v] = y) (hy : y.isSome = true) : ∃ a, v = .int .i64 a := by
 cases y with
 | none => cases hy
 | some x =>
  obtain ⟨a, h1, h2, h3⟩ := DataW.trod_int Tryz.underlying3 h
  simp at h1
  exact ⟨a, h1⟩

set_option maxRecDepth 100000 in
/-- A place's cells. -/
theorem open_pl {H : Type} {enc : TypeId × Value → H} {W : World} {b : Nat} {sp : Nat → Bool} {hd : Bool} {fuel : Nat} {cs : List Value} {x : DataW H × List MemPlace}
  (h : DataW.trod enc Tryz.prog W b sp hd fuel 51 cs = some x) : ∃ p q r s, cs = [.int .i64 p, .int .i64 q, .int .i64 r, .int .i64 s] := by
 obtain ⟨xs, n, _, hx, hl, hxs, hall⟩ := DataW.trod_struct Tryz.underlying51 h
 rw [tcellsPl] at hl
 have hlen : xs.length = 4 := hxs
 obtain ⟨c0, c1, c2, c3, rfl⟩ := len4 hl
 ·have f0 := hall 0 _ rfl
  have f1 := hall 1 _ rfl
  have f2 := hall 2 _ rfl
  have f3 := hall 3 _ rfl
  obtain ⟨p, rfl⟩ := field_int (v := c0) f0 (by simp [hlen])
  obtain ⟨q, rfl⟩ := field_int (v := c1) f1 (by simp [hlen])
  obtain ⟨r, rfl⟩ := field_int (v := c2) f2 (by simp [hlen])
  obtain ⟨s, rfl⟩ := field_int (v := c3) f3 (by simp [hlen])
  exact ⟨p, q, r, s, rfl⟩

set_option maxRecDepth 100000 in
/-- A node's cells. -/
theorem open_nd {H : Type} {enc : TypeId × Value → H} {W : World} {b : Nat} {sp : Nat → Bool} {hd : Bool} {fuel : Nat} {cs : List Value} {x : DataW H × List MemPlace}
  (h : DataW.trod enc Tryz.prog W b sp hd fuel 53 cs = some x) : ∃ n : Nd, cs = nd9 n := by
 obtain ⟨xs, n, _, hx, hl, hxs, hall⟩ := DataW.trod_struct Tryz.underlying53 h
 rw [tcellsN] at hl
 have hlen : xs.length = 6 := hxs
 obtain ⟨c0, c1, c2, c3, c4, c5, c6, c7, c8, rfl⟩ := len9 hl
 ·have f0 := hall 0 _ rfl
  have f1 := hall 1 _ rfl
  have f2 := hall 2 _ rfl
  have f3 := hall 3 _ rfl
  have f4 := hall 4 _ rfl
  have f5 := hall 5 _ rfl
  obtain ⟨y0, rfl⟩ := field_int (v := c0) f0 (by simp [hlen])
  obtain ⟨y1, rfl⟩ := field_int (v := c1) f1 (by simp [hlen])
  obtain ⟨y2, rfl⟩ := field_int (v := c2) f2 (by simp [hlen])
  obtain ⟨y3, rfl⟩ := field_int (v := c3) f3 (by simp [hlen])
  obtain ⟨y4, rfl⟩ := field_int (v := c4) f4 (by simp [hlen])
  obtain ⟨z, hz⟩ : ∃ z, xs[5]? = some z := ⟨xs[5], List.getElem?_eq_getElem (by omega)⟩
  rw [hz] at f5
  obtain ⟨p, q, r, s, hp⟩ := open_pl (cs := [c5, c6, c7, c8]) f5
  simp only [List.cons.injEq, and_true] at hp
  obtain ⟨rfl, rfl, rfl, rfl⟩ := hp
  exact ⟨⟨y0, y1, y2, y3, y4, p, q, r, s⟩, rfl⟩

/-- A list of texts that came in, as a field's cell. -/
theorem open_names {H : Type} {enc : TypeId × Value → H} {W : World} {fuel : Nat} {v : Value} {x : DataW H × List MemPlace}
  (h : DataW.trod enc Tryz.prog W 0 (fun _ => true) true fuel 24 [v] = some x) :
  ∃ a n c L, v = .slice a n c ∧ Tx W a n c L ∧ (∀ s ∈ L, s.length ≤ 9223372036854775807) ∧ (a = none → n = 0 ∧ c = 0) ∧ ((x.1 = .nil ∧ n = 0) ∨ ∃ els spare, x.1 = .slice els spare ∧ els.length = n) := by
 rcases open_strings Tryz.underlying24 Tryz.underlying9 tcells9 h with ⟨hcs, hx⟩ | ⟨ad, l, c', ss, hcs, _, hl, hm, hss, hx, hcell, hsz⟩
 ·simp at hcs
  exact ⟨none, 0, 0, [], hcs, ⟨rfl, Nat.le_refl _, Nat.zero_le _, .inl rfl⟩, by simp, fun _ => ⟨rfl, rfl⟩, .inl ⟨by rw [hx], rfl⟩⟩
 ·simp at hcs
  simp only [if_true] at hss
  refine ⟨some ad, l, c', (ss.take l).map bs, hcs, ⟨by rw [List.length_map, List.length_take]; omega, hl, hm, ?_⟩, ?_, (fun h => by cases h), .inr ⟨_, _, by rw [hx], ?_⟩⟩
  ·by_cases h0 : l = 0
   ·exact .inl h0
   ·obtain ⟨b, off, spot⟩ := ad
    have hspot : spot = none := by simpa [Addr.add] using World.cell?_spot (hcell 0 (by omega))
    subst hspot
    refine .inr ⟨b, off, rfl, fun i hi => ?_⟩
    have := hcell i (by omega)
    rw [Addr.add_lit] at this
    rw [this]
    have e : ((ss.take l).map bs).getD i [] = bs (ss.getD i ByteArray.empty) := by
     rw [List.getD_eq_getElem?_getD, List.getElem?_map, List.getElem?_take_of_lt hi, List.getD_eq_getElem?_getD, List.getElem?_eq_getElem (by omega)]
     rfl
    rw [e, sB_bs]
  ·intro s hs
   rw [List.mem_map] at hs
   obtain ⟨u, hu, rfl⟩ := hs
   have := hsz u (List.mem_of_mem_take hu)
   rw [bs_len]
   unfold maxLen at this
   omega
  ·simp [strs, List.length_take]
   omega

/-- A list of numbers that came in, as a field's cell. -/
theorem open_binds {H : Type} {enc : TypeId × Value → H} {W : World} {fuel : Nat} {v : Value} {x : DataW H × List MemPlace}
  (h : DataW.trod enc Tryz.prog W 0 (fun _ => true) true fuel 25 [v] = some x) :
  ∃ a n c L, v = .slice a n c ∧ Iz W a n c L ∧ (a = none → n = 0 ∧ c = 0) ∧ ((x.1 = .nil ∧ n = 0) ∨ ∃ els spare, x.1 = .slice els spare ∧ els.length = n) := by
 rcases open_ints Tryz.underlying25 Tryz.underlying3 tcells3 h with ⟨hcs, hx⟩ | ⟨ad, l, c', zs, hcs, _, hl, hm, hz, hx, hcell, hwz⟩
 ·simp at hcs
  exact ⟨none, 0, 0, [], hcs, ⟨rfl, Nat.le_refl _, Nat.zero_le _, .inl rfl⟩, fun _ => ⟨rfl, rfl⟩, .inl ⟨by rw [hx], rfl⟩⟩
 ·simp at hcs
  simp only [if_true] at hz
  refine ⟨some ad, l, c', zs.take l, hcs, ⟨by rw [List.length_take]; omega, hl, hm, ?_⟩, (fun h => by cases h), .inr ⟨_, _, by rw [hx], ?_⟩⟩
  ·by_cases h0 : l = 0
   ·exact .inl h0
   ·obtain ⟨b, off, spot⟩ := ad
    have hspot : spot = none := by simpa [Addr.add] using World.cell?_spot (hcell 0 (by omega))
    subst hspot
    refine .inr ⟨b, off, rfl, World.block_lt_of_cell? W _ (hcell 0 (by omega)), fun i hi => ?_⟩
    have := hcell i (by omega)
    rw [Addr.add_lit] at this
    rw [this]
    simp [List.getD, hi]
  ·simp [lits, List.length_take]
   omega

set_option maxRecDepth 100000 in
/-- A list of nodes that came in, as a field's cell. -/
theorem open_nodes {H : Type} {enc : TypeId × Value → H} {W : World} {fuel : Nat} {v : Value} {x : DataW H × List MemPlace}
  (h : DataW.trod enc Tryz.prog W 0 (fun _ => true) true fuel 26 [v] = some x) :
  ∃ a n c L, v = .slice a n c ∧ Nz W a n c L ∧ (a = none → n = 0 ∧ c = 0) ∧ ((x.1 = .nil ∧ n = 0) ∨ ∃ els spare, x.1 = .slice els spare ∧ els.length = n) := by
 rcases DataW.trod_slice Tryz.underlying26 h with ⟨hcs, hx⟩ | ⟨ad, l, c', elems, rest, m, _, hcs, hx, _, hl, hm, hlen, hel, -, -⟩
 ·simp at hcs
  exact ⟨none, 0, 0, [], hcs, ⟨rfl, Nat.le_refl _, Nat.zero_le _, .inl rfl⟩, fun _ => ⟨rfl, rfl⟩, .inl ⟨by rw [hx], rfl⟩⟩
 ·simp at hcs
  by_cases h0 : l = 0
  ·exact ⟨some ad, l, c', [], hcs, ⟨h0.symm, hl, hm, .inl h0⟩, (fun h => by cases h), .inr ⟨_, _, by rw [hx], by simp [hlen]⟩⟩
  obtain ⟨b, off, spot⟩ := ad
  have hspot : spot = none := by
   have h1 := hel 0 (by omega)
   rw [tcellsN, List.getElem?_eq_getElem (by omega), Option.bind_eq_some_iff] at h1
   obtain ⟨cs, hc, ht⟩ := h1
   obtain ⟨n, rfl⟩ := open_nd ht
   obtain ⟨-, hcl, hce⟩ := World.cells?_some hc
   have h2 := hce 0 (by omega)
   exact by simpa [Addr.add] using World.cell?_spot (h2.trans rfl)
  subst hspot
  have each : ∀ i, i < l → ∃ n : Nd, ∀ j v, (nd9 n)[j]? = some v → W.cell? ⟨b, off + i * 9 + j, none⟩ = some v := by
   intro i hi
   have h1 := hel i hi
   rw [tcellsN, List.getElem?_eq_getElem (by omega), Option.bind_eq_some_iff] at h1
   obtain ⟨cs, hc, ht⟩ := h1
   obtain ⟨n, rfl⟩ := open_nd ht
   obtain ⟨-, hcl, hce⟩ := World.cells?_some hc
   refine ⟨n, fun j v hj => ?_⟩
   have hj9 : j < 9 := by have := (List.getElem?_eq_some_iff.1 hj).1; omega
   have := hce j hj9
   rw [hj, Addr.add_lit, Addr.add_lit] at this
   exact this
  obtain ⟨S, hS⟩ : ∃ S : Nat → Nd, ∀ i, i < l → ∀ j v, (nd9 (S i))[j]? = some v → W.cell? ⟨b, off + i * 9 + j, none⟩ = some v := by
   refine ⟨fun i => if hi : i < l then (each i hi).choose else n0, fun i hi => ?_⟩
   simp only [dif_pos hi]
   exact (each i hi).choose_spec
  have hget : ∀ i, i < l → ((List.range l).map S).getD i n0 = S i := fun i hi => by simp [List.getD, hi]
  refine ⟨some ⟨b, off, none⟩, l, c', (List.range l).map S, hcs, ⟨by simp, hl, hm, ?_⟩, (fun h => by cases h), .inr ⟨_, _, by rw [hx], by simp [hlen]⟩⟩
  refine .inr ⟨b, off, rfl, World.block_lt_of_cell? W _ (hS 0 (by omega) 0 _ rfl), fun i hi j v hj => ?_⟩
  rw [hget i hi] at hj
  exact hS i hi j v hj

set_option maxRecDepth 100000 in
/-- A tree that came in. -/
theorem open_tree {H : Type} {enc : TypeId × Value → H} {W : World} {r : Reach} {b0 : Nat} {v : Value} {d : DataW H} {ps : List MemPlace}
  (hval : Value.okWide Tryz.prog W r b0 28 v) (h : DataW.Trod enc Tryz.prog W 0 (fun _ => true) true 28 v d ps) :
  ∃ na nl nc NM ba bl bc BS da dl dc NS root, v = .agg (tr4 (.slice na nl nc) (.slice ba bl bc) (.slice da dl dc) (.int .i64 root)) ∧ Tx W na nl nc NM ∧ (∀ s ∈ NM, s.length ≤ 9223372036854775807) ∧ Iz W ba bl bc BS ∧ Nz W da dl dc NS ∧ (na = none → nl = 0 ∧ nc = 0) ∧ (ba = none → bl = 0 ∧ bc = 0) ∧ (da = none → dl = 0 ∧ dc = 0) ∧
   ∃ e0 e1 e2 e3, d = .agg [e0, e1, e2, e3] ∧ ((e0 = .nil ∧ nl = 0) ∨ ∃ els spare, e0 = .slice els spare ∧ els.length = nl) ∧ ((e1 = .nil ∧ bl = 0) ∨ ∃ els spare, e1 = .slice els spare ∧ els.length = bl) ∧ ((e2 = .nil ∧ dl = 0) ∨ ∃ els spare, e2 = .slice els spare ∧ els.length = dl) := by
 unfold Value.okWide at hval
 rw [Tryz.underlying28] at hval
 obtain ⟨cs, rfl, hsz, _⟩ := hval
 rw [tcellsTr] at hsz
 obtain ⟨fuel, hf⟩ := h
 obtain ⟨xs, n, _, hx, hl, hxs, hall⟩ := DataW.trod_struct Tryz.underlying28 hf
 obtain ⟨c0, c1, c2, c3, rfl⟩ : ∃ c0 c1 c2 c3, cs = #[c0, c1, c2, c3] := by
  obtain ⟨l⟩ := cs
  obtain ⟨c0, c1, c2, c3, rfl⟩ := len4 (cs := l) hsz
  exact ⟨c0, c1, c2, c3, rfl⟩
 have hlen : xs.length = 4 := hxs
 obtain ⟨y0, y1, y2, y3, rfl⟩ : ∃ y0 y1 y2 y3, xs = [y0, y1, y2, y3] := by
  match xs, hlen with
  | [y0, y1, y2, y3], _ => exact ⟨y0, y1, y2, y3, rfl⟩
 have f0 := hall 0 _ rfl
 have f1 := hall 1 _ rfl
 have f2 := hall 2 _ rfl
 have f3 := hall 3 _ rfl
 simp only [Value.cells] at f0 f1 f2 f3
 obtain ⟨na, nl, nc, NM, rfl, hX, hXs, n0, g0⟩ := open_names (v := c0) f0
 obtain ⟨ba, bl, bc, BS, rfl, hB, n1, g1⟩ := open_binds (v := c1) f1
 obtain ⟨da, dl, dc, NS, rfl, hN, n2, g2⟩ := open_nodes (v := c2) f2
 obtain ⟨root, rfl⟩ := field_int (v := c3) f3 rfl
 simp only [Prod.mk.injEq] at hx
 exact ⟨na, nl, nc, NM, ba, bl, bc, BS, da, dl, dc, NS, root, rfl, hX, hXs, hB, hN, n0, n1, n2, y0.1, y1.1, y2.1, y3.1, by rw [hx.1]; rfl, g0, g1, g2⟩

theorem tbytes9 : Tryz.prog.bytesOf 9 = 16 := by kernel_rfl
theorem tbytes3 : Tryz.prog.bytesOf 3 = 8 := by kernel_rfl
theorem tbytesN : Tryz.prog.bytesOf 53 = 72 := by kernel_rfl
theorem tree_reach {H : Type} {nl bl dl : Nat} {d : DataW H} {ts : List TypeId} {ds : List (DataW H)} {e0 e1 e2 e3 : DataW H} (hd : d = .agg [e0, e1, e2, e3])
  (h0 : (e0 = .nil ∧ nl = 0) ∨ ∃ els spare, e0 = .slice els spare ∧ els.length = nl) (h1 : (e1 = .nil ∧ bl = 0) ∨ ∃ els spare, e1 = .slice els spare ∧ els.length = bl) (h2 : (e2 = .nil ∧ dl = 0) ∨ ∃ els spare, e2 = .slice els spare ∧ els.length = dl)
  (hsz : (DataW.weightsEach Tryz.prog ts ds).all (· ≤ reachBytes) = true) (j : Nat) (ht : ts[j]? = some 28) (hj : ds[j]? = some d) : (nl + 1) * 16 ≤ 140737488355328 ∧ (bl + 1) * 8 ≤ 140737488355328 ∧ (dl + 1) * 72 ≤ 140737488355328 := by
 subst hd
 refine ⟨?_, ?_, ?_⟩
 ·rcases h0 with ⟨_, rfl⟩ | ⟨els, spare, rfl, rfl⟩
  ·omega
  ·have hmem : (els.length + spare.length) * Tryz.prog.bytesOf 9 ∈ (DataW.agg [DataW.slice els spare, e1, e2, e3]).weights Tryz.prog 28 := by
    simp [DataW.weights, Tryz.underlying28, DataW.weightsEach, Tryz.underlying24]
   have := of_decide_eq_true (List.all_eq_true.1 hsz _ (DataW.weights_mem_each ht hj _ hmem))
   rw [tbytes9] at this
   simp only [reachBytes] at this
   omega
 ·rcases h1 with ⟨_, rfl⟩ | ⟨els, spare, rfl, rfl⟩
  ·omega
  ·have hmem : (els.length + spare.length) * Tryz.prog.bytesOf 3 ∈ (DataW.agg [e0, DataW.slice els spare, e2, e3]).weights Tryz.prog 28 := by
    simp [DataW.weights, Tryz.underlying28, DataW.weightsEach, Tryz.underlying25]
   have := of_decide_eq_true (List.all_eq_true.1 hsz _ (DataW.weights_mem_each ht hj _ hmem))
   rw [tbytes3] at this
   simp only [reachBytes] at this
   omega
 ·rcases h2 with ⟨_, rfl⟩ | ⟨els, spare, rfl, rfl⟩
  ·omega
  ·have hmem : (els.length + spare.length) * Tryz.prog.bytesOf 53 ∈ (DataW.agg [e0, e1, DataW.slice els spare, e3]).weights Tryz.prog 28 := by
    simp [DataW.weights, Tryz.underlying28, DataW.weightsEach, Tryz.underlying26]
   have := of_decide_eq_true (List.all_eq_true.1 hsz _ (DataW.weights_mem_each ht hj _ hmem))
   rw [tbytesN] at this
   simp only [reachBytes] at this
   omega

end Go.Proofs.YtbgmljmpmemfcaaGreat

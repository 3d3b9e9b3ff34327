/-
  Instructions in memory: what a slice of them reads as; lists of the call's own.
-/
import Derived.Test.YtlhbgkaknfhlnaaKnInts
import Derived.Test.YtlhbgkaknfhlnaaSpValue
import Derived.Laws.MakeOwn
import Derived.Deep.AppendLies
import Derived.Lib.QuietBelow
import Derived.BigQuiet
namespace Go.Proofs.Cde
open Go.RowKit Go.IntWalk Ytlhbgkaknfhlnaa.Knd
set_option linter.unusedVariables false

theorem mixed0 : Try.prog.follows .mixedOrders = true := by kernel_rfl
theorem to_below {P : Program} {f : FuncId} {args : Array Value} {V : World} {v : Value} (h : Calls P f args V fun e w' => e = .returned v ∧ w' = V) : Calls P f args V fun e w' => e = .returned v ∧ Below V.heap.size V w' :=
  h.mono fun _ _ ⟨he, hw⟩ => ⟨he, hw ▸ Below.refl _ _⟩
theorem below_drew (w : World) : Below w.heap.size w w.drew := (Below.refl _ _).drew
theorem below_dN (w : World) (q : Nat) : Below w.heap.size w (w.drewN q) := ⟨rfl, rfl, rfl, Nat.le_refl _, fun _ _ => rfl⟩
theorem take_snoc {α : Type} (z : α) {L : List α} {k : Nat} (h : k < L.length) : L.take (k + 1) = L.take k ++ [L.getD k z] := by
  rw [List.take_succ_eq_append_getElem h, List.getD_eq_getElem?_getD, List.getElem?_eq_getElem h]
  rfl
theorem getD_mem {α : Type} (z : α) {L : List α} {k : Nat} (h : k < L.length) : L.getD k z ∈ L := by
  rw [List.getD_eq_getElem?_getD, List.getElem?_eq_getElem h]
  exact List.getElem_mem _

/-- An instruction. -/
structure In where
  op : Int
  a : Int
  b : Int
  c : Int
  k : Int
  s : Int
  deriving DecidableEq
def i0 : In := ⟨0, 0, 0, 0, 0, 0⟩
abbrev ia (n : In) : Array Value := #[.int .i64 n.op, .int .i64 n.a, .int .i64 n.b, .int .i64 n.c, .int .i64 n.k, .int .i64 n.s]
def i6 (n : In) : List Value := [.int .i64 n.op, .int .i64 n.a, .int .i64 n.b, .int .i64 n.c, .int .i64 n.k, .int .i64 n.s]
def is6 (L : List In) : List Value := L.flatMap i6
abbrev kd (f d : Int) : Array Value := #[.int .i64 f, .int .i64 d]
abbrev cd (f d : Int) (a : Option Addr) (n cap : Nat) (o : Int) : Array Value := #[.int .i64 f, .int .i64 d, .slice a n cap, .int .i64 o]

theorem is6_len (L : List In) : (is6 L).length = L.length * 6 := by
  induction L with
  | nil => rfl
  | cons p L ih => simp [is6, i6] at *; omega
theorem is6_snoc (L : List In) (n : In) : is6 (L ++ [n]) = is6 L ++ i6 n := by simp [is6]
theorem is6_one (L : List In) : ∀ u ∈ is6 L, u.oneCell' = true := by
  intro u hu
  simp only [is6, List.mem_flatMap] at hu
  obtain ⟨n, _, hn⟩ := hu
  simp [i6] at hn
  rcases hn with rfl | rfl | rfl | rfl | rfl | rfl <;> rfl
theorem is6_get : ∀ (L : List In) (i : Nat), i < L.length → ∀ j v, (i6 (L.getD i i0))[j]? = some v → (is6 L)[i * 6 + j]? = some v
  | [], i, h => by simp at h
  | p :: L, 0, h => fun j v hv => by
    have hj : j < 6 := by
      rcases Nat.lt_or_ge j 6 with h | h
      · exact h
      · rw [List.getElem?_eq_none (by simpa [i6] using h)] at hv; cases hv
    simp only [is6, List.flatMap_cons, Nat.zero_mul, Nat.zero_add]
    rw [List.getElem?_append_left (by simpa [i6] using hj)]
    simpa using hv
  | p :: L, i + 1, h => fun j v hv => by
    have := is6_get L i (by simpa using h) j v (by simpa using hv)
    simp only [is6, List.flatMap_cons] at this ⊢
    rw [List.getElem?_append_right (by simp [i6]; omega)]
    rw [show (i + 1) * 6 + j - (i6 p).length = i * 6 + j by simp [i6]; omega]
    exact this

/-- The slice (a, n, cap) reads as the instructions L. -/
structure Ins (W : World) (a : Option Addr) (n cap : Nat) (L : List In) : Prop where
  len : L.length = n
  le : n ≤ cap
  max : cap ≤ maxLen
  nil : a = none → cap = 0
  cell : n = 0 ∨ ∃ b off, a = some ⟨b, off, none⟩ ∧ b < W.heap.size ∧ ∀ i, i < n → ∀ j v, (i6 (L.getD i i0))[j]? = some v → W.cell? ⟨b, off + i * 6 + j, none⟩ = some v
theorem Ins.of_owns {W : World} {base : Nat} {v : Value} {n : Nat} {L : List In} (h : W.ownsRow base 47 6 v n (is6 L)) : ∃ a cap, v = .slice a n cap ∧ Ins W a n cap L ∧ (∀ x, a = some x → base ≤ x.block ∧ x.block < W.heap.size) := by
  have hl : L.length = n := by have := h.1; rw [is6_len] at this; omega
  have hcs := fun g hg => h.cells (g := g) hg
  have hlt := h.lt
  rcases h.2 with ⟨rfl, rfl⟩ | ⟨g, cap, cur, rfl, hb, hg, hnc, hcm, hsz, htake⟩
  · exact ⟨none, 0, rfl, ⟨hl, Nat.le_refl _, Nat.zero_le _, fun _ => rfl, .inl rfl⟩, fun x hx => by cases hx⟩
  · refine ⟨some ⟨g, 0, none⟩, cap, rfl, ⟨hl, hnc, hcm, (fun h => by cases h), .inr ⟨g, 0, rfl, (hlt g rfl).2, fun i hi j u hu => ?_⟩⟩, fun x hx => by cases hx; exact hlt g rfl⟩
    have := hcs g rfl _ _ (is6_get L i (by omega) j u hu)
    rw [Addr.add_lit] at this
    rw [Nat.add_assoc]
    exact this
theorem Ins.later {W W' : World} {a : Option Addr} {n cap : Nat} {L : List In} (h : Ins W a n cap L) (hb : Below W.heap.size W W') : Ins W' a n cap L := by
  refine ⟨h.len, h.le, h.max, h.nil, ?_⟩
  rcases h.cell with h0 | ⟨b, off, ha, hlt, hc⟩
  · exact .inl h0
  · exact .inr ⟨b, off, ha, Nat.lt_of_lt_of_le hlt hb.size, fun i hi j v hv => (hb.cell (p := ⟨b, off + i * 6 + j, none⟩) hlt).trans (hc i hi j v hv)⟩
abbrev at6 (W : World) (b o : Nat) (n : In) : Prop :=
  W.cell? ⟨b, o, none⟩ = some (.int .i64 n.op) ∧ W.cell? ⟨b, o + 1, none⟩ = some (.int .i64 n.a) ∧ W.cell? ⟨b, o + 2, none⟩ = some (.int .i64 n.b) ∧ W.cell? ⟨b, o + 3, none⟩ = some (.int .i64 n.c) ∧ W.cell? ⟨b, o + 4, none⟩ = some (.int .i64 n.k) ∧ W.cell? ⟨b, o + 5, none⟩ = some (.int .i64 n.s)
theorem Ins.at {W : World} {a : Option Addr} {n cap : Nat} {L : List In} (h : Ins W a n cap L) (h0 : 0 < n) : ∃ g off, a = some ⟨g, off, none⟩ ∧ g < W.heap.size ∧ ∀ i, i < n → at6 W g (off + i * 6) (L.getD i i0) := by
  rcases h.cell with h | ⟨g, off, ha, hlt, hc⟩
  · omega
  · exact ⟨g, off, ha, hlt, fun i hi => ⟨hc i hi 0 _ rfl, hc i hi 1 _ rfl, hc i hi 2 _ rfl, hc i hi 3 _ rfl, hc i hi 4 _ rfl, hc i hi 5 _ rfl⟩⟩
theorem Ins.news {w : World} {a : Option Addr} {n cap : Nat} {L : List In} (h : Ins w a n cap L) : ∀ ad, a = some ad → ∀ j u, (is6 L)[j]? = some u → w.cell? (ad.add j) = some u := by
  intro ad ha j u hu
  have h2 := h.len
  have hj : j < n * 6 := by
    have := (List.getElem?_eq_some_iff.1 hu).1
    rw [is6_len] at this
    omega
  rcases h.cell with h0 | ⟨b, off, ha', hb, hc⟩
  · omega
  · rw [ha] at ha'
    cases ha'
    rw [Addr.add_lit]
    obtain ⟨v, hv⟩ : ∃ v, (i6 (L.getD (j / 6) i0))[j % 6]? = some v := ⟨(i6 (L.getD (j / 6) i0))[j % 6]'(by simp [i6]; omega), List.getElem?_eq_getElem _⟩
    have h3 := hc (j / 6) (by omega) (j % 6) v hv
    have h4 := is6_get L (j / 6) (by omega) (j % 6) v hv
    rw [show j / 6 * 6 + j % 6 = j by omega] at h4
    rw [h4] at hu
    cases hu
    rw [show off + j / 6 * 6 + j % 6 = off + j by omega] at h3
    exact h3
theorem Ins.take {w : World} {a : Option Addr} {n c : Nat} {L : List In} (h : Ins w a n c L) {k : Nat} (hk : k ≤ n) : Ins w a k c (L.take k) := by
  have hl := h.len
  refine ⟨by rw [List.length_take]; omega, Nat.le_trans hk h.le, h.max, h.nil, ?_⟩
  rcases h.cell with h0 | ⟨b, off, ha, hlt, hc⟩
  · exact .inl (by omega)
  · refine .inr ⟨b, off, ha, hlt, fun i hi j v hv => hc i (by omega) j v ?_⟩
    rw [List.getD_eq_getElem?_getD, List.getElem?_take_of_lt hi, ← List.getD_eq_getElem?_getD] at hv
    exact hv
theorem Ins.short {w : World} {a : Option Addr} {n c : Nat} {L : List In} (h : Ins w a n c L) : n ≤ 9223372036854775807 := by
  have := h.le; have := h.max; unfold maxLen at this; omega

/-- The numbers of a slice, as the operators' texts have them. -/
theorem spn {w : World} {a : Option Addr} {n c : Nat} {L : List Int} (h : Ints w a n c L) : Ytlhbgkaknfhlnaa.Spn.Ints w a n c L := ⟨h.len, h.le, h.max, h.nil, h.cell⟩
theorem knd {w : World} {a : Option Addr} {n c : Nat} {L : List Int} (h : Ytlhbgkaknfhlnaa.Spn.Ints w a n c L) : Ints w a n c L := ⟨h.len, h.le, h.max, h.nil, h.cell⟩

theorem two_of {W : World} {b : Nat} {t : TypeId} {x y : Value} (h : HasC W b t #[x, y]) : W.cell? ⟨b, 0, none⟩ = some x ∧ W.cell? ⟨b, 1, none⟩ = some y := ⟨h.cell 0 rfl, h.cell 1 rfl⟩
theorem four_of {W : World} {b : Nat} {t : TypeId} {x y z u : Value} (h : HasC W b t #[x, y, z, u]) : W.cell? ⟨b, 0, none⟩ = some x ∧ W.cell? ⟨b, 1, none⟩ = some y ∧ W.cell? ⟨b, 2, none⟩ = some z ∧ W.cell? ⟨b, 3, none⟩ = some u :=
  ⟨h.cell 0 rfl, h.cell 1 rfl, h.cell 2 rfl, h.cell 3 rfl⟩
theorem six_of {W : World} {b : Nat} {t : TypeId} {n : In} (h : HasC W b t (ia n)) : at6 W b 0 n := ⟨h.cell 0 rfl, h.cell 1 rfl, h.cell 2 rfl, h.cell 3 rfl, h.cell 4 rfl, h.cell 5 rfl⟩
theorem has_new1 (W : World) (o : Obj) (t : TypeId) (cs : Array Value) : HasC ((W.alloc o).alloc (.cells cs t)) (W.heap.size + 1) t cs := by
  have := HasC.new (W.alloc o) t cs
  rwa [World.size_alloc] at this

/-- Lists of numbers, cell by cell. -/
abbrev zA (L : List Int) : Array Value := (i64s L).toArray
theorem zA_get (L : List Int) (i : Nat) (h : i < L.length) : (zA L)[i]? = some (.int .i64 (L.getD i 0)) := by
  unfold zA
  rw [List.getElem?_toArray, List.getElem?_map, List.getD_eq_getElem?_getD, List.getElem?_eq_getElem h]
  rfl
theorem made_z (n : Nat) : madeCells #[.int .i64 0] (n * 1) = zA (List.replicate n 0) := by
  apply Array.ext_getElem?
  intro i
  by_cases hi : i < n
  · rw [zA_get _ _ (by simpa using hi)]
    unfold madeCells
    rw [Array.getElem?_map, Array.getElem?_eq_getElem (by simpa using hi)]
    have hz : (List.replicate n (0 : Int)).getD i 0 = 0 := by
      rw [List.getD_eq_getElem?_getD, List.getElem?_replicate]; split <;> rfl
    rw [hz]
    simp only [Array.getElem_range, Option.map_some]
    show some ((#[Value.int .i64 0])[i % 1]!) = _
    rw [Nat.mod_one]
    rfl
  · rw [Array.getElem?_eq_none (by rw [size_madeCells]; omega), Array.getElem?_eq_none (by simp; omega)]
theorem make_z (n : Nat) (h : n ≤ 1024) (w : World) : (Instr.makeSlice 27 (.int .i64 n) (.int .i64 n)).run Try.prog w = .ok (.slice (some ⟨w.heap.size, 0, none⟩) n n) (w.alloc (.cells (zA (List.replicate n 0)) 3)) := by
  obtain ⟨i0, hi, hz0, hz1, hz2⟩ := info_parts info3
  have := run_make w 27 3 i0 _ Try.underlying27 hi hz0 .i64 .i64 n n (by omega) (Int.le_refl _) (by rw [hz2]; omega) (by omega)
  rw [hz1] at this
  simp only [Int.toNat_natCast] at this
  have e : madeCells (Value.int .i64 0).cells (n * 1) = zA (List.replicate n 0) := made_z n
  rw [e] at this
  exact this
theorem put_z {W : World} {g k : Nat} {D Z : List Int} {q : Int} (h : HasC W g 3 (zA (D ++ q :: Z))) (hk : D.length = k) (x : Int) : HasC (W.setCell ⟨g, k, none⟩ (.int .i64 x)) g 3 (zA (D ++ x :: Z)) := by
  subst hk
  have := h.set D.length (.int .i64 x)
  have e : (zA (D ++ q :: Z)).setIfInBounds D.length (.int .i64 x) = zA (D ++ x :: Z) := by
    apply Array.toList_inj.1
    simp only [Array.toList_setIfInBounds, List.map_append, List.map_cons]
    rw [List.set_append_right _ _ (by simp)]
    simp
  rwa [e] at this
theorem set_z {W : World} {g k : Nat} {D : List Int} (h : HasC W g 3 (zA D)) (x : Int) : HasC (W.setCell ⟨g, k, none⟩ (.int .i64 x)) g 3 (zA (D.set k x)) := by
  have := h.set k (.int .i64 x)
  have e : (zA D).setIfInBounds k (.int .i64 x) = zA (D.set k x) := by
    apply Array.toList_inj.1
    simp [List.map_set]
  rwa [e] at this
theorem has_z {W : World} {g : Nat} {L : List Int} (h : HasC W g 3 (zA L)) (hl : L.length ≤ 1024) : Ints W (some ⟨g, 0, none⟩) L.length L.length L := by
  refine ⟨rfl, Nat.le_refl _, by unfold maxLen; omega, (fun h => by cases h), .inr ⟨g, 0, rfl, fun i hi => ?_⟩⟩
  rw [Nat.zero_add]
  exact h.cell i (zA_get L i hi)
theorem z_owns {W : World} {base g : Nat} {L : List Int} (h : HasC W g 3 (zA L)) (hb : base ≤ g) (hl : L.length ≤ 1024) : W.ownsRow base 3 1 (.slice (some ⟨g, 0, none⟩) L.length L.length) L.length (i64s L) := by
  refine ⟨by simp, .inr ⟨g, L.length, zA L, rfl, hb, h, Nat.le_refl _, by unfold maxLen; omega, by simp, ?_⟩⟩
  simp
  exact List.take_of_length_le (by simp)
theorem getD_pre {S Z : List Int} {i : Nat} (h : i < S.length) : (S ++ Z).getD i 0 = S.getD i 0 := by
  rw [List.getD_eq_getElem?_getD, List.getElem?_append_left h, ← List.getD_eq_getElem?_getD]
theorem rep_succ {n k : Nat} (h : k < n) : List.replicate (n - k) (0 : Int) = 0 :: List.replicate (n - (k + 1)) 0 := by
  rw [show n - k = (n - (k + 1)) + 1 by omega, List.replicate_succ]

/-- A list of numbers in memory of the call's own. -/
structure Ls (w W : World) (v : Value) (L : List Int) : Prop where
  a : W.ownsRow w.heap.size 3 1 v L.length (i64s L)
  bel : Below w.heap.size w W
theorem Ls.alloc {w W : World} {v : Value} {L : List Int} (h : Ls w W v L) (o : Obj) : Ls w (W.alloc o) v L := ⟨h.a.alloc o, h.bel.alloc h.bel.size o⟩
theorem Ls.drew {w W : World} {v : Value} {L : List Int} (h : Ls w W v L) : Ls w W.drew v L := ⟨h.a.drew, h.bel.drew⟩
theorem Ls.start (W : World) : Ls W W (.slice none 0 0) [] := ⟨⟨rfl, .inl ⟨rfl, rfl⟩⟩, Below.refl _ _⟩
theorem Ls.later {w W W' : World} {v : Value} {L : List Int} (h : Ls w W v L) (hb : Below W.heap.size W W') : Ls w W' v L := by
  have hg : W.grownBy W' none := ⟨hb.os, hb.tape, hb.output, hb.size, fun k hk _ => hb.block k hk⟩
  refine ⟨h.a.kept hg ?_, h.bel.trans (hb.mono h.bel.size)⟩
  cases hv : v.ownBlock with
  | none => exact .inl rfl
  | some q => exact .inr (by simp)
theorem owns_block {W : World} {base : Nat} {e : TypeId} {size : Nat} {v : Value} {n : Nat} {xs : List Value} (h : W.ownsRow base e size v n xs) : ∀ k, v.ownBlock = some k → base ≤ k ∧ ∃ cs fr, W.heap[k]? = some (.cells cs e fr) := by
  intro k hk
  rcases h.2 with ⟨rfl, _⟩ | ⟨g, cap, cur, rfl, hb, hgg, rest⟩
  · simp [Value.ownBlock] at hk
  · simp [Value.ownBlock] at hk
    subst hk
    exact ⟨hb, _, _, hgg⟩
theorem own_mono {w : World} {base base' : Nat} {e : TypeId} {size : Nat} {v : Value} {n : Nat} {xs : List Value} (h : w.ownsRow base e size v n xs) (hb : base' ≤ base) : w.ownsRow base' e size v n xs := by
  obtain ⟨h1, h2⟩ := h
  refine ⟨h1, ?_⟩
  rcases h2 with h2 | ⟨g, cap, cur, hv, hg, rest⟩
  · exact .inl h2
  · exact .inr ⟨g, cap, cur, hv, Nat.le_trans hb hg, rest⟩
theorem own_later {V V' : World} {lo n : Nat} {e : TypeId} {size : Nat} {v : Value} {xs : List Value} (h : V.ownsRow lo e size v n xs) (hb : Below V.heap.size V V') : V'.ownsRow lo e size v n xs := by
  have hg : V.grownBy V' none := ⟨hb.os, hb.tape, hb.output, hb.size, fun k hk _ => hb.block k hk⟩
  refine h.kept hg ?_
  cases hv : v.ownBlock with
  | none => exact .inl rfl
  | some q => exact .inr (by simp)
theorem news_one {W : World} {q : Nat} {t : TypeId} {x : Value} (h : HasC W q t #[x]) : ∀ j u, [x][j]? = some u → W.cell? ((⟨q, 0, none⟩ : Addr).add j) = some u := by
  intro j u hu
  have hj : j = 0 := by
    by_cases hj : j = 0
    · exact hj
    · simp [hj] at hu
  subst hj
  simp at hu
  subst hu
  rw [Addr.add_lit]
  exact h.cell 0 rfl
theorem list_ls {w W : World} {v : Value} {L : List Int} {ops : Array Oper} {rest : List Oper} {o : Oper} {a : Act} {Q : Exit → Act → World → Prop}
    (hgd : o.guard = none) (s x : Operand) (ho : o.op = .call { callee := .builtin .append, args := #[s, x], argTypes := #[27, 27] })
    (hs : a.eval s = v) (hen : Ls w W v L) (b : Nat) (p : Int) (hx : a.eval x = .slice (some ⟨b, 0, none⟩) 1 1) (hc : HasC W b 3 #[.int .i64 p]) (h3 : L.length ≤ 2000000)
    (h : ∀ g cap w', Ls w w' (.slice (some ⟨g, 0, none⟩) (L.length + 1) cap) (L ++ [p]) → wpList Try.prog ops Q rest (a.put o.dst (.slice (some ⟨g, 0, none⟩) (L.length + 1) cap)) w') :
    wpList Try.prog ops Q (o :: rest) a W := by
  obtain ⟨i0, hi0, hz0, hz1, hz2⟩ := info_parts info3
  refine wpList_append_lies W hgd s x 27 ho w.heap.size 3 i0 _ 1 8 Try.underlying27 hi0 hz0 hz1 hz2 rfl (by omega) v L.length (i64s L) hs hen.a ⟨b, 0, none⟩ 1 1 [.int .i64 p] hx rfl (news_one hc) (by simp [Value.oneCell']) (by omega) (by unfold maxLen; omega) (by omega) hen.bel.size W.heap.size rfl ?_
  intro g cap w' hown hgrow hat hlt
  exact h g cap w' ⟨by rw [List.length_append]; simpa using hown, hen.bel.grown hgrow hen.bel.size fun k hk => (owns_block hen.a k hk).1⟩

theorem tw_ints {w V : World} {a : Option Addr} {c : Nat} {D : List Int} (h : V.ownsRow w.heap.size 3 1 (.slice a D.length c) D.length (i64s D)) : Ints V a D.length c D := by
  obtain ⟨a', c', e, hi, -⟩ := Ints.of_owns h
  cases e
  exact hi

/-- What an operator costs. -/
def coZ (o : Int) : Int := if o = 4 then 0 else if o = 11 then 4 else if o = 12 then 6 else 1
theorem coZ_le (o : Int) : 0 ≤ coZ o ∧ coZ o ≤ 6 := by
  unfold coZ
  split
  · omega
  · split
    · omega
    · split <;> omega

end Go.Proofs.Cde

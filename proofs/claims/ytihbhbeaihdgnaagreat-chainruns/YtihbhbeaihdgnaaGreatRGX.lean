/-
  Instructions in memory: what a slice of them reads as; lists of the call's own.
-/
import Derived.Test.YtihbhbeaihdgnaaGreatRGB
import Derived.Test.YtihbhbeaihdgnaaGreatRGF
import Derived.Laws.MakeOwn
import Derived.Deep.AppendLies
import Derived.Lib.QuietBelow
import Derived.BigQuiet
namespace Go.Proofs.Cde
open Go.RowKit Go.IntWalk YtihbhbeaihdgnaaGreat.Knd
set_option linter.unusedVariables false

theorem mixed0 : Tryz.prog.follows .mixedOrders = true := by kernel_rfl
theorem to_below {P : Program} {f : FuncId} {args : Array Value} {V : World} {v : Value} (h : Calls P f args V fun e w' => e = .returned v ∧ w' = V) : Calls P f args V fun e w' => e = .returned v ∧ Below V.heap.size V w' :=
  h.mono fun _ _ ⟨he, hw⟩ => ⟨he, hw ▸ Below.refl _ _⟩
theorem below_drew (w : World) : Below w.heap.size w w.drew := (Below.refl _ _).drew
theorem below_dN (w : World) (q : Nat) : Below w.heap.size w (w.drewN q) := ⟨rfl, rfl, rfl, Nat.le_refl _, fun _ _ => rfl⟩
theorem take_snoc {α : Type} (z : α) {L : List α} {k : Nat} (h : k < L.length) : L.take (k + 1) = L.take k ++ [L.getD k z] := by
  rw [List.take_succ_eq_append_getElem h, List.getD_eq_getElem?_getD, List.getElem?_eq_getElem h]
  rfl
theorem getD_mem {α : Type} (z : α) {L : List α} {k : Nat} (h : k < L.length) : L.getD k z ∈ L := by
  rw [List.getD_eq_getElem?_getD, List.getElem?_eq_getElem h]
  exact List.getElem_mem _

/-- An instruction. -/
structure In where
  op : Int
  a : Int
  b : Int
  c : Int
  k : Int
  s : Int
  deriving DecidableEq
def i0 : In := ⟨0, 0, 0, 0, 0, 0⟩
abbrev ia (n : In) : Array Value := #[.int .i64 n.op, .int .i64 n.a, .int .i64 n.b, .int .i64 n.c, .int .i64 n.k, .int .i64 n.s]
def i6 (n : In) : List Value := [.int .i64 n.op, .int .i64 n.a, .int .i64 n.b, .int .i64 n.c, .int .i64 n.k, .int .i64 n.s]
def is6 (L : List In) : List Value := L.flatMap i6
abbrev kd (f d : Int) : Array Value := #[.int .i64 f, .int .i64 d]
abbrev cd (f d : Int) (a : Option Addr) (n cap : Nat) (o : Int) : Array Value := #[.int .i64 f, .int .i64 d, .slice a n cap, .int .i64 o]

theorem is6_len (L : List In) : (is6 L).length = L.length * 6 := by
  induction L with
  | nil => rfl
  | cons p L ih => simp [is6, i6] at *; omega
theorem is6_snoc (L : List In) (n : In) : is6 (L ++ [n]) = is6 L ++ i6 n := by simp [is6]
theorem is6_one (L : List In) : ∀ u ∈ is6 L, u.oneCell' = true := by
  intro u hu
  simp only [is6, List.mem_flatMap] at hu
  obtain ⟨n, _, hn⟩ := hu
  simp [i6] at hn
  rcases hn with rfl | rfl | rfl | rfl | rfl | rfl <;> rfl
theorem is6_get : ∀ (L : List In) (i : Nat), i < L.length → ∀ j v, (i6 (L.getD i i0))[j]? = some v → (is6 L)[i * 6 + j]? = some v
  | [], i, h => by simp at h
  | p :: L, 0, h => fun j v hv => by
    have hj : j < 6 := by
      rcases Nat.lt_or_ge j 6 with h | h
      · exact h
      · rw [List.getElem?_eq_none (by simpa [i6] using h)] at hv; cases hv
    simp only [is6, List.flatMap_cons, Nat.zero_mul, Nat.zero_add]
    rw [List.getElem?_append_left (by simpa [i6] using hj)]
    simpa using hv
  | p :: L, i + 1, h => fun j v hv => by
    have := is6_get L i (by simpa using h) j v (by simpa using hv)
    simp only [is6, List.flatMap_cons] at this ⊢
    rw [List.getElem?_append_right (by simp [i6]; omega)]
    rw [show (i + 1) * 6 + j - (i6 p).length = i * 6 + j by simp [i6]; omega]
    exact this

/-- The slice (a, n, cap) reads as the instructions L. -/
structure Ins (W : World) (a : Option Addr) (n cap : Nat) (L : List In) : Prop where
  len : L.length = n
  le : n ≤ cap
  max : cap ≤ maxLen
  nil : a = none → cap = 0
  cell : n = 0 ∨ ∃ b off, a = some ⟨b, off, none⟩ ∧ b < W.heap.size ∧ ∀ i, i < n → ∀ j v, (i6 (L.getD i i0))[j]? = some v → W.cell? ⟨b, off + i * 6 + j, none⟩ = some v
theorem Ins.of_owns {W : World} {base : Nat} {v : Value} {n : Nat} {L : List In} (h : W.ownsRow base 41 6 v n (is6 L)) : ∃ a cap, v = .slice a n cap ∧ Ins W a n cap L ∧ (∀ x, a = some x → base ≤ x.block ∧ x.block < W.heap.size) := by
  have hl : L.length = n := by have := h.1; rw [is6_len] at this; omega
  have hcs := fun g hg => h.cells (g := g) hg
  have hlt := h.lt
  rcases h.2 with ⟨rfl, rfl⟩ | ⟨g, cap, cur, rfl, hb, hg, hnc, hcm, hsz, htake⟩
  · exact ⟨none, 0, rfl, ⟨hl, Nat.le_refl _, Nat.zero_le _, fun _ => rfl, .inl rfl⟩, fun x hx => by cases hx⟩
  · refine ⟨some ⟨g, 0, none⟩, cap, rfl, ⟨hl, hnc, hcm, (fun h => by cases h), .inr ⟨g, 0, rfl, (hlt g rfl).2, fun i hi j u hu => ?_⟩⟩, fun x hx => by cases hx; exact hlt g rfl⟩
    have := hcs g rfl _ _ (is6_get L i (by omega) j u hu)
    rw [Addr.add_lit] at this
    rw [Nat.add_assoc]
    exact this
theorem Ins.later {W W' : World} {a : Option Addr} {n cap : Nat} {L : List In} (h : Ins W a n cap L) (hb : Below W.heap.size W W') : Ins W' a n cap L := by
  refine ⟨h.len, h.le, h.max, h.nil, ?_⟩
  rcases h.cell with h0 | ⟨b, off, ha, hlt, hc⟩
  · exact .inl h0
  · exact .inr ⟨b, off, ha, Nat.lt_of_lt_of_le hlt hb.size, fun i hi j v hv => (hb.cell (p := ⟨b, off + i * 6 + j, none⟩) hlt).trans (hc i hi j v hv)⟩
abbrev at6 (W : World) (b o : Nat) (n : In) : Prop :=
  W.cell? ⟨b, o, none⟩ = some (.int .i64 n.op) ∧ W.cell? ⟨b, o + 1, none⟩ = some (.int .i64 n.a) ∧ W.cell? ⟨b, o + 2, none⟩ = some (.int .i64 n.b) ∧ W.cell? ⟨b, o + 3, none⟩ = some (.int .i64 n.c) ∧ W.cell? ⟨b, o + 4, none⟩ = some (.int .i64 n.k) ∧ W.cell? ⟨b, o + 5, none⟩ = some (.int .i64 n.s)
theorem Ins.at {W : World} {a : Option Addr} {n cap : Nat} {L : List In} (h : Ins W a n cap L) (h0 : 0 < n) : ∃ g off, a = some ⟨g, off, none⟩ ∧ g < W.heap.size ∧ ∀ i, i < n → at6 W g (off + i * 6) (L.getD i i0) := by
  rcases h.cell with h | ⟨g, off, ha, hlt, hc⟩
  · omega
  · exact ⟨g, off, ha, hlt, fun i hi => ⟨hc i hi 0 _ rfl, hc i hi 1 _ rfl, hc i hi 2 _ rfl, hc i hi 3 _ rfl, hc i hi 4 _ rfl, hc i hi 5 _ rfl⟩⟩
theorem Ins.news {w : World} {a : Option Addr} {n cap : Nat} {L : List In} (h : Ins w a n cap L) : ∀ ad, a = some ad → ∀ j u, (is6 L)[j]? = some u → w.cell? (ad.add j) = some u := by
  intro ad ha j u hu
  have h2 := h.len
  have hj : j < n * 6 := by
    have := (List.getElem?_eq_some_iff.1 hu).1
    rw [is6_len] at this
    omega
  rcases h.cell with h0 | ⟨b, off, ha', hb, hc⟩
  · omega
  · rw [ha] at ha'
    cases ha'
    rw [Addr.add_lit]
    obtain ⟨v, hv⟩ : ∃ v, (i6 (L.getD (j / 6) i0))[j % 6]? = some v := ⟨(i6 (L.getD (j / 6) i0))[j % 6]'(by simp [i6]; omega), List.getElem?_eq_getElem _⟩
    have h3 := hc (j / 6) (by omega) (j % 6) v hv
    have h4 := is6_get L (j / 6) (by omega) (j % 6) v hv
    rw [show j / 6 * 6 + j % 6 = j by omega] at h4
    rw [h4] at hu
    cases hu
    rw [show off + j / 6 * 6 + j % 6 = off + j by omega] at h3
    exact h3
theorem Ins.take {w : World} {a : Option Addr} {n c : Nat} {L : List In} (h : Ins w a n c L) {k : Nat} (hk : k ≤ n) : Ins w a k c (L.take k) := by
  have hl := h.len
  refine ⟨by rw [List.length_take]; omega, Nat.le_trans hk h.le, h.max, h.nil, ?_⟩
  rcases h.cell with h0 | ⟨b, off, ha, hlt, hc⟩
  · exact .inl (by omega)
  · refine .inr ⟨b, off, ha, hlt, fun i hi j v hv => hc i (by omega) j v ?_⟩
    rw [List.getD_eq_getElem?_getD, List.getElem?_take_of_lt hi, ← List.getD_eq_getElem?_getD] at hv
    exact hv
theorem Ins.short {w : World} {a : Option Addr} {n c : Nat} {L : List In} (h : Ins w a n c L) : n ≤ 9223372036854775807 := by
  have := h.le; have := h.max; unfold maxLen at this; omega

/-- The numbers of a slice, as the operators' texts have them. -/
theorem spn {w : World} {a : Option Addr} {n c : Nat} {L : List Int} (h : Ints w a n c L) : YtihbhbeaihdgnaaGreat.Spn.Ints w a n c L := ⟨h.len, h.le, h.max, h.nil, h.cell⟩
theorem knd {w : World} {a : Option Addr} {n c : Nat} {L : List Int} (h : YtihbhbeaihdgnaaGreat.Spn.Ints w a n c L) : Ints w a n c L := ⟨h.len, h.le, h.max, h.nil, h.cell⟩

theorem two_of {W : World} {b : Nat} {t : TypeId} {x y : Value} (h : HasC W b t #[x, y]) : W.cell? ⟨b, 0, none⟩ = some x ∧ W.cell? ⟨b, 1, none⟩ = some y := ⟨h.cell 0 rfl, h.cell 1 rfl⟩
theorem four_of {W : World} {b : Nat} {t : TypeId} {x y z u : Value} (h : HasC W b t #[x, y, z, u]) : W.cell? ⟨b, 0, none⟩ = some x ∧ W.cell? ⟨b, 1, none⟩ = some y ∧ W.cell? ⟨b, 2, none⟩ = some z ∧ W.cell? ⟨b, 3, none⟩ = some u :=
  ⟨h.cell 0 rfl, h.cell 1 rfl, h.cell 2 rfl, h.cell 3 rfl⟩
theorem six_of {W : World} {b : Nat} {t : TypeId} {n : In} (h : HasC W b t (ia n)) : at6 W b 0 n := ⟨h.cell 0 rfl, h.cell 1 rfl, h.cell 2 rfl, h.cell 3 rfl, h.cell 4 rfl, h.cell 5 rfl⟩
theorem has_new1 (W : World) (o : Obj) (t : TypeId) (cs : Array Value) : HasC ((W.alloc o).alloc (.cells cs t)) (W.heap.size + 1) t cs := by
  have := HasC.new (W.alloc o) t cs
  rwa [World.size_alloc] at this

/-- Lists of numbers, cell by cell. -/
abbrev zA (L : List Int) : Array Value := (i64s L).toArray
theorem zA_get (L : List Int) (i : Nat) (h : i < L.length) : (zA L)[i]? = some (.int .i64 (L.getD i 0)) := by
  unfold zA
  rw [List.getElem?_toArray, List.getElem?_map, List.getD_eq_getElem?_getD, List.getElem?_eq_getElem h]
  rfl
theorem made_z (n : Nat) : madeCells #[.int .i64 0] (n * 1) = zA (List.replicate n 0) := by
  apply Array.ext_getElem?
  intro i
  by_cases hi : i < n
  · rw [zA_get _ _ (by simpa using hi)]
    unfold madeCells
    rw [Array.getElem?_map, Array.getElem?_eq_getElem (by simpa using hi)]
    have hz : (List.replicate n (0 : Int)).getD i 0 = 0 := by
      rw [List.getD_eq_getElem?_getD, List.getElem?_replicate]; split <;> rfl
    rw [hz]
    simp only [Array.getElem_range, Option.map_some]
    show some ((#[Value.int .i64 0])[i % 1]!) = _
    rw [Nat.mod_one]
    rfl
  · rw [Array.getElem?_eq_none (by rw [size_madeCells]; omega), Array.getElem?_eq_none (by simp; omega)]
theorem make_z (n : Nat) (h : n ≤ 1024) (w : World) : (Instr.makeSlice 42 (.int .i64 n) (.int .i64 n)).run Tryz.prog w = .ok (.slice (some ⟨w.heap.size, 0, none⟩) n n) (w.alloc (.cells (zA (List.replicate n 0)) 3)) := by
  obtain ⟨i0, hi, hz0, hz1, hz2⟩ := info_parts info3
  have := run_make w 42 3 i0 _ Tryz.underlying42 hi hz0 .i64 .i64 n n (by omega) (Int.le_refl _) (by rw [hz2]; omega) (by omega)
  rw [hz1] at this
  simp only [Int.toNat_natCast] at this
  have e : madeCells (Value.int .i64 0).cells (n * 1) = zA (List.replicate n 0) := made_z n
  rw [e] at this
  exact this
theorem put_z {W : World} {g k : Nat} {D Z : List Int} {q : Int} (h : HasC W g 3 (zA (D ++ q :: Z))) (hk : D.length = k) (x : Int) : HasC (W.setCell ⟨g, k, none⟩ (.int .i64 x)) g 3 (zA (D ++ x :: Z)) := by
  subst hk
  have := h.set D.length (.int .i64 x)
  have e : (zA (D ++ q :: Z)).setIfInBounds D.length (.int .i64 x) = zA (D ++ x :: Z) := by
    apply Array.toList_inj.1
    simp only [Array.toList_setIfInBounds, List.map_append, List.map_cons]
    rw [List.set_append_right _ _ (by simp)]
    simp
  rwa [e] at this
theorem set_z {W : World} {g k : Nat} {D : List Int} (h : HasC W g 3 (zA D)) (x : Int) : HasC (W.setCell ⟨g, k, none⟩ (.int .i64 x)) g 3 (zA (D.set k x)) := by
  have := h.set k (.int .i64 x)
  have e : (zA D).setIfInBounds k (.int .i64 x) = zA (D.set k x) := by
    apply Array.toList_inj.1
    simp [List.map_set]
  rwa [e] at this
theorem has_z {W : World} {g : Nat} {L : List Int} (h : HasC W g 3 (zA L)) (hl : L.length ≤ 1024) : Ints W (some ⟨g, 0, none⟩) L.length L.length L := by
  refine ⟨rfl, Nat.le_refl _, by unfold maxLen; omega, (fun h => by cases h), .inr ⟨g, 0, rfl, fun i hi => ?_⟩⟩
  rw [Nat.zero_add]
  exact h.cell i (zA_get L i hi)
theorem z_owns {W : World} {base g : Nat} {L : List Int} (h : HasC W g 3 (zA L)) (hb : base ≤ g) (hl : L.length ≤ 1024) : W.ownsRow base 3 1 (.slice (some ⟨g, 0, none⟩) L.length L.length) L.length (i64s L) := by
  refine ⟨by simp, .inr ⟨g, L.length, zA L, rfl, hb, h, Nat.le_refl _, by unfold maxLen; omega, by simp, ?_⟩⟩
  simp
  exact List.take_of_length_le (by simp)
theorem getD_pre {S Z : List Int} {i : Nat} (h : i < S.length) : (S ++ Z).getD i 0 = S.getD i 0 := by
  rw [List.getD_eq_getElem?_getD, List.getElem?_append_left h, ← List.getD_eq_getElem?_getD]
theorem rep_succ {n k : Nat} (h : k < n) : List.replicate (n - k) (0 : Int) = 0 :: List.replicate (n - (k + 1)) 0 := by
  rw [show n - k = (n - (k + 1)) + 1 by omega, List.replicate_succ]

/-- A list of numbers in memory of the call's own. -/
structure Ls (w W : World) (v : Value) (L : List Int) : Prop where
  a : W.ownsRow w.heap.size 3 1 v L.length (i64s L)
  bel : Below w.heap.size w W
theorem Ls.alloc {w W : World} {v : Value} {L : List Int} (h : Ls w W v L) (o : Obj) : Ls w (W.alloc o) v L := ⟨h.a.alloc o, h.bel.alloc h.bel.size o⟩
theorem Ls.drew {w W : World} {v : Value} {L : List Int} (h : Ls w W v L) : Ls w W.drew v L := ⟨h.a.drew, h.bel.drew⟩
theorem Ls.start (W : World) : Ls W W (.slice none 0 0) [] := ⟨⟨rfl, .inl ⟨rfl, rfl⟩⟩, Below.refl _ _⟩
theorem Ls.later {w W W' : World} {v : Value} {L : List Int} (h : Ls w W v L) (hb : Below W.heap.size W W') : Ls w W' v L := by
  have hg : W.grownBy W' none := ⟨hb.os, hb.tape, hb.output, hb.size, fun k hk _ => hb.block k hk⟩
  refine ⟨h.a.kept hg ?_, h.bel.trans (hb.mono h.bel.size)⟩
  cases hv : v.ownBlock with
  | none => exact .inl rfl
  | some q => exact .inr (by simp)
theorem owns_block {W : World} {base : Nat} {e : TypeId} {size : Nat} {v : Value} {n : Nat} {xs : List Value} (h : W.ownsRow base e size v n xs) : ∀ k, v.ownBlock = some k → base ≤ k ∧ ∃ cs fr, W.heap[k]? = some (.cells cs e fr) := by
  intro k hk
  rcases h.2 with ⟨rfl, _⟩ | ⟨g, cap, cur, rfl, hb, hgg, rest⟩
  · simp [Value.ownBlock] at hk
  · simp [Value.ownBlock] at hk
    subst hk
    exact ⟨hb, _, _, hgg⟩
theorem own_mono {w : World} {base base' : Nat} {e : TypeId} {size : Nat} {v : Value} {n : Nat} {xs : List Value} (h : w.ownsRow base e size v n xs) (hb : base' ≤ base) : w.ownsRow base' e size v n xs := by
  obtain ⟨h1, h2⟩ := h
  refine ⟨h1, ?_⟩
  rcases h2 with h2 | ⟨g, cap, cur, hv, hg, rest⟩
  · exact .inl h2
  · exact .inr ⟨g, cap, cur, hv, Nat.le_trans hb hg, rest⟩
theorem own_later {V V' : World} {lo n : Nat} {e : TypeId} {size : Nat} {v : Value} {xs : List Value} (h : V.ownsRow lo e size v n xs) (hb : Below V.heap.size V V') : V'.ownsRow lo e size v n xs := by
  have hg : V.grownBy V' none := ⟨hb.os, hb.tape, hb.output, hb.size, fun k hk _ => hb.block k hk⟩
  refine h.kept hg ?_
  cases hv : v.ownBlock with
  | none => exact .inl rfl
  | some q => exact .inr (by simp)
theorem news_one {W : World} {q : Nat} {t : TypeId} {x : Value} (h : HasC W q t #[x]) : ∀ j u, [x][j]? = some u → W.cell? ((⟨q, 0, none⟩ : Addr).add j) = some u := by
  intro j u hu
  have hj : j = 0 := by
    by_cases hj : j = 0
    · exact hj
    · simp [hj] at hu
  subst hj
  simp at hu
  subst hu
  rw [Addr.add_lit]
  exact h.cell 0 rfl
theorem list_ls {w W : World} {v : Value} {L : List Int} {ops : Array Oper} {rest : List Oper} {o : Oper} {a : Act} {Q : Exit → Act → World → Prop}
    (hgd : o.guard = none) (s x : Operand) (ho : o.op = .call { callee := .builtin .append, args := #[s, x], argTypes := #[42, 42] })
    (hs : a.eval s = v) (hen : Ls w W v L) (b : Nat) (p : Int) (hx : a.eval x = .slice (some ⟨b, 0, none⟩) 1 1) (hc : HasC W b 3 #[.int .i64 p]) (h3 : L.length ≤ 2000000)
    (h : ∀ g cap w', Ls w w' (.slice (some ⟨g, 0, none⟩) (L.length + 1) cap) (L ++ [p]) → wpList Tryz.prog ops Q rest (a.put o.dst (.slice (some ⟨g, 0, none⟩) (L.length + 1) cap)) w') :
    wpList Tryz.prog ops Q (o :: rest) a W := by
  obtain ⟨i0, hi0, hz0, hz1, hz2⟩ := info_parts info3
  refine wpList_append_lies W hgd s x 42 ho w.heap.size 3 i0 _ 1 8 Tryz.underlying42 hi0 hz0 hz1 hz2 rfl (by omega) v L.length (i64s L) hs hen.a ⟨b, 0, none⟩ 1 1 [.int .i64 p] hx rfl (news_one hc) (by simp [Value.oneCell']) (by omega) (by unfold maxLen; omega) (by omega) hen.bel.size W.heap.size rfl ?_
  intro g cap w' hown hgrow hat hlt
  exact h g cap w' ⟨by rw [List.length_append]; simpa using hown, hen.bel.grown hgrow hen.bel.size fun k hk => (owns_block hen.a k hk).1⟩

theorem tw_ints {w V : World} {a : Option Addr} {c : Nat} {D : List Int} (h : V.ownsRow w.heap.size 3 1 (.slice a D.length c) D.length (i64s D)) : Ints V a D.length c D := by
  obtain ⟨a', c', e, hi, -⟩ := Ints.of_owns h
  cases e
  exact hi

/-- What an operator costs. -/
def coZ (o : Int) : Int := if o = 4 then 0 else if o = 11 then 4 else if o = 12 then 6 else 1
theorem coZ_le (o : Int) : 0 ≤ coZ o ∧ coZ o ≤ 6 := by
  unfold coZ
  split
  · omega
  · split
    · omega
    · split <;> omega

end Go.Proofs.Cde

/-
  The small functions of package code: within, registers, constants; what an operator costs.
-/
namespace Go.Proofs.Cde
open Go.RowKit Go.IntWalk YtihbhbeaihdgnaaGreat.Knd
set_option linter.unusedVariables false

theorem ret_b {a b : Bool} (h : a = b) : Ending.returned (.bool a) = .returned (.bool b) := by rw [h]

set_option maxHeartbeats 1000000 in
theorem cwithin_any (x lo hi : Int) (w : World) :
    Calls Tryz.prog 124 #[.int .i64 x, .int .i64 lo, .int .i64 hi] w fun e w' => e = .returned (.bool (YtihbhbeaihdgnaaGreat.Spn.inB x lo hi)) ∧ w' = w := by
  by_cases h1 : lo ≤ x
  · go_enter Tryz.func124, Tryz.ntmps124
    go_wp2
    go_ret
    exact ⟨ret_b (by simp [YtihbhbeaihdgnaaGreat.Spn.inB, h1]), rfl⟩
  · rw [show YtihbhbeaihdgnaaGreat.Spn.inB x lo hi = false from YtihbhbeaihdgnaaGreat.Spn.inB_f (by omega)]
    go_enter Tryz.func124, Tryz.ntmps124
    go_wp2
    go_ret
    exact ⟨rfl, rfl⟩

set_option maxHeartbeats 1000000 in
theorem cost_any (o : Int) (W : World) : Calls Tryz.prog 79 #[.int .i64 o] W fun e W' => e = .returned (.int .i64 (coZ o)) ∧ W' = W := by
  by_cases h1 : o = 4
  · subst h1
    go_enter Tryz.func79, Tryz.ntmps79
    go_wp2
    go_ret
    exact ⟨rfl, rfl⟩
  by_cases h2 : o = 11
  · subst h2
    go_enter Tryz.func79, Tryz.ntmps79
    go_wp2
    go_ret
    exact ⟨rfl, rfl⟩
  by_cases h3 : o = 12
  · subst h3
    go_enter Tryz.func79, Tryz.ntmps79
    go_wp2
    go_ret
    exact ⟨rfl, rfl⟩
  have e : coZ o = 1 := by unfold coZ; rw [if_neg h1, if_neg h2, if_neg h3]
  rw [e]
  have e1 : (o == 4) = false := by simpa using h1
  have e2 : (o == 11) = false := by simpa using h2
  have e3 : (o == 12) = false := by simpa using h3
  clear h1 h2 h3 e
  go_enter Tryz.func79, Tryz.ntmps79
  go_wp2
  go_ret
  exact ⟨rfl, rfl⟩

/-- One register of an instruction. -/
def rgB (r : Int) (used : Bool) (i : Int) : Bool := if used then YtihbhbeaihdgnaaGreat.Spn.inB r 0 (i - 1) else r == 0
def rgN (n : In) (j : Nat) : Int := [n.a, n.b, n.c].getD j 0
def rgs (n : In) (i : Int) : Bool := rgB n.a (decide (0 < YtihbhbeaihdgnaaGreat.Spn.ar n.op)) i && rgB n.b (decide (1 < YtihbhbeaihdgnaaGreat.Spn.ar n.op)) i && rgB n.c (decide (2 < YtihbhbeaihdgnaaGreat.Spn.ar n.op)) i
def rgT (n : In) (i : Int) (k : Nat) : Bool := (List.range k).all fun j => rgB (rgN n j) (decide ((j : Int) < YtihbhbeaihdgnaaGreat.Spn.ar n.op)) i
theorem rgT_three (n : In) (i : Int) : rgT n i 3 = rgs n i := by
  simp [rgT, rgs, List.range_succ, rgN]
  rw [Bool.and_assoc]
theorem rgT_succ (n : In) (i : Int) (k : Nat) : rgT n i (k + 1) = (rgT n i k && rgB (rgN n k) (decide ((k : Int) < YtihbhbeaihdgnaaGreat.Spn.ar n.op)) i) := by
  simp [rgT, List.range_succ]
theorem rgT_down {n : In} {i : Int} {k m : Nat} (h : rgT n i m = true) (hk : k ≤ m) : rgT n i k = true := by
  simp only [rgT, List.all_eq_true, List.mem_range] at *
  exact fun j hj => h j (by omega)
/-- Constants of an instruction. -/
def csB (n : In) : Bool :=
  if n.op = 1 then YtihbhbeaihdgnaaGreat.Spn.wd n.k && n.s == 0 else if n.op = 2 then YtihbhbeaihdgnaaGreat.Spn.inB n.k 0 5 && n.s == 0 else if n.op = 3 then YtihbhbeaihdgnaaGreat.Spn.inB n.k 0 255 && n.s == 0 else
  if n.op = 29 ∨ n.op = 30 ∨ n.op = 31 ∨ n.op = 32 then YtihbhbeaihdgnaaGreat.Spn.cons n.op n.k n.s && n.s == 0 else if n.op = 33 then YtihbhbeaihdgnaaGreat.Spn.cons n.op n.k n.s else n.k == 0 && n.s == 0

theorem rgN_at (n : In) (j : Nat) (h : j < 3) : (#[Value.int .i64 n.a, .int .i64 n.b, .int .i64 n.c])[j]? = some (.int .i64 (rgN n j)) := by
  rcases (show j = 0 ∨ j = 1 ∨ j = 2 by omega) with rfl | rfl | rfl <;> rfl

set_option maxRecDepth 100000 in
set_option maxHeartbeats 2000000 in
theorem cregisters_any (n : In) (i : Int) (hi : -9223372036854775808 ≤ i - 1 ∧ i - 1 ≤ 9223372036854775807) (W : World) :
    Calls Tryz.prog 125 #[.agg (ia n), .int .i64 i] W fun e W' => e = .returned (.bool (rgs n i)) ∧ Below W.heap.size W W' := by
  have HA := hide fun W => YtihbhbeaihdgnaaGreat.Spn.arity_any n.op W
  have HWi := hide fun x lo hi W => cwithin_any x lo hi W
  have HB := hide (bel (bel1 W (.cells (ia n) 41)) (bel1 (W.alloc (.cells (ia n) 41)) (.cells #[.int .i64 n.a, .int .i64 n.b, .int .i64 n.c] 3)))
  have HG := hide (has_new1 W (.cells (ia n) 41) 3 #[.int .i64 n.a, .int .i64 n.b, .int .i64 n.c])
  obtain ⟨i1, i2⟩ := hi
  rw [← rgT_three]
  have HT := hide fun k => rgT_succ n i k
  have HD := hide fun k m (h : rgT n i m = true) (hk : k ≤ m) => rgT_down h hk
  have H0 : Hid (rgT n i 0 = true) := hide rfl
  generalize rgT n i = T at *
  generalize YtihbhbeaihdgnaaGreat.Spn.ar n.op = ar at *
  have HR := hide fun j h => rgN_at n j h
  go_enter Tryz.func125, Tryz.ntmps125
  go_wp2_with fail
  refine (HA.out _).mono ?_
  rintro e w1 ⟨rfl, rfl⟩
  go_wp2_with fail
  obtain ⟨V, hV⟩ : ∃ V, (W.alloc (.cells (ia n) 41)).alloc (.cells #[.int .i64 n.a, .int .i64 n.b, .int .i64 n.c] 3) = V := ⟨_, rfl⟩
  rw [hV] at HB HG ⊢
  clear hV HA
  go_loop [19] (fun j => ∃ k : Nat, k ≤ 3 ∧ j = .int .i64 k ∧ Hid (T k = true)) (fun j => 3 - (intOf j).toNat)
  case atStart => exact ⟨0, by omega, rfl, hide H0.out⟩
  case round =>
    obtain ⟨k, hk, rfl, HK⟩ := hrel
    by_cases hlt : k < 3
    · have c0 := HG.out.cell k (HR.out k hlt)
      have hs := HT.out k
      rw [HK.out, Bool.true_and] at hs
      generalize rgN n k = r at *
      have j0 : (0 : Int) ≤ k := by omega
      have j1 : (k : Int) < 3 := by omega
      by_cases hu : (k : Int) < ar
      · rw [show rgB r (decide ((k : Int) < ar)) i = YtihbhbeaihdgnaaGreat.Spn.inB r 0 (i - 1) by simp [rgB, hu]] at hs
        have HS := hide hs
        clear hs
        cases hB : YtihbhbeaihdgnaaGreat.Spn.inB r 0 (i - 1)
        · go_wp2_with (go_at_call 124; refine (HWi.out _ _ _ _).mono ?_; rintro e w' ⟨rfl, rfl⟩)
          go_ret
          refine ⟨ret_b ?_, HB.out⟩
          cases h3 : T 3
          · rfl
          · have := HD.out (k + 1) 3 h3 (by omega)
            rw [HS.out, hB] at this
            exact this
        · have hu2 : decide (ar ≤ (k : Int)) = false := by simp; omega
          go_wp2_with (go_at_call 124; refine (HWi.out _ _ _ _).mono ?_; rintro e w' ⟨rfl, rfl⟩)
          go_round
          case rel => exact ⟨k + 1, by omega, by go_num, hide (by rw [HS.out]; exact hB)⟩
          case measure => simp [intOf]; omega
      · rw [show rgB r (decide ((k : Int) < ar)) i = (r == 0) by simp [rgB, hu]] at hs
        have HS := hide hs
        clear hs
        have hu2 : ar ≤ (k : Int) := by omega
        have hu3 : decide ((k : Int) < ar) = false := by simpa using hu
        by_cases hr : r = 0
        · subst hr
          go_wp2_with fail
          go_round
          case rel => exact ⟨k + 1, by omega, by go_num, hide HS.out⟩
          case measure => simp [intOf]; omega
        · have hr2 : (r != 0) = true := by simpa using hr
          go_wp2_with fail
          go_ret
          refine ⟨ret_b ?_, HB.out⟩
          cases h3 : T 3
          · rfl
          · have := HD.out (k + 1) 3 h3 (by omega)
            rw [HS.out] at this
            simp [hr] at this
    · obtain rfl : k = 3 := by omega
      go_wp2_with fail
      go_ret
      exact ⟨ret_b HK.out.symm, HB.out⟩

set_option maxRecDepth 100000 in
set_option maxHeartbeats 4000000 in
theorem cconstants_any (n : In) (W : World) :
    Calls Tryz.prog 126 #[.agg (ia n)] W fun e W' => e = .returned (.bool (csB n)) ∧ Below W.heap.size W W' := by
  have HB := hide (bel1 W (.cells (ia n) 41))
  have HWi := hide fun x lo hi W => cwithin_any x lo hi W
  have HWd := hide fun x W => YtihbhbeaihdgnaaGreat.Spn.word_any x W
  have HC := hide fun op k s W => YtihbhbeaihdgnaaGreat.Spn.constants_any op k s W
  obtain ⟨op, a, b, c, k, s⟩ := n
  unfold csB
  dsimp only at *
  by_cases h1 : op = 1
  · subst h1
    rw [if_pos rfl]
    cases hq : YtihbhbeaihdgnaaGreat.Spn.wd k
    · go_enter Tryz.func126, Tryz.ntmps126
      go_wp2_with (go_at_call 130; refine (HWd.out _ _).mono ?_; rintro e w' ⟨rfl, rfl⟩)
      go_ret
      exact ⟨ret_b rfl, HB.out⟩
    · go_enter Tryz.func126, Tryz.ntmps126
      go_wp2_with (go_at_call 130; refine (HWd.out _ _).mono ?_; rintro e w' ⟨rfl, rfl⟩)
      go_ret
      exact ⟨ret_b (by simp), HB.out⟩
  rw [if_neg h1]
  have q1 : (op == 1) = false := by simpa using h1
  by_cases h2 : op = 2
  · subst h2
    clear q1 h1
    rw [if_pos rfl]
    cases hq : YtihbhbeaihdgnaaGreat.Spn.inB k 0 5
    · go_enter Tryz.func126, Tryz.ntmps126
      go_wp2_with (go_at_call 124; refine (HWi.out _ _ _ _).mono ?_; rintro e w' ⟨rfl, rfl⟩)
      go_ret
      exact ⟨ret_b rfl, HB.out⟩
    · go_enter Tryz.func126, Tryz.ntmps126
      go_wp2_with (go_at_call 124; refine (HWi.out _ _ _ _).mono ?_; rintro e w' ⟨rfl, rfl⟩)
      go_ret
      exact ⟨ret_b (by simp), HB.out⟩
  rw [if_neg h2]
  have q2 : (op == 2) = false := by simpa using h2
  by_cases h3 : op = 3
  · subst h3
    clear q1 h1 q2 h2
    rw [if_pos rfl]
    cases hq : YtihbhbeaihdgnaaGreat.Spn.inB k 0 255
    · go_enter Tryz.func126, Tryz.ntmps126
      go_wp2_with (go_at_call 124; refine (HWi.out _ _ _ _).mono ?_; rintro e w' ⟨rfl, rfl⟩)
      go_ret
      exact ⟨ret_b rfl, HB.out⟩
    · go_enter Tryz.func126, Tryz.ntmps126
      go_wp2_with (go_at_call 124; refine (HWi.out _ _ _ _).mono ?_; rintro e w' ⟨rfl, rfl⟩)
      go_ret
      exact ⟨ret_b (by simp), HB.out⟩
  rw [if_neg h3]
  have q3 : (op == 3) = false := by simpa using h3
  by_cases h4 : op = 29 ∨ op = 30 ∨ op = 31 ∨ op = 32
  · rw [if_pos h4]
    clear q1 h1 q2 h2 q3 h3
    rcases h4 with rfl | rfl | rfl | rfl
    · cases hq : YtihbhbeaihdgnaaGreat.Spn.cons 29 k s
      · go_enter Tryz.func126, Tryz.ntmps126
        go_wp2_with (go_at_call 163; refine (HC.out _ _ _ _).mono ?_; rintro e w' ⟨rfl, rfl⟩)
        go_ret
        exact ⟨ret_b rfl, HB.out⟩
      · go_enter Tryz.func126, Tryz.ntmps126
        go_wp2_with (go_at_call 163; refine (HC.out _ _ _ _).mono ?_; rintro e w' ⟨rfl, rfl⟩)
        go_ret
        exact ⟨ret_b (by simp), HB.out⟩
    · cases hq : YtihbhbeaihdgnaaGreat.Spn.cons 30 k s
      · go_enter Tryz.func126, Tryz.ntmps126
        go_wp2_with (go_at_call 163; refine (HC.out _ _ _ _).mono ?_; rintro e w' ⟨rfl, rfl⟩)
        go_ret
        exact ⟨ret_b rfl, HB.out⟩
      · go_enter Tryz.func126, Tryz.ntmps126
        go_wp2_with (go_at_call 163; refine (HC.out _ _ _ _).mono ?_; rintro e w' ⟨rfl, rfl⟩)
        go_ret
        exact ⟨ret_b (by simp), HB.out⟩
    · cases hq : YtihbhbeaihdgnaaGreat.Spn.cons 31 k s
      · go_enter Tryz.func126, Tryz.ntmps126
        go_wp2_with (go_at_call 163; refine (HC.out _ _ _ _).mono ?_; rintro e w' ⟨rfl, rfl⟩)
        go_ret
        exact ⟨ret_b rfl, HB.out⟩
      · go_enter Tryz.func126, Tryz.ntmps126
        go_wp2_with (go_at_call 163; refine (HC.out _ _ _ _).mono ?_; rintro e w' ⟨rfl, rfl⟩)
        go_ret
        exact ⟨ret_b (by simp), HB.out⟩
    · cases hq : YtihbhbeaihdgnaaGreat.Spn.cons 32 k s
      · go_enter Tryz.func126, Tryz.ntmps126
        go_wp2_with (go_at_call 163; refine (HC.out _ _ _ _).mono ?_; rintro e w' ⟨rfl, rfl⟩)
        go_ret
        exact ⟨ret_b rfl, HB.out⟩
      · go_enter Tryz.func126, Tryz.ntmps126
        go_wp2_with (go_at_call 163; refine (HC.out _ _ _ _).mono ?_; rintro e w' ⟨rfl, rfl⟩)
        go_ret
        exact ⟨ret_b (by simp), HB.out⟩
  rw [if_neg h4]
  by_cases h5 : op = 33
  · subst h5
    rw [if_pos rfl]
    clear q1 h1 q2 h2 q3 h3 h4
    go_enter Tryz.func126, Tryz.ntmps126
    go_wp2_with (go_at_call 163; refine (HC.out _ _ _ _).mono ?_; rintro e w' ⟨rfl, rfl⟩)
    go_ret
    exact ⟨rfl, HB.out⟩
  rw [if_neg h5]
  have q4 : (op == 29) = false := by simp; omega
  have q5 : (op == 30) = false := by simp; omega
  have q6 : (op == 31) = false := by simp; omega
  have q7 : (op == 32) = false := by simp; omega
  have q8 : (op == 33) = false := by simpa using h5
  clear h1 h2 h3 h4 h5
  by_cases hk : k = 0
  · subst hk
    go_enter Tryz.func126, Tryz.ntmps126
    go_wp2_with fail
    go_ret
    exact ⟨ret_b (by simp), HB.out⟩
  · have hk2 : (k == 0) = false := by simpa using hk
    clear hk
    go_enter Tryz.func126, Tryz.ntmps126
    go_wp2_with fail
    go_ret
    exact ⟨ret_b (by simp [hk2]), HB.out⟩

end Go.Proofs.Cde

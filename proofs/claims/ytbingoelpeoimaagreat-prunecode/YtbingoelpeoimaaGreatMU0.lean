/-
  Lists and boxes of the call's own; slices.Clone of instructions; reduce.harmless.
-/
import Derived.Test.YtbingoelpeoimaaGreatMRB
import Derived.Test.YtbingoelpeoimaaGreatMYA
import Derived.Test.YtbingoelpeoimaaGreatMSpC
import Derived.Deep.RegionHeld3
import Derived.Deep.AppendLies
import Derived.Lib.SliceRun
import Derived.Deep.CutRange
namespace Go.Proofs.Rdc
open Go.RowKit Go.IntWalk YtbingoelpeoimaaGreat.Knd
open Cde (In i0 ia kd cd Ins at6 six_of four_of two_of has_new1 okI okT below_drew is6 i6 zA take_snoc)
open Vfy (vfE vfN vfC)
set_option linter.unusedVariables false

theorem mixedF : Tryz.prog.follows .mixedOrders = true := by kernel_rfl
theorem infoI : (Tryz.prog.info? 44).map (fun i => (i.zero, i.size, i.bytes)) = some (some (.agg (ia i0)), 6, 48) := by kernel_rfl
theorem news_in {W : World} {b : Nat} {n : In} (h : HasC W b 44 (ia n)) : ∀ j u, (i6 n)[j]? = some u → W.cell? ((⟨b, 0, none⟩ : Addr).add j) = some u := by
  intro j u hu
  rw [Addr.add_lit, Nat.zero_add]
  exact h.cell j (by rw [← hu]; simp [ia, i6])
/-- An append of one instruction. -/
theorem ins_list {V : World} {base : Nat} {v : Value} {L : List In} {ops : Array Oper} {rest : List Oper} {o : Oper} {a : Act} {Q : Exit → Act → World → Prop}
    (hgd : o.guard = none) (s x : Operand) (ho : o.op = .call { callee := .builtin .append, args := #[s, x], argTypes := #[24, 24] })
    (hs : a.eval s = v) (hen : V.ownsRow base 44 6 v L.length (is6 L)) (hbase : base ≤ V.heap.size) (b : Nat) (n : In) (hx : a.eval x = .slice (some ⟨b, 0, none⟩) 1 1) (hc : HasC V b 44 (ia n)) (h3 : L.length ≤ 2000000)
    (h : ∀ g cap w', w'.ownsRow base 44 6 (.slice (some ⟨g, 0, none⟩) (L.length + 1) cap) (L ++ [n]).length (is6 (L ++ [n])) → V.grownBy w' v.ownBlock → wpList Tryz.prog ops Q rest (a.put o.dst (.slice (some ⟨g, 0, none⟩) (L.length + 1) cap)) w') :
    wpList Tryz.prog ops Q (o :: rest) a V := by
  obtain ⟨i0', hi0, hz0, hz1, hz2⟩ := YtbingoelpeoimaaGreat.Spn.info_parts infoI
  refine wpList_append_lies V hgd s x 24 ho base 44 i0' _ 6 48 Tryz.underlying24 hi0 hz0 hz1 hz2 rfl (by omega) v L.length (is6 L) hs hen ⟨b, 0, none⟩ 1 1 (i6 n) hx rfl (news_in hc) (by simp [Value.oneCell', i6]) (by omega) (by unfold maxLen; omega) (by omega) hbase V.heap.size rfl ?_
  intro g cap w' hown hgrow hat hlt
  refine h g cap w' ?_ hgrow
  rw [Cde.is6_snoc, List.length_append]
  exact hown
/-- The same, as one operation of a region. -/
theorem ins_step {V : World} {base : Nat} {v : Value} {L : List In} {ops : Array Oper} {o : Oper} {a : Act} {K : Act → World → Prop} {Q : Exit → Act → World → Prop} {E : Prop}
    (hgd : o.guard = none) (s x : Operand) (ho : o.op = .call { callee := .builtin .append, args := #[s, x], argTypes := #[24, 24] })
    (hs : a.eval s = v) (hen : V.ownsRow base 44 6 v L.length (is6 L)) (hbase : base ≤ V.heap.size) (b : Nat) (n : In) (hx : a.eval x = .slice (some ⟨b, 0, none⟩) 1 1) (hc : HasC V b 44 (ia n)) (h3 : L.length ≤ 2000000)
    (h : ∀ g cap w', w'.ownsRow base 44 6 (.slice (some ⟨g, 0, none⟩) (L.length + 1) cap) (L ++ [n]).length (is6 (L ++ [n])) → V.grownBy w' v.ownBlock → K (a.put o.dst (.slice (some ⟨g, 0, none⟩) (L.length + 1) cap)) w') :
    if Region.wanted o (yielded ops a.tmps) = true then Oper.wp Tryz.prog o a V K Q else E := by
  obtain ⟨i0', hi0, hz0, hz1, hz2⟩ := YtbingoelpeoimaaGreat.Spn.info_parts infoI
  refine step_append_lies V hgd s x 24 ho base 44 i0' _ 6 48 Tryz.underlying24 hi0 hz0 hz1 hz2 rfl (by omega) v L.length (is6 L) hs hen ⟨b, 0, none⟩ 1 1 (i6 n) hx rfl (news_in hc) (by simp [Value.oneCell', i6]) (by omega) (by unfold maxLen; omega) (by omega) hbase V.heap.size rfl ?_
  intro g cap w' hown hgrow hat hlt
  refine h g cap w' ?_ hgrow
  rw [Cde.is6_snoc, List.length_append]
  exact hown
/-- An append of one number. -/
theorem int_list {V : World} {base : Nat} {v : Value} {L : List Int} {ops : Array Oper} {rest : List Oper} {o : Oper} {a : Act} {Q : Exit → Act → World → Prop}
    (hgd : o.guard = none) (s x : Operand) (ho : o.op = .call { callee := .builtin .append, args := #[s, x], argTypes := #[33, 33] })
    (hs : a.eval s = v) (hen : V.ownsRow base 3 1 v L.length (i64s L)) (hbase : base ≤ V.heap.size) (b : Nat) (p : Int) (hx : a.eval x = .slice (some ⟨b, 0, none⟩) 1 1) (hc : HasC V b 3 #[.int .i64 p]) (h3 : L.length ≤ 2000000)
    (h : ∀ g cap w', w'.ownsRow base 3 1 (.slice (some ⟨g, 0, none⟩) (L.length + 1) cap) (L ++ [p]).length (i64s (L ++ [p])) → V.grownBy w' v.ownBlock → wpList Tryz.prog ops Q rest (a.put o.dst (.slice (some ⟨g, 0, none⟩) (L.length + 1) cap)) w') :
    wpList Tryz.prog ops Q (o :: rest) a V := by
  obtain ⟨i0', hi0, hz0, hz1, hz2⟩ := info_parts info3
  refine wpList_append_lies V hgd s x 33 ho base 3 i0' _ 1 8 Tryz.underlying33 hi0 hz0 hz1 hz2 rfl (by omega) v L.length (i64s L) hs hen ⟨b, 0, none⟩ 1 1 [.int .i64 p] hx rfl (Cde.news_one hc) (by simp [Value.oneCell']) (by omega) (by unfold maxLen; omega) (by omega) hbase V.heap.size rfl ?_
  intro g cap w' hown hgrow hat hlt
  exact h g cap w' (by rw [List.length_append]; simpa using hown) hgrow

theorem bytes_no {w : World} {n c : Nat} {L : List In} (h : Ins w none n c L) : n = 0 ∧ c = 0 ∧ L = [] := by
  have h1 := h.nil rfl
  have h2 := h.le
  have h3 := h.len
  exact ⟨by omega, h1, List.eq_nil_of_length_eq_zero (by omega)⟩

theorem own_ne {W : World} {base size b n : Nat} {t e : TypeId} {v : Value} {xs : List Value} {cs : Array Value} (h : W.ownsRow base e size v n xs) (hb : HasC W b t cs) (ht : t ≠ e) : v.ownBlock ≠ some b := by
  intro hk
  obtain ⟨-, cs', fr, h2⟩ := Cde.owns_block h b hk
  rw [hb] at h2
  cases h2
  exact ht rfl
theorem own_grow {V w' : World} {base b : Nat} {e t : TypeId} {size n : Nat} {v : Value} {xs : List Value} {cs : Array Value} (h : V.ownsRow base e size v n xs) (hg : V.grownBy w' v.ownBlock) (hb : HasC V b t cs) (ht : t ≠ e) : HasC w' b t cs :=
  hb.kept hg fun he => own_ne h hb ht he.symm
/-- Two rows of other types: one grows, the other stays. -/
theorem own_two {V w' : World} {base base' : Nat} {e e' : TypeId} {size size' n n' : Nat} {v v' : Value} {xs xs' : List Value} (h : V.ownsRow base e size v n xs) (h' : V.ownsRow base' e' size' v' n' xs') (ht : e ≠ e') (hg : V.grownBy w' v.ownBlock) : w'.ownsRow base' e' size' v' n' xs' := by
  refine h'.kept hg ?_
  cases hv : v'.ownBlock with
  | none => exact .inl rfl
  | some q =>
    right
    intro hq
    obtain ⟨-, cs, fr, h1⟩ := Cde.owns_block h q hq.symm
    obtain ⟨-, cs', fr', h2⟩ := Cde.owns_block h' q hv
    rw [h1] at h2
    cases h2
    exact ht rfl
abbrev cdz : Array Value := #[.int .i64 0, .int .i64 0, .slice none 0 0, .int .i64 0]

/-- harmless' boxes. -/
structure Fh (W V : World) (cv wv rv : Array Value) : Prop where
  c : HasC V W.heap.size 26 cv
  w : HasC V (W.heap.size + 1) 26 wv
  r : HasC V (W.heap.size + 1 + 1) 26 rv
  lo : Below W.heap.size W V
theorem Fh.below {W V V' : World} {cv wv rv : Array Value} (h : Fh W V cv wv rv) (hb : Below V.heap.size V V') : Fh W V' cv wv rv := ⟨h.c.below hb, h.w.below hb, h.r.below hb, bel h.lo hb⟩
abbrev s4 (w : World) (b : Nat) (x y z u : Value) : World := (((w.setCell ⟨b, 0, none⟩ x).setCell ⟨b, 1, none⟩ y).setCell ⟨b, 2, none⟩ z).setCell ⟨b, 3, none⟩ u
theorem Fh.put {W V : World} {cv wv : Array Value} {p q r s : Value} (h : Fh W V cv wv #[p, q, r, s]) (x y z u : Value) : Fh W (s4 V (W.heap.size + 1 + 1) x y z u) cv wv #[x, y, z, u] := by
  refine ⟨?_, ?_, (((h.r.set 0 x).set 1 y).set 2 z).set 3 u, ?_⟩
  · exact (((h.c.other (p := ⟨W.heap.size + 1 + 1, 0, none⟩) (by simp; omega) _).other (p := ⟨W.heap.size + 1 + 1, 1, none⟩) (by simp; omega) _).other (p := ⟨W.heap.size + 1 + 1, 2, none⟩) (by simp; omega) _).other (p := ⟨W.heap.size + 1 + 1, 3, none⟩) (by simp; omega) _
  · exact (((h.w.other (p := ⟨W.heap.size + 1 + 1, 0, none⟩) (by simp) _).other (p := ⟨W.heap.size + 1 + 1, 1, none⟩) (by simp) _).other (p := ⟨W.heap.size + 1 + 1, 2, none⟩) (by simp) _).other (p := ⟨W.heap.size + 1 + 1, 3, none⟩) (by simp) _
  · exact (((h.lo.setCell (p := ⟨W.heap.size + 1 + 1, 0, none⟩) (by simp; omega) _).setCell (p := ⟨W.heap.size + 1 + 1, 1, none⟩) (by simp; omega) _).setCell (p := ⟨W.heap.size + 1 + 1, 2, none⟩) (by simp; omega) _).setCell (p := ⟨W.heap.size + 1 + 1, 3, none⟩) (by simp; omega) _
theorem four_fr {W : World} {b : Nat} {t : TypeId} {cs : Array Value} (h : HasC W b t cs) : W.frozen? ⟨b, 0, none⟩ = false ∧ W.frozen? ⟨b, 1, none⟩ = false ∧ W.frozen? ⟨b, 2, none⟩ = false ∧ W.frozen? ⟨b, 3, none⟩ = false := ⟨h.frozen 0, h.frozen 1, h.frozen 2, h.frozen 3⟩
theorem s4_own {w : World} {base b size n : Nat} {e : TypeId} {v : Value} {xs : List Value} (h : w.ownsRow base e size v n xs) (hq : v.ownBlock ≠ some b) (x y z u : Value) : (s4 w b x y z u).ownsRow base e size v n xs :=
  ownsRow_setCell_other (ownsRow_setCell_other (ownsRow_setCell_other (ownsRow_setCell_other h (a := ⟨b, 0, none⟩) hq _) (a := ⟨b, 1, none⟩) hq _) (a := ⟨b, 2, none⟩) hq _) (a := ⟨b, 3, none⟩) hq _

end Go.Proofs.Rdc

/-
  Lists and boxes of the call's own; slices.Clone of instructions; share.harmless.
-/
import Derived.Test.YtijbmdmeiancgaaGreatMG0
import Derived.Test.YtijbmdmeiancgaaGreatMYA
import Derived.Test.YtijbmdmeiancgaaGreatMSpC
import Derived.Deep.RegionHeld3
import Derived.Deep.AppendLies
import Derived.Lib.SliceRun
import Derived.Deep.CutRange
namespace Go.Proofs.Shr
open Go.RowKit Go.IntWalk YtijbmdmeiancgaaGreat.Knd
open Cde (In i0 ia kd cd Ins at6 six_of four_of two_of has_new1 okI okT below_drew is6 i6 zA take_snoc)
open Vfy (vfE vfN vfC)
set_option linter.unusedVariables false

theorem mixedF : Tryz.prog.follows .mixedOrders = true := by kernel_rfl
theorem infoI : (Tryz.prog.info? 57).map (fun i => (i.zero, i.size, i.bytes)) = some (some (.agg (ia i0)), 6, 48) := by kernel_rfl
theorem news_in {W : World} {b : Nat} {n : In} (h : HasC W b 57 (ia n)) : ∀ j u, (i6 n)[j]? = some u → W.cell? ((⟨b, 0, none⟩ : Addr).add j) = some u := by
  intro j u hu
  rw [Addr.add_lit, Nat.zero_add]
  exact h.cell j (by rw [← hu]; simp [ia, i6])
/-- An append of one instruction. -/
theorem ins_list {V : World} {base : Nat} {v : Value} {L : List In} {ops : Array Oper} {rest : List Oper} {o : Oper} {a : Act} {Q : Exit → Act → World → Prop}
    (hgd : o.guard = none) (s x : Operand) (ho : o.op = .call { callee := .builtin .append, args := #[s, x], argTypes := #[24, 24] })
    (hs : a.eval s = v) (hen : V.ownsRow base 57 6 v L.length (is6 L)) (hbase : base ≤ V.heap.size) (b : Nat) (n : In) (hx : a.eval x = .slice (some ⟨b, 0, none⟩) 1 1) (hc : HasC V b 57 (ia n)) (h3 : L.length ≤ 2000000)
    (h : ∀ g cap w', w'.ownsRow base 57 6 (.slice (some ⟨g, 0, none⟩) (L.length + 1) cap) (L ++ [n]).length (is6 (L ++ [n])) → V.grownBy w' v.ownBlock → wpList Tryz.prog ops Q rest (a.put o.dst (.slice (some ⟨g, 0, none⟩) (L.length + 1) cap)) w') :
    wpList Tryz.prog ops Q (o :: rest) a V := by
  obtain ⟨i0', hi0, hz0, hz1, hz2⟩ := YtijbmdmeiancgaaGreat.Spn.info_parts infoI
  refine wpList_append_lies V hgd s x 24 ho base 57 i0' _ 6 48 Tryz.underlying24 hi0 hz0 hz1 hz2 rfl (by omega) v L.length (is6 L) hs hen ⟨b, 0, none⟩ 1 1 (i6 n) hx rfl (news_in hc) (by simp [Value.oneCell', i6]) (by omega) (by unfold maxLen; omega) (by omega) hbase V.heap.size rfl ?_
  intro g cap w' hown hgrow hat hlt
  refine h g cap w' ?_ hgrow
  rw [Cde.is6_snoc, List.length_append]
  exact hown
/-- An append of one number. -/
theorem int_list {V : World} {base : Nat} {v : Value} {L : List Int} {ops : Array Oper} {rest : List Oper} {o : Oper} {a : Act} {Q : Exit → Act → World → Prop}
    (hgd : o.guard = none) (s x : Operand) (ho : o.op = .call { callee := .builtin .append, args := #[s, x], argTypes := #[27, 27] })
    (hs : a.eval s = v) (hen : V.ownsRow base 3 1 v L.length (i64s L)) (hbase : base ≤ V.heap.size) (b : Nat) (p : Int) (hx : a.eval x = .slice (some ⟨b, 0, none⟩) 1 1) (hc : HasC V b 3 #[.int .i64 p]) (h3 : L.length ≤ 2000000)
    (h : ∀ g cap w', w'.ownsRow base 3 1 (.slice (some ⟨g, 0, none⟩) (L.length + 1) cap) (L ++ [p]).length (i64s (L ++ [p])) → V.grownBy w' v.ownBlock → wpList Tryz.prog ops Q rest (a.put o.dst (.slice (some ⟨g, 0, none⟩) (L.length + 1) cap)) w') :
    wpList Tryz.prog ops Q (o :: rest) a V := by
  obtain ⟨i0', hi0, hz0, hz1, hz2⟩ := info_parts info3
  refine wpList_append_lies V hgd s x 27 ho base 3 i0' _ 1 8 Tryz.underlying27 hi0 hz0 hz1 hz2 rfl (by omega) v L.length (i64s L) hs hen ⟨b, 0, none⟩ 1 1 [.int .i64 p] hx rfl (Cde.news_one hc) (by simp [Value.oneCell']) (by omega) (by unfold maxLen; omega) (by omega) hbase V.heap.size rfl ?_
  intro g cap w' hown hgrow hat hlt
  exact h g cap w' (by rw [List.length_append]; simpa using hown) hgrow

theorem bytes_no {w : World} {n c : Nat} {L : List In} (h : Ins w none n c L) : n = 0 ∧ c = 0 ∧ L = [] := by
  have h1 := h.nil rfl
  have h2 := h.le
  have h3 := h.len
  exact ⟨by omega, h1, List.eq_nil_of_length_eq_zero (by omega)⟩

set_option maxRecDepth 100000 in
set_option maxHeartbeats 2000000 in
theorem fclone_any {a : Option Addr} {n c : Nat} {L : List In} {w : World} (hb : Ins w a n c L) (hn : n ≤ 2000000) (hn0 : 0 < n) :
    Calls Tryz.prog 24 #[.slice a n c] w fun e w' => ∃ a' c', e = .returned (.slice a' n c') ∧ w'.ownsRow w.heap.size 57 6 (.slice a' n c') n (is6 L) ∧ Below w.heap.size w w' := by
  obtain ⟨i0', hi, hz0, hz1, hz2⟩ := YtijbmdmeiancgaaGreat.Spn.info_parts infoI
  have heq : ∀ (w : World) (a : Option Addr) (n c : Nat), (binOp .eql 24 (.slice a n c) (.slice none 0 0)).run Tryz.prog w = .ok (.bool a.isNone) w := fun w a n c => Lib.run_eql_slice_nil w 24 57 a n c 0 0 Tryz.underlying24
  cases a with
  | none =>
    obtain ⟨rfl, -, -⟩ := bytes_no hb
    omega
  | some ad =>
    have hl : (is6 L).length = n * 6 := by rw [Cde.is6_len, hb.len]
    have hbel : Below w.heap.size w (w.alloc (.cells #[] 57)) := bel1 _ _
    have HBel := hide hbel
    have HN := hide ((hb.later hbel).news ad rfl)
    have HO : Hid ((w.alloc (.cells #[] 57)).ownsRow w.heap.size 57 6 (.slice (some ⟨w.heap.size, 0, none⟩) 0 0) 0 []) := hide ⟨rfl, .inr ⟨w.heap.size, 0, #[], rfl, Nat.le_refl _, heap_alloc_new w _, Nat.le_refl _, Nat.zero_le _, rfl, rfl⟩⟩
    have HL := hide hl
    clear hb hbel hl
    go_enter Tryz.func24, Tryz.ntmps24
    go_wp2_with (at_builtin; refine wpList_append_lies _ rfl _ _ 24 rfl w.heap.size 57 i0' _ 6 48 Tryz.underlying24 hi hz0 hz1 hz2 rfl (by omega) (.slice (some ⟨w.heap.size, 0, none⟩) 0 0) 0 [] rfl HO.out ad n c (is6 L) rfl HL.out HN.out (Cde.is6_one L) hn0 (by unfold maxLen; omega) (by omega) (by simp) _ rfl ?_; intro g cap w2 hown hgr hat hlt)
    rw [Nat.zero_add, List.nil_append] at hown
    have HO2 := hide hown
    have HB2 := hide (HBel.out.grown hgr HBel.out.size (fun k h => by cases h; exact Nat.le_refl _))
    clear hown hgr hat hlt
    go_wp2_with fail
    go_ret
    exact ⟨_, _, rfl, HO2.out, HB2.out⟩

/-! ## Memory of its own -/
theorem own_ne {W : World} {base size b n : Nat} {t e : TypeId} {v : Value} {xs : List Value} {cs : Array Value} (h : W.ownsRow base e size v n xs) (hb : HasC W b t cs) (ht : t ≠ e) : v.ownBlock ≠ some b := by
  intro hk
  obtain ⟨-, cs', fr, h2⟩ := Cde.owns_block h b hk
  rw [hb] at h2
  cases h2
  exact ht rfl
theorem own_grow {V w' : World} {base b : Nat} {e t : TypeId} {size n : Nat} {v : Value} {xs : List Value} {cs : Array Value} (h : V.ownsRow base e size v n xs) (hg : V.grownBy w' v.ownBlock) (hb : HasC V b t cs) (ht : t ≠ e) : HasC w' b t cs :=
  hb.kept hg fun he => own_ne h hb ht he.symm
/-- Two rows of other types: one grows, the other stays. -/
theorem own_two {V w' : World} {base base' : Nat} {e e' : TypeId} {size size' n n' : Nat} {v v' : Value} {xs xs' : List Value} (h : V.ownsRow base e size v n xs) (h' : V.ownsRow base' e' size' v' n' xs') (ht : e ≠ e') (hg : V.grownBy w' v.ownBlock) : w'.ownsRow base' e' size' v' n' xs' := by
  refine h'.kept hg ?_
  cases hv : v'.ownBlock with
  | none => exact .inl rfl
  | some q =>
    right
    intro hq
    obtain ⟨-, cs, fr, h1⟩ := Cde.owns_block h q hq.symm
    obtain ⟨-, cs', fr', h2⟩ := Cde.owns_block h' q hv
    rw [h1] at h2
    cases h2
    exact ht rfl
abbrev cdz : Array Value := #[.int .i64 0, .int .i64 0, .slice none 0 0, .int .i64 0]
/-- folded's boxes, its instructions, its registers. -/
structure Fb (W V : World) (cv : Array Value) (mv tv : Value) (M : List In) (T : List Int) : Prop where
  c : HasC V W.heap.size 26 cv
  o : HasC V (W.heap.size + 1) 26 cdz
  m : V.ownsRow W.heap.size 57 6 mv M.length (is6 M)
  t : V.ownsRow W.heap.size 3 1 tv T.length (i64s T)
  lo : Below W.heap.size W V
theorem Fb.below {W V V' : World} {cv : Array Value} {mv tv : Value} {M : List In} {T : List Int} (h : Fb W V cv mv tv M T) (hb : Below V.heap.size V V') : Fb W V' cv mv tv M T :=
  ⟨h.c.below hb, h.o.below hb, Cde.own_later h.m hb, Cde.own_later h.t hb, bel h.lo hb⟩
theorem Fb.growM {W V w' : World} {cv : Array Value} {mv tv mv' : Value} {M M' : List In} {T : List Int} (h : Fb W V cv mv tv M T) (hg : V.grownBy w' mv.ownBlock) (hO : w'.ownsRow W.heap.size 57 6 mv' M'.length (is6 M')) : Fb W w' cv mv' tv M' T :=
  ⟨own_grow h.m hg h.c (by decide), own_grow h.m hg h.o (by decide), hO, own_two h.m h.t (by decide) hg, h.lo.grown hg h.lo.size fun k hk => (Cde.owns_block h.m k hk).1⟩
theorem Fb.growT {W V w' : World} {cv : Array Value} {mv tv tv' : Value} {M : List In} {T T' : List Int} (h : Fb W V cv mv tv M T) (hg : V.grownBy w' tv.ownBlock) (hO : w'.ownsRow W.heap.size 3 1 tv' T'.length (i64s T')) : Fb W w' cv mv tv' M T' :=
  ⟨own_grow h.t hg h.c (by decide), own_grow h.t hg h.o (by decide), own_two h.t h.m (by decide) hg, hO, h.lo.grown hg h.lo.size fun k hk => (Cde.owns_block h.t k hk).1⟩
/-- Six cells of a block. -/
abbrev s6 (w : World) (b : Nat) (n : In) : World :=
  (((((w.setCell ⟨b, 0, none⟩ (.int .i64 n.op)).setCell ⟨b, 1, none⟩ (.int .i64 n.a)).setCell ⟨b, 2, none⟩ (.int .i64 n.b)).setCell ⟨b, 3, none⟩ (.int .i64 n.c)).setCell ⟨b, 4, none⟩ (.int .i64 n.k)).setCell ⟨b, 5, none⟩ (.int .i64 n.s)
theorem s6_has {w : World} {b : Nat} {n m : In} (h : HasC w b 57 (ia n)) : HasC (s6 w b m) b 57 (ia m) := (((((h.set 0 _).set 1 _).set 2 _).set 3 _).set 4 _).set 5 _
theorem s6_oth {w : World} {b q : Nat} {t : TypeId} {cs : Array Value} (h : HasC w q t cs) (hq : q ≠ b) (m : In) : HasC (s6 w b m) q t cs :=
  (((((h.other (p := ⟨b, 0, none⟩) hq _).other (p := ⟨b, 1, none⟩) hq _).other (p := ⟨b, 2, none⟩) hq _).other (p := ⟨b, 3, none⟩) hq _).other (p := ⟨b, 4, none⟩) hq _).other (p := ⟨b, 5, none⟩) hq _
theorem s6_own {w : World} {base b size n : Nat} {e : TypeId} {v : Value} {xs : List Value} (h : w.ownsRow base e size v n xs) (hq : v.ownBlock ≠ some b) (m : In) : (s6 w b m).ownsRow base e size v n xs :=
  ownsRow_setCell_other (ownsRow_setCell_other (ownsRow_setCell_other (ownsRow_setCell_other (ownsRow_setCell_other (ownsRow_setCell_other h (a := ⟨b, 0, none⟩) hq _) (a := ⟨b, 1, none⟩) hq _) (a := ⟨b, 2, none⟩) hq _) (a := ⟨b, 3, none⟩) hq _) (a := ⟨b, 4, none⟩) hq _) (a := ⟨b, 5, none⟩) hq _
theorem s6_bel {w V : World} {b : Nat} (h : Below w.heap.size w V) (hb : w.heap.size ≤ b) (m : In) : Below w.heap.size w (s6 V b m) :=
  (((((h.setCell (p := ⟨b, 0, none⟩) hb _).setCell (p := ⟨b, 1, none⟩) hb _).setCell (p := ⟨b, 2, none⟩) hb _).setCell (p := ⟨b, 3, none⟩) hb _).setCell (p := ⟨b, 4, none⟩) hb _).setCell (p := ⟨b, 5, none⟩) hb _
/-- .. with the instruction that is looked at. -/
structure Fc (W V : World) (cv : Array Value) (mv tv : Value) (M : List In) (T : List Int) (b : Nat) (n : In) : Prop where
  f : Fb W V cv mv tv M T
  n : HasC V b 57 (ia n)
  hb : W.heap.size + 1 < b
  hm : mv.ownBlock ≠ some b
theorem Fc.below {W V V' : World} {cv : Array Value} {mv tv : Value} {M : List In} {T : List Int} {b : Nat} {n : In} (h : Fc W V cv mv tv M T b n) (hb : Below V.heap.size V V') : Fc W V' cv mv tv M T b n := ⟨h.f.below hb, h.n.below hb, h.hb, h.hm⟩
theorem Fc.put {W V : World} {cv : Array Value} {mv tv : Value} {M : List In} {T : List Int} {b : Nat} {n : In} (h : Fc W V cv mv tv M T b n) (m : In) : Fc W (s6 V b m) cv mv tv M T b m :=
  have hb := h.hb
  ⟨⟨s6_oth h.f.c (by omega) m, s6_oth h.f.o (by omega) m, s6_own h.f.m h.hm m, s6_own h.f.t (own_ne h.f.t h.n (by decide)) m, s6_bel h.f.lo (by omega) m⟩, s6_has h.n, hb, h.hm⟩
theorem Fb.with {W V : World} {cv : Array Value} {mv tv : Value} {M : List In} {T : List Int} (h : Fb W V cv mv tv M T) (n : In) : Fc W (V.alloc (.cells (ia n) 57)) cv mv tv M T V.heap.size n :=
  ⟨h.below (bel1 _ _), HasC.new V 57 (ia n), h.o.lt, fun hk => by
    obtain ⟨-, cs, fr, h1⟩ := Cde.owns_block h.m _ hk
    have := (Array.getElem?_eq_some_iff.1 h1).1
    omega⟩
theorem Fb.ints {W V : World} {cv : Array Value} {mv : Value} {M : List In} {T : List Int} {a : Option Addr} {k c : Nat} (h : Fb W V cv mv (.slice a k c) M T) (hk : T.length = k) : Ints V a k c T := by
  obtain ⟨a', c', e, hi, -⟩ := Ints.of_owns h.t
  cases e
  rw [hk] at hi
  exact hi
theorem Fb.ins {W V : World} {cv : Array Value} {tv : Value} {M : List In} {T : List Int} {a : Option Addr} {k c : Nat} (h : Fb W V cv (.slice a k c) tv M T) (hk : M.length = k) : Ins V a k c M := by
  obtain ⟨a', c', e, hi, -⟩ := Ins.of_owns h.m
  cases e
  rw [hk] at hi
  exact hi
theorem six_fr {W : World} {b : Nat} {t : TypeId} {n : In} (h : HasC W b t (ia n)) : W.frozen? ⟨b, 0, none⟩ = false ∧ W.frozen? ⟨b, 1, none⟩ = false ∧ W.frozen? ⟨b, 2, none⟩ = false ∧ W.frozen? ⟨b, 3, none⟩ = false ∧ W.frozen? ⟨b, 4, none⟩ = false ∧ W.frozen? ⟨b, 5, none⟩ = false :=
  ⟨h.frozen 0, h.frozen 1, h.frozen 2, h.frozen 3, h.frozen 4, h.frozen 5⟩
theorem make_fs (n : Nat) (h : n ≤ 1024) : ∃ cs : Array Value, cs.size = n * 6 ∧ ∀ w : World, (Instr.makeSlice 24 (.int .i64 0) (.int .i64 n)).run Tryz.prog w = .ok (.slice (some ⟨w.heap.size, 0, none⟩) 0 n) (w.alloc (.cells cs 57)) := by
  obtain ⟨i0', hi, hz0, hz1, hz2⟩ := YtijbmdmeiancgaaGreat.Spn.info_parts infoI
  refine ⟨madeCells (Value.agg (ia i0)).cells (n * 6), size_madeCells _ _, fun w => ?_⟩
  have := run_make w 24 57 i0' _ Tryz.underlying24 hi hz0 .i64 .i64 0 n (by omega) (by omega) (by rw [hz2]; omega) (by omega)
  rw [hz1] at this
  simp only [Int.toNat_natCast] at this
  exact this
theorem make_ti (n : Nat) (h : n ≤ 1024) : ∃ cs : Array Value, cs.size = n * 1 ∧ ∀ w : World, (Instr.makeSlice 27 (.int .i64 0) (.int .i64 n)).run Tryz.prog w = .ok (.slice (some ⟨w.heap.size, 0, none⟩) 0 n) (w.alloc (.cells cs 3)) := by
  obtain ⟨i0', hi, hz0, hz1, hz2⟩ := info_parts info3
  refine ⟨madeCells (Value.int .i64 0).cells (n * 1), size_madeCells _ _, fun w => ?_⟩
  have := run_make w 27 3 i0' _ Tryz.underlying27 hi hz0 .i64 .i64 0 n (by omega) (by omega) (by rw [hz2]; omega) (by omega)
  rw [hz1] at this
  simp only [Int.toNat_natCast] at this
  exact this
theorem own_start {W V : World} {b n size : Nat} {e : TypeId} {cs : Array Value} (h : HasC V b e cs) (hs : cs.size = n * size) (hb : W.heap.size ≤ b) (hn : n ≤ 1024) : V.ownsRow W.heap.size e size (.slice (some ⟨b, 0, none⟩) 0 n) 0 [] :=
  ⟨by simp, .inr ⟨b, n, cs, rfl, hb, h, Nat.zero_le _, by unfold maxLen; omega, hs, by simp⟩⟩


/-- harmless' boxes. -/
structure Fh (W V : World) (cv wv rv : Array Value) : Prop where
  c : HasC V W.heap.size 26 cv
  w : HasC V (W.heap.size + 1) 26 wv
  r : HasC V (W.heap.size + 1 + 1) 26 rv
  lo : Below W.heap.size W V
theorem Fh.below {W V V' : World} {cv wv rv : Array Value} (h : Fh W V cv wv rv) (hb : Below V.heap.size V V') : Fh W V' cv wv rv := ⟨h.c.below hb, h.w.below hb, h.r.below hb, bel h.lo hb⟩
abbrev s4 (w : World) (b : Nat) (x y z u : Value) : World := (((w.setCell ⟨b, 0, none⟩ x).setCell ⟨b, 1, none⟩ y).setCell ⟨b, 2, none⟩ z).setCell ⟨b, 3, none⟩ u
theorem Fh.put {W V : World} {cv wv : Array Value} {p q r s : Value} (h : Fh W V cv wv #[p, q, r, s]) (x y z u : Value) : Fh W (s4 V (W.heap.size + 1 + 1) x y z u) cv wv #[x, y, z, u] := by
  refine ⟨?_, ?_, (((h.r.set 0 x).set 1 y).set 2 z).set 3 u, ?_⟩
  · exact (((h.c.other (p := ⟨W.heap.size + 1 + 1, 0, none⟩) (by simp; omega) _).other (p := ⟨W.heap.size + 1 + 1, 1, none⟩) (by simp; omega) _).other (p := ⟨W.heap.size + 1 + 1, 2, none⟩) (by simp; omega) _).other (p := ⟨W.heap.size + 1 + 1, 3, none⟩) (by simp; omega) _
  · exact (((h.w.other (p := ⟨W.heap.size + 1 + 1, 0, none⟩) (by simp) _).other (p := ⟨W.heap.size + 1 + 1, 1, none⟩) (by simp) _).other (p := ⟨W.heap.size + 1 + 1, 2, none⟩) (by simp) _).other (p := ⟨W.heap.size + 1 + 1, 3, none⟩) (by simp) _
  · exact (((h.lo.setCell (p := ⟨W.heap.size + 1 + 1, 0, none⟩) (by simp; omega) _).setCell (p := ⟨W.heap.size + 1 + 1, 1, none⟩) (by simp; omega) _).setCell (p := ⟨W.heap.size + 1 + 1, 2, none⟩) (by simp; omega) _).setCell (p := ⟨W.heap.size + 1 + 1, 3, none⟩) (by simp; omega) _
theorem four_fr {W : World} {b : Nat} {t : TypeId} {cs : Array Value} (h : HasC W b t cs) : W.frozen? ⟨b, 0, none⟩ = false ∧ W.frozen? ⟨b, 1, none⟩ = false ∧ W.frozen? ⟨b, 2, none⟩ = false ∧ W.frozen? ⟨b, 3, none⟩ = false := ⟨h.frozen 0, h.frozen 1, h.frozen 2, h.frozen 3⟩
theorem s4_own {w : World} {base b size n : Nat} {e : TypeId} {v : Value} {xs : List Value} (h : w.ownsRow base e size v n xs) (hq : v.ownBlock ≠ some b) (x y z u : Value) : (s4 w b x y z u).ownsRow base e size v n xs :=
  ownsRow_setCell_other (ownsRow_setCell_other (ownsRow_setCell_other (ownsRow_setCell_other h (a := ⟨b, 0, none⟩) hq _) (a := ⟨b, 1, none⟩) hq _) (a := ⟨b, 2, none⟩) hq _) (a := ⟨b, 3, none⟩) hq _

set_option maxRecDepth 100000 in
set_option maxHeartbeats 8000000 in
theorem gharm_any (f d o1 o2 : Int) {a1 a2 : Option Addr} {n1 n2 c1 c2 : Nat} {M L : List In} {W : World} (hM : Ins W a1 n1 c1 M) (hL : Ins W a2 n2 c2 L) (hn0 : 0 < n2) (hn : n2 ≤ 1000) :
    Calls Tryz.prog 106 #[.agg (cd f d a1 n1 c1 o1), .agg (cd f d a2 n2 c2 o2)] W fun e W' =>
      (vfE f d M o1 = 0 ∧ e = .returned (.agg (cd f d a1 n1 c1 o1)) ∧ Below W.heap.size W W') ∨
      (vfE f d M o1 ≠ 0 ∧ ∃ a' c', e = .returned (.agg (cd f d a' n2 c' o2)) ∧ W'.ownsRow W.heap.size 57 6 (.slice a' n2 c') n2 (is6 L) ∧ Below W.heap.size W W') := by
  have b1 := bel1 W (.cells (cd f d a1 n1 c1 o1) 26)
  have b2 := bel b1 (bel1 _ (.cells (cd f d a2 n2 c2 o2) 26))
  have b3 := bel b2 (bel1 _ (.cells cdz 26))
  have h3 := HasC.new ((W.alloc (.cells (cd f d a1 n1 c1 o1) 26)).alloc (.cells (cd f d a2 n2 c2 o2) 26)) 26 cdz
  rw [World.size_alloc, World.size_alloc] at h3
  have HF0 : Hid (Fh W (((W.alloc (.cells (cd f d a1 n1 c1 o1) 26)).alloc (.cells (cd f d a2 n2 c2 o2) 26)).alloc (.cells cdz 26)) (cd f d a1 n1 c1 o1) (cd f d a2 n2 c2 o2) cdz) :=
    hide ⟨((HasC.new W 26 (cd f d a1 n1 c1 o1)).alloc (.cells (cd f d a2 n2 c2 o2) 26)).alloc (.cells cdz 26), (has_new1 W (.cells (cd f d a1 n1 c1 o1) 26) 26 (cd f d a2 n2 c2 o2)).alloc (.cells cdz 26), h3, b3⟩
  have HV := hide (Vfy.yverify_any f d o1 (hM.later b3))
  have HLI := hide hL
  clear b1 b2 b3 h3 hM hL
  go_enter Tryz.func106, Tryz.ntmps106
  go_wp2_with fail
  refine HV.out.mono ?_
  rintro e V1 ⟨ga, gc, rfl, hS, hb, -, -⟩
  obtain ⟨m, hm⟩ : ∃ m, vfN f d M o1 = m := ⟨_, rfl⟩
  obtain ⟨co, hco⟩ : ∃ co, vfC f d M o1 = co := ⟨_, rfl⟩
  obtain ⟨er, her⟩ : ∃ er, vfE f d M o1 = er := ⟨_, rfl⟩
  rw [hm, hco, her]
  have HEr := hide her
  have hb2 := bel1 V1 (.cells #[.slice ga m gc, .int .i64 co, .int .i64 0] 47)
  have HF1 := hide ((HF0.out.below hb).below hb2)
  obtain ⟨x0, x1, x2, x3⟩ := four_of (HF0.out.below hb).c
  obtain ⟨w0, w1, w2, w3⟩ := four_of (HF0.out.below hb).w
  obtain ⟨p0, p1, p2, p3⟩ := four_of (HF0.out.below hb).r
  have z0 := (HF0.out.below hb).c.lt
  have z1 := (HF0.out.below hb).w.lt
  have z2 := (HF0.out.below hb).r.lt
  clear hm hco her hb hb2 hS HV HF0
  by_cases h0 : er = 0
  · have hr : (er == 0) = true := by simpa using h0
    go_upto_region 3 with fail
    obtain ⟨V2, hV2⟩ : ∃ V2, V1.alloc (.cells #[.slice ga m gc, .int .i64 co, .int .i64 0] 47) = V2 := ⟨_, rfl⟩
    rw [hV2] at HF1 ⊢
    clear x0 x1 x2 x3 w0 w1 w2 w3 p0 p1 p2 p3 z0 z1 z2 hV2
    obtain ⟨x0, x1, x2, x3⟩ := four_of HF1.out.c
    obtain ⟨p0, p1, p2, p3⟩ := four_of HF1.out.r
    obtain ⟨r0, r1, r2, r3⟩ := four_fr HF1.out.r
    obtain ⟨V3, hV3⟩ : ∃ V3, (((V2.setCell ⟨W.heap.size + 1 + 1, 0, none⟩ (.int .i64 f)).setCell ⟨W.heap.size + 1 + 1, 1, none⟩ (.int .i64 d)).setCell ⟨W.heap.size + 1 + 1, 2, none⟩ (.slice a1 n1 c1)).setCell ⟨W.heap.size + 1 + 1, 3, none⟩ (.int .i64 o1) = V3 := ⟨_, rfl⟩
    have HF2 : Hid (Fh W V3 (cd f d a1 n1 c1 o1) (cd f d a2 n2 c2 o2) (cd f d a1 n1 c1 o1)) := hide (by rw [← hV3]; exact HF1.out.put (.int .i64 f) (.int .i64 d) (.slice a1 n1 c1) (.int .i64 o1))
    go_wp2_with fail
    obtain ⟨q0, q1, q2, q3⟩ := four_of HF2.out.r
    exact bodyPost_ret (v := .agg (cd f d a1 n1 c1 o1)) (by simp [results, Tryz.results106, go_sem, q0, q1, q2, q3]) rfl (.inl ⟨HEr.out.trans h0, rfl, HF2.out.lo⟩)
  · have hr : (er == 0) = false := by simpa using h0
    go_upto_region 4 with fail
    obtain ⟨V2, hV2⟩ : ∃ V2, V1.alloc (.cells #[.slice ga m gc, .int .i64 co, .int .i64 0] 47) = V2 := ⟨_, rfl⟩
    rw [hV2] at HF1 ⊢
    clear x0 x1 x2 x3 w0 w1 w2 w3 p0 p1 p2 p3 z0 z1 z2 hV2
    obtain ⟨x0, x1, x2, x3⟩ := four_of HF1.out.w
    have HCl := hide (fclone_any ((HLI.out.later HF1.out.lo).later (below_drew V2)) (by omega) hn0)
    have HS := hide fun V3 (hb : Below V2.drew.heap.size V2.drew V3) => (HF1.out.below (bel (below_drew V2) hb))
    go_region_held3 (fun w' => w'.cell? ⟨W.heap.size + 1, 0, none⟩ = some (.int .i64 f) ∧ w'.cell? ⟨W.heap.size + 1, 1, none⟩ = some (.int .i64 d) ∧ w'.cell? ⟨W.heap.size + 1, 2, none⟩ = some (.slice a2 n2 c2) ∧ w'.cell? ⟨W.heap.size + 1, 3, none⟩ = some (.int .i64 o2))
      (first | exact ⟨x0, x1, x2, x3⟩ | exact ⟨k0, k1, k2, k3⟩ | go_keep)
      ((first
        | (go_at_call 24; refine HCl.out.mono ?_; rintro e V3 ⟨a', c', rfl, hO, hb⟩; have HF3 := hide (HS.out V3 hb); obtain ⟨k0, k1, k2, k3⟩ := four_of HF3.out.w; obtain ⟨p0, p1, p2, p3⟩ := four_of HF3.out.r; obtain ⟨r0, r1, r2, r3⟩ := four_fr HF3.out.r)))
    all_goals
      have HO3 := hide (Cde.own_mono hO (show W.heap.size ≤ V2.drew.heap.size from HF1.out.lo.size))
      clear k0 k1 k2 k3 p0 p1 p2 p3 r0 r1 r2 r3 hO hb HCl HS x0 x1 x2 x3
      have hq := own_ne HO3.out HF3.out.r (by decide)
      have HO4 := hide (s4_own HO3.out hq (.int .i64 f) (.int .i64 d) (.slice a' n2 c') (.int .i64 o2))
      have HF4 := hide (HF3.out.put (.int .i64 f) (.int .i64 d) (.slice a' n2 c') (.int .i64 o2))
      obtain ⟨V4, hV4⟩ : ∃ V4, (((V3.setCell ⟨W.heap.size + 1 + 1, 0, none⟩ (.int .i64 f)).setCell ⟨W.heap.size + 1 + 1, 1, none⟩ (.int .i64 d)).setCell ⟨W.heap.size + 1 + 1, 2, none⟩ (.slice a' n2 c')).setCell ⟨W.heap.size + 1 + 1, 3, none⟩ (.int .i64 o2) = V4 := ⟨_, rfl⟩
      unfold s4 at HO4 HF4
      rw [hV4] at HO4 HF4 ⊢
      clear hV4 hq HF3 HO3
      go_wp2_with fail
      obtain ⟨q0, q1, q2, q3⟩ := four_of HF4.out.r
      exact bodyPost_ret (v := .agg (cd f d a' n2 c' o2)) (by simp [results, Tryz.results106, go_sem, q0, q1, q2, q3]) rfl (.inr ⟨by rw [HEr.out]; exact h0, _, _, rfl, HO4.out, HF4.out.lo⟩)


end Go.Proofs.Shr

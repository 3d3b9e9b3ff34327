/-
  fold's known; slices.Clone of instructions; folded.
-/
import Derived.Test.YtijbmdmeiancgaaGreatMF4
import Derived.Deep.AppendLies
import Derived.Lib.SliceRun
namespace Go.Proofs.Fld
open Go.RowKit Go.IntWalk YtijbmdmeiancgaaGreat.Knd
open Cde (In i0 ia kd cd Ins at6 six_of four_of two_of has_new1 okI okT below_drew is6 i6 zA take_snoc)
set_option linter.unusedVariables false

set_option maxRecDepth 100000 in
set_option maxHeartbeats 4000000 in
theorem fkn_any (f d : Int) (m : In) {va : Option Addr} {vn vc : Nat} {M : List In} {W : World} (hM : Ins W va vn vc M) (ho : okI m vn = true) :
    Calls Tryz.prog 133 #[.slice va vn vc, .agg (kd f d), .agg (ia m)] W fun e W' => e = .returned (.tuple #[.int .i64 (knZ f d M m).1, .bool (knZ f d M m).2]) ∧ Below W.heap.size W W' := by
  have hb2 := bel (bel1 W (.cells (kd f d) 23)) (bel1 (W.alloc (.cells (kd f d) 23)) (.cells (ia m) 57))
  have HB := hide hb2
  have HM := hide (hM.later hb2)
  have HN := hide (has_new1 W (.cells (kd f d) 23) 57 (ia m))
  have HBn := hide fun V => fbound_any f d m V
  have HRk := hide fun V (h : Ins V va vn vc M) => frk_any m h ho
  have HSe := hide fun V (h : Ins V va vn vc M) => fse_any m h ho
  unfold knZ
  generalize bnZ f d m = X at *
  generalize rkZ M m = Y at *
  generalize stZ M m = Z at *
  obtain ⟨X1, X2⟩ := X
  obtain ⟨Y1, Y2⟩ := Y
  obtain ⟨Z1, Z2⟩ := Z
  clear hM ho hb2
  dsimp only at *
  cases X2
  · rw [if_neg (by decide)]
    cases Y2
    · rw [if_neg (by decide)]
      go_enter Tryz.func133, Tryz.ntmps133
      go_wp2_with fail
      refine (HBn.out _).mono ?_
      rintro e V1 ⟨rfl, hb⟩
      have HB1 := hide (bel HB.out hb)
      have HM1 := hide (HM.out.later hb)
      have HN1 := hide (HN.out.below hb)
      obtain ⟨e0, e1, e2, e3, e4, e5⟩ := six_of HN1.out
      clear hb
      go_wp2_with fail
      refine (HRk.out _ HM1.out).mono ?_
      rintro e V2 ⟨rfl, hb⟩
      have HB2 := hide (bel HB1.out hb)
      have HM2 := hide (HM1.out.later hb)
      have HN2 := hide (HN1.out.below hb)
      clear hb e0 e1 e2 e3 e4 e5
      obtain ⟨e0, e1, e2, e3, e4, e5⟩ := six_of HN2.out
      go_wp2_with fail
      refine (HSe.out _ HM2.out).mono ?_
      rintro e V3 ⟨rfl, hb⟩
      have HB3 := hide (bel HB2.out hb)
      clear hb e0 e1 e2 e3 e4 e5
      go_wp2_with fail
      exact bodyPost_ret (v := .tuple #[.int .i64 Z1, .bool Z2]) (by simp [results, Tryz.results133, go_sem]) rfl ⟨rfl, HB3.out⟩
    · rw [if_pos rfl]
      go_enter Tryz.func133, Tryz.ntmps133
      go_wp2_with fail
      refine (HBn.out _).mono ?_
      rintro e V1 ⟨rfl, hb⟩
      have HB1 := hide (bel HB.out hb)
      have HM1 := hide (HM.out.later hb)
      have HN1 := hide (HN.out.below hb)
      obtain ⟨e0, e1, e2, e3, e4, e5⟩ := six_of HN1.out
      clear hb
      go_wp2_with fail
      refine (HRk.out _ HM1.out).mono ?_
      rintro e V2 ⟨rfl, hb⟩
      have HB2 := hide (bel HB1.out hb)
      clear hb e0 e1 e2 e3 e4 e5
      go_wp2_with fail
      exact bodyPost_ret (v := .tuple #[.int .i64 Y1, .bool true]) (by simp [results, Tryz.results133, go_sem]) rfl ⟨rfl, HB2.out⟩
  · rw [if_pos rfl]
    go_enter Tryz.func133, Tryz.ntmps133
    go_wp2_with fail
    refine (HBn.out _).mono ?_
    rintro e V1 ⟨rfl, hb⟩
    have HB1 := hide (bel HB.out hb)
    clear hb
    go_wp2_with fail
    exact bodyPost_ret (v := .tuple #[.int .i64 X1, .bool true]) (by simp [results, Tryz.results133, go_sem]) rfl ⟨rfl, HB1.out⟩

theorem infoI : (Tryz.prog.info? 57).map (fun i => (i.zero, i.size, i.bytes)) = some (some (.agg (ia i0)), 6, 48) := by kernel_rfl
theorem news_in {W : World} {b : Nat} {n : In} (h : HasC W b 57 (ia n)) : ∀ j u, (i6 n)[j]? = some u → W.cell? ((⟨b, 0, none⟩ : Addr).add j) = some u := by
  intro j u hu
  rw [Addr.add_lit, Nat.zero_add]
  exact h.cell j (by rw [← hu]; simp [ia, i6])
/-- An append of one instruction. -/
theorem ins_list {V : World} {base : Nat} {v : Value} {L : List In} {ops : Array Oper} {rest : List Oper} {o : Oper} {a : Act} {Q : Exit → Act → World → Prop}
    (hgd : o.guard = none) (s x : Operand) (ho : o.op = .call { callee := .builtin .append, args := #[s, x], argTypes := #[140, 140] })
    (hs : a.eval s = v) (hen : V.ownsRow base 57 6 v L.length (is6 L)) (hbase : base ≤ V.heap.size) (b : Nat) (n : In) (hx : a.eval x = .slice (some ⟨b, 0, none⟩) 1 1) (hc : HasC V b 57 (ia n)) (h3 : L.length ≤ 2000000)
    (h : ∀ g cap w', w'.ownsRow base 57 6 (.slice (some ⟨g, 0, none⟩) (L.length + 1) cap) (L ++ [n]).length (is6 (L ++ [n])) → V.grownBy w' v.ownBlock → wpList Tryz.prog ops Q rest (a.put o.dst (.slice (some ⟨g, 0, none⟩) (L.length + 1) cap)) w') :
    wpList Tryz.prog ops Q (o :: rest) a V := by
  obtain ⟨i0', hi0, hz0, hz1, hz2⟩ := YtijbmdmeiancgaaGreat.Spn.info_parts infoI
  refine wpList_append_lies V hgd s x 140 ho base 57 i0' _ 6 48 Tryz.underlying140 hi0 hz0 hz1 hz2 rfl (by omega) v L.length (is6 L) hs hen ⟨b, 0, none⟩ 1 1 (i6 n) hx rfl (news_in hc) (by simp [Value.oneCell', i6]) (by omega) (by unfold maxLen; omega) (by omega) hbase V.heap.size rfl ?_
  intro g cap w' hown hgrow hat hlt
  refine h g cap w' ?_ hgrow
  rw [Cde.is6_snoc, List.length_append]
  exact hown
/-- An append of one number. -/
theorem int_list {V : World} {base : Nat} {v : Value} {L : List Int} {ops : Array Oper} {rest : List Oper} {o : Oper} {a : Act} {Q : Exit → Act → World → Prop}
    (hgd : o.guard = none) (s x : Operand) (ho : o.op = .call { callee := .builtin .append, args := #[s, x], argTypes := #[27, 27] })
    (hs : a.eval s = v) (hen : V.ownsRow base 3 1 v L.length (i64s L)) (hbase : base ≤ V.heap.size) (b : Nat) (p : Int) (hx : a.eval x = .slice (some ⟨b, 0, none⟩) 1 1) (hc : HasC V b 3 #[.int .i64 p]) (h3 : L.length ≤ 2000000)
    (h : ∀ g cap w', w'.ownsRow base 3 1 (.slice (some ⟨g, 0, none⟩) (L.length + 1) cap) (L ++ [p]).length (i64s (L ++ [p])) → V.grownBy w' v.ownBlock → wpList Tryz.prog ops Q rest (a.put o.dst (.slice (some ⟨g, 0, none⟩) (L.length + 1) cap)) w') :
    wpList Tryz.prog ops Q (o :: rest) a V := by
  obtain ⟨i0', hi0, hz0, hz1, hz2⟩ := info_parts info3
  refine wpList_append_lies V hgd s x 27 ho base 3 i0' _ 1 8 Tryz.underlying27 hi0 hz0 hz1 hz2 rfl (by omega) v L.length (i64s L) hs hen ⟨b, 0, none⟩ 1 1 [.int .i64 p] hx rfl (Cde.news_one hc) (by simp [Value.oneCell']) (by omega) (by unfold maxLen; omega) (by omega) hbase V.heap.size rfl ?_
  intro g cap w' hown hgrow hat hlt
  exact h g cap w' (by rw [List.length_append]; simpa using hown) hgrow

theorem bytes_no {w : World} {n c : Nat} {L : List In} (h : Ins w none n c L) : n = 0 ∧ c = 0 ∧ L = [] := by
  have h1 := h.nil rfl
  have h2 := h.le
  have h3 := h.len
  exact ⟨by omega, h1, List.eq_nil_of_length_eq_zero (by omega)⟩

set_option maxRecDepth 100000 in
set_option maxHeartbeats 2000000 in
theorem fclone_any {a : Option Addr} {n c : Nat} {L : List In} {w : World} (hb : Ins w a n c L) (hn : n ≤ 2000000) (hn0 : 0 < n) :
    Calls Tryz.prog 24 #[.slice a n c] w fun e w' => ∃ a' c', e = .returned (.slice a' n c') ∧ w'.ownsRow w.heap.size 57 6 (.slice a' n c') n (is6 L) ∧ Below w.heap.size w w' := by
  obtain ⟨i0', hi, hz0, hz1, hz2⟩ := YtijbmdmeiancgaaGreat.Spn.info_parts infoI
  have heq : ∀ (w : World) (a : Option Addr) (n c : Nat), (binOp .eql 24 (.slice a n c) (.slice none 0 0)).run Tryz.prog w = .ok (.bool a.isNone) w := fun w a n c => Lib.run_eql_slice_nil w 24 57 a n c 0 0 Tryz.underlying24
  cases a with
  | none =>
    obtain ⟨rfl, -, -⟩ := bytes_no hb
    omega
  | some ad =>
    have hl : (is6 L).length = n * 6 := by rw [Cde.is6_len, hb.len]
    have hbel : Below w.heap.size w (w.alloc (.cells #[] 57)) := bel1 _ _
    have HBel := hide hbel
    have HN := hide ((hb.later hbel).news ad rfl)
    have HO : Hid ((w.alloc (.cells #[] 57)).ownsRow w.heap.size 57 6 (.slice (some ⟨w.heap.size, 0, none⟩) 0 0) 0 []) := hide ⟨rfl, .inr ⟨w.heap.size, 0, #[], rfl, Nat.le_refl _, heap_alloc_new w _, Nat.le_refl _, Nat.zero_le _, rfl, rfl⟩⟩
    have HL := hide hl
    clear hb hbel hl
    go_enter Tryz.func24, Tryz.ntmps24
    go_wp2_with (at_builtin; refine wpList_append_lies _ rfl _ _ 24 rfl w.heap.size 57 i0' _ 6 48 Tryz.underlying24 hi hz0 hz1 hz2 rfl (by omega) (.slice (some ⟨w.heap.size, 0, none⟩) 0 0) 0 [] rfl HO.out ad n c (is6 L) rfl HL.out HN.out (Cde.is6_one L) hn0 (by unfold maxLen; omega) (by omega) (by simp) _ rfl ?_; intro g cap w2 hown hgr hat hlt)
    rw [Nat.zero_add, List.nil_append] at hown
    have HO2 := hide hown
    have HB2 := hide (HBel.out.grown hgr HBel.out.size (fun k h => by cases h; exact Nat.le_refl _))
    clear hown hgr hat hlt
    go_wp2_with fail
    go_ret
    exact ⟨_, _, rfl, HO2.out, HB2.out⟩

/-! ## Memory of its own -/
theorem own_ne {W : World} {base size b n : Nat} {t e : TypeId} {v : Value} {xs : List Value} {cs : Array Value} (h : W.ownsRow base e size v n xs) (hb : HasC W b t cs) (ht : t ≠ e) : v.ownBlock ≠ some b := by
  intro hk
  obtain ⟨-, cs', fr, h2⟩ := Cde.owns_block h b hk
  rw [hb] at h2
  cases h2
  exact ht rfl
theorem own_grow {V w' : World} {base b : Nat} {e t : TypeId} {size n : Nat} {v : Value} {xs : List Value} {cs : Array Value} (h : V.ownsRow base e size v n xs) (hg : V.grownBy w' v.ownBlock) (hb : HasC V b t cs) (ht : t ≠ e) : HasC w' b t cs :=
  hb.kept hg fun he => own_ne h hb ht he.symm
/-- Two rows of other types: one grows, the other stays. -/
theorem own_two {V w' : World} {base base' : Nat} {e e' : TypeId} {size size' n n' : Nat} {v v' : Value} {xs xs' : List Value} (h : V.ownsRow base e size v n xs) (h' : V.ownsRow base' e' size' v' n' xs') (ht : e ≠ e') (hg : V.grownBy w' v.ownBlock) : w'.ownsRow base' e' size' v' n' xs' := by
  refine h'.kept hg ?_
  cases hv : v'.ownBlock with
  | none => exact .inl rfl
  | some q =>
    right
    intro hq
    obtain ⟨-, cs, fr, h1⟩ := Cde.owns_block h q hq.symm
    obtain ⟨-, cs', fr', h2⟩ := Cde.owns_block h' q hv
    rw [h1] at h2
    cases h2
    exact ht rfl
abbrev cdz : Array Value := #[.int .i64 0, .int .i64 0, .slice none 0 0, .int .i64 0]
/-- folded's boxes, its instructions, its registers. -/
structure Fb (W V : World) (cv : Array Value) (mv tv : Value) (M : List In) (T : List Int) : Prop where
  c : HasC V W.heap.size 26 cv
  o : HasC V (W.heap.size + 1) 26 cdz
  m : V.ownsRow W.heap.size 57 6 mv M.length (is6 M)
  t : V.ownsRow W.heap.size 3 1 tv T.length (i64s T)
  lo : Below W.heap.size W V
theorem Fb.below {W V V' : World} {cv : Array Value} {mv tv : Value} {M : List In} {T : List Int} (h : Fb W V cv mv tv M T) (hb : Below V.heap.size V V') : Fb W V' cv mv tv M T :=
  ⟨h.c.below hb, h.o.below hb, Cde.own_later h.m hb, Cde.own_later h.t hb, bel h.lo hb⟩
theorem Fb.growM {W V w' : World} {cv : Array Value} {mv tv mv' : Value} {M M' : List In} {T : List Int} (h : Fb W V cv mv tv M T) (hg : V.grownBy w' mv.ownBlock) (hO : w'.ownsRow W.heap.size 57 6 mv' M'.length (is6 M')) : Fb W w' cv mv' tv M' T :=
  ⟨own_grow h.m hg h.c (by decide), own_grow h.m hg h.o (by decide), hO, own_two h.m h.t (by decide) hg, h.lo.grown hg h.lo.size fun k hk => (Cde.owns_block h.m k hk).1⟩
theorem Fb.growT {W V w' : World} {cv : Array Value} {mv tv tv' : Value} {M : List In} {T T' : List Int} (h : Fb W V cv mv tv M T) (hg : V.grownBy w' tv.ownBlock) (hO : w'.ownsRow W.heap.size 3 1 tv' T'.length (i64s T')) : Fb W w' cv mv tv' M T' :=
  ⟨own_grow h.t hg h.c (by decide), own_grow h.t hg h.o (by decide), own_two h.t h.m (by decide) hg, hO, h.lo.grown hg h.lo.size fun k hk => (Cde.owns_block h.t k hk).1⟩
/-- Six cells of a block. -/
abbrev s6 (w : World) (b : Nat) (n : In) : World :=
  (((((w.setCell ⟨b, 0, none⟩ (.int .i64 n.op)).setCell ⟨b, 1, none⟩ (.int .i64 n.a)).setCell ⟨b, 2, none⟩ (.int .i64 n.b)).setCell ⟨b, 3, none⟩ (.int .i64 n.c)).setCell ⟨b, 4, none⟩ (.int .i64 n.k)).setCell ⟨b, 5, none⟩ (.int .i64 n.s)
theorem s6_has {w : World} {b : Nat} {n m : In} (h : HasC w b 57 (ia n)) : HasC (s6 w b m) b 57 (ia m) := (((((h.set 0 _).set 1 _).set 2 _).set 3 _).set 4 _).set 5 _
theorem s6_oth {w : World} {b q : Nat} {t : TypeId} {cs : Array Value} (h : HasC w q t cs) (hq : q ≠ b) (m : In) : HasC (s6 w b m) q t cs :=
  (((((h.other (p := ⟨b, 0, none⟩) hq _).other (p := ⟨b, 1, none⟩) hq _).other (p := ⟨b, 2, none⟩) hq _).other (p := ⟨b, 3, none⟩) hq _).other (p := ⟨b, 4, none⟩) hq _).other (p := ⟨b, 5, none⟩) hq _
theorem s6_own {w : World} {base b size n : Nat} {e : TypeId} {v : Value} {xs : List Value} (h : w.ownsRow base e size v n xs) (hq : v.ownBlock ≠ some b) (m : In) : (s6 w b m).ownsRow base e size v n xs :=
  ownsRow_setCell_other (ownsRow_setCell_other (ownsRow_setCell_other (ownsRow_setCell_other (ownsRow_setCell_other (ownsRow_setCell_other h (a := ⟨b, 0, none⟩) hq _) (a := ⟨b, 1, none⟩) hq _) (a := ⟨b, 2, none⟩) hq _) (a := ⟨b, 3, none⟩) hq _) (a := ⟨b, 4, none⟩) hq _) (a := ⟨b, 5, none⟩) hq _
theorem s6_bel {w V : World} {b : Nat} (h : Below w.heap.size w V) (hb : w.heap.size ≤ b) (m : In) : Below w.heap.size w (s6 V b m) :=
  (((((h.setCell (p := ⟨b, 0, none⟩) hb _).setCell (p := ⟨b, 1, none⟩) hb _).setCell (p := ⟨b, 2, none⟩) hb _).setCell (p := ⟨b, 3, none⟩) hb _).setCell (p := ⟨b, 4, none⟩) hb _).setCell (p := ⟨b, 5, none⟩) hb _
/-- .. with the instruction that is looked at. -/
structure Fc (W V : World) (cv : Array Value) (mv tv : Value) (M : List In) (T : List Int) (b : Nat) (n : In) : Prop where
  f : Fb W V cv mv tv M T
  n : HasC V b 57 (ia n)
  hb : W.heap.size + 1 < b
  hm : mv.ownBlock ≠ some b
theorem Fc.below {W V V' : World} {cv : Array Value} {mv tv : Value} {M : List In} {T : List Int} {b : Nat} {n : In} (h : Fc W V cv mv tv M T b n) (hb : Below V.heap.size V V') : Fc W V' cv mv tv M T b n := ⟨h.f.below hb, h.n.below hb, h.hb, h.hm⟩
theorem Fc.put {W V : World} {cv : Array Value} {mv tv : Value} {M : List In} {T : List Int} {b : Nat} {n : In} (h : Fc W V cv mv tv M T b n) (m : In) : Fc W (s6 V b m) cv mv tv M T b m :=
  have hb := h.hb
  ⟨⟨s6_oth h.f.c (by omega) m, s6_oth h.f.o (by omega) m, s6_own h.f.m h.hm m, s6_own h.f.t (own_ne h.f.t h.n (by decide)) m, s6_bel h.f.lo (by omega) m⟩, s6_has h.n, hb, h.hm⟩
theorem Fb.with {W V : World} {cv : Array Value} {mv tv : Value} {M : List In} {T : List Int} (h : Fb W V cv mv tv M T) (n : In) : Fc W (V.alloc (.cells (ia n) 57)) cv mv tv M T V.heap.size n :=
  ⟨h.below (bel1 _ _), HasC.new V 57 (ia n), h.o.lt, fun hk => by
    obtain ⟨-, cs, fr, h1⟩ := Cde.owns_block h.m _ hk
    have := (Array.getElem?_eq_some_iff.1 h1).1
    omega⟩
theorem Fb.ints {W V : World} {cv : Array Value} {mv : Value} {M : List In} {T : List Int} {a : Option Addr} {k c : Nat} (h : Fb W V cv mv (.slice a k c) M T) (hk : T.length = k) : Ints V a k c T := by
  obtain ⟨a', c', e, hi, -⟩ := Ints.of_owns h.t
  cases e
  rw [hk] at hi
  exact hi
theorem Fb.ins {W V : World} {cv : Array Value} {tv : Value} {M : List In} {T : List Int} {a : Option Addr} {k c : Nat} (h : Fb W V cv (.slice a k c) tv M T) (hk : M.length = k) : Ins V a k c M := by
  obtain ⟨a', c', e, hi, -⟩ := Ins.of_owns h.m
  cases e
  rw [hk] at hi
  exact hi
theorem six_fr {W : World} {b : Nat} {t : TypeId} {n : In} (h : HasC W b t (ia n)) : W.frozen? ⟨b, 0, none⟩ = false ∧ W.frozen? ⟨b, 1, none⟩ = false ∧ W.frozen? ⟨b, 2, none⟩ = false ∧ W.frozen? ⟨b, 3, none⟩ = false ∧ W.frozen? ⟨b, 4, none⟩ = false ∧ W.frozen? ⟨b, 5, none⟩ = false :=
  ⟨h.frozen 0, h.frozen 1, h.frozen 2, h.frozen 3, h.frozen 4, h.frozen 5⟩
theorem make_fs (n : Nat) (h : n ≤ 1024) : ∃ cs : Array Value, cs.size = n * 6 ∧ ∀ w : World, (Instr.makeSlice 140 (.int .i64 0) (.int .i64 n)).run Tryz.prog w = .ok (.slice (some ⟨w.heap.size, 0, none⟩) 0 n) (w.alloc (.cells cs 57)) := by
  obtain ⟨i0', hi, hz0, hz1, hz2⟩ := YtijbmdmeiancgaaGreat.Spn.info_parts infoI
  refine ⟨madeCells (Value.agg (ia i0)).cells (n * 6), size_madeCells _ _, fun w => ?_⟩
  have := run_make w 140 57 i0' _ Tryz.underlying140 hi hz0 .i64 .i64 0 n (by omega) (by omega) (by rw [hz2]; omega) (by omega)
  rw [hz1] at this
  simp only [Int.toNat_natCast] at this
  exact this
theorem make_ti (n : Nat) (h : n ≤ 1024) : ∃ cs : Array Value, cs.size = n * 1 ∧ ∀ w : World, (Instr.makeSlice 27 (.int .i64 0) (.int .i64 n)).run Tryz.prog w = .ok (.slice (some ⟨w.heap.size, 0, none⟩) 0 n) (w.alloc (.cells cs 3)) := by
  obtain ⟨i0', hi, hz0, hz1, hz2⟩ := info_parts info3
  refine ⟨madeCells (Value.int .i64 0).cells (n * 1), size_madeCells _ _, fun w => ?_⟩
  have := run_make w 27 3 i0' _ Tryz.underlying27 hi hz0 .i64 .i64 0 n (by omega) (by omega) (by rw [hz2]; omega) (by omega)
  rw [hz1] at this
  simp only [Int.toNat_natCast] at this
  exact this
theorem own_start {W V : World} {b n size : Nat} {e : TypeId} {cs : Array Value} (h : HasC V b e cs) (hs : cs.size = n * size) (hb : W.heap.size ≤ b) (hn : n ≤ 1024) : V.ownsRow W.heap.size e size (.slice (some ⟨b, 0, none⟩) 0 n) 0 [] :=
  ⟨by simp, .inr ⟨b, n, cs, rfl, hb, h, Nat.zero_le _, by unfold maxLen; omega, hs, by simp⟩⟩

end Go.Proofs.Fld

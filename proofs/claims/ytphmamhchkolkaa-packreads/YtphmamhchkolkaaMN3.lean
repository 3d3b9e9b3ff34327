/-
  pack's reader reads a code.
-/
import Derived.Test.YtphmamhchkolkaaMN2
import Derived.Deep.AppendLies
import Derived.OneCell
namespace Go.Proofs.Pck
open Ytphmamhchkolkaa
open Go.RowKit Go.IntWalk Ytphmamhchkolkaa.Knd
open Ytphmamhchkolkaa.Oct (vb vint lim scn scan pw rdU rdI zz uz)
open Cde (In i0 ia cd is6 i6 agL arN okI okT mcB csB rgN rgs rgB abc zA six_of four_of at6 has_new1 below_drew)
set_option linter.unusedVariables false

theorem infoI : (Try.prog.info? 51).map (fun i => (i.zero, i.size, i.bytes)) = some (some (.agg (ia i0)), 6, 48) := by kernel_rfl
theorem news_in {W : World} {b : Nat} {n : In} (h : HasC W b 51 (ia n)) : ∀ j u, (i6 n)[j]? = some u → W.cell? ((⟨b, 0, none⟩ : Addr).add j) = some u := by
  intro j u hu
  rw [Addr.add_lit, Nat.zero_add]
  exact h.cell j (by rw [← hu]; simp [ia, i6])
/-- An append of one instruction, as one operation of a region. -/
theorem ins_step {V : World} {base : Nat} {v : Value} {L : List In} {ops : Array Oper} {o : Oper} {a : Act} {K : Act → World → Prop} {Q : Exit → Act → World → Prop} {E : Prop}
    (hgd : o.guard = none) (s x : Operand) (ho : o.op = .call { callee := .builtin .append, args := #[s, x], argTypes := #[24, 24] })
    (hs : a.eval s = v) (hen : V.ownsRow base 51 6 v L.length (is6 L)) (hbase : base ≤ V.heap.size) (b : Nat) (n : In) (hx : a.eval x = .slice (some ⟨b, 0, none⟩) 1 1) (hc : HasC V b 51 (ia n)) (h3 : L.length ≤ 2000000)
    (h : ∀ g cap w', w'.ownsRow base 51 6 (.slice (some ⟨g, 0, none⟩) (L.length + 1) cap) (L ++ [n]).length (is6 (L ++ [n])) → V.grownBy w' v.ownBlock → K (a.put o.dst (.slice (some ⟨g, 0, none⟩) (L.length + 1) cap)) w') :
    if Region.wanted o (yielded ops a.tmps) = true then Oper.wp Try.prog o a V K Q else E := by
  obtain ⟨i0', hi0, hz0, hz1, hz2⟩ := info_parts infoI
  refine step_append_lies V hgd s x 24 ho base 51 i0' _ 6 48 Try.underlying24 hi0 hz0 hz1 hz2 rfl (by omega) v L.length (is6 L) hs hen ⟨b, 0, none⟩ 1 1 (i6 n) hx rfl (news_in hc) (by simp [Value.oneCell', i6]) (by omega) (by unfold maxLen; omega) (by omega) hbase V.heap.size rfl ?_
  intro g cap w' hown hgrow hat hlt
  refine h g cap w' ?_ hgrow
  rw [Cde.is6_snoc, List.length_append]
  exact hown
/-- .. as one of a list. -/
theorem ins_list {V : World} {base : Nat} {v : Value} {L : List In} {ops : Array Oper} {rest : List Oper} {o : Oper} {a : Act} {Q : Exit → Act → World → Prop}
    (hgd : o.guard = none) (s x : Operand) (ho : o.op = .call { callee := .builtin .append, args := #[s, x], argTypes := #[24, 24] })
    (hs : a.eval s = v) (hen : V.ownsRow base 51 6 v L.length (is6 L)) (hbase : base ≤ V.heap.size) (b : Nat) (n : In) (hx : a.eval x = .slice (some ⟨b, 0, none⟩) 1 1) (hc : HasC V b 51 (ia n)) (h3 : L.length ≤ 2000000)
    (h : ∀ g cap w', w'.ownsRow base 51 6 (.slice (some ⟨g, 0, none⟩) (L.length + 1) cap) (L ++ [n]).length (is6 (L ++ [n])) → V.grownBy w' v.ownBlock → wpList Try.prog ops Q rest (a.put o.dst (.slice (some ⟨g, 0, none⟩) (L.length + 1) cap)) w') :
    wpList Try.prog ops Q (o :: rest) a V := by
  obtain ⟨i0', hi0, hz0, hz1, hz2⟩ := info_parts infoI
  refine wpList_append_lies V hgd s x 24 ho base 51 i0' _ 6 48 Try.underlying24 hi0 hz0 hz1 hz2 rfl (by omega) v L.length (is6 L) hs hen ⟨b, 0, none⟩ 1 1 (i6 n) hx rfl (news_in hc) (by simp [Value.oneCell', i6]) (by omega) (by unfold maxLen; omega) (by omega) hbase V.heap.size rfl ?_
  intro g cap w' hown hgrow hat hlt
  refine h g cap w' ?_ hgrow
  rw [Cde.is6_snoc, List.length_append]
  exact hown
theorem own_ne {W : World} {base size b n : Nat} {t e : TypeId} {v : Value} {xs : List Value} {cs : Array Value} (h : W.ownsRow base e size v n xs) (hb : HasC W b t cs) (ht : t ≠ e) : v.ownBlock ≠ some b := by
  intro hk
  obtain ⟨-, cs', fr, h1⟩ := Cde.owns_block h b hk
  unfold HasC at hb
  rw [hb] at h1
  cases h1
  exact ht rfl
theorem own_grow {V w' : World} {base b : Nat} {e t : TypeId} {size n : Nat} {v : Value} {xs : List Value} {cs : Array Value} (h : V.ownsRow base e size v n xs) (hg : V.grownBy w' v.ownBlock) (hb : HasC V b t cs) (ht : t ≠ e) : HasC w' b t cs :=
  hb.kept hg fun he => own_ne h hb ht he.symm

/-! ## Instructions, read one by one -/
theorem insS_err {zs : List Int} {k : Nat} (h : (insS k zs).1 ≠ 0) : ∀ j, (insS (k + j) zs).1 = (insS k zs).1
  | 0 => rfl
  | j + 1 => by
    have ih := insS_err h j
    show (bnd [] (insS (k + j)) _ zs).1 = _
    unfold bnd
    rw [if_neg (by rw [ih]; exact h)]
    exact ih
theorem ins_more {k m : Nat} (hk : k ≤ m) {e e' : Int} {zs zs' zs2 : List Int} {L L2 : List In} (h : Out (insS k) e zs L e' zs') (he : e' ≠ 0) : Out (insS m) e zs L2 e' zs2 := by
  refine ⟨h.1, fun h0 => ?_⟩
  obtain ⟨h1, -⟩ := h.2 h0
  have := insS_err (k := k) (zs := zs) (h1 ▸ he) (m - k)
  rw [show k + (m - k) = m by omega] at this
  exact ⟨h1.trans this.symm, fun h2 => absurd h2 he⟩
theorem ins_next {k : Nat} {e e' e2 : Int} {zs zs' z2 : List Int} {L : List In} {n : In} (h : Out (insS k) e zs L e' zs') (h2 : Out (ins k) e' zs' n e2 z2) : Out (insS (k + 1)) e zs (L ++ [n]) e2 z2 :=
  h.bnd (z := []) (f := fun L => bnd [] (ins k) fun n => ret (L ++ [n])) h2.map

/-- The parts of a code, put together. -/
theorem co_out {e0 e1 e2 e3 e4 e5 e6 e7 e8 v f d m out : Int} {zs z1 z3 z4 z5 z7 z8 : List Int} {L : List In} (h1 : Out byt e0 zs v e1 z1) (h2 : e2 = if (v == 1) = true then e1 else fs e1 3) (h3 : Out byt e2 z1 f e3 z3) (h4 : Out byt e3 z3 d e4 z4)
    (h5 : Out nat e4 z4 m e5 z5) (h6 : e6 = if decide (1 ≤ m ∧ m ≤ 200) = true then e5 else fs e5 15) (h7 : Out (insS m.toNat) e6 z5 L e7 z7) (h8 : Out (bck m) e7 z7 out e8 z8) : Out coD e0 zs (f, d, L, out) e8 z8 := by
  unfold coD
  exact h1.bnd (Out.tst h2 (by decide) (h3.bnd (h4.bnd (h5.bnd (Out.tst h6 (by decide) (h7.bnd (h8.bnd (Out.ret _ _ _))))))))

abbrev cdz : Array Value := #[.int .i64 0, .int .i64 0, .slice none 0 0, .int .i64 0]
abbrev cdv (f d : Int) (v : Value) (o : Int) : Array Value := #[.int .i64 f, .int .i64 d, v, .int .i64 o]
theorem Rs.free {W V V' : World} {q r g : Nat} {e : Int} {zs : List Int} (h : Rs W V q r g e zs) (hg : g < W.heap.size) (hk : Ocm.Keeps V V' (fun k => W.heap.size ≤ k)) : Rs W V' q r g e zs := by
  refine ⟨h.rp.keeps hk (by have := h.lt.1; omega) (by have := h.lt.2; omega) (by omega), ?_, h.lt⟩
  exact ⟨hk.os.trans h.ks.os, hk.tape.trans h.ks.tape, hk.output.trans h.ks.output, Nat.le_trans h.ks.size hk.size, fun k hk1 hS => (hk.block k (Nat.lt_of_lt_of_le hk1 h.ks.size) (by omega)).trans (h.ks.block k hk1 hS)⟩
/-- What whole keeps: its boxes, the code so far. -/
structure Ws (W V : World) (q r g A C : Nat) (e : Int) (zs : List Int) (f d : Int) (sv : Value) (o : Int) (L : List In) : Prop where
  rs : Rs W V q r g e zs
  a : HasC V A 26 cdz
  c : HasC V C 26 (cdv f d sv o)
  s : V.ownsRow W.heap.size 51 6 sv L.length (is6 L)
  hA : W.heap.size ≤ A
  hC : A < C
theorem Ws.below {W V V' : World} {q r g A C : Nat} {e f d o : Int} {zs : List Int} {sv : Value} {L : List In} (h : Ws W V q r g A C e zs f d sv o L) (hb : Below V.heap.size V V') : Ws W V' q r g A C e zs f d sv o L :=
  ⟨h.rs.below hb, h.a.below hb, h.c.below hb, Cde.own_later h.s hb, h.hA, h.hC⟩
theorem Ws.go {W V V' : World} {q r g A C : Nat} {e e' f d o : Int} {zs zs' : List Int} {sv : Value} {L : List In} (h : Ws W V q r g A C e zs f d sv o L) (k : Rp V' q r g e' zs') (hk : Ocm.Keeps V V' (Qr q r)) : Ws W V' q r g A C e' zs' f d sv o L :=
  ⟨h.rs.go k hk, h.rs.has h.a h.hA hk, h.rs.has h.c (by have := h.hA; have := h.hC; omega) hk, Keeps.own hk h.s (fun j hj => by
    have h1 := (Cde.owns_block h.s j hj).1
    have h2 := h.rs.lt
    rintro (h3 | h3) <;> omega), h.hA, h.hC⟩
theorem Ws.put {W V : World} {q r g A C : Nat} {e f d o f' d' o' : Int} {zs : List Int} {sv : Value} {L : List In} (h : Ws W V q r g A C e zs f d sv o L) (hg : g < W.heap.size) (i : Nat) (x : Int) (hi : (cdv f d sv o).setIfInBounds i (.int .i64 x) = cdv f' d' sv o') : Ws W (V.setCell ⟨C, i, none⟩ (.int .i64 x)) q r g A C e zs f' d' sv o' L := by
  have hA := h.hA
  have hC := h.hC
  exact ⟨h.rs.set (by omega) hg _, h.a.other (p := ⟨C, i, none⟩) (by simp; omega) _, hi ▸ h.c.set i (.int .i64 x), ownsRow_setCell_other h.s (a := ⟨C, i, none⟩) (own_ne h.s h.c (by decide)) _, hA, hC⟩
theorem Ws.grow {W V w' : World} {q r g A C : Nat} {e f d o : Int} {zs : List Int} {sv v' : Value} {L M : List In} (h : Ws W V q r g A C e zs f d sv o L) (hgl : g < W.heap.size) (hg : V.grownBy w' sv.ownBlock) (hO : w'.ownsRow W.heap.size 51 6 v' M.length (is6 M)) : HasC w' C 26 (cdv f d sv o) ∧ Ws W (w'.setCell ⟨C, 2, none⟩ v') q r g A C e zs f d v' o M := by
  have hA := h.hA
  have hC := h.hC
  have hc := own_grow h.s hg h.c (by decide)
  have hk : Ocm.Keeps V w' (fun k => W.heap.size ≤ k) := (Ocm.Keeps.refl V _).grown hg fun k hk => .inl (Cde.owns_block h.s k hk).1
  exact ⟨hc, (h.rs.free hgl hk).set (by omega) hgl _, (own_grow h.s hg h.a (by decide)).other (p := ⟨C, 2, none⟩) (by simp; omega) _, hc.set 2 v', ownsRow_setCell_other hO (a := ⟨C, 2, none⟩) (own_ne hO hc (by decide)) _, hA, hC⟩
/-- The answer is laid into its box. -/
theorem Ws.shut {W V : World} {q r g A C : Nat} {e f d o : Int} {zs : List Int} {sv : Value} {L : List In} (h : Ws W V q r g A C e zs f d sv o L) (hg : g < W.heap.size) :
    HasC ((((V.setCell ⟨A, 0, none⟩ (.int .i64 f)).setCell ⟨A, 1, none⟩ (.int .i64 d)).setCell ⟨A, 2, none⟩ sv).setCell ⟨A, 3, none⟩ (.int .i64 o)) A 26 (cdv f d sv o) ∧
    Rs W ((((V.setCell ⟨A, 0, none⟩ (.int .i64 f)).setCell ⟨A, 1, none⟩ (.int .i64 d)).setCell ⟨A, 2, none⟩ sv).setCell ⟨A, 3, none⟩ (.int .i64 o)) q r g e zs ∧
    ((((V.setCell ⟨A, 0, none⟩ (.int .i64 f)).setCell ⟨A, 1, none⟩ (.int .i64 d)).setCell ⟨A, 2, none⟩ sv).setCell ⟨A, 3, none⟩ (.int .i64 o)).ownsRow W.heap.size 51 6 sv L.length (is6 L) := by
  have a1 := h.a.set 0 (.int .i64 f)
  have a2 := a1.set 1 (.int .i64 d)
  have a3 := a2.set 2 sv
  have hne := own_ne h.s h.a (by decide)
  have s1 := ownsRow_setCell_other h.s (a := ⟨A, 0, none⟩) hne (.int .i64 f)
  have s2 := ownsRow_setCell_other s1 (a := ⟨A, 1, none⟩) hne (.int .i64 d)
  have s3 := ownsRow_setCell_other s2 (a := ⟨A, 2, none⟩) hne sv
  exact ⟨a3.set 3 (.int .i64 o), ((((h.rs.set h.hA hg _).set h.hA hg _).set h.hA hg _).set h.hA hg _), ownsRow_setCell_other s3 (a := ⟨A, 3, none⟩) hne (.int .i64 o)⟩
set_option maxRecDepth 100000 in
theorem whole_res {W : World} {tm : Array Value} {A : Nat} {f d o : Int} {v : Value} (h : HasC W A 26 (cdv f d v o)) (ht : tm.getD 2 undef = pt A) : (results Try.f33 tm).run Try.prog W = .ok (.agg (cdv f d v o)) W := by
  obtain ⟨p0, p1, p2, p3⟩ := four_of h
  have ht' : tm[2]?.getD undef = pt A := by rw [← ht]; simp
  simp [results, Try.results33, go_sem, ht', p0, p1, p2, p3]
/-- What whole answers. -/
def WhP (W : World) (q r g : Nat) (e : Int) (zs : List Int) (en : Ending) (w' : World) : Prop := ∃ f d a n c L o e' zs', en = .returned (.agg (cd f d a n c o)) ∧ Rp w' q r g e' zs' ∧ Ocm.Keeps W w' (Qr q r) ∧ w'.ownsRow W.heap.size 51 6 (.slice a n c) n (is6 L) ∧ Out coD e zs (f, d, L, o) e' zs'
theorem own_slice {w : World} {base size n : Nat} {e : TypeId} {v : Value} {xs : List Value} (h : w.ownsRow base e size v n xs) : ∃ a c, v = .slice a n c := by
  rcases h.2 with ⟨rfl, rfl⟩ | ⟨g, cap, cur, rfl, -⟩
  · exact ⟨_, _, rfl⟩
  · exact ⟨_, _, rfl⟩
theorem WhP.mk {W w' : World} {q r g : Nat} {e e' f d o : Int} {zs zs' : List Int} {v : Value} {L : List In} (h : Rs W w' q r g e' zs') (hs : w'.ownsRow W.heap.size 51 6 v L.length (is6 L)) (ho : Out coD e zs (f, d, L, o) e' zs') : WhP W q r g e zs (.returned (.agg (cdv f d v o))) w' := by
  obtain ⟨a, c, rfl⟩ := own_slice hs
  exact ⟨_, _, _, _, _, _, _, _, _, rfl, h.rp, h.ks, hs, ho⟩
theorem four_fr {W : World} {b : Nat} {t : TypeId} {cs : Array Value} (h : HasC W b t cs) : W.frozen? ⟨b, 0, none⟩ = false ∧ W.frozen? ⟨b, 1, none⟩ = false ∧ W.frozen? ⟨b, 2, none⟩ = false ∧ W.frozen? ⟨b, 3, none⟩ = false :=
  ⟨h.frozen 0, h.frozen 1, h.frozen 2, h.frozen 3⟩

set_option maxRecDepth 100000 in
set_option maxHeartbeats 8000000 in
theorem whole_any {W : World} {q r g : Nat} {e : Int} {zs : List Int} (h : Rp W q r g e zs) : Calls Try.prog 33 #[pt q] W (WhP W q r g e zs) := by
  have hmf : ∀ (fn : Fn) (first cap : Array Value) (w : World), (Instr.makeFunc fn first cap).run Try.prog w = .ok (.func fn first cap) w := fun _ _ _ _ => rfl
  have HS := hide (Rs.start h)
  have hgl := h.rd.lt.1
  have HS1 := hide (HS.out.below (bel1 W (.cells cdz 26)))
  have HA1 := hide (HasC.new W 26 cdz)
  have c0 := HS1.out.rp.box.cell 0 rfl
  have HT := hide ((take_byte HS1.out.rp).mono fun en w' hh => hh.out)
  clear h
  go_enter Try.func33, Try.ntmps33
  go_wp2_with fail
  refine HT.out.mono ?_
  rintro en w1 ⟨v, e1, z1, rfl, hR, hK, hO, -⟩
  have HA := hide (HS1.out.has HA1.out (Nat.le_refl _) hK)
  have HS2 := hide (HS1.out.go hR hK)
  have HO1 := hide hO
  clear hR hK hO HT c0 HS1 HA1
  have HH := hide (hold_any 3 HS2.out.rp)
  by_cases hv : v = 1
  · have j1 : (v != 1) = false := by simpa using hv
    have HE2 : Hid (e1 = if (v == 1) = true then e1 else fs e1 3) := hide (by rw [if_pos (by simpa using hv)])
    obtain ⟨e2, he2⟩ : ∃ e2, e1 = e2 := ⟨_, rfl⟩
    have HE2 : Hid (e2 = if (v == 1) = true then e1 else fs e1 3) := hide (he2 ▸ HE2.out)
    rw [he2] at HS2
    clear hv HH he2
    have hAw := HA.out.lt
    have HW0 : Hid (Ws W (w1.alloc (.cells cdz 26)) q r g W.heap.size w1.heap.size e2 z1 0 0 (.slice none 0 0) 0 []) := hide ⟨HS2.out.below (bel1 _ _), HA.out.alloc _, HasC.new _ _ _, ⟨rfl, .inl ⟨rfl, rfl⟩⟩, Nat.le_refl _, hAw⟩
    have HT := hide ((take_byte HW0.out.rs.rp).mono fun en w' hh => hh.out)
    have c0 := HS2.out.rp.box.cell 0 rfl
    have zq := HS2.out.rp.box.lt
    go_wp2_with fail
    obtain ⟨C, hC⟩ : ∃ C, w1.heap.size = C := ⟨_, rfl⟩
    rw [hC] at HW0 ⊢
    refine HT.out.mono ?_
    rintro en w2 ⟨f, e3, z3, rfl, hR, hK, hO, -⟩
    have HW1 := hide (HW0.out.go hR hK)
    have HO3 := hide hO
    clear hR hK hO HT c0 zq HS2 HA hAw HW0 hC
    have HW2 := hide (HW1.out.put hgl 0 f (f' := f) (d' := 0) (o' := 0) rfl)
    have k0 := HW1.out.c.cell 0 rfl
    have y0 := HW1.out.c.frozen 0
    have HT := hide ((take_byte HW2.out.rs.rp).mono fun en w' hh => hh.out)
    have c0 := HW1.out.rs.rp.box.cell 0 rfl
    have hqC : q ≠ C := by have := HW1.out.rs.lt.1; have := HW1.out.hA; have := HW1.out.hC; omega
    go_wp2_with fail
    refine HT.out.mono ?_
    rintro en w3 ⟨d, e4, z4, rfl, hR, hK, hO, -⟩
    have HW3 := hide (HW2.out.go hR hK)
    have HO4 := hide hO
    clear hR hK hO HT c0 k0 y0 HW1 HW2
    have HW4 := hide (HW3.out.put hgl 1 d (f' := f) (d' := d) (o' := 0) rfl)
    have k0 := HW3.out.c.cell 1 rfl
    have y0 := HW3.out.c.frozen 1
    have HT := hide ((take_uint HW4.out.rs.rp).mono fun en w' hh => hh.out)
    have c0 := HW3.out.rs.rp.box.cell 0 rfl
    obtain ⟨n0, n1⟩ := nat_rng HW4.out.rs.rp.byts
    generalize (nat z4).2.1 = m at HT n0 n1
    go_wp2_with fail
    refine HT.out.mono ?_
    rintro en w4 ⟨m, e5, z5, rfl, hR, hK, hO, rfl⟩
    have HW5 := hide (HW4.out.go hR hK)
    have HO5 := hide hO
    clear hR hK hO HT c0 k0 y0 HW3 HW4
    have HFin := hide fun e6 L e7 z7 o e8 z8 h6 h7 h8 => co_out (e6 := e6) (L := L) (e7 := e7) (z7 := z7) (out := o) (e8 := e8) (z8 := z8) HO1.out HE2.out HO3.out HO4.out HO5.out h6 h7 h8
    clear HO1 HE2 HO3 HO4 HO5
    obtain ⟨sx, hsx⟩ : ∃ sx : Bool, decide (1 ≤ m ∧ m ≤ 200) = sx := ⟨_, rfl⟩
    rw [hsx] at HFin
    by_cases hm : 1 ≤ m ∧ m ≤ 200
    · obtain rfl : sx = true := by rw [← hsx]; simpa using hm
      have t1 : (m == 0) = false := by simp; omega
      have t2 : ¬ 200 < m := by omega
      have HL : ∃ c0 : Nat, c0 ≤ 200 ∧ Hid (e5 = 0 → (c0 : Int) = m) ∧ Hid (e5 ≠ 0 → c0 = 0) := by
        by_cases h0 : e5 = 0
        · exact ⟨m.toNat, by omega, fun _ => Int.toNat_of_nonneg (by omega), fun h => absurd h0 h⟩
        · exact ⟨0, Nat.zero_le _, fun h => absurd h h0, fun _ => rfl⟩
      obtain ⟨c0, hc0, HC1, HC2⟩ := HL
      have HFin2 := hide fun L e7 z7 o e8 z8 h7 h8 => HFin.out e5 L e7 z7 o e8 z8 (by simp) h7 h8
      have HF := HFin2
      clear hsx hm HFin HFin2
      obtain ⟨e6, he6⟩ : ∃ e6, e5 = e6 := ⟨_, rfl⟩
      rw [he6] at HF HW5 HC1 HC2
      have HW6 := HW5
      clear he6 HW5
      go_wp2_with fail
      go_loopw [5] (fun iv wr => ∃ (k : Nat) (L : List In) (sa : Option Addr) (sc : Nat) (e7 : Int) (z7 : List Int), k ≤ c0 ∧ iv = .int .i64 k ∧ Hid (L.length = k) ∧ Hid (Ws W wr q r g W.heap.size C e7 z7 f d (.slice sa k sc) 0 L) ∧ Hid (Out (insS k) e6 z5 L e7 z7)) (fun iv _ => c0 - (intOf iv).toNat)
      case atStart => exact ⟨0, [], none, 0, e6, z5, Nat.zero_le _, rfl, hide rfl, HW6, hide (Out.ret _ _ _)⟩
      case round =>
        obtain ⟨k, L, sa, sc, e7, z7, hk, rfl, HLn, HW, HO7⟩ := hrel
        rename World => V
        have c1 := HW.out.rs.rp.box.cell 1 rfl
        by_cases hgo : (k : Int) < m ∧ e7 = 0
        · obtain ⟨j1, rfl⟩ := hgo
          have he6 : e6 = 0 := by
            by_cases h0 : e6 = 0
            · exact h0
            · exact ((HO7.out.1 h0).symm)
          have hlt : k < c0 := by have := HC1.out he6; omega
          have HX4 := hide (HW.out.below (below_drew V))
          have HIn := hide (inst_any k (by omega) HX4.out.rs.rp)
          have HO := HO7
          clear he6 HC1 HC2 HF HW6 HO7 HW
          go_wp2_with fail
          clear c1
          refine wp_region_held_drew (S := fun _ => True) (by kernel_rfl) trivial (fun _ => ?_)
          refine wpAnyH_take (i := 0) (v := .pointer (some ⟨C, 2, none⟩)) rfl (by kernel_rfl) (by kernel_rfl) (by kernel_rfl) (fun _ _ _ h => h) (Or.inl ⟨by rfl, fun w hS => by go_simp⟩) trivial ?_
          refine wpAnyH_take (i := 2) (v := pt q) rfl (by kernel_rfl) (by kernel_rfl) (by kernel_rfl) (fun _ _ _ h => h) (Or.inl ⟨by rfl, fun w hS => by go_simp⟩) trivial ?_
          refine wpAnyH_take (i := 3) (v := .int .i64 k) rfl (by kernel_rfl) (by kernel_rfl) (by kernel_rfl) (fun _ _ _ h => h) (Or.inl ⟨by rfl, fun w hS => by go_simp⟩) trivial ?_
          refine wpAnyH_ready (rs := [1, 4]) (by kernel_rfl) (by simp) (AllReadyH.cons rfl (fun K hK => ?_) (AllReadyH.cons rfl (fun K hK => ?_) AllReadyH.nil))
          · have q2 := HX4.out.c.cell 2 rfl
            go_simp
            refine hK.out _ _ trivial (fun _ => ?_)
            clear hK K q2
            refine wpAnyH_ready (rs := [4]) (by kernel_rfl) (by simp) (AllReadyH.cons rfl (fun K hK => ?_) AllReadyH.nil)
            go_simp
            refine HIn.out.mono ?_
            rintro en w7 ⟨n, e8, z8, rfl, hR, hK2, hO⟩
            have HX5 := hide (HX4.out.go hR hK2)
            have HO8 := hide (ins_next HO.out hO)
            clear hR hK2 hO HIn
            refine hK.out _ _ trivial (fun _ => ?_)
            clear hK K
            refine wpAnyH_ready (rs := [5]) (by kernel_rfl) (by simp) (AllReadyH.cons rfl (fun K hK => ?_) AllReadyH.nil)
            go_simp
            refine hK.out _ _ trivial (fun _ => ?_)
            clear hK K
            have HX6 := hide (HX5.out.below (bel1 w7 (.cells (ia n) 51)))
            refine wpAnyH_ready (rs := [6]) (by kernel_rfl) (by simp) (AllReadyH.cons rfl (fun K hK => ?_) AllReadyH.nil)
            refine ins_step (L := L) (by rfl) _ _ (by rfl) (by rfl) HX6.out.s HX6.out.rs.ks.size _ n (by rfl) (HasC.new w7 _ _) (by rw [HLn.out]; omega) ?_
            intro g2 cap2 w8 hown hgrow
            obtain ⟨hC8, hW8⟩ := HX6.out.grow hgl hgrow hown
            rw [HLn.out] at hW8 ⊢
            have HC8 := hide hC8
            have HW8 := hide hW8
            clear hown hgrow hC8 hW8 HX6 HX5
            refine hK.out _ _ trivial (fun _ => ?_)
            clear hK K
            refine wpAnyH_take (i := 7) (v := .pointer (some ⟨C, 2, none⟩)) rfl (by kernel_rfl) (by kernel_rfl) (by kernel_rfl) (fun _ _ _ h => h) (Or.inl ⟨by rfl, fun w hS => by go_simp⟩) trivial ?_
            refine wpAnyH_ready (rs := [8]) (by kernel_rfl) (by simp) (AllReadyH.cons rfl (fun K hK => ?_) AllReadyH.nil)
            have v2 := HC8.out.cell 2 rfl
            have yv := HC8.out.frozen 2
            go_simp
            refine hK.out _ _ trivial (fun _ => ?_)
            clear hK K
            refine wpAnyH_done (by kernel_rfl) ?_ _
            go_simp
            clear v2 yv HC8
            go_wp2_with fail
            go_roundw
            case rel => exact ⟨k + 1, L ++ [n], _, _, e8, z8, by omega, by go_num, hide (by rw [List.length_append, HLn.out]; rfl), HW8, HO8⟩
            case measure => simp [intOf]; omega
          · go_simp
            refine HIn.out.mono ?_
            rintro en w7 ⟨n, e8, z8, rfl, hR, hK2, hO⟩
            have HX5 := hide (HX4.out.go hR hK2)
            have HO8 := hide (ins_next HO.out hO)
            clear hR hK2 hO HIn
            refine hK.out _ _ trivial (fun _ => ?_)
            clear hK K
            refine wpAnyH_ready (rs := [1, 5]) (by kernel_rfl) (by simp) (AllReadyH.cons rfl (fun K hK => ?_) (AllReadyH.cons rfl (fun K hK => ?_) AllReadyH.nil))
            · have q2 := HX5.out.c.cell 2 rfl
              go_simp
              refine hK.out _ _ trivial (fun _ => ?_)
              clear hK K q2
              refine wpAnyH_ready (rs := [5]) (by kernel_rfl) (by simp) (AllReadyH.cons rfl (fun K hK => ?_) AllReadyH.nil)
              go_simp
              refine hK.out _ _ trivial (fun _ => ?_)
              clear hK K
              have HX6 := hide (HX5.out.below (bel1 w7 (.cells (ia n) 51)))
              refine wpAnyH_ready (rs := [6]) (by kernel_rfl) (by simp) (AllReadyH.cons rfl (fun K hK => ?_) AllReadyH.nil)
              refine ins_step (L := L) (by rfl) _ _ (by rfl) (by rfl) HX6.out.s HX6.out.rs.ks.size _ n (by rfl) (HasC.new w7 _ _) (by rw [HLn.out]; omega) ?_
              intro g2 cap2 w8 hown hgrow
              obtain ⟨hC8, hW8⟩ := HX6.out.grow hgl hgrow hown
              rw [HLn.out] at hW8 ⊢
              have HC8 := hide hC8
              have HW8 := hide hW8
              clear hown hgrow hC8 hW8 HX6 HX5
              refine hK.out _ _ trivial (fun _ => ?_)
              clear hK K
              refine wpAnyH_take (i := 7) (v := .pointer (some ⟨C, 2, none⟩)) rfl (by kernel_rfl) (by kernel_rfl) (by kernel_rfl) (fun _ _ _ h => h) (Or.inl ⟨by rfl, fun w hS => by go_simp⟩) trivial ?_
              refine wpAnyH_ready (rs := [8]) (by kernel_rfl) (by simp) (AllReadyH.cons rfl (fun K hK => ?_) AllReadyH.nil)
              have v2 := HC8.out.cell 2 rfl
              have yv := HC8.out.frozen 2
              go_simp
              refine hK.out _ _ trivial (fun _ => ?_)
              clear hK K
              refine wpAnyH_done (by kernel_rfl) ?_ _
              go_simp
              clear v2 yv HC8
              go_wp2_with fail
              go_roundw
              case rel => exact ⟨k + 1, L ++ [n], _, _, e8, z8, by omega, by go_num, hide (by rw [List.length_append, HLn.out]; rfl), HW8, HO8⟩
              case measure => simp [intOf]; omega
            · go_simp
              refine hK.out _ _ trivial (fun _ => ?_)
              clear hK K
              have HX6 := hide (HX5.out.below (bel1 w7 (.cells (ia n) 51)))
              refine wpAnyH_ready (rs := [1]) (by kernel_rfl) (by simp) (AllReadyH.cons rfl (fun K hK => ?_) AllReadyH.nil)
              have q2 := HX6.out.c.cell 2 rfl
              go_simp
              refine hK.out _ _ trivial (fun _ => ?_)
              clear hK K q2
              refine wpAnyH_ready (rs := [6]) (by kernel_rfl) (by simp) (AllReadyH.cons rfl (fun K hK => ?_) AllReadyH.nil)
              refine ins_step (L := L) (by rfl) _ _ (by rfl) (by rfl) HX6.out.s HX6.out.rs.ks.size _ n (by rfl) (HasC.new w7 _ _) (by rw [HLn.out]; omega) ?_
              intro g2 cap2 w8 hown hgrow
              obtain ⟨hC8, hW8⟩ := HX6.out.grow hgl hgrow hown
              rw [HLn.out] at hW8 ⊢
              have HC8 := hide hC8
              have HW8 := hide hW8
              clear hown hgrow hC8 hW8 HX6 HX5
              refine hK.out _ _ trivial (fun _ => ?_)
              clear hK K
              refine wpAnyH_take (i := 7) (v := .pointer (some ⟨C, 2, none⟩)) rfl (by kernel_rfl) (by kernel_rfl) (by kernel_rfl) (fun _ _ _ h => h) (Or.inl ⟨by rfl, fun w hS => by go_simp⟩) trivial ?_
              refine wpAnyH_ready (rs := [8]) (by kernel_rfl) (by simp) (AllReadyH.cons rfl (fun K hK => ?_) AllReadyH.nil)
              have v2 := HC8.out.cell 2 rfl
              have yv := HC8.out.frozen 2
              go_simp
              refine hK.out _ _ trivial (fun _ => ?_)
              clear hK K
              refine wpAnyH_done (by kernel_rfl) ?_ _
              go_simp
              clear v2 yv HC8
              go_wp2_with fail
              go_roundw
              case rel => exact ⟨k + 1, L ++ [n], _, _, e8, z8, by omega, by go_num, hide (by rw [List.length_append, HLn.out]; rfl), HW8, HO8⟩
              case measure => simp [intOf]; omega
        · have HO8 : Hid (Out (insS m.toNat) e6 z5 L e7 z7) := hide (by
            by_cases h6 : e6 = 0
            · have h1 := HC1.out h6
              by_cases h7 : e7 = 0
              · have : ¬ (k : Int) < m := fun h => hgo ⟨h, h7⟩
                obtain rfl : k = c0 := by omega
                rw [show m.toNat = k by omega]
                exact HO7.out
              · exact ins_more (by omega) HO7.out h7
            · have := HO7.out.1 h6
              rw [this]
              exact Out.skip _ h6 _ _ _)
          have HV := hide (HW.out.s)
          clear HV
          by_cases j1 : (k : Int) < m
          · have j2 : (e7 == 0) = false := by simpa using fun h => hgo ⟨j1, h⟩
            clear hgo
            have HRg := hide (register_any m n0 n1 HW.out.rs.rp)
            clear HW6 HC1 HC2 HO7 HLn
            go_wp2_with fail
            refine HRg.out.mono ?_
            rintro en w6 ⟨o, e8, z8, rfl, hR, hK, hO⟩
            have HW8 := hide (HW.out.go hR hK)
            have HE := hide (HF.out _ _ _ _ _ _ HO8.out hO)
            clear hR hK hO HRg HW
            have HW9 := hide (HW8.out.put hgl 3 o (f' := f) (d' := d) (o' := o) rfl)
            obtain ⟨k0, k1, k2, k3⟩ := four_of HW8.out.c
            have y3 := HW8.out.c.frozen 3
            obtain ⟨a0, a1, a2, a3⟩ := four_of HW8.out.a
            obtain ⟨b0, b1, b2, b3⟩ := four_fr HW8.out.a
            have hAC : W.heap.size ≠ C := by have := HW8.out.hC; omega
            have hCA : C ≠ W.heap.size := fun h => hAC h.symm
            have zC := HW8.out.c.lt
            have zA := HW8.out.a.lt
            clear HW8 HO8 HF
            go_wp2_with fail
            obtain ⟨g1, g2, g3⟩ := HW9.out.shut hgl
            exact bodyPost_ret (whole_res g1 rfl) rfl (WhP.mk g2 g3 HE.out)
          · clear hgo c1
            have HRg := hide (register_any m n0 n1 HW.out.rs.rp)
            clear HW6 HC1 HC2 HO7 HLn
            go_wp2_with fail
            refine HRg.out.mono ?_
            rintro en w6 ⟨o, e8, z8, rfl, hR, hK, hO⟩
            have HW8 := hide (HW.out.go hR hK)
            have HE := hide (HF.out _ _ _ _ _ _ HO8.out hO)
            clear hR hK hO HRg HW
            have HW9 := hide (HW8.out.put hgl 3 o (f' := f) (d' := d) (o' := o) rfl)
            obtain ⟨k0, k1, k2, k3⟩ := four_of HW8.out.c
            have y3 := HW8.out.c.frozen 3
            obtain ⟨a0, a1, a2, a3⟩ := four_of HW8.out.a
            obtain ⟨b0, b1, b2, b3⟩ := four_fr HW8.out.a
            have hAC : W.heap.size ≠ C := by have := HW8.out.hC; omega
            have hCA : C ≠ W.heap.size := fun h => hAC h.symm
            have zC := HW8.out.c.lt
            have zA := HW8.out.a.lt
            clear HW8 HO8 HF
            go_wp2_with fail
            obtain ⟨g1, g2, g3⟩ := HW9.out.shut hgl
            exact bodyPost_ret (whole_res g1 rfl) rfl (WhP.mk g2 g3 HE.out)
    · obtain rfl : sx = false := by rw [← hsx]; simpa using hm
      have HH := hide (hold_any 15 HW5.out.rs.rp)
      have HFin2 := hide fun L e7 z7 o e8 z8 h7 h8 => HFin.out (fs e5 15) L e7 z7 o e8 z8 (by simp) h7 h8
      have HF := HFin2
      clear HFin HFin2
      obtain ⟨e6, he6⟩ : ∃ e6, fs e5 15 = e6 := ⟨_, rfl⟩
      have hb6 : e6 ≠ 0 := by
        rw [← he6]
        unfold fs
        split
        · decide
        · assumption
      rw [he6] at HF HH
      obtain ⟨c0, hc0, HC1, HC2⟩ : ∃ c0 : Nat, c0 ≤ 200 ∧ Hid (e6 = 0 → (c0 : Int) = m) ∧ Hid (e6 ≠ 0 → c0 = 0) := ⟨0, Nat.zero_le _, fun h => absurd h hb6, fun _ => rfl⟩
      clear he6 hsx
      by_cases h0 : m = 0
      · have t1 : (m == 0) = true := by simpa using h0
        clear h0 hm
        go_wp2_with fail
        refine HH.out.mono ?_
        rintro en V0 ⟨rfl, hR, hK⟩
        have HW6 := hide (HW5.out.go hR hK)
        clear hR hK HH HW5 hb6
        go_wp2_with fail
        go_loopw [5] (fun iv wr => ∃ (k : Nat) (L : List In) (sa : Option Addr) (sc : Nat) (e7 : Int) (z7 : List Int), k ≤ c0 ∧ iv = .int .i64 k ∧ Hid (L.length = k) ∧ Hid (Ws W wr q r g W.heap.size C e7 z7 f d (.slice sa k sc) 0 L) ∧ Hid (Out (insS k) e6 z5 L e7 z7)) (fun iv _ => c0 - (intOf iv).toNat)
        case atStart => exact ⟨0, [], none, 0, e6, z5, Nat.zero_le _, rfl, hide rfl, HW6, hide (Out.ret _ _ _)⟩
        case round =>
          obtain ⟨k, L, sa, sc, e7, z7, hk, rfl, HLn, HW, HO7⟩ := hrel
          rename World => V
          have c1 := HW.out.rs.rp.box.cell 1 rfl
          by_cases hgo : (k : Int) < m ∧ e7 = 0
          · obtain ⟨j1, rfl⟩ := hgo
            have he6 : e6 = 0 := by
              by_cases h0 : e6 = 0
              · exact h0
              · exact ((HO7.out.1 h0).symm)
            have hlt : k < c0 := by have := HC1.out he6; omega
            have HX4 := hide (HW.out.below (below_drew V))
            have HIn := hide (inst_any k (by omega) HX4.out.rs.rp)
            have HO := HO7
            clear he6 HC1 HC2 HF HW6 HO7 HW
            go_wp2_with fail
            clear c1
            refine wp_region_held_drew (S := fun _ => True) (by kernel_rfl) trivial (fun _ => ?_)
            refine wpAnyH_take (i := 0) (v := .pointer (some ⟨C, 2, none⟩)) rfl (by kernel_rfl) (by kernel_rfl) (by kernel_rfl) (fun _ _ _ h => h) (Or.inl ⟨by rfl, fun w hS => by go_simp⟩) trivial ?_
            refine wpAnyH_take (i := 2) (v := pt q) rfl (by kernel_rfl) (by kernel_rfl) (by kernel_rfl) (fun _ _ _ h => h) (Or.inl ⟨by rfl, fun w hS => by go_simp⟩) trivial ?_
            refine wpAnyH_take (i := 3) (v := .int .i64 k) rfl (by kernel_rfl) (by kernel_rfl) (by kernel_rfl) (fun _ _ _ h => h) (Or.inl ⟨by rfl, fun w hS => by go_simp⟩) trivial ?_
            refine wpAnyH_ready (rs := [1, 4]) (by kernel_rfl) (by simp) (AllReadyH.cons rfl (fun K hK => ?_) (AllReadyH.cons rfl (fun K hK => ?_) AllReadyH.nil))
            · have q2 := HX4.out.c.cell 2 rfl
              go_simp
              refine hK.out _ _ trivial (fun _ => ?_)
              clear hK K q2
              refine wpAnyH_ready (rs := [4]) (by kernel_rfl) (by simp) (AllReadyH.cons rfl (fun K hK => ?_) AllReadyH.nil)
              go_simp
              refine HIn.out.mono ?_
              rintro en w7 ⟨n, e8, z8, rfl, hR, hK2, hO⟩
              have HX5 := hide (HX4.out.go hR hK2)
              have HO8 := hide (ins_next HO.out hO)
              clear hR hK2 hO HIn
              refine hK.out _ _ trivial (fun _ => ?_)
              clear hK K
              refine wpAnyH_ready (rs := [5]) (by kernel_rfl) (by simp) (AllReadyH.cons rfl (fun K hK => ?_) AllReadyH.nil)
              go_simp
              refine hK.out _ _ trivial (fun _ => ?_)
              clear hK K
              have HX6 := hide (HX5.out.below (bel1 w7 (.cells (ia n) 51)))
              refine wpAnyH_ready (rs := [6]) (by kernel_rfl) (by simp) (AllReadyH.cons rfl (fun K hK => ?_) AllReadyH.nil)
              refine ins_step (L := L) (by rfl) _ _ (by rfl) (by rfl) HX6.out.s HX6.out.rs.ks.size _ n (by rfl) (HasC.new w7 _ _) (by rw [HLn.out]; omega) ?_
              intro g2 cap2 w8 hown hgrow
              obtain ⟨hC8, hW8⟩ := HX6.out.grow hgl hgrow hown
              rw [HLn.out] at hW8 ⊢
              have HC8 := hide hC8
              have HW8 := hide hW8
              clear hown hgrow hC8 hW8 HX6 HX5
              refine hK.out _ _ trivial (fun _ => ?_)
              clear hK K
              refine wpAnyH_take (i := 7) (v := .pointer (some ⟨C, 2, none⟩)) rfl (by kernel_rfl) (by kernel_rfl) (by kernel_rfl) (fun _ _ _ h => h) (Or.inl ⟨by rfl, fun w hS => by go_simp⟩) trivial ?_
              refine wpAnyH_ready (rs := [8]) (by kernel_rfl) (by simp) (AllReadyH.cons rfl (fun K hK => ?_) AllReadyH.nil)
              have v2 := HC8.out.cell 2 rfl
              have yv := HC8.out.frozen 2
              go_simp
              refine hK.out _ _ trivial (fun _ => ?_)
              clear hK K
              refine wpAnyH_done (by kernel_rfl) ?_ _
              go_simp
              clear v2 yv HC8
              go_wp2_with fail
              go_roundw
              case rel => exact ⟨k + 1, L ++ [n], _, _, e8, z8, by omega, by go_num, hide (by rw [List.length_append, HLn.out]; rfl), HW8, HO8⟩
              case measure => simp [intOf]; omega
            · go_simp
              refine HIn.out.mono ?_
              rintro en w7 ⟨n, e8, z8, rfl, hR, hK2, hO⟩
              have HX5 := hide (HX4.out.go hR hK2)
              have HO8 := hide (ins_next HO.out hO)
              clear hR hK2 hO HIn
              refine hK.out _ _ trivial (fun _ => ?_)
              clear hK K
              refine wpAnyH_ready (rs := [1, 5]) (by kernel_rfl) (by simp) (AllReadyH.cons rfl (fun K hK => ?_) (AllReadyH.cons rfl (fun K hK => ?_) AllReadyH.nil))
              · have q2 := HX5.out.c.cell 2 rfl
                go_simp
                refine hK.out _ _ trivial (fun _ => ?_)
                clear hK K q2
                refine wpAnyH_ready (rs := [5]) (by kernel_rfl) (by simp) (AllReadyH.cons rfl (fun K hK => ?_) AllReadyH.nil)
                go_simp
                refine hK.out _ _ trivial (fun _ => ?_)
                clear hK K
                have HX6 := hide (HX5.out.below (bel1 w7 (.cells (ia n) 51)))
                refine wpAnyH_ready (rs := [6]) (by kernel_rfl) (by simp) (AllReadyH.cons rfl (fun K hK => ?_) AllReadyH.nil)
                refine ins_step (L := L) (by rfl) _ _ (by rfl) (by rfl) HX6.out.s HX6.out.rs.ks.size _ n (by rfl) (HasC.new w7 _ _) (by rw [HLn.out]; omega) ?_
                intro g2 cap2 w8 hown hgrow
                obtain ⟨hC8, hW8⟩ := HX6.out.grow hgl hgrow hown
                rw [HLn.out] at hW8 ⊢
                have HC8 := hide hC8
                have HW8 := hide hW8
                clear hown hgrow hC8 hW8 HX6 HX5
                refine hK.out _ _ trivial (fun _ => ?_)
                clear hK K
                refine wpAnyH_take (i := 7) (v := .pointer (some ⟨C, 2, none⟩)) rfl (by kernel_rfl) (by kernel_rfl) (by kernel_rfl) (fun _ _ _ h => h) (Or.inl ⟨by rfl, fun w hS => by go_simp⟩) trivial ?_
                refine wpAnyH_ready (rs := [8]) (by kernel_rfl) (by simp) (AllReadyH.cons rfl (fun K hK => ?_) AllReadyH.nil)
                have v2 := HC8.out.cell 2 rfl
                have yv := HC8.out.frozen 2
                go_simp
                refine hK.out _ _ trivial (fun _ => ?_)
                clear hK K
                refine wpAnyH_done (by kernel_rfl) ?_ _
                go_simp
                clear v2 yv HC8
                go_wp2_with fail
                go_roundw
                case rel => exact ⟨k + 1, L ++ [n], _, _, e8, z8, by omega, by go_num, hide (by rw [List.length_append, HLn.out]; rfl), HW8, HO8⟩
                case measure => simp [intOf]; omega
              · go_simp
                refine hK.out _ _ trivial (fun _ => ?_)
                clear hK K
                have HX6 := hide (HX5.out.below (bel1 w7 (.cells (ia n) 51)))
                refine wpAnyH_ready (rs := [1]) (by kernel_rfl) (by simp) (AllReadyH.cons rfl (fun K hK => ?_) AllReadyH.nil)
                have q2 := HX6.out.c.cell 2 rfl
                go_simp
                refine hK.out _ _ trivial (fun _ => ?_)
                clear hK K q2
                refine wpAnyH_ready (rs := [6]) (by kernel_rfl) (by simp) (AllReadyH.cons rfl (fun K hK => ?_) AllReadyH.nil)
                refine ins_step (L := L) (by rfl) _ _ (by rfl) (by rfl) HX6.out.s HX6.out.rs.ks.size _ n (by rfl) (HasC.new w7 _ _) (by rw [HLn.out]; omega) ?_
                intro g2 cap2 w8 hown hgrow
                obtain ⟨hC8, hW8⟩ := HX6.out.grow hgl hgrow hown
                rw [HLn.out] at hW8 ⊢
                have HC8 := hide hC8
                have HW8 := hide hW8
                clear hown hgrow hC8 hW8 HX6 HX5
                refine hK.out _ _ trivial (fun _ => ?_)
                clear hK K
                refine wpAnyH_take (i := 7) (v := .pointer (some ⟨C, 2, none⟩)) rfl (by kernel_rfl) (by kernel_rfl) (by kernel_rfl) (fun _ _ _ h => h) (Or.inl ⟨by rfl, fun w hS => by go_simp⟩) trivial ?_
                refine wpAnyH_ready (rs := [8]) (by kernel_rfl) (by simp) (AllReadyH.cons rfl (fun K hK => ?_) AllReadyH.nil)
                have v2 := HC8.out.cell 2 rfl
                have yv := HC8.out.frozen 2
                go_simp
                refine hK.out _ _ trivial (fun _ => ?_)
                clear hK K
                refine wpAnyH_done (by kernel_rfl) ?_ _
                go_simp
                clear v2 yv HC8
                go_wp2_with fail
                go_roundw
                case rel => exact ⟨k + 1, L ++ [n], _, _, e8, z8, by omega, by go_num, hide (by rw [List.length_append, HLn.out]; rfl), HW8, HO8⟩
                case measure => simp [intOf]; omega
          · have HO8 : Hid (Out (insS m.toNat) e6 z5 L e7 z7) := hide (by
              by_cases h6 : e6 = 0
              · have h1 := HC1.out h6
                by_cases h7 : e7 = 0
                · have : ¬ (k : Int) < m := fun h => hgo ⟨h, h7⟩
                  obtain rfl : k = c0 := by omega
                  rw [show m.toNat = k by omega]
                  exact HO7.out
                · exact ins_more (by omega) HO7.out h7
              · have := HO7.out.1 h6
                rw [this]
                exact Out.skip _ h6 _ _ _)
            have HV := hide (HW.out.s)
            clear HV
            by_cases j1 : (k : Int) < m
            · have j2 : (e7 == 0) = false := by simpa using fun h => hgo ⟨j1, h⟩
              clear hgo
              have HRg := hide (register_any m n0 n1 HW.out.rs.rp)
              clear HW6 HC1 HC2 HO7 HLn
              go_wp2_with fail
              refine HRg.out.mono ?_
              rintro en w6 ⟨o, e8, z8, rfl, hR, hK, hO⟩
              have HW8 := hide (HW.out.go hR hK)
              have HE := hide (HF.out _ _ _ _ _ _ HO8.out hO)
              clear hR hK hO HRg HW
              have HW9 := hide (HW8.out.put hgl 3 o (f' := f) (d' := d) (o' := o) rfl)
              obtain ⟨k0, k1, k2, k3⟩ := four_of HW8.out.c
              have y3 := HW8.out.c.frozen 3
              obtain ⟨a0, a1, a2, a3⟩ := four_of HW8.out.a
              obtain ⟨b0, b1, b2, b3⟩ := four_fr HW8.out.a
              have hAC : W.heap.size ≠ C := by have := HW8.out.hC; omega
              have hCA : C ≠ W.heap.size := fun h => hAC h.symm
              have zC := HW8.out.c.lt
              have zA := HW8.out.a.lt
              clear HW8 HO8 HF
              go_wp2_with fail
              obtain ⟨g1, g2, g3⟩ := HW9.out.shut hgl
              exact bodyPost_ret (whole_res g1 rfl) rfl (WhP.mk g2 g3 HE.out)
            · clear hgo c1
              have HRg := hide (register_any m n0 n1 HW.out.rs.rp)
              clear HW6 HC1 HC2 HO7 HLn
              go_wp2_with fail
              refine HRg.out.mono ?_
              rintro en w6 ⟨o, e8, z8, rfl, hR, hK, hO⟩
              have HW8 := hide (HW.out.go hR hK)
              have HE := hide (HF.out _ _ _ _ _ _ HO8.out hO)
              clear hR hK hO HRg HW
              have HW9 := hide (HW8.out.put hgl 3 o (f' := f) (d' := d) (o' := o) rfl)
              obtain ⟨k0, k1, k2, k3⟩ := four_of HW8.out.c
              have y3 := HW8.out.c.frozen 3
              obtain ⟨a0, a1, a2, a3⟩ := four_of HW8.out.a
              obtain ⟨b0, b1, b2, b3⟩ := four_fr HW8.out.a
              have hAC : W.heap.size ≠ C := by have := HW8.out.hC; omega
              have hCA : C ≠ W.heap.size := fun h => hAC h.symm
              have zC := HW8.out.c.lt
              have zA := HW8.out.a.lt
              clear HW8 HO8 HF
              go_wp2_with fail
              obtain ⟨g1, g2, g3⟩ := HW9.out.shut hgl
              exact bodyPost_ret (whole_res g1 rfl) rfl (WhP.mk g2 g3 HE.out)
      · have t1 : (m == 0) = false := by simpa using h0
        have t2 : 200 < m := by omega
        clear h0 hm
        go_wp2_with fail
        refine HH.out.mono ?_
        rintro en V0 ⟨rfl, hR, hK⟩
        have HW6 := hide (HW5.out.go hR hK)
        clear hR hK HH HW5 hb6
        go_wp2_with fail
        go_loopw [5] (fun iv wr => ∃ (k : Nat) (L : List In) (sa : Option Addr) (sc : Nat) (e7 : Int) (z7 : List Int), k ≤ c0 ∧ iv = .int .i64 k ∧ Hid (L.length = k) ∧ Hid (Ws W wr q r g W.heap.size C e7 z7 f d (.slice sa k sc) 0 L) ∧ Hid (Out (insS k) e6 z5 L e7 z7)) (fun iv _ => c0 - (intOf iv).toNat)
        case atStart => exact ⟨0, [], none, 0, e6, z5, Nat.zero_le _, rfl, hide rfl, HW6, hide (Out.ret _ _ _)⟩
        case round =>
          obtain ⟨k, L, sa, sc, e7, z7, hk, rfl, HLn, HW, HO7⟩ := hrel
          rename World => V
          have c1 := HW.out.rs.rp.box.cell 1 rfl
          by_cases hgo : (k : Int) < m ∧ e7 = 0
          · obtain ⟨j1, rfl⟩ := hgo
            have he6 : e6 = 0 := by
              by_cases h0 : e6 = 0
              · exact h0
              · exact ((HO7.out.1 h0).symm)
            have hlt : k < c0 := by have := HC1.out he6; omega
            have HX4 := hide (HW.out.below (below_drew V))
            have HIn := hide (inst_any k (by omega) HX4.out.rs.rp)
            have HO := HO7
            clear he6 HC1 HC2 HF HW6 HO7 HW
            go_wp2_with fail
            clear c1
            refine wp_region_held_drew (S := fun _ => True) (by kernel_rfl) trivial (fun _ => ?_)
            refine wpAnyH_take (i := 0) (v := .pointer (some ⟨C, 2, none⟩)) rfl (by kernel_rfl) (by kernel_rfl) (by kernel_rfl) (fun _ _ _ h => h) (Or.inl ⟨by rfl, fun w hS => by go_simp⟩) trivial ?_
            refine wpAnyH_take (i := 2) (v := pt q) rfl (by kernel_rfl) (by kernel_rfl) (by kernel_rfl) (fun _ _ _ h => h) (Or.inl ⟨by rfl, fun w hS => by go_simp⟩) trivial ?_
            refine wpAnyH_take (i := 3) (v := .int .i64 k) rfl (by kernel_rfl) (by kernel_rfl) (by kernel_rfl) (fun _ _ _ h => h) (Or.inl ⟨by rfl, fun w hS => by go_simp⟩) trivial ?_
            refine wpAnyH_ready (rs := [1, 4]) (by kernel_rfl) (by simp) (AllReadyH.cons rfl (fun K hK => ?_) (AllReadyH.cons rfl (fun K hK => ?_) AllReadyH.nil))
            · have q2 := HX4.out.c.cell 2 rfl
              go_simp
              refine hK.out _ _ trivial (fun _ => ?_)
              clear hK K q2
              refine wpAnyH_ready (rs := [4]) (by kernel_rfl) (by simp) (AllReadyH.cons rfl (fun K hK => ?_) AllReadyH.nil)
              go_simp
              refine HIn.out.mono ?_
              rintro en w7 ⟨n, e8, z8, rfl, hR, hK2, hO⟩
              have HX5 := hide (HX4.out.go hR hK2)
              have HO8 := hide (ins_next HO.out hO)
              clear hR hK2 hO HIn
              refine hK.out _ _ trivial (fun _ => ?_)
              clear hK K
              refine wpAnyH_ready (rs := [5]) (by kernel_rfl) (by simp) (AllReadyH.cons rfl (fun K hK => ?_) AllReadyH.nil)
              go_simp
              refine hK.out _ _ trivial (fun _ => ?_)
              clear hK K
              have HX6 := hide (HX5.out.below (bel1 w7 (.cells (ia n) 51)))
              refine wpAnyH_ready (rs := [6]) (by kernel_rfl) (by simp) (AllReadyH.cons rfl (fun K hK => ?_) AllReadyH.nil)
              refine ins_step (L := L) (by rfl) _ _ (by rfl) (by rfl) HX6.out.s HX6.out.rs.ks.size _ n (by rfl) (HasC.new w7 _ _) (by rw [HLn.out]; omega) ?_
              intro g2 cap2 w8 hown hgrow
              obtain ⟨hC8, hW8⟩ := HX6.out.grow hgl hgrow hown
              rw [HLn.out] at hW8 ⊢
              have HC8 := hide hC8
              have HW8 := hide hW8
              clear hown hgrow hC8 hW8 HX6 HX5
              refine hK.out _ _ trivial (fun _ => ?_)
              clear hK K
              refine wpAnyH_take (i := 7) (v := .pointer (some ⟨C, 2, none⟩)) rfl (by kernel_rfl) (by kernel_rfl) (by kernel_rfl) (fun _ _ _ h => h) (Or.inl ⟨by rfl, fun w hS => by go_simp⟩) trivial ?_
              refine wpAnyH_ready (rs := [8]) (by kernel_rfl) (by simp) (AllReadyH.cons rfl (fun K hK => ?_) AllReadyH.nil)
              have v2 := HC8.out.cell 2 rfl
              have yv := HC8.out.frozen 2
              go_simp
              refine hK.out _ _ trivial (fun _ => ?_)
              clear hK K
              refine wpAnyH_done (by kernel_rfl) ?_ _
              go_simp
              clear v2 yv HC8
              go_wp2_with fail
              go_roundw
              case rel => exact ⟨k + 1, L ++ [n], _, _, e8, z8, by omega, by go_num, hide (by rw [List.length_append, HLn.out]; rfl), HW8, HO8⟩
              case measure => simp [intOf]; omega
            · go_simp
              refine HIn.out.mono ?_
              rintro en w7 ⟨n, e8, z8, rfl, hR, hK2, hO⟩
              have HX5 := hide (HX4.out.go hR hK2)
              have HO8 := hide (ins_next HO.out hO)
              clear hR hK2 hO HIn
              refine hK.out _ _ trivial (fun _ => ?_)
              clear hK K
              refine wpAnyH_ready (rs := [1, 5]) (by kernel_rfl) (by simp) (AllReadyH.cons rfl (fun K hK => ?_) (AllReadyH.cons rfl (fun K hK => ?_) AllReadyH.nil))
              · have q2 := HX5.out.c.cell 2 rfl
                go_simp
                refine hK.out _ _ trivial (fun _ => ?_)
                clear hK K q2
                refine wpAnyH_ready (rs := [5]) (by kernel_rfl) (by simp) (AllReadyH.cons rfl (fun K hK => ?_) AllReadyH.nil)
                go_simp
                refine hK.out _ _ trivial (fun _ => ?_)
                clear hK K
                have HX6 := hide (HX5.out.below (bel1 w7 (.cells (ia n) 51)))
                refine wpAnyH_ready (rs := [6]) (by kernel_rfl) (by simp) (AllReadyH.cons rfl (fun K hK => ?_) AllReadyH.nil)
                refine ins_step (L := L) (by rfl) _ _ (by rfl) (by rfl) HX6.out.s HX6.out.rs.ks.size _ n (by rfl) (HasC.new w7 _ _) (by rw [HLn.out]; omega) ?_
                intro g2 cap2 w8 hown hgrow
                obtain ⟨hC8, hW8⟩ := HX6.out.grow hgl hgrow hown
                rw [HLn.out] at hW8 ⊢
                have HC8 := hide hC8
                have HW8 := hide hW8
                clear hown hgrow hC8 hW8 HX6 HX5
                refine hK.out _ _ trivial (fun _ => ?_)
                clear hK K
                refine wpAnyH_take (i := 7) (v := .pointer (some ⟨C, 2, none⟩)) rfl (by kernel_rfl) (by kernel_rfl) (by kernel_rfl) (fun _ _ _ h => h) (Or.inl ⟨by rfl, fun w hS => by go_simp⟩) trivial ?_
                refine wpAnyH_ready (rs := [8]) (by kernel_rfl) (by simp) (AllReadyH.cons rfl (fun K hK => ?_) AllReadyH.nil)
                have v2 := HC8.out.cell 2 rfl
                have yv := HC8.out.frozen 2
                go_simp
                refine hK.out _ _ trivial (fun _ => ?_)
                clear hK K
                refine wpAnyH_done (by kernel_rfl) ?_ _
                go_simp
                clear v2 yv HC8
                go_wp2_with fail
                go_roundw
                case rel => exact ⟨k + 1, L ++ [n], _, _, e8, z8, by omega, by go_num, hide (by rw [List.length_append, HLn.out]; rfl), HW8, HO8⟩
                case measure => simp [intOf]; omega
              · go_simp
                refine hK.out _ _ trivial (fun _ => ?_)
                clear hK K
                have HX6 := hide (HX5.out.below (bel1 w7 (.cells (ia n) 51)))
                refine wpAnyH_ready (rs := [1]) (by kernel_rfl) (by simp) (AllReadyH.cons rfl (fun K hK => ?_) AllReadyH.nil)
                have q2 := HX6.out.c.cell 2 rfl
                go_simp
                refine hK.out _ _ trivial (fun _ => ?_)
                clear hK K q2
                refine wpAnyH_ready (rs := [6]) (by kernel_rfl) (by simp) (AllReadyH.cons rfl (fun K hK => ?_) AllReadyH.nil)
                refine ins_step (L := L) (by rfl) _ _ (by rfl) (by rfl) HX6.out.s HX6.out.rs.ks.size _ n (by rfl) (HasC.new w7 _ _) (by rw [HLn.out]; omega) ?_
                intro g2 cap2 w8 hown hgrow
                obtain ⟨hC8, hW8⟩ := HX6.out.grow hgl hgrow hown
                rw [HLn.out] at hW8 ⊢
                have HC8 := hide hC8
                have HW8 := hide hW8
                clear hown hgrow hC8 hW8 HX6 HX5
                refine hK.out _ _ trivial (fun _ => ?_)
                clear hK K
                refine wpAnyH_take (i := 7) (v := .pointer (some ⟨C, 2, none⟩)) rfl (by kernel_rfl) (by kernel_rfl) (by kernel_rfl) (fun _ _ _ h => h) (Or.inl ⟨by rfl, fun w hS => by go_simp⟩) trivial ?_
                refine wpAnyH_ready (rs := [8]) (by kernel_rfl) (by simp) (AllReadyH.cons rfl (fun K hK => ?_) AllReadyH.nil)
                have v2 := HC8.out.cell 2 rfl
                have yv := HC8.out.frozen 2
                go_simp
                refine hK.out _ _ trivial (fun _ => ?_)
                clear hK K
                refine wpAnyH_done (by kernel_rfl) ?_ _
                go_simp
                clear v2 yv HC8
                go_wp2_with fail
                go_roundw
                case rel => exact ⟨k + 1, L ++ [n], _, _, e8, z8, by omega, by go_num, hide (by rw [List.length_append, HLn.out]; rfl), HW8, HO8⟩
                case measure => simp [intOf]; omega
          · have HO8 : Hid (Out (insS m.toNat) e6 z5 L e7 z7) := hide (by
              by_cases h6 : e6 = 0
              · have h1 := HC1.out h6
                by_cases h7 : e7 = 0
                · have : ¬ (k : Int) < m := fun h => hgo ⟨h, h7⟩
                  obtain rfl : k = c0 := by omega
                  rw [show m.toNat = k by omega]
                  exact HO7.out
                · exact ins_more (by omega) HO7.out h7
              · have := HO7.out.1 h6
                rw [this]
                exact Out.skip _ h6 _ _ _)
            have HV := hide (HW.out.s)
            clear HV
            by_cases j1 : (k : Int) < m
            · have j2 : (e7 == 0) = false := by simpa using fun h => hgo ⟨j1, h⟩
              clear hgo
              have HRg := hide (register_any m n0 n1 HW.out.rs.rp)
              clear HW6 HC1 HC2 HO7 HLn
              go_wp2_with fail
              refine HRg.out.mono ?_
              rintro en w6 ⟨o, e8, z8, rfl, hR, hK, hO⟩
              have HW8 := hide (HW.out.go hR hK)
              have HE := hide (HF.out _ _ _ _ _ _ HO8.out hO)
              clear hR hK hO HRg HW
              have HW9 := hide (HW8.out.put hgl 3 o (f' := f) (d' := d) (o' := o) rfl)
              obtain ⟨k0, k1, k2, k3⟩ := four_of HW8.out.c
              have y3 := HW8.out.c.frozen 3
              obtain ⟨a0, a1, a2, a3⟩ := four_of HW8.out.a
              obtain ⟨b0, b1, b2, b3⟩ := four_fr HW8.out.a
              have hAC : W.heap.size ≠ C := by have := HW8.out.hC; omega
              have hCA : C ≠ W.heap.size := fun h => hAC h.symm
              have zC := HW8.out.c.lt
              have zA := HW8.out.a.lt
              clear HW8 HO8 HF
              go_wp2_with fail
              obtain ⟨g1, g2, g3⟩ := HW9.out.shut hgl
              exact bodyPost_ret (whole_res g1 rfl) rfl (WhP.mk g2 g3 HE.out)
            · exfalso
              omega
  · have j1 : (v != 1) = true := by simpa using hv
    obtain ⟨e2, he2⟩ : ∃ e2, fs e1 3 = e2 := ⟨_, rfl⟩
    have HE2 : Hid (e2 = if (v == 1) = true then e1 else fs e1 3) := hide (by rw [if_neg (by simpa using hv)]; exact he2.symm)
    rw [he2] at HH
    clear hv he2
    go_wp2_with fail
    refine HH.out.mono ?_
    rintro en w10 ⟨rfl, hR, hK⟩
    have HA9 := hide (HS2.out.has HA.out (Nat.le_refl _) hK)
    have HS9 := hide (HS2.out.go hR hK)
    clear hR hK HH HS2 HA
    have HS2 := HS9
    have HA := HA9
    clear HS9 HA9
    have hAw := HA.out.lt
    have HW0 : Hid (Ws W (w10.alloc (.cells cdz 26)) q r g W.heap.size w10.heap.size e2 z1 0 0 (.slice none 0 0) 0 []) := hide ⟨HS2.out.below (bel1 _ _), HA.out.alloc _, HasC.new _ _ _, ⟨rfl, .inl ⟨rfl, rfl⟩⟩, Nat.le_refl _, hAw⟩
    have HT := hide ((take_byte HW0.out.rs.rp).mono fun en w' hh => hh.out)
    have c0 := HS2.out.rp.box.cell 0 rfl
    have zq := HS2.out.rp.box.lt
    go_wp2_with fail
    obtain ⟨C, hC⟩ : ∃ C, w10.heap.size = C := ⟨_, rfl⟩
    rw [hC] at HW0 ⊢
    refine HT.out.mono ?_
    rintro en w2 ⟨f, e3, z3, rfl, hR, hK, hO, -⟩
    have HW1 := hide (HW0.out.go hR hK)
    have HO3 := hide hO
    clear hR hK hO HT c0 zq HS2 HA hAw HW0 hC
    have HW2 := hide (HW1.out.put hgl 0 f (f' := f) (d' := 0) (o' := 0) rfl)
    have k0 := HW1.out.c.cell 0 rfl
    have y0 := HW1.out.c.frozen 0
    have HT := hide ((take_byte HW2.out.rs.rp).mono fun en w' hh => hh.out)
    have c0 := HW1.out.rs.rp.box.cell 0 rfl
    have hqC : q ≠ C := by have := HW1.out.rs.lt.1; have := HW1.out.hA; have := HW1.out.hC; omega
    go_wp2_with fail
    refine HT.out.mono ?_
    rintro en w3 ⟨d, e4, z4, rfl, hR, hK, hO, -⟩
    have HW3 := hide (HW2.out.go hR hK)
    have HO4 := hide hO
    clear hR hK hO HT c0 k0 y0 HW1 HW2
    have HW4 := hide (HW3.out.put hgl 1 d (f' := f) (d' := d) (o' := 0) rfl)
    have k0 := HW3.out.c.cell 1 rfl
    have y0 := HW3.out.c.frozen 1
    have HT := hide ((take_uint HW4.out.rs.rp).mono fun en w' hh => hh.out)
    have c0 := HW3.out.rs.rp.box.cell 0 rfl
    obtain ⟨n0, n1⟩ := nat_rng HW4.out.rs.rp.byts
    generalize (nat z4).2.1 = m at HT n0 n1
    go_wp2_with fail
    refine HT.out.mono ?_
    rintro en w4 ⟨m, e5, z5, rfl, hR, hK, hO, rfl⟩
    have HW5 := hide (HW4.out.go hR hK)
    have HO5 := hide hO
    clear hR hK hO HT c0 k0 y0 HW3 HW4
    have HFin := hide fun e6 L e7 z7 o e8 z8 h6 h7 h8 => co_out (e6 := e6) (L := L) (e7 := e7) (z7 := z7) (out := o) (e8 := e8) (z8 := z8) HO1.out HE2.out HO3.out HO4.out HO5.out h6 h7 h8
    clear HO1 HE2 HO3 HO4 HO5
    obtain ⟨sx, hsx⟩ : ∃ sx : Bool, decide (1 ≤ m ∧ m ≤ 200) = sx := ⟨_, rfl⟩
    rw [hsx] at HFin
    by_cases hm : 1 ≤ m ∧ m ≤ 200
    · obtain rfl : sx = true := by rw [← hsx]; simpa using hm
      have t1 : (m == 0) = false := by simp; omega
      have t2 : ¬ 200 < m := by omega
      have HL : ∃ c0 : Nat, c0 ≤ 200 ∧ Hid (e5 = 0 → (c0 : Int) = m) ∧ Hid (e5 ≠ 0 → c0 = 0) := by
        by_cases h0 : e5 = 0
        · exact ⟨m.toNat, by omega, fun _ => Int.toNat_of_nonneg (by omega), fun h => absurd h0 h⟩
        · exact ⟨0, Nat.zero_le _, fun h => absurd h h0, fun _ => rfl⟩
      obtain ⟨c0, hc0, HC1, HC2⟩ := HL
      have HFin2 := hide fun L e7 z7 o e8 z8 h7 h8 => HFin.out e5 L e7 z7 o e8 z8 (by simp) h7 h8
      have HF := HFin2
      clear hsx hm HFin HFin2
      obtain ⟨e6, he6⟩ : ∃ e6, e5 = e6 := ⟨_, rfl⟩
      rw [he6] at HF HW5 HC1 HC2
      have HW6 := HW5
      clear he6 HW5
      go_wp2_with fail
      go_loopw [5] (fun iv wr => ∃ (k : Nat) (L : List In) (sa : Option Addr) (sc : Nat) (e7 : Int) (z7 : List Int), k ≤ c0 ∧ iv = .int .i64 k ∧ Hid (L.length = k) ∧ Hid (Ws W wr q r g W.heap.size C e7 z7 f d (.slice sa k sc) 0 L) ∧ Hid (Out (insS k) e6 z5 L e7 z7)) (fun iv _ => c0 - (intOf iv).toNat)
      case atStart => exact ⟨0, [], none, 0, e6, z5, Nat.zero_le _, rfl, hide rfl, HW6, hide (Out.ret _ _ _)⟩
      case round =>
        obtain ⟨k, L, sa, sc, e7, z7, hk, rfl, HLn, HW, HO7⟩ := hrel
        rename World => V
        have c1 := HW.out.rs.rp.box.cell 1 rfl
        by_cases hgo : (k : Int) < m ∧ e7 = 0
        · obtain ⟨j1, rfl⟩ := hgo
          have he6 : e6 = 0 := by
            by_cases h0 : e6 = 0
            · exact h0
            · exact ((HO7.out.1 h0).symm)
          have hlt : k < c0 := by have := HC1.out he6; omega
          have HX4 := hide (HW.out.below (below_drew V))
          have HIn := hide (inst_any k (by omega) HX4.out.rs.rp)
          have HO := HO7
          clear he6 HC1 HC2 HF HW6 HO7 HW
          go_wp2_with fail
          clear c1
          refine wp_region_held_drew (S := fun _ => True) (by kernel_rfl) trivial (fun _ => ?_)
          refine wpAnyH_take (i := 0) (v := .pointer (some ⟨C, 2, none⟩)) rfl (by kernel_rfl) (by kernel_rfl) (by kernel_rfl) (fun _ _ _ h => h) (Or.inl ⟨by rfl, fun w hS => by go_simp⟩) trivial ?_
          refine wpAnyH_take (i := 2) (v := pt q) rfl (by kernel_rfl) (by kernel_rfl) (by kernel_rfl) (fun _ _ _ h => h) (Or.inl ⟨by rfl, fun w hS => by go_simp⟩) trivial ?_
          refine wpAnyH_take (i := 3) (v := .int .i64 k) rfl (by kernel_rfl) (by kernel_rfl) (by kernel_rfl) (fun _ _ _ h => h) (Or.inl ⟨by rfl, fun w hS => by go_simp⟩) trivial ?_
          refine wpAnyH_ready (rs := [1, 4]) (by kernel_rfl) (by simp) (AllReadyH.cons rfl (fun K hK => ?_) (AllReadyH.cons rfl (fun K hK => ?_) AllReadyH.nil))
          · have q2 := HX4.out.c.cell 2 rfl
            go_simp
            refine hK.out _ _ trivial (fun _ => ?_)
            clear hK K q2
            refine wpAnyH_ready (rs := [4]) (by kernel_rfl) (by simp) (AllReadyH.cons rfl (fun K hK => ?_) AllReadyH.nil)
            go_simp
            refine HIn.out.mono ?_
            rintro en w7 ⟨n, e8, z8, rfl, hR, hK2, hO⟩
            have HX5 := hide (HX4.out.go hR hK2)
            have HO8 := hide (ins_next HO.out hO)
            clear hR hK2 hO HIn
            refine hK.out _ _ trivial (fun _ => ?_)
            clear hK K
            refine wpAnyH_ready (rs := [5]) (by kernel_rfl) (by simp) (AllReadyH.cons rfl (fun K hK => ?_) AllReadyH.nil)
            go_simp
            refine hK.out _ _ trivial (fun _ => ?_)
            clear hK K
            have HX6 := hide (HX5.out.below (bel1 w7 (.cells (ia n) 51)))
            refine wpAnyH_ready (rs := [6]) (by kernel_rfl) (by simp) (AllReadyH.cons rfl (fun K hK => ?_) AllReadyH.nil)
            refine ins_step (L := L) (by rfl) _ _ (by rfl) (by rfl) HX6.out.s HX6.out.rs.ks.size _ n (by rfl) (HasC.new w7 _ _) (by rw [HLn.out]; omega) ?_
            intro g2 cap2 w8 hown hgrow
            obtain ⟨hC8, hW8⟩ := HX6.out.grow hgl hgrow hown
            rw [HLn.out] at hW8 ⊢
            have HC8 := hide hC8
            have HW8 := hide hW8
            clear hown hgrow hC8 hW8 HX6 HX5
            refine hK.out _ _ trivial (fun _ => ?_)
            clear hK K
            refine wpAnyH_take (i := 7) (v := .pointer (some ⟨C, 2, none⟩)) rfl (by kernel_rfl) (by kernel_rfl) (by kernel_rfl) (fun _ _ _ h => h) (Or.inl ⟨by rfl, fun w hS => by go_simp⟩) trivial ?_
            refine wpAnyH_ready (rs := [8]) (by kernel_rfl) (by simp) (AllReadyH.cons rfl (fun K hK => ?_) AllReadyH.nil)
            have v2 := HC8.out.cell 2 rfl
            have yv := HC8.out.frozen 2
            go_simp
            refine hK.out _ _ trivial (fun _ => ?_)
            clear hK K
            refine wpAnyH_done (by kernel_rfl) ?_ _
            go_simp
            clear v2 yv HC8
            go_wp2_with fail
            go_roundw
            case rel => exact ⟨k + 1, L ++ [n], _, _, e8, z8, by omega, by go_num, hide (by rw [List.length_append, HLn.out]; rfl), HW8, HO8⟩
            case measure => simp [intOf]; omega
          · go_simp
            refine HIn.out.mono ?_
            rintro en w7 ⟨n, e8, z8, rfl, hR, hK2, hO⟩
            have HX5 := hide (HX4.out.go hR hK2)
            have HO8 := hide (ins_next HO.out hO)
            clear hR hK2 hO HIn
            refine hK.out _ _ trivial (fun _ => ?_)
            clear hK K
            refine wpAnyH_ready (rs := [1, 5]) (by kernel_rfl) (by simp) (AllReadyH.cons rfl (fun K hK => ?_) (AllReadyH.cons rfl (fun K hK => ?_) AllReadyH.nil))
            · have q2 := HX5.out.c.cell 2 rfl
              go_simp
              refine hK.out _ _ trivial (fun _ => ?_)
              clear hK K q2
              refine wpAnyH_ready (rs := [5]) (by kernel_rfl) (by simp) (AllReadyH.cons rfl (fun K hK => ?_) AllReadyH.nil)
              go_simp
              refine hK.out _ _ trivial (fun _ => ?_)
              clear hK K
              have HX6 := hide (HX5.out.below (bel1 w7 (.cells (ia n) 51)))
              refine wpAnyH_ready (rs := [6]) (by kernel_rfl) (by simp) (AllReadyH.cons rfl (fun K hK => ?_) AllReadyH.nil)
              refine ins_step (L := L) (by rfl) _ _ (by rfl) (by rfl) HX6.out.s HX6.out.rs.ks.size _ n (by rfl) (HasC.new w7 _ _) (by rw [HLn.out]; omega) ?_
              intro g2 cap2 w8 hown hgrow
              obtain ⟨hC8, hW8⟩ := HX6.out.grow hgl hgrow hown
              rw [HLn.out] at hW8 ⊢
              have HC8 := hide hC8
              have HW8 := hide hW8
              clear hown hgrow hC8 hW8 HX6 HX5
              refine hK.out _ _ trivial (fun _ => ?_)
              clear hK K
              refine wpAnyH_take (i := 7) (v := .pointer (some ⟨C, 2, none⟩)) rfl (by kernel_rfl) (by kernel_rfl) (by kernel_rfl) (fun _ _ _ h => h) (Or.inl ⟨by rfl, fun w hS => by go_simp⟩) trivial ?_
              refine wpAnyH_ready (rs := [8]) (by kernel_rfl) (by simp) (AllReadyH.cons rfl (fun K hK => ?_) AllReadyH.nil)
              have v2 := HC8.out.cell 2 rfl
              have yv := HC8.out.frozen 2
              go_simp
              refine hK.out _ _ trivial (fun _ => ?_)
              clear hK K
              refine wpAnyH_done (by kernel_rfl) ?_ _
              go_simp
              clear v2 yv HC8
              go_wp2_with fail
              go_roundw
              case rel => exact ⟨k + 1, L ++ [n], _, _, e8, z8, by omega, by go_num, hide (by rw [List.length_append, HLn.out]; rfl), HW8, HO8⟩
              case measure => simp [intOf]; omega
            · go_simp
              refine hK.out _ _ trivial (fun _ => ?_)
              clear hK K
              have HX6 := hide (HX5.out.below (bel1 w7 (.cells (ia n) 51)))
              refine wpAnyH_ready (rs := [1]) (by kernel_rfl) (by simp) (AllReadyH.cons rfl (fun K hK => ?_) AllReadyH.nil)
              have q2 := HX6.out.c.cell 2 rfl
              go_simp
              refine hK.out _ _ trivial (fun _ => ?_)
              clear hK K q2
              refine wpAnyH_ready (rs := [6]) (by kernel_rfl) (by simp) (AllReadyH.cons rfl (fun K hK => ?_) AllReadyH.nil)
              refine ins_step (L := L) (by rfl) _ _ (by rfl) (by rfl) HX6.out.s HX6.out.rs.ks.size _ n (by rfl) (HasC.new w7 _ _) (by rw [HLn.out]; omega) ?_
              intro g2 cap2 w8 hown hgrow
              obtain ⟨hC8, hW8⟩ := HX6.out.grow hgl hgrow hown
              rw [HLn.out] at hW8 ⊢
              have HC8 := hide hC8
              have HW8 := hide hW8
              clear hown hgrow hC8 hW8 HX6 HX5
              refine hK.out _ _ trivial (fun _ => ?_)
              clear hK K
              refine wpAnyH_take (i := 7) (v := .pointer (some ⟨C, 2, none⟩)) rfl (by kernel_rfl) (by kernel_rfl) (by kernel_rfl) (fun _ _ _ h => h) (Or.inl ⟨by rfl, fun w hS => by go_simp⟩) trivial ?_
              refine wpAnyH_ready (rs := [8]) (by kernel_rfl) (by simp) (AllReadyH.cons rfl (fun K hK => ?_) AllReadyH.nil)
              have v2 := HC8.out.cell 2 rfl
              have yv := HC8.out.frozen 2
              go_simp
              refine hK.out _ _ trivial (fun _ => ?_)
              clear hK K
              refine wpAnyH_done (by kernel_rfl) ?_ _
              go_simp
              clear v2 yv HC8
              go_wp2_with fail
              go_roundw
              case rel => exact ⟨k + 1, L ++ [n], _, _, e8, z8, by omega, by go_num, hide (by rw [List.length_append, HLn.out]; rfl), HW8, HO8⟩
              case measure => simp [intOf]; omega
        · have HO8 : Hid (Out (insS m.toNat) e6 z5 L e7 z7) := hide (by
            by_cases h6 : e6 = 0
            · have h1 := HC1.out h6
              by_cases h7 : e7 = 0
              · have : ¬ (k : Int) < m := fun h => hgo ⟨h, h7⟩
                obtain rfl : k = c0 := by omega
                rw [show m.toNat = k by omega]
                exact HO7.out
              · exact ins_more (by omega) HO7.out h7
            · have := HO7.out.1 h6
              rw [this]
              exact Out.skip _ h6 _ _ _)
          have HV := hide (HW.out.s)
          clear HV
          by_cases j1 : (k : Int) < m
          · have j2 : (e7 == 0) = false := by simpa using fun h => hgo ⟨j1, h⟩
            clear hgo
            have HRg := hide (register_any m n0 n1 HW.out.rs.rp)
            clear HW6 HC1 HC2 HO7 HLn
            go_wp2_with fail
            refine HRg.out.mono ?_
            rintro en w6 ⟨o, e8, z8, rfl, hR, hK, hO⟩
            have HW8 := hide (HW.out.go hR hK)
            have HE := hide (HF.out _ _ _ _ _ _ HO8.out hO)
            clear hR hK hO HRg HW
            have HW9 := hide (HW8.out.put hgl 3 o (f' := f) (d' := d) (o' := o) rfl)
            obtain ⟨k0, k1, k2, k3⟩ := four_of HW8.out.c
            have y3 := HW8.out.c.frozen 3
            obtain ⟨a0, a1, a2, a3⟩ := four_of HW8.out.a
            obtain ⟨b0, b1, b2, b3⟩ := four_fr HW8.out.a
            have hAC : W.heap.size ≠ C := by have := HW8.out.hC; omega
            have hCA : C ≠ W.heap.size := fun h => hAC h.symm
            have zC := HW8.out.c.lt
            have zA := HW8.out.a.lt
            clear HW8 HO8 HF
            go_wp2_with fail
            obtain ⟨g1, g2, g3⟩ := HW9.out.shut hgl
            exact bodyPost_ret (whole_res g1 rfl) rfl (WhP.mk g2 g3 HE.out)
          · clear hgo c1
            have HRg := hide (register_any m n0 n1 HW.out.rs.rp)
            clear HW6 HC1 HC2 HO7 HLn
            go_wp2_with fail
            refine HRg.out.mono ?_
            rintro en w6 ⟨o, e8, z8, rfl, hR, hK, hO⟩
            have HW8 := hide (HW.out.go hR hK)
            have HE := hide (HF.out _ _ _ _ _ _ HO8.out hO)
            clear hR hK hO HRg HW
            have HW9 := hide (HW8.out.put hgl 3 o (f' := f) (d' := d) (o' := o) rfl)
            obtain ⟨k0, k1, k2, k3⟩ := four_of HW8.out.c
            have y3 := HW8.out.c.frozen 3
            obtain ⟨a0, a1, a2, a3⟩ := four_of HW8.out.a
            obtain ⟨b0, b1, b2, b3⟩ := four_fr HW8.out.a
            have hAC : W.heap.size ≠ C := by have := HW8.out.hC; omega
            have hCA : C ≠ W.heap.size := fun h => hAC h.symm
            have zC := HW8.out.c.lt
            have zA := HW8.out.a.lt
            clear HW8 HO8 HF
            go_wp2_with fail
            obtain ⟨g1, g2, g3⟩ := HW9.out.shut hgl
            exact bodyPost_ret (whole_res g1 rfl) rfl (WhP.mk g2 g3 HE.out)
    · obtain rfl : sx = false := by rw [← hsx]; simpa using hm
      have HH := hide (hold_any 15 HW5.out.rs.rp)
      have HFin2 := hide fun L e7 z7 o e8 z8 h7 h8 => HFin.out (fs e5 15) L e7 z7 o e8 z8 (by simp) h7 h8
      have HF := HFin2
      clear HFin HFin2
      obtain ⟨e6, he6⟩ : ∃ e6, fs e5 15 = e6 := ⟨_, rfl⟩
      have hb6 : e6 ≠ 0 := by
        rw [← he6]
        unfold fs
        split
        · decide
        · assumption
      rw [he6] at HF HH
      obtain ⟨c0, hc0, HC1, HC2⟩ : ∃ c0 : Nat, c0 ≤ 200 ∧ Hid (e6 = 0 → (c0 : Int) = m) ∧ Hid (e6 ≠ 0 → c0 = 0) := ⟨0, Nat.zero_le _, fun h => absurd h hb6, fun _ => rfl⟩
      clear he6 hsx
      by_cases h0 : m = 0
      · have t1 : (m == 0) = true := by simpa using h0
        clear h0 hm
        go_wp2_with fail
        refine HH.out.mono ?_
        rintro en V0 ⟨rfl, hR, hK⟩
        have HW6 := hide (HW5.out.go hR hK)
        clear hR hK HH HW5 hb6
        go_wp2_with fail
        go_loopw [5] (fun iv wr => ∃ (k : Nat) (L : List In) (sa : Option Addr) (sc : Nat) (e7 : Int) (z7 : List Int), k ≤ c0 ∧ iv = .int .i64 k ∧ Hid (L.length = k) ∧ Hid (Ws W wr q r g W.heap.size C e7 z7 f d (.slice sa k sc) 0 L) ∧ Hid (Out (insS k) e6 z5 L e7 z7)) (fun iv _ => c0 - (intOf iv).toNat)
        case atStart => exact ⟨0, [], none, 0, e6, z5, Nat.zero_le _, rfl, hide rfl, HW6, hide (Out.ret _ _ _)⟩
        case round =>
          obtain ⟨k, L, sa, sc, e7, z7, hk, rfl, HLn, HW, HO7⟩ := hrel
          rename World => V
          have c1 := HW.out.rs.rp.box.cell 1 rfl
          by_cases hgo : (k : Int) < m ∧ e7 = 0
          · obtain ⟨j1, rfl⟩ := hgo
            have he6 : e6 = 0 := by
              by_cases h0 : e6 = 0
              · exact h0
              · exact ((HO7.out.1 h0).symm)
            have hlt : k < c0 := by have := HC1.out he6; omega
            have HX4 := hide (HW.out.below (below_drew V))
            have HIn := hide (inst_any k (by omega) HX4.out.rs.rp)
            have HO := HO7
            clear he6 HC1 HC2 HF HW6 HO7 HW
            go_wp2_with fail
            clear c1
            refine wp_region_held_drew (S := fun _ => True) (by kernel_rfl) trivial (fun _ => ?_)
            refine wpAnyH_take (i := 0) (v := .pointer (some ⟨C, 2, none⟩)) rfl (by kernel_rfl) (by kernel_rfl) (by kernel_rfl) (fun _ _ _ h => h) (Or.inl ⟨by rfl, fun w hS => by go_simp⟩) trivial ?_
            refine wpAnyH_take (i := 2) (v := pt q) rfl (by kernel_rfl) (by kernel_rfl) (by kernel_rfl) (fun _ _ _ h => h) (Or.inl ⟨by rfl, fun w hS => by go_simp⟩) trivial ?_
            refine wpAnyH_take (i := 3) (v := .int .i64 k) rfl (by kernel_rfl) (by kernel_rfl) (by kernel_rfl) (fun _ _ _ h => h) (Or.inl ⟨by rfl, fun w hS => by go_simp⟩) trivial ?_
            refine wpAnyH_ready (rs := [1, 4]) (by kernel_rfl) (by simp) (AllReadyH.cons rfl (fun K hK => ?_) (AllReadyH.cons rfl (fun K hK => ?_) AllReadyH.nil))
            · have q2 := HX4.out.c.cell 2 rfl
              go_simp
              refine hK.out _ _ trivial (fun _ => ?_)
              clear hK K q2
              refine wpAnyH_ready (rs := [4]) (by kernel_rfl) (by simp) (AllReadyH.cons rfl (fun K hK => ?_) AllReadyH.nil)
              go_simp
              refine HIn.out.mono ?_
              rintro en w7 ⟨n, e8, z8, rfl, hR, hK2, hO⟩
              have HX5 := hide (HX4.out.go hR hK2)
              have HO8 := hide (ins_next HO.out hO)
              clear hR hK2 hO HIn
              refine hK.out _ _ trivial (fun _ => ?_)
              clear hK K
              refine wpAnyH_ready (rs := [5]) (by kernel_rfl) (by simp) (AllReadyH.cons rfl (fun K hK => ?_) AllReadyH.nil)
              go_simp
              refine hK.out _ _ trivial (fun _ => ?_)
              clear hK K
              have HX6 := hide (HX5.out.below (bel1 w7 (.cells (ia n) 51)))
              refine wpAnyH_ready (rs := [6]) (by kernel_rfl) (by simp) (AllReadyH.cons rfl (fun K hK => ?_) AllReadyH.nil)
              refine ins_step (L := L) (by rfl) _ _ (by rfl) (by rfl) HX6.out.s HX6.out.rs.ks.size _ n (by rfl) (HasC.new w7 _ _) (by rw [HLn.out]; omega) ?_
              intro g2 cap2 w8 hown hgrow
              obtain ⟨hC8, hW8⟩ := HX6.out.grow hgl hgrow hown
              rw [HLn.out] at hW8 ⊢
              have HC8 := hide hC8
              have HW8 := hide hW8
              clear hown hgrow hC8 hW8 HX6 HX5
              refine hK.out _ _ trivial (fun _ => ?_)
              clear hK K
              refine wpAnyH_take (i := 7) (v := .pointer (some ⟨C, 2, none⟩)) rfl (by kernel_rfl) (by kernel_rfl) (by kernel_rfl) (fun _ _ _ h => h) (Or.inl ⟨by rfl, fun w hS => by go_simp⟩) trivial ?_
              refine wpAnyH_ready (rs := [8]) (by kernel_rfl) (by simp) (AllReadyH.cons rfl (fun K hK => ?_) AllReadyH.nil)
              have v2 := HC8.out.cell 2 rfl
              have yv := HC8.out.frozen 2
              go_simp
              refine hK.out _ _ trivial (fun _ => ?_)
              clear hK K
              refine wpAnyH_done (by kernel_rfl) ?_ _
              go_simp
              clear v2 yv HC8
              go_wp2_with fail
              go_roundw
              case rel => exact ⟨k + 1, L ++ [n], _, _, e8, z8, by omega, by go_num, hide (by rw [List.length_append, HLn.out]; rfl), HW8, HO8⟩
              case measure => simp [intOf]; omega
            · go_simp
              refine HIn.out.mono ?_
              rintro en w7 ⟨n, e8, z8, rfl, hR, hK2, hO⟩
              have HX5 := hide (HX4.out.go hR hK2)
              have HO8 := hide (ins_next HO.out hO)
              clear hR hK2 hO HIn
              refine hK.out _ _ trivial (fun _ => ?_)
              clear hK K
              refine wpAnyH_ready (rs := [1, 5]) (by kernel_rfl) (by simp) (AllReadyH.cons rfl (fun K hK => ?_) (AllReadyH.cons rfl (fun K hK => ?_) AllReadyH.nil))
              · have q2 := HX5.out.c.cell 2 rfl
                go_simp
                refine hK.out _ _ trivial (fun _ => ?_)
                clear hK K q2
                refine wpAnyH_ready (rs := [5]) (by kernel_rfl) (by simp) (AllReadyH.cons rfl (fun K hK => ?_) AllReadyH.nil)
                go_simp
                refine hK.out _ _ trivial (fun _ => ?_)
                clear hK K
                have HX6 := hide (HX5.out.below (bel1 w7 (.cells (ia n) 51)))
                refine wpAnyH_ready (rs := [6]) (by kernel_rfl) (by simp) (AllReadyH.cons rfl (fun K hK => ?_) AllReadyH.nil)
                refine ins_step (L := L) (by rfl) _ _ (by rfl) (by rfl) HX6.out.s HX6.out.rs.ks.size _ n (by rfl) (HasC.new w7 _ _) (by rw [HLn.out]; omega) ?_
                intro g2 cap2 w8 hown hgrow
                obtain ⟨hC8, hW8⟩ := HX6.out.grow hgl hgrow hown
                rw [HLn.out] at hW8 ⊢
                have HC8 := hide hC8
                have HW8 := hide hW8
                clear hown hgrow hC8 hW8 HX6 HX5
                refine hK.out _ _ trivial (fun _ => ?_)
                clear hK K
                refine wpAnyH_take (i := 7) (v := .pointer (some ⟨C, 2, none⟩)) rfl (by kernel_rfl) (by kernel_rfl) (by kernel_rfl) (fun _ _ _ h => h) (Or.inl ⟨by rfl, fun w hS => by go_simp⟩) trivial ?_
                refine wpAnyH_ready (rs := [8]) (by kernel_rfl) (by simp) (AllReadyH.cons rfl (fun K hK => ?_) AllReadyH.nil)
                have v2 := HC8.out.cell 2 rfl
                have yv := HC8.out.frozen 2
                go_simp
                refine hK.out _ _ trivial (fun _ => ?_)
                clear hK K
                refine wpAnyH_done (by kernel_rfl) ?_ _
                go_simp
                clear v2 yv HC8
                go_wp2_with fail
                go_roundw
                case rel => exact ⟨k + 1, L ++ [n], _, _, e8, z8, by omega, by go_num, hide (by rw [List.length_append, HLn.out]; rfl), HW8, HO8⟩
                case measure => simp [intOf]; omega
              · go_simp
                refine hK.out _ _ trivial (fun _ => ?_)
                clear hK K
                have HX6 := hide (HX5.out.below (bel1 w7 (.cells (ia n) 51)))
                refine wpAnyH_ready (rs := [1]) (by kernel_rfl) (by simp) (AllReadyH.cons rfl (fun K hK => ?_) AllReadyH.nil)
                have q2 := HX6.out.c.cell 2 rfl
                go_simp
                refine hK.out _ _ trivial (fun _ => ?_)
                clear hK K q2
                refine wpAnyH_ready (rs := [6]) (by kernel_rfl) (by simp) (AllReadyH.cons rfl (fun K hK => ?_) AllReadyH.nil)
                refine ins_step (L := L) (by rfl) _ _ (by rfl) (by rfl) HX6.out.s HX6.out.rs.ks.size _ n (by rfl) (HasC.new w7 _ _) (by rw [HLn.out]; omega) ?_
                intro g2 cap2 w8 hown hgrow
                obtain ⟨hC8, hW8⟩ := HX6.out.grow hgl hgrow hown
                rw [HLn.out] at hW8 ⊢
                have HC8 := hide hC8
                have HW8 := hide hW8
                clear hown hgrow hC8 hW8 HX6 HX5
                refine hK.out _ _ trivial (fun _ => ?_)
                clear hK K
                refine wpAnyH_take (i := 7) (v := .pointer (some ⟨C, 2, none⟩)) rfl (by kernel_rfl) (by kernel_rfl) (by kernel_rfl) (fun _ _ _ h => h) (Or.inl ⟨by rfl, fun w hS => by go_simp⟩) trivial ?_
                refine wpAnyH_ready (rs := [8]) (by kernel_rfl) (by simp) (AllReadyH.cons rfl (fun K hK => ?_) AllReadyH.nil)
                have v2 := HC8.out.cell 2 rfl
                have yv := HC8.out.frozen 2
                go_simp
                refine hK.out _ _ trivial (fun _ => ?_)
                clear hK K
                refine wpAnyH_done (by kernel_rfl) ?_ _
                go_simp
                clear v2 yv HC8
                go_wp2_with fail
                go_roundw
                case rel => exact ⟨k + 1, L ++ [n], _, _, e8, z8, by omega, by go_num, hide (by rw [List.length_append, HLn.out]; rfl), HW8, HO8⟩
                case measure => simp [intOf]; omega
          · have HO8 : Hid (Out (insS m.toNat) e6 z5 L e7 z7) := hide (by
              by_cases h6 : e6 = 0
              · have h1 := HC1.out h6
                by_cases h7 : e7 = 0
                · have : ¬ (k : Int) < m := fun h => hgo ⟨h, h7⟩
                  obtain rfl : k = c0 := by omega
                  rw [show m.toNat = k by omega]
                  exact HO7.out
                · exact ins_more (by omega) HO7.out h7
              · have := HO7.out.1 h6
                rw [this]
                exact Out.skip _ h6 _ _ _)
            have HV := hide (HW.out.s)
            clear HV
            by_cases j1 : (k : Int) < m
            · have j2 : (e7 == 0) = false := by simpa using fun h => hgo ⟨j1, h⟩
              clear hgo
              have HRg := hide (register_any m n0 n1 HW.out.rs.rp)
              clear HW6 HC1 HC2 HO7 HLn
              go_wp2_with fail
              refine HRg.out.mono ?_
              rintro en w6 ⟨o, e8, z8, rfl, hR, hK, hO⟩
              have HW8 := hide (HW.out.go hR hK)
              have HE := hide (HF.out _ _ _ _ _ _ HO8.out hO)
              clear hR hK hO HRg HW
              have HW9 := hide (HW8.out.put hgl 3 o (f' := f) (d' := d) (o' := o) rfl)
              obtain ⟨k0, k1, k2, k3⟩ := four_of HW8.out.c
              have y3 := HW8.out.c.frozen 3
              obtain ⟨a0, a1, a2, a3⟩ := four_of HW8.out.a
              obtain ⟨b0, b1, b2, b3⟩ := four_fr HW8.out.a
              have hAC : W.heap.size ≠ C := by have := HW8.out.hC; omega
              have hCA : C ≠ W.heap.size := fun h => hAC h.symm
              have zC := HW8.out.c.lt
              have zA := HW8.out.a.lt
              clear HW8 HO8 HF
              go_wp2_with fail
              obtain ⟨g1, g2, g3⟩ := HW9.out.shut hgl
              exact bodyPost_ret (whole_res g1 rfl) rfl (WhP.mk g2 g3 HE.out)
            · clear hgo c1
              have HRg := hide (register_any m n0 n1 HW.out.rs.rp)
              clear HW6 HC1 HC2 HO7 HLn
              go_wp2_with fail
              refine HRg.out.mono ?_
              rintro en w6 ⟨o, e8, z8, rfl, hR, hK, hO⟩
              have HW8 := hide (HW.out.go hR hK)
              have HE := hide (HF.out _ _ _ _ _ _ HO8.out hO)
              clear hR hK hO HRg HW
              have HW9 := hide (HW8.out.put hgl 3 o (f' := f) (d' := d) (o' := o) rfl)
              obtain ⟨k0, k1, k2, k3⟩ := four_of HW8.out.c
              have y3 := HW8.out.c.frozen 3
              obtain ⟨a0, a1, a2, a3⟩ := four_of HW8.out.a
              obtain ⟨b0, b1, b2, b3⟩ := four_fr HW8.out.a
              have hAC : W.heap.size ≠ C := by have := HW8.out.hC; omega
              have hCA : C ≠ W.heap.size := fun h => hAC h.symm
              have zC := HW8.out.c.lt
              have zA := HW8.out.a.lt
              clear HW8 HO8 HF
              go_wp2_with fail
              obtain ⟨g1, g2, g3⟩ := HW9.out.shut hgl
              exact bodyPost_ret (whole_res g1 rfl) rfl (WhP.mk g2 g3 HE.out)
      · have t1 : (m == 0) = false := by simpa using h0
        have t2 : 200 < m := by omega
        clear h0 hm
        go_wp2_with fail
        refine HH.out.mono ?_
        rintro en V0 ⟨rfl, hR, hK⟩
        have HW6 := hide (HW5.out.go hR hK)
        clear hR hK HH HW5 hb6
        go_wp2_with fail
        go_loopw [5] (fun iv wr => ∃ (k : Nat) (L : List In) (sa : Option Addr) (sc : Nat) (e7 : Int) (z7 : List Int), k ≤ c0 ∧ iv = .int .i64 k ∧ Hid (L.length = k) ∧ Hid (Ws W wr q r g W.heap.size C e7 z7 f d (.slice sa k sc) 0 L) ∧ Hid (Out (insS k) e6 z5 L e7 z7)) (fun iv _ => c0 - (intOf iv).toNat)
        case atStart => exact ⟨0, [], none, 0, e6, z5, Nat.zero_le _, rfl, hide rfl, HW6, hide (Out.ret _ _ _)⟩
        case round =>
          obtain ⟨k, L, sa, sc, e7, z7, hk, rfl, HLn, HW, HO7⟩ := hrel
          rename World => V
          have c1 := HW.out.rs.rp.box.cell 1 rfl
          by_cases hgo : (k : Int) < m ∧ e7 = 0
          · obtain ⟨j1, rfl⟩ := hgo
            have he6 : e6 = 0 := by
              by_cases h0 : e6 = 0
              · exact h0
              · exact ((HO7.out.1 h0).symm)
            have hlt : k < c0 := by have := HC1.out he6; omega
            have HX4 := hide (HW.out.below (below_drew V))
            have HIn := hide (inst_any k (by omega) HX4.out.rs.rp)
            have HO := HO7
            clear he6 HC1 HC2 HF HW6 HO7 HW
            go_wp2_with fail
            clear c1
            refine wp_region_held_drew (S := fun _ => True) (by kernel_rfl) trivial (fun _ => ?_)
            refine wpAnyH_take (i := 0) (v := .pointer (some ⟨C, 2, none⟩)) rfl (by kernel_rfl) (by kernel_rfl) (by kernel_rfl) (fun _ _ _ h => h) (Or.inl ⟨by rfl, fun w hS => by go_simp⟩) trivial ?_
            refine wpAnyH_take (i := 2) (v := pt q) rfl (by kernel_rfl) (by kernel_rfl) (by kernel_rfl) (fun _ _ _ h => h) (Or.inl ⟨by rfl, fun w hS => by go_simp⟩) trivial ?_
            refine wpAnyH_take (i := 3) (v := .int .i64 k) rfl (by kernel_rfl) (by kernel_rfl) (by kernel_rfl) (fun _ _ _ h => h) (Or.inl ⟨by rfl, fun w hS => by go_simp⟩) trivial ?_
            refine wpAnyH_ready (rs := [1, 4]) (by kernel_rfl) (by simp) (AllReadyH.cons rfl (fun K hK => ?_) (AllReadyH.cons rfl (fun K hK => ?_) AllReadyH.nil))
            · have q2 := HX4.out.c.cell 2 rfl
              go_simp
              refine hK.out _ _ trivial (fun _ => ?_)
              clear hK K q2
              refine wpAnyH_ready (rs := [4]) (by kernel_rfl) (by simp) (AllReadyH.cons rfl (fun K hK => ?_) AllReadyH.nil)
              go_simp
              refine HIn.out.mono ?_
              rintro en w7 ⟨n, e8, z8, rfl, hR, hK2, hO⟩
              have HX5 := hide (HX4.out.go hR hK2)
              have HO8 := hide (ins_next HO.out hO)
              clear hR hK2 hO HIn
              refine hK.out _ _ trivial (fun _ => ?_)
              clear hK K
              refine wpAnyH_ready (rs := [5]) (by kernel_rfl) (by simp) (AllReadyH.cons rfl (fun K hK => ?_) AllReadyH.nil)
              go_simp
              refine hK.out _ _ trivial (fun _ => ?_)
              clear hK K
              have HX6 := hide (HX5.out.below (bel1 w7 (.cells (ia n) 51)))
              refine wpAnyH_ready (rs := [6]) (by kernel_rfl) (by simp) (AllReadyH.cons rfl (fun K hK => ?_) AllReadyH.nil)
              refine ins_step (L := L) (by rfl) _ _ (by rfl) (by rfl) HX6.out.s HX6.out.rs.ks.size _ n (by rfl) (HasC.new w7 _ _) (by rw [HLn.out]; omega) ?_
              intro g2 cap2 w8 hown hgrow
              obtain ⟨hC8, hW8⟩ := HX6.out.grow hgl hgrow hown
              rw [HLn.out] at hW8 ⊢
              have HC8 := hide hC8
              have HW8 := hide hW8
              clear hown hgrow hC8 hW8 HX6 HX5
              refine hK.out _ _ trivial (fun _ => ?_)
              clear hK K
              refine wpAnyH_take (i := 7) (v := .pointer (some ⟨C, 2, none⟩)) rfl (by kernel_rfl) (by kernel_rfl) (by kernel_rfl) (fun _ _ _ h => h) (Or.inl ⟨by rfl, fun w hS => by go_simp⟩) trivial ?_
              refine wpAnyH_ready (rs := [8]) (by kernel_rfl) (by simp) (AllReadyH.cons rfl (fun K hK => ?_) AllReadyH.nil)
              have v2 := HC8.out.cell 2 rfl
              have yv := HC8.out.frozen 2
              go_simp
              refine hK.out _ _ trivial (fun _ => ?_)
              clear hK K
              refine wpAnyH_done (by kernel_rfl) ?_ _
              go_simp
              clear v2 yv HC8
              go_wp2_with fail
              go_roundw
              case rel => exact ⟨k + 1, L ++ [n], _, _, e8, z8, by omega, by go_num, hide (by rw [List.length_append, HLn.out]; rfl), HW8, HO8⟩
              case measure => simp [intOf]; omega
            · go_simp
              refine HIn.out.mono ?_
              rintro en w7 ⟨n, e8, z8, rfl, hR, hK2, hO⟩
              have HX5 := hide (HX4.out.go hR hK2)
              have HO8 := hide (ins_next HO.out hO)
              clear hR hK2 hO HIn
              refine hK.out _ _ trivial (fun _ => ?_)
              clear hK K
              refine wpAnyH_ready (rs := [1, 5]) (by kernel_rfl) (by simp) (AllReadyH.cons rfl (fun K hK => ?_) (AllReadyH.cons rfl (fun K hK => ?_) AllReadyH.nil))
              · have q2 := HX5.out.c.cell 2 rfl
                go_simp
                refine hK.out _ _ trivial (fun _ => ?_)
                clear hK K q2
                refine wpAnyH_ready (rs := [5]) (by kernel_rfl) (by simp) (AllReadyH.cons rfl (fun K hK => ?_) AllReadyH.nil)
                go_simp
                refine hK.out _ _ trivial (fun _ => ?_)
                clear hK K
                have HX6 := hide (HX5.out.below (bel1 w7 (.cells (ia n) 51)))
                refine wpAnyH_ready (rs := [6]) (by kernel_rfl) (by simp) (AllReadyH.cons rfl (fun K hK => ?_) AllReadyH.nil)
                refine ins_step (L := L) (by rfl) _ _ (by rfl) (by rfl) HX6.out.s HX6.out.rs.ks.size _ n (by rfl) (HasC.new w7 _ _) (by rw [HLn.out]; omega) ?_
                intro g2 cap2 w8 hown hgrow
                obtain ⟨hC8, hW8⟩ := HX6.out.grow hgl hgrow hown
                rw [HLn.out] at hW8 ⊢
                have HC8 := hide hC8
                have HW8 := hide hW8
                clear hown hgrow hC8 hW8 HX6 HX5
                refine hK.out _ _ trivial (fun _ => ?_)
                clear hK K
                refine wpAnyH_take (i := 7) (v := .pointer (some ⟨C, 2, none⟩)) rfl (by kernel_rfl) (by kernel_rfl) (by kernel_rfl) (fun _ _ _ h => h) (Or.inl ⟨by rfl, fun w hS => by go_simp⟩) trivial ?_
                refine wpAnyH_ready (rs := [8]) (by kernel_rfl) (by simp) (AllReadyH.cons rfl (fun K hK => ?_) AllReadyH.nil)
                have v2 := HC8.out.cell 2 rfl
                have yv := HC8.out.frozen 2
                go_simp
                refine hK.out _ _ trivial (fun _ => ?_)
                clear hK K
                refine wpAnyH_done (by kernel_rfl) ?_ _
                go_simp
                clear v2 yv HC8
                go_wp2_with fail
                go_roundw
                case rel => exact ⟨k + 1, L ++ [n], _, _, e8, z8, by omega, by go_num, hide (by rw [List.length_append, HLn.out]; rfl), HW8, HO8⟩
                case measure => simp [intOf]; omega
              · go_simp
                refine hK.out _ _ trivial (fun _ => ?_)
                clear hK K
                have HX6 := hide (HX5.out.below (bel1 w7 (.cells (ia n) 51)))
                refine wpAnyH_ready (rs := [1]) (by kernel_rfl) (by simp) (AllReadyH.cons rfl (fun K hK => ?_) AllReadyH.nil)
                have q2 := HX6.out.c.cell 2 rfl
                go_simp
                refine hK.out _ _ trivial (fun _ => ?_)
                clear hK K q2
                refine wpAnyH_ready (rs := [6]) (by kernel_rfl) (by simp) (AllReadyH.cons rfl (fun K hK => ?_) AllReadyH.nil)
                refine ins_step (L := L) (by rfl) _ _ (by rfl) (by rfl) HX6.out.s HX6.out.rs.ks.size _ n (by rfl) (HasC.new w7 _ _) (by rw [HLn.out]; omega) ?_
                intro g2 cap2 w8 hown hgrow
                obtain ⟨hC8, hW8⟩ := HX6.out.grow hgl hgrow hown
                rw [HLn.out] at hW8 ⊢
                have HC8 := hide hC8
                have HW8 := hide hW8
                clear hown hgrow hC8 hW8 HX6 HX5
                refine hK.out _ _ trivial (fun _ => ?_)
                clear hK K
                refine wpAnyH_take (i := 7) (v := .pointer (some ⟨C, 2, none⟩)) rfl (by kernel_rfl) (by kernel_rfl) (by kernel_rfl) (fun _ _ _ h => h) (Or.inl ⟨by rfl, fun w hS => by go_simp⟩) trivial ?_
                refine wpAnyH_ready (rs := [8]) (by kernel_rfl) (by simp) (AllReadyH.cons rfl (fun K hK => ?_) AllReadyH.nil)
                have v2 := HC8.out.cell 2 rfl
                have yv := HC8.out.frozen 2
                go_simp
                refine hK.out _ _ trivial (fun _ => ?_)
                clear hK K
                refine wpAnyH_done (by kernel_rfl) ?_ _
                go_simp
                clear v2 yv HC8
                go_wp2_with fail
                go_roundw
                case rel => exact ⟨k + 1, L ++ [n], _, _, e8, z8, by omega, by go_num, hide (by rw [List.length_append, HLn.out]; rfl), HW8, HO8⟩
                case measure => simp [intOf]; omega
          · have HO8 : Hid (Out (insS m.toNat) e6 z5 L e7 z7) := hide (by
              by_cases h6 : e6 = 0
              · have h1 := HC1.out h6
                by_cases h7 : e7 = 0
                · have : ¬ (k : Int) < m := fun h => hgo ⟨h, h7⟩
                  obtain rfl : k = c0 := by omega
                  rw [show m.toNat = k by omega]
                  exact HO7.out
                · exact ins_more (by omega) HO7.out h7
              · have := HO7.out.1 h6
                rw [this]
                exact Out.skip _ h6 _ _ _)
            have HV := hide (HW.out.s)
            clear HV
            by_cases j1 : (k : Int) < m
            · have j2 : (e7 == 0) = false := by simpa using fun h => hgo ⟨j1, h⟩
              clear hgo
              have HRg := hide (register_any m n0 n1 HW.out.rs.rp)
              clear HW6 HC1 HC2 HO7 HLn
              go_wp2_with fail
              refine HRg.out.mono ?_
              rintro en w6 ⟨o, e8, z8, rfl, hR, hK, hO⟩
              have HW8 := hide (HW.out.go hR hK)
              have HE := hide (HF.out _ _ _ _ _ _ HO8.out hO)
              clear hR hK hO HRg HW
              have HW9 := hide (HW8.out.put hgl 3 o (f' := f) (d' := d) (o' := o) rfl)
              obtain ⟨k0, k1, k2, k3⟩ := four_of HW8.out.c
              have y3 := HW8.out.c.frozen 3
              obtain ⟨a0, a1, a2, a3⟩ := four_of HW8.out.a
              obtain ⟨b0, b1, b2, b3⟩ := four_fr HW8.out.a
              have hAC : W.heap.size ≠ C := by have := HW8.out.hC; omega
              have hCA : C ≠ W.heap.size := fun h => hAC h.symm
              have zC := HW8.out.c.lt
              have zA := HW8.out.a.lt
              clear HW8 HO8 HF
              go_wp2_with fail
              obtain ⟨g1, g2, g3⟩ := HW9.out.shut hgl
              exact bodyPost_ret (whole_res g1 rfl) rfl (WhP.mk g2 g3 HE.out)
            · exfalso
              omega


end Go.Proofs.Pck

/-
  The document's Decode: what it answers.
-/
import Derived.Test.YtphmamhchkolkaaMD2
import Derived.Test.YtphmamhchkolkaaMD0
import Derived.Test.YtphmamhchkolkaaMN4
namespace Go.Proofs.Pck
open Ytphmamhchkolkaa
open Go.RowKit Go.IntWalk Ytphmamhchkolkaa.Knd
open Ytphmamhchkolkaa.Oct (vb vint lim scn scan pw rdU rdI zz uz)
open Cde (In i0 ia cd is6 i6 Ins agL arN okI okT mcB ccE csB rgN rgs rgB abc zA six_of four_of at6 has_new1 below_drew xMay_any ar_five)
set_option linter.unusedVariables false

theorem has_ne {W : World} {a b : Nat} {s t : TypeId} {cs ds : Array Value} (h : HasC W a s cs) (k : HasC W b t ds) (hn : s ≠ t) : a ≠ b := by
  rintro rfl
  unfold HasC at h k
  rw [h] at k
  cases k
  exact hn rfl
theorem Tk.ne {B : Nat} {V : World} {q b : Nat} {e : Int} {zs : List Int} {t : TypeId} {cs : Array Value} (h : Tk B V q e zs) (hc : HasC V b t cs) (ht : t ≠ 69) : b ≠ q := by
  obtain ⟨v, hb⟩ := h.box
  exact has_ne hc hb ht
/-- What the document's Decode keeps: its reader, its boxes, the code so far. -/
structure Ds (W V : World) (q A C : Nat) (e : Int) (zs : List Int) (f d : Int) (sv : Value) (o : Int) (L : List In) : Prop where
  tk : Tk W.heap.size V q e zs
  a : HasC V A 26 cdz
  c : HasC V C 26 (cdv f d sv o)
  s : V.ownsRow W.heap.size 51 6 sv L.length (is6 L)
  lo : Below W.heap.size W V
  hA : W.heap.size ≤ A
  hC : A < C
theorem Ds.below {W V V' : World} {q A C : Nat} {e f d o : Int} {zs : List Int} {sv : Value} {L : List In} (h : Ds W V q A C e zs f d sv o L) (hb : Below V.heap.size V V') : Ds W V' q A C e zs f d sv o L :=
  ⟨h.tk.below hb, h.a.below hb, h.c.below hb, Cde.own_later h.s hb, bel h.lo hb, h.hA, h.hC⟩
theorem Ds.has {W V V' : World} {q A C b : Nat} {e f d o : Int} {zs : List Int} {sv : Value} {L : List In} {t : TypeId} {cs : Array Value} (h : Ds W V q A C e zs f d sv o L) (hc : HasC V b t cs) (ht : t ≠ 69) (hk : Ocm.Keeps V V' (Oq q)) : HasC V' b t cs :=
  Keeps.has hk hc (h.tk.ne hc ht)
theorem Ds.own {W V : World} {q A C : Nat} {e f d o : Int} {zs : List Int} {sv : Value} {L : List In} (h : Ds W V q A C e zs f d sv o L) : ∀ k, sv.ownBlock = some k → ¬ Oq q k := by
  rintro k hk rfl
  obtain ⟨v, hb⟩ := h.tk.box
  exact own_ne h.s hb (by decide) hk
theorem Ds.go {W V V' : World} {q A C : Nat} {e e' f d o : Int} {zs zs' : List Int} {sv : Value} {L : List In} (h : Ds W V q A C e zs f d sv o L) (k : Tk W.heap.size V' q e' zs') (hk : Ocm.Keeps V V' (Oq q)) : Ds W V' q A C e' zs' f d sv o L := by
  have hq : W.heap.size ≤ q := h.tk.1
  exact ⟨k, h.has h.a (by decide) hk, h.has h.c (by decide) hk, Keeps.own hk h.s h.own, h.lo.trans (hk.below h.lo.size (fun k (hk : k = q) => by omega)), h.hA, h.hC⟩
/-- A store into the reader's error. -/
theorem Ds.err {W V : World} {q A C : Nat} {e f d o : Int} {zs : List Int} {sv : Value} {L : List In} (h : Ds W V q A C e zs f d sv o L) (x : Int) : Ds W (V.setCell ⟨q, 1, none⟩ (.int .i64 x)) q A C x zs f d sv o L := h.go (h.tk.err x) (keeps_set _ _ _ _)
theorem keeps_at (V : World) (b i : Nat) (u : Value) : Ocm.Keeps V (V.setCell ⟨b, i, none⟩ u) (Oq b) := keeps_set V b i u
theorem Tk.other {B : Nat} {V : World} {q b i : Nat} {e : Int} {zs : List Int} (h : Tk B V q e zs) (hb : B ≤ b) (hne : b ≠ q) (u : Value) : Tk B (V.setCell ⟨b, i, none⟩ u) q e zs :=
  h.free (keeps_at V b i u) (fun e => hne e.symm) (fun k hk (e : k = b) => by omega)
/-- A store into the code's box. -/
theorem Ds.put {W V : World} {q A C : Nat} {e f d o f' d' o' : Int} {zs : List Int} {sv : Value} {L : List In} (h : Ds W V q A C e zs f d sv o L) (i : Nat) (x : Int) (hi : (cdv f d sv o).setIfInBounds i (.int .i64 x) = cdv f' d' sv o') : Ds W (V.setCell ⟨C, i, none⟩ (.int .i64 x)) q A C e zs f' d' sv o' L := by
  have hA := h.hA
  have hC := h.hC
  exact ⟨h.tk.other (by omega) (h.tk.ne h.c (by decide)) _, h.a.other (p := ⟨C, i, none⟩) (by simp; omega) _, hi ▸ h.c.set i (.int .i64 x), ownsRow_setCell_other h.s (a := ⟨C, i, none⟩) (own_ne h.s h.c (by decide)) _, h.lo.setCell (p := ⟨C, i, none⟩) (by simp; omega) _, hA, hC⟩
/-- A store into the instruction's box. -/
theorem Ds.nset {W V : World} {q A C N i : Nat} {e f d o : Int} {zs : List Int} {sv : Value} {L : List In} {cs : Array Value} (h : Ds W V q A C e zs f d sv o L) (hn : HasC V N 51 cs) (hb : W.heap.size ≤ N) (ho : sv.ownBlock ≠ some N) (u : Value) : Ds W (V.setCell ⟨N, i, none⟩ u) q A C e zs f d sv o L :=
  ⟨h.tk.other hb (h.tk.ne hn (by decide)) _, h.a.other (p := ⟨N, i, none⟩) (has_ne h.a hn (by decide)) _, h.c.other (p := ⟨N, i, none⟩) (has_ne h.c hn (by decide)) _, ownsRow_setCell_other h.s (a := ⟨N, i, none⟩) ho _, h.lo.setCell (p := ⟨N, i, none⟩) hb _, h.hA, h.hC⟩
theorem Ds.grow {W V w' : World} {q A C : Nat} {e f d o : Int} {zs : List Int} {sv v' : Value} {L M : List In} (h : Ds W V q A C e zs f d sv o L) (hg : V.grownBy w' sv.ownBlock) (hO : w'.ownsRow W.heap.size 51 6 v' M.length (is6 M)) : HasC w' C 26 (cdv f d sv o) ∧ Ds W (w'.setCell ⟨C, 2, none⟩ v') q A C e zs f d v' o M := by
  have hA := h.hA
  have hC := h.hC
  have hc := own_grow h.s hg h.c (by decide)
  have ha := own_grow h.s hg h.a (by decide)
  have hk : Ocm.Keeps V w' (fun k => W.heap.size ≤ k ∧ sv.ownBlock = some k) := (Ocm.Keeps.refl V _).grown hg fun k hk => .inl ⟨(Cde.owns_block h.s k hk).1, hk⟩
  have ht := h.tk.free hk (fun hh => h.own q hh.2 rfl) (fun k hk hh => by omega)
  exact ⟨hc, ht.other (by omega) (ht.ne hc (by decide)) _, ha.other (p := ⟨C, 2, none⟩) (by simp; omega) _, hc.set 2 v', ownsRow_setCell_other hO (a := ⟨C, 2, none⟩) (own_ne hO hc (by decide)) _, (h.lo.grown hg h.lo.size fun k hk => (Cde.owns_block h.s k hk).1).setCell (p := ⟨C, 2, none⟩) (by simp; omega) _, hA, hC⟩
set_option maxRecDepth 100000 in
theorem rdec_res {W : World} {tm : Array Value} {A : Nat} {f d o er : Int} {v : Value} (h : HasC W A 26 (cdv f d v o)) (ht : tm.getD 2 undef = pt A) (he : tm.getD 3 undef = .int .i64 er) : (results Try.f17 tm).run Try.prog W = .ok (.tuple #[.agg (cdv f d v o), .int .i64 er]) W := by
  obtain ⟨p0, p1, p2, p3⟩ := four_of h
  have ht' : tm[2]?.getD undef = pt A := by rw [← ht]; simp
  have he' : tm[3]?.getD undef = .int .i64 er := by rw [← he]; simp
  simp [results, Try.results17, go_sem, ht', he', p0, p1, p2, p3]
theorem DcP.of {W w' : World} {f d o er : Int} {L : List In} {v : Value} (hs : w'.ownsRow W.heap.size 51 6 v L.length (is6 L)) (hb : Below W.heap.size W w') : DcP W (er, (f, d, L, o)) (.returned (.tuple #[.agg (cdv f d v o), .int .i64 er])) w' := by
  obtain ⟨a, c, rfl⟩ := own_slice hs
  exact ⟨_, _, _, rfl, hs, hb⟩
/-- The parts of an instruction, put together. -/
theorem ins_parts {i : Nat} {e0 e1 e2 e3 e4 e5 op a b c k s : Int} {zs z1 z2 z3 z4 z5 : List Int} (h0 : Out byt e0 zs op e1 z1) (h1 : Out (arg (decide (0 < Spn.ar op)) i) e1 z1 a e2 z2) (h2 : Out (arg (decide (1 < Spn.ar op)) i) e2 z2 b e3 z3) (h3 : Out (arg (decide (2 < Spn.ar op)) i) e3 z3 c e4 z4) (h4 : Out (kon op) e4 z4 (k, s) e5 z5) : Out (ins i) e0 zs ⟨op, a, b, c, k, s⟩ e5 z5 := by
  unfold ins
  exact h0.bnd (h1.bnd (h2.bnd (h3.bnd (h4.bnd (z := i0) (f := fun (ks : Int × Int) => ret (⟨op, a, b, c, ks.1, ks.2⟩ : In)) (Out.ret _ _ _)))))
theorem arg_on {b : Bool} {i : Nat} {e e' x : Int} {zs zs' : List Int} (hb : b = true) (h : Out (bck i) e zs x e' zs') : Out (arg b i) e zs x e' zs' := by
  subst hb
  exact h
theorem arg_off {b : Bool} {i : Nat} {e : Int} {zs : List Int} (hb : b = false) : Out (arg b i) e zs 0 e zs := by
  subst hb
  exact Out.ret _ _ _
/-- Which constants go with how many registers. -/
theorem ar_how (op : Int) : (Spn.ar op ≤ 0 ∧ (hwZ op = 0 ∨ hwZ op = 1 ∨ hwZ op = 2)) ∨ Spn.ar op = 1 ∨ (Spn.ar op = 2 ∧ hwZ op = 0) ∨ (Spn.ar op = 3 ∧ hwZ op = 0) := by
  rcases ar_five op with h | h | h | h | h
  · refine .inl ⟨by omega, ?_⟩
    rcases hw_five op with e | e | e | e | e
    · exact .inr (.inl e)
    · exact .inr (.inr e)
    · obtain rfl := hw_thr e; exact absurd h (by decide)
    · obtain rfl := hw_fou e; exact absurd h (by decide)
    · exact .inl e
  · refine .inl ⟨by omega, ?_⟩
    rcases hw_five op with e | e | e | e | e
    · exact .inr (.inl e)
    · exact .inr (.inr e)
    · obtain rfl := hw_thr e; exact absurd h (by decide)
    · obtain rfl := hw_fou e; exact absurd h (by decide)
    · exact .inl e
  · exact .inr (.inl h)
  · refine .inr (.inr (.inl ⟨h, ?_⟩))
    rcases hw_five op with e | e | e | e | e
    · rcases hw_one e with rfl | rfl <;> exact absurd h (by decide)
    · rcases hw_two e with rfl | rfl | rfl | rfl <;> exact absurd h (by decide)
    · obtain rfl := hw_thr e; exact absurd h (by decide)
    · obtain rfl := hw_fou e; exact absurd h (by decide)
    · exact e
  · refine .inr (.inr (.inr ⟨h, ?_⟩))
    rcases hw_five op with e | e | e | e | e
    · rcases hw_one e with rfl | rfl <;> exact absurd h (by decide)
    · rcases hw_two e with rfl | rfl | rfl | rfl <;> exact absurd h (by decide)
    · obtain rfl := hw_thr e; exact absurd h (by decide)
    · obtain rfl := hw_fou e; exact absurd h (by decide)
    · exact e

set_option maxRecDepth 100000 in
set_option maxHeartbeats 16000000 in
theorem rdecode_any {a : Option Addr} {n c : Nat} {zs : List Int} {W : World} (h : Ocm.Bytes W a n c zs) : Calls Try.prog 17 #[.slice a n c] W (DcP W (deC zs)) := by
  have HL := hide h.len
  by_cases hn : 4096 < n
  · have j : (4096 : Int) < n := by omega
    have hA := HasC.new W 26 cdz
    obtain ⟨k0, k1, k2, k3⟩ := four_of hA
    obtain ⟨y0, y1, y2, y3⟩ := four_fr hA
    have HG1 := hide hA
    have HG2 := hide (bel1 W (.cells cdz 26))
    clear hA
    rw [dec_long (by rw [HL.out]; exact hn)]
    go_enter Try.func17, Try.ntmps17
    go_wp2_with fail
    exact bodyPost_ret (rdec_res HG1.out rfl rfl) rfl (DcP.bad HG2.out)
  · have j : ¬ (4096 : Int) < n := by omega
    have hl : zs.length ≤ 4096 := by rw [HL.out]; omega
    have hB2 := bel (bel1 W (.cells cdz 26)) (bel1 (W.alloc (.cells cdz 26)) (.cells #[.slice a n c, .int .i64 0] 69))
    have HT0 : Hid (Tk W.heap.size ((W.alloc (.cells cdz 26)).alloc (.cells #[.slice a n c, .int .i64 0] 69)) (W.heap.size + 1) 0 zs) := hide ⟨by omega, a, n, c, has_new1 W (.cells cdz 26) 69 #[.slice a n c, .int .i64 0], h.later hB2, fun x hx h0 => by
      obtain ⟨b, off, e, hlt, -⟩ := h.at h0
      rw [hx] at e
      cases e
      exact hlt⟩
    have HA0 := hide ((HasC.new W 26 cdz).alloc (.cells #[.slice a n c, .int .i64 0] 69))
    have HB0 := hide hB2
    have HLe := hide hl
    have HS := hide (small_any HT0.out)
    clear h hn hl HL hB2
    go_enter Try.func17, Try.ntmps17
    go_wp2_with fail
    refine HS.out.mono ?_
    rintro en w1 ⟨v, e1, z1, rfl, hT, hK, hO⟩
    have HT1 := hide hT
    have HA1 := hide (Keeps.has hK HA0.out (HT0.out.ne HA0.out (by decide)))
    have HB1 : Hid (Below W.heap.size W w1) := hide (HB0.out.trans (hK.below HB0.out.size (fun k (hk : k = W.heap.size + 1) => by omega)))
    have HO1 := hide hO
    clear hT hK hO HS HT0 HA0 HB0
    obtain ⟨q, hq⟩ : ∃ q, W.heap.size + 1 = q := ⟨_, rfl⟩
    rw [hq] at HT1 ⊢
    obtain ⟨bx, hbx⟩ := HT1.out.box
    have c1 := hbx.cell 1 rfl
    have y1 := hbx.frozen 1
    have zq := hbx.lt
    clear hq hbx
    by_cases he1 : e1 = 0
    · subst he1
      by_cases hv : v = 1
      · have j1 : (v != 1) = false := by simpa using hv
        have HE2 : Hid ((0 : Int) = if (v == 1) = true then 0 else fs 0 3) := hide (by rw [if_pos (by simpa using hv)])
        obtain ⟨e2, he2⟩ : ∃ e2 : Int, 0 = e2 := ⟨_, rfl⟩
        have HE2 : Hid (e2 = if (v == 1) = true then 0 else fs 0 3) := hide (he2 ▸ HE2.out)
        have HTX := HT1
        have HAX := HA1
        have HBX := HB1
        have hEq : w1.heap.size = w1.heap.size := rfl
        have c1 := c1
        rw [he2] at HTX
        clear hv he2
        have HD0 : Hid (Ds W (w1.alloc (.cells cdz 26)) q W.heap.size w1.heap.size e2 z1 0 0 (.slice none 0 0) 0 []) := hide ⟨HTX.out.below (bel1 _ _), HAX.out.alloc _, by rw [← hEq]; exact HasC.new _ _ _, ⟨rfl, .inl ⟨rfl, rfl⟩⟩, bel HBX.out (bel1 _ _), Nat.le_refl _, by rw [← hEq]; exact HAX.out.lt⟩
        have HS := hide (small_any HD0.out.tk)
        go_wp2_with fail
        refine HS.out.mono ?_
        rintro en w2 ⟨f, e3, z3, rfl, hT, hK, hO⟩
        have HD1 := hide (HD0.out.go hT hK)
        have HO3 := hide hO
        clear hT hK hO HS HTX HAX HBX HD0 c1 y1 zq
        obtain ⟨C, hC⟩ : ∃ C, w1.heap.size = C := ⟨_, rfl⟩
        rw [hC] at HD1 ⊢
        have HD2 := hide (HD1.out.put 0 f (f' := f) (d' := 0) (o' := 0) rfl)
        have k0 := HD1.out.c.cell 0 rfl
        have y0 := HD1.out.c.frozen 0
        have HS := hide (small_any HD2.out.tk)
        clear hC hEq
        go_wp2_with fail
        refine HS.out.mono ?_
        rintro en w3 ⟨d, e4, z4, rfl, hT, hK, hO⟩
        have HD3 := hide (HD2.out.go hT hK)
        have HO4 := hide hO
        clear hT hK hO HS HD1 HD2 k0 y0
        have HD4 := hide (HD3.out.put 1 d (f' := f) (d' := d) (o' := 0) rfl)
        have k0 := HD3.out.c.cell 1 rfl
        have y0 := HD3.out.c.frozen 1
        have HS := hide (rnatural_any HD4.out.tk)
        go_wp2_with fail
        refine HS.out.mono ?_
        rintro en w4 ⟨m, e5, z5, rfl, hT, hK, hO, n0, n1⟩
        have HD5 := hide (HD4.out.go hT hK)
        have HO5 := hide hO
        clear hT hK hO HS HD3 HD4 k0 y0
        have HFin := hide fun e6 L e7 z7 o e8 z8 h6 h7 h8 => co_out (e6 := e6) (L := L) (e7 := e7) (z7 := z7) (out := o) (e8 := e8) (z8 := z8) HO1.out HE2.out HO3.out HO4.out HO5.out h6 h7 h8
        by_cases h5 : e5 = 0
        · subst h5
          obtain ⟨bx5, hbx5⟩ := HD5.out.tk.box
          have c5 := hbx5.cell 1 rfl
          have y5 := hbx5.frozen 1
          by_cases hm : 1 ≤ m ∧ m ≤ 200
          · have t1 : (m == 0) = false := by simp; omega
            have t2 : ¬ 200 < m := by omega
            have HF := hide fun L e7 z7 o e8 z8 h7 h8 => HFin.out 0 L e7 z7 o e8 z8 (by rw [decide_eq_true hm]; rfl) h7 h8
            obtain ⟨m0, hm0⟩ : ∃ m0 : Nat, m = m0 := ⟨m.toNat, by omega⟩
            subst hm0
            have hm1 : m0 ≤ 200 := by omega
            simp only [Int.toNat_natCast] at HF
            have HF := hide HF.out
            clear HFin HO1 HE2 HO3 HO4 HO5 hbx5 hm
            go_wp2_with fail
            clear c5 y5 t1 t2
            go_loopw [8] (fun iv wr => ∃ (k : Nat) (L : List In) (sa : Option Addr) (sc : Nat) (e7 : Int) (z7 : List Int), k ≤ m0 ∧ iv = .int .i64 k ∧ Hid (L.length = k) ∧ Hid (Ds W wr q W.heap.size C e7 z7 f d (.slice sa k sc) 0 L) ∧ Hid (Out (insS k) 0 z5 L e7 z7)) (fun iv _ => m0 - (intOf iv).toNat)
            case atStart => exact ⟨0, [], none, 0, 0, z5, Nat.zero_le _, rfl, hide rfl, HD5, hide (Out.ret _ _ _)⟩
            case round =>
              obtain ⟨k, L, sa, sc, e7, z7, hk, rfl, HLn, HD, HO7⟩ := hrel
              rename World => U
              have HD6 := HD5
              clear HD5
              obtain ⟨bx7, hbx7⟩ := HD.out.tk.box
              have c7 := hbx7.cell 1 rfl
              have y7 := hbx7.frozen 1
              by_cases hgo : k < m0 ∧ e7 = 0
              · obtain ⟨hlt, rfl⟩ := hgo
                have j1 : (k : Int) < m0 := by omega
                have HS := hide (small_any HD.out.tk)
                clear HF HD6 hbx7 HLe
                go_wp2_with fail
                refine HS.out.mono ?_
                rintro en w9 ⟨op, e8, z8, rfl, hT, hK, hO⟩
                have HOop := hide hO
                have HDx := hide (HD.out.go hT hK)
                have hNb : W.heap.size ≤ w9.heap.size := HDx.out.lo.size
                have hNo : (Value.slice sa k sc).ownBlock ≠ some w9.heap.size := fun e => by have := own_lt HDx.out.s e; omega
                have HDa := hide (HDx.out.below (bel1 w9 (.cells (ia ⟨op, 0, 0, 0, 0, 0⟩) 51)))
                have HNa := hide (HasC.new w9 51 (ia ⟨op, 0, 0, 0, 0, 0⟩))
                have HAr := hide fun w => Spn.rarity_any op w
                have HHw := hide fun w => how_any op w
                obtain ⟨N, hN⟩ : ∃ N, w9.heap.size = N := ⟨_, rfl⟩
                rw [hN] at hNb hNo HNa
                clear hT hK hO HS HD HDx c7 y7
                rcases ar_how op with ⟨ha, hh | hh | hh⟩ | ha | ⟨ha, hh⟩ | ⟨ha, hh⟩
                · have q0a : ¬ 0 < Spn.ar op := by omega
                  have q1a : ¬ 1 < Spn.ar op := by omega
                  have q2a : ¬ 2 < Spn.ar op := by omega
                  rw [hh] at HHw
                  obtain ⟨b0, b1, b2, b3, b4, b5⟩ := six_of HNa.out
                  have HOn := hide (ins_next HO7.out (ins_parts HOop.out (arg_off (by simp; omega)) (arg_off (by simp; omega)) (arg_off (by simp; omega)) (kon_0 hh)))
                  obtain ⟨g0, g1, g2, g3⟩ := four_of HDa.out.c
                  obtain ⟨p0, p1, p2, p3, p4, p5⟩ := six_of HNa.out
                  have HDz := hide (HDa.out.below (bel1 _ (.cells (ia ⟨op, 0, 0, 0, 0, 0⟩) 51)))
                  have hXz := HasC.new (w9.alloc (.cells (ia ⟨op, 0, 0, 0, 0, 0⟩) 51)) 51 (ia ⟨op, 0, 0, 0, 0, 0⟩)
                  rw [World.size_alloc, hN] at hXz
                  have HXz := hide hXz
                  clear hXz
                  go_wp2_with (first
                    | (go_at_call 38; refine (HAr.out _).mono ?_; rintro en w' ⟨rfl, h2⟩; rw [h2]; clear h2)
                    | (go_at_call 30; refine (HHw.out _).mono ?_; rintro en w' ⟨rfl, h2⟩; rw [h2]; clear h2)
                    | (at_builtin; refine ins_list (L := L) rfl _ _ rfl (by rfl) HDz.out.s HDz.out.lo.size _ ⟨op, 0, 0, 0, 0, 0⟩ rfl HXz.out (by rw [HLn.out]; omega) ?_
                       intro g2' cap2 w8 hown hgrow
                       obtain ⟨hC8, hD8⟩ := HDz.out.grow hgrow hown
                       rw [HLn.out] at hD8 ⊢
                       have v2 := hC8.cell 2 rfl
                       have yv := hC8.frozen 2
                       have HD8 := hide hD8
                       clear hown hgrow hD8 hC8))
                  go_roundw
                  case rel => exact ⟨k + 1, L ++ [⟨op, 0, 0, 0, 0, 0⟩], _, _, e8, z8, by omega, by go_num, hide (by rw [List.length_append, HLn.out]; rfl), HD8, HOn⟩
                  case measure => simp [intOf]; omega
                · have q0a : ¬ 0 < Spn.ar op := by omega
                  have q1a : ¬ 1 < Spn.ar op := by omega
                  have q2a : ¬ 2 < Spn.ar op := by omega
                  rw [hh] at HHw
                  obtain ⟨b0, b1, b2, b3, b4, b5⟩ := six_of HNa.out
                  have HCl := hide (rnumber_any HDa.out.tk)
                  go_wp2_with (first
                    | (go_at_call 38; refine (HAr.out _).mono ?_; rintro en w' ⟨rfl, h2⟩; rw [h2]; clear h2)
                    | (go_at_call 30; refine (HHw.out _).mono ?_; rintro en w' ⟨rfl, h2⟩; rw [h2]; clear h2))
                  refine HCl.out.mono ?_
                  rintro en ww1 ⟨xk, ek1, zk1, rfl, hT, hK, hO⟩
                  have HO_k := hide hO
                  have HD_1 := hide (HDa.out.go hT hK)
                  have HN_1 := hide (HDa.out.has HNa.out (by decide) hK)
                  clear hT hK hO HCl b0 b1 b2 b3 b4 b5 HDa HNa
                  have q1 := HN_1.out.cell 4 rfl
                  have y1 := HN_1.out.frozen 4
                  have HDs_1 := hide (HD_1.out.nset (i := 4) HN_1.out hNb hNo (.int .i64 xk))
                  have HNs_1 : Hid (HasC (ww1.setCell ⟨N, 4, none⟩ (.int .i64 xk)) N 51 (ia ⟨op, 0, 0, 0, xk, 0⟩)) := hide (HN_1.out.set 4 (.int .i64 xk))
                  obtain ⟨b0, b1, b2, b3, b4, b5⟩ := six_of HN_1.out
                  have HOn := hide (ins_next HO7.out (ins_parts HOop.out (arg_off (by simp; omega)) (arg_off (by simp; omega)) (arg_off (by simp; omega)) (kon_1 hh HO_k.out)))
                  obtain ⟨g0, g1, g2, g3⟩ := four_of HDs_1.out.c
                  obtain ⟨p0, p1, p2, p3, p4, p5⟩ := six_of HNs_1.out
                  have HDz := hide (HDs_1.out.below (bel1 _ (.cells (ia ⟨op, 0, 0, 0, xk, 0⟩) 51)))
                  have hXz := HasC.new (ww1.setCell ⟨N, 4, none⟩ (.int .i64 xk)) 51 (ia ⟨op, 0, 0, 0, xk, 0⟩)
                  rw [World.size_setCell] at hXz
                  have HXz := hide hXz
                  clear hXz
                  go_wp2_with (first
                    | (go_at_call 38; refine (HAr.out _).mono ?_; rintro en w' ⟨rfl, h2⟩; rw [h2]; clear h2)
                    | (go_at_call 30; refine (HHw.out _).mono ?_; rintro en w' ⟨rfl, h2⟩; rw [h2]; clear h2)
                    | (at_builtin; refine ins_list (L := L) rfl _ _ rfl (by rfl) HDz.out.s HDz.out.lo.size _ ⟨op, 0, 0, 0, xk, 0⟩ rfl HXz.out (by rw [HLn.out]; omega) ?_
                       intro g2' cap2 w8 hown hgrow
                       obtain ⟨hC8, hD8⟩ := HDz.out.grow hgrow hown
                       rw [HLn.out] at hD8 ⊢
                       have v2 := hC8.cell 2 rfl
                       have yv := hC8.frozen 2
                       have HD8 := hide hD8
                       clear hown hgrow hD8 hC8))
                  go_roundw
                  case rel => exact ⟨k + 1, L ++ [⟨op, 0, 0, 0, xk, 0⟩], _, _, ek1, zk1, by omega, by go_num, hide (by rw [List.length_append, HLn.out]; rfl), HD8, HOn⟩
                  case measure => simp [intOf]; omega
                · have q0a : ¬ 0 < Spn.ar op := by omega
                  have q1a : ¬ 1 < Spn.ar op := by omega
                  have q2a : ¬ 2 < Spn.ar op := by omega
                  rw [hh] at HHw
                  obtain ⟨b0, b1, b2, b3, b4, b5⟩ := six_of HNa.out
                  have HCl := hide (small_any HDa.out.tk)
                  go_wp2_with (first
                    | (go_at_call 38; refine (HAr.out _).mono ?_; rintro en w' ⟨rfl, h2⟩; rw [h2]; clear h2)
                    | (go_at_call 30; refine (HHw.out _).mono ?_; rintro en w' ⟨rfl, h2⟩; rw [h2]; clear h2))
                  refine HCl.out.mono ?_
                  rintro en ww1 ⟨xk, ek1, zk1, rfl, hT, hK, hO⟩
                  have HO_k := hide hO
                  have HD_1 := hide (HDa.out.go hT hK)
                  have HN_1 := hide (HDa.out.has HNa.out (by decide) hK)
                  clear hT hK hO HCl b0 b1 b2 b3 b4 b5 HDa HNa
                  have q1 := HN_1.out.cell 4 rfl
                  have y1 := HN_1.out.frozen 4
                  have HDs_1 := hide (HD_1.out.nset (i := 4) HN_1.out hNb hNo (.int .i64 xk))
                  have HNs_1 : Hid (HasC (ww1.setCell ⟨N, 4, none⟩ (.int .i64 xk)) N 51 (ia ⟨op, 0, 0, 0, xk, 0⟩)) := hide (HN_1.out.set 4 (.int .i64 xk))
                  obtain ⟨b0, b1, b2, b3, b4, b5⟩ := six_of HN_1.out
                  have HOn := hide (ins_next HO7.out (ins_parts HOop.out (arg_off (by simp; omega)) (arg_off (by simp; omega)) (arg_off (by simp; omega)) (kon_2 hh HO_k.out)))
                  obtain ⟨g0, g1, g2, g3⟩ := four_of HDs_1.out.c
                  obtain ⟨p0, p1, p2, p3, p4, p5⟩ := six_of HNs_1.out
                  have HDz := hide (HDs_1.out.below (bel1 _ (.cells (ia ⟨op, 0, 0, 0, xk, 0⟩) 51)))
                  have hXz := HasC.new (ww1.setCell ⟨N, 4, none⟩ (.int .i64 xk)) 51 (ia ⟨op, 0, 0, 0, xk, 0⟩)
                  rw [World.size_setCell] at hXz
                  have HXz := hide hXz
                  clear hXz
                  go_wp2_with (first
                    | (go_at_call 38; refine (HAr.out _).mono ?_; rintro en w' ⟨rfl, h2⟩; rw [h2]; clear h2)
                    | (go_at_call 30; refine (HHw.out _).mono ?_; rintro en w' ⟨rfl, h2⟩; rw [h2]; clear h2)
                    | (at_builtin; refine ins_list (L := L) rfl _ _ rfl (by rfl) HDz.out.s HDz.out.lo.size _ ⟨op, 0, 0, 0, xk, 0⟩ rfl HXz.out (by rw [HLn.out]; omega) ?_
                       intro g2' cap2 w8 hown hgrow
                       obtain ⟨hC8, hD8⟩ := HDz.out.grow hgrow hown
                       rw [HLn.out] at hD8 ⊢
                       have v2 := hC8.cell 2 rfl
                       have yv := hC8.frozen 2
                       have HD8 := hide hD8
                       clear hown hgrow hD8 hC8))
                  go_roundw
                  case rel => exact ⟨k + 1, L ++ [⟨op, 0, 0, 0, xk, 0⟩], _, _, ek1, zk1, by omega, by go_num, hide (by rw [List.length_append, HLn.out]; rfl), HD8, HOn⟩
                  case measure => simp [intOf]; omega
                · rcases hw_five op with hh | hh | hh | hh | hh
                  · rw [ha] at HAr
                    rw [hh] at HHw
                    obtain ⟨b0, b1, b2, b3, b4, b5⟩ := six_of HNa.out
                    have HCl := hide (back_any k (by omega) (by omega) HDa.out.tk)
                    go_wp2_with (first
                      | (go_at_call 38; refine (HAr.out _).mono ?_; rintro en w' ⟨rfl, h2⟩; rw [h2]; clear h2)
                      | (go_at_call 30; refine (HHw.out _).mono ?_; rintro en w' ⟨rfl, h2⟩; rw [h2]; clear h2))
                    refine HCl.out.mono ?_
                    rintro en ww1 ⟨xa, ea1, za1, rfl, hT, hK, hO⟩
                    have HO_a := hide hO
                    have HD_1 := hide (HDa.out.go hT hK)
                    have HN_1 := hide (HDa.out.has HNa.out (by decide) hK)
                    clear hT hK hO HCl b0 b1 b2 b3 b4 b5 HDa HNa
                    have q1 := HN_1.out.cell 1 rfl
                    have y1 := HN_1.out.frozen 1
                    have HDs_1 := hide (HD_1.out.nset (i := 1) HN_1.out hNb hNo (.int .i64 xa))
                    have HNs_1 : Hid (HasC (ww1.setCell ⟨N, 1, none⟩ (.int .i64 xa)) N 51 (ia ⟨op, xa, 0, 0, 0, 0⟩)) := hide (HN_1.out.set 1 (.int .i64 xa))
                    obtain ⟨b0, b1, b2, b3, b4, b5⟩ := six_of HN_1.out
                    have HCl := hide (rnumber_any HDs_1.out.tk)
                    go_wp2_with (first
                      | (go_at_call 38; refine (HAr.out _).mono ?_; rintro en w' ⟨rfl, h2⟩; rw [h2]; clear h2)
                      | (go_at_call 30; refine (HHw.out _).mono ?_; rintro en w' ⟨rfl, h2⟩; rw [h2]; clear h2))
                    refine HCl.out.mono ?_
                    rintro en ww2 ⟨xk, ek2, zk2, rfl, hT, hK, hO⟩
                    have HO_k := hide hO
                    have HD_2 := hide (HDs_1.out.go hT hK)
                    have HN_2 := hide (HDs_1.out.has HNs_1.out (by decide) hK)
                    clear hT hK hO HCl b0 b1 b2 b3 b4 b5 q1 y1 HD_1 HN_1 HDs_1 HNs_1
                    have q2 := HN_2.out.cell 4 rfl
                    have y2 := HN_2.out.frozen 4
                    have HDs_2 := hide (HD_2.out.nset (i := 4) HN_2.out hNb hNo (.int .i64 xk))
                    have HNs_2 : Hid (HasC (ww2.setCell ⟨N, 4, none⟩ (.int .i64 xk)) N 51 (ia ⟨op, xa, 0, 0, xk, 0⟩)) := hide (HN_2.out.set 4 (.int .i64 xk))
                    obtain ⟨b0, b1, b2, b3, b4, b5⟩ := six_of HN_2.out
                    have HOn := hide (ins_next HO7.out (ins_parts HOop.out (arg_on (by simp; omega) HO_a.out) (arg_off (by simp; omega)) (arg_off (by simp; omega)) (kon_1 hh HO_k.out)))
                    obtain ⟨g0, g1, g2, g3⟩ := four_of HDs_2.out.c
                    obtain ⟨p0, p1, p2, p3, p4, p5⟩ := six_of HNs_2.out
                    have HDz := hide (HDs_2.out.below (bel1 _ (.cells (ia ⟨op, xa, 0, 0, xk, 0⟩) 51)))
                    have hXz := HasC.new (ww2.setCell ⟨N, 4, none⟩ (.int .i64 xk)) 51 (ia ⟨op, xa, 0, 0, xk, 0⟩)
                    rw [World.size_setCell] at hXz
                    have HXz := hide hXz
                    clear hXz
                    go_wp2_with (first
                      | (go_at_call 38; refine (HAr.out _).mono ?_; rintro en w' ⟨rfl, h2⟩; rw [h2]; clear h2)
                      | (go_at_call 30; refine (HHw.out _).mono ?_; rintro en w' ⟨rfl, h2⟩; rw [h2]; clear h2)
                      | (at_builtin; refine ins_list (L := L) rfl _ _ rfl (by rfl) HDz.out.s HDz.out.lo.size _ ⟨op, xa, 0, 0, xk, 0⟩ rfl HXz.out (by rw [HLn.out]; omega) ?_
                         intro g2' cap2 w8 hown hgrow
                         obtain ⟨hC8, hD8⟩ := HDz.out.grow hgrow hown
                         rw [HLn.out] at hD8 ⊢
                         have v2 := hC8.cell 2 rfl
                         have yv := hC8.frozen 2
                         have HD8 := hide hD8
                         clear hown hgrow hD8 hC8))
                    go_roundw
                    case rel => exact ⟨k + 1, L ++ [⟨op, xa, 0, 0, xk, 0⟩], _, _, ek2, zk2, by omega, by go_num, hide (by rw [List.length_append, HLn.out]; rfl), HD8, HOn⟩
                    case measure => simp [intOf]; omega
                  · rw [ha] at HAr
                    rw [hh] at HHw
                    obtain ⟨b0, b1, b2, b3, b4, b5⟩ := six_of HNa.out
                    have HCl := hide (back_any k (by omega) (by omega) HDa.out.tk)
                    go_wp2_with (first
                      | (go_at_call 38; refine (HAr.out _).mono ?_; rintro en w' ⟨rfl, h2⟩; rw [h2]; clear h2)
                      | (go_at_call 30; refine (HHw.out _).mono ?_; rintro en w' ⟨rfl, h2⟩; rw [h2]; clear h2))
                    refine HCl.out.mono ?_
                    rintro en ww1 ⟨xa, ea1, za1, rfl, hT, hK, hO⟩
                    have HO_a := hide hO
                    have HD_1 := hide (HDa.out.go hT hK)
                    have HN_1 := hide (HDa.out.has HNa.out (by decide) hK)
                    clear hT hK hO HCl b0 b1 b2 b3 b4 b5 HDa HNa
                    have q1 := HN_1.out.cell 1 rfl
                    have y1 := HN_1.out.frozen 1
                    have HDs_1 := hide (HD_1.out.nset (i := 1) HN_1.out hNb hNo (.int .i64 xa))
                    have HNs_1 : Hid (HasC (ww1.setCell ⟨N, 1, none⟩ (.int .i64 xa)) N 51 (ia ⟨op, xa, 0, 0, 0, 0⟩)) := hide (HN_1.out.set 1 (.int .i64 xa))
                    obtain ⟨b0, b1, b2, b3, b4, b5⟩ := six_of HN_1.out
                    have HCl := hide (small_any HDs_1.out.tk)
                    go_wp2_with (first
                      | (go_at_call 38; refine (HAr.out _).mono ?_; rintro en w' ⟨rfl, h2⟩; rw [h2]; clear h2)
                      | (go_at_call 30; refine (HHw.out _).mono ?_; rintro en w' ⟨rfl, h2⟩; rw [h2]; clear h2))
                    refine HCl.out.mono ?_
                    rintro en ww2 ⟨xk, ek2, zk2, rfl, hT, hK, hO⟩
                    have HO_k := hide hO
                    have HD_2 := hide (HDs_1.out.go hT hK)
                    have HN_2 := hide (HDs_1.out.has HNs_1.out (by decide) hK)
                    clear hT hK hO HCl b0 b1 b2 b3 b4 b5 q1 y1 HD_1 HN_1 HDs_1 HNs_1
                    have q2 := HN_2.out.cell 4 rfl
                    have y2 := HN_2.out.frozen 4
                    have HDs_2 := hide (HD_2.out.nset (i := 4) HN_2.out hNb hNo (.int .i64 xk))
                    have HNs_2 : Hid (HasC (ww2.setCell ⟨N, 4, none⟩ (.int .i64 xk)) N 51 (ia ⟨op, xa, 0, 0, xk, 0⟩)) := hide (HN_2.out.set 4 (.int .i64 xk))
                    obtain ⟨b0, b1, b2, b3, b4, b5⟩ := six_of HN_2.out
                    have HOn := hide (ins_next HO7.out (ins_parts HOop.out (arg_on (by simp; omega) HO_a.out) (arg_off (by simp; omega)) (arg_off (by simp; omega)) (kon_2 hh HO_k.out)))
                    obtain ⟨g0, g1, g2, g3⟩ := four_of HDs_2.out.c
                    obtain ⟨p0, p1, p2, p3, p4, p5⟩ := six_of HNs_2.out
                    have HDz := hide (HDs_2.out.below (bel1 _ (.cells (ia ⟨op, xa, 0, 0, xk, 0⟩) 51)))
                    have hXz := HasC.new (ww2.setCell ⟨N, 4, none⟩ (.int .i64 xk)) 51 (ia ⟨op, xa, 0, 0, xk, 0⟩)
                    rw [World.size_setCell] at hXz
                    have HXz := hide hXz
                    clear hXz
                    go_wp2_with (first
                      | (go_at_call 38; refine (HAr.out _).mono ?_; rintro en w' ⟨rfl, h2⟩; rw [h2]; clear h2)
                      | (go_at_call 30; refine (HHw.out _).mono ?_; rintro en w' ⟨rfl, h2⟩; rw [h2]; clear h2)
                      | (at_builtin; refine ins_list (L := L) rfl _ _ rfl (by rfl) HDz.out.s HDz.out.lo.size _ ⟨op, xa, 0, 0, xk, 0⟩ rfl HXz.out (by rw [HLn.out]; omega) ?_
                         intro g2' cap2 w8 hown hgrow
                         obtain ⟨hC8, hD8⟩ := HDz.out.grow hgrow hown
                         rw [HLn.out] at hD8 ⊢
                         have v2 := hC8.cell 2 rfl
                         have yv := hC8.frozen 2
                         have HD8 := hide hD8
                         clear hown hgrow hD8 hC8))
                    go_roundw
                    case rel => exact ⟨k + 1, L ++ [⟨op, xa, 0, 0, xk, 0⟩], _, _, ek2, zk2, by omega, by go_num, hide (by rw [List.length_append, HLn.out]; rfl), HD8, HOn⟩
                    case measure => simp [intOf]; omega
                  · rw [ha] at HAr
                    rw [hh] at HHw
                    obtain ⟨b0, b1, b2, b3, b4, b5⟩ := six_of HNa.out
                    have HCl := hide (back_any k (by omega) (by omega) HDa.out.tk)
                    go_wp2_with (first
                      | (go_at_call 38; refine (HAr.out _).mono ?_; rintro en w' ⟨rfl, h2⟩; rw [h2]; clear h2)
                      | (go_at_call 30; refine (HHw.out _).mono ?_; rintro en w' ⟨rfl, h2⟩; rw [h2]; clear h2))
                    refine HCl.out.mono ?_
                    rintro en ww1 ⟨xa, ea1, za1, rfl, hT, hK, hO⟩
                    have HO_a := hide hO
                    have HD_1 := hide (HDa.out.go hT hK)
                    have HN_1 := hide (HDa.out.has HNa.out (by decide) hK)
                    clear hT hK hO HCl b0 b1 b2 b3 b4 b5 HDa HNa
                    have q1 := HN_1.out.cell 1 rfl
                    have y1 := HN_1.out.frozen 1
                    have HDs_1 := hide (HD_1.out.nset (i := 1) HN_1.out hNb hNo (.int .i64 xa))
                    have HNs_1 : Hid (HasC (ww1.setCell ⟨N, 1, none⟩ (.int .i64 xa)) N 51 (ia ⟨op, xa, 0, 0, 0, 0⟩)) := hide (HN_1.out.set 1 (.int .i64 xa))
                    obtain ⟨b0, b1, b2, b3, b4, b5⟩ := six_of HN_1.out
                    have HCl := hide (rnatural_any HDs_1.out.tk)
                    go_wp2_with (first
                      | (go_at_call 38; refine (HAr.out _).mono ?_; rintro en w' ⟨rfl, h2⟩; rw [h2]; clear h2)
                      | (go_at_call 30; refine (HHw.out _).mono ?_; rintro en w' ⟨rfl, h2⟩; rw [h2]; clear h2))
                    refine HCl.out.mono ?_
                    rintro en ww2 ⟨xk, ek2, zk2, rfl, hT, hK, hO, -, -⟩
                    have HO_k := hide hO
                    have HD_2 := hide (HDs_1.out.go hT hK)
                    have HN_2 := hide (HDs_1.out.has HNs_1.out (by decide) hK)
                    clear hT hK hO HCl b0 b1 b2 b3 b4 b5 q1 y1 HD_1 HN_1 HDs_1 HNs_1
                    have q2 := HN_2.out.cell 4 rfl
                    have y2 := HN_2.out.frozen 4
                    have HDs_2 := hide (HD_2.out.nset (i := 4) HN_2.out hNb hNo (.int .i64 xk))
                    have HNs_2 : Hid (HasC (ww2.setCell ⟨N, 4, none⟩ (.int .i64 xk)) N 51 (ia ⟨op, xa, 0, 0, xk, 0⟩)) := hide (HN_2.out.set 4 (.int .i64 xk))
                    obtain ⟨b0, b1, b2, b3, b4, b5⟩ := six_of HN_2.out
                    have HOn := hide (ins_next HO7.out (ins_parts HOop.out (arg_on (by simp; omega) HO_a.out) (arg_off (by simp; omega)) (arg_off (by simp; omega)) (kon_3 hh HO_k.out)))
                    obtain ⟨g0, g1, g2, g3⟩ := four_of HDs_2.out.c
                    obtain ⟨p0, p1, p2, p3, p4, p5⟩ := six_of HNs_2.out
                    have HDz := hide (HDs_2.out.below (bel1 _ (.cells (ia ⟨op, xa, 0, 0, xk, 0⟩) 51)))
                    have hXz := HasC.new (ww2.setCell ⟨N, 4, none⟩ (.int .i64 xk)) 51 (ia ⟨op, xa, 0, 0, xk, 0⟩)
                    rw [World.size_setCell] at hXz
                    have HXz := hide hXz
                    clear hXz
                    go_wp2_with (first
                      | (go_at_call 38; refine (HAr.out _).mono ?_; rintro en w' ⟨rfl, h2⟩; rw [h2]; clear h2)
                      | (go_at_call 30; refine (HHw.out _).mono ?_; rintro en w' ⟨rfl, h2⟩; rw [h2]; clear h2)
                      | (at_builtin; refine ins_list (L := L) rfl _ _ rfl (by rfl) HDz.out.s HDz.out.lo.size _ ⟨op, xa, 0, 0, xk, 0⟩ rfl HXz.out (by rw [HLn.out]; omega) ?_
                         intro g2' cap2 w8 hown hgrow
                         obtain ⟨hC8, hD8⟩ := HDz.out.grow hgrow hown
                         rw [HLn.out] at hD8 ⊢
                         have v2 := hC8.cell 2 rfl
                         have yv := hC8.frozen 2
                         have HD8 := hide hD8
                         clear hown hgrow hD8 hC8))
                    go_roundw
                    case rel => exact ⟨k + 1, L ++ [⟨op, xa, 0, 0, xk, 0⟩], _, _, ek2, zk2, by omega, by go_num, hide (by rw [List.length_append, HLn.out]; rfl), HD8, HOn⟩
                    case measure => simp [intOf]; omega
                  · rw [ha] at HAr
                    rw [hh] at HHw
                    obtain ⟨b0, b1, b2, b3, b4, b5⟩ := six_of HNa.out
                    have HCl := hide (back_any k (by omega) (by omega) HDa.out.tk)
                    go_wp2_with (first
                      | (go_at_call 38; refine (HAr.out _).mono ?_; rintro en w' ⟨rfl, h2⟩; rw [h2]; clear h2)
                      | (go_at_call 30; refine (HHw.out _).mono ?_; rintro en w' ⟨rfl, h2⟩; rw [h2]; clear h2))
                    refine HCl.out.mono ?_
                    rintro en ww1 ⟨xa, ea1, za1, rfl, hT, hK, hO⟩
                    have HO_a := hide hO
                    have HD_1 := hide (HDa.out.go hT hK)
                    have HN_1 := hide (HDa.out.has HNa.out (by decide) hK)
                    clear hT hK hO HCl b0 b1 b2 b3 b4 b5 HDa HNa
                    have q1 := HN_1.out.cell 1 rfl
                    have y1 := HN_1.out.frozen 1
                    have HDs_1 := hide (HD_1.out.nset (i := 1) HN_1.out hNb hNo (.int .i64 xa))
                    have HNs_1 : Hid (HasC (ww1.setCell ⟨N, 1, none⟩ (.int .i64 xa)) N 51 (ia ⟨op, xa, 0, 0, 0, 0⟩)) := hide (HN_1.out.set 1 (.int .i64 xa))
                    obtain ⟨b0, b1, b2, b3, b4, b5⟩ := six_of HN_1.out
                    have HCl := hide (rnatural_any HDs_1.out.tk)
                    go_wp2_with (first
                      | (go_at_call 38; refine (HAr.out _).mono ?_; rintro en w' ⟨rfl, h2⟩; rw [h2]; clear h2)
                      | (go_at_call 30; refine (HHw.out _).mono ?_; rintro en w' ⟨rfl, h2⟩; rw [h2]; clear h2))
                    refine HCl.out.mono ?_
                    rintro en ww2 ⟨xk, ek2, zk2, rfl, hT, hK, hO, -, -⟩
                    have HO_k := hide hO
                    have HD_2 := hide (HDs_1.out.go hT hK)
                    have HN_2 := hide (HDs_1.out.has HNs_1.out (by decide) hK)
                    clear hT hK hO HCl b0 b1 b2 b3 b4 b5 q1 y1 HD_1 HN_1 HDs_1 HNs_1
                    have q2 := HN_2.out.cell 4 rfl
                    have y2 := HN_2.out.frozen 4
                    have HDs_2 := hide (HD_2.out.nset (i := 4) HN_2.out hNb hNo (.int .i64 xk))
                    have HNs_2 : Hid (HasC (ww2.setCell ⟨N, 4, none⟩ (.int .i64 xk)) N 51 (ia ⟨op, xa, 0, 0, xk, 0⟩)) := hide (HN_2.out.set 4 (.int .i64 xk))
                    obtain ⟨b0, b1, b2, b3, b4, b5⟩ := six_of HN_2.out
                    have HCl := hide (small_any HDs_2.out.tk)
                    go_wp2_with (first
                      | (go_at_call 38; refine (HAr.out _).mono ?_; rintro en w' ⟨rfl, h2⟩; rw [h2]; clear h2)
                      | (go_at_call 30; refine (HHw.out _).mono ?_; rintro en w' ⟨rfl, h2⟩; rw [h2]; clear h2))
                    refine HCl.out.mono ?_
                    rintro en ww3 ⟨xs, es3, zs3, rfl, hT, hK, hO⟩
                    have HO_s := hide hO
                    have HD_3 := hide (HDs_2.out.go hT hK)
                    have HN_3 := hide (HDs_2.out.has HNs_2.out (by decide) hK)
                    clear hT hK hO HCl b0 b1 b2 b3 b4 b5 q2 y2 HD_2 HN_2 HDs_2 HNs_2
                    have q3 := HN_3.out.cell 5 rfl
                    have y3 := HN_3.out.frozen 5
                    have HDs_3 := hide (HD_3.out.nset (i := 5) HN_3.out hNb hNo (.int .i64 xs))
                    have HNs_3 : Hid (HasC (ww3.setCell ⟨N, 5, none⟩ (.int .i64 xs)) N 51 (ia ⟨op, xa, 0, 0, xk, xs⟩)) := hide (HN_3.out.set 5 (.int .i64 xs))
                    obtain ⟨b0, b1, b2, b3, b4, b5⟩ := six_of HN_3.out
                    have HOn := hide (ins_next HO7.out (ins_parts HOop.out (arg_on (by simp; omega) HO_a.out) (arg_off (by simp; omega)) (arg_off (by simp; omega)) (kon_4 hh HO_k.out HO_s.out)))
                    obtain ⟨g0, g1, g2, g3⟩ := four_of HDs_3.out.c
                    obtain ⟨p0, p1, p2, p3, p4, p5⟩ := six_of HNs_3.out
                    have HDz := hide (HDs_3.out.below (bel1 _ (.cells (ia ⟨op, xa, 0, 0, xk, xs⟩) 51)))
                    have hXz := HasC.new (ww3.setCell ⟨N, 5, none⟩ (.int .i64 xs)) 51 (ia ⟨op, xa, 0, 0, xk, xs⟩)
                    rw [World.size_setCell] at hXz
                    have HXz := hide hXz
                    clear hXz
                    go_wp2_with (first
                      | (go_at_call 38; refine (HAr.out _).mono ?_; rintro en w' ⟨rfl, h2⟩; rw [h2]; clear h2)
                      | (go_at_call 30; refine (HHw.out _).mono ?_; rintro en w' ⟨rfl, h2⟩; rw [h2]; clear h2)
                      | (at_builtin; refine ins_list (L := L) rfl _ _ rfl (by rfl) HDz.out.s HDz.out.lo.size _ ⟨op, xa, 0, 0, xk, xs⟩ rfl HXz.out (by rw [HLn.out]; omega) ?_
                         intro g2' cap2 w8 hown hgrow
                         obtain ⟨hC8, hD8⟩ := HDz.out.grow hgrow hown
                         rw [HLn.out] at hD8 ⊢
                         have v2 := hC8.cell 2 rfl
                         have yv := hC8.frozen 2
                         have HD8 := hide hD8
                         clear hown hgrow hD8 hC8))
                    go_roundw
                    case rel => exact ⟨k + 1, L ++ [⟨op, xa, 0, 0, xk, xs⟩], _, _, es3, zs3, by omega, by go_num, hide (by rw [List.length_append, HLn.out]; rfl), HD8, HOn⟩
                    case measure => simp [intOf]; omega
                  · rw [ha] at HAr
                    rw [hh] at HHw
                    obtain ⟨b0, b1, b2, b3, b4, b5⟩ := six_of HNa.out
                    have HCl := hide (back_any k (by omega) (by omega) HDa.out.tk)
                    go_wp2_with (first
                      | (go_at_call 38; refine (HAr.out _).mono ?_; rintro en w' ⟨rfl, h2⟩; rw [h2]; clear h2)
                      | (go_at_call 30; refine (HHw.out _).mono ?_; rintro en w' ⟨rfl, h2⟩; rw [h2]; clear h2))
                    refine HCl.out.mono ?_
                    rintro en ww1 ⟨xa, ea1, za1, rfl, hT, hK, hO⟩
                    have HO_a := hide hO
                    have HD_1 := hide (HDa.out.go hT hK)
                    have HN_1 := hide (HDa.out.has HNa.out (by decide) hK)
                    clear hT hK hO HCl b0 b1 b2 b3 b4 b5 HDa HNa
                    have q1 := HN_1.out.cell 1 rfl
                    have y1 := HN_1.out.frozen 1
                    have HDs_1 := hide (HD_1.out.nset (i := 1) HN_1.out hNb hNo (.int .i64 xa))
                    have HNs_1 : Hid (HasC (ww1.setCell ⟨N, 1, none⟩ (.int .i64 xa)) N 51 (ia ⟨op, xa, 0, 0, 0, 0⟩)) := hide (HN_1.out.set 1 (.int .i64 xa))
                    obtain ⟨b0, b1, b2, b3, b4, b5⟩ := six_of HN_1.out
                    have HOn := hide (ins_next HO7.out (ins_parts HOop.out (arg_on (by simp; omega) HO_a.out) (arg_off (by simp; omega)) (arg_off (by simp; omega)) (kon_0 hh)))
                    obtain ⟨g0, g1, g2, g3⟩ := four_of HDs_1.out.c
                    obtain ⟨p0, p1, p2, p3, p4, p5⟩ := six_of HNs_1.out
                    have HDz := hide (HDs_1.out.below (bel1 _ (.cells (ia ⟨op, xa, 0, 0, 0, 0⟩) 51)))
                    have hXz := HasC.new (ww1.setCell ⟨N, 1, none⟩ (.int .i64 xa)) 51 (ia ⟨op, xa, 0, 0, 0, 0⟩)
                    rw [World.size_setCell] at hXz
                    have HXz := hide hXz
                    clear hXz
                    go_wp2_with (first
                      | (go_at_call 38; refine (HAr.out _).mono ?_; rintro en w' ⟨rfl, h2⟩; rw [h2]; clear h2)
                      | (go_at_call 30; refine (HHw.out _).mono ?_; rintro en w' ⟨rfl, h2⟩; rw [h2]; clear h2)
                      | (at_builtin; refine ins_list (L := L) rfl _ _ rfl (by rfl) HDz.out.s HDz.out.lo.size _ ⟨op, xa, 0, 0, 0, 0⟩ rfl HXz.out (by rw [HLn.out]; omega) ?_
                         intro g2' cap2 w8 hown hgrow
                         obtain ⟨hC8, hD8⟩ := HDz.out.grow hgrow hown
                         rw [HLn.out] at hD8 ⊢
                         have v2 := hC8.cell 2 rfl
                         have yv := hC8.frozen 2
                         have HD8 := hide hD8
                         clear hown hgrow hD8 hC8))
                    go_roundw
                    case rel => exact ⟨k + 1, L ++ [⟨op, xa, 0, 0, 0, 0⟩], _, _, ea1, za1, by omega, by go_num, hide (by rw [List.length_append, HLn.out]; rfl), HD8, HOn⟩
                    case measure => simp [intOf]; omega
                · rw [ha] at HAr
                  rw [hh] at HHw
                  obtain ⟨b0, b1, b2, b3, b4, b5⟩ := six_of HNa.out
                  have HCl := hide (back_any k (by omega) (by omega) HDa.out.tk)
                  go_wp2_with (first
                    | (go_at_call 38; refine (HAr.out _).mono ?_; rintro en w' ⟨rfl, h2⟩; rw [h2]; clear h2)
                    | (go_at_call 30; refine (HHw.out _).mono ?_; rintro en w' ⟨rfl, h2⟩; rw [h2]; clear h2))
                  refine HCl.out.mono ?_
                  rintro en ww1 ⟨xa, ea1, za1, rfl, hT, hK, hO⟩
                  have HO_a := hide hO
                  have HD_1 := hide (HDa.out.go hT hK)
                  have HN_1 := hide (HDa.out.has HNa.out (by decide) hK)
                  clear hT hK hO HCl b0 b1 b2 b3 b4 b5 HDa HNa
                  have q1 := HN_1.out.cell 1 rfl
                  have y1 := HN_1.out.frozen 1
                  have HDs_1 := hide (HD_1.out.nset (i := 1) HN_1.out hNb hNo (.int .i64 xa))
                  have HNs_1 : Hid (HasC (ww1.setCell ⟨N, 1, none⟩ (.int .i64 xa)) N 51 (ia ⟨op, xa, 0, 0, 0, 0⟩)) := hide (HN_1.out.set 1 (.int .i64 xa))
                  obtain ⟨b0, b1, b2, b3, b4, b5⟩ := six_of HN_1.out
                  have HCl := hide (back_any k (by omega) (by omega) HDs_1.out.tk)
                  go_wp2_with (first
                    | (go_at_call 38; refine (HAr.out _).mono ?_; rintro en w' ⟨rfl, h2⟩; rw [h2]; clear h2)
                    | (go_at_call 30; refine (HHw.out _).mono ?_; rintro en w' ⟨rfl, h2⟩; rw [h2]; clear h2))
                  refine HCl.out.mono ?_
                  rintro en ww2 ⟨xb, eb2, zb2, rfl, hT, hK, hO⟩
                  have HO_b := hide hO
                  have HD_2 := hide (HDs_1.out.go hT hK)
                  have HN_2 := hide (HDs_1.out.has HNs_1.out (by decide) hK)
                  clear hT hK hO HCl b0 b1 b2 b3 b4 b5 q1 y1 HD_1 HN_1 HDs_1 HNs_1
                  have q2 := HN_2.out.cell 2 rfl
                  have y2 := HN_2.out.frozen 2
                  have HDs_2 := hide (HD_2.out.nset (i := 2) HN_2.out hNb hNo (.int .i64 xb))
                  have HNs_2 : Hid (HasC (ww2.setCell ⟨N, 2, none⟩ (.int .i64 xb)) N 51 (ia ⟨op, xa, xb, 0, 0, 0⟩)) := hide (HN_2.out.set 2 (.int .i64 xb))
                  obtain ⟨b0, b1, b2, b3, b4, b5⟩ := six_of HN_2.out
                  have HOn := hide (ins_next HO7.out (ins_parts HOop.out (arg_on (by simp; omega) HO_a.out) (arg_on (by simp; omega) HO_b.out) (arg_off (by simp; omega)) (kon_0 hh)))
                  obtain ⟨g0, g1, g2, g3⟩ := four_of HDs_2.out.c
                  obtain ⟨p0, p1, p2, p3, p4, p5⟩ := six_of HNs_2.out
                  have HDz := hide (HDs_2.out.below (bel1 _ (.cells (ia ⟨op, xa, xb, 0, 0, 0⟩) 51)))
                  have hXz := HasC.new (ww2.setCell ⟨N, 2, none⟩ (.int .i64 xb)) 51 (ia ⟨op, xa, xb, 0, 0, 0⟩)
                  rw [World.size_setCell] at hXz
                  have HXz := hide hXz
                  clear hXz
                  go_wp2_with (first
                    | (go_at_call 38; refine (HAr.out _).mono ?_; rintro en w' ⟨rfl, h2⟩; rw [h2]; clear h2)
                    | (go_at_call 30; refine (HHw.out _).mono ?_; rintro en w' ⟨rfl, h2⟩; rw [h2]; clear h2)
                    | (at_builtin; refine ins_list (L := L) rfl _ _ rfl (by rfl) HDz.out.s HDz.out.lo.size _ ⟨op, xa, xb, 0, 0, 0⟩ rfl HXz.out (by rw [HLn.out]; omega) ?_
                       intro g2' cap2 w8 hown hgrow
                       obtain ⟨hC8, hD8⟩ := HDz.out.grow hgrow hown
                       rw [HLn.out] at hD8 ⊢
                       have v2 := hC8.cell 2 rfl
                       have yv := hC8.frozen 2
                       have HD8 := hide hD8
                       clear hown hgrow hD8 hC8))
                  go_roundw
                  case rel => exact ⟨k + 1, L ++ [⟨op, xa, xb, 0, 0, 0⟩], _, _, eb2, zb2, by omega, by go_num, hide (by rw [List.length_append, HLn.out]; rfl), HD8, HOn⟩
                  case measure => simp [intOf]; omega
                · rw [ha] at HAr
                  rw [hh] at HHw
                  obtain ⟨b0, b1, b2, b3, b4, b5⟩ := six_of HNa.out
                  have HCl := hide (back_any k (by omega) (by omega) HDa.out.tk)
                  go_wp2_with (first
                    | (go_at_call 38; refine (HAr.out _).mono ?_; rintro en w' ⟨rfl, h2⟩; rw [h2]; clear h2)
                    | (go_at_call 30; refine (HHw.out _).mono ?_; rintro en w' ⟨rfl, h2⟩; rw [h2]; clear h2))
                  refine HCl.out.mono ?_
                  rintro en ww1 ⟨xa, ea1, za1, rfl, hT, hK, hO⟩
                  have HO_a := hide hO
                  have HD_1 := hide (HDa.out.go hT hK)
                  have HN_1 := hide (HDa.out.has HNa.out (by decide) hK)
                  clear hT hK hO HCl b0 b1 b2 b3 b4 b5 HDa HNa
                  have q1 := HN_1.out.cell 1 rfl
                  have y1 := HN_1.out.frozen 1
                  have HDs_1 := hide (HD_1.out.nset (i := 1) HN_1.out hNb hNo (.int .i64 xa))
                  have HNs_1 : Hid (HasC (ww1.setCell ⟨N, 1, none⟩ (.int .i64 xa)) N 51 (ia ⟨op, xa, 0, 0, 0, 0⟩)) := hide (HN_1.out.set 1 (.int .i64 xa))
                  obtain ⟨b0, b1, b2, b3, b4, b5⟩ := six_of HN_1.out
                  have HCl := hide (back_any k (by omega) (by omega) HDs_1.out.tk)
                  go_wp2_with (first
                    | (go_at_call 38; refine (HAr.out _).mono ?_; rintro en w' ⟨rfl, h2⟩; rw [h2]; clear h2)
                    | (go_at_call 30; refine (HHw.out _).mono ?_; rintro en w' ⟨rfl, h2⟩; rw [h2]; clear h2))
                  refine HCl.out.mono ?_
                  rintro en ww2 ⟨xb, eb2, zb2, rfl, hT, hK, hO⟩
                  have HO_b := hide hO
                  have HD_2 := hide (HDs_1.out.go hT hK)
                  have HN_2 := hide (HDs_1.out.has HNs_1.out (by decide) hK)
                  clear hT hK hO HCl b0 b1 b2 b3 b4 b5 q1 y1 HD_1 HN_1 HDs_1 HNs_1
                  have q2 := HN_2.out.cell 2 rfl
                  have y2 := HN_2.out.frozen 2
                  have HDs_2 := hide (HD_2.out.nset (i := 2) HN_2.out hNb hNo (.int .i64 xb))
                  have HNs_2 : Hid (HasC (ww2.setCell ⟨N, 2, none⟩ (.int .i64 xb)) N 51 (ia ⟨op, xa, xb, 0, 0, 0⟩)) := hide (HN_2.out.set 2 (.int .i64 xb))
                  obtain ⟨b0, b1, b2, b3, b4, b5⟩ := six_of HN_2.out
                  have HCl := hide (back_any k (by omega) (by omega) HDs_2.out.tk)
                  go_wp2_with (first
                    | (go_at_call 38; refine (HAr.out _).mono ?_; rintro en w' ⟨rfl, h2⟩; rw [h2]; clear h2)
                    | (go_at_call 30; refine (HHw.out _).mono ?_; rintro en w' ⟨rfl, h2⟩; rw [h2]; clear h2))
                  refine HCl.out.mono ?_
                  rintro en ww3 ⟨xc, ec3, zc3, rfl, hT, hK, hO⟩
                  have HO_c := hide hO
                  have HD_3 := hide (HDs_2.out.go hT hK)
                  have HN_3 := hide (HDs_2.out.has HNs_2.out (by decide) hK)
                  clear hT hK hO HCl b0 b1 b2 b3 b4 b5 q2 y2 HD_2 HN_2 HDs_2 HNs_2
                  have q3 := HN_3.out.cell 3 rfl
                  have y3 := HN_3.out.frozen 3
                  have HDs_3 := hide (HD_3.out.nset (i := 3) HN_3.out hNb hNo (.int .i64 xc))
                  have HNs_3 : Hid (HasC (ww3.setCell ⟨N, 3, none⟩ (.int .i64 xc)) N 51 (ia ⟨op, xa, xb, xc, 0, 0⟩)) := hide (HN_3.out.set 3 (.int .i64 xc))
                  obtain ⟨b0, b1, b2, b3, b4, b5⟩ := six_of HN_3.out
                  have HOn := hide (ins_next HO7.out (ins_parts HOop.out (arg_on (by simp; omega) HO_a.out) (arg_on (by simp; omega) HO_b.out) (arg_on (by simp; omega) HO_c.out) (kon_0 hh)))
                  obtain ⟨g0, g1, g2, g3⟩ := four_of HDs_3.out.c
                  obtain ⟨p0, p1, p2, p3, p4, p5⟩ := six_of HNs_3.out
                  have HDz := hide (HDs_3.out.below (bel1 _ (.cells (ia ⟨op, xa, xb, xc, 0, 0⟩) 51)))
                  have hXz := HasC.new (ww3.setCell ⟨N, 3, none⟩ (.int .i64 xc)) 51 (ia ⟨op, xa, xb, xc, 0, 0⟩)
                  rw [World.size_setCell] at hXz
                  have HXz := hide hXz
                  clear hXz
                  go_wp2_with (first
                    | (go_at_call 38; refine (HAr.out _).mono ?_; rintro en w' ⟨rfl, h2⟩; rw [h2]; clear h2)
                    | (go_at_call 30; refine (HHw.out _).mono ?_; rintro en w' ⟨rfl, h2⟩; rw [h2]; clear h2)
                    | (at_builtin; refine ins_list (L := L) rfl _ _ rfl (by rfl) HDz.out.s HDz.out.lo.size _ ⟨op, xa, xb, xc, 0, 0⟩ rfl HXz.out (by rw [HLn.out]; omega) ?_
                       intro g2' cap2 w8 hown hgrow
                       obtain ⟨hC8, hD8⟩ := HDz.out.grow hgrow hown
                       rw [HLn.out] at hD8 ⊢
                       have v2 := hC8.cell 2 rfl
                       have yv := hC8.frozen 2
                       have HD8 := hide hD8
                       clear hown hgrow hD8 hC8))
                  go_roundw
                  case rel => exact ⟨k + 1, L ++ [⟨op, xa, xb, xc, 0, 0⟩], _, _, ec3, zc3, by omega, by go_num, hide (by rw [List.length_append, HLn.out]; rfl), HD8, HOn⟩
                  case measure => simp [intOf]; omega
              · have HO8 : Hid (Out (insS m0) 0 z5 L e7 z7) := hide (by
                  by_cases h7 : e7 = 0
                  · obtain rfl : k = m0 := by
                      have : ¬ k < m0 := fun h => hgo ⟨h, h7⟩
                      omega
                    exact HO7.out
                  · exact ins_more hk HO7.out h7)
                by_cases h7 : e7 = 0
                · subst h7
                  have hlt : ¬ (k : Int) < m0 := fun h => hgo ⟨by omega, rfl⟩
                  have HS := hide (back_any m0 (by omega) (by omega) HD.out.tk)
                  clear hgo HD6 HO7 hbx7
                  go_wp2_with fail
                  refine HS.out.mono ?_
                  rintro en w9 ⟨o, e8, z8, rfl, hT, hK, hO⟩
                  have HD9 := hide (HD.out.go hT hK)
                  have HOut := hide (HF.out _ _ _ _ _ _ HO8.out hO)
                  clear hT hK hO HS HD HO8 HF c7 y7
                  have HDb := hide (HD9.out.put 3 o (f' := f) (d' := d) (o' := o) rfl)
                  have k0 := HD9.out.c.cell 3 rfl
                  have y0 := HD9.out.c.frozen 3
                  have HCl := hide (four_of HD9.out.c)
                  obtain ⟨V9, hV9⟩ : ∃ V9, w9.setCell ⟨C, 3, none⟩ (.int .i64 o) = V9 := ⟨_, rfl⟩
                  rw [hV9] at HDb
                  obtain ⟨-, ba, bn, bc, hb1, hb2, -⟩ := id HDb.out.tk
                  have u0' := hb1.cell 0 rfl
                  have u1' := hb1.cell 1 rfl
                  have v1' := hb1.frozen 1
                  have hbl := hb2.len
                  clear hb1 hb2
                  by_cases h8 : e8 = 0
                  · subst h8
                    by_cases hz : 0 < bn
                    · have hz' : (0 : Int) < bn := by omega
                      have hd5 : Ocm.doneE z8.length = 5 := by
                        unfold Ocm.doneE
                        rw [if_neg (by omega)]
                      have HDc := hide (HDb.out.err 5)
                      have hdec : deC zs = (5, c0) := (dec_end HLe.out HOut.out (e3 := 5) (by rw [hd5]; rfl)).1 (by decide)
                      obtain ⟨V10, hV10⟩ : ∃ V10, V9.setCell ⟨q, 1, none⟩ (.int .i64 5) = V10 := ⟨_, rfl⟩
                      rw [hV10] at HDc
                      obtain ⟨bx9, hbx9⟩ := HDc.out.tk.box
                      have c9 := hbx9.cell 1 rfl
                      have b9 := (hbx9.below (below_drew _)).cell 1 rfl
                      have hA9 := HDc.out.a
                      have hAq := HDc.out.tk.ne hA9 (by decide)
                      have hqA := hAq.symm
                      obtain ⟨k0, k1, k2, k3⟩ := four_of hA9
                      obtain ⟨y0', y1', y2', y3'⟩ := four_fr hA9
                      obtain ⟨r0, r1, r2, r3⟩ := four_of (hA9.below (below_drew _))
                      obtain ⟨x0', x1', x2', x3'⟩ := four_fr (hA9.below (below_drew _))
                      have je : ((5 : Int) != 0) = true := by simp
                      have je2 : ((5 : Int) == 0) = false := by simp
                      obtain ⟨g1, g2⟩ := put_four (w := W) (hA9.below (below_drew _)) rfl (bel HDc.out.lo (below_drew _)) HDc.out.hA (.int .i64 0) (.int .i64 0) (.slice none 0 0) (.int .i64 0)
                      have HG1 := hide g1
                      have HG2 := hide g2
                      have HEd := hide (hdec)
                      clear hbx9 hA9 g1 g2
                      clear hdec HOut HD9 HDb hd5 hbl hz HCl
                      go_wp2_with fail
                      go_region
                      all_goals
                        go_wp2_with fail
                        rw [HEd.out]
                        exact bodyPost_ret (rdec_res HG1.out rfl rfl) rfl (DcP.bad HG2.out)
                    · have hz' : ¬ (0 : Int) < bn := by omega
                      have hz8 : z8 = [] := List.length_eq_zero_iff.1 (by omega)
                      subst hz8
                      obtain ⟨a', c', ea, hI, -⟩ := Ins.of_owns HDb.out.s
                      rw [HLn.out] at ea hI
                      cases ea
                      have HMy := hide (xMay_any f d o hI)
                      obtain ⟨k0', k1', k2', k3'⟩ := four_of HDb.out.c
                      cases hmc : mcB f d L o
                      · rw [hmc] at HMy
                        have hcc : ccE f d L o = 15 := by unfold ccE; rw [hmc]; rfl
                        have hdec : deC zs = (15, c0) := (dec_end HLe.out HOut.out (e3 := 15) (by rw [hcc]; rfl)).1 (by decide)
                        have HDec := hide hdec
                        clear hI hcc hmc HOut HD9 hdec hbl hz
                        go_wp2_with fail
                        refine HMy.out.mono ?_
                        rintro en w10 ⟨rfl, hb⟩
                        have HDm := hide (HDb.out.below hb)
                        obtain ⟨bz, hbz⟩ := HDm.out.tk.box
                        have u2' := hbz.cell 1 rfl
                        have v2' := hbz.frozen 1
                        have HDc := hide (HDm.out.err 15)
                        obtain ⟨V11, hV11⟩ : ∃ V11, w10.setCell ⟨q, 1, none⟩ (.int .i64 15) = V11 := ⟨_, rfl⟩
                        rw [hV11] at HDc
                        obtain ⟨bx9, hbx9⟩ := HDc.out.tk.box
                        have c9 := hbx9.cell 1 rfl
                        have b9 := (hbx9.below (below_drew _)).cell 1 rfl
                        have hA9 := HDc.out.a
                        have hAq := HDc.out.tk.ne hA9 (by decide)
                        have hqA := hAq.symm
                        obtain ⟨k0, k1, k2, k3⟩ := four_of hA9
                        obtain ⟨y0', y1', y2', y3'⟩ := four_fr hA9
                        obtain ⟨r0, r1, r2, r3⟩ := four_of (hA9.below (below_drew _))
                        obtain ⟨x0', x1', x2', x3'⟩ := four_fr (hA9.below (below_drew _))
                        have je : ((15 : Int) != 0) = true := by simp
                        have je2 : ((15 : Int) == 0) = false := by simp
                        obtain ⟨g1, g2⟩ := put_four (w := W) (hA9.below (below_drew _)) rfl (bel HDc.out.lo (below_drew _)) HDc.out.hA (.int .i64 0) (.int .i64 0) (.slice none 0 0) (.int .i64 0)
                        have HG1 := hide g1
                        have HG2 := hide g2
                        have HEd := hide (HDec.out)
                        clear hbx9 hA9 g1 g2
                        clear hb hbz HDm HDb HMy HDec u0' u1' v1' k0 y0
                        go_wp2_with fail
                        go_region
                        all_goals
                          go_wp2_with fail
                          rw [HEd.out]
                          exact bodyPost_ret (rdec_res HG1.out rfl rfl) rfl (DcP.bad HG2.out)
                      · rw [hmc] at HMy
                        have hcc : ccE f d L o = 0 := by unfold ccE; rw [hmc]; rfl
                        have hdec : deC zs = (0, (f, d, L, o)) := (dec_end HLe.out HOut.out (e3 := 0) (by rw [hcc]; rfl)).2 rfl
                        have HDec := hide hdec
                        clear hI hcc hmc HOut HD9 hdec hbl hz
                        go_wp2_with fail
                        refine HMy.out.mono ?_
                        rintro en w10 ⟨rfl, hb⟩
                        have HDm := hide (HDb.out.below hb)
                        obtain ⟨bz, hbz⟩ := HDm.out.tk.box
                        have u2' := hbz.cell 1 rfl
                        have hA9 := HDm.out.a
                        obtain ⟨m0', m1', m2', m3'⟩ := four_of HDm.out.c
                        obtain ⟨n0', n1', n2', n3'⟩ := four_of hA9
                        obtain ⟨x0', x1', x2', x3'⟩ := four_fr hA9
                        have hAC : W.heap.size ≠ C := by have := HDm.out.hC; omega
                        have hCA := hAC.symm
                        obtain ⟨g1, g2⟩ := put_four (w := W) hA9 rfl HDm.out.lo HDm.out.hA (.int .i64 f) (.int .i64 d) (.slice sa k sc) (.int .i64 o)
                        have g3 := own_four HDm.out.s hA9 (by decide) (.int .i64 f) (.int .i64 d) (.slice sa k sc) (.int .i64 o)
                        have HG1 := hide g1
                        have HG2 := hide g2
                        have HG3 := hide g3
                        clear hb hbz HDm HDb HMy u0' u1' v1' k0 y0 g1 g2 g3 hA9 k0' k1' k2' k3'
                        go_wp2_with fail
                        rw [HDec.out]
                        exact bodyPost_ret (rdec_res HG1.out rfl rfl) rfl (DcP.of HG3.out HG2.out)
                  · have j8 : (e8 == 0) = false := by simpa using h8
                    have hdec : deC zs = (e8, c0) := (dec_end HLe.out HOut.out (e3 := e8) (by rw [fs_bad h8, fs_bad h8])).1 h8
                    obtain ⟨bx9, hbx9⟩ := HDb.out.tk.box
                    have c9 := hbx9.cell 1 rfl
                    have b9 := (hbx9.below (below_drew _)).cell 1 rfl
                    have hA9 := HDb.out.a
                    have hAq := HDb.out.tk.ne hA9 (by decide)
                    have hqA := hAq.symm
                    obtain ⟨k0, k1, k2, k3⟩ := four_of hA9
                    obtain ⟨y0', y1', y2', y3'⟩ := four_fr hA9
                    obtain ⟨r0, r1, r2, r3⟩ := four_of (hA9.below (below_drew _))
                    obtain ⟨x0', x1', x2', x3'⟩ := four_fr (hA9.below (below_drew _))
                    have je : (e8 != 0) = true := by simpa using h8
                    have je2 : (e8 == 0) = false := by simpa using h8
                    obtain ⟨g1, g2⟩ := put_four (w := W) (hA9.below (below_drew _)) rfl (bel HDb.out.lo (below_drew _)) HDb.out.hA (.int .i64 0) (.int .i64 0) (.slice none 0 0) (.int .i64 0)
                    have HG1 := hide g1
                    have HG2 := hide g2
                    have HEd := hide (hdec)
                    clear hbx9 hA9 g1 g2
                    clear hdec HOut HD9 HDb h8 hbl
                    go_wp2_with fail
                    go_region
                    all_goals
                      go_wp2_with fail
                      rw [HEd.out]
                      exact bodyPost_ret (rdec_res HG1.out rfl rfl) rfl (DcP.bad HG2.out)
                · have hdec : deC zs = (e7, c0) := by
                    have hout := HF.out L e7 z7 0 e7 z7 HO8.out (Out.skip _ h7 _ _ _)
                    exact (dec_end HLe.out hout (e3 := e7) (by rw [fs_bad h7, fs_bad h7])).1 h7
                  obtain ⟨bx9, hbx9⟩ := HD.out.tk.box
                  have c9 := hbx9.cell 1 rfl
                  have b9 := (hbx9.below (below_drew _)).cell 1 rfl
                  have hA9 := HD.out.a
                  have hAq := HD.out.tk.ne hA9 (by decide)
                  have hqA := hAq.symm
                  obtain ⟨k0, k1, k2, k3⟩ := four_of hA9
                  obtain ⟨y0', y1', y2', y3'⟩ := four_fr hA9
                  obtain ⟨r0, r1, r2, r3⟩ := four_of (hA9.below (below_drew _))
                  obtain ⟨x0', x1', x2', x3'⟩ := four_fr (hA9.below (below_drew _))
                  have je : (e7 != 0) = true := by simpa using h7
                  have je2 : (e7 == 0) = false := by simpa using h7
                  obtain ⟨g1, g2⟩ := put_four (w := W) (hA9.below (below_drew _)) rfl (bel HD.out.lo (below_drew _)) HD.out.hA (.int .i64 0) (.int .i64 0) (.slice none 0 0) (.int .i64 0)
                  have HG1 := hide g1
                  have HG2 := hide g2
                  have HEd := hide (hdec)
                  clear hbx9 hA9 g1 g2
                  clear hdec HF HO8 HO7 HD6 h7 hgo hbx7
                  by_cases j9 : (k : Int) < m0
                  · go_wp2_with fail
                    go_region
                    all_goals
                      go_wp2_with fail
                      rw [HEd.out]
                      exact bodyPost_ret (rdec_res HG1.out rfl rfl) rfl (DcP.bad HG2.out)
                  · go_wp2_with fail
                    go_region
                    all_goals
                      go_wp2_with fail
                      rw [HEd.out]
                      exact bodyPost_ret (rdec_res HG1.out rfl rfl) rfl (DcP.bad HG2.out)
          · by_cases h0 : m = 0
            · have t1 : (m == 0) = true := by simpa using h0
              have j9 : ¬ (0 : Int) < m := by omega
              have HFin2 := hide fun L e7 z7 o e8 z8 h7 h8 => HFin.out 15 L e7 z7 o e8 z8 (by rw [decide_eq_false hm]; rfl) h7 h8
              have HD6 := hide (HD5.out.err 15)
              have hdec : deC zs = (15, c0) := by
                have hout := HFin2.out [] 15 z5 0 15 z5 (Out.skip _ (by decide) _ _ _) (Out.skip _ (by decide) _ _ _)
                exact (dec_end HLe.out hout (e3 := 15) rfl).1 (by decide)
              obtain ⟨w6, hw6⟩ : ∃ w6, w4.setCell ⟨q, 1, none⟩ (.int .i64 15) = w6 := ⟨_, rfl⟩
              rw [hw6] at HD6
              have HW6 := hide hw6
              obtain ⟨bx9, hbx9⟩ := HD6.out.tk.box
              have c9 := hbx9.cell 1 rfl
              have b9 := (hbx9.below (below_drew _)).cell 1 rfl
              have hA9 := HD6.out.a
              have hAq := HD6.out.tk.ne hA9 (by decide)
              have hqA := hAq.symm
              obtain ⟨k0, k1, k2, k3⟩ := four_of hA9
              obtain ⟨y0', y1', y2', y3'⟩ := four_fr hA9
              obtain ⟨r0, r1, r2, r3⟩ := four_of (hA9.below (below_drew _))
              obtain ⟨x0', x1', x2', x3'⟩ := four_fr (hA9.below (below_drew _))
              have je : ((15 : Int) != 0) = true := by simp
              have je2 : ((15 : Int) == 0) = false := by simp
              obtain ⟨g1, g2⟩ := put_four (w := W) (hA9.below (below_drew _)) rfl (bel HD6.out.lo (below_drew _)) HD6.out.hA (.int .i64 0) (.int .i64 0) (.slice none 0 0) (.int .i64 0)
              have HG1 := hide g1
              have HG2 := hide g2
              have HEd := hide (hdec)
              clear hbx9 hA9 g1 g2
              clear hdec HFin HFin2 HO1 HE2 HO3 HO4 HO5 hbx5 hw6
              go_wp2_with fail
              rw [HW6.out]
              go_loopw [8] (fun iv wr => iv = .int .i64 0 ∧ wr = w6) (fun _ _ => 0)
              case atStart => exact ⟨rfl, rfl⟩
              case round =>
                obtain ⟨rfl, rfl⟩ := hrel
                go_wp2_with fail
                go_region
                all_goals
                  go_wp2_with fail
                  rw [HEd.out]
                  exact bodyPost_ret (rdec_res HG1.out rfl rfl) rfl (DcP.bad HG2.out)
            · have t1 : (m == 0) = false := by simpa using h0
              have t2 : 200 < m := by omega
              have j9 : (0 : Int) < m := by omega
              have HFin2 := hide fun L e7 z7 o e8 z8 h7 h8 => HFin.out 15 L e7 z7 o e8 z8 (by rw [decide_eq_false hm]; rfl) h7 h8
              have HD6 := hide (HD5.out.err 15)
              have hdec : deC zs = (15, c0) := by
                have hout := HFin2.out [] 15 z5 0 15 z5 (Out.skip _ (by decide) _ _ _) (Out.skip _ (by decide) _ _ _)
                exact (dec_end HLe.out hout (e3 := 15) rfl).1 (by decide)
              obtain ⟨w6, hw6⟩ : ∃ w6, w4.setCell ⟨q, 1, none⟩ (.int .i64 15) = w6 := ⟨_, rfl⟩
              rw [hw6] at HD6
              have HW6 := hide hw6
              obtain ⟨bx9, hbx9⟩ := HD6.out.tk.box
              have c9 := hbx9.cell 1 rfl
              have b9 := (hbx9.below (below_drew _)).cell 1 rfl
              have hA9 := HD6.out.a
              have hAq := HD6.out.tk.ne hA9 (by decide)
              have hqA := hAq.symm
              obtain ⟨k0, k1, k2, k3⟩ := four_of hA9
              obtain ⟨y0', y1', y2', y3'⟩ := four_fr hA9
              obtain ⟨r0, r1, r2, r3⟩ := four_of (hA9.below (below_drew _))
              obtain ⟨x0', x1', x2', x3'⟩ := four_fr (hA9.below (below_drew _))
              have je : ((15 : Int) != 0) = true := by simp
              have je2 : ((15 : Int) == 0) = false := by simp
              obtain ⟨g1, g2⟩ := put_four (w := W) (hA9.below (below_drew _)) rfl (bel HD6.out.lo (below_drew _)) HD6.out.hA (.int .i64 0) (.int .i64 0) (.slice none 0 0) (.int .i64 0)
              have HG1 := hide g1
              have HG2 := hide g2
              have HEd := hide (hdec)
              clear hbx9 hA9 g1 g2
              clear hdec HFin HFin2 HO1 HE2 HO3 HO4 HO5 hbx5 hw6
              go_wp2_with fail
              rw [HW6.out]
              go_loopw [8] (fun iv wr => iv = .int .i64 0 ∧ wr = w6) (fun _ _ => 0)
              case atStart => exact ⟨rfl, rfl⟩
              case round =>
                obtain ⟨rfl, rfl⟩ := hrel
                go_wp2_with fail
                go_region
                all_goals
                  go_wp2_with fail
                  rw [HEd.out]
                  exact bodyPost_ret (rdec_res HG1.out rfl rfl) rfl (DcP.bad HG2.out)
        · have hdec : deC zs = (e5, c0) := by
            obtain ⟨sx, hsx⟩ : ∃ sx : Bool, decide (1 ≤ m ∧ m ≤ 200) = sx := ⟨_, rfl⟩
            have hout := HFin.out e5 [] e5 z5 0 e5 z5 (by rw [hsx]; cases sx <;> simp [fs_bad h5]) (Out.skip _ h5 _ _ _) (Out.skip _ h5 _ _ _)
            have := (dec_end HLe.out hout (e3 := e5) (by rw [fs_bad h5, fs_bad h5])).1 h5
            exact this
          obtain ⟨bx9, hbx9⟩ := HD5.out.tk.box
          have c9 := hbx9.cell 1 rfl
          have b9 := (hbx9.below (below_drew _)).cell 1 rfl
          have hA9 := HD5.out.a
          have hAq := HD5.out.tk.ne hA9 (by decide)
          have hqA := hAq.symm
          obtain ⟨k0, k1, k2, k3⟩ := four_of hA9
          obtain ⟨y0', y1', y2', y3'⟩ := four_fr hA9
          obtain ⟨r0, r1, r2, r3⟩ := four_of (hA9.below (below_drew _))
          obtain ⟨x0', x1', x2', x3'⟩ := four_fr (hA9.below (below_drew _))
          have je : (e5 != 0) = true := by simpa using h5
          have je2 : (e5 == 0) = false := by simpa using h5
          obtain ⟨g1, g2⟩ := put_four (w := W) (hA9.below (below_drew _)) rfl (bel HD5.out.lo (below_drew _)) HD5.out.hA (.int .i64 0) (.int .i64 0) (.slice none 0 0) (.int .i64 0)
          have HG1 := hide g1
          have HG2 := hide g2
          have HEd := hide (hdec)
          clear hbx9 hA9 g1 g2
          clear hdec h5 HFin HO1 HE2 HO3 HO4 HO5
          go_wp2_with fail
          go_loopw [8] (fun iv wr => iv = .int .i64 0 ∧ wr = w4) (fun _ _ => 0)
          case atStart => exact ⟨rfl, rfl⟩
          case round =>
            obtain ⟨rfl, rfl⟩ := hrel
            by_cases j9 : 0 < m
            · go_wp2_with fail
              go_region
              all_goals
                go_wp2_with fail
                rw [HEd.out]
                exact bodyPost_ret (rdec_res HG1.out rfl rfl) rfl (DcP.bad HG2.out)
            · go_wp2_with fail
              go_region
              all_goals
                go_wp2_with fail
                rw [HEd.out]
                exact bodyPost_ret (rdec_res HG1.out rfl rfl) rfl (DcP.bad HG2.out)
      · have j1 : (v != 1) = true := by simpa using hv
        have HE2 : Hid ((3 : Int) = if (v == 1) = true then 0 else fs 0 3) := hide (by rw [if_neg (by simpa using hv)]; rfl)
        have HTX := hide (HT1.out.err 3)
        have HAX := hide (HA1.out.other (p := ⟨q, 1, none⟩) (HT1.out.ne HA1.out (by decide)) (.int .i64 3))
        have HBX := hide (HB1.out.setCell (p := ⟨q, 1, none⟩) HT1.out.1 (.int .i64 3))
        have hEq : (w1.setCell ⟨q, 1, none⟩ (.int .i64 3)).heap.size = w1.heap.size := World.size_setCell ..
        obtain ⟨wB, hwB⟩ : ∃ wB, w1.setCell ⟨q, 1, none⟩ (.int .i64 3) = wB := ⟨_, rfl⟩
        rw [hwB] at HTX HAX HBX hEq
        obtain ⟨e2, he2⟩ : ∃ e2 : Int, 3 = e2 := ⟨_, rfl⟩
        rw [he2] at HTX
        have HE2 : Hid (e2 = if (v == 1) = true then 0 else fs 0 3) := hide (by rw [← he2, if_neg (by simpa using hv)]; rfl)
        have hx2 : e2 ≠ 0 := by rw [← he2]; decide
        clear he2
        have he2 : e2 ≠ 0 := hx2
        clear hx2
        clear hv
        have HD0 : Hid (Ds W (wB.alloc (.cells cdz 26)) q W.heap.size w1.heap.size e2 z1 0 0 (.slice none 0 0) 0 []) := hide ⟨HTX.out.below (bel1 _ _), HAX.out.alloc _, by rw [← hEq]; exact HasC.new _ _ _, ⟨rfl, .inl ⟨rfl, rfl⟩⟩, bel HBX.out (bel1 _ _), Nat.le_refl _, by rw [← hEq]; exact HAX.out.lt⟩
        have HS := hide (small_any HD0.out.tk)
        go_wp2_with fail
        refine HS.out.mono ?_
        rintro en w2 ⟨f, e3, z3, rfl, hT, hK, hO⟩
        have HD1 := hide (HD0.out.go hT hK)
        have HO3 := hide hO
        clear hT hK hO HS HTX HAX HBX HD0 c1 y1 zq
        obtain ⟨C, hC⟩ : ∃ C, w1.heap.size = C := ⟨_, rfl⟩
        rw [hC] at HD1 ⊢
        have HD2 := hide (HD1.out.put 0 f (f' := f) (d' := 0) (o' := 0) rfl)
        have k0 := HD1.out.c.cell 0 rfl
        have y0 := HD1.out.c.frozen 0
        have HS := hide (small_any HD2.out.tk)
        clear hC hEq
        go_wp2_with fail
        refine HS.out.mono ?_
        rintro en w3 ⟨d, e4, z4, rfl, hT, hK, hO⟩
        have HD3 := hide (HD2.out.go hT hK)
        have HO4 := hide hO
        clear hT hK hO HS HD1 HD2 k0 y0
        have HD4 := hide (HD3.out.put 1 d (f' := f) (d' := d) (o' := 0) rfl)
        have k0 := HD3.out.c.cell 1 rfl
        have y0 := HD3.out.c.frozen 1
        have HS := hide (rnatural_any HD4.out.tk)
        go_wp2_with fail
        refine HS.out.mono ?_
        rintro en w4 ⟨m, e5, z5, rfl, hT, hK, hO, n0, n1⟩
        have HD5 := hide (HD4.out.go hT hK)
        have HO5 := hide hO
        clear hT hK hO HS HD3 HD4 k0 y0
        have HFin := hide fun e6 L e7 z7 o e8 z8 h6 h7 h8 => co_out (e6 := e6) (L := L) (e7 := e7) (z7 := z7) (out := o) (e8 := e8) (z8 := z8) HO1.out HE2.out HO3.out HO4.out HO5.out h6 h7 h8
        have h5 : e5 ≠ 0 := by
          have h3 := HO3.out.1 he2
          have h4 := HO4.out.1 (by rw [h3]; exact he2)
          have h5 := HO5.out.1 (by rw [h4, h3]; exact he2)
          rw [h5, h4, h3]
          exact he2
        have hdec : deC zs = (e5, c0) := by
          obtain ⟨sx, hsx⟩ : ∃ sx : Bool, decide (1 ≤ m ∧ m ≤ 200) = sx := ⟨_, rfl⟩
          have hout := HFin.out e5 [] e5 z5 0 e5 z5 (by rw [hsx]; cases sx <;> simp [fs_bad h5]) (Out.skip _ h5 _ _ _) (Out.skip _ h5 _ _ _)
          have := (dec_end HLe.out hout (e3 := e5) (by rw [fs_bad h5, fs_bad h5])).1 h5
          exact this
        obtain ⟨bx9, hbx9⟩ := HD5.out.tk.box
        have c9 := hbx9.cell 1 rfl
        have b9 := (hbx9.below (below_drew _)).cell 1 rfl
        have hA9 := HD5.out.a
        have hAq := HD5.out.tk.ne hA9 (by decide)
        have hqA := hAq.symm
        obtain ⟨k0, k1, k2, k3⟩ := four_of hA9
        obtain ⟨y0', y1', y2', y3'⟩ := four_fr hA9
        obtain ⟨r0, r1, r2, r3⟩ := four_of (hA9.below (below_drew _))
        obtain ⟨x0', x1', x2', x3'⟩ := four_fr (hA9.below (below_drew _))
        have je : (e5 != 0) = true := by simpa using h5
        have je2 : (e5 == 0) = false := by simpa using h5
        obtain ⟨g1, g2⟩ := put_four (w := W) (hA9.below (below_drew _)) rfl (bel HD5.out.lo (below_drew _)) HD5.out.hA (.int .i64 0) (.int .i64 0) (.slice none 0 0) (.int .i64 0)
        have HG1 := hide g1
        have HG2 := hide g2
        have HEd := hide (hdec)
        clear hbx9 hA9 g1 g2
        clear hdec h5 HFin HO1 HE2 HO3 HO4 HO5
        go_wp2_with fail
        go_loopw [8] (fun iv wr => iv = .int .i64 0 ∧ wr = w4) (fun _ _ => 0)
        case atStart => exact ⟨rfl, rfl⟩
        case round =>
          obtain ⟨rfl, rfl⟩ := hrel
          by_cases j9 : 0 < m
          · go_wp2_with fail
            go_region
            all_goals
              go_wp2_with fail
              rw [HEd.out]
              exact bodyPost_ret (rdec_res HG1.out rfl rfl) rfl (DcP.bad HG2.out)
          · go_wp2_with fail
            go_region
            all_goals
              go_wp2_with fail
              rw [HEd.out]
              exact bodyPost_ret (rdec_res HG1.out rfl rfl) rfl (DcP.bad HG2.out)
    · have HE2 : Hid (e1 = if (v == 1) = true then e1 else fs e1 3) := hide (by split; rfl; exact (fs_bad he1 3).symm)
      have j0 : (e1 == 0) = false := by simpa using he1
      have HTX := HT1
      have HAX := HA1
      have HBX := HB1
      have hEq : w1.heap.size = w1.heap.size := rfl
      have HD0 : Hid (Ds W (w1.alloc (.cells cdz 26)) q W.heap.size w1.heap.size e1 z1 0 0 (.slice none 0 0) 0 []) := hide ⟨HTX.out.below (bel1 _ _), HAX.out.alloc _, by rw [← hEq]; exact HasC.new _ _ _, ⟨rfl, .inl ⟨rfl, rfl⟩⟩, bel HBX.out (bel1 _ _), Nat.le_refl _, by rw [← hEq]; exact HAX.out.lt⟩
      have HS := hide (small_any HD0.out.tk)
      go_wp2_with fail
      refine HS.out.mono ?_
      rintro en w2 ⟨f, e3, z3, rfl, hT, hK, hO⟩
      have HD1 := hide (HD0.out.go hT hK)
      have HO3 := hide hO
      clear hT hK hO HS HTX HAX HBX HD0 c1 y1 zq
      obtain ⟨C, hC⟩ : ∃ C, w1.heap.size = C := ⟨_, rfl⟩
      rw [hC] at HD1 ⊢
      have HD2 := hide (HD1.out.put 0 f (f' := f) (d' := 0) (o' := 0) rfl)
      have k0 := HD1.out.c.cell 0 rfl
      have y0 := HD1.out.c.frozen 0
      have HS := hide (small_any HD2.out.tk)
      clear hC hEq
      go_wp2_with fail
      refine HS.out.mono ?_
      rintro en w3 ⟨d, e4, z4, rfl, hT, hK, hO⟩
      have HD3 := hide (HD2.out.go hT hK)
      have HO4 := hide hO
      clear hT hK hO HS HD1 HD2 k0 y0
      have HD4 := hide (HD3.out.put 1 d (f' := f) (d' := d) (o' := 0) rfl)
      have k0 := HD3.out.c.cell 1 rfl
      have y0 := HD3.out.c.frozen 1
      have HS := hide (rnatural_any HD4.out.tk)
      go_wp2_with fail
      refine HS.out.mono ?_
      rintro en w4 ⟨m, e5, z5, rfl, hT, hK, hO, n0, n1⟩
      have HD5 := hide (HD4.out.go hT hK)
      have HO5 := hide hO
      clear hT hK hO HS HD3 HD4 k0 y0
      have HFin := hide fun e6 L e7 z7 o e8 z8 h6 h7 h8 => co_out (e6 := e6) (L := L) (e7 := e7) (z7 := z7) (out := o) (e8 := e8) (z8 := z8) HO1.out HE2.out HO3.out HO4.out HO5.out h6 h7 h8
      have h5 : e5 ≠ 0 := by
        have h3 := HO3.out.1 he1
        have h4 := HO4.out.1 (by rw [h3]; exact he1)
        have h5 := HO5.out.1 (by rw [h4, h3]; exact he1)
        rw [h5, h4, h3]
        exact he1
      have hdec : deC zs = (e5, c0) := by
        obtain ⟨sx, hsx⟩ : ∃ sx : Bool, decide (1 ≤ m ∧ m ≤ 200) = sx := ⟨_, rfl⟩
        have hout := HFin.out e5 [] e5 z5 0 e5 z5 (by rw [hsx]; cases sx <;> simp [fs_bad h5]) (Out.skip _ h5 _ _ _) (Out.skip _ h5 _ _ _)
        have := (dec_end HLe.out hout (e3 := e5) (by rw [fs_bad h5, fs_bad h5])).1 h5
        exact this
      obtain ⟨bx9, hbx9⟩ := HD5.out.tk.box
      have c9 := hbx9.cell 1 rfl
      have b9 := (hbx9.below (below_drew _)).cell 1 rfl
      have hA9 := HD5.out.a
      have hAq := HD5.out.tk.ne hA9 (by decide)
      have hqA := hAq.symm
      obtain ⟨k0, k1, k2, k3⟩ := four_of hA9
      obtain ⟨y0', y1', y2', y3'⟩ := four_fr hA9
      obtain ⟨r0, r1, r2, r3⟩ := four_of (hA9.below (below_drew _))
      obtain ⟨x0', x1', x2', x3'⟩ := four_fr (hA9.below (below_drew _))
      have je : (e5 != 0) = true := by simpa using h5
      have je1 : (e5 == 0) = false := by simpa using h5
      obtain ⟨g1, g2⟩ := put_four (w := W) (hA9.below (below_drew _)) rfl (bel HD5.out.lo (below_drew _)) HD5.out.hA (.int .i64 0) (.int .i64 0) (.slice none 0 0) (.int .i64 0)
      have HG1 := hide g1
      have HG2 := hide g2
      have HEd := hide (hdec)
      clear hbx9 hA9 g1 g2
      clear hdec h5 HFin HO1 HE2 HO3 HO4 HO5
      go_wp2_with fail
      go_loopw [8] (fun iv wr => iv = .int .i64 0 ∧ wr = w4) (fun _ _ => 0)
      case atStart => exact ⟨rfl, rfl⟩
      case round =>
        obtain ⟨rfl, rfl⟩ := hrel
        by_cases j9 : 0 < m
        · go_wp2_with fail
          go_region
          all_goals
            go_wp2_with fail
            rw [HEd.out]
            exact bodyPost_ret (rdec_res HG1.out rfl rfl) rfl (DcP.bad HG2.out)
        · go_wp2_with fail
          go_region
          all_goals
            go_wp2_with fail
            rw [HEd.out]
            exact bodyPost_ret (rdec_res HG1.out rfl rfl) rfl (DcP.bad HG2.out)

end Go.Proofs.Pck

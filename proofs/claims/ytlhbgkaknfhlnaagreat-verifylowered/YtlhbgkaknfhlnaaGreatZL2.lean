/-
  lower.Lower: what it answers.
-/
import Derived.Test.YtlhbgkaknfhlnaaGreatZLoA
import Derived.Deep.AppendLies
import Derived.Deep.RegionHeld3
import Derived.Deep.RegionWith
namespace Go.Proofs.YtlhbgkaknfhlnaaGreat
open Go.RowKit Go.IntWalk Lx Pz
set_option linter.unusedVariables false

theorem infoI : (Tryz.prog.info? 54).map (fun i => (i.zero, i.size, i.bytes)) = some (some (.agg (Cde.ia Cde.i0)), 6, 48) := by kernel_rfl
theorem news_in {W : World} {b : Nat} {n : Cde.In} (h : HasC W b 54 (Cde.ia n)) : ∀ j u, (Cde.i6 n)[j]? = some u → W.cell? ((⟨b, 0, none⟩ : Addr).add j) = some u := by
  intro j u hu
  rw [Addr.add_lit, Nat.zero_add]
  exact h.cell j (by rw [← hu]; simp [Cde.ia, Cde.i6])
/-- An append of one instruction, at a step of a plain region. -/
theorem ins_list {V : World} {base : Nat} {v : Value} {L : List Cde.In} {ops : Array Oper} {rest : List Oper} {o : Oper} {a : Act} {Q : Exit → Act → World → Prop}
    (hgd : o.guard = none) (s x : Operand) (ho : o.op = .call { callee := .builtin .append, args := #[s, x], argTypes := #[24, 24] })
    (hs : a.eval s = v) (hen : V.ownsRow base 54 6 v L.length (Cde.is6 L)) (hbase : base ≤ V.heap.size) (b : Nat) (n : Cde.In) (hx : a.eval x = .slice (some ⟨b, 0, none⟩) 1 1) (hc : HasC V b 54 (Cde.ia n)) (h3 : L.length ≤ 2000000)
    (h : ∀ g cap w', w'.ownsRow base 54 6 (.slice (some ⟨g, 0, none⟩) (L.length + 1) cap) (L ++ [n]).length (Cde.is6 (L ++ [n])) → V.grownBy w' v.ownBlock → wpList Tryz.prog ops Q rest (a.put o.dst (.slice (some ⟨g, 0, none⟩) (L.length + 1) cap)) w') :
    wpList Tryz.prog ops Q (o :: rest) a V := by
  obtain ⟨i0, hi0, hz0, hz1, hz2⟩ := Spn.info_parts infoI
  refine wpList_append_lies V hgd s x 24 ho base 54 i0 _ 6 48 Tryz.underlying24 hi0 hz0 hz1 hz2 rfl (by omega) v L.length (Cde.is6 L) hs hen ⟨b, 0, none⟩ 1 1 (Cde.i6 n) hx rfl (news_in hc) (by simp [Value.oneCell', Cde.i6]) (by omega) (by unfold maxLen; omega) (by omega) hbase V.heap.size rfl ?_
  intro g cap w' hown hgrow hat hlt
  refine h g cap w' ?_ hgrow
  rw [Cde.is6_snoc, List.length_append]
  exact hown
/-- .. at a step of a region that draws. -/
theorem ins_step {V : World} {base : Nat} {v : Value} {L : List Cde.In} {ops : Array Oper} {o : Oper} {a : Act} {K : Act → World → Prop} {Q : Exit → Act → World → Prop} {E : Prop}
    (hgd : o.guard = none) (s x : Operand) (ho : o.op = .call { callee := .builtin .append, args := #[s, x], argTypes := #[24, 24] })
    (hs : a.eval s = v) (hen : V.ownsRow base 54 6 v L.length (Cde.is6 L)) (hbase : base ≤ V.heap.size) (b : Nat) (n : Cde.In) (hx : a.eval x = .slice (some ⟨b, 0, none⟩) 1 1) (hc : HasC V b 54 (Cde.ia n)) (h3 : L.length ≤ 2000000)
    (h : ∀ g cap w', w'.ownsRow base 54 6 (.slice (some ⟨g, 0, none⟩) (L.length + 1) cap) (L ++ [n]).length (Cde.is6 (L ++ [n])) → V.grownBy w' v.ownBlock → K (a.put o.dst (.slice (some ⟨g, 0, none⟩) (L.length + 1) cap)) w') :
    if Region.wanted o (yielded ops a.tmps) = true then Oper.wp Tryz.prog o a V K Q else E := by
  obtain ⟨i0, hi0, hz0, hz1, hz2⟩ := Spn.info_parts infoI
  refine step_append_lies V hgd s x 24 ho base 54 i0 _ 6 48 Tryz.underlying24 hi0 hz0 hz1 hz2 rfl (by omega) v L.length (Cde.is6 L) hs hen ⟨b, 0, none⟩ 1 1 (Cde.i6 n) hx rfl (news_in hc) (by simp [Value.oneCell', Cde.i6]) (by omega) (by unfold maxLen; omega) (by omega) hbase V.heap.size rfl ?_
  intro g cap w' hown hgrow hat hlt
  refine h g cap w' ?_ hgrow
  rw [Cde.is6_snoc, List.length_append]
  exact hown

abbrev cdz : Array Value := #[.int .i64 0, .int .i64 0, .slice none 0 0, .int .i64 0]
abbrev cdv (f d : Int) (v : Value) (o : Int) : Array Value := #[.int .i64 f, .int .i64 d, v, .int .i64 o]
theorem own_cell {V : World} {base b i : Nat} {e t : TypeId} {size n : Nat} {v : Value} {xs : List Value} {cs : Array Value} (h : V.ownsRow base e size v n xs) (hb : HasC V b t cs) (ht : t ≠ e) (x : Value) : (V.setCell ⟨b, i, none⟩ x).ownsRow base e size v n xs := own_put1 h hb ht i x
theorem own_grow {V w' : World} {base b : Nat} {e t : TypeId} {size n : Nat} {v : Value} {xs : List Value} {cs : Array Value} (h : V.ownsRow base e size v n xs) (hg : V.grownBy w' v.ownBlock) (hb : HasC V b t cs) (ht : t ≠ e) : HasC w' b t cs :=
  hb.kept hg fun he => own_ne3 h hb ht he.symm
theorem own_bel {V V' : World} {base : Nat} {e : TypeId} {size n : Nat} {v : Value} {xs : List Value} (h : V.ownsRow base e size v n xs) (hb : Below V.heap.size V V') : V'.ownsRow base e size v n xs := Cde.own_later h hb

/-- Lower's boxes, its code and its registers. -/
structure Lb (W V : World) (gc g : Nat) (kd tr rs : Array Value) (f d : Int) (sv : Value) (I : List Cde.In) (R : List Int) : Prop where
  k : HasC V W.heap.size 23 kd
  t : HasC V (W.heap.size + 1) 46 tr
  o : HasC V (W.heap.size + 1 + 1) 26 rs
  c : HasC V gc 26 (cdv f d sv 0)
  m : HasC V g 3 (inA R)
  s : V.ownsRow W.heap.size 54 6 sv I.length (Cde.is6 I)
  hc : W.heap.size + 1 + 1 < gc
  hg : gc < g
  lo : Below W.heap.size W V
theorem Lb.below {W V V' : World} {gc g : Nat} {kd tr rs : Array Value} {f d : Int} {sv : Value} {I : List Cde.In} {R : List Int} (h : Lb W V gc g kd tr rs f d sv I R) (hb : Below V.heap.size V V') : Lb W V' gc g kd tr rs f d sv I R :=
  ⟨h.k.below hb, h.t.below hb, h.o.below hb, h.c.below hb, h.m.below hb, own_bel h.s hb, h.hc, h.hg, bel h.lo hb⟩
theorem Lb.put {W V : World} {gc g i : Nat} {kd tr rs : Array Value} {f d : Int} {sv : Value} {I : List Cde.In} {D Z : List Int} {q : Int} (h : Lb W V gc g kd tr rs f d sv I (D ++ q :: Z)) (hk : D.length = i) (x : Int) : Lb W (V.setCell ⟨g, i, none⟩ (.int .i64 x)) gc g kd tr rs f d sv I (D ++ x :: Z) := by
  have hg := h.hg
  have hc := h.hc
  exact ⟨h.k.other (p := ⟨g, i, none⟩) (by simp; omega) _, h.t.other (p := ⟨g, i, none⟩) (by simp; omega) _, h.o.other (p := ⟨g, i, none⟩) (by simp; omega) _, h.c.other (p := ⟨g, i, none⟩) (by simp; omega) _, put_in h.m hk x, own_cell h.s h.m (by decide) _, hc, hg, h.lo.setCell (p := ⟨g, i, none⟩) (by simp; omega) _⟩
/-- One instruction more. -/
theorem Lb.grow {W V w' : World} {gc g : Nat} {kd tr rs : Array Value} {f d : Int} {sv v' : Value} {I J : List Cde.In} {R : List Int} (h : Lb W V gc g kd tr rs f d sv I R) (hg : V.grownBy w' sv.ownBlock) (hO : w'.ownsRow W.heap.size 54 6 v' J.length (Cde.is6 J)) : Lb W (w'.setCell ⟨gc, 2, none⟩ v') gc g kd tr rs f d v' J R := by
  have hgg := h.hg
  have hc := h.hc
  have hcc := own_grow h.s hg h.c (by decide)
  refine ⟨(own_grow h.s hg h.k (by decide)).other (p := ⟨gc, 2, none⟩) (by simp; omega) _, (own_grow h.s hg h.t (by decide)).other (p := ⟨gc, 2, none⟩) (by simp; omega) _, (own_grow h.s hg h.o (by decide)).other (p := ⟨gc, 2, none⟩) (by simp; omega) _, ?_, (own_grow h.s hg h.m (by decide)).other (p := ⟨gc, 2, none⟩) (by simp; omega) _, own_cell hO hcc (by decide) _, hc, hgg, ?_⟩
  · exact hcc.set 2 v'
  · exact (h.lo.grown hg h.lo.size fun k hk => (Cde.owns_block h.s k hk).1).setCell (p := ⟨gc, 2, none⟩) (by simp; omega) _
theorem own_slice {w : World} {base size n : Nat} {e : TypeId} {v : Value} {xs : List Value} (h : w.ownsRow base e size v n xs) : ∃ a c, v = .slice a n c := by
  rcases own_forms h with ⟨rfl, rfl⟩ | ⟨g, c, rfl⟩
  · exact ⟨_, _, rfl⟩
  · exact ⟨_, _, rfl⟩
theorem put_four {w V : World} {b : Nat} {t : TypeId} {p q r s : Value} (h : HasC V b t #[p, q, r, s]) (hB : Below w.heap.size w V) (hb : w.heap.size ≤ b) (x0 x1 x2 x3 : Value) :
    HasC ((((V.setCell ⟨b, 0, none⟩ x0).setCell ⟨b, 1, none⟩ x1).setCell ⟨b, 2, none⟩ x2).setCell ⟨b, 3, none⟩ x3) b t #[x0, x1, x2, x3] ∧
    Below w.heap.size w ((((V.setCell ⟨b, 0, none⟩ x0).setCell ⟨b, 1, none⟩ x1).setCell ⟨b, 2, none⟩ x2).setCell ⟨b, 3, none⟩ x3) :=
  ⟨(((h.set 0 x0).set 1 x1).set 2 x2).set 3 x3, (((hB.setCell (p := ⟨b, 0, none⟩) hb _).setCell (p := ⟨b, 1, none⟩) hb _).setCell (p := ⟨b, 2, none⟩) hb _).setCell (p := ⟨b, 3, none⟩) hb _⟩
theorem own_four {V : World} {base b : Nat} {e t : TypeId} {size n : Nat} {v : Value} {xs : List Value} {cs : Array Value} (h : V.ownsRow base e size v n xs) (hb : HasC V b t cs) (ht : t ≠ e) (x0 x1 x2 x3 : Value) : ((((V.setCell ⟨b, 0, none⟩ x0).setCell ⟨b, 1, none⟩ x1).setCell ⟨b, 2, none⟩ x2).setCell ⟨b, 3, none⟩ x3).ownsRow base e size v n xs := by
  have h0 := own_put1 h hb ht 0 x0
  have b0 := hb.set 0 x0
  have h1 := own_put1 h0 b0 ht 1 x1
  have b1 := b0.set 1 x1
  have h2 := own_put1 h1 b1 ht 2 x2
  exact own_put1 h2 (b1.set 2 x2) ht 3 x3

set_option maxRecDepth 100000 in
set_option maxHeartbeats 8000000 in
theorem olower_any (f d : Int) {W : World} {na ba da : Option Addr} {nl nc bl bc dl dc : Nat} {root : Int} {NM : List Txt} {BS : List Int} {NS : List Nd} (hX : Tx W na nl nc NM) (hB : Iz W ba bl bc BS) (hN : Nz W da dl dc NS) (hs : ∀ s ∈ NM, s.length ≤ 9223372036854775807) :
    Calls Tryz.prog 13 #[.agg (kdA f d), .agg (tr4 (.slice na nl nc) (.slice ba bl bc) (.slice da dl dc) (.int .i64 root))] W (LoP W (loV f d NM BS NS root)) := by
  have hb1 := bel1 W (.cells (kdA f d) 23)
  have hb2 := bel hb1 (bel1 (W.alloc (.cells (kdA f d) 23)) (.cells (tr4 (.slice na nl nc) (.slice ba bl bc) (.slice da dl dc) (.int .i64 root)) 46))
  have hb3 := bel hb2 (bel1 ((W.alloc (.cells (kdA f d) 23)).alloc (.cells (tr4 (.slice na nl nc) (.slice ba bl bc) (.slice da dl dc) (.int .i64 root)) 46)) (.cells cdz 26))
  have HK0 := hide (((HasC.new W 23 (kdA f d)).alloc (.cells (tr4 (.slice na nl nc) (.slice ba bl bc) (.slice da dl dc) (.int .i64 root)) 46)).alloc (.cells cdz 26))
  have HT0 := hide ((has_n1 W (.cells (kdA f d) 23) 46 (tr4 (.slice na nl nc) (.slice ba bl bc) (.slice da dl dc) (.int .i64 root))).alloc (.cells cdz 26))
  have HO0 := hide (has_n2 W (.cells (kdA f d) 23) (.cells (tr4 (.slice na nl nc) (.slice ba bl bc) (.slice da dl dc) (.int .i64 root)) 46) 26 cdz)
  have HB0 := hide hb3
  have HCk := hide (ccheck_any f d (root := root) (hX.later hb3) (hB.later hb3) (hN.later hb3) hs)
  have HBI := hide hB
  have HNI := hide hN
  have HLN := hide hN.len
  have HLB := hide hB.len
  clear hb1 hb2 hb3 hX hB hN
  go_enter Tryz.func13, Tryz.ntmps13
  go_wp2_with fail
  refine HCk.out.mono ?_
  rintro e V1 (⟨he, rfl, hb⟩ | ⟨he, g, rfl, -, -, hb⟩)
  · obtain ⟨er, hZ⟩ : ∃ er, ckE f d NM BS NS root = er := ⟨_, rfl⟩
    have hev : loV f d NM BS NS root = ⟨er, 0, 0, [], 0⟩ := by unfold loV; rw [if_neg he, hZ]
    rw [hZ] at he ⊢
    have HEv := hide hev
    have h1 : (er != 0) = true := by simpa using he
    have HB1 := hide (bel HB0.out hb)
    have HO1 := hide (HO0.out.below hb)
    have hlt := HO1.out.lt
    obtain ⟨o0, o1, o2, o3⟩ := four_of HO1.out
    have y0 := HO1.out.frozen 0
    have y1 := HO1.out.frozen 1
    have y2 := HO1.out.frozen 2
    have y3 := HO1.out.frozen 3
    clear he hev hZ hb HB0 HCk HK0 HT0 HO0
    go_wp2_with fail
    obtain ⟨hp0, hpb0⟩ := put_four HO1.out HB1.out (by omega) (.int .i64 0) (.int .i64 0) (.slice none 0 0) (.int .i64 0)
    have hp := hp0.alloc (.cells rep0 30)
    have hpb := bel hpb0 (bel1 _ (.cells rep0 30))
    have p0 := hp.cell 0 rfl
    have p1 := hp.cell 1 rfl
    have p2 := hp.cell 2 rfl
    have p3 := hp.cell 3 rfl
    exact bodyPost_ret (v := .tuple #[.agg cdz, .int .i64 er]) (by simp [results, Tryz.results13, go_sem, p0, p1, p2, p3]) rfl (by rw [HEv.out]; exact ⟨none, 0, rfl, ⟨rfl, .inl ⟨rfl, rfl⟩⟩, hpb⟩)
  · have HE := hide he
    have hev : loV f d NM BS NS root = ⟨0, f, d, (loF f d BS NS).2, (loF f d BS NS).1.getD root.toNat 0⟩ := by unfold loV; rw [if_pos he]
    have HEv := hide hev
    have HRt := hide (sound_root (ck_sound he))
    have HLw := hide (lw_all he)
    obtain ⟨es, ex, hD⟩ := chk_dec.1 (ck_sound he)
    have HW := hide hD.wl
    have hfew := hD.few
    rw [HLN.out] at hfew
    have hmk := make_in dl hfew
    have HNm := hide fun (n : Nd) hn h3 => ck_num he (n := n) hn h3
    have hz := (HO0.out.below hb).lt
    have HBx : Hid (Lb W (((V1.alloc (.cells #[.slice (some ⟨g, 0, none⟩) NS.length NS.length, .int .i64 (coR NS), .int .i64 (mxR (dpR BS NS []))] 30)).alloc (.cells (cdv f d (.slice none 0 0) 0) 26)).alloc (.cells (inA (List.replicate dl 0)) 3)) (V1.heap.size + 1) (V1.heap.size + 1 + 1) (kdA f d) (tr4 (.slice na nl nc) (.slice ba bl bc) (.slice da dl dc) (.int .i64 root)) cdz f d (.slice none 0 0) [] (List.replicate dl 0)) :=
      hide ⟨(((HK0.out.below hb).alloc _).alloc _).alloc _, (((HT0.out.below hb).alloc _).alloc _).alloc _, (((HO0.out.below hb).alloc _).alloc _).alloc _, (has_n1 _ _ _ _).alloc _, has_n2 _ _ _ _ _, ⟨rfl, .inl ⟨rfl, rfl⟩⟩, by omega, by omega, bel (bel (bel (bel HB0.out hb) (bel1 _ _)) (bel1 _ _)) (bel1 _ _)⟩
    obtain ⟨k0, k1, -, -⟩ := two_of (HK0.out.below hb)
    obtain ⟨t0, t1, t2, t3⟩ := four_of (HT0.out.below hb)
    have hz0 := (HK0.out.below hb).lt
    have hz1 := (HT0.out.below hb).lt
    clear hb he HB0 HCk HK0 HT0 HO0 hD hev
    generalize coR NS = co at *
    generalize mxR (dpR BS NS []) = mx at *
    go_wp2_with fail
    obtain ⟨gc, hgc⟩ : ∃ gc, V1.heap.size + 1 = gc := ⟨_, rfl⟩
    rw [hgc] at HBx ⊢
    obtain ⟨gv, hgv⟩ : ∃ gv, gc + 1 = gv := ⟨_, rfl⟩
    rw [hgv] at HBx ⊢
    clear hgc hgv k0 k1 t0 t1 t2 t3 hz hz0 hz1 hmk
    go_loopw [31] (fun i wr => ∃ (k : Nat) (D : List Int) (I : List Cde.In) (sa : Option Addr) (sc : Nat), k ≤ dl ∧ i = .int .i64 k ∧ Hid (loF f d BS (NS.take k) = (D, I)) ∧ Hid (Lb W wr gc gv (kdA f d) (tr4 (.slice na nl nc) (.slice ba bl bc) (.slice da dl dc) (.int .i64 root)) cdz f d (.slice sa I.length sc) I (D ++ List.replicate (dl - k) 0))) (fun i _ => dl - (intOf i).toNat)
    case atStart => exact ⟨0, [], [], none, 0, Nat.zero_le _, rfl, hide rfl, HBx⟩
    case round =>
      obtain ⟨k, D, I, sa, sc, hk, rfl, HD, HX⟩ := hrel
      rename World => V
      clear HBx
      by_cases hlt : k < dl
      · obtain ⟨gn, off, rfl, hat⟩ := (HNI.out.later HX.out.lo).at (by omega)
        obtain ⟨e0, e1, e2, e3, e4, e5, e6, e7, e8⟩ := hat k hlt
        clear hat
        have hi0 : (0 : Int) ≤ k := by omega
        have hi1 : (k : Int) < dl := by omega
        have hWl := wl_take HW.out k
        have hLk : Lw (NS.take k) D I := by
          have := Lw.run (f := f) (d := d) (BS := BS) (NS.take k) [] ([], []) lw_nil hWl (fun n hn h3 => HNm.out n (List.mem_of_mem_take hn) h3)
          rw [List.nil_append, show List.foldl (loS f d BS) ([], []) (NS.take k) = (D, I) from HD.out] at this
          exact this
        have hDl : D.length = k := by have := hLk.len; rw [List.length_take, HLN.out] at this; omega
        have hIl : I.length ≤ 1024 := by
          have h1 := hLk.cnt
          have h2 : cn (NS.take k) ≤ (NS.take k).length := List.length_filter_le _ _
          rw [List.length_take, HLN.out] at h2
          omega
        have HDl := hide hDl
        have HWn := hide (wl_at HW.out (by rw [HLN.out]; exact hlt : k < NS.length))
        rw [Nat.zero_add] at HWn
        have HD2 := hide (loF_snoc f d BS (NS.take k) (NS.getD k n0))
        rw [← take_snoc n0 (by rw [HLN.out]; exact hlt), HD.out] at HD2
        unfold loS at HD2
        rw [repI_succ hlt] at HX
        have hz1 : gv < V.heap.size := HX.out.m.lt
        have hz2 : gc < V.heap.size := HX.out.c.lt
        have y0 := HX.out.m.frozen k
        have da := HX.out.m.cell k (inA_get _ k (by simp; omega))
        clear hWl hLk
        generalize NS.getD k n0 = n at *
        by_cases ho4 : n.op = 4
        · have q4 : (n.op == 4) = true := by simpa using ho4
          rw [if_pos ho4] at HD2
          unfold lrg at HD2
          obtain ⟨u0, u1, u2, u3⟩ := HWn.out.use ho4
          obtain ⟨kk, hkk⟩ : ∃ kk : Nat, n.k = (kk : Int) := ⟨n.k.toNat, by omega⟩
          rw [hkk] at e4 u1 u2 u3 HD2
          simp only [Int.toNat_natCast] at u1 u2 u3 HD2
          obtain ⟨bb, boff, rfl, hbb, hbc⟩ : ∃ b off, ba = some ⟨b, off, none⟩ ∧ b < V.heap.size ∧ V.cell? ⟨b, off + kk, none⟩ = some (.int .i64 (BS.getD kk 0)) := by
            rcases (HBI.out.later HX.out.lo).cell with h0 | ⟨b, off, ha, hlb, hc⟩
            · rw [HLB.out] at u1; omega
            · exact ⟨b, off, ha, hlb, hc kk (by rw [← HLB.out]; exact u1)⟩
          obtain ⟨q, hq⟩ : ∃ q : Nat, BS.getD kk 0 = (q : Int) := ⟨(BS.getD kk 0).toNat, by omega⟩
          rw [hq] at hbc u3 HD2
          simp only [Int.toNat_natCast] at u3 HD2
          have s0 := inA_get (D ++ 0 :: List.replicate (dl - (k + 1)) 0) q (by simp; omega)
          rw [getI_pre (by rw [hDl]; exact u3)] at s0
          have d0 := HX.out.m.cell q s0
          generalize D.getD q 0 = z at *
          have HX2 := hide ((HX.out.put hDl z).below (bel1 _ (.cells #[.int .i64 n.op, .int .i64 n.a, .int .i64 n.b, .int .i64 n.c, .int .i64 kk, .int .i64 n.back, .int .i64 n.co, .int .i64 n.x, .int .i64 n.y] 78)))
          have t1 := HX.out.t.cell 1 rfl
          have hz3 := HX.out.t.lt
          have w0 : (kk : Int) < bl := by have := HLB.out; omega
          have w1 : (q : Int) < dl := by omega
          have w2 : (0 : Int) ≤ kk := by omega
          have w3 : (0 : Int) ≤ q := by omega
          clear s0 hq u0 u1 u2 u3 HWn hDl ho4
          go_wp2_with fail
          go_roundw
          case rel => exact ⟨k + 1, D ++ [z], I, sa, sc, by omega, by go_num, hide HD2.out, hide (by rw [List.append_assoc]; exact HX2.out)⟩
          case measure => simp [intOf]; omega
        have q4 : (n.op == 4) = false := by simpa using ho4
        rw [if_neg ho4] at HD2
        dsimp only at HD2
        have HX4 := hide ((HX.out.put hDl (I.length : Int)).below (bel1 _ (.cells (ndA n) 78)))
        have HNd := hide (HasC.new (V.setCell ⟨gv, k, none⟩ (.int .i64 (I.length : Int))) 78 (ndA n))
        rw [World.size_setCell] at HNd
        obtain ⟨c0, c1, c2, c3⟩ := four_of HX.out.c
        go_wp2_with fail
        obtain ⟨V4, hV4⟩ : ∃ V4, (V.setCell ⟨gv, k, none⟩ (.int .i64 (I.length : Int))).alloc (.cells (ndA n) 78) = V4 := ⟨_, rfl⟩
        rw [hV4] at HX4 HNd ⊢
        clear hV4 e0 e1 e2 e3 e4 e5 e6 e7 e8 y0 da c0 c1 c2 c3
        generalize V.heap.size = gp at *
        have hlen : (D ++ (I.length : Int) :: List.replicate (dl - (k + 1)) 0).length = dl := by simp; omega
        have HZ := has_iz HX4.out.m (by rw [hlen]; exact hfew)
        rw [hlen] at HZ
        have HLo := hide fun (w : World) (hb : Below V4.heap.size V4 w) => olowered_any f d HWn.out ho4 (HZ.later hb) (by omega)
        rw [loI_pre (by rw [hDl]; exact HWn.out) ho4] at HLo
        generalize loI f d D n = x at *
        obtain ⟨c0, c1, c2, c3⟩ := four_of HX4.out.c
        obtain ⟨k0, k1, -, -⟩ := two_of HX4.out.k
        obtain ⟨e0, e1, e2, e3, e4, e5, e6, e7, e8⟩ := nine_of HNd.out
        clear HZ hlen ho4 HWn hDl HX
        have HS1 := hide (show HasC V4.drew W.heap.size 23 (kdA f d) ∧ HasC V4.drew gp 78 (ndA n) from ⟨HX4.out.k.below (below_drew _), HNd.out.below (below_drew _)⟩)
        refine wp_region_held_drew (S := fun w => HasC w W.heap.size 23 (kdA f d) ∧ HasC w gp 78 (ndA n)) (by kernel_rfl) HS1.out (fun _ => ?_)
        refine wpAnyH_take (i := 0) (v := .pointer (some ⟨gc, 2, none⟩)) rfl (by kernel_rfl) (by kernel_rfl) (by kernel_rfl) (fun _ _ _ h => h) (Or.inl ⟨by rfl, fun w hS => by obtain ⟨a0, a1, -, -⟩ := two_of hS.1; obtain ⟨b0, b1, b2, b3, b4, b5, b6, b7, b8⟩ := nine_of hS.2; go_simp⟩) HS1.out ?_
        refine wpAnyH_take (i := 2) (v := .agg (kdA f d)) rfl (by kernel_rfl) (by kernel_rfl) (by kernel_rfl) (fun _ _ _ h => h) (Or.inl ⟨by rfl, fun w hS => by obtain ⟨a0, a1, -, -⟩ := two_of hS.1; obtain ⟨b0, b1, b2, b3, b4, b5, b6, b7, b8⟩ := nine_of hS.2; go_simp⟩) HS1.out ?_
        refine wpAnyH_take (i := 3) (v := .agg (ndA n)) rfl (by kernel_rfl) (by kernel_rfl) (by kernel_rfl) (fun _ _ _ h => h) (Or.inl ⟨by rfl, fun w hS => by obtain ⟨a0, a1, -, -⟩ := two_of hS.1; obtain ⟨b0, b1, b2, b3, b4, b5, b6, b7, b8⟩ := nine_of hS.2; go_simp⟩) HS1.out ?_
        refine wpAnyH_take (i := 4) (v := .slice (some ⟨gv, 0, none⟩) dl dl) rfl (by kernel_rfl) (by kernel_rfl) (by kernel_rfl) (fun _ _ _ h => h) (Or.inl ⟨by rfl, fun w hS => by obtain ⟨a0, a1, -, -⟩ := two_of hS.1; obtain ⟨b0, b1, b2, b3, b4, b5, b6, b7, b8⟩ := nine_of hS.2; go_simp⟩) HS1.out ?_
        refine wpAnyH_ready (rs := [1, 5]) (by kernel_rfl) (by simp) (AllReadyH.cons rfl (fun K hK => ?_) (AllReadyH.cons rfl (fun K hK => ?_) AllReadyH.nil))
        · have c2 := (HX4.out.c.below (below_drew _)).cell 2 rfl
          go_simp
          refine hK.out _ _ ⟨HS1.out.1, HS1.out.2⟩ (fun _ => ?_)
          clear hK K
          refine wpAnyH_ready (rs := [5]) (by kernel_rfl) (by simp) (AllReadyH.cons rfl (fun K hK => ?_) AllReadyH.nil)
          go_simp
          refine (HLo.out _ (below_drew _)).mono ?_
          rintro r w2 ⟨rfl, hb⟩
          have HX5 := hide ((HX4.out.below (below_drew _)).below hb)
          have HN5 := hide ((HNd.out.below (below_drew _)).below hb)
          have HX6 := hide (HX5.out.below (bel1 w2 (.cells (Cde.ia x) 54)))
          have HN6 := hide (HN5.out.below (bel1 w2 (.cells (Cde.ia x) 54)))
          clear hb
          refine hK.out _ _ ⟨HX5.out.k, HN5.out⟩ (fun _ => ?_)
          clear hK K
          refine wpAnyH_ready (rs := [6]) (by kernel_rfl) (by simp) (AllReadyH.cons rfl (fun K hK => ?_) AllReadyH.nil)
          go_simp
          refine hK.out _ _ ⟨HX6.out.k, HN6.out⟩ (fun _ => ?_)
          clear hK K
          refine wpAnyH_ready (rs := [7]) (by kernel_rfl) (by simp) (AllReadyH.cons rfl (fun K hK => ?_) AllReadyH.nil)
          refine ins_step (L := I) (by rfl) _ _ (by rfl) (by rfl) HX6.out.s HX6.out.lo.size _ x (by rfl) (HasC.new w2 _ _) (by omega) ?_
          intro g2 cap2 w3 hown hgrow
          have HC7 := hide (own_grow HX6.out.s hgrow HX6.out.c (by decide))
          have HK7 := hide (own_grow HX6.out.s hgrow HX6.out.k (by decide))
          have HN7 := hide (own_grow HX6.out.s hgrow HN6.out (by decide))
          have HX7 := hide (HX6.out.grow hgrow hown)
          have hge := HX6.out.hc
          clear hown hgrow HX6 HN6
          refine hK.out _ _ ⟨HK7.out, HN7.out⟩ (fun _ => ?_)
          clear hK K
          refine wpAnyH_ready (rs := [8]) (by kernel_rfl) (by simp) (AllReadyH.cons rfl (fun K hK => ?_) AllReadyH.nil)
          go_simp
          refine hK.out _ _ ⟨HK7.out, HN7.out⟩ (fun _ => ?_)
          clear hK K
          refine wpAnyH_ready (rs := [9]) (by kernel_rfl) (by simp) (AllReadyH.cons rfl (fun K hK => ?_) AllReadyH.nil)
          have v2 := HC7.out.cell 2 rfl
          have yv := HC7.out.frozen 2
          go_simp
          refine hK.out _ _ ⟨HX7.out.k, HN7.out.other (p := ⟨gc, 2, none⟩) (show gp ≠ gc by omega) _⟩ (fun _ => ?_)
          clear hK K
          refine wpAnyH_done (by kernel_rfl) ?_ _
          go_simp
          go_wp2_with fail
          go_roundw
          case rel => exact ⟨k + 1, D ++ [(I.length : Int)], I ++ [x], _, _, by omega, by go_num, hide HD2.out, hide (by rw [List.append_assoc]; simpa using HX7.out)⟩
          case measure => simp [intOf]; omega
        · go_simp
          refine (HLo.out _ (below_drew _)).mono ?_
          rintro r w2 ⟨rfl, hb⟩
          have HX5 := hide ((HX4.out.below (below_drew _)).below hb)
          have HN5 := hide ((HNd.out.below (below_drew _)).below hb)
          have HX6 := hide (HX5.out.below (bel1 w2 (.cells (Cde.ia x) 54)))
          have HN6 := hide (HN5.out.below (bel1 w2 (.cells (Cde.ia x) 54)))
          clear hb
          refine hK.out _ _ ⟨HX5.out.k, HN5.out⟩ (fun _ => ?_)
          clear hK K
          refine wpAnyH_ready (rs := [1, 6]) (by kernel_rfl) (by simp) (AllReadyH.cons rfl (fun K hK => ?_) (AllReadyH.cons rfl (fun K hK => ?_) AllReadyH.nil))
          · have c2 := HX5.out.c.cell 2 rfl
            go_simp
            refine hK.out _ _ ⟨HX5.out.k, HN5.out⟩ (fun _ => ?_)
            clear hK K
            refine wpAnyH_ready (rs := [6]) (by kernel_rfl) (by simp) (AllReadyH.cons rfl (fun K hK => ?_) AllReadyH.nil)
            go_simp
            refine hK.out _ _ ⟨HX6.out.k, HN6.out⟩ (fun _ => ?_)
            clear hK K
            refine wpAnyH_ready (rs := [7]) (by kernel_rfl) (by simp) (AllReadyH.cons rfl (fun K hK => ?_) AllReadyH.nil)
            refine ins_step (L := I) (by rfl) _ _ (by rfl) (by rfl) HX6.out.s HX6.out.lo.size _ x (by rfl) (HasC.new w2 _ _) (by omega) ?_
            intro g2 cap2 w3 hown hgrow
            have HC7 := hide (own_grow HX6.out.s hgrow HX6.out.c (by decide))
            have HK7 := hide (own_grow HX6.out.s hgrow HX6.out.k (by decide))
            have HN7 := hide (own_grow HX6.out.s hgrow HN6.out (by decide))
            have HX7 := hide (HX6.out.grow hgrow hown)
            have hge := HX6.out.hc
            clear hown hgrow HX6 HN6
            refine hK.out _ _ ⟨HK7.out, HN7.out⟩ (fun _ => ?_)
            clear hK K
            refine wpAnyH_ready (rs := [8]) (by kernel_rfl) (by simp) (AllReadyH.cons rfl (fun K hK => ?_) AllReadyH.nil)
            go_simp
            refine hK.out _ _ ⟨HK7.out, HN7.out⟩ (fun _ => ?_)
            clear hK K
            refine wpAnyH_ready (rs := [9]) (by kernel_rfl) (by simp) (AllReadyH.cons rfl (fun K hK => ?_) AllReadyH.nil)
            have v2 := HC7.out.cell 2 rfl
            have yv := HC7.out.frozen 2
            go_simp
            refine hK.out _ _ ⟨HX7.out.k, HN7.out.other (p := ⟨gc, 2, none⟩) (show gp ≠ gc by omega) _⟩ (fun _ => ?_)
            clear hK K
            refine wpAnyH_done (by kernel_rfl) ?_ _
            go_simp
            go_wp2_with fail
            go_roundw
            case rel => exact ⟨k + 1, D ++ [(I.length : Int)], I ++ [x], _, _, by omega, by go_num, hide HD2.out, hide (by rw [List.append_assoc]; simpa using HX7.out)⟩
            case measure => simp [intOf]; omega
          · go_simp
            refine hK.out _ _ ⟨HX6.out.k, HN6.out⟩ (fun _ => ?_)
            clear hK K
            refine wpAnyH_ready (rs := [1]) (by kernel_rfl) (by simp) (AllReadyH.cons rfl (fun K hK => ?_) AllReadyH.nil)
            have c2 := HX6.out.c.cell 2 rfl
            go_simp
            refine hK.out _ _ ⟨HX6.out.k, HN6.out⟩ (fun _ => ?_)
            clear hK K
            refine wpAnyH_ready (rs := [7]) (by kernel_rfl) (by simp) (AllReadyH.cons rfl (fun K hK => ?_) AllReadyH.nil)
            refine ins_step (L := I) (by rfl) _ _ (by rfl) (by rfl) HX6.out.s HX6.out.lo.size _ x (by rfl) (HasC.new w2 _ _) (by omega) ?_
            intro g2 cap2 w3 hown hgrow
            have HC7 := hide (own_grow HX6.out.s hgrow HX6.out.c (by decide))
            have HK7 := hide (own_grow HX6.out.s hgrow HX6.out.k (by decide))
            have HN7 := hide (own_grow HX6.out.s hgrow HN6.out (by decide))
            have HX7 := hide (HX6.out.grow hgrow hown)
            have hge := HX6.out.hc
            clear hown hgrow HX6 HN6
            refine hK.out _ _ ⟨HK7.out, HN7.out⟩ (fun _ => ?_)
            clear hK K
            refine wpAnyH_ready (rs := [8]) (by kernel_rfl) (by simp) (AllReadyH.cons rfl (fun K hK => ?_) AllReadyH.nil)
            go_simp
            refine hK.out _ _ ⟨HK7.out, HN7.out⟩ (fun _ => ?_)
            clear hK K
            refine wpAnyH_ready (rs := [9]) (by kernel_rfl) (by simp) (AllReadyH.cons rfl (fun K hK => ?_) AllReadyH.nil)
            have v2 := HC7.out.cell 2 rfl
            have yv := HC7.out.frozen 2
            go_simp
            refine hK.out _ _ ⟨HX7.out.k, HN7.out.other (p := ⟨gc, 2, none⟩) (show gp ≠ gc by omega) _⟩ (fun _ => ?_)
            clear hK K
            refine wpAnyH_done (by kernel_rfl) ?_ _
            go_simp
            go_wp2_with fail
            go_roundw
            case rel => exact ⟨k + 1, D ++ [(I.length : Int)], I ++ [x], _, _, by omega, by go_num, hide HD2.out, hide (by rw [List.append_assoc]; simpa using HX7.out)⟩
            case measure => simp [intOf]; omega
      · obtain rfl : k = dl := by omega
        have e1 : NS.take k = NS := List.take_of_length_le (by rw [HLN.out]; exact Nat.le_refl _)
        have hD := HD.out
        rw [e1] at hD
        have HX2 := HX.out
        rw [Nat.sub_self, List.replicate_zero, List.append_nil] at HX2
        obtain ⟨r0, r1, -⟩ := HRt.out
        have hLk := HLw.out
        rw [show loF f d BS NS = (D, I) from hD] at hLk
        have hDl : D.length = NS.length := hLk.len
        rw [HLN.out] at hDl r1
        obtain ⟨q, rfl⟩ : ∃ q : Nat, root = q := ⟨root.toNat, by omega⟩
        simp only [Int.toNat_natCast] at r1 HEv
        rw [show loF f d BS NS = (D, I) from hD] at HEv
        dsimp only at HEv
        have x0 := HX2.m.cell q (inA_get D q (by omega))
        generalize D.getD q 0 = z at *
        have HX := hide HX2
        have t3 := HX2.t.cell 3 rfl
        obtain ⟨c0, c1, c2, c3⟩ := four_of HX2.c
        obtain ⟨o0, o1, o2, o3⟩ := four_of HX2.o
        have yc := HX2.c.frozen 3
        have y0 := HX2.o.frozen 0
        have y1 := HX2.o.frozen 1
        have y2 := HX2.o.frozen 2
        have y3 := HX2.o.frozen 3
        have i0 : (0 : Int) ≤ q := by omega
        have i1 : (q : Int) < k := by omega
        have hgc := HX2.hc
        have hgn : gc ≠ W.heap.size + 1 + 1 := by omega
        have hgn2 : W.heap.size + 1 + 1 ≠ gc := by omega
        clear hD e1 hLk hDl r0 r1 HX2 HD HLw HRt HW HNm HE
        go_wp2_with fail
        have hc1 := HX.out.c.set 3 (.int .i64 z)
        have ho1 := HX.out.o.other (p := ⟨gc, 3, none⟩) hgn2 (.int .i64 z)
        have hs1 := own_put1 HX.out.s HX.out.c (by decide) 3 (.int .i64 z)
        have hl1 := HX.out.lo.setCell (p := ⟨gc, 3, none⟩) (show W.heap.size ≤ gc by omega) (.int .i64 z)
        obtain ⟨hp, hpb⟩ := put_four ho1 hl1 (by omega) (.int .i64 f) (.int .i64 d) (.slice sa I.length sc) (.int .i64 z)
        have hs2 := own_four hs1 ho1 (by decide) (.int .i64 f) (.int .i64 d) (.slice sa I.length sc) (.int .i64 z)
        have p0 := hp.cell 0 rfl
        have p1 := hp.cell 1 rfl
        have p2 := hp.cell 2 rfl
        have p3 := hp.cell 3 rfl
        exact bodyPost_ret (v := .tuple #[.agg (cdv f d (.slice sa I.length sc) z), .int .i64 0]) (by simp [results, Tryz.results13, go_sem, p0, p1, p2, p3]) rfl (by rw [HEv.out]; exact ⟨sa, sc, rfl, hs2, hpb⟩)

end Go.Proofs.YtlhbgkaknfhlnaaGreat

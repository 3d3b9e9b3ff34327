/-
  ref.Parse: the tree of a text, as the document has it.
-/
import Derived.Test.YtamekjocchekoaaExP
import Derived.Test.YtamekjocchekoaaRTokens
import Derived.Test.YtamekjocchekoaaLate
namespace Go.Proofs.Ytamekjocchekoaa
open Go.RowKit Go.IntWalk Lx Pz
set_option linter.unusedVariables false
set_option linter.unusedSimpArgs false

/-- An append of one name to a tree on its way, at a step of a region that draws. -/
theorem step_nmm {w W : World} {b : Nat} {nv bv dv : Value} {root : Int} {NM : List Txt} {BS : List Int} {NS : List Nd} {ops : Array Oper} {o : Oper} {a : Act} {K : Act → World → Prop} {Q : Exit → Act → World → Prop} {E : Prop}
    (hgd : o.guard = none) (s x : Operand) (ho : o.op = .call { callee := .builtin .append, args := #[s, x], argTypes := #[22, 22] })
    (hs : a.eval s = nv) (hR : Mk w W b nv bv dv root NM BS NS) (q : Nat) (n : Txt) (hx : a.eval x = .slice (some ⟨q, 0, none⟩) 1 1) (hc : HasC W q 9 #[.string (sB n)]) (h3 : NM.length ≤ 2000000)
    (h : ∀ g cap w', w'.ownsRow w.heap.size 9 1 (.slice (some ⟨g, 0, none⟩) (NM.length + 1) cap) (NM ++ [n]).length (tx64 (NM ++ [n])) → HasC w' b 58 #[nv, bv, dv, .int .i64 root] → Kp [9] W w' → Below w.heap.size w w' → W.grownBy w' nv.ownBlock → K (a.put o.dst (.slice (some ⟨g, 0, none⟩) (NM.length + 1) cap)) w') :
    if Region.wanted o (yielded ops a.tmps) = true then Oper.wp Try.prog o a W K Q else E := by
  obtain ⟨i0, hi0, hz0, hz1, hz2⟩ := info_parts infoStr
  refine step_append_lies W hgd s x 22 ho w.heap.size 9 i0 _ 1 16 Try.underlying22 hi0 hz0 hz1 hz2 rfl (by omega) nv NM.length (tx64 NM) hs hR.names ⟨q, 0, none⟩ 1 1 [.string (sB n)] hx rfl (news_one hc) (by simp [Value.oneCell']) (by omega) (by unfold maxLen; omega) (by omega) hR.old.size W.heap.size rfl ?_
  intro g cap w' hown hgrow hat hlt
  have hk : Kp [9] W w' := Kp.grown hgrow fun k hk => by
    obtain ⟨_, cs, fr, hb⟩ := owns_block hR.names k hk
    exact ⟨cs, _, fr, hb, by simp⟩
  exact h g cap w' (by rw [List.length_append]; simpa using hown) (hR.blk.kp hk (by decide)) hk (hR.old.grown hgrow hR.old.size fun k hk => (owns_block hR.names k hk).1) hgrow
theorem mk_nm {w V Z w1 : World} {b : Nat} {nv bv dv : Value} {root : Int} {NM NM' : List Txt} {BS : List Int} {NS : List Nd} {v : Value} (hR : Mk w V b nv bv dv root NM BS NS) (hVZ : Below V.heap.size V Z)
    (hown : w1.ownsRow w.heap.size 9 1 v NM'.length (tx64 NM')) (hb1 : HasC w1 b 58 #[nv, bv, dv, .int .i64 root]) (hk1 : Kp [9] Z w1) (hold : Below w.heap.size w w1) :
    Mk w (w1.setCell ⟨b, 0, none⟩ v) b v bv dv root NM' BS NS ∧ Kp [9, 58] V (w1.setCell ⟨b, 0, none⟩ v) := by
  have ks : Kp [58] w1 (w1.setCell ⟨b, 0, none⟩ v) := Kp.set hb1 (by simp) 0 v
  have hk : Kp [9, 58] V (w1.setCell ⟨b, 0, none⟩ v) := ((Kp.of_below [9, 58] hVZ).trans (hk1.mono (by decide))).trans (ks.mono (by decide))
  exact ⟨⟨hb1.set 0 v, hR.base, owns_kp hown ks (by decide), owns_kp hR.binds hk (by decide), owns_kp hR.nodes hk (by decide), hold.setCell hR.base v⟩, hk⟩
/-- An append of one bind, at a plain region's list. -/
theorem list_bdm {w W : World} {b : Nat} {nv bv dv : Value} {root : Int} {NM : List Txt} {BS : List Int} {NS : List Nd} {ops : Array Oper} {rest : List Oper} {o : Oper} {a : Act} {Q : Exit → Act → World → Prop}
    (hgd : o.guard = none) (s x : Operand) (ho : o.op = .call { callee := .builtin .append, args := #[s, x], argTypes := #[23, 23] })
    (hs : a.eval s = bv) (hR : Mk w W b nv bv dv root NM BS NS) (q : Nat) (n : Int) (hx : a.eval x = .slice (some ⟨q, 0, none⟩) 1 1) (hc : HasC W q 3 #[.int .i64 n]) (h3 : BS.length ≤ 2000000)
    (h : ∀ g cap w', w'.ownsRow w.heap.size 3 1 (.slice (some ⟨g, 0, none⟩) (BS.length + 1) cap) (BS ++ [n]).length (in64 (BS ++ [n])) → HasC w' b 58 #[nv, bv, dv, .int .i64 root] → Kp [3] W w' → Below w.heap.size w w' → wpList Try.prog ops Q rest (a.put o.dst (.slice (some ⟨g, 0, none⟩) (BS.length + 1) cap)) w') :
    wpList Try.prog ops Q (o :: rest) a W := by
  obtain ⟨i0, hi0, hz0, hz1, hz2⟩ := info_parts infoInt
  refine wpList_append_lies W hgd s x 23 ho w.heap.size 3 i0 _ 1 8 Try.underlying23 hi0 hz0 hz1 hz2 rfl (by omega) bv BS.length (in64 BS) hs hR.binds ⟨q, 0, none⟩ 1 1 [.int .i64 n] hx rfl (news_one hc) (by simp [Value.oneCell']) (by omega) (by unfold maxLen; omega) (by omega) hR.old.size W.heap.size rfl ?_
  intro g cap w' hown hgrow hat hlt
  have hk : Kp [3] W w' := Kp.grown hgrow fun k hk => by
    obtain ⟨_, cs, fr, hb⟩ := owns_block hR.binds k hk
    exact ⟨cs, _, fr, hb, by simp⟩
  exact h g cap w' (by rw [List.length_append]; simpa using hown) (hR.blk.kp hk (by decide)) hk (hR.old.grown hgrow hR.old.size fun k hk => (owns_block hR.binds k hk).1)
theorem mk_bd {w V Z w1 : World} {b : Nat} {nv bv dv : Value} {root : Int} {NM : List Txt} {BS BS' : List Int} {NS : List Nd} {v : Value} (hR : Mk w V b nv bv dv root NM BS NS) (hVZ : Below V.heap.size V Z)
    (hown : w1.ownsRow w.heap.size 3 1 v BS'.length (in64 BS')) (hb1 : HasC w1 b 58 #[nv, bv, dv, .int .i64 root]) (hk1 : Kp [3] Z w1) (hold : Below w.heap.size w w1) :
    Mk w (w1.setCell ⟨b, 1, none⟩ v) b nv v dv root NM BS' NS ∧ Kp [3, 58] V (w1.setCell ⟨b, 1, none⟩ v) := by
  have ks : Kp [58] w1 (w1.setCell ⟨b, 1, none⟩ v) := Kp.set hb1 (by simp) 1 v
  have hk : Kp [3, 58] V (w1.setCell ⟨b, 1, none⟩ v) := ((Kp.of_below [3, 58] hVZ).trans (hk1.mono (by decide))).trans (ks.mono (by decide))
  exact ⟨⟨hb1.set 1 v, hR.base, owns_kp hR.names hk (by decide), owns_kp hown ks (by decide), owns_kp hR.nodes hk (by decide), hold.setCell hR.base v⟩, hk⟩

theorem res_qparse {F : World} {A : Nat} {a b c d : Value} {x : Int} {tmps : Array Value} (hA : HasC F A 26 #[a, b, c, d]) (h2 : tmps[2]? = some (.pointer (some ⟨A, 0, none⟩))) (h3 : tmps[3]? = some (.int .i64 x)) :
    (results Try.f10 tmps).run Try.prog F = .ok (.tuple #[.agg #[a, b, c, d], .int .i64 x]) F := by
  obtain ⟨c0, c1, c2, c3⟩ := facts4 hA
  simp [results, Try.results10, go_sem, h2, h3, c0, c1, c2, c3]
/-- The result's box, written empty. -/
theorem box_nil {V : World} {q : Nat} (h : HasC V q 26 nil4) : HasC ((((V.setCell ⟨q, 0, none⟩ (.slice none 0 0)).setCell ⟨q, 1, none⟩ (.slice none 0 0)).setCell ⟨q, 2, none⟩ (.slice none 0 0)).setCell ⟨q, 3, none⟩ (.int .i64 0)) q 26 nil4 := (((h.set 0 _).set 1 _).set 2 _).set 3 _
theorem bel_nil {w V : World} {q : Nat} (h : Below w.heap.size w V) (hq : w.heap.size ≤ q) : Below w.heap.size w ((((V.setCell ⟨q, 0, none⟩ (.slice none 0 0)).setCell ⟨q, 1, none⟩ (.slice none 0 0)).setCell ⟨q, 2, none⟩ (.slice none 0 0)).setCell ⟨q, 3, none⟩ (.int .i64 0)) := (((h.setCell (p := ⟨q, 0, none⟩) hq _).setCell (p := ⟨q, 1, none⟩) hq _).setCell (p := ⟨q, 2, none⟩) hq _).setCell (p := ⟨q, 3, none⟩) hq _

theorem g_uni {nm : List Txt} {l : List Tk} {e e' : E} (h : G nm 0 l e) (h' : G nm 0 l e') : e = e' := by
  have h1 := (complete h).1 [] (by simp [Fol])
  have h2 := (complete h').1 [] (by simp [Fol])
  have := det h1 _ h2
  cases this
  rfl
theorem facts4m {V : World} {b : Nat} {x y z u : Value} (h : HasC V b 58 #[x, y, z, u]) : V.cell? ⟨b, 0, none⟩ = some x ∧ V.cell? ⟨b, 1, none⟩ = some y ∧ V.cell? ⟨b, 2, none⟩ = some z ∧ V.cell? ⟨b, 3, none⟩ = some u := ⟨h.cell 0 rfl, h.cell 1 rfl, h.cell 2 rfl, h.cell 3 rfl⟩
/-- The loop's state: what is read and bound so far. -/
structure Pa (w V : World) (q b : Nat) (a : Option Addr) (n cap : Nat) (T : List Tok) (f k : Nat) (nm : List Txt) (es : List E) (nv bv dv : Value) : Prop where
  ma' : Mk w V b nv bv dv 0 nm (bdL es 0) (flL es 0)
  tz : Tz V a n cap T
  box : HasC V q 26 nil4
  gp : ∀ o, GP [] [] (T.map ab) o ↔ GP nm es ((T.map ab).drop f) o
  ok : Nok nm
  ns : nosemi (((T.map ab).take k).drop f)
  fk : f ≤ k
  len : nm.length = es.length
  sz : szL es ≤ f
  el : es.length ≤ f
theorem Pa.later {w V V' : World} {q b : Nat} {a : Option Addr} {n cap : Nat} {T : List Tok} {f k : Nat} {nm : List Txt} {es : List E} {nv bv dv : Value} (h : Pa w V q b a n cap T f k nm es nv bv dv) (hb : Below V.heap.size V V') : Pa w V' q b a n cap T f k nm es nv bv dv :=
  ⟨h.ma'.later hb, h.tz.later hb, h.box.below hb, h.gp, h.ok, h.ns, h.fk, h.len, h.sz, h.el⟩

set_option maxRecDepth 100000 in
set_option maxHeartbeats 32000000 in
theorem qparse_any (s : ByteArray) (w : World) : Calls Try.prog 10 #[.string s] w fun e W' => ParP w (bs s) e W' := by
  go_enter Try.func10, Try.ntmps10
  go_wp2_with fail
  refine (rtokens_any s _).mono ?_
  have HB0 := hide (bel1 w (.cells nil4 26))
  have HX0 := hide (HasC.new w 26 nil4)
  rintro e W1 (⟨hn, rfl, hb⟩ | ⟨T, v, hT, rfl, ho, hb⟩)
  · have HN := hide hn
    have HB1 := hide (bel HB0.out hb)
    have HX := hide (HX0.out.below hb)
    clear hn hb HB0 HX0
    obtain ⟨c0, c1, c2, c3⟩ := facts4 HX.out
    obtain ⟨y0, y1, y2, y3⟩ := free4 HX.out
    go_wp2_with fail
    exact bodyPost_ret (res_qparse (box_nil HX.out) rfl rfl) rfl (.inl ⟨rfl, bel_nil HB1.out (Nat.le_refl _), .inl HN.out⟩)
  · have HT := hide hT
    have hTl : T.length ≤ 1024 := by
      obtain ⟨h1, h2⟩ := tks_cov hT
      have := cov_len T _ 0 h1
      omega
    obtain ⟨a, cap, rfl, hToks, -⟩ := Toks.of_owns ho
    have HZ := hide (show Tz W1 a T.length cap T from ⟨hToks, fun x hx => by
      subst hx
      obtain ⟨-, cs, fr, h⟩ := owns_block ho x.block rfl
      exact ⟨cs, fr, h⟩⟩)
    have HWf := hide (tks_wf hT)
    have HB1 := hide (bel HB0.out hb)
    have HX := hide (HX0.out.below hb)
    obtain ⟨w1, hw1⟩ : ∃ X, w.alloc (.cells nil4 26) = X := ⟨_, rfl⟩
    obtain ⟨q, hq⟩ : ∃ q, w.heap.size = q := ⟨_, rfl⟩
    have HBw := hide (show Below w1.heap.size w1 W1 by rw [← hw1]; exact hb)
    have HW0 := hide (show Below w.heap.size w w1 by rw [← hw1]; exact HB0.out)
    have HX1 := hide (show HasC w1 q 26 nil4 by rw [← hw1, ← hq]; exact HX0.out)
    have HQ := hide hq
    rw [hq] at HX ⊢
    clear hT hb HB0 HX0 ho hToks hw1 hq HB1
    obtain ⟨n, hn⟩ : ∃ n, T.length = n := ⟨_, rfl⟩
    have HTl := hide hn
    rw [hn] at hTl HZ ⊢
    clear hn
    go_wp2_with fail
    have HPa0 := hide (show Pa w1 (W1.alloc (.cells #[.slice none 0 0, .slice none 0 0, .slice none 0 0, .int .i64 0] 58)) q W1.heap.size a n cap T 0 0 [] [] (.slice none 0 0) (.slice none 0 0) (.slice none 0 0) from
      ⟨⟨HasC.new _ _ _, HBw.out.size, World.ownsRow_nil _ _ _ _, World.ownsRow_nil _ _ _ _, World.ownsRow_nil _ _ _ _, bel HBw.out (bel1 _ _)⟩, HZ.out.later (bel1 _ _), HX.out.alloc _, fun o => by rw [List.drop_zero], by intro s hs; simp at hs, by intro t ht; simp at ht, Nat.le_refl _, rfl, by simp [szL], by simp⟩)
    clear HZ HBw HX
    generalize W1.heap.size = b at *
    generalize W1.alloc (.cells #[.slice none 0 0, .slice none 0 0, .slice none 0 0, .int .i64 0] 58) = W2 at *
    obtain ⟨L, hL⟩ : ∃ L, T.map ab = L := ⟨_, rfl⟩
    have HL := hide hL
    have HLl := hide (show L.length = n by rw [← hL, List.length_map, HTl.out])
    clear hL
    go_loopw [7, 8] (fun fv i wr => ∃ (f k : Nat) (nm : List Txt) (es : List E) (nv bv dv : Value), k ≤ n ∧ f ≤ k ∧ i = .int .i64 (k : Int) ∧ fv = .int .i64 (f : Int) ∧ Hid (Pa w1 wr q b a n cap T f k nm es nv bv dv)) (fun _ i _ => n - (intOf i).toNat)
    case atStart => exact ⟨0, 0, [], [], _, _, _, Nat.zero_le _, Nat.le_refl _, rfl, rfl, hide HPa0.out⟩
    case round =>
      clear HPa0
      obtain ⟨f, k, nm, es, nv, bv, dv, hk, hfk, rfl, rfl, HP⟩ := hrel
      rename World => V
      by_cases hlt : k < n
      · obtain ⟨g, off, rfl, e0, e1, e2⟩ := HP.out.tz.at hlt
        obtain ⟨hwf, hab⟩ := wf_at HWf.out (i := k) (by rw [HTl.out]; exact hlt)
        have HAb := hide hab
        have HM1 := hide (mark_ab hwf (s := [59]) (by decide))
        rw [show mkT [59] = .semi by decide] at HM1
        have hk3 : (k : Int) < n := by omega
        have hk4 : (0 : Int) ≤ k := by omega
        clear hab hwf
        generalize htq : T.getD k t0 = t at *
        clear htq
        obtain ⟨kd, X, ps⟩ := t
        simp only at e0 e1 e2 HM1
        go_wp2_with fail
        refine (qmark_any kd ps X [59] _).mono ?_
        rw [HM1.out]
        rintro e V2 ⟨rfl, hb⟩
        have HP2 := hide (HP.out.later hb)
        clear hb HP e0 e1 e2
        by_cases hsemi : ab ⟨kd, X, ps⟩ = .semi
        · rw [decide_eq_true hsemi]
          rw [hsemi] at HAb
          clear hsemi HM1
          have hgp : ∀ o, GP [] [] (T.map ab) o ↔ GP nm es ((L.take k).drop f ++ .semi :: L.drop (k + 1)) o := fun o => by
            rw [HP2.out.gp o, HL.out]
            have h := HAb.out
            rw [HL.out] at h
            rw [seg_split hfk h]
          have HGp := hide hgp
          have HNs := hide (show nosemi ((L.take k).drop f) by have h := HP2.out.ns; rw [HL.out] at h; exact h)
          have HOk := hide HP2.out.ok
          have HFail := hide (show (∀ s l1 e, (L.take k).drop f = .word wLet :: .word s :: .eq :: l1 → resv s = false → nm.contains s = false → ¬ G nm 0 l1 e) → Ans (T.map ab) none from fun h o => by
            constructor
            · intro h2; cases h2
            · intro h2
              exact absurd ((HGp.out o).1 h2) (seg_no HOk.out HNs.out h o))
          clear hgp
          have hsz := HP2.out.sz
          have hel := HP2.out.el
          have HBx := hide fun V' (hb : Below V2.heap.size V2 V') => And.intro (HP2.out.box.below hb) (bel HW0.out (bel HP2.out.ma'.old hb))
          go_wp2_with (refine sub_lh rfl _ _ _ rfl rfl HP2.out.tz f k (by rfl) (by rfl) (by omega) (by omega) ?_; intro a' c' hsub; have HSub := hide hsub; clear hsub)
          obtain ⟨ns, hns⟩ : ∃ m, k - f = m := ⟨_, rfl⟩
          have HNsl := hide (show ((L.take k).drop f).length = ns by rw [List.length_drop, List.length_take, HLl.out]; omega)
          rw [hns] at HSub ⊢
          have hns2 : ns + f = k := by omega
          clear hns
          by_cases hn4 : ns < 4
          · have HN := hide (HFail.out (fun s l1 e h1 _ _ h4 => by
              have h5 := congrArg List.length h1
              rw [HNsl.out] at h5
              simp at h5
              have : l1 ≠ [] := fun h => by rw [h] at h4; exact g_ne h4
              have : 0 < l1.length := List.length_pos_iff.2 this
              omega))
            have hn4i : (ns : Int) < 4 := by omega
            refine wp_region_quiet_below mixed' (by kernel_rfl) ?_
            repeat (first | go_big_quiet_step (first
              | (fail)))
            refine wpQuiet_nil ?_
            intro V5 hw'
            obtain ⟨⟨dq, osq⟩, hw''⟩ := hw'
            have hb4 : Below V2.heap.size V2 (Go.Sort.grow (redrawn V2 dq) osq) := below_regrown _ _ _
            simp only at hw''
            rw [← hw''] at hb4
            clear hw''
            obtain ⟨hx5, hbx⟩ := HBx.out V5 hb4
            have HX5 := hide hx5
            have HB5 := hide hbx
            obtain ⟨c0, c1, c2, c3⟩ := facts4 HX5.out
            obtain ⟨y0, y1, y2, y3⟩ := free4 HX5.out
            clear hx5 hbx hb4
            go_wp2_with fail
            exact bodyPost_ret (res_qparse (box_nil HX5.out) rfl rfl) rfl (.inl ⟨rfl, bel_nil HB5.out (by rw [HQ.out]; exact Nat.le_refl _), .inr ⟨T, HT.out, HN.out⟩⟩)
          · have hn4i : ¬ ((ns : Int) < 4) := by omega
            obtain ⟨gs, os, rfl, a0, a1, a2⟩ := HSub.out.at (i := 0) (by omega)
            obtain ⟨g', o', heq1, b0, b1, b2⟩ := HSub.out.at (i := 1) (by omega)
            cases heq1
            obtain ⟨g', o', heq2, c0, c1, c2⟩ := HSub.out.at (i := 2) (by omega)
            cases heq2
            have hSl := HSub.out.t.len
            obtain ⟨w0, l0⟩ := wf_at (wf_sub HWf.out f k) (i := 0) (by omega)
            obtain ⟨w1', l1⟩ := wf_at (wf_sub HWf.out f k) (i := 1) (by omega)
            obtain ⟨w2, l2⟩ := wf_at (wf_sub HWf.out f k) (i := 2) (by omega)
            rw [List.map_drop, List.map_take, HL.out] at l0 l1 l2
            have HL0 := hide l0
            have HL1 := hide l1
            have HL2 := hide l2
            have HW0' := hide w0
            have HW1' := hide w1'
            have HMq := hide (mark_ab w2 (s := [61]) (by decide))
            rw [show mkT [61] = .eq by decide] at HMq
            have HSeg := hide (show (L.take k).drop f = ab (((T.take k).drop f).getD 0 t0) :: ab (((T.take k).drop f).getD 1 t0) :: ab (((T.take k).drop f).getD 2 t0) :: ((L.take k).drop f).drop 3 by
              generalize (L.take k).drop f = S at l0 l1 l2
              match S, l0, l1, l2 with
              | x :: y :: z :: S, l0, l1, l2 =>
                simp only [List.getElem?_cons_zero, List.getElem?_cons_succ, Option.some.injEq] at l0 l1 l2
                rw [l0, l1, l2]
                rfl
              | [], l0, _, _ => simp at l0
              | [_], _, l1, _ => simp at l1
              | [_, _], _, _, l2 => simp at l2)
            clear l0 l1 l2 w0 w1' w2 hSl
            generalize ((T.take k).drop f).getD 0 t0 = ta at *
            obtain ⟨tb0, htb0⟩ : ∃ z, ((T.take k).drop f).getD 1 t0 = z := ⟨_, rfl⟩
            have HTB := hide htb0
            clear htb0
            rw [HTB.out] at b0 b1 b2 HL1 HW1' HSeg
            have HX1t := hide (congrArg Tok.text HTB.out)
            have HX1t : Hid ((((T.take k).drop f).getD 1 t0).text = tb0.text) := HX1t
            clear HTB
            generalize ((T.take k).drop f).getD 2 t0 = tc' at *
            obtain ⟨k0, X0, p0⟩ := ta
            obtain ⟨k1, X1, p1'⟩ := tb0
            simp only at HX1t
            obtain ⟨k2, X2, p2'⟩ := tc'
            simp only [Nat.zero_mul, Nat.one_mul, Nat.add_zero] at a0 a1 a2 b0 b1 b2 c0 c1 c2
            simp only at HMq
            obtain ⟨na, nc, hnv⟩ := owns_form HP2.out.ma'.names
            have n0 := HP2.out.ma'.blk.cell 0 rfl
            rw [hnv] at n0
            obtain ⟨na', nc', hnv', hTx⟩ := Tx.of_owns HP2.out.ma'.names
            rw [hnv] at hnv'
            cases hnv'
            have HRs := hide fun V => qreserved_any (sB X1) V
            have HPl := hide fun d os => to_below (qplace_any (hTx.later (below_regrown V2 d os)) (sB X1))
            have HMk := hide fun V => qmark_any k2 p2' X2 [61] V
            rw [bs_sB] at HRs HPl
            rw [HMq.out] at HMk
            have ra0 := cell_regrown a0
            have ra1 := cell_regrown a1
            have rb0 := cell_regrown b0
            have rb1 := cell_regrown b1
            have rc0 := cell_regrown c0
            have rc1 := cell_regrown c1
            have rc2 := cell_regrown c2
            have rn0 := cell_regrown n0
            have hn1 : (0 : Int) < (ns : Int) := by omega
            have hn2 : (1 : Int) < (ns : Int) := by omega
            have hn3 : (2 : Int) < (ns : Int) := by omega
            clear hTx a0 a1 a2 b0 b1 b2 c0 c1 c2 n0
            generalize nm.length = nl at *
            by_cases h0 : k0 = 2
            · subst h0
              have h0' : ((2 : Int) != 2) = false := rfl
              have hA0 : ab ⟨2, X0, p0⟩ = .word X0 := by simp [ab]
              by_cases h1 : X0 = wLet
              · have h1' : (X0 == [108, 101, 116]) = true := by rw [h1]; decide
                have HE1 := hide h1
                have hA0 : ab ⟨2, X0, p0⟩ = .word wLet := by rw [hA0, h1]
                clear h1
                by_cases h2 : k1 = 2
                · subst h2
                  have hA1 : ab ⟨2, X1, p1'⟩ = .word X1 := by simp [ab]
                  by_cases h3 : ab ⟨k2, X2, p2'⟩ = .eq
                  · rw [decide_eq_true h3] at HMk
                    rw [hA0, hA1, h3] at HSeg
                    cases h4 : resv X1 with
                    | true =>
                      rw [h4] at HRs
                      have HN := hide (HFail.out (fun s l1 e h5 h6 _ _ => by
                        rw [HSeg.out] at h5
                        simp only [List.cons.injEq, Tk.word.injEq, true_and] at h5
                        rw [← h5.1, h4] at h6
                        cases h6))
                      clear h4
                      refine wp_region_quiet_below mixed' (by kernel_rfl) ?_
                      repeat (first | go_big_quiet_step (first
                        | (go_at_call 25; exact Calls.regrown_of (HMk.out _)) | (go_at_call 15; exact Calls.regrown_of (HRs.out _)) | (go_at_call 26; exact Calls.regrown_of (HPl.out _ _))))
                      refine wpQuiet_nil ?_
                      intro V5 hw'
                      obtain ⟨⟨dq, osq⟩, hw''⟩ := hw'
                      have hb4 : Below V2.heap.size V2 (Go.Sort.grow (redrawn V2 dq) osq) := below_regrown _ _ _
                      simp only at hw''
                      rw [← hw''] at hb4
                      clear hw''
                      clear ra0 ra1 rb0 rb1 rc0 rc1 rc2 rn0
                      obtain ⟨hx5, hbx⟩ := HBx.out V5 hb4
                      have HX5 := hide hx5
                      have HB5 := hide hbx
                      obtain ⟨c0, c1, c2, c3⟩ := facts4 HX5.out
                      obtain ⟨y0, y1, y2, y3⟩ := free4 HX5.out
                      clear hx5 hbx hb4
                      go_wp2_with fail
                      exact bodyPost_ret (res_qparse (box_nil HX5.out) rfl rfl) rfl (.inl ⟨rfl, bel_nil HB5.out (by rw [HQ.out]; exact Nat.le_refl _), .inr ⟨T, HT.out, HN.out⟩⟩)
                    | false =>
                      rw [h4] at HRs
                      cases h5 : nm.contains X1 with
                      | true =>
                        have hix : (0 : Int) ≤ ixZ nm X1 := by have := ixZ_nonneg nm X1; rw [h5] at this; simpa using this
                        have HN := hide (HFail.out (fun s l1 e h6 _ h8 _ => by
                          rw [HSeg.out] at h6
                          simp only [List.cons.injEq, Tk.word.injEq, true_and] at h6
                          rw [← h6.1, h5] at h8
                          cases h8))
                        clear h5 h4
                        generalize ixZ nm X1 = iz at *
                        refine wp_region_quiet_below mixed' (by kernel_rfl) ?_
                        repeat (first | go_big_quiet_step (first
                          | (go_at_call 25; exact Calls.regrown_of (HMk.out _)) | (go_at_call 15; exact Calls.regrown_of (HRs.out _)) | (go_at_call 26; exact Calls.regrown_of (HPl.out _ _))))
                        refine wpQuiet_nil ?_
                        intro V5 hw'
                        obtain ⟨⟨dq, osq⟩, hw''⟩ := hw'
                        have hb4 : Below V2.heap.size V2 (Go.Sort.grow (redrawn V2 dq) osq) := below_regrown _ _ _
                        simp only at hw''
                        rw [← hw''] at hb4
                        clear hw''
                        clear ra0 ra1 rb0 rb1 rc0 rc1 rc2 rn0
                        obtain ⟨hx5, hbx⟩ := HBx.out V5 hb4
                        have HX5 := hide hx5
                        have HB5 := hide hbx
                        obtain ⟨c0, c1, c2, c3⟩ := facts4 HX5.out
                        obtain ⟨y0, y1, y2, y3⟩ := free4 HX5.out
                        clear hx5 hbx hb4
                        go_wp2_with fail
                        exact bodyPost_ret (res_qparse (box_nil HX5.out) rfl rfl) rfl (.inl ⟨rfl, bel_nil HB5.out (by rw [HQ.out]; exact Nat.le_refl _), .inr ⟨T, HT.out, HN.out⟩⟩)
                      | false =>
                        have hix : ixZ nm X1 = -1 := by unfold ixZ; rw [h5]; rfl
                        rw [hix] at HPl
                        have HR4 := hide h4
                        have HC5 := hide h5
                        clear h4 h5 hix
                        have HSegE := hide (show ∀ s l1, (L.take k).drop f = .word wLet :: .word s :: .eq :: l1 → s = X1 ∧ l1 = ((L.take k).drop f).drop 3 from fun s l1 h => by
                          have h2 := h
                          rw [HSeg.out] at h2
                          simp only [List.cons.injEq, Tk.word.injEq, true_and] at h2
                          exact ⟨h2.1.symm, h2.2.symm⟩)
                        have hnm : nm.length ≤ 2000 := by rw [HP2.out.len]; omega
                        refine wp_region_quiet_below mixed' (by kernel_rfl) ?_
                        repeat (first | go_big_quiet_step (first
                          | (go_at_call 25; exact Calls.regrown_of (HMk.out _)) | (go_at_call 15; exact Calls.regrown_of (HRs.out _)) | (go_at_call 26; exact Calls.regrown_of (HPl.out _ _))))
                        refine wpQuiet_nil ?_
                        intro V5 hw'
                        obtain ⟨⟨dq, osq⟩, hw''⟩ := hw'
                        have hb4 : Below V2.heap.size V2 (Go.Sort.grow (redrawn V2 dq) osq) := below_regrown _ _ _
                        simp only at hw''
                        rw [← hw''] at hb4
                        clear hw''
                        clear ra0 ra1 rb0 rc0 rc1 rc2 rn0 hnv
                        have HP5 := hide (HP2.out.later hb4)
                        have HS5 := hide (HSub.out.later hb4)
                        have HC := hide ((expr_rd (w := w1) (b := b) (nv := nv) (bv := bv) (root := 0) (BS := bdL es 0) HP5.out.ok (((T.take k).drop f).drop 3).length (((T.take k).drop f).drop 3) rfl).2.2)
                        clear hb4 HBx HP2 HSub rb1
                        go_wp2_with (refine sub_l rfl _ _ rfl rfl HS5.out 3 (by rfl) (by omega) ?_; intro a3 c3 hsub; have HSub3 := hide hsub; clear hsub)
                        have hC := HC.out V5 dv (flL es 0) a3 (ns - 3) c3 HP5.out.ma' HSub3.out (wf_drop (wf_sub HWf.out f k) 3) (by rw [flL_len]; omega)
                        rw [List.map_drop, List.map_drop, List.map_take, HL.out] at hC
                        refine Calls.mono (show Calls Try.prog 27 #[ptr b, .slice a3 (ns - 3) c3] V5 _ from hC) ?_
                        clear hC HC HSub3
                        rintro e V6 (⟨x1, hg1, rfl, ⟨dv1, hm1⟩, hk6⟩ | ⟨hg1, ⟨z, rfl⟩, hb6⟩)
                        · have HG1 := hide hg1
                          have hsz1 := g_len hg1
                          rw [List.length_drop, HNsl.out] at hsz1
                          rw [flL_len] at hm1 ⊢
                          have HM6 := hide (show Mk w1 V6 b nv bv dv1 0 nm (bdL es 0) (flL (es ++ [x1]) 0) by rw [flL_snoc, Nat.zero_add]; exact hm1)
                          have HT6 := hide (HP5.out.tz.kp hk6 (by decide))
                          have HX6 := hide (HP5.out.box.kp hk6 (by decide))
                          obtain ⟨gq, oq, heq6, -, x6, -⟩ := (HS5.out.kp hk6 (by decide)).at (i := 1) (by omega)
                          cases heq6
                          rw [HX1t.out] at x6
                          simp only [Nat.one_mul] at x6
                          have HLen := hide HP5.out.len
                          obtain ⟨z1, hz1⟩ : ∃ z, ((szL es + x1.size : Nat) : Int) - 1 = z := ⟨_, rfl⟩
                          rw [hz1]
                          have HZ1 := hide hz1
                          have HGn := hide (show ∀ o, GP [] [] (T.map ab) o ↔ GP (nm ++ [X1]) (es ++ [x1]) (L.drop (k + 1)) o from fun o => by
                            rw [HGp.out o, gp_semi HOk.out HNs.out]
                            constructor
                            · rintro ⟨s, l1, e, h1, h2, h3, h4, h5⟩
                              obtain ⟨rfl, rfl⟩ := HSegE.out s l1 h1
                              rw [g_uni HG1.out h4]
                              exact h5
                            · intro h
                              exact ⟨X1, _, x1, HSeg.out, HR4.out, HC5.out, HG1.out, h⟩)
                          clear hg1 hm1 hk6 hz1 HP5 HS5 HFail
                          have n6 : V6.cell? ⟨b, 0, none⟩ = some nv := HM6.out.blk.cell 0 rfl
                          have hbV : b < V6.heap.size := HM6.out.blk.lt
                          have n6a : ∀ o : Obj, (V6.alloc o).cell? ⟨b, 0, none⟩ = some nv := fun o => (cell_old hbV).trans n6
                          have hgV : gs < V6.heap.size := World.block_lt_of_cell? V6 _ x6
                          have x6a : ∀ o : Obj, (V6.alloc o).cell? ⟨gs, os + 3 + 1, none⟩ = some (.string (sB X1)) := fun o => (cell_old hgV).trans x6
                          go_wp2_with fail
                          go_region_law
                            (first
                              | (refine step_nmm (by rfl) _ _ (by rfl) (by rfl) (by first | exact (HM6.out.later (bel1 _ _)).later (below_drew _) | exact (HM6.out.later (below_drew V6)).later (bel1 _ _)) V6.heap.size X1 (by rfl) (by first | exact HasC.new _ _ _ | exact (HasC.new V6 9 #[.string (sB X1)]).below (below_drew _)) (by omega) ?_; intro g7 cap7 w7 hown hb7 hk7 hold7 hgrow7; have t7 := hb7.cell 0 rfl; have y7 := hb7.frozen 0))
                          all_goals
                            have HE := hide (mk_nm HM6.out (by first | exact bel (bel1 V6 _) (below_drew _) | exact bel (below_drew V6) (bel1 _ _)) hown hb7 hk7 hold7)
                            clear hown hb7 hk7 hold7 hgrow7 t7 y7 n6 n6a x6 x6a hbV hgV
                            generalize w7.setCell ⟨b, 0, none⟩ (.slice (some ⟨g7, 0, none⟩) (nm.length + 1) cap7) = V8 at *
                            generalize Value.slice (some ⟨g7, 0, none⟩) (nm.length + 1) cap7 = nv8 at *
                            have HT8 := hide (HT6.out.kp HE.out.2 (by decide))
                            have HX8 := hide (HX6.out.kp HE.out.2 (by decide))
                            have HM8 := hide HE.out.1
                            have hbl : (bdL es 0).length ≤ 2000000 := by rw [bdL_len]; omega
                            have c8 := HM8.out.blk.cell 1 rfl
                            clear HE HT6 HX6 HM6
                            go_wp2_with (at_builtin; refine list_bdm rfl _ _ rfl rfl (HM8.out.later (bel1 _ _)) _ z1 rfl (HasC.new _ _ _) hbl ?_; intro g9 cap9 w9 hown9 hb9 hk9 hold9; have t9 := hb9.cell 1 rfl; have y9 := hb9.frozen 1; have HE9 := hide (mk_bd HM8.out (bel1 V8 _) hown9 hb9 hk9 hold9); clear hown9 hb9 hk9 hold9)
                            go_roundw
                            case rel => exact ⟨k + 1, k + 1, nm ++ [X1], es ++ [x1], _, _, _, by omega, Nat.le_refl _, by go_num, by go_num, hide ⟨(by have h := HE9.out.1; rw [← HZ1.out] at h; rw [bdL_snoc, Nat.zero_add]; exact h), HT8.out.kp HE9.out.2 (by decide), HX8.out.kp HE9.out.2 (by decide), (by rw [HL.out]; have h := HGn.out; rw [HL.out] at h; exact h), HOk.out.snoc HR4.out, (by intro t ht; rw [List.drop_of_length_le (by rw [List.length_take]; omega)] at ht; exact absurd ht (by simp)), Nat.le_refl _, (by rw [List.length_append, List.length_append, HLen.out]; rfl), (by rw [szL_snoc]; omega), (by rw [List.length_append]; simp; omega)⟩⟩
                            case measure => simp [intOf]; omega
                        · have HN := hide (HFail.out (fun s l1 e h1 _ _ h4 => by
                            obtain ⟨-, rfl⟩ := HSegE.out s l1 h1
                            exact hg1 e h4))
                          have HB6 := hide (bel HW0.out hb6)
                          have HX6 := hide (HX1.out.below hb6)
                          clear hg1 hb6 HP5 HS5
                          obtain ⟨c0, c1, c2, c3⟩ := facts4 HX6.out
                          obtain ⟨y0, y1, y2, y3⟩ := free4 HX6.out
                          go_wp2_with fail
                          exact bodyPost_ret (res_qparse (box_nil HX6.out) rfl rfl) rfl (.inl ⟨rfl, bel_nil HB6.out (by rw [HQ.out]; exact Nat.le_refl _), .inr ⟨T, HT.out, HN.out⟩⟩)
                  · rw [decide_eq_false h3] at HMk
                    have HN := hide (HFail.out (fun s l1 e h5 _ _ _ => by
                      rw [HSeg.out] at h5
                      simp only [List.cons.injEq] at h5
                      exact h3 h5.2.2.1))
                    clear h3
                    refine wp_region_quiet_below mixed' (by kernel_rfl) ?_
                    repeat (first | go_big_quiet_step (first
                      | (go_at_call 25; exact Calls.regrown_of (HMk.out _)) | (go_at_call 15; exact Calls.regrown_of (HRs.out _)) | (go_at_call 26; exact Calls.regrown_of (HPl.out _ _))))
                    refine wpQuiet_nil ?_
                    intro V5 hw'
                    obtain ⟨⟨dq, osq⟩, hw''⟩ := hw'
                    have hb4 : Below V2.heap.size V2 (Go.Sort.grow (redrawn V2 dq) osq) := below_regrown _ _ _
                    simp only at hw''
                    rw [← hw''] at hb4
                    clear hw''
                    clear ra0 ra1 rb0 rb1 rc0 rc1 rc2 rn0
                    obtain ⟨hx5, hbx⟩ := HBx.out V5 hb4
                    have HX5 := hide hx5
                    have HB5 := hide hbx
                    obtain ⟨c0, c1, c2, c3⟩ := facts4 HX5.out
                    obtain ⟨y0, y1, y2, y3⟩ := free4 HX5.out
                    clear hx5 hbx hb4
                    go_wp2_with fail
                    exact bodyPost_ret (res_qparse (box_nil HX5.out) rfl rfl) rfl (.inl ⟨rfl, bel_nil HB5.out (by rw [HQ.out]; exact Nat.le_refl _), .inr ⟨T, HT.out, HN.out⟩⟩)
                · have h2' : (k1 != 2) = true := by simpa using h2
                  have HN := hide (HFail.out (fun s l1 e h5 _ _ _ => by
                    rw [HSeg.out] at h5
                    simp only [List.cons.injEq] at h5
                    exact not_word HW1'.out h2 _ h5.2.1))
                  clear h2
                  refine wp_region_quiet_below mixed' (by kernel_rfl) ?_
                  repeat (first | go_big_quiet_step (first
                    | (go_at_call 25; exact Calls.regrown_of (HMk.out _)) | (go_at_call 15; exact Calls.regrown_of (HRs.out _)) | (go_at_call 26; exact Calls.regrown_of (HPl.out _ _))))
                  refine wpQuiet_nil ?_
                  intro V5 hw'
                  obtain ⟨⟨dq, osq⟩, hw''⟩ := hw'
                  have hb4 : Below V2.heap.size V2 (Go.Sort.grow (redrawn V2 dq) osq) := below_regrown _ _ _
                  simp only at hw''
                  rw [← hw''] at hb4
                  clear hw''
                  clear ra0 ra1 rb0 rb1 rc0 rc1 rc2 rn0
                  obtain ⟨hx5, hbx⟩ := HBx.out V5 hb4
                  have HX5 := hide hx5
                  have HB5 := hide hbx
                  obtain ⟨c0, c1, c2, c3⟩ := facts4 HX5.out
                  obtain ⟨y0, y1, y2, y3⟩ := free4 HX5.out
                  clear hx5 hbx hb4
                  go_wp2_with fail
                  exact bodyPost_ret (res_qparse (box_nil HX5.out) rfl rfl) rfl (.inl ⟨rfl, bel_nil HB5.out (by rw [HQ.out]; exact Nat.le_refl _), .inr ⟨T, HT.out, HN.out⟩⟩)
              · have h1' : (X0 == [108, 101, 116]) = false := by rw [beq_eq_false_iff_ne]; exact h1
                have HN := hide (HFail.out (fun s l1 e h5 _ _ _ => by
                  rw [HSeg.out, hA0] at h5
                  simp only [List.cons.injEq, Tk.word.injEq] at h5
                  exact h1 h5.1))
                clear h1
                refine wp_region_quiet_below mixed' (by kernel_rfl) ?_
                repeat (first | go_big_quiet_step (first
                  | (go_at_call 25; exact Calls.regrown_of (HMk.out _)) | (go_at_call 15; exact Calls.regrown_of (HRs.out _)) | (go_at_call 26; exact Calls.regrown_of (HPl.out _ _))))
                refine wpQuiet_nil ?_
                intro V5 hw'
                obtain ⟨⟨dq, osq⟩, hw''⟩ := hw'
                have hb4 : Below V2.heap.size V2 (Go.Sort.grow (redrawn V2 dq) osq) := below_regrown _ _ _
                simp only at hw''
                rw [← hw''] at hb4
                clear hw''
                clear ra0 ra1 rb0 rb1 rc0 rc1 rc2 rn0
                obtain ⟨hx5, hbx⟩ := HBx.out V5 hb4
                have HX5 := hide hx5
                have HB5 := hide hbx
                obtain ⟨c0, c1, c2, c3⟩ := facts4 HX5.out
                obtain ⟨y0, y1, y2, y3⟩ := free4 HX5.out
                clear hx5 hbx hb4
                go_wp2_with fail
                exact bodyPost_ret (res_qparse (box_nil HX5.out) rfl rfl) rfl (.inl ⟨rfl, bel_nil HB5.out (by rw [HQ.out]; exact Nat.le_refl _), .inr ⟨T, HT.out, HN.out⟩⟩)
            · have h0' : (k0 != 2) = true := by simpa using h0
              have HN := hide (HFail.out (fun s l1 e h5 _ _ _ => by
                rw [HSeg.out] at h5
                simp only [List.cons.injEq] at h5
                exact not_word HW0'.out h0 _ h5.1))
              clear h0
              refine wp_region_quiet_below mixed' (by kernel_rfl) ?_
              repeat (first | go_big_quiet_step (first
                | (go_at_call 25; exact Calls.regrown_of (HMk.out _)) | (go_at_call 15; exact Calls.regrown_of (HRs.out _)) | (go_at_call 26; exact Calls.regrown_of (HPl.out _ _))))
              refine wpQuiet_nil ?_
              intro V5 hw'
              obtain ⟨⟨dq, osq⟩, hw''⟩ := hw'
              have hb4 : Below V2.heap.size V2 (Go.Sort.grow (redrawn V2 dq) osq) := below_regrown _ _ _
              simp only at hw''
              rw [← hw''] at hb4
              clear hw''
              clear ra0 ra1 rb0 rb1 rc0 rc1 rc2 rn0
              obtain ⟨hx5, hbx⟩ := HBx.out V5 hb4
              have HX5 := hide hx5
              have HB5 := hide hbx
              obtain ⟨c0, c1, c2, c3⟩ := facts4 HX5.out
              obtain ⟨y0, y1, y2, y3⟩ := free4 HX5.out
              clear hx5 hbx hb4
              go_wp2_with fail
              exact bodyPost_ret (res_qparse (box_nil HX5.out) rfl rfl) rfl (.inl ⟨rfl, bel_nil HB5.out (by rw [HQ.out]; exact Nat.le_refl _), .inr ⟨T, HT.out, HN.out⟩⟩)
        · rw [decide_eq_false hsemi]
          have HPn := hide (show Pa w1 V2 q b (some ⟨g, off, none⟩) n cap T f (k + 1) nm es nv bv dv from ⟨HP2.out.ma', HP2.out.tz, HP2.out.box, HP2.out.gp, HP2.out.ok, nosemi_snoc HP2.out.fk HP2.out.ns HAb.out hsemi, by have := HP2.out.fk; omega, HP2.out.len, HP2.out.sz, HP2.out.el⟩)
          clear hsemi HM1
          go_wp2_with fail
          go_roundw
          case rel => exact ⟨f, k + 1, nm, es, nv, bv, dv, by omega, by omega, by go_num, rfl, hide HPn.out⟩
          case measure => simp [intOf]; omega
      · obtain rfl : k = n := by omega
        have HNs := hide (show nosemi (L.drop f) by
          have h := HP.out.ns
          rw [HL.out, List.take_of_length_le (by rw [HLl.out]; exact Nat.le_refl _)] at h
          exact h)
        have HC := hide ((expr_rd (w := w1) (b := b) (nv := nv) (bv := bv) (root := 0) (BS := bdL es 0) HP.out.ok (T.drop f).length (T.drop f) rfl).2.2)
        have hsz := HP.out.sz
        have hel := HP.out.el
        have HAns := hide (show ∀ o, GP [] [] (T.map ab) o ↔ ∃ e, G nm 0 (L.drop f) e ∧ o = (nm, es, e) from fun o => by rw [HP.out.gp o, HL.out]; exact gp_last HNs.out)
        go_wp2_with (refine sub_l rfl _ _ rfl rfl HP.out.tz f (by rfl) (by omega) ?_; intro a' c' hsub; have HSub := hide hsub; clear hsub)
        have hC := HC.out V dv (flL es 0) a' (k - f) c' HP.out.ma' HSub.out (wf_drop HWf.out f) (by rw [flL_len]; omega)
        rw [List.map_drop, HL.out] at hC
        refine Calls.mono (show Calls Try.prog 27 #[ptr b, .slice a' (k - f) c'] V _ from hC) ?_
        clear hC HC HSub
        rintro e V5 (⟨x1, hg1, rfl, ⟨dv1, hm1⟩, hk5⟩ | ⟨hg1, ⟨z, rfl⟩, hb5⟩)
        · have HG1 := hide hg1
          have HM5 := hide hm1
          have HX5 := hide (HP.out.box.kp hk5 (by decide))
          have hsz1 := g_len hg1
          simp only [List.length_drop, HLl.out] at hsz1
          rw [flL_len]
          obtain ⟨z1, hz1⟩ : ∃ z, ((szL es + x1.size : Nat) : Int) - 1 = z := ⟨_, rfl⟩
          rw [hz1]
          have HZ1 := hide hz1
          have HLen := hide HP.out.len
          clear hg1 hm1 hk5 hz1 HP
          obtain ⟨na, nc, hnv⟩ := owns_form HM5.out.names
          obtain ⟨ba, bc, hbv⟩ := owns_form HM5.out.binds
          obtain ⟨da, dc, hdv⟩ := owns_form HM5.out.nodes
          obtain ⟨nl, hnl⟩ : ∃ m, nm.length = m := ⟨_, rfl⟩
          obtain ⟨bl, hbl⟩ : ∃ m, (bdL es 0).length = m := ⟨_, rfl⟩
          obtain ⟨dl, hdl⟩ : ∃ m, (flL es 0 ++ x1.flat (flL es 0).length).length = m := ⟨_, rfl⟩
          rw [hnl] at hnv
          rw [hbl] at hbv
          rw [hdl] at hdv
          clear hnl hbl hdl
          subst hnv hbv hdv
          have m0 := HM5.out.blk.cell 3 rfl
          have m1 := HM5.out.blk.frozen 3
          have hbw : q ≠ b := by
            intro h
            have h1 := HX5.out
            have h2 := HM5.out.blk
            rw [h] at h1
            unfold HasC at h1 h2
            rw [h1] at h2
            injection h2 with h3
            injection h3 with h4 h5
            exact absurd h5 (by decide)
          have HMs := hide (HM5.out.blk.set 3 (.int .i64 z1))
          obtain ⟨d0, d1, d2, d3⟩ := facts4m HMs.out
          have HXs := hide (HX5.out.other (p := ⟨b, 3, none⟩) hbw (.int .i64 z1))
          obtain ⟨c0, c1, c2, c3⟩ := facts4 HXs.out
          obtain ⟨y0, y1, y2, y3⟩ := free4 HXs.out
          go_wp2_with fail
          have ksb : Kp [58] V5 (V5.setCell ⟨b, 3, none⟩ (.int .i64 z1)) := Kp.set HM5.out.blk (by simp) 3 _
          have ks : Kp [26] (V5.setCell ⟨b, 3, none⟩ (.int .i64 z1)) _ := ((Kp.set HXs.out (List.mem_singleton.2 rfl) 0 (.slice na nl nc)).trans (Kp.set (HXs.out.set 0 (.slice na nl nc)) (List.mem_singleton.2 rfl) 1 (.slice ba bl bc))).trans ((Kp.set ((HXs.out.set 0 (.slice na nl nc)).set 1 (.slice ba bl bc)) (List.mem_singleton.2 rfl) 2 (.slice da dl dc)).trans (Kp.set (((HXs.out.set 0 (.slice na nl nc)).set 1 (.slice ba bl bc)).set 2 (.slice da dl dc)) (List.mem_singleton.2 rfl) 3 (.int .i64 z1)))
          have hA := (((HXs.out.set 0 (.slice na nl nc)).set 1 (.slice ba bl bc)).set 2 (.slice da dl dc)).set 3 (.int .i64 z1)
          have hqw : w.heap.size ≤ q := by rw [HQ.out]; exact Nat.le_refl _
          have hbb := ((((bel HW0.out HM5.out.old).setCell (p := ⟨b, 3, none⟩) (Nat.le_trans HW0.out.size HM5.out.base) (.int .i64 z1)).setCell (p := ⟨q, 0, none⟩) hqw (.slice na nl nc)).setCell (p := ⟨q, 1, none⟩) hqw (.slice ba bl bc)).setCell (p := ⟨q, 2, none⟩) hqw (.slice da dl dc) |>.setCell (p := ⟨q, 3, none⟩) hqw (.int .i64 z1)
          refine bodyPost_ret (res_qparse hA rfl rfl) rfl (.inr ⟨T, nm, es, x1, .slice na nl nc, .slice ba bl bc, .slice da dl dc, HT.out, ?_, HLen.out, by rw [HTl.out]; omega, ?_, ?_, ?_, ?_, hbb⟩)
          · intro o
            rw [HAns.out o]
            constructor
            · intro h; cases h; exact ⟨x1, HG1.out, rfl⟩
            · rintro ⟨e, h1, rfl⟩
              rw [g_uni h1 HG1.out]
          · rw [HZ1.out]
          · exact own_mono (owns_kp (owns_kp HM5.out.names ksb (by decide)) ks (by decide)) HW0.out.size
          · have h := own_mono (owns_kp (owns_kp HM5.out.binds ksb (by decide)) ks (by decide)) HW0.out.size
            rw [bdL_len] at h
            exact h
          · have h := own_mono (owns_kp (owns_kp HM5.out.nodes ksb (by decide)) ks (by decide)) HW0.out.size
            have hl : (flL es 0 ++ x1.flat (flL es 0).length).length = szL es + x1.size := by simp [flL_len, E.flat_len]
            rw [hl] at h
            rw [flL_len] at h
            exact h
        · have HN := hide (show Ans (T.map ab) none from fun o => by
            constructor
            · intro h; cases h
            · intro h
              obtain ⟨e, h1, -⟩ := (HAns.out o).1 h
              exact absurd h1 (hg1 e))
          have HB5 := hide (bel HW0.out hb5)
          have HX5 := hide (HX1.out.below hb5)
          clear hg1 hb5 HP
          obtain ⟨c0, c1, c2, c3⟩ := facts4 HX5.out
          obtain ⟨y0, y1, y2, y3⟩ := free4 HX5.out
          go_wp2_with fail
          exact bodyPost_ret (res_qparse (box_nil HX5.out) rfl rfl) rfl (.inl ⟨rfl, bel_nil HB5.out (by rw [HQ.out]; exact Nat.le_refl _), .inr ⟨T, HT.out, HN.out⟩⟩)

end Go.Proofs.Ytamekjocchekoaa

/-
  ref.making.single: a minus, a bracket, a number, a name, a call.
-/
import Derived.Test.YtamekjocchekoaaCall
namespace Go.Proofs.Ytamekjocchekoaa
open Go.RowKit Go.IntWalk Lx Pz
set_option linter.unusedVariables false
set_option linter.unusedSimpArgs false

theorem sub_v {W : World} {a : Option Addr} {n cap : Nat} {ops : Array Oper} {rest : List Oper} {o : Oper} {A : Act} {Q : Exit → Act → World → Prop} (hgd : o.guard = none) (s lo hi : Operand)
    (ho : o.op = .slice 44 s (some lo) (some hi) none) (hs : A.eval s = .slice a n cap) (i j : Nat) (hlo : A.eval lo = .int .i64 i) (hhi : A.eval hi = .int .i64 j) (hij : i ≤ j) (hj : j ≤ cap)
    (h : wpList Try.prog ops Q rest (A.put o.dst (.slice (if cap = i then a else a.map (·.add (i * 3))) (j - i) (cap - i))) W) : wpList Try.prog ops Q (o :: rest) A W := by
  refine wpList_plain hgd fun K hK => ?_
  unfold Oper.wp execOp
  simp only [ho, hs, hlo, hhi, Option.map_some, Option.map_none, Sem.run_bind, run_lh (a := a) (n := n) hij hj, Result.andThen_ok, Sem.run_pure]
  exact hK _ _ h
theorem PX.tuple {Gx : E → Prop} {w W W' : World} {b : Nat} {nv bv : Value} {root : Int} {NM : List Txt} {BS : List Int} {NS : List Nd} {v : Value} (h : PX Gx w W b nv bv root NM BS NS (.returned v) W') : ∃ z o, v = .tuple #[.int .i64 z, .bool o] := by
  rcases h with ⟨ex, -, h, -⟩ | ⟨-, ⟨z, h⟩, -⟩
  · cases h; exact ⟨_, _, rfl⟩
  · cases h; exact ⟨_, _, rfl⟩

/-- The drawn region of a call: what is done. -/
structure Sr (w Vd : World) (b : Nat) (nv bv : Value) (root : Int) (NM : List Txt) (BS : List Int) (NS : List Nd) (a : Option Addr) (m cap : Nat) (Tp : List Tok) (s : Txt) (d : Nat → Bool) (x122 x123 x124 x125 x126 x127 x128 x129 x130 x4 x5 : Value) (V : World) : Prop where
  w0 : d 2 = false → V = Vd
  w2 : d 2 = true → d 6 = false → Below Vd.heap.size Vd V
  f0 : d 0 = true → x122 = ptr b
  f1 : d 1 = true → x123 = .string (sB s)
  f2 : d 2 = true → x124 = .int .i64 (calO s)
  f3 : d 3 = true → x125 = .slice a (m + 1) cap
  f4 : d 4 = true → x126 = .int .i64 (m : Int)
  f5 : d 5 = true → x127 = .slice (if cap = 2 then a else a.map (·.add (2 * 3))) (m - 2) (cap - 2)
  f6 : d 6 = true → PX (CallQ NM (calO s) (Tp.map ab)) w Vd b nv bv root NM BS NS (.returned x128) V
  f7 : d 7 = true → ∃ o, x128 = .tuple #[x129, o]
  f8 : d 8 = true → ∃ z, x128 = .tuple #[z, x130]
  f9 : d 9 = true → x4 = x129
  f10 : d 10 = true → x5 = x130
  p6 : d 6 = true → d 2 = true
  p7 : d 7 = true → d 6 = true
  p8 : d 8 = true → d 6 = true
  p9 : d 9 = true → d 7 = true
  p10 : d 10 = true → d 8 = true


theorem place_iff {nm : List Txt} {s : Txt} {M : List Tk} {ex : E} (hs : s = wP ∨ s = wQ) : G nm 8 (.word s :: .lp :: (M ++ [.rp])) ex ↔ NbQ (s == wQ) M ex := by
  have hc : calO s = 0 := by rcases hs with rfl | rfl <;> decide
  constructor
  · intro h
    rcases g_inv8 h rfl with ⟨r', a, hl, he, g⟩ | ⟨M', hl, g⟩ | ⟨v', hl, he⟩ | ⟨s', hl, h3⟩ | ⟨s', m, hl, hs', hp⟩ | ⟨s', M', a, hl, ha, -⟩ | ⟨s', M1, M2, a, b, hl, ha, -⟩ | ⟨s', M1, M2, M3, a, b, d, hl, ha, -⟩
    · cases hl
    · cases hl
    · cases hl
    · cases hl
    · cases hl
      exact hp
    · simp only [List.cons.injEq, Tk.word.injEq] at hl
      obtain ⟨rfl, -⟩ := hl
      exact absurd hc (ari_ne1 (n := 1) ha (by omega))
    · simp only [List.cons.injEq, Tk.word.injEq] at hl
      obtain ⟨rfl, -⟩ := hl
      exact absurd hc (ari_ne1 (n := 2) ha (by omega))
    · simp only [List.cons.injEq, Tk.word.injEq] at hl
      obtain ⟨rfl, -⟩ := hl
      exact absurd hc (ari_ne1 (n := 3) ha (by omega))
  · intro h
    exact .place hs h
theorem other_no {nm : List Txt} {t : Tk} {r : List Tk} {ex : E} (h1 : t ≠ .op 5 9) (h2 : t ≠ .lp) (h3 : ∀ v, t ≠ .num v) (h4 : ∀ s, t ≠ .word s) : ¬ G nm 8 (t :: r) ex := by
  intro h
  rcases g_inv8 h rfl with ⟨r', a, hl, -⟩ | ⟨M', hl, g⟩ | ⟨v', hl, he⟩ | ⟨s', hl, h3'⟩ | ⟨s', m, hl, hs', hp⟩ | ⟨s', M', a, hl, ha, -⟩ | ⟨s', M1, M2, a, b, hl, ha, -⟩ | ⟨s', M1, M2, M3, a, b, d, hl, ha, -⟩ <;> injection hl with hl1 hl2
  · exact h1 hl1
  · exact h2 hl1
  · exact h3 _ hl1
  · exact h4 _ hl1
  · exact h4 _ hl1
  · exact h4 _ hl1
  · exact h4 _ hl1
  · exact h4 _ hl1
theorem g_ne {nm : List Txt} {c : Nat} {ex : E} : ¬ G nm c [] ex := by
  intro h
  obtain ⟨A, t, e, -⟩ := g_last h
  simp at e
theorem wf_word {t : Tok} (h : Wf t) (hk : t.kind = 2) : ab t = .word t.text ∧ t.text.length ≤ 16 := ⟨by simp [ab, hk], wf_len h⟩
theorem not_word {t : Tok} (h : Wf t) (hk : t.kind ≠ 2) : ∀ s, ab t ≠ .word s := by
  intro s
  rcases h with ⟨h1, hn⟩ | ⟨h2, _⟩ | ⟨h3, hm⟩
  · simp [ab, h1]
  · exact absurd h2 hk
  · have key : ∀ s ∈ marks.map (·.1), (match mkT s with | .word _ => false | _ => true) = true := by decide
    have := key _ hm
    intro e
    rw [show ab t = mkT t.text by simp [ab, h3]] at e
    rw [e] at this
    cases this
theorem resv_parts {s : Txt} (h : resv s = false) : s ≠ wP ∧ s ≠ wQ ∧ calO s = 0 ∧ inK s < 0 := by
  unfold resv at h
  simp only [Bool.or_eq_false_iff, beq_eq_false_iff_ne, bne_eq_false_iff_eq, decide_eq_false_iff_not] at h
  exact ⟨h.1.1.1.2, h.1.1.2, h.1.2, by have := h.2; omega⟩
theorem in_parts {s : Txt} (h : 0 ≤ inK s) : s ≠ wP ∧ s ≠ wQ ∧ calO s = 0 := by
  unfold inK at h
  repeat' split at h
  all_goals first | (subst_vars; decide) | omega
/-- A lone word. -/
theorem one_use {nm : List Txt} (hn : Nok nm) {s : Txt} (h : nm.contains s = true) : ∀ ex, G nm 8 [.word s] ex ↔ ex = .leaf (lf 4 (ixZ nm s) 0 0 0 0) := by
  intro ex
  obtain ⟨h1, h2, h3, h4⟩ := resv_parts (hn s (by simpa using h))
  rw [s_one]
  unfold wd ixZ
  rw [if_neg (by omega), if_pos h, if_pos h]
  constructor
  · rintro ⟨-, -, -, e⟩; exact (Option.some.inj e).symm
  · rintro rfl; exact ⟨h1, h2, h3, rfl⟩
theorem one_in {nm : List Txt} {s : Txt} (h : 0 ≤ inK s) : ∀ ex, G nm 8 [.word s] ex ↔ ex = .leaf (lf 2 (inK s) 0 0 0 0) := by
  intro ex
  obtain ⟨h1, h2, h3⟩ := in_parts h
  rw [s_one]
  unfold wd
  rw [if_pos h]
  constructor
  · rintro ⟨-, -, -, e⟩; exact (Option.some.inj e).symm
  · rintro rfl; exact ⟨h1, h2, h3, rfl⟩
theorem one_no {nm : List Txt} {s : Txt} (h : nm.contains s = false) (h2 : ¬ 0 ≤ inK s) : ∀ ex, ¬ G nm 8 [.word s] ex := by
  intro ex hx
  rw [s_one] at hx
  unfold wd at hx
  rw [if_neg h2, h] at hx
  obtain ⟨-, -, -, e⟩ := hx
  cases e

set_option maxRecDepth 100000 in
set_option maxHeartbeats 16000000 in
theorem single_rd {w : World} {b : Nat} {nv bv : Value} {root : Int} {NM : List Txt} {BS : List Int} (hNok : Nok NM) (T : List Tok)
    (ihS : ∀ T' : List Tok, T'.length < T.length → CC w b nv bv root NM BS 68 [] 8 T') (ihC : ∀ T' : List Tok, T'.length < T.length → CC w b nv bv root NM BS 27 [] 0 T') : CC w b nv bv root NM BS 68 [] 8 T := by
  intro W dv NS a n cap hM hT hw hn
  have HM := hide hM
  have HT := hide hT
  have HWf := hide hw
  have HTl := hide hT.t.len
  have HIS := hide ihS
  have HIC := hide ihC
  have HNk := hide hNok
  clear hM hT hw ihS ihC hNok
  obtain ⟨L, hL⟩ : ∃ L, T.map ab = L := ⟨_, rfl⟩
  have HL := hide hL
  have HLl := hide (show L.length = n by rw [← hL, List.length_map, HTl.out])
  rw [hL]
  clear hL
  show Calls Try.prog 68 #[ptr b, .slice a n cap] W _
  match n, HT, HTl, HLl, hn with
  | 0, HT, HTl, HLl, hn =>
    obtain rfl : L = [] := List.eq_nil_of_length_eq_zero HLl.out
    go_enter Try.func68, Try.ntmps68
    go_wp2_with fail
    go_ret2
    exact PP.no (fun ex => g_ne) HM.out.old
  | m + 1, HT, HTl, HLl, hn =>
    obtain ⟨g, off, rfl, e0, e1, e2⟩ := HT.out.at (i := 0) (by omega)
    obtain ⟨hwf, hab⟩ := wf_at HWf.out (i := 0) (by rw [HTl.out]; omega)
    rw [HL.out] at hab
    have hD := drop_at hab
    rw [List.drop_zero] at hD
    have HD := hide hD
    have HW0 := hide hwf
    have HM1 := hide (mark_ab hwf (s := [45]) (by decide))
    have HM2 := hide (mark_ab hwf (s := [40]) (by decide))
    rw [show mkT [45] = .op 5 9 by decide] at HM1
    rw [show mkT [40] = .lp by decide] at HM2
    have hcm := HT.out.t.le
    have hcx := HT.out.t.max
    unfold maxLen at hcx
    clear hab hwf hD
    generalize htq : T.getD 0 t0 = t at *
    clear htq
    obtain ⟨kd, X, ps⟩ := t
    simp only [Nat.zero_mul, Nat.add_zero] at e0 e1 e2
    simp only at HM1 HM2
    have HF := hide fun V' (hb : Below W.heap.size W V') => And.intro ((hb.cell (World.block_lt_of_cell? W _ e0)).trans e0) (And.intro ((hb.cell (World.block_lt_of_cell? W _ e1)).trans e1) ((hb.cell (World.block_lt_of_cell? W _ e2)).trans e2))
    have hi1 : (0 : Int) < ((m + 1 : Nat) : Int) := by omega
    have hi2 : (0 : Int) < (m : Int) + 1 := by omega
    go_enter Try.func68, Try.ntmps68
    go_wp2_with fail
    refine (qmark_any kd ps X [45] _).mono ?_
    rw [HM1.out]
    rintro e V1 ⟨rfl, hb⟩
    obtain ⟨f0, f1, f2⟩ := HF.out V1 hb
    have HB1 := hide hb
    have HMa := hide (HM.out.later hb)
    have HTa := hide (HT.out.later hb)
    clear hb e0 e1 e2
    by_cases h1 : ab ⟨kd, X, ps⟩ = .op 5 9
    · rw [decide_eq_true h1]
      rw [h1] at HD
      clear h1
      have HSi := hide (HIS.out (T.drop 1) (by rw [List.length_drop, HTl.out]; omega))
      go_wp2_with (refine sub_l rfl _ _ rfl rfl HTa.out 1 (by rfl) (by omega) ?_; intro a' c' hsub; have HSub := hide hsub; clear hsub)
      have hS := HSi.out V1 dv NS a' (m + 1 - 1) c' HMa.out HSub.out (wf_drop HWf.out 1) (by omega)
      rw [List.map_drop, HL.out] at hS
      refine Calls.mono (show Calls Try.prog 68 #[ptr b, .slice a' (m + 1 - 1) c'] V1 _ from hS) ?_
      clear hS HSi HSub
      rintro e V5 (⟨x1, hg1, rfl, ⟨dv1, hm1⟩, hk5⟩ | ⟨hg1, ⟨z, rfl⟩, hb5⟩)
      · have HG1 := hide (show G NM 8 L (.un 5 x1) by rw [HD.out]; exact .neg hg1)
        have hsz := g_len hg1
        simp [HLl.out] at hsz
        have HK5 := hide ((Kp.of_below SM HB1.out).trans hk5)
        have hlen : (NS ++ x1.flat NS.length).length = NS.length + x1.size := by simp [E.flat_len]
        obtain ⟨z1, hz1⟩ : ∃ z, ((NS.length + x1.size : Nat) : Int) - 1 = z := ⟨_, rfl⟩
        rw [hz1]
        have HZ1 := hide hz1
        have HAd := hide (madd_any hm1 ⟨5, z1, 0, 0, 0, 0, 0, 0, 0⟩ (by rw [hlen]; omega))
        rw [hlen] at HAd
        clear hg1 hm1 hk5 hz1 hlen
        go_wp2_with fail
        refine HAd.out.mono ?_
        rintro e V7 ⟨rfl, ⟨dv3, hm3⟩, hk7⟩
        have HM7 := hide hm3
        have HK7 := hide (HK5.out.trans hk7)
        clear hm3 hk7
        go_wp2_with fail
        refine bodyPost_ret (v := .tuple #[.int .i64 ((NS.length + x1.size : Nat) : Int), .bool true]) (by simp [results, Try.results68, go_sem]) rfl (.inl ⟨.un 5 x1, HG1.out, ?_, ⟨dv3, ?_⟩, HK7.out⟩)
        · exact ret_pt (by simp only [E.size]; omega)
        · have h := HM7.out
          rw [← HZ1.out] at h
          simp only [E.flat, List.append_assoc] at h ⊢
          exact h
      · have HN := hide (show ∀ ex, ¬ G NM 8 L ex from fun ex hx => by
          rw [HD.out] at hx
          obtain ⟨x, -, h⟩ := s_neg.1 hx
          exact hg1 x h)
        have HB5 := hide hb5
        clear hg1 hb5
        go_wp2_with fail
        go_ret2
        exact PP.no HN.out HB5.out
    · rw [decide_eq_false h1]
      go_wp2_with fail
      refine (qmark_any kd ps X [40] _).mono ?_
      rw [HM2.out]
      rintro e V2 ⟨rfl, hb⟩
      have HB2 := hide (bel HB1.out hb)
      obtain ⟨e0, e1, e2⟩ := HF.out V2 HB2.out
      have HMb := hide (HMa.out.later hb)
      have HTb := hide (HTa.out.later hb)
      have HKb := hide (Kp.of_below SM HB2.out)
      clear hb f0 f1 f2 HMa HTa HB1 HM1 HM2
      by_cases h2 : ab ⟨kd, X, ps⟩ = .lp
      · rw [decide_eq_true h2]
        rw [h2] at HD
        clear h1 h2 e0 e1 e2
        go_wp2_with fail
        refine (closes_any HTb.out HWf.out (by omega) 0 (Nat.zero_le _)).mono ?_
        rw [HL.out]
        simp only [ClsP, List.drop_zero]
        rintro e V3 ⟨⟨hM0, rfl⟩ | ⟨hM0, rfl⟩, hb⟩
        · obtain ⟨M, hLM, hbM⟩ := hM0
          have hm1 : 1 ≤ m := by
            have := congrArg List.length hLM
            rw [HLl.out] at this
            simp at this
            omega
          have hMe : ((T.take m).drop 1).map ab = M := by
            rw [List.map_drop, List.map_take, HL.out, hLM]
            have : m = M.length + 1 := by have := congrArg List.length hLM; rw [HLl.out] at this; simp at this; omega
            rw [this, List.take_succ_cons, List.take_left]
            rfl
          have HG := hide (show ∀ ex, G NM 0 M ex ↔ G NM 8 L ex from fun ex => by
            rw [hLM, s_par]
            constructor
            · intro h; exact ⟨M, rfl, hbM, h⟩
            · rintro ⟨M', h, -, h2⟩; rw [List.append_inj_left' h rfl]; exact h2)
          have HMe := hide hMe
          have HMc := hide (HMb.out.later hb)
          have HTc := hide (HTb.out.later hb)
          have HKc := hide (HKb.out.trans (Kp.of_below SM hb))
          have HCo := hide (HIC.out ((T.take m).drop 1) (by rw [List.length_drop, List.length_take, HTl.out]; omega))
          clear hb hLM hbM hMe
          go_wp2_with (refine sub_lh rfl _ _ _ rfl rfl HTc.out 1 m (by rfl) (by rfl) (by omega) (by omega) ?_; intro a' c' hsub; have HSub := hide hsub; clear hsub)
          have hC := HCo.out V3 dv NS a' (m - 1) c' HMc.out HSub.out (wf_sub HWf.out 1 m) (by omega)
          rw [HMe.out] at hC
          refine Calls.mono (show Calls Try.prog 27 #[ptr b, .slice a' (m - 1) c'] V3 _ from hC) ?_
          clear hC HCo HSub
          intro e V4 hpp
          have HPP := hide ((hpp.from HKc.out).iff HG.out)
          clear hpp
          rcases HPP.out with ⟨ex, h1, rfl, h3, h4⟩ | ⟨h1, ⟨z, rfl⟩, h2⟩
          · clear h1 h3 h4
            go_wp2_with fail
            go_ret2
            exact HPP.out
          · clear h1 h2
            go_wp2_with fail
            go_ret2
            exact HPP.out
        · have HN := hide (show ∀ ex, ¬ G NM 8 L ex from fun ex hx => by
            rw [HD.out] at hx hM0
            obtain ⟨M, h3, h4, -⟩ := s_par.1 hx
            exact hM0 ⟨M, by rw [h3], h4⟩)
          have HB3 := hide (bel HMb.out.old hb)
          clear hM0 hb
          go_wp2_with fail
          go_ret2
          exact PP.no HN.out HB3.out
      · rw [decide_eq_false h2]
        by_cases hk1 : kd = 1
        · subst hk1
          obtain ⟨hnum, habn⟩ := wf_num HW0.out rfl
          rw [habn] at HD
          have hbd := num_bound hnum
          have hnv := nv_of hnum
          simp only at hnum habn hbd hnv
          have HNm := hide fun W => rnumber_any (sB X) W (by rw [sB_size]; unfold maxLen; omega)
          rw [bs_sB, hnv, hnum] at HNm
          simp only at HD
          generalize vl X = xv at *
          have HAd := hide (madd_any HMb.out ⟨1, 0, 0, 0, xv, 0, 0, 0, 0⟩ (by omega))
          clear habn hnv hnum h1 h2 hbd
          by_cases hm0 : m = 0
          · subst hm0
            have HG := hide (show G NM 8 L (.leaf (lf 1 xv 0 0 0 0)) by
              rw [HD.out, s_num]
              exact ⟨List.drop_of_length_le (by rw [HLl.out]; exact Nat.le_refl _), rfl⟩)
            go_wp2_with fail
            refine (HNm.out _).mono ?_
            rintro e V3 ⟨rfl, rfl⟩
            clear e0 e1 e2
            go_wp2_with fail
            refine HAd.out.mono ?_
            rintro e V7 ⟨rfl, ⟨dv3, hm3⟩, hk7⟩
            have HM7 := hide hm3
            have HK7 := hide (HKb.out.trans hk7)
            clear hm3 hk7
            go_wp2_with fail
            refine bodyPost_ret (v := .tuple #[.int .i64 (NS.length : Int), .bool true]) (by simp [results, Try.results68, go_sem]) rfl (.inl ⟨_, HG.out, ?_, ⟨dv3, HM7.out⟩, HK7.out⟩)
            exact ret_pt (by simp only [E.size]; omega)
          · have HN := hide (show ∀ ex, ¬ G NM 8 L ex from fun ex hx => by
              rw [HD.out, s_num] at hx
              have := congrArg List.length hx.1
              rw [List.length_drop, HLl.out] at this
              simp at this
              exact hm0 this)
            have hmb : ((m : Int) == 0) = false := by rw [beq_eq_false_iff_ne]; omega
            go_wp2_with fail
            refine (HNm.out _).mono ?_
            rintro e V3 ⟨rfl, rfl⟩
            clear e0 e1 e2
            go_wp2_with fail
            refine HAd.out.mono ?_
            rintro e V7 ⟨rfl, ⟨dv3, hm3⟩, hk7⟩
            have HM7 := hide hm3
            clear hm3 hk7
            go_wp2_with fail
            refine bodyPost_ret (v := .tuple #[.int .i64 (NS.length : Int), .bool false]) (by simp [results, Try.results68, go_sem]; try omega) rfl (PP.no HN.out HM7.out.old)
        · have hk1' : (kd == 1) = false := by simpa using hk1
          by_cases hk2 : kd = 2
          · subst hk2
            obtain ⟨habw, hxl⟩ := wf_word HW0.out rfl
            rw [habw] at HD
            simp only at HD hxl
            clear habw h1 h2 hk1 hk1'
            by_cases hm0 : m = 0
            · subst hm0
              rw [List.drop_of_length_le (by rw [HLl.out]; exact Nat.le_refl _)] at HD
              obtain ⟨na, nc, hnv⟩ := owns_form HMb.out.names
              have n0 := HMb.out.blk.cell 0 rfl
              rw [hnv] at n0
              obtain ⟨na', nc', hnv', hTx⟩ := Tx.of_owns HMb.out.names
              rw [hnv] at hnv'
              cases hnv'
              have HPl := hide (qplace_any hTx (sB X))
              rw [bs_sB] at HPl
              clear hTx
              cases hct : NM.contains X with
              | true =>
                have hix : (0 : Int) ≤ ixZ NM X := by have := ixZ_nonneg NM X; rw [hct] at this; simpa using this
                have HG := hide (one_use HNk.out hct)
                generalize ixZ NM X = iz at *
                have HAd := hide (madd_any HMb.out ⟨4, 0, 0, 0, iz, 0, 0, 0, 0⟩ (by omega))
                clear hct
                go_wp2_with fail
                refine HPl.out.mono ?_
                rintro e V3 ⟨rfl, rfl⟩
                go_wp2_with fail
                refine HAd.out.mono ?_
                rintro e V7 ⟨rfl, ⟨dv3, hm3⟩, hk7⟩
                have HM7 := hide hm3
                have HK7 := hide (HKb.out.trans hk7)
                clear hm3 hk7
                go_wp2_with fail
                refine bodyPost_ret (v := .tuple #[.int .i64 (NS.length : Int), .bool true]) (by simp [results, Try.results68, go_sem]) rfl (.inl ⟨.leaf (lf 4 iz 0 0 0 0), by rw [HD.out]; exact (HG.out _).2 rfl, ?_, ⟨dv3, HM7.out⟩, HK7.out⟩)
                exact ret_pt (by simp only [E.size]; omega)
              | false =>
                have hix : ixZ NM X = -1 := by unfold ixZ; rw [hct]; rfl
                rw [hix] at HPl
                have HCt := hide hct
                clear hct hix
                go_wp2_with fail
                refine HPl.out.mono ?_
                rintro e V3 ⟨rfl, rfl⟩
                go_wp2_with fail
                refine (qinputs_any _).mono ?_
                rintro e V4 ⟨rfl, hV4⟩
                have hb4 : Below V3.heap.size V3 V4 := by rw [hV4]; exact bel1 _ _
                have hTi := Tx.of_has (L := insL) (show HasC V4 V3.heap.size 9 insC by rw [hV4]; exact HasC.new _ _ _) rfl (by decide)
                have HPi := hide (qplace_any hTi (sB X))
                rw [bs_sB, inK_ix] at HPi
                have HMd := hide (HMb.out.later hb4)
                have HKd := hide (HKb.out.trans (Kp.of_below SM hb4))
                clear hb4 hTi hV4
                generalize V3.heap.size = q3 at *
                go_wp2_with fail
                refine (show Calls Try.prog 26 #[.slice (some ⟨q3, 0, none⟩) 6 6, .string (sB X)] V4 _ from HPi.out).mono ?_
                rintro e V5 ⟨rfl, rfl⟩
                by_cases hin : 0 ≤ inK X
                · have HG := hide (one_in (nm := NM) hin)
                  generalize inK X = iz at *
                  have HAd := hide (madd_any HMd.out ⟨2, 0, 0, 0, iz, 0, 0, 0, 0⟩ (by omega))
                  go_wp2_with fail
                  refine HAd.out.mono ?_
                  rintro e V7 ⟨rfl, ⟨dv3, hm3⟩, hk7⟩
                  have HM7 := hide hm3
                  have HK7 := hide (HKd.out.trans hk7)
                  clear hm3 hk7
                  go_wp2_with fail
                  refine bodyPost_ret (v := .tuple #[.int .i64 (NS.length : Int), .bool true]) (by simp [results, Try.results68, go_sem]; try omega) rfl (.inl ⟨.leaf (lf 2 iz 0 0 0 0), by rw [HD.out]; exact (HG.out _).2 rfl, ?_, ⟨dv3, HM7.out⟩, HK7.out⟩)
                  exact ret_pt (by simp only [E.size]; omega)
                · have HN := hide (one_no HCt.out hin)
                  have hin' : ¬ (inK X ≥ 0) := hin
                  generalize inK X = iz at *
                  have HAd := hide (madd_any HMd.out ⟨2, 0, 0, 0, iz, 0, 0, 0, 0⟩ (by omega))
                  go_wp2_with fail
                  refine HAd.out.mono ?_
                  rintro e V7 ⟨rfl, ⟨dv3, hm3⟩, hk7⟩
                  have HM7 := hide hm3
                  clear hm3 hk7
                  go_wp2_with fail
                  refine bodyPost_ret (v := .tuple #[.int .i64 (NS.length : Int), .bool false]) (by simp [results, Try.results68, go_sem]; try omega) rfl (PP.no (by rw [HD.out]; exact HN.out) HM7.out.old)
            · have hmb : ((m : Int) == 0) = false := by rw [beq_eq_false_iff_ne]; omega
              have hmn : ¬ (m : Int) = 0 := by omega
              go_wp2_with fail
              refine (closes_any HTb.out HWf.out (by omega) 1 (by omega)).mono ?_
              rw [HL.out]
              simp only [ClsP]
              have hLd : L.drop 1 ≠ [] := by
                intro h
                have := congrArg List.length h
                rw [List.length_drop, HLl.out] at this
                simp at this
                exact hm0 this
              rintro e V3 ⟨⟨hM0, rfl⟩ | ⟨hM0, rfl⟩, hb⟩
              · obtain ⟨M, hLM, hbM⟩ := hM0
                have hm2 : m = M.length + 2 := by
                  have := congrArg List.length hLM
                  rw [List.length_drop, HLl.out] at this
                  simp at this
                  omega
                have hMe : ((T.take m).drop 2).map ab = M := by
                  rw [List.map_drop, List.map_take, HL.out, HD.out, hLM, hm2]
                  simp
                have HLM := hide (show L = .word X :: .lp :: (M ++ [.rp]) by rw [HD.out, hLM])
                have HMe := hide hMe
                have HBalM := hide (show Bal (((T.take m).drop 2).map ab) by rw [hMe]; exact hbM)
                have HMd0 := hide (HMb.out.later hb)
                have HTd0 := hide (HTb.out.later hb)
                have HKd0 := hide (HKb.out.trans (Kp.of_below SM hb))
                have hm3 : 2 ≤ m := by omega
                have HM2 := hide hm2
                clear hb hLM hbM hMe hLd hm2 e0 e1 e2 HMb HTb HKb
                by_cases hpq : X = wP ∨ X = wQ
                · have HG := hide (fun ex => place_iff (nm := NM) (M := M) (ex := ex) hpq)
                  have HNb := hide fun a' c' (h : Tz V3 a' (m - 2) c' ((T.take m).drop 2)) => neighbour_rd (X == wQ) ((T.take m).drop 2) HMd0.out h (wf_sub HWf.out 2 m) (by omega)
                  rw [HMe.out] at HNb
                  rcases hpq with rfl | rfl
                  all_goals
                    go_wp2_with (refine sub_lh rfl _ _ _ rfl rfl HTd0.out 2 m (by rfl) (by rfl) (by omega) (by omega) ?_; intro a' c' hsub; have HSub := hide hsub; clear hsub)
                    refine Calls.mono (HNb.out a' c' HSub.out) ?_
                    intro e V4 hpp
                    have HPP := hide ((hpp.from HKd0.out).pp (c := 8) (L := L) fun ex => by rw [HLM.out]; exact (HG.out ex).symm)
                    clear hpp
                    rcases HPP.out with ⟨ex, h1, rfl, h3, h4⟩ | ⟨h1, ⟨z, rfl⟩, h2⟩
                    · clear h1 h3 h4
                      go_wp2_with fail
                      go_ret2
                      exact HPP.out
                    · clear h1 h2
                      go_wp2_with fail
                      go_ret2
                      exact HPP.out
                · have hnp : (X == [112]) = false := by rw [beq_eq_false_iff_ne]; exact fun h => hpq (.inl h)
                  have hnq : (X == [113]) = false := by rw [beq_eq_false_iff_ne]; exact fun h => hpq (.inr h)
                  have HG := hide (fun ex => call_iff (nm := NM) (s := X) (M := M) (ex := ex) (fun h => hpq (.inl h)) (fun h => hpq (.inr h)))
                  have HIHc := hide (show ∀ T' : List Tok, T'.length ≤ ((T.take m).drop 2).length → CC w b nv bv root NM BS 27 [] 0 T' from fun T' h => HIC.out T' (by rw [List.length_drop, List.length_take, HTl.out] at h; rw [HTl.out]; omega))
                  clear hpq
                  go_wp2_with fail
                  obtain ⟨Vd, hVd⟩ : ∃ Z : World, ({ V3 with drawn := V3.drawn + 1 } : World) = Z := ⟨_, rfl⟩
                  have HVd := hide hVd
                  have hbd : Below V3.heap.size V3 Vd := by rw [← hVd]; exact ⟨rfl, rfl, rfl, Nat.le_refl _, fun _ _ => rfl⟩
                  have HMd := hide (HMd0.out.later hbd)
                  have HTd := hide (HTd0.out.later hbd)
                  have HKd := hide (HKd0.out.trans (Kp.of_below SM hbd))
                  clear hVd hbd
                  obtain ⟨a, ha⟩ : ∃ a : Option Addr, some ⟨g, off, none⟩ = a := ⟨_, rfl⟩
                  rw [ha] at HTd ⊢
                  refine wp_region_flags3 mixedD (ord_of2 (by kernel_rfl)) (fun a0 d A V => ∃ x122 x123 x124 x125 x126 x127 x128 x129 x130 x4 x5, A = ⟨(((((((((((a0.tmps.setIfInBounds 122 x122).setIfInBounds 123 x123).setIfInBounds 124 x124).setIfInBounds 125 x125).setIfInBounds 126 x126).setIfInBounds 127 x127).setIfInBounds 128 x128).setIfInBounds 129 x129).setIfInBounds 130 x130).setIfInBounds 4 x4).setIfInBounds 5 x5), a0.defers⟩ ∧ Sr w Vd b nv bv root NM BS NS a m cap ((T.take m).drop 2) X d x122 x123 x124 x125 x126 x127 x128 x129 x130 x4 x5 V) ?_ ?_ ?_
                  · simp only [List.setIfInBounds_toArray, List.set_cons_succ, List.set_cons_zero]
                    refine ⟨_, _, _, _, _, _, _, _, _, _, _, rfl, fun _ => HVd.out, ?_, ?_, ?_, ?_, ?_, ?_, ?_, ?_, ?_, ?_, ?_, ?_, ?_, ?_, ?_, ?_, ?_⟩
                    all_goals (intro h; cases h)
                  · rintro d A V i o ⟨x122, x123, x124, x125, x126, x127, x128, x129, x130, x4, x5, rfl, C⟩ hdi ho haft Q' hk'
                    simp only [List.setIfInBounds_toArray, List.set_cons_succ, List.set_cons_zero] at hk' ⊢
                    have HK := hide hk'
                    clear hk'
                    have hi : i < 11 := (Array.getElem?_eq_some_iff.1 ho).1
                    match i, hi with
                    | 0, _ =>
                      obtain rfl := (Option.some.inj ho)
                      clear haft ho
                      have C := hide C
                      go_wp2
                      have C := C.out
                      exact HK.out _ _ ⟨_, x123, x124, x125, x126, x127, x128, x129, x130, x4, x5, rfl, ⟨C.w0, C.w2, (fun _ => rfl), C.f1, C.f2, C.f3, C.f4, C.f5, C.f6, C.f7, C.f8, C.f9, C.f10, (fun h => or_t2 (C.p6 h)), (fun h => or_t2 (C.p7 h)), (fun h => or_t2 (C.p8 h)), (fun h => or_t2 (C.p9 h)), (fun h => or_t2 (C.p10 h))⟩⟩
                    | 1, _ =>
                      obtain rfl := (Option.some.inj ho)
                      clear haft ho
                      have C := hide C
                      go_wp2
                      have C := C.out
                      exact HK.out _ _ ⟨x122, _, x124, x125, x126, x127, x128, x129, x130, x4, x5, rfl, ⟨C.w0, C.w2, C.f0, (fun _ => rfl), C.f2, C.f3, C.f4, C.f5, C.f6, C.f7, C.f8, C.f9, C.f10, (fun h => or_t2 (C.p6 h)), (fun h => or_t2 (C.p7 h)), (fun h => or_t2 (C.p8 h)), (fun h => or_t2 (C.p9 h)), (fun h => or_t2 (C.p10 h))⟩⟩
                    | 2, _ =>
                      obtain rfl := (Option.some.inj ho)
                      have g1 : d 1 = true := haft ⟨1, .data⟩ (by simp) rfl
                      clear haft ho
                      have nope : d 6 = true → False := fun h => by have h2 := C.p6 h; rw [hdi] at h2; cases h2
                      have hV : V = Vd := C.w0 hdi
                      subst hV
                      have e1 := C.f1 g1
                      subst e1
                      have C := hide C
                      go_wp2_with fail
                      have hq := qcalled_any (sB X) V
                      rw [bs_sB] at hq
                      refine hq.mono ?_
                      clear hq
                      rintro e V6 ⟨rfl, hbl⟩
                      have HBl := hide hbl
                      clear hbl
                      go_wp2_with fail
                      have hbl := HBl.out
                      have C := C.out
                      exact HK.out _ _ ⟨x122, _, _, x125, x126, x127, x128, x129, x130, x4, x5, rfl, ⟨(fun h => by cases h), (fun _ _ => hbl), C.f0, C.f1, (fun _ => rfl), C.f3, C.f4, C.f5, (fun h => (nope h).elim), C.f7, C.f8, C.f9, C.f10, (fun h => or_t2 (C.p6 h)), (fun h => or_t2 (C.p7 h)), (fun h => or_t2 (C.p8 h)), (fun h => or_t2 (C.p9 h)), (fun h => or_t2 (C.p10 h))⟩⟩
                    | 3, _ =>
                      obtain rfl := (Option.some.inj ho)
                      clear haft ho
                      have C := hide C
                      go_wp2
                      have C := C.out
                      exact HK.out _ _ ⟨x122, x123, x124, _, x126, x127, x128, x129, x130, x4, x5, rfl, ⟨C.w0, C.w2, C.f0, C.f1, C.f2, (fun _ => rfl), C.f4, C.f5, C.f6, C.f7, C.f8, C.f9, C.f10, (fun h => or_t2 (C.p6 h)), (fun h => or_t2 (C.p7 h)), (fun h => or_t2 (C.p8 h)), (fun h => or_t2 (C.p9 h)), (fun h => or_t2 (C.p10 h))⟩⟩
                    | 4, _ =>
                      obtain rfl := (Option.some.inj ho)
                      clear haft ho
                      have C := hide C
                      go_wp2
                      have C := C.out
                      exact HK.out _ _ ⟨x122, x123, x124, x125, _, x127, x128, x129, x130, x4, x5, rfl, ⟨C.w0, C.w2, C.f0, C.f1, C.f2, C.f3, (fun _ => rfl), C.f5, C.f6, C.f7, C.f8, C.f9, C.f10, (fun h => or_t2 (C.p6 h)), (fun h => or_t2 (C.p7 h)), (fun h => or_t2 (C.p8 h)), (fun h => or_t2 (C.p9 h)), (fun h => or_t2 (C.p10 h))⟩⟩
                    | 5, _ =>
                      obtain rfl := (Option.some.inj ho)
                      have g3 : d 3 = true := haft ⟨3, .data⟩ (by simp) rfl
                      have g4 : d 4 = true := haft ⟨4, .data⟩ (by simp) rfl
                      clear haft ho
                      have e3 := C.f3 g3
                      have e4 := C.f4 g4
                      subst e3 e4
                      have C := hide C
                      refine sub_v rfl _ _ _ rfl rfl 2 m (by rfl) (by rfl) (by omega) (by omega) ?_
                      have C := C.out
                      exact HK.out _ _ ⟨x122, x123, x124, _, _, _, x128, x129, x130, x4, x5, rfl, ⟨C.w0, C.w2, C.f0, C.f1, C.f2, C.f3, C.f4, (fun _ => rfl), C.f6, C.f7, C.f8, C.f9, C.f10, (fun h => or_t2 (C.p6 h)), (fun h => or_t2 (C.p7 h)), (fun h => or_t2 (C.p8 h)), (fun h => or_t2 (C.p9 h)), (fun h => or_t2 (C.p10 h))⟩⟩
                    | 6, _ =>
                      obtain rfl := (Option.some.inj ho)
                      have g0 : d 0 = true := haft ⟨0, .data⟩ (by simp) rfl
                      have g2 : d 2 = true := haft ⟨2, .data⟩ (by simp) rfl
                      have g5 : d 5 = true := haft ⟨5, .data⟩ (by simp) rfl
                      clear haft ho
                      have hbl := C.w2 g2 hdi
                      have e0 := C.f0 g0
                      have e2 := C.f2 g2
                      have e5 := C.f5 g5
                      have hTs := (HTd.out.later hbl).sub (i := 2) (j := m) (by omega) (by omega)
                      obtain ⟨a5, ha5⟩ : ∃ z, (if cap = 2 then a else a.map (·.add (2 * 3))) = z := ⟨_, rfl⟩
                      rw [ha5] at e5 hTs
                      clear ha5
                      subst e0 e2 e5
                      have hcc := qcall_rd (calO X) ((T.take m).drop 2) HIHc.out calO_ar HBalM.out (HMd.out.later hbl) hTs (wf_sub HWf.out 2 m) (by omega)
                      clear hTs
                      have C := hide C
                      have HCc := hide hcc
                      have HBl := hide hbl
                      clear hcc hbl
                      go_wp2_with fail
                      refine HCc.out.mono ?_
                      intro e V6 hpp
                      have hpp2 : ∃ v, e = .returned v := by rcases hpp with ⟨ex, -, h, -⟩ | ⟨-, ⟨z, h⟩, -⟩ <;> exact ⟨_, h⟩
                      obtain ⟨v, rfl⟩ := hpp2
                      have HPp := hide (hpp.from (Kp.of_below SM HBl.out))
                      clear hpp
                      go_wp2_with fail
                      have C := C.out
                      exact HK.out _ _ ⟨_, x123, _, x125, x126, _, _, x129, x130, x4, x5, rfl, ⟨(fun h => absurd (g2.symm.trans h) (by decide)), (fun _ h => by cases h), C.f0, C.f1, C.f2, C.f3, C.f4, C.f5, (fun _ => HPp.out), (fun h => by have h2 := C.p7 h; rw [hdi] at h2; cases h2), (fun h => by have h2 := C.p8 h; rw [hdi] at h2; cases h2), C.f9, C.f10, (fun _ => or_t2 g2), (fun h => or_t2 (C.p7 h)), (fun h => or_t2 (C.p8 h)), (fun h => or_t2 (C.p9 h)), (fun h => or_t2 (C.p10 h))⟩⟩
                    | 7, _ =>
                      obtain rfl := (Option.some.inj ho)
                      have g6 : d 6 = true := haft ⟨6, .data⟩ (by simp) rfl
                      clear haft ho
                      obtain ⟨z, oo, e13⟩ := (C.f6 g6).tuple
                      subst e13
                      have C := hide C
                      go_wp2
                      have C := C.out
                      exact HK.out _ _ ⟨x122, x123, x124, x125, x126, x127, _, _, x130, x4, x5, rfl, ⟨C.w0, C.w2, C.f0, C.f1, C.f2, C.f3, C.f4, C.f5, C.f6, (fun _ => ⟨_, rfl⟩), C.f8, (fun h => by have h2 := C.p9 h; rw [hdi] at h2; cases h2), C.f10, (fun h => or_t2 (C.p6 h)), (fun _ => or_t2 g6), (fun h => or_t2 (C.p8 h)), (fun h => or_t2 (C.p9 h)), (fun h => or_t2 (C.p10 h))⟩⟩
                    | 8, _ =>
                      obtain rfl := (Option.some.inj ho)
                      have g6 : d 6 = true := haft ⟨6, .data⟩ (by simp) rfl
                      clear haft ho
                      obtain ⟨z, oo, e13⟩ := (C.f6 g6).tuple
                      subst e13
                      have C := hide C
                      go_wp2
                      have C := C.out
                      exact HK.out _ _ ⟨x122, x123, x124, x125, x126, x127, _, x129, _, x4, x5, rfl, ⟨C.w0, C.w2, C.f0, C.f1, C.f2, C.f3, C.f4, C.f5, C.f6, C.f7, (fun _ => ⟨_, rfl⟩), C.f9, (fun h => by have h2 := C.p10 h; rw [hdi] at h2; cases h2), (fun h => or_t2 (C.p6 h)), (fun h => or_t2 (C.p7 h)), (fun _ => or_t2 g6), (fun h => or_t2 (C.p9 h)), (fun h => or_t2 (C.p10 h))⟩⟩
                    | 9, _ =>
                      obtain rfl := (Option.some.inj ho)
                      have g7 : d 7 = true := haft ⟨7, .data⟩ (by simp) rfl
                      clear haft ho
                      have C := hide C
                      go_wp2
                      have C := C.out
                      exact HK.out _ _ ⟨x122, x123, x124, x125, x126, x127, x128, x129, x130, _, x5, rfl, ⟨C.w0, C.w2, C.f0, C.f1, C.f2, C.f3, C.f4, C.f5, C.f6, C.f7, C.f8, (fun _ => rfl), C.f10, (fun h => or_t2 (C.p6 h)), (fun h => or_t2 (C.p7 h)), (fun h => or_t2 (C.p8 h)), (fun _ => or_t2 g7), (fun h => or_t2 (C.p10 h))⟩⟩
                    | 10, _ =>
                      obtain rfl := (Option.some.inj ho)
                      have g8 : d 8 = true := haft ⟨8, .data⟩ (by simp) rfl
                      clear haft ho
                      have C := hide C
                      go_wp2
                      have C := C.out
                      exact HK.out _ _ ⟨x122, x123, x124, x125, x126, x127, x128, x129, x130, x4, _, rfl, ⟨C.w0, C.w2, C.f0, C.f1, C.f2, C.f3, C.f4, C.f5, C.f6, C.f7, C.f8, C.f9, (fun _ => rfl), (fun h => or_t2 (C.p6 h)), (fun h => or_t2 (C.p7 h)), (fun h => or_t2 (C.p8 h)), (fun h => or_t2 (C.p9 h)), (fun _ => or_t2 g8)⟩⟩
                  rintro d A V7 ⟨x122, x123, x124, x125, x126, x127, x128, x129, x130, x4, x5, rfl, C⟩ hall
                  simp only [List.setIfInBounds_toArray, List.set_cons_succ, List.set_cons_zero]
                  have Dn : ∀ i, i < 11 → d i = true := hall
                  have hpp := C.f6 (Dn 6 (by omega))
                  obtain ⟨o15, e15⟩ := C.f7 (Dn 7 (by omega))
                  obtain ⟨z16, e16⟩ := C.f8 (Dn 8 (by omega))
                  have e17 := C.f9 (Dn 9 (by omega))
                  have e18 := C.f10 (Dn 10 (by omega))
                  clear C hall Dn
                  subst e17 e18
                  rw [HMe.out] at hpp
                  have HPP := hide ((hpp.from HKd.out).pp (c := 8) (L := L) fun ex => by rw [HLM.out]; exact (HG.out ex).symm)
                  obtain ⟨zz, oo, e19⟩ := hpp.tuple
                  clear hpp
                  rw [e19] at HPP
                  subst e19
                  simp only [Value.tuple.injEq, Array.mk.injEq, List.cons.injEq, and_true] at e15 e16
                  obtain ⟨e15, -⟩ := e15
                  obtain ⟨-, e16⟩ := e16
                  subst e15 e16
                  go_wp2_with fail
                  go_ret2
                  exact HPP.out
              · have HN := hide (show ∀ ex, ¬ G NM 8 L ex from fun ex hx => by
                  rw [HD.out] at hx
                  obtain ⟨M, h3, h4⟩ := s_more hLd hx
                  exact hM0 ⟨M, h3, h4⟩)
                have HB3 := hide (bel HMb.out.old hb)
                clear hM0 hb
                go_wp2_with fail
                go_ret2
                exact PP.no HN.out HB3.out
          · have hk2' : (kd != 2) = true := by simpa using hk2
            have HN := hide (show ∀ ex, ¬ G NM 8 L ex from fun ex hx => by
              rw [HD.out] at hx
              exact other_no h1 h2 (not_num HW0.out hk1) (not_word HW0.out hk2) hx)
            clear h1 h2 hk1 hk2
            go_wp2_with fail
            go_ret2
            exact PP.no HN.out HMb.out.old

end Go.Proofs.Ytamekjocchekoaa

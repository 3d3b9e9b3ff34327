/-
  The reader of package parse: place.
-/
import Derived.Test.YtlhbgkaknfhlnaaGreatZOpA
import Derived.Deep.Cut
namespace Go.Proofs.YtlhbgkaknfhlnaaGreat
open Go.RowKit Go.IntWalk Lx Pz
set_option linter.unusedVariables false

theorem plc_nolp {q : Bool} {l : List Tk} (h : l.head? ≠ some .lp) : plc q l = none := by
  unfold plc
  split
  · exact absurd rfl h
  · rfl
theorem plc_p (l : List Tk) : plc false (.lp :: l) = offs 0 l := rfl
theorem plc_q (v : Int) (l : List Tk) (h : ¬ v = 0) : plc true (.lp :: .num v :: .comma :: l) = offs v l := by simp [plc, h]
theorem plc_q0 (l : List Tk) : plc true (.lp :: .num 0 :: l) = none := by
  simp only [plc, if_true]
  split
  · rename_i heq; cases heq; simp
  · rfl
theorem plc_qn {l : List Tk} (h : ∀ v r, l ≠ .num v :: r) : plc true (.lp :: l) = none := by
  simp only [plc, if_true]
  split
  · exact absurd rfl (h _ _)
  · rfl
theorem plc_qc {v : Int} {l : List Tk} (h : l.head? ≠ some .comma) : plc true (.lp :: .num v :: l) = none := by
  simp only [plc, if_true]
  split
  · rename_i heq; cases heq; exact absurd rfl h
  · rfl
theorem offs_none {back : Int} {l : List Tk} (h : off l = none) : offs back l = none := by unfold offs; rw [h]
theorem offs_bad {back x : Int} {l r : List Tk} (h : off l = some (x, r)) (h1 : r.head? ≠ some .comma) (h2 : r.head? ≠ some .rp) : offs back l = none := by
  unfold offs
  rw [h]
  split
  · rename_i heq; cases heq; exact absurd rfl h2
  · rename_i heq; cases heq; exact absurd rfl h1
  · rfl
theorem offs_one {back x : Int} {l r : List Tk} (h : off l = some (x, .rp :: r)) : offs back l = some (.leaf (lf 3 0 back 1 x 0), r) := by unfold offs; rw [h]
theorem offs_two0 {back x : Int} {l r : List Tk} (h : off l = some (x, .comma :: r)) (h1 : off r = none) : offs back l = none := by unfold offs; rw [h]; simp only [h1]
theorem offs_two1 {back x y : Int} {l r r2 : List Tk} (h : off l = some (x, .comma :: r)) (h1 : off r = some (y, r2)) (h2 : r2.head? ≠ some .rp) : offs back l = none := by
  unfold offs
  rw [h]
  simp only [h1]
  split
  · rename_i heq; cases heq; exact absurd rfl h2
  · rfl
theorem offs_two {back x y : Int} {l r r2 : List Tk} (h : off l = some (x, .comma :: r)) (h1 : off r = some (y, .rp :: r2)) : offs back l = some (.leaf (lf 3 0 back 2 x y), r2) := by unfold offs; rw [h]; simp only [h1]

abbrev pl4 (a b c d : Int) : Array Value := #[.int .i64 a, .int .i64 b, .int .i64 c, .int .i64 d]
theorem facts4 {W : World} {b : Nat} {t : TypeId} {x y z u : Value} (h : HasC W b t #[x, y, z, u]) : W.cell? ⟨b, 0, none⟩ = some x ∧ W.cell? ⟨b, 1, none⟩ = some y ∧ W.cell? ⟨b, 2, none⟩ = some z ∧ W.cell? ⟨b, 3, none⟩ = some u :=
  ⟨h.cell 0 rfl, h.cell 1 rfl, h.cell 2 rfl, h.cell 3 rfl⟩
theorem free4 {W : World} {b : Nat} {t : TypeId} {x y z u : Value} (h : HasC W b t #[x, y, z, u]) : W.frozen? ⟨b, 0, none⟩ = false ∧ W.frozen? ⟨b, 1, none⟩ = false ∧ W.frozen? ⟨b, 2, none⟩ = false ∧ W.frozen? ⟨b, 3, none⟩ = false :=
  ⟨h.frozen 0, h.frozen 1, h.frozen 2, h.frozen 3⟩

set_option maxRecDepth 100000 in
set_option maxHeartbeats 4000000 in
theorem place_p {w W : World} {b : Nat} {m : Mm} {T : List Tok} {NM : List Txt} {BS : List Int} {NS : List Nd} (h : Rd w W b m T NM BS NS) (h3 : NS.length ≤ 2000000) :
    Calls Tryz.prog 164 #[ptr b, .string ⟨#[112]⟩] W fun e W' => Ok w W b T NM BS NS (plc false (T.map ab)) e W' := by
  have H3 := hide h3
  have hw := hide h.wf
  have HP0 := hide (Pl.begin h 76 (pl4 0 0 0 0))
  clear h h3
  go_enter Tryz.func164, Tryz.ntmps164
  go_upto_region 2 with fail
  obtain ⟨q, hq⟩ : ∃ q, W.heap.size = q := ⟨_, rfl⟩
  rw [hq] at HP0 ⊢
  generalize W.alloc (.cells (pl4 0 0 0 0) 76) = V0 at HP0 ⊢
  clear hq
  obtain ⟨m0, hm0⟩ := HP0.out.rd
  have HM0 := hide hm0
  clear hm0
  by_cases hl : (T.map ab).head? = some .lp
  · obtain ⟨t1, T1, rfl, h1⟩ := hd_cons hl
    have hs1 := hide ((text_iff (hw.out t1 (by simp)) (s := [40]) (by decide)).2 h1)
    have H1 := hide h1
    clear hl h1 hw
    go_wp2_with fail
    refine (need_yes HM0.out _ hs1.out).mono ?_
    rintro e V1 ⟨rfl, hR, hk⟩
    have HP := hide (HP0.out.step (by decide) hR hk)
    clear hR hk HP0 HM0
    have HQ := hide (show plc false ((t1 :: T1).map ab) = offs 0 (T1.map ab) by rw [List.map_cons, H1.out]; rfl)
    obtain ⟨m1, hm1⟩ := HP.out.rd
    have HM1 := hide hm1
    clear hm1
    go_wp2_with fail
    refine (offset_rd HM1.out).mono ?_
    rintro e V3 (⟨hn, rfl, hb⟩ | ⟨x, P3, T3, ho, rfl, rfl, hR, hk⟩)
    · have HB := hide hb
      have hn := hide hn
      clear hb
      go_wp2_with fail
      exact ⟨rfl, .inl ⟨HQ.out.trans (offs_none hn.out), rfl, HB.out⟩⟩
    · have HO := hide ho
      have HP3 := hide (HP.out.step (by decide) hR hk)
      clear hR hk ho
      obtain ⟨c0, c1, c2, c3⟩ := facts4 HP3.out.va
      obtain ⟨y0, y1, y2, y3⟩ := free4 HP3.out.va
      have HP4 := hide ((HP3.out.store (by decide) 1 (.int .i64 1)).store (by decide) 2 (.int .i64 x))
      have e4 : ((pl4 0 0 0 0).setIfInBounds 1 (.int .i64 1)).setIfInBounds 2 (.int .i64 x) = pl4 0 1 x 0 := rfl
      rw [e4] at HP4
      clear e4
      clear HP HP3 HM1
      go_upto_region 9 with fail
      generalize (V3.setCell ⟨q, 1, none⟩ (.int .i64 1)).setCell ⟨q, 2, none⟩ (.int .i64 x) = V4 at HP4 ⊢
      clear c0 c1 c2 c3 y0 y1 y2 y3
      obtain ⟨m4, hm4⟩ := HP4.out.rd
      have hw4 := hide hm4.wf
      have HM4 := hide hm4
      clear hm4
      by_cases hc : (T3.map ab).head? = some .comma
      · obtain ⟨t5, T5, rfl, h5⟩ := hd_cons hc
        have hs5 := hide ((text_iff (hw4.out t5 (by simp)) (s := [44]) (by decide)).2 h5)
        have H5 := hide h5
        clear hc h5 hw4
        go_wp2_with fail
        refine (pass_yes HM4.out _ hs5.out).mono ?_
        rintro e V5 ⟨rfl, hR, hk⟩
        have HP5 := hide (HP4.out.step (by decide) hR hk)
        clear hR hk HP4 HM4
        obtain ⟨m5, hm5⟩ := HP5.out.rd
        have HM5 := hide hm5
        clear hm5
        go_wp2_with fail
        refine (offset_rd HM5.out).mono ?_
        rintro e V6 (⟨hn, rfl, hb⟩ | ⟨y, P6, T6, ho2, rfl, rfl, hR, hk⟩)
        · have HB := hide hb
          have hn := hide hn
          clear hb
          go_wp2_with fail
          exact ⟨rfl, .inl ⟨HQ.out.trans (offs_two0 (by rw [HO.out, List.map_cons, H5.out]) hn.out), rfl, HB.out⟩⟩
        · have HO2 := hide ho2
          have HP6 := hide (HP5.out.step (by decide) hR hk)
          clear hR hk ho2
          obtain ⟨c0, c1, c2, c3⟩ := facts4 HP6.out.va
          obtain ⟨y0, y1, y2, y3⟩ := free4 HP6.out.va
          have HP7 := hide ((HP6.out.store (by decide) 1 (.int .i64 2)).store (by decide) 3 (.int .i64 y))
          have e7 : ((pl4 0 1 x 0).setIfInBounds 1 (.int .i64 2)).setIfInBounds 3 (.int .i64 y) = pl4 0 2 x y := rfl
          rw [e7] at HP7
          clear e7 HP5 HP6 HM5
          go_upto_region 11 with fail
          generalize (V6.setCell ⟨q, 1, none⟩ (.int .i64 2)).setCell ⟨q, 3, none⟩ (.int .i64 y) = V7 at HP7 ⊢
          clear c0 c1 c2 c3 y0 y1 y2 y3
          obtain ⟨m7, hm7⟩ := HP7.out.rd
          have hw7 := hide hm7.wf
          have HM7 := hide hm7
          clear hm7
          by_cases hr : (T6.map ab).head? = some .rp
          · obtain ⟨t8, T8, rfl, h8⟩ := hd_cons hr
            have hs8 := hide ((text_iff (hw7.out t8 (by simp)) (s := [41]) (by decide)).2 h8)
            have H8 := hide h8
            clear hr h8 hw7
            go_wp2_with fail
            refine (need_yes HM7.out _ hs8.out).mono ?_
            rintro e V8 ⟨rfl, hR, hk⟩
            have HP8 := hide (HP7.out.step (by decide) hR hk)
            clear hR hk HP7 HM7
            obtain ⟨m8, hm8⟩ := HP8.out.rd
            have HM8 := hide hm8
            clear hm8
            obtain ⟨c0, c1, c2, c3⟩ := facts4 HP8.out.va
            go_wp2_with fail
            refine (node_any HM8.out (lf 3 0 0 2 x y) H3.out).mono ?_
            rintro e V9 ⟨rfl, hR, hk⟩
            have HR9 := hide hR
            have HK9 := hide (HP8.out.kp.trans hk)
            clear hR hk c0 c1 c2 c3
            go_wp2_with fail
            go_ret
            exact .inr ⟨_, t1 :: (P3 ++ t5 :: (P6 ++ [t8])), T8, HQ.out.trans (offs_two (by rw [HO.out, List.map_cons, H5.out]) (by rw [HO2.out, List.map_cons, H8.out])), by simp, ret_size _ rfl, HR9.out, HK9.out⟩
          · have hs8 := hide (hd_ne (s := [41]) hw7.out (by decide) hr)
            have HR := hide hr
            clear hr hw7
            go_wp2_with fail
            refine (need_no HM7.out _ hs8.out).mono ?_
            rintro e V8 ⟨rfl, hb⟩
            have HB := hide (bel HM7.out.old hb)
            clear hb
            go_wp2_with fail
            exact ⟨rfl, .inl ⟨HQ.out.trans (offs_two1 (by rw [HO.out, List.map_cons, H5.out]) HO2.out HR.out), rfl, HB.out⟩⟩
      · have hs5 := hide (hd_ne (s := [44]) hw4.out (by decide) hc)
        have HC := hide hc
        clear hc hw4
        go_wp2_with fail
        refine (pass_no HM4.out _ hs5.out).mono ?_
        rintro e V5 ⟨rfl, hb⟩
        have HP7 := hide (HP4.out.later hb)
        clear hb HP4 HM4 hs5
        obtain ⟨m7, hm7⟩ := HP7.out.rd
        have hw7 := hide hm7.wf
        have HM7 := hide hm7
        clear hm7
        by_cases hr : (T3.map ab).head? = some .rp
        · obtain ⟨t8, T8, rfl, h8⟩ := hd_cons hr
          have hs8 := hide ((text_iff (hw7.out t8 (by simp)) (s := [41]) (by decide)).2 h8)
          have H8 := hide h8
          clear hr h8 hw7
          go_wp2_with fail
          refine (need_yes HM7.out _ hs8.out).mono ?_
          rintro e V8 ⟨rfl, hR, hk⟩
          have HP8 := hide (HP7.out.step (by decide) hR hk)
          clear hR hk HP7 HM7
          obtain ⟨m8, hm8⟩ := HP8.out.rd
          have HM8 := hide hm8
          clear hm8
          obtain ⟨c0, c1, c2, c3⟩ := facts4 HP8.out.va
          go_wp2_with fail
          refine (node_any HM8.out (lf 3 0 0 1 x 0) H3.out).mono ?_
          rintro e V9 ⟨rfl, hR, hk⟩
          have HR9 := hide hR
          have HK9 := hide (HP8.out.kp.trans hk)
          clear hR hk c0 c1 c2 c3
          go_wp2_with fail
          go_ret
          exact .inr ⟨_, t1 :: (P3 ++ [t8]), T8, HQ.out.trans (offs_one (by rw [HO.out, List.map_cons, H8.out])), by simp, ret_size _ rfl, HR9.out, HK9.out⟩
        · have hs8 := hide (hd_ne (s := [41]) hw7.out (by decide) hr)
          have HR := hide hr
          clear hr hw7
          go_wp2_with fail
          refine (need_no HM7.out _ hs8.out).mono ?_
          rintro e V8 ⟨rfl, hb⟩
          have HB := hide (bel HM7.out.old hb)
          clear hb
          go_wp2_with fail
          exact ⟨rfl, .inl ⟨HQ.out.trans (offs_bad HO.out HC.out HR.out), rfl, HB.out⟩⟩
  · have hs1 := hide (hd_ne (s := [40]) hw.out (by decide) hl)
    have HL := hide hl
    clear hl hw
    go_wp2_with fail
    refine (need_no HM0.out _ hs1.out).mono ?_
    rintro e V1 ⟨rfl, hb⟩
    have HB := hide (bel HM0.out.old hb)
    clear hb
    go_wp2_with fail
    exact ⟨rfl, .inl ⟨plc_nolp HL.out, rfl, HB.out⟩⟩

set_option maxRecDepth 100000 in
set_option maxHeartbeats 4000000 in
theorem place_q {w W : World} {b : Nat} {m : Mm} {T : List Tok} {NM : List Txt} {BS : List Int} {NS : List Nd} (h : Rd w W b m T NM BS NS) (h3 : NS.length ≤ 2000000) :
    Calls Tryz.prog 164 #[ptr b, .string ⟨#[113]⟩] W fun e W' => Ok w W b T NM BS NS (plc true (T.map ab)) e W' := by
  have H3 := hide h3
  have hw := hide h.wf
  have HP0 := hide (Pl.begin h 76 (pl4 0 0 0 0))
  clear h h3
  go_enter Tryz.func164, Tryz.ntmps164
  go_upto_region 2 with fail
  obtain ⟨q, hq⟩ : ∃ q, W.heap.size = q := ⟨_, rfl⟩
  rw [hq] at HP0 ⊢
  generalize W.alloc (.cells (pl4 0 0 0 0) 76) = V0 at HP0 ⊢
  clear hq
  obtain ⟨m0, hm0⟩ := HP0.out.rd
  have HM0 := hide hm0
  clear hm0
  by_cases hl : (T.map ab).head? = some .lp
  · obtain ⟨t1, T1, rfl, h1⟩ := hd_cons hl
    have hs1 := hide ((text_iff (hw.out t1 (by simp)) (s := [40]) (by decide)).2 h1)
    have H1 := hide h1
    clear hl h1 hw
    go_wp2_with fail
    refine (need_yes HM0.out _ hs1.out).mono ?_
    rintro e V1 ⟨rfl, hR, hk⟩
    have HP := hide (HP0.out.step (by decide) hR hk)
    clear hR hk HP0 HM0
    have HQ1 := hide (show ((t1 :: T1).map ab) = .lp :: T1.map ab by rw [List.map_cons, H1.out])
    obtain ⟨m1, hm1⟩ := HP.out.rd
    have HM1 := hide hm1
    clear hm1
    go_wp2_with fail
    refine (number_rd HM1.out).mono ?_
    rintro e V2 (⟨hn, rfl, hb⟩ | ⟨v, t2, T2, rfl, hv, rfl, hR, hk⟩)
    · have HB := hide hb
      have hn := hide hn
      clear hb
      go_wp2_with fail
      exact ⟨rfl, .inl ⟨by rw [HQ1.out]; exact plc_qn hn.out, rfl, HB.out⟩⟩
    · have HV := hide hv
      have HP2 := hide (HP.out.step (by decide) hR hk)
      clear hR hk hv HM1 HP
      obtain ⟨c0, c1, c2, c3⟩ := facts4 HP2.out.va
      obtain ⟨y0, y1, y2, y3⟩ := free4 HP2.out.va
      have HP3 := hide (HP2.out.store (by decide) 0 (.int .i64 v))
      have e3 : (pl4 0 0 0 0).setIfInBounds 0 (.int .i64 v) = pl4 v 0 0 0 := rfl
      rw [e3] at HP3
      clear e3 HP2
      go_upto_region 5 with fail
      generalize V2.setCell ⟨q, 0, none⟩ (.int .i64 v) = V3 at HP3 ⊢
      clear c0 c1 c2 c3 y0 y1 y2 y3
      obtain ⟨c0, c1, c2, c3⟩ := facts4 HP3.out.va
      have HQ2 := hide (show ((t1 :: t2 :: T2).map ab) = .lp :: .num v :: T2.map ab by rw [HQ1.out, List.map_cons, HV.out])
      by_cases hz : v = 0
      · subst hz
        have hold := HP3.out.rd
        have HB := hide (show Below w.heap.size w V3 from by obtain ⟨m, hm⟩ := HP3.out.rd; exact hm.old)
        go_wp2_with fail
        exact ⟨rfl, .inl ⟨by rw [HQ2.out]; exact plc_q0 _, rfl, HB.out⟩⟩
      · have hz' : (v == 0) = false := by simpa using hz
        have HZ := hide hz
        clear hz
        obtain ⟨m3, hm3⟩ := HP3.out.rd
        have HM3 := hide hm3
        have hw3 := hide hm3.wf
        clear hm3
        by_cases hc2 : (T2.map ab).head? = some .comma
        · obtain ⟨t3, T3', rfl, h3⟩ := hd_cons hc2
          have hs3 := hide ((text_iff (hw3.out t3 (by simp)) (s := [44]) (by decide)).2 h3)
          have H3' := hide h3
          clear hc2 h3 hw3
          go_wp2_with fail
          refine (need_yes HM3.out _ hs3.out).mono ?_
          rintro e V4' ⟨rfl, hR, hk⟩
          have HP := hide (HP3.out.step (by decide) hR hk)
          clear hR hk HP3 HM3 c0 c1 c2 c3 hz'
          have HQ := hide (show plc true ((t1 :: t2 :: t3 :: T3').map ab) = offs v (T3'.map ab) by rw [HQ2.out, List.map_cons, H3'.out]; exact plc_q v _ HZ.out)
          obtain ⟨m1, hm1⟩ := HP.out.rd
          have HM1 := hide hm1
          clear hm1
          go_wp2_with fail
          refine (offset_rd HM1.out).mono ?_
          rintro e V3 (⟨hn, rfl, hb⟩ | ⟨x, P3, T3, ho, rfl, rfl, hR, hk⟩)
          · have HB := hide hb
            have hn := hide hn
            clear hb
            go_wp2_with fail
            exact ⟨rfl, .inl ⟨HQ.out.trans (offs_none hn.out), rfl, HB.out⟩⟩
          · have HO := hide ho
            have HP3 := hide (HP.out.step (by decide) hR hk)
            clear hR hk ho
            obtain ⟨c0, c1, c2, c3⟩ := facts4 HP3.out.va
            obtain ⟨y0, y1, y2, y3⟩ := free4 HP3.out.va
            have HP4 := hide ((HP3.out.store (by decide) 1 (.int .i64 1)).store (by decide) 2 (.int .i64 x))
            have e4 : ((pl4 v 0 0 0).setIfInBounds 1 (.int .i64 1)).setIfInBounds 2 (.int .i64 x) = pl4 v 1 x 0 := rfl
            rw [e4] at HP4
            clear e4
            clear HP HP3 HM1
            go_upto_region 9 with fail
            generalize (V3.setCell ⟨q, 1, none⟩ (.int .i64 1)).setCell ⟨q, 2, none⟩ (.int .i64 x) = V4 at HP4 ⊢
            clear c0 c1 c2 c3 y0 y1 y2 y3
            obtain ⟨m4, hm4⟩ := HP4.out.rd
            have hw4 := hide hm4.wf
            have HM4 := hide hm4
            clear hm4
            by_cases hc : (T3.map ab).head? = some .comma
            · obtain ⟨t5, T5, rfl, h5⟩ := hd_cons hc
              have hs5 := hide ((text_iff (hw4.out t5 (by simp)) (s := [44]) (by decide)).2 h5)
              have H5 := hide h5
              clear hc h5 hw4
              go_wp2_with fail
              refine (pass_yes HM4.out _ hs5.out).mono ?_
              rintro e V5 ⟨rfl, hR, hk⟩
              have HP5 := hide (HP4.out.step (by decide) hR hk)
              clear hR hk HP4 HM4
              obtain ⟨m5, hm5⟩ := HP5.out.rd
              have HM5 := hide hm5
              clear hm5
              go_wp2_with fail
              refine (offset_rd HM5.out).mono ?_
              rintro e V6 (⟨hn, rfl, hb⟩ | ⟨y, P6, T6, ho2, rfl, rfl, hR, hk⟩)
              · have HB := hide hb
                have hn := hide hn
                clear hb
                go_wp2_with fail
                exact ⟨rfl, .inl ⟨HQ.out.trans (offs_two0 (by rw [HO.out, List.map_cons, H5.out]) hn.out), rfl, HB.out⟩⟩
              · have HO2 := hide ho2
                have HP6 := hide (HP5.out.step (by decide) hR hk)
                clear hR hk ho2
                obtain ⟨c0, c1, c2, c3⟩ := facts4 HP6.out.va
                obtain ⟨y0, y1, y2, y3⟩ := free4 HP6.out.va
                have HP7 := hide ((HP6.out.store (by decide) 1 (.int .i64 2)).store (by decide) 3 (.int .i64 y))
                have e7 : ((pl4 v 1 x 0).setIfInBounds 1 (.int .i64 2)).setIfInBounds 3 (.int .i64 y) = pl4 v 2 x y := rfl
                rw [e7] at HP7
                clear e7 HP5 HP6 HM5
                go_upto_region 11 with fail
                generalize (V6.setCell ⟨q, 1, none⟩ (.int .i64 2)).setCell ⟨q, 3, none⟩ (.int .i64 y) = V7 at HP7 ⊢
                clear c0 c1 c2 c3 y0 y1 y2 y3
                obtain ⟨m7, hm7⟩ := HP7.out.rd
                have hw7 := hide hm7.wf
                have HM7 := hide hm7
                clear hm7
                by_cases hr : (T6.map ab).head? = some .rp
                · obtain ⟨t8, T8, rfl, h8⟩ := hd_cons hr
                  have hs8 := hide ((text_iff (hw7.out t8 (by simp)) (s := [41]) (by decide)).2 h8)
                  have H8 := hide h8
                  clear hr h8 hw7
                  go_wp2_with fail
                  refine (need_yes HM7.out _ hs8.out).mono ?_
                  rintro e V8 ⟨rfl, hR, hk⟩
                  have HP8 := hide (HP7.out.step (by decide) hR hk)
                  clear hR hk HP7 HM7
                  obtain ⟨m8, hm8⟩ := HP8.out.rd
                  have HM8 := hide hm8
                  clear hm8
                  obtain ⟨c0, c1, c2, c3⟩ := facts4 HP8.out.va
                  go_wp2_with fail
                  refine (node_any HM8.out (lf 3 0 v 2 x y) H3.out).mono ?_
                  rintro e V9 ⟨rfl, hR, hk⟩
                  have HR9 := hide hR
                  have HK9 := hide (HP8.out.kp.trans hk)
                  clear hR hk c0 c1 c2 c3
                  go_wp2_with fail
                  go_ret
                  exact .inr ⟨_, t1 :: t2 :: t3 :: (P3 ++ t5 :: (P6 ++ [t8])), T8, HQ.out.trans (offs_two (by rw [HO.out, List.map_cons, H5.out]) (by rw [HO2.out, List.map_cons, H8.out])), by simp, ret_size _ rfl, HR9.out, HK9.out⟩
                · have hs8 := hide (hd_ne (s := [41]) hw7.out (by decide) hr)
                  have HR := hide hr
                  clear hr hw7
                  go_wp2_with fail
                  refine (need_no HM7.out _ hs8.out).mono ?_
                  rintro e V8 ⟨rfl, hb⟩
                  have HB := hide (bel HM7.out.old hb)
                  clear hb
                  go_wp2_with fail
                  exact ⟨rfl, .inl ⟨HQ.out.trans (offs_two1 (by rw [HO.out, List.map_cons, H5.out]) HO2.out HR.out), rfl, HB.out⟩⟩
            · have hs5 := hide (hd_ne (s := [44]) hw4.out (by decide) hc)
              have HC := hide hc
              clear hc hw4
              go_wp2_with fail
              refine (pass_no HM4.out _ hs5.out).mono ?_
              rintro e V5 ⟨rfl, hb⟩
              have HP7 := hide (HP4.out.later hb)
              clear hb HP4 HM4 hs5
              obtain ⟨m7, hm7⟩ := HP7.out.rd
              have hw7 := hide hm7.wf
              have HM7 := hide hm7
              clear hm7
              by_cases hr : (T3.map ab).head? = some .rp
              · obtain ⟨t8, T8, rfl, h8⟩ := hd_cons hr
                have hs8 := hide ((text_iff (hw7.out t8 (by simp)) (s := [41]) (by decide)).2 h8)
                have H8 := hide h8
                clear hr h8 hw7
                go_wp2_with fail
                refine (need_yes HM7.out _ hs8.out).mono ?_
                rintro e V8 ⟨rfl, hR, hk⟩
                have HP8 := hide (HP7.out.step (by decide) hR hk)
                clear hR hk HP7 HM7
                obtain ⟨m8, hm8⟩ := HP8.out.rd
                have HM8 := hide hm8
                clear hm8
                obtain ⟨c0, c1, c2, c3⟩ := facts4 HP8.out.va
                go_wp2_with fail
                refine (node_any HM8.out (lf 3 0 v 1 x 0) H3.out).mono ?_
                rintro e V9 ⟨rfl, hR, hk⟩
                have HR9 := hide hR
                have HK9 := hide (HP8.out.kp.trans hk)
                clear hR hk c0 c1 c2 c3
                go_wp2_with fail
                go_ret
                exact .inr ⟨_, t1 :: t2 :: t3 :: (P3 ++ [t8]), T8, HQ.out.trans (offs_one (by rw [HO.out, List.map_cons, H8.out])), by simp, ret_size _ rfl, HR9.out, HK9.out⟩
              · have hs8 := hide (hd_ne (s := [41]) hw7.out (by decide) hr)
                have HR := hide hr
                clear hr hw7
                go_wp2_with fail
                refine (need_no HM7.out _ hs8.out).mono ?_
                rintro e V8 ⟨rfl, hb⟩
                have HB := hide (bel HM7.out.old hb)
                clear hb
                go_wp2_with fail
                exact ⟨rfl, .inl ⟨HQ.out.trans (offs_bad HO.out HC.out HR.out), rfl, HB.out⟩⟩
        · have hs3 := hide (hd_ne (s := [44]) hw3.out (by decide) hc2)
          have HC2 := hide hc2
          clear hc2 hw3
          go_wp2_with fail
          refine (need_no HM3.out _ hs3.out).mono ?_
          rintro e V4 ⟨rfl, hb⟩
          have HB := hide (bel HM3.out.old hb)
          clear hb
          go_wp2_with fail
          exact ⟨rfl, .inl ⟨by rw [HQ2.out]; exact plc_qc HC2.out, rfl, HB.out⟩⟩
  · have hs1 := hide (hd_ne (s := [40]) hw.out (by decide) hl)
    have HL := hide hl
    clear hl hw
    go_wp2_with fail
    refine (need_no HM0.out _ hs1.out).mono ?_
    rintro e V1 ⟨rfl, hb⟩
    have HB := hide (bel HM0.out.old hb)
    clear hb
    go_wp2_with fail
    exact ⟨rfl, .inl ⟨plc_nolp HL.out, rfl, HB.out⟩⟩

end Go.Proofs.YtlhbgkaknfhlnaaGreat

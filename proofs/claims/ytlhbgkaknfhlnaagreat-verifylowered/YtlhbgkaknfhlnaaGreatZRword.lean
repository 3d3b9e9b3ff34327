/-
  The reader of package parse: word, primary, minus, given what choice comes to on fewer tokens.
-/
import Derived.Test.YtlhbgkaknfhlnaaGreatZGrB
namespace Go.Proofs.YtlhbgkaknfhlnaaGreat
open Go.RowKit Go.IntWalk Lx Pz
set_option linter.unusedVariables false

theorem Ok.cons {w W W1 : World} {b : Nat} {t : Tok} {T : List Tok} {NM : List Txt} {BS : List Int} {NS : List Nd} {res : Option (E × List Tk)} {e : Ending} {W' : World} (h : Ok w W1 b T NM BS NS res e W') (hk : Kp SX W W1) : Ok w W b (t :: T) NM BS NS res e W' := by
  rcases h with h | ⟨ex, P, T', h1, h2, h3, h4, h5⟩
  · exact .inl h
  · exact .inr ⟨ex, t :: P, T', h1, by rw [h2]; rfl, h3, h4, hk.trans h5⟩

theorem wd_in {nm : List Txt} {s : Txt} (h : 0 ≤ inK s) : wd nm s = some (.leaf (lf 2 (inK s) 0 0 0 0)) := by unfold wd; rw [if_pos h]
theorem wd_use {nm : List Txt} {s : Txt} (h : ¬ 0 ≤ inK s) : wd nm s = if nm.contains s then some (.leaf (lf 4 (pos nm s) 0 0 0 0)) else none := by unfold wd; rw [if_neg h]

set_option maxRecDepth 100000 in
set_option maxHeartbeats 4000000 in
theorem word_rd {w W : World} {b n : Nat} {m : Mm} {t : Tok} {T : List Tok} {NM : List Txt} {BS : List Int} {NS : List Nd} (hch : CH w b NM BS n) (h : Rd w W b m (t :: T) NM BS NS) (hT : T.length ≤ n) (hN : NS.length + T.length ≤ 1999) (s : Txt) (hs : ab t = .word s) :
    Calls Tryz.prog 155 #[ptr b] W fun e W' => ∃ res, R NM (.at 8) ((t :: T).map ab) res ∧ Ok w W b (t :: T) NM BS NS res e W' := by
  have HC := hide hch
  have HW := hide h
  have F1 := fldT1
  have hwf := h.wf t (by simp)
  obtain ⟨-, hw2, hts⟩ := kind2 hwf hs
  have H1 := hide (show (t :: T).map ab = .word s :: T.map ab by rw [List.map_cons, hs])
  rw [hts] at hw2
  have HTS := hide hts
  have HWR := hide hw2
  clear h hch hwf hw2 hts hs
  by_cases hp : s = wP
  · subst hp
    go_enter Tryz.func155, Tryz.ntmps155
    go_wp2_with fail
    refine (next_cons HW.out).mono ?_
    rintro e V1 ⟨rfl, ⟨m1, hR⟩, hk⟩
    have HR := hide hR
    have HK := hide hk
    rw [HTS.out, show sB wP = ⟨#[112]⟩ from rfl]
    clear hR hk
    go_wp2_with fail
    refine (place_p HR.out (by omega)).mono ?_
    rintro e V2 hok
    have HOK := hide (hok.cons (t := t) HK.out)
    have HD := hide (show R NM (.at 8) ((t :: T).map ab) (plc false (T.map ab)) by rw [H1.out]; exact R.place (.inl rfl))
    rcases hok with ⟨-, rfl, -⟩ | ⟨ex, -, -, -, -, rfl, -⟩
    · go_wp2_with fail
      exact ⟨rfl, _, HD.out, HOK.out⟩
    · go_wp2_with fail
      go_ret
      exact ⟨_, HD.out, HOK.out⟩
  by_cases hq : s = wQ
  · subst hq
    clear hp
    go_enter Tryz.func155, Tryz.ntmps155
    go_wp2_with fail
    refine (next_cons HW.out).mono ?_
    rintro e V1 ⟨rfl, ⟨m1, hR⟩, hk⟩
    have HR := hide hR
    have HK := hide hk
    rw [HTS.out, show sB wQ = ⟨#[113]⟩ from rfl]
    clear hR hk
    go_wp2_with fail
    refine (place_q HR.out (by omega)).mono ?_
    rintro e V2 hok
    have HOK := hide (hok.cons (t := t) HK.out)
    have HD := hide (show R NM (.at 8) ((t :: T).map ab) (plc true (T.map ab)) by rw [H1.out]; exact R.place (.inr rfl))
    rcases hok with ⟨-, rfl, -⟩ | ⟨ex, -, -, -, -, rfl, -⟩
    · go_wp2_with fail
      exact ⟨rfl, _, HD.out, HOK.out⟩
    · go_wp2_with fail
      go_ret
      exact ⟨_, HD.out, HOK.out⟩
  have kp : ((sB s).toList == [112]) = false := by rw [toList_bs, bs_sB]; simpa [wP] using hp
  have kq : ((sB s).toList == [113]) = false := by rw [toList_bs, bs_sB]; simpa [wQ] using hq
  have HP := hide hp
  have HQ := hide hq
  have HCa := hide fun V => called_any (sB s) V
  have HIn := hide fun V => input_any (sB s) V
  rw [bs_sB] at HCa HIn
  clear hp hq
  by_cases hc : calO s = 0
  · have HCz := hide hc
    rw [hc] at HCa
    by_cases hi : 0 ≤ inK s
    · have HWD := hide (wd_in (nm := NM) hi)
      obtain ⟨k, hkk⟩ : ∃ k, inK s = k := ⟨_, rfl⟩
      rw [hkk] at HIn HWD hi
      clear hc hkk
      generalize hu : sB s = u at kp kq HCa HIn
      have HU := hide hu
      clear hu
      go_enter Tryz.func155, Tryz.ntmps155
      go_wp2_with fail
      refine (next_cons HW.out).mono ?_
      rintro e V1 ⟨rfl, ⟨m1, hR⟩, hk⟩
      have HR := hide hR
      have HK := hide hk
      rw [HTS.out, HU.out]
      clear hR hk
      go_wp2_with fail
      refine (HCa.out _).mono ?_
      rintro e V2 ⟨rfl, rfl⟩
      go_wp2_with fail
      refine (HIn.out _).mono ?_
      rintro e V2 ⟨rfl, rfl⟩
      go_wp2_with fail
      refine (node_any HR.out (lf 2 k 0 0 0 0) (by omega)).mono ?_
      rintro e V3 ⟨rfl, hR, hk⟩
      have HR3 := hide hR
      have HK3 := hide (HK.out.trans hk)
      clear hR hk
      go_wp2_with fail
      go_ret
      refine ⟨some (.leaf (lf 2 k 0 0 0 0), T.map ab), ?_, .inr ⟨.leaf (lf 2 k 0 0 0 0), [t], T, rfl, rfl, ret_size _ rfl, HR3.out, HK3.out⟩⟩
      have := R.word (nm := NM) (l := T.map ab) HP.out HQ.out HCz.out
      rw [HWD.out] at this
      rw [H1.out]; exact this
    · have HWD := hide (wd_use (nm := NM) hi)
      obtain ⟨k, hkk⟩ : ∃ k, inK s = k := ⟨_, rfl⟩
      rw [hkk] at HIn hi
      have hi' : k < 0 := by omega
      clear hc hkk hi
      have HIx := hide (show ∀ (V : World) (a : Option Addr) (n cap : Nat), Tx V a n cap NM → Calls Tryz.prog 117 #[.slice a n cap, .string (sB s)] V fun e W' => e = .returned (.int .i64 (ixZ NM s)) ∧ W' = V from fun V a n cap hx => by
        have := index_any hx (sB s)
        rw [bs_sB] at this
        exact this)
      cases hct : NM.contains s with
      | true =>
        rw [hct, if_pos rfl] at HWD
        rw [show ixZ NM s = (pos NM s : Int) by unfold ixZ; rw [hct]; rfl] at HIx
        generalize pos NM s = z at HWD HIx
        generalize hu : sB s = u at kp kq HCa HIn HIx
        have HU := hide hu
        clear hu hct
        go_enter Tryz.func155, Tryz.ntmps155
        go_wp2_with fail
        refine (next_cons HW.out).mono ?_
        rintro e V1 ⟨rfl, ⟨m1, hR⟩, hk⟩
        have HR := hide hR
        have HK := hide hk
        rw [HTS.out, HU.out]
        clear hR hk
        obtain ⟨a1, cap1, hn1, hTx⟩ := Tx.of_owns HR.out.names
        have HTx := hide hTx
        have c1 : V1.cell? ⟨b, 1, none⟩ = some (.slice a1 NM.length cap1) := by rw [← hn1]; exact HR.out.blk.cell 1 rfl
        clear hTx hn1
        go_wp2_with fail
        refine (HCa.out _).mono ?_
        rintro e V2 ⟨rfl, rfl⟩
        go_wp2_with fail
        refine (HIn.out _).mono ?_
        rintro e V2 ⟨rfl, rfl⟩
        go_wp2_with fail
        refine (HIx.out _ _ _ _ HTx.out).mono ?_
        rintro e V2 ⟨rfl, rfl⟩
        go_wp2_with fail
        refine (node_any HR.out (lf 4 z 0 0 0 0) (by omega)).mono ?_
        rintro e V3 ⟨rfl, hR, hk⟩
        have HR3 := hide hR
        have HK3 := hide (HK.out.trans hk)
        clear hR hk
        go_wp2_with fail
        go_ret
        refine ⟨some (.leaf (lf 4 z 0 0 0 0), T.map ab), ?_, .inr ⟨.leaf (lf 4 z 0 0 0 0), [t], T, rfl, rfl, ret_size _ rfl, HR3.out, HK3.out⟩⟩
        have := R.word (nm := NM) (l := T.map ab) HP.out HQ.out HCz.out
        rw [HWD.out] at this
        rw [H1.out]; exact this
      | false =>
        rw [hct, if_neg (by decide)] at HWD
        rw [show ixZ NM s = -1 by unfold ixZ; rw [hct]; rfl] at HIx
        generalize hu : sB s = u at kp kq HCa HIn HIx
        have HU := hide hu
        clear hu hct
        go_enter Tryz.func155, Tryz.ntmps155
        go_wp2_with fail
        refine (next_cons HW.out).mono ?_
        rintro e V1 ⟨rfl, ⟨m1, hR⟩, hk⟩
        have HR := hide hR
        have HK := hide hk
        rw [HTS.out, HU.out]
        clear hR hk
        obtain ⟨a1, cap1, hn1, hTx⟩ := Tx.of_owns HR.out.names
        have HTx := hide hTx
        have c1 : V1.cell? ⟨b, 1, none⟩ = some (.slice a1 NM.length cap1) := by rw [← hn1]; exact HR.out.blk.cell 1 rfl
        clear hTx hn1
        go_wp2_with fail
        refine (HCa.out _).mono ?_
        rintro e V2 ⟨rfl, rfl⟩
        go_wp2_with fail
        refine (HIn.out _).mono ?_
        rintro e V2 ⟨rfl, rfl⟩
        go_wp2_with fail
        refine (HIx.out _ _ _ _ HTx.out).mono ?_
        rintro e V2 ⟨rfl, rfl⟩
        go_wp2_with fail
        refine ⟨rfl, none, ?_, .inl ⟨rfl, rfl, HR.out.old⟩⟩
        have := R.word (nm := NM) (l := T.map ab) HP.out HQ.out HCz.out
        rw [HWD.out] at this
        rw [H1.out]; exact this
  · have HCz := hide hc
    have HCl := hide fun (V : World) (m : Mm) (h : Rd w V b m T NM BS NS) => call_rd HC.out h hT hN s hc
    have hne : (calO s == 0) = false := by simpa using hc
    obtain ⟨o, ho⟩ : ∃ o, calO s = o := ⟨_, rfl⟩
    rw [ho] at HCa HCl hne
    clear hc ho HIn
    generalize hu : sB s = u at kp kq HCa
    have HU := hide hu
    clear hu
    go_enter Tryz.func155, Tryz.ntmps155
    go_wp2_with fail
    refine (next_cons HW.out).mono ?_
    rintro e V1 ⟨rfl, ⟨m1, hR⟩, hk⟩
    have HR := hide hR
    have HK := hide hk
    rw [HTS.out, HU.out]
    clear hR hk
    go_wp2_with fail
    refine (HCa.out _).mono ?_
    rintro e V2 ⟨rfl, rfl⟩
    go_wp2_with fail
    refine (HCl.out _ _ HR.out).mono ?_
    rintro e V2 ⟨res, hres, hok⟩
    have HOK := hide (hok.cons (t := t) HK.out)
    rw [← H1.out] at hres
    have HD := hide hres
    clear hres
    rcases hok with ⟨-, rfl, -⟩ | ⟨ex, -, -, -, -, rfl, -⟩
    · go_wp2_with fail
      exact ⟨rfl, _, HD.out, HOK.out⟩
    · go_wp2_with fail
      go_ret
      exact ⟨_, HD.out, HOK.out⟩

theorem begins_no {l : List Tk} (h1 : ∀ v, l.head? ≠ some (.num v)) (h2 : ∀ s, l.head? ≠ some (.word s)) (h3 : l.head? ≠ some .lp) (h4 : l.head? ≠ some (.op 5 9)) : begins l = false := by
  unfold begins
  split
  · exact absurd rfl (h1 _)
  · exact absurd rfl (h2 _)
  · exact absurd rfl h3
  · rename_i k o _
    simp only [decide_eq_false_iff_not]
    rintro ⟨rfl, rfl⟩
    exact h4 rfl
  · rfl

set_option maxRecDepth 100000 in
set_option maxHeartbeats 4000000 in
theorem primary_rd {w W : World} {b n : Nat} {m : Mm} {T : List Tok} {NM : List Txt} {BS : List Int} {NS : List Nd} (hch : CH w b NM BS n) (h : Rd w W b m T NM BS NS) (hT : T.length ≤ n) (hN : NS.length + T.length ≤ 2000) (hm : (T.map ab).head? ≠ some (.op 5 9)) :
    Calls Tryz.prog 139 #[ptr b] W fun e W' => ∃ res, R NM (.at 8) (T.map ab) res ∧ Ok w W b T NM BS NS res e W' := by
  have HC := hide hch
  have HW := hide h
  have hw := hide h.wf
  have F0 := fldT0
  have HM := hide hm
  clear h hch hm
  by_cases h1 : ∃ v, (T.map ab).head? = some (.num v)
  · obtain ⟨v, h1⟩ := h1
    obtain ⟨t, T1, rfl, ht⟩ := hd_cons h1
    obtain ⟨hk1, -, -⟩ := kind1 (hw.out t (by simp)) ht
    have H1 := hide (show (t :: T1).map ab = .num v :: T1.map ab by rw [List.map_cons, ht])
    have HK1 := hide hk1
    have HV := hide ht
    rw [List.length_cons] at hT hN
    clear h1 ht hk1 HM
    go_enter Tryz.func139, Tryz.ntmps139
    go_wp2_with fail
    refine (peek_any HW.out).mono ?_
    rintro e V1 ⟨rfl, hb⟩
    rw [show (hd (t :: T1)).kind = 1 from HK1.out]
    have HR := hide (HW.out.later hb)
    have HK := hide (Kp.of_below SX hb)
    generalize sB (hd (t :: T1)).text = u
    generalize ((hd (t :: T1)).pos : Int) = p
    clear hb
    go_wp2_with fail
    refine (number_rd HR.out).mono ?_
    rintro e V2 (⟨hn, rfl, hb⟩ | ⟨v', t2, T2, he, hv, rfl, hR, hk⟩)
    · exact absurd (H1.out) (hn v _)
    · obtain ⟨rfl, rfl⟩ : t = t2 ∧ T1 = T2 := by simpa using he
      obtain rfl : v = v' := by have := HV.out.symm.trans hv; simpa using this
      obtain ⟨m2, hm2⟩ := hR
      have HR2 := hide hm2
      have HK2 := hide (HK.out.trans hk)
      clear hm2 hk hv he
      go_wp2_with fail
      refine (node_any HR2.out (lf 1 v 0 0 0 0) (by omega)).mono ?_
      rintro e V3 ⟨rfl, hR, hk⟩
      have HR3 := hide hR
      have HK3 := hide (HK2.out.trans hk)
      clear hR hk
      go_wp2_with fail
      go_ret
      exact ⟨some (.leaf (lf 1 v 0 0 0 0), T1.map ab), by rw [H1.out]; exact R.num v _, .inr ⟨.leaf (lf 1 v 0 0 0 0), [t], T1, rfl, rfl, ret_size _ rfl, HR3.out, HK3.out⟩⟩
  by_cases h2 : ∃ s, (T.map ab).head? = some (.word s)
  · obtain ⟨s, h2⟩ := h2
    obtain ⟨t, T1, rfl, ht⟩ := hd_cons h2
    obtain ⟨hk1, -, -⟩ := kind2 (hw.out t (by simp)) ht
    have HK1 := hide hk1
    have HV := hide ht
    rw [List.length_cons] at hT hN
    clear h1 h2 ht hk1 HM
    go_enter Tryz.func139, Tryz.ntmps139
    go_wp2_with fail
    refine (peek_any HW.out).mono ?_
    rintro e V1 ⟨rfl, hb⟩
    rw [show (hd (t :: T1)).kind = 2 from HK1.out]
    have HR := hide (HW.out.later hb)
    have HK := hide (Kp.of_below SX hb)
    generalize sB (hd (t :: T1)).text = u
    generalize ((hd (t :: T1)).pos : Int) = p
    clear hb
    go_wp2_with fail
    refine (word_rd HC.out HR.out (by omega) (by omega) s HV.out).mono ?_
    rintro e V2 ⟨res, hres, hok⟩
    have HOK := hide (show Ok w W b (t :: T1) NM BS NS res e V2 from by
      rcases hok with h | ⟨ex, P, T', h1, h2, h3, h4, h5⟩
      · exact .inl h
      · exact .inr ⟨ex, P, T', h1, h2, h3, h4, HK.out.trans h5⟩)
    have HD := hide hres
    clear hres
    rcases hok with ⟨-, rfl, -⟩ | ⟨ex, -, -, -, -, rfl, -⟩
    · go_wp2_with fail
      exact ⟨rfl, _, HD.out, HOK.out⟩
    · go_wp2_with fail
      go_ret
      exact ⟨_, HD.out, HOK.out⟩
  have hk3 : ((hd T).kind == 1) = false ∧ ((hd T).kind == 2) = false := by
    cases T with
    | nil => decide
    | cons t T =>
      have : t.kind = 3 := kind3 (hw.out t (by simp)) (fun v e => h1 ⟨v, by simp [e]⟩) (fun s e => h2 ⟨s, by simp [e]⟩)
      show (t.kind == 1) = false ∧ (t.kind == 2) = false
      rw [this]; decide
  obtain ⟨k1, k2⟩ := hk3
  have H1 := hide h1
  have H2 := hide h2
  clear h1 h2
  by_cases hl : (T.map ab).head? = some .lp
  · obtain ⟨t1, T1, rfl, h1⟩ := hd_cons hl
    have hs1 := hide ((text_iff (hw.out t1 (by simp)) (s := [40]) (by decide)).2 h1)
    have HE := hide (show (t1 :: T1).map ab = .lp :: T1.map ab by rw [List.map_cons, h1])
    rw [List.length_cons] at hT hN
    clear hl h1 hw HM
    go_enter Tryz.func139, Tryz.ntmps139
    go_wp2_with fail
    refine (peek_any HW.out).mono ?_
    rintro e V1 ⟨rfl, hb⟩
    have HR := hide (HW.out.later hb)
    have HK := hide (Kp.of_below SX hb)
    generalize sB (hd (t1 :: T1)).text = u
    generalize ((hd (t1 :: T1)).pos : Int) = p
    generalize (hd (t1 :: T1)).kind = kk at k1 k2 ⊢
    clear hb
    go_wp2_with fail
    refine (need_yes HR.out _ hs1.out).mono ?_
    rintro e V2 ⟨rfl, ⟨m2, hR⟩, hk⟩
    have HR2 := hide hR
    have HK2 := hide (HK.out.trans hk)
    clear hR hk
    go_wp2_with fail
    refine (HC.out _ _ T1 NS (by omega) (by omega) HR2.out).mono ?_
    rintro e V3 ⟨res, hres, (⟨rfl, rfl, hb⟩ | ⟨ex, P3, T3, rfl, hsp, rfl, ⟨m3, hR⟩, hk⟩)⟩
    · have HB := hide hb
      have HN := hide hres
      clear hb hres
      go_wp2_with fail
      exact ⟨rfl, none, by rw [HE.out]; exact R.par HN.out, .inl ⟨rfl, rfl, HB.out⟩⟩
    · have HRES := hide hres
      have HSP := hide hsp
      have HR3 := hide hR
      have HK3 := hide (HK2.out.trans hk)
      have hw3 := hide hR.wf
      clear hres hsp hR hk
      obtain ⟨z, hz⟩ : ∃ z : Int, ((NS.length + ex.size : Nat) : Int) - 1 = z := ⟨_, rfl⟩
      rw [hz]
      have HZ := hide hz
      clear hz
      by_cases hr : (T3.map ab).head? = some .rp
      · obtain ⟨t8, T8, rfl, h8⟩ := hd_cons hr
        have hs8 := hide ((text_iff (hw3.out t8 (by simp)) (s := [41]) (by decide)).2 h8)
        have H8 := hide (show (t8 :: T8).map ab = .rp :: T8.map ab by rw [List.map_cons, h8])
        clear hr h8 hw3
        go_wp2_with fail
        refine (need_yes HR3.out _ hs8.out).mono ?_
        rintro e V8 ⟨rfl, hR, hk⟩
        have HR8 := hide hR
        have HK8 := hide (HK3.out.trans hk)
        clear hR hk
        go_wp2_with fail
        go_ret
        refine ⟨some (ex, T8.map ab), ?_, .inr ⟨ex, t1 :: (P3 ++ [t8]), T8, rfl, by rw [HSP.out]; simp, ?_, HR8.out, HK8.out⟩⟩
        · have := R.par HRES.out
          rw [H8.out, eat_mk] at this
          rw [HE.out]; exact this
        · exact ret_int HZ.out.symm
      · have hs8 := hide (hd_ne (s := [41]) hw3.out (by decide) hr)
        have HRP := hide hr
        clear hr hw3
        go_wp2_with fail
        refine (need_no HR3.out _ hs8.out).mono ?_
        rintro e V8 ⟨rfl, hb⟩
        have HB := hide (bel HR3.out.old hb)
        clear hb
        go_wp2_with fail
        refine ⟨rfl, none, ?_, .inl ⟨rfl, rfl, HB.out⟩⟩
        have := R.par HRES.out
        rw [eat_no HRP.out] at this
        rw [HE.out]; exact this
  · have hs1 := hide (hd_ne (s := [40]) hw.out (by decide) hl)
    have HL := hide hl
    clear hl hw
    go_enter Tryz.func139, Tryz.ntmps139
    go_wp2_with fail
    refine (peek_any HW.out).mono ?_
    rintro e V1 ⟨rfl, hb⟩
    have HR := hide (HW.out.later hb)
    generalize sB (hd T).text = u
    generalize ((hd T).pos : Int) = p
    generalize (hd T).kind = kk at k1 k2 ⊢
    clear hb
    go_wp2_with fail
    refine (need_no HR.out _ hs1.out).mono ?_
    rintro e V2 ⟨rfl, hb⟩
    have HB := hide (bel HR.out.old hb)
    clear hb
    go_wp2_with fail
    exact ⟨rfl, none, R.bad (begins_no (fun v e => H1.out ⟨v, e⟩) (fun s e => H2.out ⟨s, e⟩) HL.out HM.out), .inl ⟨rfl, rfl, HB.out⟩⟩

/-- What is handed on. -/
theorem Ok.kp {w W W1 : World} {b : Nat} {T : List Tok} {NM : List Txt} {BS : List Int} {NS : List Nd} {res : Option (E × List Tk)} {e : Ending} {W' : World} (h : Ok w W1 b T NM BS NS res e W') (hk : Kp SX W W1) : Ok w W b T NM BS NS res e W' := by
  rcases h with h | ⟨ex, P, T', h1, h2, h3, h4, h5⟩
  · exact .inl h
  · exact .inr ⟨ex, P, T', h1, h2, h3, h4, hk.trans h5⟩

set_option maxRecDepth 100000 in
set_option maxHeartbeats 4000000 in
theorem minus_rd {w : World} {b n : Nat} {NM : List Txt} {BS : List Int} (hch : CH w b NM BS n) : ∀ (T : List Tok) (W : World) (m : Mm) (NS : List Nd), T.length ≤ n → NS.length + T.length ≤ 2000 → Rd w W b m T NM BS NS →
    Calls Tryz.prog 118 #[ptr b] W fun e W' => ∃ res, R NM (.at 8) (T.map ab) res ∧ Ok w W b T NM BS NS res e W' := by
  intro T
  induction T with
  | nil =>
    intro W m NS hT hN h
    have HC := hide hch
    have HW := hide h
    clear h hch
    go_enter Tryz.func118, Tryz.ntmps118
    go_wp2_with fail
    refine (pass_no HW.out _ (by decide)).mono ?_
    rintro e V1 ⟨rfl, hb⟩
    have HR := hide (HW.out.later hb)
    have HK := hide (Kp.of_below SX hb)
    clear hb
    go_wp2_with fail
    refine (primary_rd HC.out HR.out hT hN (by simp)).mono ?_
    rintro e V2 ⟨res, hres, hok⟩
    have HOK := hide (hok.kp HK.out)
    have HD := hide hres
    clear hres
    rcases hok with ⟨-, rfl, -⟩ | ⟨ex, -, -, -, -, rfl, -⟩
    · go_wp2_with fail
      exact ⟨rfl, _, HD.out, HOK.out⟩
    · go_wp2_with fail
      go_ret
      exact ⟨_, HD.out, HOK.out⟩
  | cons t T ih =>
    intro W m NS hT hN h
    have HC := hide hch
    have HI := hide ih
    have HW := hide h
    have hw := h.wf
    clear h hch ih
    rw [List.length_cons] at hT hN
    by_cases hm : ((t :: T).map ab).head? = some (.op 5 9)
    · have ht : ab t = .op 5 9 := by simpa using hm
      have hs := hide ((text_iff (hw t (by simp)) (s := [45]) (by decide)).2 ht)
      have HE := hide (show (t :: T).map ab = .op 5 9 :: T.map ab by rw [List.map_cons, ht])
      clear hm ht hw
      go_enter Tryz.func118, Tryz.ntmps118
      go_wp2_with fail
      refine (pass_yes HW.out _ hs.out).mono ?_
      rintro e V1 ⟨rfl, ⟨m1, hR⟩, hk⟩
      have HR := hide hR
      have HK := hide hk
      clear hR hk
      go_wp2_with fail
      refine (HI.out _ _ NS (by omega) (by omega) HR.out).mono ?_
      rintro e V2 ⟨res, hres, (⟨rfl, rfl, hb⟩ | ⟨ex, P3, T3, rfl, hsp, rfl, ⟨m3, hR⟩, hk⟩)⟩
      · have HB := hide hb
        have HN := hide hres
        clear hb hres
        go_wp2_with fail
        exact ⟨rfl, none, by rw [HE.out]; exact R.neg HN.out, .inl ⟨rfl, rfl, HB.out⟩⟩
      · have HRES := hide hres
        have HSP := hide hsp
        have HR3 := hide hR
        have HK3 := hide (HK.out.trans hk)
        have hsz : NS.length + ex.size ≤ 2000 := by have := r_len hres; simp at this; omega
        clear hres hsp hR hk
        go_wp2_with fail
        refine (node_any HR3.out ⟨5, ((NS.length + ex.size : Nat) : Int) - 1, 0, 0, 0, 0, 0, 0, 0⟩ (by rw [List.length_append, E.flat_len]; omega)).mono ?_
        rintro e V4 ⟨rfl, hR, hk⟩
        rw [List.append_assoc, show ex.flat NS.length ++ [⟨5, ((NS.length + ex.size : Nat) : Int) - 1, 0, 0, 0, 0, 0, 0, 0⟩] = (E.un 5 ex).flat NS.length from rfl] at hR
        have HR4 := hide hR
        have HK4 := hide (HK3.out.trans hk)
        rw [show (NS ++ ex.flat NS.length).length = NS.length + ex.size by rw [List.length_append, E.flat_len]]
        clear hR hk
        go_wp2_with fail
        go_ret
        exact ⟨some (.un 5 ex, T3.map ab), by rw [HE.out]; exact R.neg HRES.out, .inr ⟨.un 5 ex, t :: P3, T3, rfl, by rw [HSP.out]; rfl, ret_int (by simp [E.size]; omega), HR4.out, HK4.out⟩⟩
    · have hs := hide (hd_ne (s := [45]) hw (by decide) hm)
      have HM := hide hm
      clear hm hw
      go_enter Tryz.func118, Tryz.ntmps118
      go_wp2_with fail
      refine (pass_no HW.out _ hs.out).mono ?_
      rintro e V1 ⟨rfl, hb⟩
      have HR := hide (HW.out.later hb)
      have HK := hide (Kp.of_below SX hb)
      clear hb
      go_wp2_with fail
      refine (primary_rd HC.out HR.out (by rw [List.length_cons]; omega) (by rw [List.length_cons]; omega) HM.out).mono ?_
      rintro e V2 ⟨res, hres, hok⟩
      have HOK := hide (hok.kp HK.out)
      have HD := hide hres
      clear hres
      rcases hok with ⟨-, rfl, -⟩ | ⟨ex, -, -, -, -, rfl, -⟩
      · go_wp2_with fail
        exact ⟨rfl, _, HD.out, HOK.out⟩
      · go_wp2_with fail
        go_ret
        exact ⟨_, HD.out, HOK.out⟩

end Go.Proofs.YtlhbgkaknfhlnaaGreat

/-
  The reader of package parse: call, given what choice comes to on fewer tokens.
-/
import Derived.Test.YtodgjjkpbcadoaaGreatDoorRplace
import Derived.Test.YtodgjjkpbcadoaaGreatDoorGr3
import Derived.Deep.Cut
namespace Go.Proofs.YtodgjjkpbcadoaaGreatDoor
open Go.RowKit Go.IntWalk Lx Pz
set_option linter.unusedVariables false

/-- What choice comes to, on fewer than n tokens. -/
def CH (w : World) (b : Nat) (NM : List Txt) (BS : List Int) (n : Nat) : Prop := ∀ (W : World) (m : Mm) (T : List Tok) (NS : List Nd), T.length < n → NS.length + T.length ≤ 2000 → Rd w W b m T NM BS NS →
  Calls Tryz.prog 57 #[ptr b] W fun e W' => ∃ res, R NM (.at 0) (T.map ab) res ∧ Ok w W b T NM BS NS res e W'

theorem ari_arZ {s : Txt} (h : calO s ≠ 0) : arZ (calO s) = (ari (calO s) : Int) := by
  unfold calO at h ⊢
  split
  · rfl
  split
  · rfl
  split
  · rfl
  split
  · rfl
  split
  · rfl
  split
  · rfl
  · rename_i h1 h2 h3 h4 h5 h6
    rw [if_neg h1, if_neg h2, if_neg h3, if_neg h4, if_neg h5, if_neg h6] at h
    exact absurd rfl h

/-- The numbers of the parts, es they lie. -/
abbrev prt (es : List E) (s : Nat) : Array Value := #[.int .i64 (p1 es s), .int .i64 (p2 es s), .int .i64 (p3 es s)]
theorem prt_snoc {es : List E} (h : es.length < 3) (a : E) (s : Nat) : (prt es s).setIfInBounds es.length (.int .i64 ((s + szL es + a.size : Nat) - 1 : Int)) = prt (es ++ [a]) s := by
  match es, h with
  | [], _ => simp [prt, p1, p2, p3, szL]
  | [b], _ => simp [prt, p1, p2, p3, szL]
  | [b, c], _ => simp [prt, p1, p2, p3, szL, Nat.add_assoc]
  | _ :: _ :: _ :: _, h => simp at h; omega

set_option maxRecDepth 100000 in
set_option maxHeartbeats 4000000 in
theorem call_rd {w W : World} {b n : Nat} {m : Mm} {T : List Tok} {NM : List Txt} {BS : List Int} {NS : List Nd} (hch : CH w b NM BS n) (h : Rd w W b m T NM BS NS) (hT : T.length ≤ n) (hN : NS.length + T.length ≤ 1999) (s : Txt) (hs : calO s ≠ 0) :
    Calls Tryz.prog 104 #[ptr b, .int .i64 (calO s)] W fun e W' => ∃ res, R NM (.at 8) (.word s :: T.map ab) res ∧ Ok w W b T NM BS NS res e W' := by
  have HC := hide hch
  have HS := hide hs
  have hw := hide h.wf
  have HA := hide fun V => arity_any (calO s) V
  rw [ari_arZ hs] at HA
  have HAR := hide (calO_ari hs)
  have HP0 := hide (Pl.begin h 75 (prt [] NS.length))
  obtain ⟨o, ho⟩ : ∃ o, calO s = o := ⟨_, rfl⟩
  obtain ⟨A, hA⟩ : ∃ A, ari (calO s) = A := ⟨_, rfl⟩
  have HO := hide ho
  have HAA := hide hA
  rw [hA] at HA HAR
  rw [ho] at HA ⊢
  have hA3 : A ≤ 3 := by have := HAR.out; omega
  have hA1 : 1 ≤ A := by have := HAR.out; omega
  clear h hs ho hA hch
  go_enter Tryz.func104, Tryz.ntmps104
  go_upto_region 2 with fail
  obtain ⟨q, hq⟩ : ∃ q, W.heap.size = q := ⟨_, rfl⟩
  rw [hq] at HP0 ⊢
  generalize hV0 : W.alloc (.cells (prt [] NS.length) 75) = V0 at HP0
  rw [show W.alloc (.cells #[.int .i64 0, .int .i64 0, .int .i64 0] 75) = V0 from hV0]
  clear hq hV0
  obtain ⟨m0, hm0⟩ := HP0.out.rd
  have HM0 := hide hm0
  clear hm0
  by_cases hl : (T.map ab).head? = some .lp
  · obtain ⟨t1, T1, rfl, h1⟩ := hd_cons hl
    have hs1 := hide ((text_iff (hw.out t1 (by simp)) (s := [40]) (by decide)).2 h1)
    have H1 := hide (show (t1 :: T1).map ab = .lp :: T1.map ab by rw [List.map_cons, h1])
    rw [List.length_cons] at hT hN
    clear hl h1 hw
    go_wp2_with fail
    refine (need_yes HM0.out _ hs1.out).mono ?_
    rintro e V1 ⟨rfl, hR, hk⟩
    have HP := hide (HP0.out.step (by decide) hR hk)
    clear hR hk HP0 HM0
    go_wp2_with fail
    refine (HA.out _).mono ?_
    rintro e V2 ⟨rfl, rfl⟩
    go_wp2_with fail
    go_loopw [11] (fun k V => ∃ (i : Nat) (es : List E) (P T' : List Tok), i ≤ A ∧ k = .int .i64 i ∧ Hid (es.length = i) ∧ Hid (T1 = P ++ T') ∧ Hid (AR NM (T1.map ab) es (T'.map ab)) ∧ Hid (Pl w W V b T' NM BS (NS ++ flL es NS.length) q 75 (prt es NS.length))) (fun k _ => A - (intOf k).toNat)
    case atStart => exact ⟨0, [], [], T1, by omega, rfl, hide rfl, hide rfl, hide AR.nil, hide (by simpa [flL] using HP.out)⟩
    case round =>
      obtain ⟨i, es, P, T', hi, rfl, HL, HT, HR, HPl⟩ := hrel
      have HLn := hide HR.out.len
      have hTl : T'.length ≤ T1.length := by rw [HT.out, List.length_append]; omega
      rename World => V3
      obtain ⟨m3, hm3⟩ := HPl.out.rd
      have HM3 := hide hm3
      have hw3 := hide hm3.wf
      clear hm3
      by_cases hlt : i < A
      · have hlt3 : i < 3 := by omega
        by_cases h0 : i = 0
        · subst h0
          have hes : es = [] := List.length_eq_zero_iff.1 HL.out
          have HE := hide hes
          clear hes
          go_wp2_with fail
          refine (HC.out V3 m3 T' (NS ++ flL es NS.length) (by omega) (by rw [List.length_append, flL_len]; have := HLn.out; simp at this; omega) HM3.out).mono ?_
          rintro e V5 ⟨res, hres, (⟨rfl, rfl, hb⟩ | ⟨a, P5, T5, rfl, hsp, rfl, hR, hk⟩)⟩
          · have HB := hide hb
            have HN := hide hres
            clear hb hres
            go_wp2_with fail
            exact ⟨rfl, none, by rw [H1.out]; exact HR.out.no_part (by rw [HAA.out, HL.out]; exact hlt) (.inl ⟨HE.out, rfl⟩) HN.out, .inl ⟨rfl, rfl, HB.out⟩⟩
          · have HRES := hide hres
            have HSP := hide hsp
            have HP5 := hide (HPl.out.step (by decide) hR hk)
            have e5 : (NS ++ flL es NS.length).length = NS.length + szL es := by rw [List.length_append, flL_len]
            rw [e5, List.append_assoc, ← flL_snoc] at HP5
            rw [e5]
            obtain ⟨d0, d1, d2⟩ := facts3 HP5.out.va
            obtain ⟨y0, y1, y2⟩ := free3 HP5.out.va
            have HP6 := hide (HP5.out.store (by decide) es.length (.int .i64 ((NS.length + szL es + a.size : Nat) - 1 : Int)))
            rw [prt_snoc (by rw [HL.out]; omega), HL.out] at HP6
            generalize (((NS.length + szL es + a.size : Nat) : Int) - 1) = z at HP6 ⊢
            clear hR hk hres hsp e5
            go_upto_region 9 with fail
            generalize V5.setCell ⟨q, 0, none⟩ (.int .i64 z) = V6 at HP6 ⊢
            clear d0 d1 d2 y0 y1 y2
            go_wp2_with fail
            go_roundw
            case rel => exact ⟨1, es ++ [a], P ++ P5, T5, by omega, rfl, hide (by simp [HL.out]), hide (by rw [HT.out, HSP.out, List.append_assoc]), hide (by rw [HE.out] at HR ⊢; rw [← HR.out.nil_inv]; exact AR.one HRES.out), HP6⟩
            case measure => simp [intOf]; omega
        · have hpos : (0 : Int) < i := by omega
          have HNE := hide (show es ≠ [] from fun e => by have := HL.out; rw [e] at this; simp at this; omega)
          by_cases hc : (T'.map ab).head? = some .comma
          · obtain ⟨t4, T4, rfl, h4⟩ := hd_cons hc
            have hs4 := hide ((text_iff (hw3.out t4 (by simp)) (s := [44]) (by decide)).2 h4)
            have H4 := hide (show (t4 :: T4).map ab = .comma :: T4.map ab by rw [List.map_cons, h4])
            rw [List.length_cons] at hTl
            clear hc h4 hw3 h0
            go_wp2_with fail
            refine (need_yes HM3.out _ hs4.out).mono ?_
            rintro e V4 ⟨rfl, hR, hk⟩
            have HP4 := hide (HPl.out.step (by decide) hR hk)
            clear hR hk HPl HM3
            obtain ⟨m4, hm4⟩ := HP4.out.rd
            have HM4 := hide hm4
            clear hm4
            go_wp2_with fail
            refine (HC.out V4 m4 T4 (NS ++ flL es NS.length) (by omega) (by rw [List.length_append, flL_len]; have := HLn.out; simp at this; omega) HM4.out).mono ?_
            rintro e V5 ⟨res, hres, (⟨rfl, rfl, hb⟩ | ⟨a, P5, T5, rfl, hsp, rfl, hR, hk⟩)⟩
            · have HB := hide hb
              have HN := hide hres
              clear hb hres
              go_wp2_with fail
              exact ⟨rfl, none, by rw [H1.out]; exact HR.out.no_part (by rw [HAA.out, HL.out]; exact hlt) (.inr ⟨HNE.out, H4.out⟩) HN.out, .inl ⟨rfl, rfl, HB.out⟩⟩
            · have HRES := hide hres
              have HSP := hide hsp
              have HP5 := hide (HP4.out.step (by decide) hR hk)
              have e5 : (NS ++ flL es NS.length).length = NS.length + szL es := by rw [List.length_append, flL_len]
              rw [e5, List.append_assoc, ← flL_snoc] at HP5
              rw [e5]
              obtain ⟨d0, d1, d2⟩ := facts3 HP5.out.va
              obtain ⟨y0, y1, y2⟩ := free3 HP5.out.va
              have HP6 := hide (HP5.out.store (by decide) es.length (.int .i64 ((NS.length + szL es + a.size : Nat) - 1 : Int)))
              rw [prt_snoc (by rw [HL.out]; omega), HL.out] at HP6
              generalize (((NS.length + szL es + a.size : Nat) : Int) - 1) = z at HP6 ⊢
              clear hR hk hres hsp e5
              have hi0 : (0 : Int) ≤ i := by omega
              have hi3 : (i : Int) < 3 := by omega
              have hlt2 : i < 3 := by omega
              have HC5 := hide HP5.out.va
              have di : ∃ u, V5.cell? ⟨q, i, none⟩ = some u := by
                rcases (show i = 0 ∨ i = 1 ∨ i = 2 by omega) with rfl | rfl | rfl
                · exact ⟨_, d0⟩
                · exact ⟨_, d1⟩
                · exact ⟨_, d2⟩
              obtain ⟨u, di⟩ := di
              have yi : V5.frozen? ⟨q, i, none⟩ = false := HC5.out.frozen i
              clear d0 d1 d2 y0 y1 y2
              go_upto_region 9 with fail
              generalize V5.setCell ⟨q, i, none⟩ (.int .i64 z) = V6 at HP6 ⊢
              clear di yi
              go_wp2_with fail
              go_roundw
              case rel => exact ⟨i + 1, es ++ [a], P ++ t4 :: P5, T5, by omega, by go_num, hide (by simp [HL.out]), hide (by rw [HT.out, HSP.out]; simp), hide (AR.more HNE.out (by rw [← H4.out]; exact HR.out) HRES.out), HP6⟩
              case measure => simp [intOf]; omega
          · have hs4 := hide (hd_ne (s := [44]) hw3.out (by decide) hc)
            have HCM := hide hc
            clear hc hw3 h0
            go_wp2_with fail
            refine (need_no HM3.out _ hs4.out).mono ?_
            rintro e V4 ⟨rfl, hb⟩
            have HB := hide (bel HM3.out.old hb)
            clear hb
            go_wp2_with fail
            exact ⟨rfl, none, by rw [H1.out]; exact HR.out.no_comma (by rw [HL.out]; omega) (by rw [HAA.out, HL.out]; exact hlt) HCM.out, .inl ⟨rfl, rfl, HB.out⟩⟩
      · obtain rfl : i = A := by omega
        by_cases hr : (T'.map ab).head? = some .rp
        · obtain ⟨t8, T8, rfl, h8⟩ := hd_cons hr
          have hs8 := hide ((text_iff (hw3.out t8 (by simp)) (s := [41]) (by decide)).2 h8)
          have H8 := hide (show (t8 :: T8).map ab = .rp :: T8.map ab by rw [List.map_cons, h8])
          clear hr h8 hw3
          go_wp2_with fail
          refine (need_yes HM3.out _ hs8.out).mono ?_
          rintro e V8 ⟨rfl, hR, hk⟩
          have HP8 := hide (HPl.out.step (by decide) hR hk)
          clear hR hk HPl HM3
          obtain ⟨m8, hm8⟩ := HP8.out.rd
          have HM8 := hide hm8
          clear hm8
          obtain ⟨d0, d1, d2⟩ := facts3 HP8.out.va
          go_wp2_with fail
          refine (node_any HM8.out ⟨o, p1 es NS.length, p2 es NS.length, p3 es NS.length, 0, 0, 0, 0, 0⟩ (by rw [List.length_append, flL_len]; have := HLn.out; simp at this; omega)).mono ?_
          rintro e V9 ⟨rfl, hR, hk⟩
          have hfl := mkE_flat (o := o) (es := es) (by rw [HL.out]; exact HAR.out) NS.length
          rw [List.append_assoc, ← hfl.1] at hR
          have HZ := hide hfl.2
          have HR9 := hide hR
          have HK9 := hide (HP8.out.kp.trans hk)
          rw [show (NS ++ flL es NS.length).length = NS.length + szL es by rw [List.length_append, flL_len]]
          clear hR hk d0 d1 d2 hfl
          go_wp2_with fail
          go_ret
          refine ⟨some (mkE o es, T8.map ab), ?_, .inr ⟨mkE o es, t1 :: (P ++ [t8]), T8, rfl, by rw [HT.out]; simp, ret_int (by rw [HZ.out]; omega), HR9.out, HK9.out⟩⟩
          have := HR.out.ends (s := s) (by rw [HL.out]; omega) (by rw [HL.out, HAA.out])
          rw [H8.out, eat_mk, HO.out] at this
          rw [H1.out]
          exact this
        · have hs8 := hide (hd_ne (s := [41]) hw3.out (by decide) hr)
          have HRP := hide hr
          clear hr hw3
          go_wp2_with fail
          refine (need_no HM3.out _ hs8.out).mono ?_
          rintro e V8 ⟨rfl, hb⟩
          have HB := hide (bel HM3.out.old hb)
          clear hb
          go_wp2_with fail
          refine ⟨rfl, none, ?_, .inl ⟨rfl, rfl, HB.out⟩⟩
          have := HR.out.ends (s := s) (by rw [HL.out]; omega) (by rw [HL.out, HAA.out])
          rw [eat_no HRP.out] at this
          rw [H1.out]
          exact this
  · have hs1 := hide (hd_ne (s := [40]) hw.out (by decide) hl)
    have HL := hide hl
    clear hl hw
    go_wp2_with fail
    refine (need_no HM0.out _ hs1.out).mono ?_
    rintro e V1 ⟨rfl, hb⟩
    have HB := hide (bel HM0.out.old hb)
    clear hb
    go_wp2_with fail
    exact ⟨rfl, none, R.callx HS.out HL.out, .inl ⟨rfl, rfl, HB.out⟩⟩

end Go.Proofs.YtodgjjkpbcadoaaGreatDoor

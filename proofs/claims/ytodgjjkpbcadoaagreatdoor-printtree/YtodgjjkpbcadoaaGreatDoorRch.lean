/-
  The reader of package parse: what choice comes to, on any tokens.
-/
import Derived.Test.YtodgjjkpbcadoaaGreatDoorRlev
namespace Go.Proofs.YtodgjjkpbcadoaaGreatDoor
open Go.RowKit Go.IntWalk Lx Pz
set_option linter.unusedVariables false

set_option maxRecDepth 100000 in
set_option maxHeartbeats 4000000 in
theorem level7 {w : World} {b n : Nat} {NM : List Txt} {BS : List Int} (hch : CH w b NM BS n) : LV w b NM BS n 7 := by
  intro W m T NS hT hN h
  have HC := hide (minus_rd hch T W m NS hT hN h)
  clear h hch
  go_enter Tryz.func75, Tryz.ntmps75
  go_wp2_with fail
  go_step3
  go_wp2_with fail
  refine HC.out.mono ?_
  rintro e V2 ⟨res, hres, hok⟩
  have HOK := hide hok
  have HD := hide hres
  clear hres
  rcases hok with ⟨-, rfl, -⟩ | ⟨ex, -, -, -, -, rfl, -⟩
  · go_wp2_with fail
    try rw [Exit.noGoto_panic]
    exact ⟨rfl, _, HD.out, HOK.out⟩
  · go_wp2_with fail
    try rw [Exit.noGoto_ret]
    go_ret
    exact ⟨_, HD.out, HOK.out⟩

theorem level_all {w : World} {b n : Nat} {NM : List Txt} {BS : List Int} (hch : CH w b NM BS n) : ∀ j k, k + j = 7 → LV w b NM BS n k := by
  intro j
  induction j with
  | zero => intro k hk; obtain rfl : k = 7 := by omega
            exact level7 hch
  | succ j ih => intro k hk; exact level_rd (by omega) (ih (k + 1) (by omega))

set_option maxRecDepth 100000 in
set_option maxHeartbeats 4000000 in
theorem choice_rd {w W : World} {b n : Nat} {m : Mm} {T : List Tok} {NM : List Txt} {BS : List Int} {NS : List Nd} (hch : CH w b NM BS n) (hT : T.length ≤ n) (hN : NS.length + T.length ≤ 2000) (h : Rd w W b m T NM BS NS) :
    Calls Tryz.prog 57 #[ptr b] W fun e W' => ∃ res, R NM (.at 0) (T.map ab) res ∧ Ok w W b T NM BS NS res e W' := by
  have HC := hide hch
  have HL := hide (level_all hch 7 0 rfl W m T NS hT hN h)
  clear h hch
  go_enter Tryz.func57, Tryz.ntmps57
  go_wp2_with fail
  refine HL.out.mono ?_
  rintro e V1 ⟨res, hres, (⟨rfl, rfl, hb⟩ | ⟨ex, P1, T1, rfl, hsp, rfl, ⟨m1, hR⟩, hk⟩)⟩
  · have HB := hide hb
    have HN := hide hres
    clear hb hres
    go_wp2_with fail
    exact ⟨rfl, none, R.ch_none HN.out, .inl ⟨rfl, rfl, HB.out⟩⟩
  · have HRES := hide hres
    have HSP := hide hsp
    have hl1 : ex.size + T1.length ≤ T.length := by have := r_len hres; simpa using this
    have hp1 := ex.size_pos
    have HR1 := hide hR
    have HK1 := hide hk
    have hw1 := hide hR.wf
    clear hres hsp hR hk HL
    by_cases hq : (T1.map ab).head? = some .ques
    · obtain ⟨t2, T2, rfl, h2⟩ := hd_cons hq
      have hs2 := hide ((text_iff (hw1.out t2 (by simp)) (s := [63]) (by decide)).2 h2)
      have H2 := hide (show (t2 :: T2).map ab = .ques :: T2.map ab by rw [List.map_cons, h2])
      rw [H2.out] at HRES
      rw [List.length_cons] at hl1
      clear hq h2 hw1
      go_wp2_with fail
      refine (pass_yes HR1.out _ hs2.out).mono ?_
      rintro e V2 ⟨rfl, ⟨m2, hR⟩, hk⟩
      have HR2 := hide hR
      have HK2 := hide (HK1.out.trans hk)
      clear hR hk
      go_wp2_with fail
      refine (HC.out _ _ T2 (NS ++ ex.flat NS.length) (by omega) (by rw [List.length_append, E.flat_len]; omega) HR2.out).mono ?_
      rintro e V3 ⟨res, hres, (⟨rfl, rfl, hb⟩ | ⟨e2, P3, T3, rfl, hsp, rfl, ⟨m3, hR⟩, hk⟩)⟩
      · have HB := hide hb
        have HN := hide hres
        clear hb hres
        go_wp2_with fail
        exact ⟨rfl, none, R.ch_no HRES.out HN.out rfl, .inl ⟨rfl, rfl, HB.out⟩⟩
      · have HRES2 := hide hres
        have HSP2 := hide hsp
        have hl2 : e2.size + T3.length ≤ T2.length := by have := r_len hres; simpa using this
        rw [show (NS ++ ex.flat NS.length).length = NS.length + ex.size by rw [List.length_append, E.flat_len]] at hR ⊢
        have HR3 := hide hR
        have HK3 := hide (HK2.out.trans hk)
        have hw3 := hide hR.wf
        clear hres hsp hR hk
        by_cases hc : (T3.map ab).head? = some .colon
        · obtain ⟨t4, T4, rfl, h4⟩ := hd_cons hc
          have hs4 := hide ((text_iff (hw3.out t4 (by simp)) (s := [58]) (by decide)).2 h4)
          have H4 := hide (show (t4 :: T4).map ab = .colon :: T4.map ab by rw [List.map_cons, h4])
          rw [H4.out] at HRES2
          rw [List.length_cons] at hl2
          clear hc h4 hw3
          go_wp2_with fail
          refine (need_yes HR3.out _ hs4.out).mono ?_
          rintro e V4 ⟨rfl, ⟨m4, hR⟩, hk⟩
          have HR4 := hide hR
          have HK4 := hide (HK3.out.trans hk)
          clear hR hk
          go_wp2_with fail
          refine (HC.out _ _ T4 (NS ++ ex.flat NS.length ++ e2.flat (NS.length + ex.size)) (by omega) (by simp [E.flat_len]; omega) HR4.out).mono ?_
          rintro e V5 ⟨res, hres, (⟨rfl, rfl, hb⟩ | ⟨e3, P5, T5, rfl, hsp, rfl, ⟨m5, hR⟩, hk⟩)⟩
          · have HB := hide hb
            have HN := hide hres
            clear hb hres
            go_wp2_with fail
            exact ⟨rfl, none, R.ch_sel HRES.out HRES2.out (eat_mk _ _ _) HN.out, .inl ⟨rfl, rfl, HB.out⟩⟩
          · have HRES3 := hide hres
            have HSP3 := hide hsp
            have hl3 : e3.size + T5.length ≤ T4.length := by have := r_len hres; simpa using this
            rw [show (NS ++ ex.flat NS.length ++ e2.flat (NS.length + ex.size)).length = NS.length + ex.size + e2.size by simp [E.flat_len, Nat.add_assoc]] at hR ⊢
            have HR5 := hide hR
            have HK5 := hide (HK4.out.trans hk)
            clear hres hsp hR hk
            go_wp2_with fail
            refine (node_any HR5.out ⟨28, ((NS.length + ex.size : Nat) : Int) - 1, ((NS.length + ex.size + e2.size : Nat) : Int) - 1, ((NS.length + ex.size + e2.size + e3.size : Nat) : Int) - 1, 0, 0, 0, 0, 0⟩ (by simp [E.flat_len]; omega)).mono ?_
            rintro e V6 ⟨rfl, hR, hk⟩
            rw [show NS ++ ex.flat NS.length ++ e2.flat (NS.length + ex.size) ++ e3.flat (NS.length + ex.size + e2.size) ++ [⟨28, ((NS.length + ex.size : Nat) : Int) - 1, ((NS.length + ex.size + e2.size : Nat) : Int) - 1, ((NS.length + ex.size + e2.size + e3.size : Nat) : Int) - 1, 0, 0, 0, 0, 0⟩] = NS ++ (E.tri 28 ex e2 e3).flat NS.length by simp [E.flat]] at hR
            have HR6 := hide hR
            have HK6 := hide (HK5.out.trans hk)
            rw [show (((NS ++ ex.flat NS.length ++ e2.flat (NS.length + ex.size) ++ e3.flat (NS.length + ex.size + e2.size)).length : Nat) : Int) = ((NS.length + (E.tri 28 ex e2 e3).size : Nat) : Int) - 1 by simp [E.flat_len, E.size]; omega]
            clear hR hk
            go_wp2_with fail
            go_ret
            exact ⟨_, R.ch_sel HRES.out HRES2.out (eat_mk _ _ _) HRES3.out, .inr ⟨E.tri 28 ex e2 e3, P1 ++ t2 :: (P3 ++ t4 :: P5), T5, rfl, by rw [HSP.out, HSP2.out, HSP3.out]; simp, rfl, HR6.out, HK6.out⟩⟩
        · have hs4 := hide (hd_ne (s := [58]) hw3.out (by decide) hc)
          have HCO := hide hc
          clear hc hw3
          go_wp2_with fail
          refine (need_no HR3.out _ hs4.out).mono ?_
          rintro e V4 ⟨rfl, hb⟩
          have HB := hide (bel HR3.out.old hb)
          clear hb
          go_wp2_with fail
          exact ⟨rfl, none, R.ch_no HRES.out HRES2.out (eat_no HCO.out), .inl ⟨rfl, rfl, HB.out⟩⟩
    · have hs2 := hide (hd_ne (s := [63]) hw1.out (by decide) hq)
      have HQ := hide hq
      clear hq hw1
      go_wp2_with fail
      refine (pass_no HR1.out _ hs2.out).mono ?_
      rintro e V2 ⟨rfl, hb⟩
      have HR2 := hide (HR1.out.later hb)
      have HK2 := hide (HK1.out.trans (Kp.of_below SX hb))
      clear hb
      go_wp2_with fail
      go_ret
      exact ⟨_, R.ch_up HRES.out HQ.out, .inr ⟨ex, P1, T1, rfl, HSP.out, rfl, ⟨_, HR2.out⟩, HK2.out⟩⟩

/-- choice, on any tokens. -/
theorem choice_any {w : World} {b : Nat} {NM : List Txt} {BS : List Int} : ∀ n, CH w b NM BS n := by
  intro n
  induction n with
  | zero => intro W m T NS h; omega
  | succ n ih => intro W m T NS hT hN h; exact choice_rd ih (by omega) hN h

end Go.Proofs.YtodgjjkpbcadoaaGreatDoor

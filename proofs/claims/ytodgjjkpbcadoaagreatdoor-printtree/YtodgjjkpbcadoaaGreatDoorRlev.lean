/-
  The reader of package parse: level and choice.
-/
import Derived.Test.YtodgjjkpbcadoaaGreatDoorRword
import Derived.ScopeJumps
import Derived.WalkMore
namespace Go.Proofs.YtodgjjkpbcadoaaGreatDoor
open Go.RowKit Go.IntWalk Lx Pz
set_option linter.unusedVariables false

def LV (w : World) (b : Nat) (NM : List Txt) (BS : List Int) (n k : Nat) : Prop := ∀ (W : World) (m : Mm) (T : List Tok) (NS : List Nd), T.length ≤ n → NS.length + T.length ≤ 2000 → Rd w W b m T NM BS NS →
  Calls Tryz.prog 75 #[ptr b, .int .i64 (k : Nat)] W fun e W' => ∃ res, R NM (.at (k + 1)) (T.map ab) res ∧ Ok w W b T NM BS NS res e W'

/-- How many tokens are left, by the reader's own slice. -/
def lenAt (b : Nat) (W : World) : Nat := match W.cell? ⟨b, 0, none⟩ with | some (.slice _ n _) => n | _ => 0
theorem Rd.lenAt {w W : World} {b : Nat} {m : Mm} {T : List Tok} {NM : List Txt} {BS : List Int} {NS : List Nd} (h : Rd w W b m T NM BS NS) : lenAt b W = T.length := by
  unfold Go.Proofs.YtodgjjkpbcadoaaGreatDoor.lenAt
  rw [h.blk.cell 0 rfl]
  exact h.toks.t.len.symm

/-- What holds where operators of a level are gone over. -/
structure LF (w W : World) (b k : Nat) (T : List Tok) (NM : List Txt) (BS : List Int) (NS : List Nd) (ex : E) (T' : List Tok) (V : World) : Prop where
  pre : ∃ P, T = P ++ T'
  go : ∀ res, R NM (.lp k ex) (T'.map ab) res → R NM (.at (k + 1)) (T.map ab) res
  rd : ∃ m', Rd w V b m' T' NM BS (NS ++ ex.flat NS.length)
  kp : Kp SX W V
  sz : ex.size + T'.length ≤ T.length

theorem no_op {k : Nat} {T : List Tok} (hw : ∀ t ∈ T, Wf t) (h : opL k (hd T).text = 0) : ∀ o, (T.map ab).head? ≠ some (.op k o) := by
  intro o
  cases T with
  | nil => simp
  | cons t T =>
    rcases opL_tok k (hw t (by simp)) with ⟨-, h2⟩ | ⟨h1, -⟩
    · simpa using h2 o
    · exact absurd h h1
theorem an_op {k : Nat} {T : List Tok} (hw : ∀ t ∈ T, Wf t) (h : ¬ opL k (hd T).text = 0) : ∃ t T1, T = t :: T1 ∧ ab t = .op k (opL k (hd T).text) := by
  cases T with
  | nil => exact absurd (opL_none (by decide)) h
  | cons t T =>
    rcases opL_tok k (hw t (by simp)) with ⟨h1, -⟩ | ⟨-, h2⟩
    · exact absurd h1 h
    · exact ⟨t, T, rfl, h2⟩

set_option maxRecDepth 100000 in
set_option maxHeartbeats 4000000 in
theorem level_rd {w : World} {b n k : Nat} {NM : List Txt} {BS : List Int} (hk7 : k < 7) (hup : LV w b NM BS n (k + 1)) : LV w b NM BS n k := by
  intro W m T NS hT hN h
  have HU := hide hup
  have HW := hide h
  have F1 := fldT1
  have hk0 : ((k : Int) == 7) = false := by simp; omega
  clear h hup
  go_enter Tryz.func75, Tryz.ntmps75
  go_wp2_with fail

  refine wp_scope_jumps 0 (fun a' V => ∃ (ex : E) (T' : List Tok) (u6 u7 u8 u9 u10 u11 u12 u13 u14 u15 u16 u17 u18 u19 u20 u21 u22 u23 u24 u25 u26 u27 u28 u29 u30 u31 u32 u33 u34 u35 u36 u37 u38 : Value), a' = { tmps := #[ptr b, .int .i64 (k : Nat), undef, undef, .int .i64 0, .int .i64 (((NS.length + ex.size : Nat) : Int) - 1), u6, u7, u8, u9, u10, u11, u12, u13, u14, u15, u16, u17, u18, u19, u20, u21, u22, u23, u24, u25, u26, u27, u28, u29, u30, u31, u32, u33, u34, u35, u36, u37, u38], defers := [] } ∧ Hid (LF w W b k T NM BS NS ex T' V)) (fun _ V => lenAt b V) rfl ?_ ?_
  · go_wp2_with fail
    refine (HU.out W m T NS hT hN HW.out).mono ?_
    rintro e V0 ⟨res, hres, (⟨rfl, rfl, hb⟩ | ⟨ex, P0, T', rfl, hsp, rfl, hR, hk⟩)⟩
    · have HB := hide hb
      have HN := hide hres
      clear hb hres
      go_wp2_with fail
      try simp only [Exit.jump]
      exact ⟨rfl, none, R.lv_none hk7 HN.out, .inl ⟨rfl, rfl, HB.out⟩⟩
    · have HF := hide (show LF w W b k T NM BS NS ex T' V0 from ⟨⟨P0, hsp⟩, fun res h => R.lv_go hk7 hres h, hR, hk, by have := r_len hres; simpa using this⟩)
      clear hres hsp hR hk HW
      go_wp2_with fail
      go_step3
      obtain ⟨mL, hmL⟩ := HF.out.rd
      have HM := hide hmL
      have hw := hide hmL.wf
      have hsz := HF.out.sz
      clear hmL
      have HO := hide fun Z => operator_any k (sB (hd T').text) Z
      rw [bs_sB] at HO
      by_cases hop : opL k (hd T').text = 0
      · have HS := hide (no_op hw.out hop)
        rw [hop] at HO
        clear hop
        go_wp2_with fail
        refine (peek_any HM.out).mono ?_
        rintro e V1 ⟨rfl, hb⟩
        have HR1 := hide (HM.out.later hb)
        have HK1 := hide (HF.out.kp.trans (Kp.of_below SX hb))
        generalize sB (hd T').text = u at HO ⊢
        generalize ((hd T').pos : Int) = p
        generalize (hd T').kind = kk
        clear hb
        go_wp2_with fail
        refine (HO.out _).mono ?_
        rintro e V2 ⟨rfl, hb⟩
        have HR2 := hide (HR1.out.later hb)
        have HK2 := hide (HK1.out.trans (Kp.of_below SX hb))
        clear hb
        go_wp2_with fail
        try simp only [Exit.jump]
        go_ret
        obtain ⟨P, hP⟩ := HF.out.pre
        exact ⟨_, HF.out.go _ (R.lp_stop HS.out), .inr ⟨ex, P, T', rfl, hP, rfl, ⟨_, HR2.out⟩, HK2.out⟩⟩
      · obtain ⟨t, T1, rfl, hab⟩ := an_op hw.out hop
        obtain ⟨o, ho⟩ : ∃ o, opL k (hd (t :: T1)).text = o := ⟨_, rfl⟩
        rw [ho] at HO hop hab
        have hoz : (o == 0) = false := by simpa using hop
        have HAB := hide (show (t :: T1).map ab = .op k o :: T1.map ab by rw [List.map_cons, hab])
        rw [List.length_cons] at hsz
        clear ho hop hab hw
        go_wp2_with fail
        refine (peek_any HM.out).mono ?_
        rintro e V1 ⟨rfl, hb⟩
        have HR1 := hide (HM.out.later hb)
        have HK1 := hide (HF.out.kp.trans (Kp.of_below SX hb))
        generalize sB (hd (t :: T1)).text = u at HO ⊢
        generalize ((hd (t :: T1)).pos : Int) = p
        generalize (hd (t :: T1)).kind = kk
        clear hb
        go_wp2_with fail
        refine (HO.out _).mono ?_
        rintro e V2 ⟨rfl, hb⟩
        have HR2 := hide (HR1.out.later hb)
        have HK2 := hide (HK1.out.trans (Kp.of_below SX hb))
        clear hb
        go_wp2_with fail
        refine (next_cons HR2.out).mono ?_
        rintro e V3 ⟨rfl, ⟨m3, hR⟩, hk⟩
        have HR3 := hide hR
        have HK3 := hide (HK2.out.trans hk)
        clear hR hk
        go_wp2_with fail
        refine (HU.out V3 m3 T1 (NS ++ ex.flat NS.length) (by omega) (by rw [List.length_append, E.flat_len]; omega) HR3.out).mono ?_
        rintro e V4 ⟨res, hres, (⟨rfl, rfl, hb⟩ | ⟨e2, P4, T4, rfl, hsp, rfl, ⟨m4, hR⟩, hk⟩)⟩
        · have HB := hide hb
          have HN := hide hres
          clear hb hres
          go_wp2_with fail
          try simp only [Exit.jump]
          exact ⟨rfl, none, HF.out.go _ (by rw [HAB.out]; exact R.lp_none HN.out), .inl ⟨rfl, rfl, HB.out⟩⟩
        · have HRES := hide hres
          have HSP := hide hsp
          have hl2 : e2.size + T4.length ≤ T1.length := by have := r_len hres; simpa using this
          rw [show (NS ++ ex.flat NS.length).length = NS.length + ex.size by rw [List.length_append, E.flat_len]] at hR ⊢
          have HR4 := hide hR
          have HK4 := hide (HK3.out.trans hk)
          clear hres hsp hR hk
          go_wp2_with fail
          refine (node_any HR4.out ⟨o, ((NS.length + ex.size : Nat) : Int) - 1, ((NS.length + ex.size + e2.size : Nat) : Int) - 1, 0, 0, 0, 0, 0, 0⟩ (by simp [E.flat_len]; omega)).mono ?_
          rintro e V5 ⟨rfl, hR, hk⟩
          rw [show NS ++ ex.flat NS.length ++ e2.flat (NS.length + ex.size) ++ [⟨o, ((NS.length + ex.size : Nat) : Int) - 1, ((NS.length + ex.size + e2.size : Nat) : Int) - 1, 0, 0, 0, 0, 0, 0⟩] = NS ++ (E.bin o ex e2).flat NS.length by simp [E.flat]] at hR
          have HR5 := hide hR
          have HK5 := hide (HK4.out.trans hk)
          rw [show (((NS ++ ex.flat NS.length ++ e2.flat (NS.length + ex.size)).length : Nat) : Int) = ((NS.length + (E.bin o ex e2).size : Nat) : Int) - 1 by simp [E.flat_len, E.size]; omega]
          clear hR hk
          obtain ⟨P, hP⟩ := HF.out.pre
          have HPP := hide (show T = (P ++ t :: P4) ++ T4 by rw [hP, HSP.out]; simp)
          clear hP
          by_cases h3 : k = 3
          · subst h3
            go_wp2_with fail
            try simp only [Exit.jump]
            go_ret
            exact ⟨_, HF.out.go _ (by rw [HAB.out]; exact R.lp_cmp HRES.out), .inr ⟨E.bin o ex e2, P ++ t :: P4, T4, rfl, HPP.out, rfl, HR5.out, HK5.out⟩⟩
          · have h3' : ((k : Int) != 3) = true := by simp; omega
            have H3 := hide h3
            clear h3
            go_wp2_with fail
            go_step3
            have HF2 := hide (show LF w W b k T NM BS NS (E.bin o ex e2) T4 V5 from ⟨⟨_, HPP.out⟩, fun res h => HF.out.go _ (by rw [HAB.out]; exact R.lp_go H3.out HRES.out h), HR5.out, HK5.out, by simp [E.size]; omega⟩)
            exact ⟨rfl, E.bin o ex e2, T4, _, _, _, _, _, _, _, _, _, _, _, _, _, _, _, _, _, _, _, _, _, _, _, _, _, _, _, _, _, _, _, _, _, rfl, HF2⟩
  · rintro a' V ⟨ex, T', u6, u7, u8, u9, u10, u11, u12, u13, u14, u15, u16, u17, u18, u19, u20, u21, u22, u23, u24, u25, u26, u27, u28, u29, u30, u31, u32, u33, u34, u35, u36, u37, u38, rfl, HF⟩
    clear HW
    obtain ⟨mL, hmL⟩ := HF.out.rd
    have HM := hide hmL
    have hw := hide hmL.wf
    have hsz := HF.out.sz
    clear hmL
    have HO := hide fun Z => operator_any k (sB (hd T').text) Z
    rw [bs_sB] at HO
    by_cases hop : opL k (hd T').text = 0
    · have HS := hide (no_op hw.out hop)
      rw [hop] at HO
      clear hop
      go_wp2_with fail
      refine (peek_any HM.out).mono ?_
      rintro e V1 ⟨rfl, hb⟩
      have HR1 := hide (HM.out.later hb)
      have HK1 := hide (HF.out.kp.trans (Kp.of_below SX hb))
      generalize sB (hd T').text = u at HO ⊢
      generalize ((hd T').pos : Int) = p
      generalize (hd T').kind = kk
      clear hb
      go_wp2_with fail
      refine (HO.out _).mono ?_
      rintro e V2 ⟨rfl, hb⟩
      have HR2 := hide (HR1.out.later hb)
      have HK2 := hide (HK1.out.trans (Kp.of_below SX hb))
      clear hb
      go_wp2_with fail
      try simp only [Exit.jump]
      go_ret
      obtain ⟨P, hP⟩ := HF.out.pre
      exact ⟨_, HF.out.go _ (R.lp_stop HS.out), .inr ⟨ex, P, T', rfl, hP, rfl, ⟨_, HR2.out⟩, HK2.out⟩⟩
    · obtain ⟨t, T1, rfl, hab⟩ := an_op hw.out hop
      obtain ⟨o, ho⟩ : ∃ o, opL k (hd (t :: T1)).text = o := ⟨_, rfl⟩
      rw [ho] at HO hop hab
      have hoz : (o == 0) = false := by simpa using hop
      have HAB := hide (show (t :: T1).map ab = .op k o :: T1.map ab by rw [List.map_cons, hab])
      rw [List.length_cons] at hsz
      clear ho hop hab hw
      go_wp2_with fail
      refine (peek_any HM.out).mono ?_
      rintro e V1 ⟨rfl, hb⟩
      have HR1 := hide (HM.out.later hb)
      have HK1 := hide (HF.out.kp.trans (Kp.of_below SX hb))
      generalize sB (hd (t :: T1)).text = u at HO ⊢
      generalize ((hd (t :: T1)).pos : Int) = p
      generalize (hd (t :: T1)).kind = kk
      clear hb
      go_wp2_with fail
      refine (HO.out _).mono ?_
      rintro e V2 ⟨rfl, hb⟩
      have HR2 := hide (HR1.out.later hb)
      have HK2 := hide (HK1.out.trans (Kp.of_below SX hb))
      clear hb
      go_wp2_with fail
      refine (next_cons HR2.out).mono ?_
      rintro e V3 ⟨rfl, ⟨m3, hR⟩, hk⟩
      have HR3 := hide hR
      have HK3 := hide (HK2.out.trans hk)
      clear hR hk
      go_wp2_with fail
      refine (HU.out V3 m3 T1 (NS ++ ex.flat NS.length) (by omega) (by rw [List.length_append, E.flat_len]; omega) HR3.out).mono ?_
      rintro e V4 ⟨res, hres, (⟨rfl, rfl, hb⟩ | ⟨e2, P4, T4, rfl, hsp, rfl, ⟨m4, hR⟩, hk⟩)⟩
      · have HB := hide hb
        have HN := hide hres
        clear hb hres
        go_wp2_with fail
        try simp only [Exit.jump]
        exact ⟨rfl, none, HF.out.go _ (by rw [HAB.out]; exact R.lp_none HN.out), .inl ⟨rfl, rfl, HB.out⟩⟩
      · have HRES := hide hres
        have HSP := hide hsp
        have hl2 : e2.size + T4.length ≤ T1.length := by have := r_len hres; simpa using this
        rw [show (NS ++ ex.flat NS.length).length = NS.length + ex.size by rw [List.length_append, E.flat_len]] at hR ⊢
        have HR4 := hide hR
        have HK4 := hide (HK3.out.trans hk)
        clear hres hsp hR hk
        go_wp2_with fail
        refine (node_any HR4.out ⟨o, ((NS.length + ex.size : Nat) : Int) - 1, ((NS.length + ex.size + e2.size : Nat) : Int) - 1, 0, 0, 0, 0, 0, 0⟩ (by simp [E.flat_len]; omega)).mono ?_
        rintro e V5 ⟨rfl, hR, hk⟩
        rw [show NS ++ ex.flat NS.length ++ e2.flat (NS.length + ex.size) ++ [⟨o, ((NS.length + ex.size : Nat) : Int) - 1, ((NS.length + ex.size + e2.size : Nat) : Int) - 1, 0, 0, 0, 0, 0, 0⟩] = NS ++ (E.bin o ex e2).flat NS.length by simp [E.flat]] at hR
        have HR5 := hide hR
        have HK5 := hide (HK4.out.trans hk)
        rw [show (((NS ++ ex.flat NS.length ++ e2.flat (NS.length + ex.size)).length : Nat) : Int) = ((NS.length + (E.bin o ex e2).size : Nat) : Int) - 1 by simp [E.flat_len, E.size]; omega]
        clear hR hk
        obtain ⟨P, hP⟩ := HF.out.pre
        have HPP := hide (show T = (P ++ t :: P4) ++ T4 by rw [hP, HSP.out]; simp)
        clear hP
        by_cases h3 : k = 3
        · subst h3
          go_wp2_with fail
          try simp only [Exit.jump]
          go_ret
          exact ⟨_, HF.out.go _ (by rw [HAB.out]; exact R.lp_cmp HRES.out), .inr ⟨E.bin o ex e2, P ++ t :: P4, T4, rfl, HPP.out, rfl, HR5.out, HK5.out⟩⟩
        · have h3' : ((k : Int) != 3) = true := by simp; omega
          have H3 := hide h3
          clear h3
          go_wp2_with fail
          go_step3
          have HF2 := hide (show LF w W b k T NM BS NS (E.bin o ex e2) T4 V5 from ⟨⟨_, HPP.out⟩, fun res h => HF.out.go _ (by rw [HAB.out]; exact R.lp_go H3.out HRES.out h), HR5.out, HK5.out, by simp [E.size]; omega⟩)
          refine ⟨rfl, ⟨E.bin o ex e2, T4, _, _, _, _, _, _, _, _, _, _, _, _, _, _, _, _, _, _, _, _, _, _, _, _, _, _, _, _, _, _, _, _, _, rfl, HF2⟩, ?_⟩
          obtain ⟨m5, hm5⟩ := HR5.out
          rw [hm5.lenAt, HM.out.lenAt, List.length_cons]
          omega

end Go.Proofs.YtodgjjkpbcadoaaGreatDoor

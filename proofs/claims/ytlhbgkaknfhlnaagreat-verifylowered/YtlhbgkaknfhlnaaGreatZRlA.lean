/-
  The reader of package parse: level and choice.
-/
import Derived.Test.YtlhbgkaknfhlnaaGreatZRword
import Derived.ScopeJumps
import Derived.WalkMore
import Derived.Deep.RegionLaw
import Derived.Deep.CutRange
import Derived.Deep.QuietTactic
import Derived.BigQuiet
import Derived.Deep.LoopGhost
namespace Go.Proofs.YtlhbgkaknfhlnaaGreat
open Go.RowKit Go.IntWalk Lx Pz
set_option linter.unusedVariables false

def LV (w : World) (b : Nat) (NM : List Txt) (BS : List Int) (n k : Nat) : Prop := ∀ (W : World) (m : Mm) (T : List Tok) (NS : List Nd), T.length ≤ n → NS.length + T.length ≤ 2000 → Rd w W b m T NM BS NS →
  Calls Tryz.prog 86 #[ptr b, .int .i64 (k : Nat)] W fun e W' => ∃ res, R NM (.at (k + 1)) (T.map ab) res ∧ Ok w W b T NM BS NS res e W'

/-- How many tokens are left, by the reader's own slice. -/
def lenAt (b : Nat) (W : World) : Nat := match W.cell? ⟨b, 0, none⟩ with | some (.slice _ n _) => n | _ => 0
theorem Rd.lenAt {w W : World} {b : Nat} {m : Mm} {T : List Tok} {NM : List Txt} {BS : List Int} {NS : List Nd} (h : Rd w W b m T NM BS NS) : lenAt b W = T.length := by
  unfold Go.Proofs.YtlhbgkaknfhlnaaGreat.lenAt
  rw [h.blk.cell 0 rfl]
  exact h.toks.t.len.symm

/-- What holds where operators of a level are gone over. -/
structure LF (w W : World) (b k : Nat) (T : List Tok) (NM : List Txt) (BS : List Int) (NS : List Nd) (ex : E) (T' : List Tok) (V : World) : Prop where
  pre : ∃ P, T = P ++ T'
  go : ∀ res, R NM (.lp k ex) (T'.map ab) res → R NM (.at (k + 1)) (T.map ab) res
  rd : ∃ m', Rd w V b m' T' NM BS (NS ++ ex.flat NS.length)
  kp : Kp SX W V
  sz : ex.size + T'.length ≤ T.length

theorem no_op {k : Nat} {T : List Tok} (hw : ∀ t ∈ T, Wf t) (h : opL k (hd T).text = 0) : ∀ o, (T.map ab).head? ≠ some (.op k o) := by
  intro o
  cases T with
  | nil => simp
  | cons t T =>
    rcases opL_tok k (hw t (by simp)) with ⟨-, h2⟩ | ⟨h1, -⟩
    · simpa using h2 o
    · exact absurd h h1
theorem an_op {k : Nat} {T : List Tok} (hw : ∀ t ∈ T, Wf t) (h : ¬ opL k (hd T).text = 0) : ∃ t T1, T = t :: T1 ∧ ab t = .op k (opL k (hd T).text) := by
  cases T with
  | nil => exact absurd (opL_none (by decide)) h
  | cons t T =>
    rcases opL_tok k (hw t (by simp)) with ⟨h1, -⟩ | ⟨-, h2⟩
    · exact absurd h1 h
    · exact ⟨t, T, rfl, h2⟩

set_option maxRecDepth 100000 in
set_option maxHeartbeats 4000000 in
theorem level_rd {w : World} {b n k : Nat} {NM : List Txt} {BS : List Int} (hk7 : k < 7) (hup : LV w b NM BS n (k + 1)) : LV w b NM BS n k := by
  intro W m T NS hT hN h
  have HU := hide hup
  have HW := hide h
  have F1 := fldT1
  have hk0 : ((k : Int) == 7) = false := by simp; omega
  clear h hup
  go_enter Tryz.func86, Tryz.ntmps86
  go_wp2_with fail

  refine wp_scope_jumps 0 (fun a' V => ∃ (ex : E) (T' : List Tok) (u6 u7 u8 u9 u10 u11 u12 u13 u14 u15 u16 u17 u18 u19 u20 u21 u22 u23 u24 u25 u26 u27 u28 u29 u30 u31 u32 u33 u34 u35 u36 u37 u38 : Value), a' = { tmps := #[ptr b, .int .i64 (k : Nat), undef, undef, .int .i64 0, .int .i64 (((NS.length + ex.size : Nat) : Int) - 1), u6, u7, u8, u9, u10, u11, u12, u13, u14, u15, u16, u17, u18, u19, u20, u21, u22, u23, u24, u25, u26, u27, u28, u29, u30, u31, u32, u33, u34, u35, u36, u37, u38], defers := [] } ∧ Hid (LF w W b k T NM BS NS ex T' V)) (fun _ V => lenAt b V) rfl ?_ ?_
  · go_wp2_with fail
    refine (HU.out W m T NS hT hN HW.out).mono ?_
    rintro e V0 ⟨res, hres, (⟨rfl, rfl, hb⟩ | ⟨ex, P0, T', rfl, hsp, rfl, hR, hk⟩)⟩
    · have HB := hide hb
      have HN := hide hres
      clear hb hres
      go_wp2_with fail
      try simp only [Exit.jump]
      exact ⟨rfl, none, R.lv_none hk7 HN.out, .inl ⟨rfl, rfl, HB.out⟩⟩
    · have HF := hide (show LF w W b k T NM BS NS ex T' V0 from ⟨⟨P0, hsp⟩, fun res h => R.lv_go hk7 hres h, hR, hk, by have := r_len hres; simpa using this⟩)
      clear hres hsp hR hk HW
      go_wp2_with fail
      go_step3
      obtain ⟨mL, hmL⟩ := HF.out.rd
      have HM := hide hmL
      have hw := hide hmL.wf
      have hsz := HF.out.sz
      clear hmL
      have HO := hide fun Z => operator_any k (sB (hd T').text) Z
      rw [bs_sB] at HO
      by_cases hop : opL k (hd T').text = 0
      · have HS := hide (no_op hw.out hop)
        rw [hop] at HO
        clear hop
        go_wp2_with fail
        refine (peek_any HM.out).mono ?_
        rintro e V1 ⟨rfl, hb⟩
        have HR1 := hide (HM.out.later hb)
        have HK1 := hide (HF.out.kp.trans (Kp.of_below SX hb))
        generalize sB (hd T').text = u at HO ⊢
        generalize ((hd T').pos : Int) = p
        generalize (hd T').kind = kk
        clear hb
        go_wp2_with fail
        refine (HO.out _).mono ?_
        rintro e V2 ⟨rfl, hb⟩
        have HR2 := hide (HR1.out.later hb)
        have HK2 := hide (HK1.out.trans (Kp.of_below SX hb))
        clear hb
        go_wp2_with fail
        try simp only [Exit.jump]
        go_ret
        obtain ⟨P, hP⟩ := HF.out.pre
        exact ⟨_, HF.out.go _ (R.lp_stop HS.out), .inr ⟨ex, P, T', rfl, hP, rfl, ⟨_, HR2.out⟩, HK2.out⟩⟩
      · obtain ⟨t, T1, rfl, hab⟩ := an_op hw.out hop
        obtain ⟨o, ho⟩ : ∃ o, opL k (hd (t :: T1)).text = o := ⟨_, rfl⟩
        rw [ho] at HO hop hab
        have hoz : (o == 0) = false := by simpa using hop
        have HAB := hide (show (t :: T1).map ab = .op k o :: T1.map ab by rw [List.map_cons, hab])
        rw [List.length_cons] at hsz
        clear ho hop hab hw
        go_wp2_with fail
        refine (peek_any HM.out).mono ?_
        rintro e V1 ⟨rfl, hb⟩
        have HR1 := hide (HM.out.later hb)
        have HK1 := hide (HF.out.kp.trans (Kp.of_below SX hb))
        generalize sB (hd (t :: T1)).text = u at HO ⊢
        generalize ((hd (t :: T1)).pos : Int) = p
        generalize (hd (t :: T1)).kind = kk
        clear hb
        go_wp2_with fail
        refine (HO.out _).mono ?_
        rintro e V2 ⟨rfl, hb⟩
        have HR2 := hide (HR1.out.later hb)
        have HK2 := hide (HK1.out.trans (Kp.of_below SX hb))
        clear hb
        go_wp2_with fail
        refine (next_cons HR2.out).mono ?_
        rintro e V3 ⟨rfl, ⟨m3, hR⟩, hk⟩
        have HR3 := hide hR
        have HK3 := hide (HK2.out.trans hk)
        clear hR hk
        go_wp2_with fail
        refine (HU.out V3 m3 T1 (NS ++ ex.flat NS.length) (by omega) (by rw [List.length_append, E.flat_len]; omega) HR3.out).mono ?_
        rintro e V4 ⟨res, hres, (⟨rfl, rfl, hb⟩ | ⟨e2, P4, T4, rfl, hsp, rfl, ⟨m4, hR⟩, hk⟩)⟩
        · have HB := hide hb
          have HN := hide hres
          clear hb hres
          go_wp2_with fail
          try simp only [Exit.jump]
          exact ⟨rfl, none, HF.out.go _ (by rw [HAB.out]; exact R.lp_none HN.out), .inl ⟨rfl, rfl, HB.out⟩⟩
        · have HRES := hide hres
          have HSP := hide hsp
          have hl2 : e2.size + T4.length ≤ T1.length := by have := r_len hres; simpa using this
          rw [show (NS ++ ex.flat NS.length).length = NS.length + ex.size by rw [List.length_append, E.flat_len]] at hR ⊢
          have HR4 := hide hR
          have HK4 := hide (HK3.out.trans hk)
          clear hres hsp hR hk
          go_wp2_with fail
          refine (node_any HR4.out ⟨o, ((NS.length + ex.size : Nat) : Int) - 1, ((NS.length + ex.size + e2.size : Nat) : Int) - 1, 0, 0, 0, 0, 0, 0⟩ (by simp [E.flat_len]; omega)).mono ?_
          rintro e V5 ⟨rfl, hR, hk⟩
          rw [show NS ++ ex.flat NS.length ++ e2.flat (NS.length + ex.size) ++ [⟨o, ((NS.length + ex.size : Nat) : Int) - 1, ((NS.length + ex.size + e2.size : Nat) : Int) - 1, 0, 0, 0, 0, 0, 0⟩] = NS ++ (E.bin o ex e2).flat NS.length by simp [E.flat]] at hR
          have HR5 := hide hR
          have HK5 := hide (HK4.out.trans hk)
          rw [show (((NS ++ ex.flat NS.length ++ e2.flat (NS.length + ex.size)).length : Nat) : Int) = ((NS.length + (E.bin o ex e2).size : Nat) : Int) - 1 by simp [E.flat_len, E.size]; omega]
          clear hR hk
          obtain ⟨P, hP⟩ := HF.out.pre
          have HPP := hide (show T = (P ++ t :: P4) ++ T4 by rw [hP, HSP.out]; simp)
          clear hP
          by_cases h3 : k = 3
          · subst h3
            go_wp2_with fail
            try simp only [Exit.jump]
            go_ret
            exact ⟨_, HF.out.go _ (by rw [HAB.out]; exact R.lp_cmp HRES.out), .inr ⟨E.bin o ex e2, P ++ t :: P4, T4, rfl, HPP.out, rfl, HR5.out, HK5.out⟩⟩
          · have h3' : ((k : Int) != 3) = true := by simp; omega
            have H3 := hide h3
            clear h3
            go_wp2_with fail
            go_step3
            have HF2 := hide (show LF w W b k T NM BS NS (E.bin o ex e2) T4 V5 from ⟨⟨_, HPP.out⟩, fun res h => HF.out.go _ (by rw [HAB.out]; exact R.lp_go H3.out HRES.out h), HR5.out, HK5.out, by simp [E.size]; omega⟩)
            exact ⟨rfl, E.bin o ex e2, T4, _, _, _, _, _, _, _, _, _, _, _, _, _, _, _, _, _, _, _, _, _, _, _, _, _, _, _, _, _, _, _, _, _, rfl, HF2⟩
  · rintro a' V ⟨ex, T', u6, u7, u8, u9, u10, u11, u12, u13, u14, u15, u16, u17, u18, u19, u20, u21, u22, u23, u24, u25, u26, u27, u28, u29, u30, u31, u32, u33, u34, u35, u36, u37, u38, rfl, HF⟩
    clear HW
    obtain ⟨mL, hmL⟩ := HF.out.rd
    have HM := hide hmL
    have hw := hide hmL.wf
    have hsz := HF.out.sz
    clear hmL
    have HO := hide fun Z => operator_any k (sB (hd T').text) Z
    rw [bs_sB] at HO
    by_cases hop : opL k (hd T').text = 0
    · have HS := hide (no_op hw.out hop)
      rw [hop] at HO
      clear hop
      go_wp2_with fail
      refine (peek_any HM.out).mono ?_
      rintro e V1 ⟨rfl, hb⟩
      have HR1 := hide (HM.out.later hb)
      have HK1 := hide (HF.out.kp.trans (Kp.of_below SX hb))
      generalize sB (hd T').text = u at HO ⊢
      generalize ((hd T').pos : Int) = p
      generalize (hd T').kind = kk
      clear hb
      go_wp2_with fail
      refine (HO.out _).mono ?_
      rintro e V2 ⟨rfl, hb⟩
      have HR2 := hide (HR1.out.later hb)
      have HK2 := hide (HK1.out.trans (Kp.of_below SX hb))
      clear hb
      go_wp2_with fail
      try simp only [Exit.jump]
      go_ret
      obtain ⟨P, hP⟩ := HF.out.pre
      exact ⟨_, HF.out.go _ (R.lp_stop HS.out), .inr ⟨ex, P, T', rfl, hP, rfl, ⟨_, HR2.out⟩, HK2.out⟩⟩
    · obtain ⟨t, T1, rfl, hab⟩ := an_op hw.out hop
      obtain ⟨o, ho⟩ : ∃ o, opL k (hd (t :: T1)).text = o := ⟨_, rfl⟩
      rw [ho] at HO hop hab
      have hoz : (o == 0) = false := by simpa using hop
      have HAB := hide (show (t :: T1).map ab = .op k o :: T1.map ab by rw [List.map_cons, hab])
      rw [List.length_cons] at hsz
      clear ho hop hab hw
      go_wp2_with fail
      refine (peek_any HM.out).mono ?_
      rintro e V1 ⟨rfl, hb⟩
      have HR1 := hide (HM.out.later hb)
      have HK1 := hide (HF.out.kp.trans (Kp.of_below SX hb))
      generalize sB (hd (t :: T1)).text = u at HO ⊢
      generalize ((hd (t :: T1)).pos : Int) = p
      generalize (hd (t :: T1)).kind = kk
      clear hb
      go_wp2_with fail
      refine (HO.out _).mono ?_
      rintro e V2 ⟨rfl, hb⟩
      have HR2 := hide (HR1.out.later hb)
      have HK2 := hide (HK1.out.trans (Kp.of_below SX hb))
      clear hb
      go_wp2_with fail
      refine (next_cons HR2.out).mono ?_
      rintro e V3 ⟨rfl, ⟨m3, hR⟩, hk⟩
      have HR3 := hide hR
      have HK3 := hide (HK2.out.trans hk)
      clear hR hk
      go_wp2_with fail
      refine (HU.out V3 m3 T1 (NS ++ ex.flat NS.length) (by omega) (by rw [List.length_append, E.flat_len]; omega) HR3.out).mono ?_
      rintro e V4 ⟨res, hres, (⟨rfl, rfl, hb⟩ | ⟨e2, P4, T4, rfl, hsp, rfl, ⟨m4, hR⟩, hk⟩)⟩
      · have HB := hide hb
        have HN := hide hres
        clear hb hres
        go_wp2_with fail
        try simp only [Exit.jump]
        exact ⟨rfl, none, HF.out.go _ (by rw [HAB.out]; exact R.lp_none HN.out), .inl ⟨rfl, rfl, HB.out⟩⟩
      · have HRES := hide hres
        have HSP := hide hsp
        have hl2 : e2.size + T4.length ≤ T1.length := by have := r_len hres; simpa using this
        rw [show (NS ++ ex.flat NS.length).length = NS.length + ex.size by rw [List.length_append, E.flat_len]] at hR ⊢
        have HR4 := hide hR
        have HK4 := hide (HK3.out.trans hk)
        clear hres hsp hR hk
        go_wp2_with fail
        refine (node_any HR4.out ⟨o, ((NS.length + ex.size : Nat) : Int) - 1, ((NS.length + ex.size + e2.size : Nat) : Int) - 1, 0, 0, 0, 0, 0, 0⟩ (by simp [E.flat_len]; omega)).mono ?_
        rintro e V5 ⟨rfl, hR, hk⟩
        rw [show NS ++ ex.flat NS.length ++ e2.flat (NS.length + ex.size) ++ [⟨o, ((NS.length + ex.size : Nat) : Int) - 1, ((NS.length + ex.size + e2.size : Nat) : Int) - 1, 0, 0, 0, 0, 0, 0⟩] = NS ++ (E.bin o ex e2).flat NS.length by simp [E.flat]] at hR
        have HR5 := hide hR
        have HK5 := hide (HK4.out.trans hk)
        rw [show (((NS ++ ex.flat NS.length ++ e2.flat (NS.length + ex.size)).length : Nat) : Int) = ((NS.length + (E.bin o ex e2).size : Nat) : Int) - 1 by simp [E.flat_len, E.size]; omega]
        clear hR hk
        obtain ⟨P, hP⟩ := HF.out.pre
        have HPP := hide (show T = (P ++ t :: P4) ++ T4 by rw [hP, HSP.out]; simp)
        clear hP
        by_cases h3 : k = 3
        · subst h3
          go_wp2_with fail
          try simp only [Exit.jump]
          go_ret
          exact ⟨_, HF.out.go _ (by rw [HAB.out]; exact R.lp_cmp HRES.out), .inr ⟨E.bin o ex e2, P ++ t :: P4, T4, rfl, HPP.out, rfl, HR5.out, HK5.out⟩⟩
        · have h3' : ((k : Int) != 3) = true := by simp; omega
          have H3 := hide h3
          clear h3
          go_wp2_with fail
          go_step3
          have HF2 := hide (show LF w W b k T NM BS NS (E.bin o ex e2) T4 V5 from ⟨⟨_, HPP.out⟩, fun res h => HF.out.go _ (by rw [HAB.out]; exact R.lp_go H3.out HRES.out h), HR5.out, HK5.out, by simp [E.size]; omega⟩)
          refine ⟨rfl, ⟨E.bin o ex e2, T4, _, _, _, _, _, _, _, _, _, _, _, _, _, _, _, _, _, _, _, _, _, _, _, _, _, _, _, _, _, _, _, _, _, rfl, HF2⟩, ?_⟩
          obtain ⟨m5, hm5⟩ := HR5.out
          rw [hm5.lenAt, HM.out.lenAt, List.length_cons]
          omega

end Go.Proofs.YtlhbgkaknfhlnaaGreat

/-
  The reader of package parse: what choice comes to, on any tokens.
-/
namespace Go.Proofs.YtlhbgkaknfhlnaaGreat
open Go.RowKit Go.IntWalk Lx Pz
set_option linter.unusedVariables false

set_option maxRecDepth 100000 in
set_option maxHeartbeats 4000000 in
theorem level7 {w : World} {b n : Nat} {NM : List Txt} {BS : List Int} (hch : CH w b NM BS n) : LV w b NM BS n 7 := by
  intro W m T NS hT hN h
  have HC := hide (minus_rd hch T W m NS hT hN h)
  clear h hch
  go_enter Tryz.func86, Tryz.ntmps86
  go_wp2_with fail
  go_step3
  go_wp2_with fail
  refine HC.out.mono ?_
  rintro e V2 ⟨res, hres, hok⟩
  have HOK := hide hok
  have HD := hide hres
  clear hres
  rcases hok with ⟨-, rfl, -⟩ | ⟨ex, -, -, -, -, rfl, -⟩
  · go_wp2_with fail
    try rw [Exit.noGoto_panic]
    exact ⟨rfl, _, HD.out, HOK.out⟩
  · go_wp2_with fail
    try rw [Exit.noGoto_ret]
    go_ret
    exact ⟨_, HD.out, HOK.out⟩

theorem level_all {w : World} {b n : Nat} {NM : List Txt} {BS : List Int} (hch : CH w b NM BS n) : ∀ j k, k + j = 7 → LV w b NM BS n k := by
  intro j
  induction j with
  | zero => intro k hk; obtain rfl : k = 7 := by omega
            exact level7 hch
  | succ j ih => intro k hk; exact level_rd (by omega) (ih (k + 1) (by omega))

set_option maxRecDepth 100000 in
set_option maxHeartbeats 4000000 in
theorem choice_rd {w W : World} {b n : Nat} {m : Mm} {T : List Tok} {NM : List Txt} {BS : List Int} {NS : List Nd} (hch : CH w b NM BS n) (hT : T.length ≤ n) (hN : NS.length + T.length ≤ 2000) (h : Rd w W b m T NM BS NS) :
    Calls Tryz.prog 50 #[ptr b] W fun e W' => ∃ res, R NM (.at 0) (T.map ab) res ∧ Ok w W b T NM BS NS res e W' := by
  have HC := hide hch
  have HL := hide (level_all hch 7 0 rfl W m T NS hT hN h)
  clear h hch
  go_enter Tryz.func50, Tryz.ntmps50
  go_wp2_with fail
  refine HL.out.mono ?_
  rintro e V1 ⟨res, hres, (⟨rfl, rfl, hb⟩ | ⟨ex, P1, T1, rfl, hsp, rfl, ⟨m1, hR⟩, hk⟩)⟩
  · have HB := hide hb
    have HN := hide hres
    clear hb hres
    go_wp2_with fail
    exact ⟨rfl, none, R.ch_none HN.out, .inl ⟨rfl, rfl, HB.out⟩⟩
  · have HRES := hide hres
    have HSP := hide hsp
    have hl1 : ex.size + T1.length ≤ T.length := by have := r_len hres; simpa using this
    have hp1 := ex.size_pos
    have HR1 := hide hR
    have HK1 := hide hk
    have hw1 := hide hR.wf
    clear hres hsp hR hk HL
    by_cases hq : (T1.map ab).head? = some .ques
    · obtain ⟨t2, T2, rfl, h2⟩ := hd_cons hq
      have hs2 := hide ((text_iff (hw1.out t2 (by simp)) (s := [63]) (by decide)).2 h2)
      have H2 := hide (show (t2 :: T2).map ab = .ques :: T2.map ab by rw [List.map_cons, h2])
      rw [H2.out] at HRES
      rw [List.length_cons] at hl1
      clear hq h2 hw1
      go_wp2_with fail
      refine (pass_yes HR1.out _ hs2.out).mono ?_
      rintro e V2 ⟨rfl, ⟨m2, hR⟩, hk⟩
      have HR2 := hide hR
      have HK2 := hide (HK1.out.trans hk)
      clear hR hk
      go_wp2_with fail
      refine (HC.out _ _ T2 (NS ++ ex.flat NS.length) (by omega) (by rw [List.length_append, E.flat_len]; omega) HR2.out).mono ?_
      rintro e V3 ⟨res, hres, (⟨rfl, rfl, hb⟩ | ⟨e2, P3, T3, rfl, hsp, rfl, ⟨m3, hR⟩, hk⟩)⟩
      · have HB := hide hb
        have HN := hide hres
        clear hb hres
        go_wp2_with fail
        exact ⟨rfl, none, R.ch_no HRES.out HN.out rfl, .inl ⟨rfl, rfl, HB.out⟩⟩
      · have HRES2 := hide hres
        have HSP2 := hide hsp
        have hl2 : e2.size + T3.length ≤ T2.length := by have := r_len hres; simpa using this
        rw [show (NS ++ ex.flat NS.length).length = NS.length + ex.size by rw [List.length_append, E.flat_len]] at hR ⊢
        have HR3 := hide hR
        have HK3 := hide (HK2.out.trans hk)
        have hw3 := hide hR.wf
        clear hres hsp hR hk
        by_cases hc : (T3.map ab).head? = some .colon
        · obtain ⟨t4, T4, rfl, h4⟩ := hd_cons hc
          have hs4 := hide ((text_iff (hw3.out t4 (by simp)) (s := [58]) (by decide)).2 h4)
          have H4 := hide (show (t4 :: T4).map ab = .colon :: T4.map ab by rw [List.map_cons, h4])
          rw [H4.out] at HRES2
          rw [List.length_cons] at hl2
          clear hc h4 hw3
          go_wp2_with fail
          refine (need_yes HR3.out _ hs4.out).mono ?_
          rintro e V4 ⟨rfl, ⟨m4, hR⟩, hk⟩
          have HR4 := hide hR
          have HK4 := hide (HK3.out.trans hk)
          clear hR hk
          go_wp2_with fail
          refine (HC.out _ _ T4 (NS ++ ex.flat NS.length ++ e2.flat (NS.length + ex.size)) (by omega) (by simp [E.flat_len]; omega) HR4.out).mono ?_
          rintro e V5 ⟨res, hres, (⟨rfl, rfl, hb⟩ | ⟨e3, P5, T5, rfl, hsp, rfl, ⟨m5, hR⟩, hk⟩)⟩
          · have HB := hide hb
            have HN := hide hres
            clear hb hres
            go_wp2_with fail
            exact ⟨rfl, none, R.ch_sel HRES.out HRES2.out (eat_mk _ _ _) HN.out, .inl ⟨rfl, rfl, HB.out⟩⟩
          · have HRES3 := hide hres
            have HSP3 := hide hsp
            have hl3 : e3.size + T5.length ≤ T4.length := by have := r_len hres; simpa using this
            rw [show (NS ++ ex.flat NS.length ++ e2.flat (NS.length + ex.size)).length = NS.length + ex.size + e2.size by simp [E.flat_len, Nat.add_assoc]] at hR ⊢
            have HR5 := hide hR
            have HK5 := hide (HK4.out.trans hk)
            clear hres hsp hR hk
            go_wp2_with fail
            refine (node_any HR5.out ⟨28, ((NS.length + ex.size : Nat) : Int) - 1, ((NS.length + ex.size + e2.size : Nat) : Int) - 1, ((NS.length + ex.size + e2.size + e3.size : Nat) : Int) - 1, 0, 0, 0, 0, 0⟩ (by simp [E.flat_len]; omega)).mono ?_
            rintro e V6 ⟨rfl, hR, hk⟩
            rw [show NS ++ ex.flat NS.length ++ e2.flat (NS.length + ex.size) ++ e3.flat (NS.length + ex.size + e2.size) ++ [⟨28, ((NS.length + ex.size : Nat) : Int) - 1, ((NS.length + ex.size + e2.size : Nat) : Int) - 1, ((NS.length + ex.size + e2.size + e3.size : Nat) : Int) - 1, 0, 0, 0, 0, 0⟩] = NS ++ (E.tri 28 ex e2 e3).flat NS.length by simp [E.flat]] at hR
            have HR6 := hide hR
            have HK6 := hide (HK5.out.trans hk)
            rw [show (((NS ++ ex.flat NS.length ++ e2.flat (NS.length + ex.size) ++ e3.flat (NS.length + ex.size + e2.size)).length : Nat) : Int) = ((NS.length + (E.tri 28 ex e2 e3).size : Nat) : Int) - 1 by simp [E.flat_len, E.size]; omega]
            clear hR hk
            go_wp2_with fail
            go_ret
            exact ⟨_, R.ch_sel HRES.out HRES2.out (eat_mk _ _ _) HRES3.out, .inr ⟨E.tri 28 ex e2 e3, P1 ++ t2 :: (P3 ++ t4 :: P5), T5, rfl, by rw [HSP.out, HSP2.out, HSP3.out]; simp, rfl, HR6.out, HK6.out⟩⟩
        · have hs4 := hide (hd_ne (s := [58]) hw3.out (by decide) hc)
          have HCO := hide hc
          clear hc hw3
          go_wp2_with fail
          refine (need_no HR3.out _ hs4.out).mono ?_
          rintro e V4 ⟨rfl, hb⟩
          have HB := hide (bel HR3.out.old hb)
          clear hb
          go_wp2_with fail
          exact ⟨rfl, none, R.ch_no HRES.out HRES2.out (eat_no HCO.out), .inl ⟨rfl, rfl, HB.out⟩⟩
    · have hs2 := hide (hd_ne (s := [63]) hw1.out (by decide) hq)
      have HQ := hide hq
      clear hq hw1
      go_wp2_with fail
      refine (pass_no HR1.out _ hs2.out).mono ?_
      rintro e V2 ⟨rfl, hb⟩
      have HR2 := hide (HR1.out.later hb)
      have HK2 := hide (HK1.out.trans (Kp.of_below SX hb))
      clear hb
      go_wp2_with fail
      go_ret
      exact ⟨_, R.ch_up HRES.out HQ.out, .inr ⟨ex, P1, T1, rfl, HSP.out, rfl, ⟨_, HR2.out⟩, HK2.out⟩⟩

/-- choice, on any tokens. -/
theorem choice_any {w : World} {b : Nat} {NM : List Txt} {BS : List Int} : ∀ n, CH w b NM BS n := by
  intro n
  induction n with
  | zero => intro W m T NS h; omega
  | succ n ih => intro W m T NS hT hN h; exact choice_rd ih (by omega) hN h

end Go.Proofs.YtlhbgkaknfhlnaaGreat

/-
  The reader of package parse: bind.
-/
namespace Go.Proofs.YtlhbgkaknfhlnaaGreat
open Go.RowKit Go.IntWalk Lx Pz
set_option linter.unusedVariables false

abbrev SY : List TypeId := [78, 69, 9, 3]
theorem infoStr : (Tryz.prog.info? 9).map (fun i => (i.zero, i.size, i.bytes)) = some (some (.string ⟨#[]⟩), 1, 16) := by kernel_rfl
theorem infoInt : (Tryz.prog.info? 3).map (fun i => (i.zero, i.size, i.bytes)) = some (some (.int .i64 0), 1, 8) := by kernel_rfl

theorem news_one {W : World} {b : Nat} {t : TypeId} {v : Value} (h : HasC W b t #[v]) : ∀ j u, [v][j]? = some u → W.cell? ((⟨b, 0, none⟩ : Addr).add j) = some u := by
  intro j u hu
  rw [Addr.add_lit, Nat.zero_add]
  exact h.cell j (by rw [← hu]; simp)

/-- An append of one name, at a step of a region that draws. -/
theorem step_nm {w W : World} {b : Nat} {m : Mm} {T : List Tok} {NM : List Txt} {BS : List Int} {NS : List Nd} {ops : Array Oper} {o : Oper} {a : Act} {K : Act → World → Prop} {Q : Exit → Act → World → Prop} {E : Prop}
    (hgd : o.guard = none) (s x : Operand) (ho : o.op = .call { callee := .builtin .append, args := #[s, x], argTypes := #[42, 42] })
    (hs : a.eval s = m.nv) (hR : Rd w W b m T NM BS NS) (q : Nat) (n : Txt) (hx : a.eval x = .slice (some ⟨q, 0, none⟩) 1 1) (hc : HasC W q 9 #[.string (sB n)]) (h3 : NM.length ≤ 2000000)
    (h : ∀ g cap w', w'.ownsRow w.heap.size 9 1 (.slice (some ⟨g, 0, none⟩) (NM.length + 1) cap) (NM ++ [n]).length (tx64 (NM ++ [n])) → HasC w' b 69 m.cs → Kp [9] W w' → Below w.heap.size w w' → K (a.put o.dst (.slice (some ⟨g, 0, none⟩) (NM.length + 1) cap)) w') :
    if Region.wanted o (yielded ops a.tmps) = true then Oper.wp Tryz.prog o a W K Q else E := by
  obtain ⟨i0, hi0, hz0, hz1, hz2⟩ := info_parts infoStr
  refine step_append_lies W hgd s x 42 ho w.heap.size 9 i0 _ 1 16 Tryz.underlying42 hi0 hz0 hz1 hz2 rfl (by omega) m.nv NM.length (tx64 NM) hs hR.names ⟨q, 0, none⟩ 1 1 [.string (sB n)] hx rfl (news_one hc) (by simp [Value.oneCell']) (by omega) (by unfold maxLen; omega) (by omega) hR.old.size W.heap.size rfl ?_
  intro g cap w' hown hgrow hat hlt
  have hk : Kp [9] W w' := Kp.grown hgrow fun k hk => by
    obtain ⟨_, cs, fr, hb⟩ := owns_block hR.names k hk
    exact ⟨cs, _, fr, hb, by simp⟩
  exact h g cap w' (by rw [List.length_append]; simpa using hown) (hR.blk.kp hk (by decide)) hk (hR.old.grown hgrow hR.old.size fun k hk => (owns_block hR.names k hk).1)
/-- An append of one bind, at a plain region's list. -/
theorem list_bd {w W : World} {b : Nat} {m : Mm} {T : List Tok} {NM : List Txt} {BS : List Int} {NS : List Nd} {ops : Array Oper} {rest : List Oper} {o : Oper} {a : Act} {Q : Exit → Act → World → Prop}
    (hgd : o.guard = none) (s x : Operand) (ho : o.op = .call { callee := .builtin .append, args := #[s, x], argTypes := #[43, 43] })
    (hs : a.eval s = m.bv) (hR : Rd w W b m T NM BS NS) (q : Nat) (n : Int) (hx : a.eval x = .slice (some ⟨q, 0, none⟩) 1 1) (hc : HasC W q 3 #[.int .i64 n]) (h3 : BS.length ≤ 2000000)
    (h : ∀ g cap w', w'.ownsRow w.heap.size 3 1 (.slice (some ⟨g, 0, none⟩) (BS.length + 1) cap) (BS ++ [n]).length (in64 (BS ++ [n])) → HasC w' b 69 m.cs → Kp [3] W w' → Below w.heap.size w w' → wpList Tryz.prog ops Q rest (a.put o.dst (.slice (some ⟨g, 0, none⟩) (BS.length + 1) cap)) w') :
    wpList Tryz.prog ops Q (o :: rest) a W := by
  obtain ⟨i0, hi0, hz0, hz1, hz2⟩ := info_parts infoInt
  refine wpList_append_lies W hgd s x 43 ho w.heap.size 3 i0 _ 1 8 Tryz.underlying43 hi0 hz0 hz1 hz2 rfl (by omega) m.bv BS.length (in64 BS) hs hR.binds ⟨q, 0, none⟩ 1 1 [.int .i64 n] hx rfl (news_one hc) (by simp [Value.oneCell']) (by omega) (by unfold maxLen; omega) (by omega) hR.old.size W.heap.size rfl ?_
  intro g cap w' hown hgrow hat hlt
  have hk : Kp [3] W w' := Kp.grown hgrow fun k hk => by
    obtain ⟨_, cs, fr, hb⟩ := owns_block hR.binds k hk
    exact ⟨cs, _, fr, hb, by simp⟩
  exact h g cap w' (by rw [List.length_append]; simpa using hown) (hR.blk.kp hk (by decide)) hk (hR.old.grown hgrow hR.old.size fun k hk => (owns_block hR.binds k hk).1)

theorem nm_end {w V Z w1 : World} {b : Nat} {m : Mm} {T : List Tok} {NM NM' : List Txt} {BS : List Int} {NS : List Nd} {v : Value} (hR : Rd w V b m T NM BS NS) (hVZ : Below V.heap.size V Z)
    (hown : w1.ownsRow w.heap.size 9 1 v NM'.length (tx64 NM')) (hb1 : HasC w1 b 69 m.cs) (hk1 : Kp [9] Z w1) (hold : Below w.heap.size w w1) :
    (∃ m', Rd w (w1.setCell ⟨b, 1, none⟩ v) b m' T NM' BS NS) ∧ Kp SY V (w1.setCell ⟨b, 1, none⟩ v) := by
  have ks : Kp [69] w1 (w1.setCell ⟨b, 1, none⟩ v) := Kp.set hb1 (by simp) 1 v
  have hk : Kp [9, 69] V (w1.setCell ⟨b, 1, none⟩ v) := ((Kp.of_below [9, 69] hVZ).trans (hk1.mono (by decide))).trans (ks.mono (by decide))
  exact ⟨⟨⟨m.la, m.ln, m.lc, v, m.bv, m.dv, m.root⟩, hb1.set 1 v, hR.base, hR.toks.kp hk (by decide), owns_kp hown ks (by decide), owns_kp hR.binds hk (by decide), owns_kp hR.nodes hk (by decide), hR.wf, hold.setCell hR.base v⟩, hk.mono (by decide)⟩
theorem bd_end {w V Z w1 : World} {b : Nat} {m : Mm} {T : List Tok} {NM : List Txt} {BS BS' : List Int} {NS : List Nd} {v : Value} (hR : Rd w V b m T NM BS NS) (hVZ : Below V.heap.size V Z)
    (hown : w1.ownsRow w.heap.size 3 1 v BS'.length (in64 BS')) (hb1 : HasC w1 b 69 m.cs) (hk1 : Kp [3] Z w1) (hold : Below w.heap.size w w1) :
    (∃ m', Rd w (w1.setCell ⟨b, 2, none⟩ v) b m' T NM BS' NS) ∧ Kp SY V (w1.setCell ⟨b, 2, none⟩ v) := by
  have ks : Kp [69] w1 (w1.setCell ⟨b, 2, none⟩ v) := Kp.set hb1 (by simp) 2 v
  have hk : Kp [3, 69] V (w1.setCell ⟨b, 2, none⟩ v) := ((Kp.of_below [3, 69] hVZ).trans (hk1.mono (by decide))).trans (ks.mono (by decide))
  exact ⟨⟨⟨m.la, m.ln, m.lc, m.nv, v, m.dv, m.root⟩, hb1.set 2 v, hR.base, hR.toks.kp hk (by decide), owns_kp hR.names hk (by decide), owns_kp hown ks (by decide), owns_kp hR.nodes hk (by decide), hR.wf, hold.setCell hR.base v⟩, hk.mono (by decide)⟩

/-- What bind comes to. -/
def BindP (w W : World) (b : Nat) (T : List Tok) (NM : List Txt) (BS : List Int) (NS : List Nd) (e : Ending) (W' : World) : Prop :=
  (e = pan ∧ Below w.heap.size w W' ∧ (hdr NM (T.map ab) = none ∨ ∃ s l2 res, hdr NM (T.map ab) = some (s, l2) ∧ R NM (.at 0) l2 res ∧ eat .semi res = none)) ∨
  (∃ s l2 res ex P T', hdr NM (T.map ab) = some (s, l2) ∧ R NM (.at 0) l2 res ∧ eat .semi res = some (ex, T'.map ab) ∧ T = P ++ T' ∧ ex.size + T'.length + 1 ≤ T.length ∧ e = .returned (.tuple #[]) ∧
    (∃ m', Rd w W' b m' T' (NM ++ [s]) (BS ++ [((NS.length + ex.size : Nat) : Int) - 1]) (NS ++ ex.flat NS.length)) ∧ Kp SY W W')

theorem hdr_no1 {nm : List Txt} {l : List Tk} (h : ∀ s, l.head? ≠ some (.word s)) : hdr nm l = none := by
  unfold hdr
  split
  · exact absurd rfl (h _)
  · rfl
theorem hdr_no2 {nm : List Txt} {s : Txt} {l : List Tk} (h : (resv s || nm.contains s) = true) : hdr nm (.word s :: l) = none := by
  unfold hdr
  split
  · rename_i heq; cases heq; rw [if_pos h]
  · rfl
theorem hdr_no3 {nm : List Txt} {s : Txt} {l : List Tk} (h : l.head? ≠ some .eq) : hdr nm (.word s :: l) = none := by
  unfold hdr
  split
  · rename_i heq; cases heq; exact absurd rfl h
  · rfl

theorem Pl.stepT {w W V V' : World} {b : Nat} {T T' : List Tok} {NM : List Txt} {BS : List Int} {NS NS' : List Nd} {q : Nat} {ty : TypeId} {cs : Array Value} (h : Pl w W V b T NM BS NS q ty cs) (ht : ty ∉ SX)
    (hr : ∃ m, Rd w V' b m T' NM BS NS') (hk : Kp SX V V') : Pl w W V' b T' NM BS NS' q ty cs :=
  ⟨hr, h.kp.trans hk, h.va.kp hk ht, h.q0, h.w0⟩
theorem Tx.drew {W : World} {a : Option Addr} {n cap : Nat} {L : List Txt} (h : Tx W a n cap L) (q : Nat) : Tx (W.drewN q) a n cap L := ⟨h.len, h.le, h.max, h.cell⟩

set_option maxRecDepth 100000 in
set_option maxHeartbeats 4000000 in
theorem bind_rd {w W : World} {b : Nat} {m : Mm} {T : List Tok} {NM : List Txt} {BS : List Int} {NS : List Nd} (h : Rd w W b m T NM BS NS) (hN : NS.length + T.length ≤ 2000) (hM : NM.length ≤ 2000) (hB : BS.length ≤ 2000) :
    Calls Tryz.prog 49 #[ptr b] W fun e W' => BindP w W b T NM BS NS e W' := by
  have HW := hide h
  clear h
  cases T with
  | nil =>
    go_enter Tryz.func49, Tryz.ntmps49
    go_wp2_with fail
    refine (next_nil HW.out).mono ?_
    rintro e V1 ⟨rfl, hb⟩
    have HB := hide (bel HW.out.old hb)
    clear hb
    go_wp2_with fail
    exact ⟨rfl, .inl ⟨rfl, HB.out, .inl rfl⟩⟩
  | cons t T =>
    have hwf := hide (HW.out.wf t (by simp))
    rw [List.length_cons] at hN
    by_cases hs : ∃ s, ab t = .word s
    · obtain ⟨s, hs⟩ := hs
      obtain ⟨hk2, hw2, hts⟩ := kind2 hwf.out hs
      have HAB := hide (show (t :: T).map ab = .word s :: T.map ab by rw [List.map_cons, hs])
      have HK2 := hide hk2
      have HTS := hide hts
      have HRs := hide fun V => reserved_any (sB s) V
      have HCt := hide (show ∀ (V : World) (a : Option Addr) (n cap : Nat), Tx V a n cap NM → Calls Tryz.prog 84 #[.slice a n cap, .string (sB s)] V fun e W' => e = .returned (.bool (NM.contains s)) ∧ W' = V from fun V a n cap hx => by
        have := contains_any hx (sB s)
        rw [bs_sB] at this
        exact this)
      rw [bs_sB] at HRs
      clear hs hk2 hw2 hts
      go_enter Tryz.func49, Tryz.ntmps49
      go_wp2_with fail
      refine (next_cons HW.out).mono ?_
      rintro e V1 ⟨rfl, ⟨m1, hR⟩, hk⟩
      have HP := hide (show Pl w W (V1.alloc (.cells (tc t.kind (sB t.text) t.pos) 89)) b T NM BS NS V1.heap.size 89 (tc t.kind (sB t.text) t.pos) from ⟨⟨m1, hR.later (bel1 _ _)⟩, hk.trans (Kp.of_below SX (bel1 _ _)), HasC.new _ _ _, hk.size, HW.out.old.size⟩)
      rw [HK2.out, HTS.out] at HP ⊢
      clear hR hk
      go_wp2_with fail
      generalize V1.heap.size = q at HP ⊢
      generalize V1.alloc (.cells (tc 2 (sB s) t.pos) 89) = V at HP ⊢
      obtain ⟨m2, hm2⟩ := HP.out.rd
      have HR := hide hm2
      clear hm2
      obtain ⟨d0, d1, d2⟩ := facts3 HP.out.va
      obtain ⟨a1, cap1, hn1, hTx⟩ := Tx.of_owns HR.out.names
      have HTx := hide hTx
      have c1 : V.cell? ⟨b, 1, none⟩ = some (.slice a1 NM.length cap1) := by rw [← hn1]; exact HR.out.blk.cell 1 rfl
      clear hTx hn1
      have HBB := hide (show ∀ nq, Below w.heap.size w (V.drewN nq) from fun nq => bel HR.out.old (below_drewN V nq))
      cases hrs : resv s with
      | true =>
        rw [hrs] at HRs
        have HRS := hide hrs
        go_quiet ((go_at_call 83; exact Calls.quiet_of_same (HRs.out _)))
        go_wp2_with fail
        exact ⟨rfl, .inl ⟨rfl, HBB.out _, .inl (by rw [HAB.out]; exact hdr_no2 (by rw [HRS.out]; rfl))⟩⟩
      | false =>
        rw [hrs] at HRs
        cases hct : NM.contains s with
        | true =>
          rw [hct] at HCt
          have HCT := hide hct
          go_quiet ((first | (go_at_call 83; exact Calls.quiet_of_same (HRs.out _)) | (go_at_call 84; exact Calls.quiet_of_same (HCt.out _ _ _ _ (HTx.out.drew _)))))
          go_wp2_with fail
          exact ⟨rfl, .inl ⟨rfl, HBB.out _, .inl (by rw [HAB.out]; exact hdr_no2 (by rw [HCT.out, Bool.or_true]))⟩⟩
        | false =>
          rw [hct] at HCt
          go_quiet ((first | (go_at_call 83; exact Calls.quiet_of_same (HRs.out _)) | (go_at_call 84; exact Calls.quiet_of_same (HCt.out _ _ _ _ (HTx.out.drew _)))))
          obtain ⟨W2, hW2⟩ : ∃ W2, V.drewN nq = W2 := ⟨_, rfl⟩
          have HP2 := hide (HP.out.later (below_drewN V nq))
          rw [hW2] at HP2 ⊢
          have HRS := hide hrs
          have HCT := hide hct
          clear hW2 c1 HTx HR d0 d1 d2 HP hrs hct HCt HRs
          obtain ⟨m3, hm3⟩ := HP2.out.rd
          have HM3 := hide hm3
          have hw3 := hide hm3.wf
          clear hm3
          by_cases hq : (T.map ab).head? = some .eq
          · obtain ⟨t4, T4, rfl, h4⟩ := hd_cons hq
            have hs4 := hide ((text_iff (hw3.out t4 (by simp)) (s := [61]) (by decide)).2 h4)
            have HH := hide (show hdr NM ((t :: t4 :: T4).map ab) = some (s, T4.map ab) by rw [HAB.out, List.map_cons, h4]; exact hdr_mk HRS.out HCT.out _)
            rw [List.length_cons] at hN
            clear hq h4 hw3
            go_wp2_with fail
            refine (need_yes HM3.out _ hs4.out).mono ?_
            rintro e V4 ⟨rfl, hR, hk⟩
            have HP4 := hide (HP2.out.stepT (by decide) hR hk)
            clear hR hk HP2 HM3
            obtain ⟨m4, hm4⟩ := HP4.out.rd
            have HM4 := hide hm4
            clear hm4
            go_wp2_with fail
            refine (choice_any (T4.length + 1) V4 m4 T4 NS (by omega) (by omega) HM4.out).mono ?_
            rintro e V5 ⟨res, hres, (⟨rfl, rfl, hb⟩ | ⟨ex, P5, T5, rfl, hsp, rfl, hR, hk⟩)⟩
            · have HB := hide hb
              have HN := hide hres
              clear hb hres
              go_wp2_with fail
              exact ⟨rfl, .inl ⟨rfl, HB.out, .inr ⟨s, _, none, HH.out, HN.out, rfl⟩⟩⟩
            · have HRES := hide hres
              have HSP := hide hsp
              have hl5 : ex.size + T5.length ≤ T4.length := by have := r_len hres; simpa using this
              have HP5 := hide (HP4.out.stepT (by decide) hR hk)
              clear hres hsp hR hk HP4 HM4
              obtain ⟨m5, hm5⟩ := HP5.out.rd
              have HM5 := hide hm5
              have hw5 := hide hm5.wf
              clear hm5
              obtain ⟨z, hz⟩ : ∃ z : Int, ((NS.length + ex.size : Nat) : Int) - 1 = z := ⟨_, rfl⟩
              rw [hz]
              have HZ := hide hz
              clear hz
              by_cases hc : (T5.map ab).head? = some .semi
              · obtain ⟨t6, T6, rfl, h6⟩ := hd_cons hc
                have hs6 := hide ((text_iff (hw5.out t6 (by simp)) (s := [59]) (by decide)).2 h6)
                have H6 := hide (show (t6 :: T6).map ab = .semi :: T6.map ab by rw [List.map_cons, h6])
                rw [List.length_cons] at hl5
                clear hc h6 hw5
                go_wp2_with fail
                refine (need_yes HM5.out _ hs6.out).mono ?_
                rintro e V6 ⟨rfl, hR, hk⟩
                have HP6 := hide (HP5.out.stepT (by decide) hR hk)
                clear hR hk HP5 HM5
                obtain ⟨m6, hm6⟩ := HP6.out.rd
                have HM6 := hide hm6
                have HK6 := hide HP6.out.kp
                have hbV : b < V6.heap.size := hm6.blk.lt
                have hqV : q < V6.heap.size := HP6.out.va.lt
                obtain ⟨-, d1, -⟩ := facts3 HP6.out.va
                have d1a : ∀ o : Obj, (V6.alloc o).cell? ⟨q, 1, none⟩ = some (.string (sB s)) := fun o => (cell_old hqV).trans d1
                obtain ⟨nv, hnv⟩ : ∃ nv, m6.nv = nv := ⟨_, rfl⟩
                have c1 : V6.cell? ⟨b, 1, none⟩ = some nv := by rw [← hnv]; exact hm6.blk.cell 1 rfl
                have c1a : ∀ o : Obj, (V6.alloc o).cell? ⟨b, 1, none⟩ = some nv := fun o => (cell_old hbV).trans c1
                have HNV := hide hnv
                clear hm6 hnv
                go_upto_region 6 with fail
                go_cut [] from 31 to 43 (fun wc => Hid (∃ m', Rd w wc b m' T6 (NM ++ [s]) BS (NS ++ ex.flat NS.length)) ∧ Hid (Kp SY W wc))
                case first =>
                  go_region_law
                    (first
                      | (refine step_nm (m := m6) (by rfl) _ _ (by rfl) (by exact HNV.out.symm) (by first | exact (HM6.out.later (bel1 _ _)).later (below_drew _) | exact (HM6.out.later (below_drew V6)).later (bel1 _ _)) V6.heap.size s (by rfl) (by first | exact HasC.new _ _ _ | exact (HasC.new V6 9 #[.string (sB s)]).below (below_drew _)) (by omega) ?_; intro g cap w1 hown hb1 hk1 hold; have t3 := hb1.cell 1 rfl; have y3 := hb1.frozen 1))
                  all_goals
                    have HE := hide (nm_end HM6.out (by first | exact bel (bel1 V6 _) (below_drew _) | exact bel (below_drew V6) (bel1 _ _)) hown hb1 hk1 hold)
                    clear hown hb1 hk1 hold t3 y3 d1 d1a c1 c1a
                    go_wp2_with fail
                    go_meet
                    exact ⟨hide HE.out.1, hide ((HK6.out.mono (by decide)).trans HE.out.2)⟩
                case rest =>
                  obtain ⟨HR7, HK7⟩ := hcut
                  clear d1 d1a c1 c1a HM6 HP6
                  obtain ⟨m7, hm7⟩ := HR7.out
                  have HM7 := hide hm7
                  have hbW : b < wc.heap.size := hm7.blk.lt
                  obtain ⟨bv, hbv⟩ : ∃ bv, m7.bv = bv := ⟨_, rfl⟩
                  have c2 : wc.cell? ⟨b, 2, none⟩ = some bv := by rw [← hbv]; exact hm7.blk.cell 2 rfl
                  have c2a : ∀ o : Obj, (wc.alloc o).cell? ⟨b, 2, none⟩ = some bv := fun o => (cell_old hbW).trans c2
                  have HBV := hide hbv
                  clear hm7 hbv
                  go_wp2_with (at_builtin; refine list_bd (m := m7) rfl _ _ rfl HBV.out.symm (HM7.out.later (bel1 _ _)) wc.heap.size z rfl (HasC.new _ _ _) (by omega) ?_; intro g cap w1 hown hb1 hk1 hold; have t3 := hb1.cell 2 rfl; have y3 := hb1.frozen 2; have HE := hide (bd_end HM7.out (bel1 wc _) hown hb1 hk1 hold); clear hown hb1 hk1 hold)
                  refine bodyPost_end (results_none rfl _ _ _) rfl ?_
                  exact .inr ⟨s, _, _, ex, t :: t4 :: (P5 ++ [t6]), T6, HH.out, HRES.out, by rw [H6.out, eat_mk], by rw [HSP.out]; simp, by simp; omega, rfl, by rw [HZ.out]; exact HE.out.1, HK7.out.trans HE.out.2⟩
              · have hs6 := hide (hd_ne (s := [59]) hw5.out (by decide) hc)
                have HCO := hide hc
                clear hc hw5
                go_wp2_with fail
                refine (need_no HM5.out _ hs6.out).mono ?_
                rintro e V6 ⟨rfl, hb⟩
                have HB := hide (bel HM5.out.old hb)
                clear hb
                go_wp2_with fail
                exact ⟨rfl, .inl ⟨rfl, HB.out, .inr ⟨s, _, _, HH.out, HRES.out, eat_no HCO.out⟩⟩⟩
          · have hs4 := hide (hd_ne (s := [61]) hw3.out (by decide) hq)
            have HQ := hide hq
            clear hq hw3
            go_wp2_with fail
            refine (need_no HM3.out _ hs4.out).mono ?_
            rintro e V4 ⟨rfl, hb⟩
            have HB := hide (bel HM3.out.old hb)
            clear hb
            go_wp2_with fail
            exact ⟨rfl, .inl ⟨rfl, HB.out, .inl (by rw [HAB.out]; exact hdr_no3 HQ.out)⟩⟩
    · have hs' : ∀ s, ab t ≠ .word s := fun s e => hs ⟨s, e⟩
      have hk : (t.kind != 2) = true := by
        rcases hwf.out with ⟨h, -⟩ | ⟨h, h2⟩ | ⟨h, -⟩
        · rw [h]; decide
        · exact absurd (ab_word h) (hs' _)
        · rw [h]; decide
      have HS := hide hs'
      clear hs hs'
      go_enter Tryz.func49, Tryz.ntmps49
      go_wp2_with fail
      refine (next_cons HW.out).mono ?_
      rintro e V1 ⟨rfl, ⟨m1, hR⟩, hk1⟩
      have HR := hide (hR.later (bel1 V1 (.cells (tc t.kind (sB t.text) t.pos) 89)))
      have HN := hide (HasC.new V1 89 (tc t.kind (sB t.text) t.pos))
      clear hR hk1
      generalize t.kind = kk at hk HR HN ⊢
      generalize sB t.text = u at HR HN ⊢
      go_wp2_with fail
      generalize V1.heap.size = q at HN ⊢
      generalize V1.alloc (.cells (tc kk u t.pos) 89) = V at HR HN ⊢
      obtain ⟨d0, d1, d2⟩ := facts3 HN.out
      have HBB := hide (show ∀ nq, Below w.heap.size w (V.drewN nq) from fun nq => bel HR.out.old (below_drewN V nq))
      go_quiet (fail)
      go_wp2_with fail
      exact ⟨rfl, .inl ⟨rfl, HBB.out _, .inl (hdr_no1 fun s e => HS.out s (by simpa using e))⟩⟩

end Go.Proofs.YtlhbgkaknfhlnaaGreat

/-
  The reader of package parse: program.
-/
namespace Pz
/-- The roots of expressions that follow one another. -/
def bdL : List E → Nat → List Int
  | [], _ => []
  | a :: es, s => (((s + a.size : Nat) : Int) - 1) :: bdL es (s + a.size)
theorem bdL_snoc : ∀ (es : List E) (a : E) (s : Nat), bdL (es ++ [a]) s = bdL es s ++ [((s + szL es + a.size : Nat) : Int) - 1]
  | [], a, s => by simp [bdL, szL]
  | b :: es, a, s => by simp [bdL, szL, bdL_snoc es a, Nat.add_assoc]
theorem bdL_len : ∀ (es : List E) (s : Nat), (bdL es s).length = es.length
  | [], s => rfl
  | a :: es, s => by simp [bdL, bdL_len es]
end Pz
namespace Go.Proofs.YtlhbgkaknfhlnaaGreat
open Go.RowKit Go.IntWalk Lx Pz
set_option linter.unusedVariables false

/-- What program comes to. -/
def ProgP (w W : World) (b : Nat) (T : List Tok) (e : Ending) (W' : World) : Prop :=
  ∃ res, RP [] [] (T.map ab) res ∧ ((res = none ∧ e = pan ∧ Below w.heap.size w W') ∨
    (∃ NM es ex, res = some (NM, es, ex) ∧ NM.length = es.length ∧ szL es + ex.size ≤ T.length ∧ e = .returned (.tuple #[]) ∧ (∃ m', Rd w W' b m' [] NM (bdL es 0) (flL es 0 ++ ex.flat (szL es)) ∧ m'.root = ((szL es + ex.size : Nat) : Int) - 1) ∧ Kp SY W W'))

/-- What holds behind so many lets. -/
structure PF (w W : World) (b : Nat) (T : List Tok) (NM : List Txt) (es : List E) (T' : List Tok) (V : World) : Prop where
  go : ∀ res, RP NM es (T'.map ab) res → RP [] [] (T.map ab) res
  rd : ∃ m', Rd w V b m' T' NM (bdL es 0) (flL es 0)
  kp : Kp SY W V
  sz : szL es + T'.length ≤ T.length
  ln : NM.length = es.length
  le : es.length + T'.length ≤ T.length

theorem Rd.root {w W : World} {b : Nat} {m : Mm} {T : List Tok} {NM : List Txt} {BS : List Int} {NS : List Nd} (h : Rd w W b m T NM BS NS) (z : Int) :
    Rd w (W.setCell ⟨b, 4, none⟩ (.int .i64 z)) b ⟨m.la, m.ln, m.lc, m.nv, m.bv, m.dv, z⟩ T NM BS NS ∧ Kp SY W (W.setCell ⟨b, 4, none⟩ (.int .i64 z)) := by
  have ks : Kp [69] W (W.setCell ⟨b, 4, none⟩ (.int .i64 z)) := Kp.set h.blk (by simp) 4 _
  exact ⟨⟨h.blk.set 4 _, h.base, h.toks.kp ks (by decide), owns_kp h.names ks (by decide), owns_kp h.binds ks (by decide), owns_kp h.nodes ks (by decide), h.wf, h.old.setCell h.base _⟩, ks.mono (by decide)⟩

set_option maxRecDepth 100000 in
set_option maxHeartbeats 4000000 in
theorem program_rd {w W : World} {b : Nat} {m : Mm} {T : List Tok} (h : Rd w W b m T [] [] []) (hT : T.length ≤ 1024) :
    Calls Tryz.prog 26 #[ptr b] W fun e W' => ProgP w W b T e W' := by
  have HF0 := hide (show PF w W b T [] [] T W from ⟨fun _ h => h, ⟨m, h⟩, Kp.refl _ _, by simp [szL], rfl, by simp⟩)
  clear h
  go_enter Tryz.func26, Tryz.ntmps26
  go_wp2_with fail
  go_loopg [3] T.length (fun g _ V => ∃ (NM : List Txt) (es : List E) (T' : List Tok), Hid (T'.length = g) ∧ Hid (PF w W b T NM es T' V))
  case atStart => exact ⟨[], [], T, hide rfl, HF0⟩
  case round =>
    obtain ⟨NM, es, T', HG, HF⟩ := hrel
    rename World => V
    obtain ⟨m1, hm1⟩ := HF.out.rd
    have HM := hide hm1
    have hw := hide hm1.wf
    have hsz := HF.out.sz
    have hle := HF.out.le
    have hln := hide HF.out.ln
    clear hm1 HF0
    by_cases hl : (T'.map ab).head? = some (.word wLet)
    · obtain ⟨t1, T1, rfl, h1⟩ := hd_cons hl
      have hs1 := hide ((word_iff (hw.out t1 (by simp)) (s := wLet) (by decide)).2 h1)
      have H1 := hide (show (t1 :: T1).map ab = .word wLet :: T1.map ab by rw [List.map_cons, h1])
      rw [List.length_cons] at hsz hle
      clear hl h1 hw
      go_wp2_with fail
      refine (pass_yes HM.out _ hs1.out).mono ?_
      rintro e V1 ⟨rfl, ⟨m2, hR⟩, hk⟩
      have HR := hide hR
      have HK := hide (HF.out.kp.trans (hk.mono (by decide)))
      clear hR hk
      go_wp2_with fail
      refine (bind_rd HR.out (by rw [flL_len]; omega) (by rw [hln.out]; omega) (by rw [bdL_len]; omega)).mono ?_
      rintro e V2 (⟨rfl, hb, hbad⟩ | ⟨s, l2, res, ex, P, T2, hh, hr, he, hsp, hl2, rfl, hR2, hk2⟩)
      · have HB := hide hb
        have HBad := hide hbad
        clear hb hbad
        go_wp2_with fail
        refine ⟨rfl, none, HF.out.go _ ?_, .inl ⟨rfl, rfl, HB.out⟩⟩
        rw [H1.out]
        rcases HBad.out with h | ⟨s, l2, res, h1, h2, h3⟩
        · exact RP.bad h
        · exact RP.body h1 h2 h3
      · have HF2 := hide (show PF w W b T (NM ++ [s]) (es ++ [ex]) T2 V2 from by
          refine ⟨fun res' h => HF.out.go _ (by rw [H1.out]; exact RP.go hh hr he h), ?_, HK.out.trans hk2, by rw [szL_snoc]; omega, by simp [hln.out], by have := ex.size_pos; simp; omega⟩
          rw [bdL_snoc, flL_snoc, Nat.zero_add]
          rw [flL_len] at hR2
          exact hR2)
        have HL2 := hide hl2
        have hgl : T2.length < T1.length + 1 := by have := ex.size_pos; omega
        have HGl := hide hgl
        clear hh hr he hsp hl2 hR2 hk2 hgl
        go_wp2_with fail
        go_roundg T2.length
        case measure => have := HG.out; have := HGl.out; simp at *; omega
        case rel => exact ⟨NM ++ [s], es ++ [ex], T2, hide rfl, HF2⟩
    · have hs1 := hide (show (hd T').text ≠ [108, 101, 116] from by
        cases T' with
        | nil => decide
        | cons t T' =>
          intro e
          exact hl (by simp [(word_iff (hw.out t (by simp)) (s := wLet) (by decide)).1 e]))
      have HL := hide hl
      clear hl
      go_wp2_with fail
      refine (pass_no HM.out _ hs1.out).mono ?_
      rintro e V1 ⟨rfl, hb⟩
      have HR := hide (HM.out.later hb)
      have HK := hide (HF.out.kp.trans (Kp.of_below SY hb))
      clear hb
      go_wp2_with fail
      refine (choice_any (T'.length + 1) V1 m1 T' (flL es 0) (by omega) (by rw [flL_len]; omega) HR.out).mono ?_
      rintro e V2 ⟨res, hres, (⟨rfl, rfl, hb⟩ | ⟨ex, P5, T5, rfl, hsp, rfl, ⟨m5, hR⟩, hk⟩)⟩
      · have HB := hide hb
        have HN := hide hres
        clear hb hres
        go_wp2_with fail
        exact ⟨rfl, none, HF.out.go _ (RP.last HL.out HN.out), .inl ⟨rfl, rfl, HB.out⟩⟩
      · have HRES := hide hres
        have hl5 : ex.size + T5.length ≤ T'.length := by have := r_len hres; simpa using this
        rw [flL_len] at hR ⊢
        have hz := hR.root (((szL es + ex.size : Nat) : Int) - 1)
        have HR6 := hide hz.1
        have HK6 := hide ((HK.out.trans (hk.mono (by decide))).trans hz.2)
        have c4 := hR.blk.cell 4 rfl
        have y4 := hR.blk.frozen 4
        have cn : (V2.setCell ⟨b, 4, none⟩ (.int .i64 (((szL es + ex.size : Nat) : Int) - 1))).cell? ⟨b, 0, none⟩ = some (.slice m5.la m5.ln m5.lc) := hz.1.blk.cell 0 rfl
        have hln5 := hide hR.toks.t.len
        have hmx : m5.ln ≤ 9223372036854775807 := by have := hR.toks.t.le; have := hR.toks.t.max; unfold maxLen at *; omega
        clear hres hsp hR hk hz
        obtain ⟨z, hz⟩ : ∃ z : Int, ((szL es + ex.size : Nat) : Int) - 1 = z := ⟨_, rfl⟩
        rw [hz] at HR6 HK6 cn ⊢
        have HZ := hide hz
        clear hz
        cases T5 with
        | nil =>
          have h0 : m5.ln = 0 := by have := hln5.out; simpa using this.symm
          rw [h0] at cn
          clear h0 hmx
          go_wp2_with fail
          refine bodyPost_end (results_none rfl _ _ _) rfl ?_
          exact ⟨_, HF.out.go _ (RP.last HL.out HRES.out), .inr ⟨NM, es, ex, rfl, hln.out, by simp at hl5; omega, rfl, ⟨_, HR6.out, HZ.out.symm⟩, HK6.out⟩⟩
        | cons t5 T5 =>
          have h0 : (0 : Int) < m5.ln := by have := hln5.out; simp at this; omega
          go_wp2_with fail
          exact ⟨rfl, none, HF.out.go _ (RP.last HL.out HRES.out), .inl ⟨rfl, rfl, HR6.out.old⟩⟩

end Go.Proofs.YtlhbgkaknfhlnaaGreat

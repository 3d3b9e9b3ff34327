/-
  ref.making.pair: cut at the last operator of a level that has an operand ahead.
-/
import Derived.Test.YtamekjocchekoaaClP
namespace Go.Proofs.Ytamekjocchekoaa
open Go.RowKit Go.IntWalk Lx Pz
set_option linter.unusedVariables false

/-- All that the loop reads. -/
structure Pr (w W V : World) (b : Nat) (nv bv dv : Value) (root : Int) (NM : List Txt) (BS : List Int) (NS : List Nd) (a : Option Addr) (n cap : Nat) (T : List Tok) (oa ma : Option Addr) (oc g lv : Nat) (B : Array Value) : Prop where
  ma' : Mk w V b nv bv dv root NM BS NS
  tz : Tz V a n cap T
  out : Iz V oa (ozl (T.map ab)).length oc (ozl (T.map ab))
  ms : Tx V ma (opz lv).length (opz lv).length (mks lv)
  os : HasC V g 3 B
  kp : Kp SM W V
theorem Pr.later {w W V V' : World} {b : Nat} {nv bv dv : Value} {root : Int} {NM : List Txt} {BS : List Int} {NS : List Nd} {a : Option Addr} {n cap : Nat} {T : List Tok} {oa ma : Option Addr} {oc g lv : Nat} {B : Array Value} (h : Pr w W V b nv bv dv root NM BS NS a n cap T oa ma oc g lv B) (hb : Below V.heap.size V V') : Pr w W V' b nv bv dv root NM BS NS a n cap T oa ma oc g lv B :=
  ⟨h.ma'.later hb, h.tz.later hb, h.out.later hb, h.ms.later hb, h.os.below hb, h.kp.trans (Kp.of_below SM hb)⟩

def lvL (n : Nat) : Nat := if n = 3 then n + 1 else n
theorem lvL_eq (n : Nat) : lvL n + 1 = lefts n := by unfold lvL lefts; split <;> omega
theorem op_cell {V : World} {g n i : Nat} {B : Array Value} (h : HasC V g 3 B) (hB : B.toList = in64 (opz n)) (hi : i < (opz n).length) : V.cell? ⟨g, i, none⟩ = some (.int .i64 ((opz n).getD i 0)) := by
  refine h.cell i ?_
  rw [← Array.getElem?_toList, hB]
  simp [in64, List.getD, hi]
theorem out_cell {V : World} {oa : Option Addr} {oc k : Nat} {L : List Tk} (h : Iz V oa (ozl L).length oc (ozl L)) (hk : k < (ozl L).length) : ∃ g off, oa = some ⟨g, off, none⟩ ∧ V.cell? ⟨g, off + k, none⟩ = some (.int .i64 ((outG L k).1 : Int)) := by
  rcases h.cell with h0 | ⟨g, off, ha, -, hc⟩
  · omega
  · exact ⟨g, off, ha, by rw [hc k hk, (out_at hk).1]⟩

set_option maxRecDepth 100000 in
set_option maxHeartbeats 16000000 in
theorem pair_rd {w : World} {b : Nat} {nv bv : Value} {root : Int} {NM : List Txt} {BS : List Int} (lv : Nat) (hlv : lv < 7) (T : List Tok)
    (ih : ∀ T' : List Tok, T'.length < T.length → ∀ k : Nat, k ≤ 7 → CC w b nv bv root NM BS 50 [.int .i64 (k : Int)] (k + 1) T')
    (up : CC w b nv bv root NM BS 50 [.int .i64 ((lv + 1 : Nat) : Int)] (lv + 2) T) : CC w b nv bv root NM BS 50 [.int .i64 lv] (lv + 1) T := by
  intro W dv NS a n cap hM hT hw hn
  have HM := hide hM
  have HT := hide hT
  have HWf := hide hw
  have HTl := hide hT.t.len
  have HU := hide up
  have HIH := hide ih
  have hl7 : ((lv : Int) == 7) = false := by rw [beq_eq_false_iff_ne]; omega
  have hlw : IntKind.i64.wrap ((lv : Int) + 1) = (lv : Int) + 1 := IntWalk.i64_in _ ⟨by omega, by omega⟩
  clear hM hT hw up ih
  obtain ⟨L, hL⟩ : ∃ L, T.map ab = L := ⟨_, rfl⟩
  have HL := hide hL
  have HLl := hide (show L.length = n by rw [← hL, List.length_map, HTl.out])
  rw [hL]
  clear hL
  show Calls Try.prog 50 #[ptr b, .slice a n cap, .int .i64 lv] W _
  go_enter Try.func50, Try.ntmps50
  go_wp2_with fail
  refine (outer_any HT.out.t HWf.out (by omega)).mono ?_
  rw [HL.out]
  rintro e V1 (⟨hbal, v, rfl, hO, hb⟩ | ⟨hbal, v, rfl, hb⟩)
  · obtain ⟨oa, oc, rfl, hOi⟩ := Iz.of_owns hO
    have HBal := hide hbal
    have HM1 := hide (HM.out.later hb)
    have HT1 := hide (HT.out.later hb)
    have HO1 := hide hOi
    have HK1 := hide (Kp.of_below SM hb)
    have hol : (ozl L).length ≤ 2000 := by have := ozl_len L; rw [HLl.out] at this; omega
    clear hbal hO hOi hb HM HT
    go_wp2_with fail
    refine (level_any lv hlv V1).mono ?_
    rintro e V2 ⟨ma, g, B, rfl, hms, hos, hB, hb⟩
    have HP := hide (show Pr w W V2 b nv bv dv root NM BS NS a n cap T oa ma oc g lv B from ⟨HM1.out.later hb, HT1.out.later hb, by rw [HL.out]; exact HO1.out.later hb, hms, hos, HK1.out.trans (Kp.of_below SM hb)⟩)
    have HBl := hide hB
    have hmk : (opz lv).length ≤ 6 := by
      match lv, hlv with
      | 0, _ => decide
      | 1, _ => decide
      | 2, _ => decide
      | 3, _ => decide
      | 4, _ => decide
      | 5, _ => decide
      | 6, _ => decide
    obtain ⟨ml, hml⟩ : ∃ m, (opz lv).length = m := ⟨_, rfl⟩
    obtain ⟨ol, hol2⟩ : ∃ m, (ozl L).length = m := ⟨_, rfl⟩
    have HML := hide hml
    have HOL := hide hol2
    rw [hml] at hmk ⊢
    rw [hol2] at hol ⊢
    clear hb hms hos hB hml hol2 HM1 HT1 HO1 HK1
    go_wp2_with fail
    go_loopw [12] (fun i wr => ∃ k : Nat, k ≤ ol ∧ i = .int .i64 ((k : Int) - 1) ∧ Hid (∀ j, k ≤ j → j < (ozl L).length → cutP lv L (outG L j) = false) ∧ Hid (Pr w W wr b nv bv dv root NM BS NS a n cap T oa ma oc g lv B)) (fun i _ => (intOf i + 1).toNat)
    case atStart => exact ⟨ol, Nat.le_refl _, by first | rfl | go_num, hide (fun j h1 h2 => by have := HOL.out; omega), hide HP.out⟩
    case round =>
      obtain ⟨k, hk, rfl, HS, HP⟩ := hrel
      rename World => V
      match k, hk, HS with
      | 0, hk, HS =>
        have hneg : ((0 : Nat) : Int) - 1 < 0 := by omega
        have HC := hide (fun ex => pair_none (nm := NM) (e := ex) hlv (cut_none fun j hj => HS.out j (Nat.zero_le j) hj))
        go_wp2_with fail
        have HUc := HU.out V dv NS a n cap HP.out.ma' HP.out.tz HWf.out hn
        rw [HL.out] at HUc
        refine Calls.mono (show Calls Try.prog 50 #[ptr b, .slice a n cap, .int .i64 ((lv + 1 : Nat) : Int)] V _ from HUc) ?_
        clear HUc
        intro e V3 hpp
        have HPP := hide ((hpp.from HP.out.kp).iff fun ex => (HC.out ex).symm)
        clear hpp
        rcases HPP.out with ⟨ex, h1, rfl, h3, h4⟩ | ⟨h1, ⟨z, rfl⟩, h2⟩
        · clear h1 h3 h4
          go_wp2_with fail
          go_ret2
          exact HPP.out
        · clear h1 h2
          go_wp2_with fail
          go_ret2
          exact HPP.out
      | k + 1, hk, HS =>
        have hkl : k < (ozl L).length := by rw [HOL.out]; omega
        obtain ⟨g0, oo, rfl, hoc⟩ := out_cell (L := L) (by have := HP.out.out; rw [HL.out] at this; exact this) hkl
        obtain ⟨-, hq1, hq2⟩ := out_at hkl
        rw [HLl.out] at hq1
        obtain ⟨q, tk, hqt⟩ : ∃ q tk, outG L k = (q, tk) := ⟨_, _, rfl⟩
        have HQ := hide hqt
        rw [hqt] at hoc hq1 hq2
        simp only at hoc hq1 hq2
        obtain ⟨g1, off, rfl, e0, e1, e2⟩ := HP.out.tz.at hq1
        obtain ⟨hwf, hab⟩ := wf_at HWf.out (i := q) (by rw [HTl.out]; exact hq1)
        rw [HL.out, hq2] at hab
        have hab' : ab (T.getD q t0) = tk := (Option.some.inj hab).symm
        have hcls := tok_lev hwf lv hlv
        rw [hab'] at hcls
        have hk0 : ¬ (((k + 1 : Nat) : Int) - 1 < 0) := by omega
        have hk1 : (0 : Int) ≤ ((k + 1 : Nat) : Int) - 1 := by omega
        have hk2 : ((k + 1 : Nat) : Int) - 1 = (k : Int) := by omega
        have hk3 : (k : Int) < ol := by omega
        have hk4 : (0 : Int) ≤ k := by omega
        have hq3 : (0 : Int) ≤ q := by omega
        have hq4 : (q : Int) < n := by omega
        rw [hk2] at hk0 hk1 ⊢
        clear hqt hk2
        have HSn := fun (h : cutP lv L (q, tk) = false) => (show ∀ j, k ≤ j → j < (ozl L).length → cutP lv L (outG L j) = false from fun j h1 h2 => by
          by_cases hj : j = k
          · subst hj; rw [HQ.out]; exact h
          · exact HS.out j (by omega) h2)
        have HSN := hide HSn
        clear HSn hab hab' hwf
        generalize htq : T.getD q t0 = t at *
        clear htq
        obtain ⟨kd, X, ps⟩ := t
        simp only at e0 e1 e2 hcls
        rcases hcls with ⟨hk3', hno⟩ | ⟨rfl, hix, hno⟩ | ⟨rfl, i, hil, hix, rfl⟩
        · have HNO := hide (cutP_no (x := (q, tk)) (L := L) hno)
          clear hno e1 e2
          go_wp2_with fail
          go_roundw
          case rel => exact ⟨k, by omega, by first | rfl | go_num, hide (HSN.out HNO.out), hide HP.out⟩
          case measure => simp [intOf]
        · have HNO := hide (cutP_no (x := (q, tk)) (L := L) hno)
          have HPl := hide fun V' (h : Tx V' ma (opz lv).length (opz lv).length (mks lv)) => qplace_any h (sB X)
          rw [bs_sB, hix] at HPl
          clear hno e2 hix
          have hms := HP.out.ms
          go_wp2_with fail
          have hpl := HPl.out _ HP.out.ms
          rw [HML.out] at hpl
          refine hpl.mono ?_
          rintro e V3 ⟨rfl, rfl⟩
          clear hpl hms
          go_wp2_with fail
          go_roundw
          case rel => exact ⟨k, by omega, by first | rfl | go_num, hide (HSN.out HNO.out), hide HP.out⟩
          case measure => simp [intOf]
        · have HCP := hide (cutP_at (n := lv) (L := L) (q := q) (o := (opz lv).getD i 0))
          have hi0 : ¬ ((i : Int) < 0) := by omega
          rw [HML.out] at hil
          have HPl := hide fun V' (h : Tx V' ma (opz lv).length (opz lv).length (mks lv)) => qplace_any h (sB X)
          rw [bs_sB, hix] at HPl
          clear hix
          go_wp2_with fail
          have hpl := HPl.out _ HP.out.ms
          rw [HML.out] at hpl
          refine hpl.mono ?_
          rintro e V3 ⟨rfl, rfl⟩
          clear hpl HPl
          by_cases hq0 : q = 0
          · subst hq0
            have HNO := hide (show cutP lv L (0, .op lv ((opz lv).getD i 0)) = false by rw [HCP.out]; rfl)
            go_wp2_with fail
            go_roundw
            case rel => exact ⟨k, by omega, by first | rfl | go_num, hide (HSN.out HNO.out), hide HP.out⟩
            case measure => simp [intOf]
          · obtain ⟨g2, off2, heq, f0, f1, f2⟩ := HP.out.tz.at (i := q - 1) (by omega)
            cases heq
            obtain ⟨hwf, hab⟩ := wf_at HWf.out (i := q - 1) (by rw [HTl.out]; omega)
            rw [HL.out] at hab
            have HEn := hide (show endZ (T.getD (q - 1) t0).kind (T.getD (q - 1) t0).text = endT (L.getD (q - 1) .eq) by rw [end_ab hwf, List.getD_eq_getElem?_getD (l := L), hab]; rfl)
            clear hwf hab
            generalize T.getD (q - 1) t0 = u at *
            obtain ⟨ku, Xu, pu⟩ := u
            simp only at f0 f1 f2 HEn
            have hqz : ((q : Int) == 0) = false := by rw [beq_eq_false_iff_ne]; omega
            have hqw : (q : Int) - 1 = ((q - 1 : Nat) : Int) := by omega
            have hqr : IntKind.i64.wrap ((q : Int) - 1) = ((q - 1 : Nat) : Int) := by rw [IntWalk.i64_in _ ⟨by omega, by omega⟩]; exact hqw
            have hq5 : (0 : Int) ≤ ((q - 1 : Nat) : Int) := by omega
            have hq6 : ((q - 1 : Nat) : Int) < n := by omega
            have hq7 : (0 : Int) ≤ (q : Int) - 1 := by omega
            have hq8 : (q : Int) - 1 < n := by omega
            have hq9 : ((q : Int) - 1).toNat = q - 1 := by omega
            clear e0 e1 e2 hqw
            go_wp2_with fail
            refine (qends_any ku pu Xu _).mono ?_
            rintro e V4 ⟨rfl, hb⟩
            have HP4 := hide (HP.out.later hb)
            rw [HEn.out]
            clear f0 f1 f2 hb HP
            cases hen : endT (L.getD (q - 1) .eq) with
            | false =>
              have HNO := hide (show cutP lv L (q, .op lv ((opz lv).getD i 0)) = false by rw [HCP.out, hen]; simp)
              clear hen
              go_wp2_with fail
              go_roundw
              case rel => exact ⟨k, by omega, by first | rfl | go_num, hide (HSN.out HNO.out), hide HP4.out⟩
              case measure => simp [intOf]
            | true =>
              have hcs := cut_some hkl (n := lv) (fun j h1 h2 => HS.out j h1 h2) (by rw [HQ.out, HCP.out, hen]; simp [hq0])
              rw [HQ.out] at hcs
              have HCS := hide (fun ex => pair_some (nm := NM) (e := ex) hlv HBal.out hcs)
              clear hcs hen
              have HA := hide (HIH.out (T.take q) (by rw [List.length_take, HTl.out]; omega) (lvL lv) (by unfold lvL; split <;> omega))
              have HBc := hide (HIH.out (T.drop (q + 1)) (by rw [List.length_drop, HTl.out]; omega) (lv + 1) (by omega))
              rw [lvL_eq] at HA
              have hop := op_cell HP4.out.os HBl.out (by rw [HML.out]; exact hil)
              generalize hoz : (opz lv).getD i 0 = oz at *
              clear hqz hqr hq5 hq6 hq7 hq8 hq9 hk0 hk1 hk3 hk4 hq3 hoc hq2 hi0
              have hlv3 : lvL lv = if lv = 3 then lv + 1 else lv := rfl
              by_cases h3 : lv = 3
              · skip
                rw [if_pos h3] at hlv3
                have h3i : ((lv : Int) == 3) = true := by rw [beq_iff_eq]; omega
                rw [hlv3] at HA
                clear hlv3 h3
                go_wp2_with (refine sub_h rfl _ _ rfl rfl HP4.out.tz q (by rfl) (by omega) ?_; intro a' c' hsub; have HSub := hide hsub; clear hsub)
                have hA := HA.out V4 dv NS a' q c' HP4.out.ma' HSub.out (wf_take HWf.out q) (by omega)
                rw [List.map_take, HL.out] at hA
                refine Calls.mono (show Calls Try.prog 50 #[ptr b, .slice a' q c', .int .i64 ((lv + 1 : Nat) : Int)] V4 _ from hA) ?_
                clear hA HA HSub
                rintro e V5 (⟨x1, hg1, rfl, ⟨dv1, hm1⟩, hk5⟩ | ⟨hg1, ⟨z, rfl⟩, hb5⟩)
                · have HG1 := hide hg1
                  have HM5 := hide hm1
                  have HT5 := hide (HP4.out.tz.kp hk5 (by decide))
                  have HO5 := hide (HP4.out.os.kp hk5 (by decide))
                  have HK5 := hide (HP4.out.kp.trans hk5)
                  have HS1 := hide (g_len hg1)
                  have hsz1 : x1.size ≤ q := by have := HS1.out; simp at this; omega
                  clear hg1 hm1 hk5
                  obtain ⟨z1, hz1⟩ : ∃ z, ((NS.length + x1.size : Nat) : Int) - 1 = z := ⟨_, rfl⟩
                  rw [hz1]
                  have HZ1 := hide hz1
                  clear hz1
                  go_wp2_with (refine sub_l rfl _ _ rfl rfl HT5.out (q + 1) (by rfl) (by omega) ?_; intro a2 c2 hsub; have HSub := hide hsub; clear hsub)
                  have hB2 := HBc.out V5 dv1 (NS ++ x1.flat NS.length) a2 (n - (q + 1)) c2 HM5.out HSub.out (wf_drop HWf.out (q + 1)) (by simp [E.flat_len]; omega)
                  rw [List.map_drop, HL.out] at hB2
                  refine Calls.mono (show Calls Try.prog 50 #[ptr b, .slice a2 (n - (q + 1)) c2, .int .i64 ((lv + 1 : Nat) : Int)] V5 _ from hB2) ?_
                  clear hB2 HBc HSub
                  rintro e V6 (⟨x2, hg2, rfl, ⟨dv2, hm2⟩, hk6⟩ | ⟨hg2, ⟨z, rfl⟩, hb6⟩)
                  · have HG2 := hide hg2
                    have HM6 := hide hm2
                    have hop6 := op_cell (HO5.out.kp hk6 (by decide)) HBl.out (by rw [HML.out]; exact hil)
                    rw [hoz] at hop6
                    have HK6 := hide (HK5.out.trans hk6)
                    have HS2 := hide (g_len hg2)
                    have hsz2 : x2.size ≤ n - (q + 1) := by have := HS2.out; simp [HLl.out] at this; omega
                    clear hg2 hm2 hk6
                    have hlen : (NS ++ x1.flat NS.length).length = NS.length + x1.size := by simp [E.flat_len]
                    have hlen2 : (NS ++ x1.flat NS.length ++ x2.flat (NS ++ x1.flat NS.length).length).length = NS.length + x1.size + x2.size := by simp [E.flat_len]; omega
                    rw [hlen] at HM6 ⊢
                    rw [hlen] at hlen2
                    have HAd := hide (madd_any HM6.out ⟨oz, z1, ((NS.length + x1.size + x2.size : Nat) : Int) - 1, 0, 0, 0, 0, 0, 0⟩ (by rw [hlen2]; omega))
                    rw [hlen2] at HAd
                    generalize hz2 : ((NS.length + x1.size + x2.size : Nat) : Int) - 1 = z2 at *
                    have hil0 : (0 : Int) ≤ i := by omega
                    have hil1 : (i : Int) < ml := by omega
                    have HZ2 := hide hz2
                    clear hz2 hop hlen hlen2 hoz
                    go_wp2_with fail
                    refine HAd.out.mono ?_
                    rintro e V7 ⟨rfl, ⟨dv3, hm3⟩, hk7⟩
                    have HM7 := hide hm3
                    have HK7 := hide (HK6.out.trans hk7)
                    clear hm3 hk7
                    go_wp2_with fail
                    refine bodyPost_ret (v := .tuple #[.int .i64 ((NS.length + x1.size + x2.size : Nat) : Int), .bool true]) (by simp [results, Try.results50, go_sem]) rfl (.inl ⟨.bin oz x1 x2, (HCS.out _).2 ⟨x1, x2, rfl, HG1.out, HG2.out⟩, ?_, ⟨dv3, ?_⟩, HK7.out⟩)
                    · exact ret_pt (by simp only [E.size]; omega)
                    · have h := HM7.out
                      rw [← HZ1.out, ← HZ2.out] at h
                      simp only [E.flat, List.append_assoc] at h ⊢
                      exact h
                  · have HN := hide (show ∀ ex, ¬ G NM (lv + 1) L ex from fun ex hx => by
                      obtain ⟨xa, xb, -, -, h2⟩ := (HCS.out ex).1 hx
                      exact hg2 xb h2)
                    have HB6 := hide hb6
                    clear hg2 hb6
                    go_wp2_with fail
                    go_ret2
                    exact PP.no HN.out HB6.out
                · have HN := hide (show ∀ ex, ¬ G NM (lv + 1) L ex from fun ex hx => by
                    obtain ⟨xa, xb, -, h1, -⟩ := (HCS.out ex).1 hx
                    exact hg1 xa h1)
                  have HB5 := hide hb5
                  clear hg1 hb5
                  go_wp2_with fail
                  go_ret2
                  exact PP.no HN.out HB5.out
              · skip
                rw [if_neg h3] at hlv3
                have h3i : ((lv : Int) == 3) = false := by rw [beq_eq_false_iff_ne]; omega
                rw [hlv3] at HA
                clear hlv3 h3
                go_wp2_with (refine sub_h rfl _ _ rfl rfl HP4.out.tz q (by rfl) (by omega) ?_; intro a' c' hsub; have HSub := hide hsub; clear hsub)
                have hA := HA.out V4 dv NS a' q c' HP4.out.ma' HSub.out (wf_take HWf.out q) (by omega)
                rw [List.map_take, HL.out] at hA
                refine Calls.mono (show Calls Try.prog 50 #[ptr b, .slice a' q c', .int .i64 (lv : Int)] V4 _ from hA) ?_
                clear hA HA HSub
                rintro e V5 (⟨x1, hg1, rfl, ⟨dv1, hm1⟩, hk5⟩ | ⟨hg1, ⟨z, rfl⟩, hb5⟩)
                · have HG1 := hide hg1
                  have HM5 := hide hm1
                  have HT5 := hide (HP4.out.tz.kp hk5 (by decide))
                  have HO5 := hide (HP4.out.os.kp hk5 (by decide))
                  have HK5 := hide (HP4.out.kp.trans hk5)
                  have HS1 := hide (g_len hg1)
                  have hsz1 : x1.size ≤ q := by have := HS1.out; simp at this; omega
                  clear hg1 hm1 hk5
                  obtain ⟨z1, hz1⟩ : ∃ z, ((NS.length + x1.size : Nat) : Int) - 1 = z := ⟨_, rfl⟩
                  rw [hz1]
                  have HZ1 := hide hz1
                  clear hz1
                  go_wp2_with (refine sub_l rfl _ _ rfl rfl HT5.out (q + 1) (by rfl) (by omega) ?_; intro a2 c2 hsub; have HSub := hide hsub; clear hsub)
                  have hB2 := HBc.out V5 dv1 (NS ++ x1.flat NS.length) a2 (n - (q + 1)) c2 HM5.out HSub.out (wf_drop HWf.out (q + 1)) (by simp [E.flat_len]; omega)
                  rw [List.map_drop, HL.out] at hB2
                  refine Calls.mono (show Calls Try.prog 50 #[ptr b, .slice a2 (n - (q + 1)) c2, .int .i64 ((lv + 1 : Nat) : Int)] V5 _ from hB2) ?_
                  clear hB2 HBc HSub
                  rintro e V6 (⟨x2, hg2, rfl, ⟨dv2, hm2⟩, hk6⟩ | ⟨hg2, ⟨z, rfl⟩, hb6⟩)
                  · have HG2 := hide hg2
                    have HM6 := hide hm2
                    have hop6 := op_cell (HO5.out.kp hk6 (by decide)) HBl.out (by rw [HML.out]; exact hil)
                    rw [hoz] at hop6
                    have HK6 := hide (HK5.out.trans hk6)
                    have HS2 := hide (g_len hg2)
                    have hsz2 : x2.size ≤ n - (q + 1) := by have := HS2.out; simp [HLl.out] at this; omega
                    clear hg2 hm2 hk6
                    have hlen : (NS ++ x1.flat NS.length).length = NS.length + x1.size := by simp [E.flat_len]
                    have hlen2 : (NS ++ x1.flat NS.length ++ x2.flat (NS ++ x1.flat NS.length).length).length = NS.length + x1.size + x2.size := by simp [E.flat_len]; omega
                    rw [hlen] at HM6 ⊢
                    rw [hlen] at hlen2
                    have HAd := hide (madd_any HM6.out ⟨oz, z1, ((NS.length + x1.size + x2.size : Nat) : Int) - 1, 0, 0, 0, 0, 0, 0⟩ (by rw [hlen2]; omega))
                    rw [hlen2] at HAd
                    generalize hz2 : ((NS.length + x1.size + x2.size : Nat) : Int) - 1 = z2 at *
                    have hil0 : (0 : Int) ≤ i := by omega
                    have hil1 : (i : Int) < ml := by omega
                    have HZ2 := hide hz2
                    clear hz2 hop hlen hlen2 hoz
                    go_wp2_with fail
                    refine HAd.out.mono ?_
                    rintro e V7 ⟨rfl, ⟨dv3, hm3⟩, hk7⟩
                    have HM7 := hide hm3
                    have HK7 := hide (HK6.out.trans hk7)
                    clear hm3 hk7
                    go_wp2_with fail
                    refine bodyPost_ret (v := .tuple #[.int .i64 ((NS.length + x1.size + x2.size : Nat) : Int), .bool true]) (by simp [results, Try.results50, go_sem]) rfl (.inl ⟨.bin oz x1 x2, (HCS.out _).2 ⟨x1, x2, rfl, HG1.out, HG2.out⟩, ?_, ⟨dv3, ?_⟩, HK7.out⟩)
                    · exact ret_pt (by simp only [E.size]; omega)
                    · have h := HM7.out
                      rw [← HZ1.out, ← HZ2.out] at h
                      simp only [E.flat, List.append_assoc] at h ⊢
                      exact h
                  · have HN := hide (show ∀ ex, ¬ G NM (lv + 1) L ex from fun ex hx => by
                      obtain ⟨xa, xb, -, -, h2⟩ := (HCS.out ex).1 hx
                      exact hg2 xb h2)
                    have HB6 := hide hb6
                    clear hg2 hb6
                    go_wp2_with fail
                    go_ret2
                    exact PP.no HN.out HB6.out
                · have HN := hide (show ∀ ex, ¬ G NM (lv + 1) L ex from fun ex hx => by
                    obtain ⟨xa, xb, -, h1, -⟩ := (HCS.out ex).1 hx
                    exact hg1 xa h1)
                  have HB5 := hide hb5
                  clear hg1 hb5
                  go_wp2_with fail
                  go_ret2
                  exact PP.no HN.out HB5.out
  · have HN := hide (show ∀ ex, ¬ G NM (lv + 1) L ex from fun ex hx => hbal (g_bal hx))
    have HB1 := hide (bel HM.out.old hb)
    clear hbal hb
    go_wp2_with fail
    go_ret2
    exact PP.no HN.out HB1.out

end Go.Proofs.Ytamekjocchekoaa

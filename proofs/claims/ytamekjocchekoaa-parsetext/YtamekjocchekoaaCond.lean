/-
  ref.making.cond: a choice, or an expression of two operands.
-/
import Derived.Test.YtamekjocchekoaaPair
namespace Go.Proofs.Ytamekjocchekoaa
open Go.RowKit Go.IntWalk Lx Pz
set_option linter.unusedVariables false

def fZ : Option Nat → Int
  | none => -1
  | some p => (p : Int)
/-- What the scan's slots hold. -/
def SqV (k : Nat) (s : Sq) (x y z : Value) : Prop :=
  (∃ f d, s = .go f d ∧ x = .int .i64 (fZ f) ∧ y = .int .i64 (d : Int) ∧ z = .int .i64 (-1) ∧ d ≤ k ∧ (f = none → d = 0)) ∨ (∃ p q, s = .hit p q ∧ x = .int .i64 (p : Int) ∧ y = .int .i64 0 ∧ z = .int .i64 (q : Int))
theorem sq_take {L : List Tk} {k : Nat} (hk : k < (ozl L).length) (s0 : Sq) : sq s0 ((outs 0 0 L).take (k + 1)) = sqStep (sq s0 ((outs 0 0 L).take k)) (outG L k) := by
  have hk' : k < (outs 0 0 L).length := by unfold ozl at hk; simpa using hk
  rw [List.take_succ_eq_append_getElem hk', sq_app]
  unfold outG
  rw [List.getD_eq_getElem?_getD, List.getElem?_eq_getElem hk']
  rfl
theorem sq_end {L : List Tk} {k : Nat} {p q : Nat} {s0 : Sq} (h : sq s0 ((outs 0 0 L).take k) = .hit p q) : sq s0 (outs 0 0 L) = .hit p q := by
  rw [← List.take_append_drop k (outs 0 0 L), sq_app, h, sq_hit]
theorem sq_endb {L : List Tk} {k : Nat} {s0 : Sq} (h : sq s0 ((outs 0 0 L).take k) = .bad) : sq s0 (outs 0 0 L) = .bad := by
  rw [← List.take_append_drop k (outs 0 0 L), sq_app, h, sq_bad]
theorem sq_all {L : List Tk} (s0 : Sq) : sq s0 ((outs 0 0 L).take (ozl L).length) = sq s0 (outs 0 0 L) := by
  rw [List.take_of_length_le (by unfold ozl; simp)]

/-- All that cond reads. -/
structure Co (w W V : World) (b : Nat) (nv bv dv : Value) (root : Int) (NM : List Txt) (BS : List Int) (NS : List Nd) (a : Option Addr) (n cap : Nat) (T : List Tok) (oa : Option Addr) (oc : Nat) : Prop where
  ma' : Mk w V b nv bv dv root NM BS NS
  tz : Tz V a n cap T
  out : Iz V oa (ozl (T.map ab)).length oc (ozl (T.map ab))
  kp : Kp SM W V
theorem Co.later {w W V V' : World} {b : Nat} {nv bv dv : Value} {root : Int} {NM : List Txt} {BS : List Int} {NS : List Nd} {a : Option Addr} {n cap : Nat} {T : List Tok} {oa : Option Addr} {oc : Nat} (h : Co w W V b nv bv dv root NM BS NS a n cap T oa oc) (hb : Below V.heap.size V V') : Co w W V' b nv bv dv root NM BS NS a n cap T oa oc :=
  ⟨h.ma'.later hb, h.tz.later hb, h.out.later hb, h.kp.trans (Kp.of_below SM hb)⟩

set_option maxRecDepth 100000 in
set_option maxHeartbeats 16000000 in
theorem cond_rd {w : World} {b : Nat} {nv bv : Value} {root : Int} {NM : List Txt} {BS : List Int} (T : List Tok)
    (ih : ∀ T' : List Tok, T'.length < T.length → CC w b nv bv root NM BS 50 [.int .i64 0] 1 T' ∧ CC w b nv bv root NM BS 27 [] 0 T')
    (up : CC w b nv bv root NM BS 50 [.int .i64 0] 1 T) : CC w b nv bv root NM BS 27 [] 0 T := by
  intro W dv NS a n cap hM hT hw hn
  have HM := hide hM
  have HT := hide hT
  have HWf := hide hw
  have HTl := hide hT.t.len
  have HU := hide up
  have HIH := hide ih
  clear hM hT hw up ih
  obtain ⟨L, hL⟩ : ∃ L, T.map ab = L := ⟨_, rfl⟩
  have HL := hide hL
  have HLl := hide (show L.length = n by rw [← hL, List.length_map, HTl.out])
  rw [hL]
  clear hL
  show Calls Try.prog 27 #[ptr b, .slice a n cap] W _
  go_enter Try.func27, Try.ntmps27
  go_wp2_with fail
  refine (outer_any HT.out.t HWf.out (by omega)).mono ?_
  rw [HL.out]
  rintro e V1 (⟨hbal, v, rfl, hO, hb⟩ | ⟨hbal, v, rfl, hb⟩)
  · obtain ⟨oa, oc, rfl, hOi⟩ := Iz.of_owns hO
    have HC := hide (show Co w W V1 b nv bv dv root NM BS NS a n cap T oa oc from ⟨HM.out.later hb, HT.out.later hb, by rw [HL.out]; exact hOi, Kp.of_below SM hb⟩)
    have hol : (ozl L).length ≤ 2000 := by have := ozl_len L; rw [HLl.out] at this; omega
    obtain ⟨ol, hol2⟩ : ∃ m, (ozl L).length = m := ⟨_, rfl⟩
    have HOL := hide hol2
    rw [hol2] at hol ⊢
    clear hbal hO hOi hb HM HT hol2
    go_wp2_with fail
    go_loopw [8, 9, 10, 11] (fun x y z i wr => ∃ k : Nat, k ≤ ol ∧ i = .int .i64 (k : Int) ∧ Hid (∃ s, sq (.go none 0) ((outs 0 0 L).take k) = s ∧ SqV k s x y z) ∧ Hid (Co w W wr b nv bv dv root NM BS NS a n cap T oa oc)) (fun _ _ z i _ => if intOf z < 0 then ol + 1 - (intOf i).toNat else 0)
    case atStart => exact ⟨0, Nat.zero_le _, rfl, hide ⟨_, rfl, .inl ⟨none, 0, rfl, rfl, rfl, rfl, Nat.le_refl _, fun _ => rfl⟩⟩, hide HC.out⟩
    case round =>
      obtain ⟨k, hk, rfl, HS, HC⟩ := hrel
      rename World => V
      obtain ⟨s, hsq, hsv⟩ := HS.out
      clear HS
      rcases hsv with ⟨f, d, rfl, rfl, rfl, rfl, hdk, hfd⟩ | ⟨p, q, rfl, rfl, rfl, rfl⟩
      · by_cases hlt : k < ol
        · have hkl : k < (ozl L).length := by rw [HOL.out]; exact hlt
          have HST := hide (sq_take hkl (.go none 0))
          rw [hsq] at HST
          obtain ⟨g0, oo, rfl, hoc⟩ := out_cell (L := L) (by have := HC.out.out; rw [HL.out] at this; exact this) hkl
          obtain ⟨-, hq1, hq2⟩ := out_at hkl
          rw [HLl.out] at hq1
          obtain ⟨q, tk, hqt⟩ : ∃ q tk, outG L k = (q, tk) := ⟨_, _, rfl⟩
          rw [hqt] at hoc hq1 hq2 HST
          simp only at hoc hq1 hq2
          obtain ⟨g1, off, rfl, e0, e1, e2⟩ := HC.out.tz.at hq1
          obtain ⟨hwf, hab⟩ := wf_at HWf.out (i := q) (by rw [HTl.out]; exact hq1)
          rw [HL.out, hq2] at hab
          have hab' : ab (T.getD q t0) = tk := (Option.some.inj hab).symm
          have HM1 := hide (mark_ab hwf (s := [63]) (by decide))
          have HM2 := hide (mark_ab hwf (s := [58]) (by decide))
          rw [hab', show mkT [63] = .ques by decide] at HM1
          rw [hab', show mkT [58] = .colon by decide] at HM2
          have hk3 : (k : Int) < ol := by omega
          have hk4 : (0 : Int) ≤ k := by omega
          have hq3 : (0 : Int) ≤ q := by omega
          have hq4 : (q : Int) < n := by omega
          clear hqt hab hab' hwf hq2 hsq
          generalize htq : T.getD q t0 = t at *
          clear htq
          obtain ⟨kd, X, ps⟩ := t
          simp only at e0 e1 e2 HM1 HM2
          have HF0 := fun V' (hb : Below V.heap.size V V') => And.intro ((hb.cell (World.block_lt_of_cell? V _ e0)).trans e0) (And.intro ((hb.cell (World.block_lt_of_cell? V _ e1)).trans e1) (And.intro ((hb.cell (World.block_lt_of_cell? V _ e2)).trans e2) ((hb.cell (World.block_lt_of_cell? V _ hoc)).trans hoc)))
          have HF := hide HF0
          clear HF0
          have HQ1 := hide (qmark_any kd ps X [63] V)
          rw [HM1.out] at HQ1
          by_cases h1 : tk = .ques
          · subst h1
            rw [decide_eq_true rfl] at HQ1
            have HSn := hide (HST.out.trans rfl)
            have HMf := hide (show (kd == 3 && X == [58]) = false by rw [HM2.out]; rfl)
            clear HST HM1 HM2
            cases f with
            | none =>
              obtain rfl : d = 0 := hfd rfl
              clear hfd
              go_wp2_with fail
              refine HQ1.out.mono ?_
              rintro e V2 ⟨rfl, hb⟩
              obtain ⟨e0', e1', e2', hoc'⟩ := HF.out V2 hb
              have HC2 := hide (HC.out.later hb)
              have HQ2 := hide (qmark_any kd ps X [58] V2)
              rw [HMf.out] at HQ2
              clear hb HC e0 e1 e2 hoc
              have hfz : fZ none < 0 := by decide
              go_wp2_with fail
              refine HQ2.out.mono ?_
              rintro e V3 ⟨rfl, hb⟩
              have HC3 := hide (HC2.out.later hb)
              clear hb HC2 e0' e1' e2' hoc'
              go_wp2_with fail
              go_roundw
              case rel => exact ⟨k + 1, by omega, by go_num, hide ⟨_, HSn.out, .inl ⟨some q, 1, rfl, rfl, rfl, rfl, by omega, fun h => by cases h⟩⟩, hide HC3.out⟩
              case measure => simp [intOf]; omega
            | some p =>
              clear hfd
              go_wp2_with fail
              refine HQ1.out.mono ?_
              rintro e V2 ⟨rfl, hb⟩
              obtain ⟨e0', e1', e2', hoc'⟩ := HF.out V2 hb
              have HC2 := hide (HC.out.later hb)
              have HQ2 := hide (qmark_any kd ps X [58] V2)
              rw [HMf.out] at HQ2
              clear hb HC e0 e1 e2 hoc
              have hfz : ¬ (fZ (some p) < 0) := by simp [fZ]
              go_wp2_with fail
              refine HQ2.out.mono ?_
              rintro e V3 ⟨rfl, hb⟩
              have HC3 := hide (HC2.out.later hb)
              clear hb HC2 e0' e1' e2' hoc'
              go_wp2_with fail
              go_roundw
              case rel => exact ⟨k + 1, by omega, by go_num, hide ⟨_, HSn.out, .inl ⟨some p, d + 1, rfl, rfl, by go_num, rfl, by omega, fun h => by cases h⟩⟩, hide HC3.out⟩
              case measure => simp [intOf]; omega
          · rw [decide_eq_false h1] at HQ1
            go_wp2_with fail
            refine HQ1.out.mono ?_
            rintro e V2 ⟨rfl, hb⟩
            obtain ⟨e0', e1', e2', hoc'⟩ := HF.out V2 hb
            have HC2 := hide (HC.out.later hb)
            have HQ2 := hide (qmark_any kd ps X [58] V2)
            rw [HM2.out] at HQ2
            have HBV := hide hb
            clear hb HC e0 e1 e2 hoc HM1 HM2
            by_cases h2 : tk = .colon
            · subst h2
              rw [decide_eq_true rfl] at HQ2
              match d, hdk, hfd, HST with
              | 0, hdk, hfd, HST =>
                have HN := hide (show ∀ ex, ¬ G NM 0 L ex from fun ex hx => by
                  have h3 := sq_endb (k := k + 1) (HST.out.trans rfl)
                  rcases cond_bad hx with ⟨h4, -⟩ | ⟨l1, l2, l3, xa, xb, xd, -, -, -, -, -, h4⟩ <;> (rw [h4] at h3; cases h3))
                go_wp2_with fail
                refine HQ2.out.mono ?_
                rintro e V3 ⟨rfl, hb⟩
                have HC3 := hide (HC2.out.later hb)
                clear hb HC2 e0' e1' e2' hoc'
                go_wp2_with fail
                go_ret2
                exact PP.no HN.out HC3.out.ma'.old
              | 1, hdk, hfd, HST =>
                cases f with
                | none => exact absurd (hfd rfl) (by decide)
                | some p =>
                  have HSn := hide (HST.out.trans rfl)
                  clear HST hfd
                  go_wp2_with fail
                  refine HQ2.out.mono ?_
                  rintro e V3 ⟨rfl, hb⟩
                  obtain ⟨-, -, -, hoc3⟩ := HF.out V3 (bel HBV.out hb)
                  have HC3 := hide (HC2.out.later hb)
                  clear hb HC2 e0' e1' e2' hoc'
                  go_wp2_with fail
                  go_roundw
                  case rel => exact ⟨k + 1, by omega, by go_num, hide ⟨_, HSn.out, .inr ⟨p, q, rfl, rfl, rfl, rfl⟩⟩, hide HC3.out⟩
                  case measure =>
                    have hqn : ¬ ((q : Int) < 0) := by omega
                    simp [intOf, hqn]
                    try omega
              | d + 2, hdk, hfd, HST =>
                have HSn := hide (HST.out.trans rfl)
                clear HST
                go_wp2_with fail
                refine HQ2.out.mono ?_
                rintro e V3 ⟨rfl, hb⟩
                have HC3 := hide (HC2.out.later hb)
                clear hb HC2 e0' e1' e2' hoc'
                go_wp2_with fail
                go_roundw
                case rel => exact ⟨k + 1, by omega, by go_num, hide ⟨_, HSn.out, .inl ⟨f, d + 1, rfl, rfl, by go_num, rfl, by omega, fun h => absurd (hfd h) (by omega)⟩⟩, hide HC3.out⟩
                case measure => simp [intOf]; omega
            · rw [decide_eq_false h2] at HQ2
              have HSn := hide (HST.out.trans (show sqStep (.go f d) (q, tk) = .go f d from by cases tk <;> first | rfl | exact absurd rfl h1 | exact absurd rfl h2))
              clear HST
              go_wp2_with fail
              refine HQ2.out.mono ?_
              rintro e V3 ⟨rfl, hb⟩
              have HC3 := hide (HC2.out.later hb)
              clear hb HC2 e0' e1' e2' hoc'
              go_wp2_with fail
              go_roundw
              case rel => exact ⟨k + 1, by omega, by go_num, hide ⟨_, HSn.out, .inl ⟨f, d, rfl, rfl, rfl, rfl, by omega, hfd⟩⟩, hide HC3.out⟩
              case measure => simp [intOf]; omega
        · obtain rfl : k = ol := by omega
          have HSF := hide (show sq (.go none 0) (outs 0 0 L) = .go f d by rw [← sq_all, HOL.out]; exact hsq)
          clear hsq
          cases f with
          | none =>
            have hfz : fZ none < 0 := by decide
            have HCn := hide (fun ex => cond_none (nm := NM) (e := ex) HSF.out)
            go_wp2_with fail
            have HUc := HU.out V dv NS a n cap HC.out.ma' HC.out.tz HWf.out hn
            rw [HL.out] at HUc
            refine Calls.mono (show Calls Try.prog 50 #[ptr b, .slice a n cap, .int .i64 0] V _ from HUc) ?_
            clear HUc
            intro e V3 hpp
            have HPP := hide ((hpp.from HC.out.kp).iff fun ex => (HCn.out ex).symm)
            clear hpp
            rcases HPP.out with ⟨ex, h1, rfl, h3, h4⟩ | ⟨h1, ⟨z, rfl⟩, h2⟩
            · clear h1 h3 h4
              go_wp2_with fail
              go_ret2
              exact HPP.out
            · clear h1 h2
              go_wp2_with fail
              go_ret2
              exact HPP.out
          | some p =>
            have hfz : ¬ (fZ (some p) < 0) := by simp [fZ]
            have HN := hide (show ∀ ex, ¬ G NM 0 L ex from fun ex hx => by
              have h3 := HSF.out
              rcases cond_bad hx with ⟨h4, -⟩ | ⟨l1, l2, l3, xa, xb, xd, -, -, -, -, -, h4⟩ <;> (rw [h4] at h3; cases h3))
            go_wp2_with fail
            go_ret2
            exact PP.no HN.out HC.out.ma'.old
      · have HSF := sq_end hsq
        obtain ⟨hpq, hql, hsp⟩ := sq_split HSF
        have HG := hide (fun ex => cond_hit (nm := NM) (e := ex) HSF hsp)
        rw [HLl.out] at hql
        clear hsq HSF hsp
        have hz1 : ¬ ((p : Int) < 0) := by omega
        have hz2 : ¬ ((q : Int) < 0) := by omega
        have HA := hide (HIH.out (T.take p) (by rw [List.length_take, HTl.out]; omega)).1
        have HBc := hide (HIH.out ((T.take q).drop (p + 1)) (by rw [List.length_drop, List.length_take, HTl.out]; omega)).2
        have HCc := hide (HIH.out (T.drop (q + 1)) (by rw [List.length_drop, HTl.out]; omega)).2
        go_wp2_with (refine sub_h rfl _ _ rfl rfl HC.out.tz p (by rfl) (by omega) ?_; intro a' c' hsub; have HSub := hide hsub; clear hsub)
        all_goals
          have hA := HA.out V dv NS a' p c' HC.out.ma' HSub.out (wf_take HWf.out p) (by omega)
          rw [List.map_take, HL.out] at hA
          refine Calls.mono (show Calls Try.prog 50 #[ptr b, .slice a' p c', .int .i64 0] V _ from hA) ?_
          clear hA HA HSub
          rintro e V5 (⟨x1, hg1, rfl, ⟨dv1, hm1⟩, hk5⟩ | ⟨hg1, ⟨z, rfl⟩, hb5⟩)
          · have HG1 := hide hg1
            have HM5 := hide hm1
            have HT5 := hide (HC.out.tz.kp hk5 (by decide))
            have HK5 := hide (HC.out.kp.trans hk5)
            have HS1 := hide (g_len hg1)
            have hsz1 : x1.size ≤ p := by have := HS1.out; simp at this; omega
            clear hg1 hm1 hk5
            obtain ⟨z1, hz⟩ : ∃ z, ((NS.length + x1.size : Nat) : Int) - 1 = z := ⟨_, rfl⟩
            rw [hz]
            have HZ1 := hide hz
            clear hz
            go_wp2_with (refine sub_lh rfl _ _ _ rfl rfl HT5.out (p + 1) q (by rfl) (by rfl) (by omega) (by omega) ?_; intro a2 c2 hsub; have HSub := hide hsub; clear hsub)
            have hB2 := HBc.out V5 dv1 (NS ++ x1.flat NS.length) a2 (q - (p + 1)) c2 HM5.out HSub.out (wf_sub HWf.out (p + 1) q) (by simp [E.flat_len]; omega)
            rw [List.map_drop, List.map_take, HL.out, List.drop_take] at hB2
            refine Calls.mono (show Calls Try.prog 27 #[ptr b, .slice a2 (q - (p + 1)) c2] V5 _ from hB2) ?_
            clear hB2 HBc HSub
            rintro e V6 (⟨x2, hg2, rfl, ⟨dv2, hm2⟩, hk6⟩ | ⟨hg2, ⟨z, rfl⟩, hb6⟩)
            · have HG2 := hide hg2
              have HM6 := hide hm2
              have HT6 := hide (HT5.out.kp hk6 (by decide))
              have HK6 := hide (HK5.out.trans hk6)
              have HS2 := hide (g_len hg2)
              have hsz2 : x2.size ≤ q - (p + 1) := by have := HS2.out; simp [HLl.out] at this; omega
              clear hg2 hm2 hk6 HT5
              have hlen : (NS ++ x1.flat NS.length).length = NS.length + x1.size := by simp [E.flat_len]
              rw [hlen] at HM6 ⊢
              clear hlen
              obtain ⟨z2, hz⟩ : ∃ z, ((NS.length + x1.size + x2.size : Nat) : Int) - 1 = z := ⟨_, rfl⟩
              rw [hz]
              have HZ2 := hide hz
              clear hz
              go_wp2_with (refine sub_l rfl _ _ rfl rfl HT6.out (q + 1) (by rfl) (by omega) ?_; intro a3 c3 hsub; have HSub := hide hsub; clear hsub)
              have hC2 := HCc.out V6 dv2 (NS ++ x1.flat NS.length ++ x2.flat (NS.length + x1.size)) a3 (n - (q + 1)) c3 HM6.out HSub.out (wf_drop HWf.out (q + 1)) (by simp [E.flat_len]; omega)
              rw [List.map_drop, HL.out] at hC2
              refine Calls.mono (show Calls Try.prog 27 #[ptr b, .slice a3 (n - (q + 1)) c3] V6 _ from hC2) ?_
              clear hC2 HCc HSub
              rintro e V7 (⟨x3, hg3, rfl, ⟨dv3, hm3⟩, hk7⟩ | ⟨hg3, ⟨z, rfl⟩, hb7⟩)
              · have HG3 := hide hg3
                have HM7 := hide hm3
                have HK7 := hide (HK6.out.trans hk7)
                have HS3 := hide (g_len hg3)
                have hsz3 : x3.size ≤ n - (q + 1) := by have := HS3.out; simp [HLl.out] at this; omega
                clear hg3 hm3 hk7
                have hlen : (NS ++ x1.flat NS.length ++ x2.flat (NS.length + x1.size)).length = NS.length + x1.size + x2.size := by simp [E.flat_len]; omega
                have hlen2 : (NS ++ x1.flat NS.length ++ x2.flat (NS.length + x1.size) ++ x3.flat (NS.length + x1.size + x2.size)).length = NS.length + x1.size + x2.size + x3.size := by simp [E.flat_len]; omega
                rw [hlen] at HM7 ⊢
                obtain ⟨z3, hz⟩ : ∃ z, ((NS.length + x1.size + x2.size + x3.size : Nat) : Int) - 1 = z := ⟨_, rfl⟩
                rw [hz]
                have HZ3 := hide hz
                have HAd := hide (madd_any HM7.out ⟨28, z1, z2, z3, 0, 0, 0, 0, 0⟩ (by rw [hlen2]; omega))
                rw [hlen2] at HAd
                clear hz hlen hlen2
                go_wp2_with fail
                refine HAd.out.mono ?_
                rintro e V8 ⟨rfl, ⟨dv4, hm4⟩, hk8⟩
                have HM8 := hide hm4
                have HK8 := hide (HK7.out.trans hk8)
                clear hm4 hk8
                go_wp2_with fail
                refine bodyPost_ret (v := .tuple #[.int .i64 ((NS.length + x1.size + x2.size + x3.size : Nat) : Int), .bool true]) (by simp [results, Try.results27, go_sem]) rfl (.inl ⟨.tri 28 x1 x2 x3, (HG.out _).2 ⟨x1, x2, x3, rfl, HG1.out, HG2.out, HG3.out⟩, ?_, ⟨dv4, ?_⟩, HK8.out⟩)
                · exact ret_pt (by simp only [E.size]; omega)
                · have h := HM8.out
                  rw [← HZ1.out, ← HZ2.out, ← HZ3.out] at h
                  simp only [E.flat, List.append_assoc] at h ⊢
                  exact h
              · have HN := hide (show ∀ ex, ¬ G NM 0 L ex from fun ex hx => by
                  obtain ⟨xa, xb, xc, -, -, -, h3⟩ := (HG.out ex).1 hx
                  exact hg3 xc h3)
                have HB7 := hide hb7
                clear hg3 hb7
                go_wp2_with fail
                go_ret2
                exact PP.no HN.out HB7.out
            · have HN := hide (show ∀ ex, ¬ G NM 0 L ex from fun ex hx => by
                obtain ⟨xa, xb, xc, -, -, h2, -⟩ := (HG.out ex).1 hx
                exact hg2 xb h2)
              have HB6 := hide hb6
              clear hg2 hb6
              go_wp2_with fail
              go_ret2
              exact PP.no HN.out HB6.out
          · have HN := hide (show ∀ ex, ¬ G NM 0 L ex from fun ex hx => by
              obtain ⟨xa, xb, xc, -, h1, -, -⟩ := (HG.out ex).1 hx
              exact hg1 xa h1)
            have HB5 := hide hb5
            clear hg1 hb5
            go_wp2_with fail
            go_ret2
            exact PP.no HN.out HB5.out
  · have HN := hide (show ∀ ex, ¬ G NM 0 L ex from fun ex hx => hbal (g_bal hx))
    have HB1 := hide (bel HM.out.old hb)
    clear hbal hb
    go_wp2_with fail
    go_ret2
    exact PP.no HN.out HB1.out

end Go.Proofs.Ytamekjocchekoaa

/-
  verify.may, verify.spansOf and verify.Verify.
-/
import Derived.Test.YtihbhbeaihdgnaaGreatRGZE
import Derived.Test.YtihbhbeaihdgnaaGreatRGC
import Derived.Deep.RegionHeld3
import Derived.Deep.QuietTactic
import Derived.BigQuiet
namespace Go.Proofs.Vfy
open Go.RowKit Go.IntWalk YtihbhbeaihdgnaaGreat.Knd
open Cde (In i0 ia kd cd Ins agL arN okI okT mcB coL six_of four_of has_new1 take_snoc)
set_option linter.unusedVariables false

def ahE (b : Bool) : Int := if b = true then 11 else 0
theorem my_cases (f d : Int) (L : List In) (out : Int) : (mcB f d L out = true ∧ myE f d L out = ahE (L.any (ahI f d))) ∨ (¬ mcB f d L out = true ∧ myE f d L out = 15) := by
  unfold myE ahE
  by_cases h : mcB f d L out = true
  · exact .inl ⟨h, if_pos h⟩
  · exact .inr ⟨h, if_neg h⟩
theorem ret_z {x y : Int} (h : x = y) : Ending.returned (.int .i64 x) = .returned (.int .i64 y) := by rw [h]

set_option maxRecDepth 100000 in
set_option maxHeartbeats 4000000 in
theorem ymay_any (f d out : Int) {a : Option Addr} {n cap : Nat} {L : List In} {W : World} (hL : Ins W a n cap L) :
    Calls Tryz.prog 38 #[.agg (cd f d a n cap out)] W fun e W' => e = .returned (.int .i64 (myE f d L out)) ∧ Below W.heap.size W W' := by
  have hb1 := bel1 W (.cells (cd f d a n cap out) 26)
  have HB0 := hide hb1
  have HC0 := hide (HasC.new W 26 (cd f d a n cap out))
  have HCk := hide (Cde.ccheck_any f d out (hL.later hb1))
  have HLI := hide hL
  have HLn := hide hL.len
  clear hb1 hL
  rcases my_cases f d L out with ⟨hm, h0⟩ | ⟨hm, h0⟩
  · obtain ⟨-, m1, m2, -, -, -⟩ := Cde.mc_parts hm
    rw [HLn.out] at m1 m2
    rw [show Cde.ccE f d L out = 0 by rw [Cde.ccE, if_pos hm]] at HCk
    rw [h0]
    have HCo := hide fun w => count_any f d w
    have HA2 := hide fun k => ah_snoc (f := f) (d := d) (L := L) (k := k)
    have HA3 := hide fun k => ah_of (f := f) (d := d) (L := L) (k := k)
    unfold ahI at HA2 HA3
    unfold ahI
    generalize countZ f d = cz at *
    obtain ⟨R, hR⟩ : ∃ R : Bool, (L.any fun n => n.op == 3 && decide (cz ≤ n.k)) = R := ⟨_, rfl⟩
    rw [hR] at HA3 ⊢
    have HR := hide hR
    obtain ⟨E, hE⟩ : ∃ E : Int, ahE R = E := ⟨_, rfl⟩
    rw [hE]
    have HE := hide hE
    clear hm h0 hR hE
    go_enter Tryz.func38, Tryz.ntmps38
    go_wp2_with fail
    refine HCk.out.mono ?_
    rintro e V1 ⟨rfl, hb⟩
    have HC1 := hide (HC0.out.below hb)
    have HB1 := hide (bel HB0.out hb)
    obtain ⟨c0, c1, c2, c3⟩ := four_of HC1.out
    clear hb HC0 HB0 HCk
    go_wp2_with fail
    refine (HCo.out _).mono ?_
    rintro e V2 ⟨rfl, hb⟩
    have HC2 := hide (HC1.out.below hb)
    have HB2 := hide (bel HB1.out hb)
    clear hb HC1 HB1 c0 c1 c2 c3
    obtain ⟨c0, c1, c2, c3⟩ := four_of HC2.out
    go_wp2_with fail
    clear c0 c1 c2 c3
    go_loopw [18] (fun i wr => ∃ k : Nat, k ≤ n ∧ i = .int .i64 k ∧ Hid ((L.take k).any (fun n => n.op == 3 && decide (cz ≤ n.k)) = false) ∧ Hid (Below W.heap.size W wr)) (fun i _ => n - (intOf i).toNat)
    case atStart => exact ⟨0, Nat.zero_le _, rfl, hide rfl, HB2⟩
    case round =>
      obtain ⟨k, hk, rfl, HA, HB⟩ := hrel
      rename World => V
      clear HB2
      by_cases hlt : k < n
      · obtain ⟨g, off, rfl, -, hat⟩ := (HLI.out.later HB.out).at (by omega)
        obtain ⟨e0, e1, e2, e3, e4, e5⟩ := hat k hlt
        clear hat
        have hi0 : (0 : Int) ≤ k := by omega
        have hi1 : (k : Int) < n := by omega
        have HS2 := hide (HA2.out k (by rw [HLn.out]; exact hlt) HA.out)
        have HS3 := hide (HA3.out k (by rw [HLn.out]; exact hlt))
        generalize L.getD k i0 = m at *
        have HB3 := hide (bel HB.out (bel1 V (.cells (ia m) 41)))
        clear HA2 HA3
        by_cases ho : m.op = 3
        · have ho1 : (m.op == 3) = true := by simpa using ho
          by_cases hc : cz ≤ m.k
          · have hc1 : decide (cz ≤ m.k) = true := by simpa using hc
            have HT := hide (HS3.out (by rw [ho1, hc1]; rfl))
            clear HS2 HS3 ho hc
            go_wp2_with fail
            go_ret
            exact ⟨ret_z (by rw [← HE.out, HT.out]; rfl), HB3.out⟩
          · have hc1 : decide (cz ≤ m.k) = false := by simpa using hc
            have HT := hide (HS2.out (by rw [hc1]; simp))
            clear HS2 HS3 ho hc
            go_wp2_with fail
            go_roundw
            case rel => exact ⟨k + 1, by omega, by go_num, hide HT.out, HB3⟩
            case measure => simp [intOf]; omega
        · have ho1 : (m.op == 3) = false := by simpa using ho
          have HT := hide (HS2.out (by rw [ho1]; rfl))
          clear HS2 HS3 ho
          go_wp2_with fail
          go_roundw
          case rel => exact ⟨k + 1, by omega, by go_num, hide HT.out, HB3⟩
          case measure => simp [intOf]; omega
      · obtain rfl : k = n := by omega
        have hT := HA.out
        rw [List.take_of_length_le (by rw [HLn.out]; exact Nat.le_refl _), HR.out] at hT
        have HT := hide hT
        clear hT
        go_wp2_with fail
        go_ret
        exact ⟨ret_z (by rw [← HE.out, HT.out]; rfl), HB.out⟩
  · rw [show Cde.ccE f d L out = 15 by rw [Cde.ccE, if_neg hm]] at HCk
    rw [h0]
    clear hm h0
    go_enter Tryz.func38, Tryz.ntmps38
    go_wp2_with fail
    refine HCk.out.mono ?_
    rintro e V1 ⟨rfl, hb⟩
    have HB1 := hide (bel HB0.out hb)
    clear hb
    go_wp2_with fail
    go_ret
    exact ⟨rfl, HB1.out⟩

/-- What spansOf answers. -/
def SpP (w : World) (Z : Int × Sps) (e : Ending) (W' : World) : Prop :=
  (Z.1 ≠ 0 ∧ e = .returned (.tuple #[.slice none 0 0, .int .i64 Z.1]) ∧ Below w.heap.size w W') ∨
  (Z.1 = 0 ∧ ∃ g, e = .returned (.tuple #[.slice (some ⟨g, 0, none⟩) Z.2.length Z.2.length, .int .i64 0]) ∧ w.heap.size ≤ g ∧ HasC W' g 74 (spA Z.2) ∧ Below w.heap.size w W')

set_option maxRecDepth 100000 in
set_option maxHeartbeats 4000000 in
theorem yspans_any (f d out : Int) {a : Option Addr} {n cap : Nat} {L : List In} {W : World} (hL : Ins W a n cap L) (hok : okT L L.length = true) (hn : n ≤ 1024) :
    Calls Tryz.prog 39 #[.agg (cd f d a n cap out)] W (SpP W (sgF f d L)) := by
  have hmk := make_sp n hn
  have hb1 := bel1 W (.cells (cd f d a n cap out) 26)
  have HB0 := hide (bel hb1 (bel1 (W.alloc (.cells (cd f d a n cap out) 26)) (.cells (spA (List.replicate n (0, 0))) 74)))
  have HC0 := hide ((HasC.new W 26 (cd f d a n cap out)).alloc (.cells (spA (List.replicate n (0, 0))) 74))
  have HG0 := hide (has_new1 W (.cells (cd f d a n cap out) 26) 74 (spA (List.replicate n (0, 0))))
  have HLI := hide hL
  have HLn := hide hL.len
  rw [hL.len] at hok
  have HOk := hide hok
  clear hb1 hL hok
  go_enter Tryz.func39, Tryz.ntmps39
  go_wp2_with fail
  clear hmk
  go_loopw [16] (fun i wr => ∃ (k : Nat) (S : Sps), k ≤ n ∧ i = .int .i64 k ∧ Hid (sgF f d (L.take k) = (0, S)) ∧ Hid (S.length = k) ∧ Hid (HasC wr (W.heap.size + 1) 74 (spA (S ++ List.replicate (n - k) (0, 0)))) ∧ Hid (HasC wr W.heap.size 26 (cd f d a n cap out)) ∧ Hid (Below W.heap.size W wr)) (fun i _ => n - (intOf i).toNat)
  case atStart => exact ⟨0, [], Nat.zero_le _, rfl, hide rfl, hide rfl, HG0, HC0, HB0⟩
  case round =>
    obtain ⟨k, S, hk, rfl, HS, HSl, HG, HC, HB⟩ := hrel
    rename World => V
    clear HG0 HC0 HB0
    by_cases hlt : k < n
    · obtain ⟨b, off, rfl, -, hat⟩ := (HLI.out.later HB.out).at (by omega)
      obtain ⟨e0, e1, e2, e3, e4, e5⟩ := hat k hlt
      clear hat
      have hi0 : (0 : Int) ≤ k := by omega
      have hi1 : (k : Int) < n := by omega
      have hOk := Cde.okT_at HOk.out hlt
      have hS2 := sgF_snoc f d (L.take k) (L.getD k i0)
      rw [← take_snoc i0 (by rw [HLn.out]; exact hlt), HS.out] at hS2
      have HS2 := hide hS2
      have HSt := hide fun e h he => sgF_bad (f := f) (d := d) (L := L) (k := k + 1) (e := e) h he
      clear hS2
      generalize L.getD k i0 = m at *
      have hb := bel1 V (.cells (ia m) 41)
      have HG2 := hide (HG.out.below hb)
      have HC2 := hide (HC.out.below hb)
      have HB2 := hide (bel HB.out hb)
      have hl : (S ++ List.replicate (n - k) ((0 : Int), (0 : Int))).length = n := by simp [HSl.out]; omega
      have hV := spans_has HG2.out (by rw [hl]; omega)
      rw [hl] at hV
      have HV := hide (yspan_any f d hOk hV (by omega))
      rw [sgI_pre (by rw [HSl.out]; exact hOk)] at HV
      obtain ⟨c0, c1, c2, c3⟩ := four_of HC.out
      have hz0 := HC.out.lt
      have hz1 := HG.out.lt
      clear hb hV hl hOk
      unfold sgS at HS2
      generalize sgI f d S m = X at *
      obtain ⟨⟨lo, hi⟩, er⟩ := X
      simp only [if_true] at HS2
      go_wp2_with fail
      refine HV.out.mono ?_
      rintro e V3 ⟨rfl, hb⟩
      have HG3 := hide (HG2.out.below hb)
      have HC3 := hide (HC2.out.below hb)
      have HB3 := hide (bel HB2.out hb)
      clear hb HV HG2 HC2 HB2 c0 c1 c2 c3 e0 e1 e2 e3 e4 e5
      by_cases he : er = 0
      · subst he
        rw [if_pos rfl] at HS2
        have HX := HG3.out
        rw [rep_succ hlt] at HX
        have ya := HX.frozen (k * 2)
        have yb := HX.frozen (k * 2 + 1)
        have hza := HX.lt
        obtain ⟨ca, hca⟩ := spA_get (S ++ (0, 0) :: List.replicate (n - (k + 1)) (0, 0)) k (by simp [HSl.out])
        have da := HX.cell (k * 2) ca
        have db := HX.cell (k * 2 + 1) hca
        have HG4 := hide ((put_sp HX HSl.out lo hi).alloc (.cells #[.int .i64 lo, .int .i64 hi] 74))
        have HC4 := hide ((oth2' HC3.out (r := W.heap.size + 1) (k := k) (by omega) (.int .i64 lo) (.int .i64 hi)).alloc (.cells #[.int .i64 lo, .int .i64 hi] 74))
        have HB4 := hide (bel ((HB3.out.setCell (p := ⟨W.heap.size + 1, k * 2, none⟩) (by simp) (.int .i64 lo)).setCell (p := ⟨W.heap.size + 1, k * 2 + 1, none⟩) (by simp) (.int .i64 hi)) (bel1 _ (.cells #[.int .i64 lo, .int .i64 hi] 74)))
        clear HX ca hca HG3 HC3 HB3 HSt HG HC HB hz0 hz1
        go_wp2_with fail
        go_roundw
        case rel => exact ⟨k + 1, S ++ [(lo, hi)], by omega, by go_num, hide HS2.out, hide (by simp [HSl.out]), hide (by rw [List.append_assoc]; exact HG4.out), hide HC4.out, hide HB4.out⟩
        case measure => simp [intOf]; omega
      · rw [if_neg he] at HS2
        have HE := hide (HSt.out _ HS2.out he)
        have HN := hide he
        have he2 : (er != 0) = true := by simpa using he
        clear HS2 HSt he
        go_wp2_with fail
        exact bodyPost_ret (v := .tuple #[.slice none 0 0, .int .i64 er]) (by simp [results, Tryz.results39, go_sem]) rfl (.inl (by rw [HE.out]; exact ⟨HN.out, rfl, bel HB3.out (bel1 _ _)⟩))
    · obtain rfl : k = n := by omega
      have hD := HS.out
      rw [List.take_of_length_le (by rw [HLn.out]; exact Nat.le_refl _)] at hD
      have HE := hide hD
      have HX := HG.out
      rw [Nat.sub_self, List.replicate_zero, List.append_nil] at HX
      have HX2 := hide HX
      clear hD HX
      go_wp2_with fail
      exact bodyPost_ret (v := .tuple #[.slice (some ⟨W.heap.size + 1, 0, none⟩) k k, .int .i64 0]) (by simp [results, Tryz.results39, go_sem]) rfl (.inr (by rw [HE.out]; exact ⟨rfl, _, by rw [HSl.out], by omega, HX2.out, HB.out⟩))

theorem vf_may {f d : Int} {L : List In} {out : Int} (h : myE f d L out ≠ 0) : vfE f d L out = myE f d L out := by unfold vfE; rw [if_pos h]
theorem vf_span {f d : Int} {L : List In} {out : Int} (h : myE f d L out = 0) (h2 : (sgF f d L).1 ≠ 0) : vfE f d L out = (sgF f d L).1 := by unfold vfE; rw [if_neg (by simpa using h), if_pos h2]
theorem vf_cost {f d : Int} {L : List In} {out : Int} (h : myE f d L out = 0) (h2 : (sgF f d L).1 = 0) (h3 : 200 < coL L) : vfE f d L out = 14 := by unfold vfE; rw [if_neg (by simpa using h), if_neg (by simpa using h2), if_pos h3]
theorem vf_ok {f d : Int} {L : List In} {out : Int} (h : myE f d L out = 0) (h2 : (sgF f d L).1 = 0) (h3 : ¬ 200 < coL L) : vfE f d L out = 0 := by unfold vfE; rw [if_neg (by simpa using h), if_neg (by simpa using h2), if_neg h3]
/-- What Verify answers. -/
abbrev VfP (own : Bool) (w : World) (f d : Int) (L : List In) (out : Int) : Ending → World → Prop := RpP own w (vfN f d L out) (vfC f d L out) (vfE f d L out) (vfS f d L out)
theorem VfP.no {own : Bool} {w W' : World} {f d : Int} {L : List In} {out er : Int} (h : vfE f d L out = er) (h0 : er ≠ 0) (hb : Below w.heap.size w W') : VfP own w f d L out (.returned (.tuple #[.agg rep0, .int .i64 er])) W' := by
  subst h
  obtain ⟨e1, e2, e3⟩ := vf_none h0
  unfold VfP
  rw [e1, e2, e3]
  exact RpP.no hb
theorem VfP.row {w W' : World} {f d : Int} {L : List In} {out : Int} {S : Sps} {g n : Nat} {co : Int} (h : vfE f d L out = 0) (hS : sgF f d L = (0, S)) (hl : L.length = n) (hco : coL L = co) (hg : HasC W' g 74 (spA S)) (h0 : w.heap.size ≤ g) (hb : Below w.heap.size w W') : VfP true w f d L out (.returned (.tuple #[.agg #[.slice (some ⟨g, 0, none⟩) n n, .int .i64 co, .int .i64 0], .int .i64 0])) W' := by
  obtain ⟨m, -, ⟨S', h1, h2, h3⟩, -, h4, h5⟩ := vf_parts h
  obtain ⟨-, -, hf, -⟩ := Cde.mc_parts m
  rw [hS] at h1
  cases h1
  unfold VfP
  rw [h3, h4, h5, h, hl, hco]
  exact RpP.row hg (by rw [h2, hl]) h0 (by omega) hb

set_option maxRecDepth 100000 in
set_option maxHeartbeats 4000000 in
theorem yverify_any (f d out : Int) {a : Option Addr} {n cap : Nat} {L : List In} {W : World} (hL : Ins W a n cap L) :
    Calls Tryz.prog 18 #[.agg (cd f d a n cap out)] W (VfP true W f d L out) := by
  have hb1 := bel1 W (.cells (cd f d a n cap out) 26)
  have hb2 := bel hb1 (bel1 (W.alloc (.cells (cd f d a n cap out) 26)) (.cells rep0 35))
  have HB0 := hide hb2
  have HC0 := hide ((HasC.new W 26 (cd f d a n cap out)).alloc (.cells rep0 35))
  have HR0 := hide (has_new1 W (.cells (cd f d a n cap out) 26) 35 rep0)
  have HM := hide (ymay_any f d out (hL.later hb2))
  have HLI := hide hL
  have HLn := hide hL.len
  clear hb1 hb2 hL
  by_cases h0 : myE f d L out = 0
  · obtain ⟨hm, -⟩ := my_zero.1 h0
    obtain ⟨-, m1, m2, -, -, hok⟩ := Cde.mc_parts hm
    rw [h0] at HM
    rw [HLn.out] at m1 m2
    have HSp := hide fun (V : World) (h : Ins V a n cap L) => yspans_any f d out h hok (by omega)
    have HCo := hide fun (V : World) (h : Ins V a n cap L) => Cde.ccost_any f d out h (by omega)
    have HZ := hide h0
    clear hm hok h0
    obtain ⟨⟨er, S⟩, hX⟩ : ∃ X, sgF f d L = X := ⟨_, rfl⟩
    have HX := hide hX
    rw [hX] at HSp
    clear hX
    go_enter Tryz.func18, Tryz.ntmps18
    go_wp2_with fail
    refine HM.out.mono ?_
    rintro e V1 ⟨rfl, hb⟩
    have HC1 := hide (HC0.out.below hb)
    have HR1 := hide (HR0.out.below hb)
    have HB1 := hide (bel HB0.out hb)
    obtain ⟨c0, c1, c2, c3⟩ := four_of HC1.out
    clear hb HC0 HR0 HB0 HM
    go_wp2_with fail
    refine (HSp.out _ (HLI.out.later HB1.out)).mono ?_
    rintro e V2 (⟨he, rfl, hb⟩ | ⟨he, g, rfl, hg, hG, hb⟩)
    · have he' : er ≠ 0 := he
      have HE := hide (vf_span HZ.out (by rw [HX.out]; exact he))
      rw [HX.out] at HE
      have HN := hide he'
      have hne : (er != 0) = true := by simpa using he'
      have HR2 := hide (HR1.out.below hb)
      have HB2 := hide (bel HB1.out hb)
      obtain ⟨r0, r1, r2, r3, r4, r5⟩ := three_of HR2.out
      clear hb he he' c0 c1 c2 c3
      go_wp2_with fail
      obtain ⟨hp, hpb⟩ := put_three HR2.out HB2.out (by omega) (.slice none 0 0) (.int .i64 0) (.int .i64 0)
      have p0 := hp.cell 0 rfl
      have p1 := hp.cell 1 rfl
      have p2 := hp.cell 2 rfl
      exact bodyPost_ret (v := .tuple #[.agg rep0, .int .i64 er]) (by simp [results, Tryz.results18, go_sem, p0, p1, p2]) rfl (VfP.no HE.out HN.out hpb)
    · have he' : er = 0 := he
      subst he'
      have hSl : S.length = n := by rw [sgF_all HX.out, HLn.out]
      simp only at hG ⊢
      rw [hSl]
      have HR2 := hide (HR1.out.below hb)
      have HC2 := hide (HC1.out.below hb)
      have HB2 := hide (bel HB1.out hb)
      have HG2 := hide hG
      have HSl := hide hSl
      have hgl := HB1.out.size
      have hg1 : W.heap.size + 1 ≠ g := by have := HR1.out.lt; omega
      clear hb he hG hSl c0 c1 c2 c3 HC1 HR1
      obtain ⟨c0, c1, c2, c3⟩ := four_of HC2.out
      go_wp2_with fail
      refine (HCo.out _ (HLI.out.later HB2.out)).mono ?_
      rintro e V3 ⟨rfl, hb⟩
      obtain ⟨co, hco⟩ : ∃ co, coL L = co := ⟨_, rfl⟩
      rw [hco]
      have HK := hide hco
      have HR3 := hide (HR2.out.below hb)
      have HG3 := hide (HG2.out.below hb)
      have HB3 := hide (bel HB2.out hb)
      clear hb HR2 HC2 HB2 HG2 c0 c1 c2 c3 hco
      have hlt := HR3.out.lt
      obtain ⟨r0, r1, r2, r3, r4, r5⟩ := three_of HR3.out
      have h00 : (sgF f d L).1 = 0 := by rw [HX.out]
      by_cases hc : 200 < co
      · have HE := hide (vf_cost HZ.out h00 (by rw [HK.out]; exact hc))
        have hc2 : decide (200 < co) = true := by simpa using hc
        obtain ⟨hp, hpb⟩ := put_three HR3.out HB3.out (by omega) (.slice none 0 0) (.int .i64 0) (.int .i64 0)
        have P0 := hide (hp.alloc (.cells #[.slice (some ⟨g, 0, none⟩) n n, .int .i64 co, .int .i64 0] 35))
        have PB := hide (bel hpb (bel1 _ (.cells #[.slice (some ⟨g, 0, none⟩) n n, .int .i64 co, .int .i64 0] 35)))
        clear hp hpb h00 hc
        go_wp2_with fail
        have p0 := P0.out.cell 0 rfl
        have p1 := P0.out.cell 1 rfl
        have p2 := P0.out.cell 2 rfl
        exact bodyPost_ret (v := .tuple #[.agg rep0, .int .i64 14]) (by simp [results, Tryz.results18, go_sem, p0, p1, p2]) rfl (VfP.no HE.out (by decide) PB.out)
      · have HE := hide (vf_ok HZ.out h00 (by rw [HK.out]; exact hc))
        have hc2 : decide (200 < co) = false := by simpa using hc
        obtain ⟨hp, hpb⟩ := put_three HR3.out HB3.out (by omega) (.slice (some ⟨g, 0, none⟩) n n) (.int .i64 co) (.int .i64 0)
        have P0 := hide (hp.alloc (.cells #[.slice (some ⟨g, 0, none⟩) n n, .int .i64 co, .int .i64 0] 35))
        have PB := hide (bel hpb (bel1 _ (.cells #[.slice (some ⟨g, 0, none⟩) n n, .int .i64 co, .int .i64 0] 35)))
        have PG := hide ((other_three HG3.out (r := W.heap.size + 1) (fun e => hg1 e.symm) (.slice (some ⟨g, 0, none⟩) n n) (.int .i64 co) (.int .i64 0)).alloc (.cells #[.slice (some ⟨g, 0, none⟩) n n, .int .i64 co, .int .i64 0] 35))
        clear hp hpb h00 hc
        go_wp2_with fail
        have p0 := P0.out.cell 0 rfl
        have p1 := P0.out.cell 1 rfl
        have p2 := P0.out.cell 2 rfl
        exact bodyPost_ret (v := .tuple #[.agg #[.slice (some ⟨g, 0, none⟩) n n, .int .i64 co, .int .i64 0], .int .i64 0]) (by simp [results, Tryz.results18, go_sem, p0, p1, p2]) rfl (VfP.row HE.out HX.out HLn.out HK.out PG.out (by omega) PB.out)
  · have HE := hide (vf_may h0)
    have HN := hide h0
    have hne : (myE f d L out != 0) = true := by simpa using h0
    generalize myE f d L out = er at *
    clear h0
    go_enter Tryz.func18, Tryz.ntmps18
    go_wp2_with fail
    refine HM.out.mono ?_
    rintro e V1 ⟨rfl, hb⟩
    have HR1 := hide (HR0.out.below hb)
    have HB1 := hide (bel HB0.out hb)
    obtain ⟨r0, r1, r2, r3, r4, r5⟩ := three_of HR1.out
    clear hb
    go_wp2_with fail
    obtain ⟨hp, hpb⟩ := put_three HR1.out HB1.out (by omega) (.slice none 0 0) (.int .i64 0) (.int .i64 0)
    have p0 := hp.cell 0 rfl
    have p1 := hp.cell 1 rfl
    have p2 := hp.cell 2 rfl
    exact bodyPost_ret (v := .tuple #[.agg rep0, .int .i64 er]) (by simp [results, Tryz.results18, go_sem, p0, p1, p2]) rfl (VfP.no HE.out HN.out hpb)

end Go.Proofs.Vfy

/-
  The document's own Leaf and Same of layer 9.
-/
namespace Go.Proofs.Vfy
open Go.RowKit Go.IntWalk YtihbhbeaihdgnaaGreat.Knd
open Cde (kd)
set_option linter.unusedVariables false

/-- What the document's Leaf answers. -/
def lfZ (f d op k : Int) : (Int × Int) × Bool :=
  if op = 1 then ((k, k), true) else if op = 2 then ((inZ f d k).getD (0, 0), (inZ f d k).isSome) else if op = 3 then ((lowZ f d, highZ f d), true) else ((0, 0), false)
abbrev lfV (Z : (Int × Int) × Bool) : Value := .tuple #[.agg #[.int .i64 Z.1.1, .int .i64 Z.1.2], .bool Z.2]

set_option maxRecDepth 100000 in
set_option maxHeartbeats 4000000 in
theorem jleaf_any (f d op k : Int) (W : World) : Calls Tryz.prog 22 #[.agg (kd f d), .int .i64 op, .int .i64 k] W fun e W' => e = .returned (lfV (lfZ f d op k)) ∧ Below W.heap.size W W' := by
  have hb1 := bel1 W (.cells (kd f d) 23)
  have HB0 := hide (bel hb1 (bel1 (W.alloc (.cells (kd f d) 23)) (.cells #[.int .i64 0, .int .i64 0] 74)))
  have HK0 := hide ((HasC.new W 23 (kd f d)).alloc (.cells #[.int .i64 0, .int .i64 0] 74))
  have HR0 : Hid (HasC ((W.alloc (.cells (kd f d) 23)).alloc (.cells #[.int .i64 0, .int .i64 0] 74)) (W.heap.size + 1) 74 #[.int .i64 0, .int .i64 0]) := by
    have := HasC.new (W.alloc (.cells (kd f d) 23)) 74 #[.int .i64 0, .int .i64 0]
    simp only [World.size_alloc] at this
    exact hide this
  have HBk := hide hb1
  clear hb1
  by_cases h1 : op = 1
  · subst h1
    rw [show lfZ f d 1 k = ((k, k), true) from rfl]
    go_enter Tryz.func22, Tryz.ntmps22
    go_wp2
    exact bodyPost_ret (v := .tuple #[.agg #[.int .i64 k, .int .i64 k], .bool true]) (by simp [results, Tryz.results22, go_sem]) rfl ⟨rfl, bel HBk.out (bel1 _ _)⟩
  by_cases h2 : op = 2
  · subst h2
    rw [show lfZ f d 2 k = ((inZ f d k).getD (0, 0), (inZ f d k).isSome) from rfl]
    have HI := hide fun w => rinput_any f d k w
    unfold inV at HI
    obtain ⟨⟨lo, hi⟩, hp⟩ : ∃ p, (inZ f d k).getD (0, 0) = p := ⟨_, rfl⟩
    rw [hp] at HI ⊢
    generalize (inZ f d k).isSome = q at HI ⊢
    clear hp h1
    go_enter Tryz.func22, Tryz.ntmps22
    go_wp2_with fail
    refine (HI.out _).mono ?_
    rintro e V1 ⟨rfl, hb⟩
    have HB1 := hide (bel HB0.out hb)
    obtain ⟨r0, r1, hB⟩ := put_two (HR0.out.below hb) HB1.out (by omega) lo hi
    obtain ⟨c0, c1, c2, c3⟩ := two_of (HR0.out.below hb)
    have HR1 := hide r0
    have HR2 := hide r1
    clear hb r0 r1
    go_wp2_with fail
    have r0 := HR1.out
    have r1 := HR2.out
    exact bodyPost_ret (v := .tuple #[.agg #[.int .i64 lo, .int .i64 hi], .bool q]) (by simp only [results, Tryz.results22]; simp [go_sem, r0, r1]) rfl ⟨rfl, hB⟩
  by_cases h3 : op = 3
  · subst h3
    rw [show lfZ f d 3 k = ((lowZ f d, highZ f d), true) from rfl]
    have HLo := hide fun w => rlow_any f d w
    have HHi := hide fun w => rhigh_any f d w
    generalize lowZ f d = lo at *
    generalize highZ f d = hi at *
    have x0 := HK0.out.cell 0 rfl
    have y0 := HK0.out.cell 1 rfl
    clear h1 h2
    go_enter Tryz.func22, Tryz.ntmps22
    go_wp2_with fail
    obtain ⟨W0, hW0⟩ : ∃ W0, ((W.alloc (.cells (kd f d) 23)).alloc (.cells #[.int .i64 0, .int .i64 0] 74)) = W0 := ⟨_, rfl⟩
    rw [hW0] at HR0 HK0 HB0 x0 y0 ⊢
    clear hW0
    have HRd : Hid (HasC W0.drew (W.heap.size + 1) 74 #[.int .i64 0, .int .i64 0]) := HR0.out
    have HKd : Hid (HasC W0.drew W.heap.size 23 (kd f d)) := HK0.out
    have HBd := hide HB0.out.drew
    go_region_held3 (fun w' => w'.cell? ⟨W.heap.size, 0, none⟩ = some (.int .i64 f) ∧ w'.cell? ⟨W.heap.size, 1, none⟩ = some (.int .i64 d))
      (first | exact ⟨x0, y0⟩ | exact ⟨x3, y3⟩ | exact ⟨x4, y4⟩ | exact ⟨(oth2 HK4.out (by omega) _ _).cell 0 rfl, (oth2 HK4.out (by omega) _ _).cell 1 rfl⟩ | go_keep)
      ((first
        | (go_at_call 48; refine (HLo.out _).mono ?_; rintro e w3 ⟨rfl, hb3⟩; have HR3 := hide (HRd.out.below hb3); have HK3 := hide (HKd.out.below hb3); have HB3 := hide (bel HBd.out hb3); clear hb3; obtain ⟨x3, y3, -, -⟩ := two_of HK3.out)
        | (go_at_call 49; refine (HHi.out _).mono ?_; rintro e w4 ⟨rfl, hb4⟩; have HR4 := hide (HR3.out.below hb4); have HK4 := hide (HK3.out.below hb4); have HB4 := hide (bel HB3.out hb4); clear hb4; obtain ⟨x4, y4, -, -⟩ := two_of HK4.out; obtain ⟨g0, g1, g2, g3⟩ := two_of HR4.out)))
    all_goals
      obtain ⟨r0, r1, hB⟩ := put_two HR4.out HB4.out (by omega) lo hi
      go_wp2
      exact bodyPost_ret (v := .tuple #[.agg #[.int .i64 lo, .int .i64 hi], .bool true]) (by simp [results, Tryz.results22, go_sem, r0, r1]) rfl ⟨rfl, hB⟩
  have e1 : (op == 1) = false := by simpa using h1
  have e2 : (op == 2) = false := by simpa using h2
  have e3 : (op == 3) = false := by simpa using h3
  rw [show lfZ f d op k = ((0, 0), false) by unfold lfZ; rw [if_neg h1, if_neg h2, if_neg h3]]
  clear h1 h2 h3
  go_enter Tryz.func22, Tryz.ntmps22
  go_wp2
  exact bodyPost_ret (v := .tuple #[.agg #[.int .i64 0, .int .i64 0], .bool false]) (by simp [results, Tryz.results22, go_sem]) rfl ⟨rfl, bel HBk.out (bel1 _ _)⟩

end Go.Proofs.Vfy

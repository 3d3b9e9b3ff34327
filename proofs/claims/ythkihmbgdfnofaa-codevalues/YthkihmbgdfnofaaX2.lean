/-
  The document's Values.
-/
import Derived.Test.YthkihmbgdfnofaaM1
import Derived.Test.YthkihmbgdfnofaaSt
import Derived.Test.YthkihmbgdfnofaaX0
import Derived.Test.YthkihmbgdfnofaaX1
import Derived.Test.YthkihmbgdfnofaaSpRefF
import Derived.Test.YthkihmbgdfnofaaKnRFits
namespace Go.Proofs.Ythkihmbgdfnofaa
open Go.RowKit Go.IntWalk Knd Go.Sort
set_option linter.unusedVariables false

theorem Ls.at {w V : World} {vv : Value} {D : List Int} (h : Ls w V vv D) : ∃ a c, vv = .slice a D.length c ∧ Ints V a D.length c D := by
  obtain ⟨a, c, e, hi, -⟩ := Ints.of_owns h.a
  exact ⟨a, c, e, hi⟩
theorem agL_take {n : In} {D : List Int} {q : Nat} (hq : q < arN n) : (arV D n).take (q + 1) = (arV D n).take q ++ [D.getD (rgN n q).toNat 0] := by
  rw [take_snoc 0 (by rw [arV_len]; exact hq), arV_at D n q hq]

set_option maxRecDepth 100000 in
set_option maxHeartbeats 16000000 in
theorem xvalues_any (f d out : Int) (v : Wd) {a pa : Option Addr} {n cap pl pc : Nat} {L : List In} {W : World} (hL : Ins W a n cap L) (hP : Ints W pa pl pc v.ps) :
    Calls Try.prog 24 #[.agg (cd f d a n cap out), .agg (wdA v pa pl pc)] W (TwP W (vaZ f d v L out)) := by
  have hb1 := bel1 W (.cells (cd f d a n cap out) 26)
  have hb2 := bel hb1 (bel1 (W.alloc (.cells (cd f d a n cap out) 26)) (.cells (wdA v pa pl pc) 46))
  have HC0 := hide ((HasC.new W 26 (cd f d a n cap out)).alloc (.cells (wdA v pa pl pc) 46))
  have HW0 := hide (has_new1 W (.cells (cd f d a n cap out) 26) 46 (wdA v pa pl pc))
  have HB0 := hide hb2
  have HCk := hide (xMay_any f d out (hL.later hb2))
  have HLI := hide hL
  have HPI := hide hP
  have HLn := hide hL.len
  have hn := hL.short
  clear hb1 hb2 hL hP
  cases hm : mcB f d L out
  · rw [hm] at HCk
    rw [show vaZ f d v L out = (15, []) by rw [vaZ, if_neg (by rw [hm]; decide)]]
    clear hm
    go_enter Try.func24, Try.ntmps24
    go_wp2_with fail
    refine HCk.out.mono ?_
    rintro e V1 ⟨rfl, hb⟩
    have HB1 := hide (bel HB0.out hb)
    clear hb
    go_wp2_with fail
    exact bodyPost_ret (v := .tuple #[.slice none 0 0, .int .i64 15]) (by simp [results, Try.results24, go_sem]) rfl (TwP.no HB1.out)
  rw [hm] at HCk
  obtain ⟨-, m1, m2, -, -, hok⟩ := mc_parts hm
  rw [HLn.out] at m1 m2 hok
  have HF := hide fun w h => rfits_any f d v.x v.y v.c pa pl pc v.ps w h
  by_cases hF : Fits f d v
  · rw [show vaZ f d v L out = vlF f d v L by rw [vaZ, if_pos hm, if_pos hF]]
    have HFt := hide hF
    have HOk := hide hok
    clear hm hF hok
    go_enter Try.func24, Try.ntmps24
    go_wp2_with fail
    refine HCk.out.mono ?_
    rintro e V1 ⟨rfl, hb⟩
    have HC1 := hide (HC0.out.below hb)
    have HW1 := hide (HW0.out.below hb)
    have HB1 := hide (bel HB0.out hb)
    obtain ⟨c0, c1, c2, c3⟩ := four_of HC1.out
    obtain ⟨y0, y1, y2, y3⟩ := four_of HW1.out
    clear hb HC0 HW0 HB0 HCk
    go_wp2_with fail
    refine (HF.out _ (HPI.out.later HB1.out)).mono ?_
    rintro e V2 ⟨⟨qb, rfl, hqb⟩, hb⟩
    obtain rfl : qb = true := hqb.2 HFt.out
    have HC2 := hide (HC1.out.below hb)
    have HW2 := hide (HW1.out.below hb)
    have HB2 := hide (bel HB1.out hb)
    clear hb hqb HC1 HW1 HB1 c0 c1 c2 c3 y0 y1 y2 y3 HF
    go_wp2_with fail
    go_loopw [6, 7] (fun vv i wr => ∃ (k : Nat) (D : List Int), k ≤ n ∧ i = .int .i64 k ∧ Hid (vlF f d v (L.take k) = (0, D)) ∧ Hid (D.length = k) ∧ Hid (Ls V2 wr vv D)) (fun _ i _ => n - (intOf i).toNat)
    case atStart => exact ⟨0, [], Nat.zero_le _, rfl, hide rfl, hide rfl, hide (Ls.start V2)⟩
    case round =>
      obtain ⟨k, D, hk, rfl, HD, HDl, HE⟩ := hrel
      rename World => V
      have HC := hide (HC2.out.below HE.out.bel)
      have HW := hide (HW2.out.below HE.out.bel)
      have HB := hide (bel HB2.out HE.out.bel)
      obtain ⟨c0, c1, c2, c3⟩ := four_of HC.out
      by_cases hlt : k < n
      · obtain ⟨g, off, rfl, -, hat⟩ := (HLI.out.later HB.out).at (by omega)
        obtain ⟨e0, e1, e2, e3, e4, e5⟩ := hat k hlt
        clear hat
        have hi0 : (0 : Int) ≤ k := by omega
        have hi1 : (k : Int) < n := by omega
        have hOk := okT_at HOk.out hlt
        have hS := vlF_snoc f d v (L.take k) (L.getD k i0)
        rw [← take_snoc i0 (by rw [HLn.out]; exact hlt), HD.out] at hS
        have HSt := hide fun e h he => vlF_bad (f := f) (d := d) (v := v) (L := L) (k := k + 1) (e := e) h he
        generalize L.getD k i0 = m at *
        unfold vlS at hS
        simp only [if_true] at hS
        have HS := hide hS
        have HOm := hide hOk
        clear hS hOk
        have hb := bel1 V (.cells (ia m) 43)
        have HC5 := hide (HC.out.below hb)
        have HW5 := hide (HW.out.below hb)
        have HB5 := hide (bel HB.out hb)
        have HE5 := hide (HE.out.later hb)
        have HN5 := hide (HasC.new V 43 (ia m))
        clear hb
        have hz0 := HC.out.lt
        have hz1 := HW.out.lt
        have HJ : Hid (D.length ≤ 2000000) := hide (by rw [HDl.out]; omega)
        by_cases h1 : m.op = 1
        · have hv : vlI f d v D m = (m.k, 0) := by rw [vlI, if_pos h1]
          rw [hv] at HS
          simp only [if_true] at HS
          have p1 : (m.op == 1) = true := by simpa using h1
          clear h1 hv
          go_wp2_with (at_builtin; refine list_ls (w := V2) (L := D) rfl _ _ rfl rfl (HE5.out.alloc _) _ m.k rfl (by first | exact HasC.new _ _ _ | exact has_new1 _ _ _ _) HJ.out ?_; intro g2 cap2 w2 HE2; rw [HDl.out] at HE2 ⊢)
          go_roundw
          case rel => exact ⟨k + 1, D ++ [m.k], by omega, by go_num, HS, hide (by simp [HDl.out]), hide HE2⟩
          case measure => simp [intOf]; omega
        have p1 : (m.op == 1) = false := by simpa using h1
        by_cases h2 : m.op = 2
        · have hv : vlI f d v D m = (inpV f d v m.k, 0) := by rw [vlI, if_neg h1, if_pos h2]
          rw [hv] at HS
          simp only [if_true] at HS
          obtain ⟨k0, k5⟩ := cs_in (ok_con HOm.out) h2
          have HIn := hide fun w => winput_any f d m.k v pa pl pc k0 k5 w
          generalize inpV f d v m.k = x at *
          have p2 : (m.op == 2) = true := by simpa using h2
          obtain ⟨y0, y1, y2, y3⟩ := four_of HW.out
          clear h1 h2 hv k0 k5
          go_wp2_with fail
          refine (HIn.out _).mono ?_
          rintro e V6 ⟨rfl, hb⟩
          have HE6 := hide (HE5.out.later hb)
          clear hb e0 e1 e2 e3 e4 e5 c0 c1 c2 c3 y0 y1 y2 y3
          go_wp2_with (at_builtin; refine list_ls (w := V2) (L := D) rfl _ _ rfl rfl (HE6.out.alloc _) _ x rfl (HasC.new _ _ _) HJ.out ?_; intro g2 cap2 w2 HE2; rw [HDl.out] at HE2 ⊢)
          go_roundw
          case rel => exact ⟨k + 1, D ++ [x], by omega, by go_num, HS, hide (by simp [HDl.out]), hide HE2⟩
          case measure => simp [intOf]; omega
        have p2 : (m.op == 2) = false := by simpa using h2
        by_cases h3 : m.op = 3
        · have hv : vlI f d v D m = if countZ f d ≤ m.k then (0, 11) else (v.ps.getD m.k.toNat 0, 0) := by rw [vlI, if_neg h1, if_neg h2, if_pos h3]
          rw [hv] at HS
          obtain ⟨k0, k5⟩ := cs_place (ok_con HOm.out) h3
          obtain ⟨q, hq⟩ : ∃ q : Nat, m.k = (q : Int) := ⟨m.k.toNat, by omega⟩
          have hfl := fit_len HFt.out
          rw [HPI.out.len] at hfl
          have HCt := hide fun w => Knd.rcount_any f d w
          have p3 : (m.op == 3) = true := by simpa using h3
          have HQ := hide hq
          rw [hq] at HS
          clear h1 h2 h3 hv k0 k5
          generalize countZ f d = zc at *
          by_cases hk2 : zc ≤ (q : Int)
          · rw [if_pos hk2] at HS
            simp only at HS
            rw [if_neg (by decide)] at HS
            have HE3 := hide (HSt.out _ HS.out (by decide))
            clear hq
            go_wp2_with fail
            obtain ⟨V5, hV5⟩ : ∃ V5, V.alloc (.cells (ia m) 43) = V5 := ⟨_, rfl⟩
            rw [hV5] at HC5 HW5 HB5 HE5 HN5 ⊢
            obtain ⟨-, -, -, -, f4, -⟩ := six_of HN5.out
            rw [HQ.out] at f4
            obtain ⟨x0, x1, -, -⟩ := four_of HC5.out
            have r0 := cell_regrown f4
            have r1 := cell_regrown x0
            have r2 := cell_regrown x1
            clear hV5
            refine wp_region_quiet_below mixed0 (by kernel_rfl) ?_
            repeat (go_big_quiet_step (fail))
            go_big_quiet_step ((go_at_call 46; exact Calls.regrown_of (HCt.out _)))
            repeat (go_big_quiet_step (fail))
            refine wpQuiet_nil ?_
            intro V6 hw'
            obtain ⟨⟨dq, osq⟩, hw''⟩ := hw'
            have hb := below_regrown V5 dq osq
            simp only at hw''
            rw [← hw''] at hb
            clear hw'' r0 r1 r2
            have HB6 := hide (bel HB5.out hb)
            clear hb
            go_wp2_with fail
            exact bodyPost_ret (v := .tuple #[.slice none 0 0, .int .i64 11]) (by simp [results, Try.results24, go_sem]) rfl (by rw [HE3.out]; exact TwP.no HB6.out)
          · rw [if_neg hk2, Int.toNat_natCast] at HS
            simp only [if_true] at HS
            have hql : q < pl := by omega
            have hk3 : decide (zc ≤ (q : Int)) = false := by simpa using hk2
            obtain ⟨x, hx⟩ : ∃ x, v.ps.getD q 0 = x := ⟨_, rfl⟩
            rw [hx] at HS
            have HX := hide hx
            clear hq hx
            go_wp2_with fail
            obtain ⟨V5, hV5⟩ : ∃ V5, V.alloc (.cells (ia m) 43) = V5 := ⟨_, rfl⟩
            rw [hV5] at HC5 HW5 HB5 HE5 HN5 ⊢
            obtain ⟨-, -, -, -, f4, -⟩ := six_of HN5.out
            rw [HQ.out] at f4
            obtain ⟨x0, x1, -, -⟩ := four_of HC5.out
            have r0 := cell_regrown f4
            have r1 := cell_regrown x0
            have r2 := cell_regrown x1
            clear hV5
            refine wp_region_quiet_below mixed0 (by kernel_rfl) ?_
            repeat (go_big_quiet_step (fail))
            go_big_quiet_step ((go_at_call 46; exact Calls.regrown_of (HCt.out _)))
            repeat (go_big_quiet_step (fail))
            refine wpQuiet_nil ?_
            intro V6 hw'
            obtain ⟨⟨dq, osq⟩, hw''⟩ := hw'
            have hb := below_regrown V5 dq osq
            simp only at hw''
            rw [← hw''] at hb
            clear hw'' r0 r1 r2 f4 x0 x1
            have HE6 := hide (HE5.out.later hb)
            obtain ⟨-, -, -, -, f4, -⟩ := six_of (HN5.out.below hb)
            rw [HQ.out] at f4
            obtain ⟨-, -, -, y3⟩ := four_of (HW5.out.below hb)
            obtain ⟨pb, po, rfl, -, hpat⟩ := (HPI.out.later (bel HB5.out hb)).at (by omega)
            have px := hpat q hql
            rw [HX.out] at px
            have w0 : (0 : Int) ≤ q := by omega
            have w1 : (q : Int) < pl := by omega
            clear hb hpat hk2 hfl e0 e1 e2 e3 e4 e5 c0 c1 c2 c3
            go_wp2_with (at_builtin; refine list_ls (w := V2) (L := D) rfl _ _ rfl rfl (HE6.out.alloc _) _ x rfl (HasC.new _ _ _) HJ.out ?_; intro g2 cap2 w2 HE2; rw [HDl.out] at HE2 ⊢)
            go_roundw
            case rel => exact ⟨k + 1, D ++ [x], by omega, by go_num, HS, hide (by simp [HDl.out]), hide HE2⟩
            case measure => simp [intOf]; omega
        have p3 : (m.op == 3) = false := by simpa using h3
        have hv : vlI f d v D m = Spn.valZ m.op m.k m.s (arV D m) := by rw [vlI, if_neg h1, if_neg h2, if_neg h3]
        rw [hv] at HS
        have HA := hide fun w => xargs_any m w
        have HR := hide fun j hj => ok_reg HOm.out (j := j) hj
        have HT0 := hide fun q (h : q < arN m) => agL_take (n := m) (D := D) h
        have HAl := hide (arV_len D m)
        have hr3 := arN_le m
        have HRg : Hid (∀ q, q < 3 → (zA (abc m))[q]? = some (.int .i64 (rgN m q))) := hide fun q h => by rw [zA_get _ q (by simp [abc]; omega), abc_at m q h]
        generalize arV D m = A at *
        generalize arN m = r at *
        obtain ⟨va, vc, rfl, hDi⟩ := HE.out.at
        clear h1 h2 h3 hv hDi
        go_wp2_with fail
        refine (HA.out _).mono ?_
        rintro e V6 ⟨ga, rfl, hga, hG, hb⟩
        have HG := hide hG
        have HE6 := hide (HE5.out.later hb)
        have HN6 := hide (HN5.out.below hb)
        have HB6 := hide (bel HB5.out hb)
        clear hb hG hga e0 e1 e2 e3 e4 e5 c0 c1 c2 c3 HE5 HN5 HB5 HA
        go_wp2_with fail
        go_loopw [12, 13] (fun vv j wr => ∃ q : Nat, q ≤ r ∧ j = .int .i64 q ∧ Hid (Ls V6 wr vv (A.take q))) (fun _ j _ => r - (intOf j).toNat)
        case atStart => exact ⟨0, Nat.zero_le _, rfl, hide (Ls.start V6)⟩
        case round =>
          obtain ⟨q, hq, rfl, HE7⟩ := hrel
          rename World => V7
          by_cases hqr : q < r
          · have cp := (HG.out.below HE7.out.bel).cell q (HRg.out q (by omega))
            obtain ⟨p0, p1⟩ := HR.out q hqr
            have HT := hide (HT0.out q hqr)
            obtain ⟨p, hp⟩ : ∃ p : Nat, rgN m q = (p : Int) := ⟨(rgN m q).toNat, by omega⟩
            rw [hp] at cp p1 HT
            simp only [Int.toNat_natCast] at p1 HT
            obtain ⟨_, _, hee, hDi⟩ := (HE6.out.later HE7.out.bel).at
            cases hee
            rw [HDl.out] at hDi
            obtain ⟨db, dof, rfl, -, hat5⟩ := hDi.at (by omega)
            have lp := hat5 p (by omega)
            generalize D.getD p 0 = sv at *
            have s0 : (0 : Int) ≤ q := by omega
            have s1 : (q : Int) < r := by omega
            have s2 : (q : Int) < 3 := by omega
            have t0 : (0 : Int) ≤ p := by omega
            have t1 : (p : Int) < (D.length : Int) := by rw [HDl.out]; omega
            have HJ2 : Hid ((A.take q).length = q) := hide (by rw [List.length_take, HAl.out]; omega)
            clear p0 p1 hp hat5 hDi
            go_wp2_with (at_builtin; refine list_ls (w := V6) (L := A.take q) rfl _ _ rfl rfl (HE7.out.alloc _) _ sv rfl (HasC.new _ _ _) (by rw [HJ2.out]; omega) ?_; intro g2 cap2 w2 HE2; rw [HJ2.out] at HE2 ⊢)
            go_roundw
            case rel => exact ⟨q + 1, by omega, by go_num, hide (by rw [HT.out]; exact HE2)⟩
            case measure => simp [intOf]; omega
          · obtain rfl : q = r := by omega
            have e : A.take q = A := List.take_of_length_le (by rw [HAl.out]; exact Nat.le_refl _)
            have HE1 := HE7.out
            rw [e] at HE1
            obtain ⟨aa, ac, rfl, hAi⟩ := HE1.at
            have HVa := hide (Spn.rvalue_any m.op m.k m.s _ _ _ _ _ (spn hAi))
            have HN7 := hide (HN6.out.below HE1.bel)
            have HB7 := hide (bel HB6.out HE1.bel)
            have HE8 := hide (HE6.out.later HE1.bel)
            obtain ⟨f0, -, -, -, f4, f5⟩ := six_of HN7.out
            generalize Spn.valZ m.op m.k m.s A = X at *
            obtain ⟨x, er⟩ := X
            simp only at HS
            clear hAi HE1 e HE7
            go_wp2_with fail
            refine HVa.out.mono ?_
            rintro e V8 ⟨rfl, rfl⟩
            by_cases he : er = 0
            · subst he
              rw [if_pos rfl] at HS
              go_wp2_with (at_builtin; refine list_ls (w := V2) (L := D) rfl _ _ rfl rfl (HE8.out.alloc _) _ x rfl (HasC.new _ _ _) HJ.out ?_; intro g2 cap2 w2 HE2; rw [HDl.out] at HE2 ⊢)
              go_roundw
              case rel => exact ⟨k + 1, D ++ [x], by omega, by go_num, HS, hide (by simp [HDl.out]), hide HE2⟩
              case measure => simp [intOf]; omega
            · rw [if_neg he] at HS
              have HE3 := hide (HSt.out _ HS.out he)
              have he2 : (er != 0) = true := by simpa using he
              clear he
              go_wp2_with fail
              exact bodyPost_ret (v := .tuple #[.slice none 0 0, .int .i64 er]) (by simp [results, Try.results24, go_sem]) rfl (by rw [HE3.out]; exact TwP.no HB7.out)
      · obtain rfl : k = n := by omega
        have hD := HD.out
        rw [List.take_of_length_le (by rw [HLn.out]; exact Nat.le_refl _)] at hD
        have HD2 := hide hD
        obtain ⟨va, vc, rfl, -⟩ := HE.out.at
        clear hD
        go_wp2_with fail
        exact bodyPost_ret (v := .tuple #[.slice va D.length vc, .int .i64 0]) (by simp [results, Try.results24, go_sem]) rfl (by rw [HD2.out]; exact ⟨va, vc, rfl, own_mono HE.out.a HB2.out.size, HB.out⟩)
  · rw [show vaZ f d v L out = (1, []) by rw [vaZ, if_pos hm, if_neg hF]]
    have HFt := hide hF
    clear hm hF
    go_enter Try.func24, Try.ntmps24
    go_wp2_with fail
    refine HCk.out.mono ?_
    rintro e V1 ⟨rfl, hb⟩
    have HC1 := hide (HC0.out.below hb)
    have HW1 := hide (HW0.out.below hb)
    have HB1 := hide (bel HB0.out hb)
    obtain ⟨c0, c1, c2, c3⟩ := four_of HC1.out
    obtain ⟨y0, y1, y2, y3⟩ := four_of HW1.out
    clear hb HC0 HW0 HB0 HCk
    go_wp2_with fail
    refine (HF.out _ (HPI.out.later HB1.out)).mono ?_
    rintro e V2 ⟨⟨qb, rfl, hqb⟩, hb⟩
    obtain rfl : qb = false := by
      cases qb
      · rfl
      · exact absurd (hqb.1 rfl) HFt.out
    have HB2 := hide (bel HB1.out hb)
    clear hb hqb
    go_wp2_with fail
    exact bodyPost_ret (v := .tuple #[.slice none 0 0, .int .i64 1]) (by simp [results, Try.results24, go_sem]) rfl (TwP.no HB2.out)

end Go.Proofs.Ythkihmbgdfnofaa

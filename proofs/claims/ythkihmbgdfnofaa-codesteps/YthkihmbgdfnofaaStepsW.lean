/-
  The walk of CodeSteps.
-/
import Derived.Test.YthkihmbgdfnofaaSt
namespace Go.Proofs.Ythkihmbgdfnofaa
open Go.RowKit Go.IntWalk Knd Go.Sort
set_option linter.unusedVariables false

set_option maxRecDepth 100000 in
set_option maxHeartbeats 16000000 in
theorem steps_walk (f d out : Int) (v : Wd) {a pa : Option Addr} {n cap pl pc : Nat} {L : List In} (W : World) (hL : Ins W a n cap L) (hP : Ints W pa pl pc v.ps) :
    Calls Try.prog 7 #[.agg (cd f d a n cap out), .agg (wdA v pa pl pc)] W fun e W' => e = .returned (.bool true) ∧ Below W.heap.size W W' := by
  have hb1 := bel1 W (.cells (cd f d a n cap out) 26)
  have hb2 := bel hb1 (bel1 (W.alloc (.cells (cd f d a n cap out) 26)) (.cells (wdA v pa pl pc) 46))
  have HC0 := hide ((HasC.new W 26 (cd f d a n cap out)).alloc (.cells (wdA v pa pl pc) 46))
  have HW0 := hide (has_new1 W (.cells (cd f d a n cap out) 26) 46 (wdA v pa pl pc))
  have HB0 := hide hb2
  have HV := hide (cvalues_any f d out v (hL.later hb2) (hP.later hb2))
  have HLI := hide hL
  have HPI := hide hP
  have HLn := hide hL.len
  have hn := hL.short
  have HAt := hide fun (D : List Int) h (k : Nat) hk => va_at (f := f) (d := d) (out := out) (v := v) (L := L) (D := D) h (k := k) hk
  have HMc := hide fun (D : List Int) h => va_mc (f := f) (d := d) (out := out) (v := v) (L := L) (D := D) h
  have HA := hide fun w => awake_any w
  have HCk := hide fun (V : World) (hb : Below W.heap.size W V) => ccheck_any f d out (hL.later hb)
  have HFt := hide fun (V : World) (hb : Below W.heap.size W V) => fits_any f d v.x v.y v.c pa pl pc v.ps V (hP.later hb)
  clear hb1 hb2 hL hP
  go_enter Try.func7, Try.ntmps7
  go_wp2_with fail
  refine HV.out.mono ?_
  rintro e V1 ⟨la, lc, rfl, hO, hb⟩
  have HC1 := hide (HC0.out.below hb)
  have HW1 := hide (HW0.out.below hb)
  have HB1 := hide (bel HB0.out hb)
  obtain ⟨la', lc', e', hI, -⟩ := Ints.of_owns hO
  cases e'
  have HI1 := hide hI
  clear hb HC0 HW0 HB0 HV hO hI
  obtain ⟨Z, hZ⟩ : ∃ Z, vaZ f d v L out = Z := ⟨_, rfl⟩
  rw [hZ] at HI1 HAt HMc ⊢
  have HZ0 : Hid (Z.1 ≠ 0 → Z.2 = []) := hide (by
    intro h
    rw [← hZ] at h ⊢
    unfold vaZ at h ⊢
    split
    · rename_i h1
      rw [if_pos h1] at h
      split
      · rename_i h2
        rw [if_pos h2] at h
        exact vlF_nil h
      · rfl
    · rfl)
  clear hZ
  obtain ⟨er, D⟩ := Z
  dsimp only at HI1 HZ0 ⊢
  go_wp2_with fail
  refine (HA.out _).mono ?_
  rintro e V2 ⟨rfl, hb⟩
  have HC2 := hide (HC1.out.below hb)
  have HW2 := hide (HW1.out.below hb)
  have HB2 := hide (bel HB1.out hb)
  have HI2 := hide (HI1.out.later hb)
  clear hb HC1 HW1 HB1 HI1
  by_cases he : er = 0
  · subst he
    obtain ⟨hm, hF, -⟩ := HMc.out D rfl
    have hk0 : ccE f d L out = 0 := by rw [ccE, if_pos hm]
    have hf0 : fitE f d v.x v.y v.c v.ps = 0 := by
      rcases fitE_cases f d v with ⟨-, h⟩ | ⟨h, -⟩
      · exact h
      · exact absurd hF h
    rw [hk0] at HCk
    rw [hf0] at HFt
    obtain ⟨-, m1, m2, -⟩ := mc_parts hm
    rw [HLn.out] at m1 m2
    have hDl := (HAt.out D rfl 0 (by rw [HLn.out]; omega)).1
    rw [HLn.out] at hDl
    have HDl := hide hDl
    have HFs := hide hF
    have HAt2 := hide fun (k : Nat) hk => HAt.out D rfl k hk
    clear HAt HMc HZ0 hm hF hk0 hf0
    obtain ⟨c0, c1, c2, c3⟩ := four_of HC2.out
    go_wp2_with fail
    refine (HCk.out _ HB2.out).mono ?_
    rintro e V3 ⟨rfl, hb⟩
    have HC3 := hide (HC2.out.below hb)
    have HW3 := hide (HW2.out.below hb)
    have HB3 := hide (bel HB2.out hb)
    have HI3 := hide (HI2.out.later hb)
    clear hb HC2 HW2 HB2 HI2 HCk c0 c1 c2 c3
    obtain ⟨c0, c1, c2, c3⟩ := four_of HC3.out
    obtain ⟨y0, y1, y2, y3⟩ := four_of HW3.out
    go_wp2_with fail
    refine (HFt.out _ HB3.out).mono ?_
    rintro e V4 ⟨rfl, hb⟩
    have HC4 := hide (HC3.out.below hb)
    have HW4 := hide (HW3.out.below hb)
    have HB4 := hide (bel HB3.out hb)
    have HI4 := hide (HI3.out.later hb)
    clear hb HC3 HW3 HB3 HI3 HFt c0 c1 c2 c3 y0 y1 y2 y3
    obtain ⟨c0, c1, c2, c3⟩ := four_of HC4.out
    rw [HDl.out] at HI4
    clear hDl
    go_wp2_with fail
    clear c0 c1 c2 c3 HA
    go_loopw [7] (fun i wr => ∃ k : Nat, k ≤ n ∧ i = .int .i64 k ∧ Hid (Below V4.heap.size V4 wr)) (fun i _ => n - (intOf i).toNat)
    case atStart => exact ⟨0, Nat.zero_le _, rfl, hide (Below.refl _ _)⟩
    case round =>
      obtain ⟨k, hk, rfl, HB⟩ := hrel
      rename World => V
      by_cases hlt : k < n
      · obtain ⟨-, hok, hv⟩ := HAt2.out k (by rw [HLn.out]; exact hlt)
        have hwd := vl_word HFs.out hok hv
        obtain ⟨g, off, rfl, -, hat⟩ := (HLI.out.later (bel HB4.out HB.out)).at (by omega)
        obtain ⟨e0, e1, e2, e3, e4, e5⟩ := hat k hlt
        obtain ⟨lb, lo, rfl, hlb, hlat⟩ := (HI4.out.later HB.out).at (by omega)
        have lx := hlat k hlt
        have HLat := hide hlat
        clear hat hlat
        generalize L.getD k i0 = m at *
        have HC := hide (HC4.out.below HB.out)
        have HWd := hide (HW4.out.below HB.out)
        have hb := bel1 V (.cells (ia m) 43)
        have HC5 := hide (HC.out.below hb)
        have HW5 := hide (HWd.out.below hb)
        have HB5 := hide (bel HB.out hb)
        have HN5 := hide (HasC.new V 43 (ia m))
        obtain ⟨c0, c1, c2, c3⟩ := four_of HC.out
        have hz0 := HC.out.lt
        have hz1 := HWd.out.lt
        have j0 : (0 : Int) ≤ k := by omega
        have j1 : (k : Int) < n := by omega
        have HOk := hide hok
        have HVl := hide hv
        have HWo := hide fun w => Spn.word_any (D.getD k 0) w
        rw [hwd] at HWo
        obtain ⟨x, hx⟩ : ∃ x, D.getD k 0 = x := ⟨_, rfl⟩
        rw [hx] at lx HVl HWo
        have HX := hide hx
        clear hx hb hok hv hwd
        by_cases h1 : m.op = 1
        · have hE : m.k = x := by
            have := HVl.out
            rw [vlI, if_pos h1] at this
            exact congrArg Prod.fst this
          have hq : (x != m.k) = false := by simp [hE]
          have p1 : (m.op == 1) = true := by simpa using h1
          clear h1 hE
          go_wp2_with (go_at_call 29; refine (HWo.out _).mono ?_; rintro e w1 ⟨rfl, rfl⟩)
          go_quiet (fail)
          go_wp2_with fail
          go_roundw
          case rel => exact ⟨k + 1, by omega, by go_num, hide (bel HB5.out (below_dN _ _))⟩
          case measure => simp [intOf]; omega
        have p1 : (m.op == 1) = false := by simpa using h1
        by_cases h3 : m.op = 3
        · obtain ⟨k0, k5⟩ := cs_place (ok_con HOk.out) h3
          obtain ⟨q, hq⟩ : ∃ q : Nat, m.k = (q : Int) := ⟨m.k.toNat, by omega⟩
          have hV := HVl.out
          rw [vlI, if_neg h1, if_neg (by omega), if_pos h3] at hV
          have hlp := HPI.out.len
          have hfl := fit_len HFs.out
          rw [hlp] at hfl
          have hkc : ¬ countZ f d ≤ m.k := fun h => by rw [if_pos h] at hV; simp at hV
          rw [if_neg hkc, hq, Int.toNat_natCast] at hV
          have hql : q < pl := by omega
          have hV2 : v.ps.getD q 0 = x := congrArg Prod.fst hV
          obtain ⟨pb, po, rfl, -, hpat⟩ := (HPI.out.later (bel HB4.out HB5.out)).at (by omega)
          have px := hpat q hql
          rw [hV2] at px
          have p3 : (m.op == 3) = true := by simpa using h3
          have hk0 : decide ((q : Int) < 0) = false := by simp
          have hk1 : decide ((pl : Int) ≤ (q : Int)) = false := by simp; omega
          have hk2 : decide (pl ≤ q) = false := by simp; omega
          have i0 : (0 : Int) ≤ q := by omega
          have i1 : (q : Int) < pl := by omega
          have HQ := hide hq
          clear h1 h3 hV hV2 hpat hfl hlp hkc k0 k5 hq
          go_wp2_with (go_at_call 29; refine (HWo.out _).mono ?_; rintro e w1 ⟨rfl, rfl⟩)
          obtain ⟨_, _, he5, -, hat5⟩ := (HI4.out.later HB5.out).at (by omega)
          cases he5
          have lx5 := hat5 k hlt
          rw [HX.out] at lx5
          obtain ⟨V5, hV5⟩ : ∃ V5, V.alloc (.cells (ia m) 43) = V5 := ⟨_, rfl⟩
          rw [hV5] at HW5 HB5 HN5 px lx5 ⊢
          obtain ⟨-, -, -, -, f4, -⟩ := six_of HN5.out
          rw [HQ.out] at f4
          obtain ⟨-, -, -, y3⟩ := four_of HW5.out
          have r0 := cell_regrown f4
          have r1 := cell_regrown y3
          have r2 := cell_regrown lx5
          have r3 := cell_regrown px
          clear hV5 hat5
          refine wp_region_quiet_below mixed0 (by kernel_rfl) ?_
          repeat (go_big_quiet_step (fail))
          refine wpQuiet_nil ?_
          intro V6 hw'
          obtain ⟨⟨dq, osq⟩, hw''⟩ := hw'
          have hb := below_regrown V5 dq osq
          simp only at hw''
          rw [← hw''] at hb
          clear hw'' r0 r1 r2 r3
          go_wp2_with fail
          go_roundw
          case rel => exact ⟨k + 1, by omega, by go_num, hide (bel HB5.out hb)⟩
          case measure => simp [intOf]; omega
        have p3 : (m.op == 3) = false := by simpa using h3
        by_cases h2 : m.op = 2
        · obtain ⟨k0, k5⟩ := cs_in (ok_con HOk.out) h2
          obtain ⟨zl, zh, hz, b1, b2, -, -⟩ := inp_lies HFs.out k0 k5
          have hV := HVl.out
          rw [vlI, if_neg h1, if_pos h2] at hV
          have hV2 : inpV f d v m.k = x := congrArg Prod.fst hV
          rw [hV2] at b1 b2
          have HIn := hide fun w => input_any f d m.k w
          rw [show inV f d m.k = .tuple #[.agg #[.int .i64 zl, .int .i64 zh], .bool true] by rw [inV, hz]; rfl] at HIn
          have p2 : (m.op == 2) = true := by simpa using h2
          have hk0 : decide (x < zl) = false := by simp; omega
          have hk1 : decide (zh < x) = false := by simp; omega
          clear h1 h3 h2 hV hV2 hz k0 k5 b1 b2
          go_wp2_with (first | (go_at_call 29; refine (HWo.out _).mono ?_; rintro e w1 ⟨rfl, rfl⟩) | (go_at_call 30; refine (HIn.out _).mono ?_; rintro e V6 ⟨rfl, hb6⟩))
          have HB6 := hide (bel (bel HB5.out hb6) (bel1 V6 (.cells #[.int .i64 zl, .int .i64 zh] 55)))
          have HS6 := hide (HasC.new V6 55 #[.int .i64 zl, .int .i64 zh])
          obtain ⟨_, _, he5, -, hat5⟩ := (HI4.out.later HB6.out).at (by omega)
          cases he5
          have lx5 := hat5 k hlt
          rw [HX.out] at lx5
          obtain ⟨V7, hV7⟩ : ∃ V7, V6.alloc (.cells #[.int .i64 zl, .int .i64 zh] 55) = V7 := ⟨_, rfl⟩
          rw [hV7] at HB6 HS6 lx5 ⊢
          obtain ⟨f0, f1⟩ := two_of HS6.out
          have r0 := cell_regrown f0
          have r1 := cell_regrown f1
          have r2 := cell_regrown lx5
          clear hV7 hat5 hb6
          refine wp_region_quiet_below mixed0 (by kernel_rfl) ?_
          repeat (go_big_quiet_step (fail))
          refine wpQuiet_nil ?_
          intro V8 hw'
          obtain ⟨⟨dq, osq⟩, hw''⟩ := hw'
          have hb := below_regrown V7 dq osq
          simp only at hw''
          rw [← hw''] at hb
          clear hw'' r0 r1 r2
          go_wp2_with fail
          go_roundw
          case rel => exact ⟨k + 1, by omega, by go_num, hide (bel HB6.out hb)⟩
          case measure => simp [intOf]; omega
        have p2 : (m.op == 2) = false := by simpa using h2
        have hV := HVl.out
        rw [vlI, if_neg h1, if_neg h2, if_neg h3] at hV
        have HVz := hide hV
        have har := ok_ar HOk.out
        obtain ⟨r, hr⟩ : ∃ r : Nat, Spn.ar m.op = (r : Int) := ⟨(Spn.ar m.op).toNat, by omega⟩
        have hrN : arN m = r := by unfold arN; omega
        have hr3 : r ≤ 3 := by have := arN_le m; omega
        have HR := hide fun j hj => ok_reg HOk.out (j := j) hj
        have HAr := hide fun w => Spn.arity_any m.op w
        rw [hr] at HAr
        have HAt3 := hide fun j hj => arV_at D m j hj
        have HAl := hide (arV_len D m)
        rw [hrN] at HR HAt3 HAl
        have hr0 : (0 : Int) ≤ r := by omega
        have hr1 : (r : Int) ≤ 3 := by omega
        have hr4 : 0 < r := by
          rcases Nat.eq_zero_or_pos r with h0 | h0
          · subst h0
            have := ar_zero hr
            omega
          · exact h0
        have hr5 : (0 : Int) < r := by omega
        clear hV h1 h2 h3 har hr hrN
        go_wp2_with (go_at_call 29; refine (HWo.out _).mono ?_; rintro e w1 ⟨rfl, rfl⟩)
        obtain ⟨f0, f1, f2, f3, f4, f5⟩ := six_of HN5.out
        go_region_held3 (fun w' => w'.cell? ⟨V.heap.size, 0, none⟩ = some (.int .i64 m.op) ∧ w'.cell? ⟨V.heap.size, 1, none⟩ = some (.int .i64 m.a) ∧ w'.cell? ⟨V.heap.size, 2, none⟩ = some (.int .i64 m.b) ∧ w'.cell? ⟨V.heap.size, 3, none⟩ = some (.int .i64 m.c))
          (first | exact ⟨f0, f1, f2, f3⟩ | go_keep)
          ((first
            | (go_at_call 31; refine (HAr.out _).mono ?_; rintro e w2 ⟨rfl, rfl⟩)))
        all_goals
          have h5 := has_new1 V (.cells (ia m) 43) 3 #[.int .i64 m.a, .int .i64 m.b, .int .i64 m.c]
          have hb5 := (bel1 (V.alloc (.cells (ia m) 43)) (.cells #[.int .i64 m.a, .int .i64 m.b, .int .i64 m.c] 3)).drew
          have HG := hide (h5.below (below_drew _))
          have HN6 := hide (HN5.out.below hb5)
          have HB6 := hide (bel HB5.out hb5)
          clear h5 hb5 f0 f1 f2 f3 f4 f5 HN5 HB5 HC5 HW5 e0 e1 e2 e3 e4 e5 lx c0 c1 c2 c3
          go_wp2_with fail
          obtain ⟨V6, hV6⟩ : ∃ V6, ((V.alloc (.cells (ia m) 43)).alloc (.cells #[.int .i64 m.a, .int .i64 m.b, .int .i64 m.c] 3)).drew = V6 := ⟨_, rfl⟩
          rw [hV6] at HG HN6 HB6 ⊢
          have hgl := HG.out.lt
          clear hV6 HAr
          generalize hA : arV D m = A at *
          go_loopw [11, 84] (fun vv j wr => ∃ q : Nat, q ≤ r ∧ j = .int .i64 q ∧ Hid (Ls V6 wr vv (A.take q))) (fun _ j _ => r - (intOf j).toNat)
          case atStart => exact ⟨0, Nat.zero_le _, rfl, hide (Ls.start V6)⟩
          case round =>
            obtain ⟨q, hq, rfl, HE⟩ := hrel
            rename World => V7
            by_cases hqr : q < r
            · have cp := (HG.out.below HE.out.bel).cell q (rgN_at m q (by omega))
              obtain ⟨p0, p1⟩ := HR.out q hqr
              have HT := hide (take_snoc 0 (L := A) (k := q) (by rw [HAl.out]; exact hqr))
              rw [HAt3.out q hqr] at HT
              obtain ⟨p, hp⟩ : ∃ p : Nat, rgN m q = (p : Int) := ⟨(rgN m q).toNat, by omega⟩
              rw [hp] at cp p1 HT
              simp only [Int.toNat_natCast] at p1 HT
              obtain ⟨_, _, he5, -, hat5⟩ := (HI4.out.later (bel HB6.out HE.out.bel)).at (by omega)
              cases he5
              have lp := hat5 p (by omega)
              generalize D.getD p 0 = sv at *
              have s0 : (0 : Int) ≤ q := by omega
              have s1 : (q : Int) < r := by omega
              have s2 : (q : Int) < 3 := by omega
              have t0 : (0 : Int) ≤ p := by omega
              have t1 : (p : Int) < n := by omega
              have t2 : decide ((k : Int) ≤ (p : Int)) = false := by simp; omega
              have t3 : decide (k ≤ p) = false := by simp; omega
              have t4 : decide ((p : Int) < 0) = false := by simp
              have HJ : Hid ((A.take q).length = q) := hide (by rw [List.length_take, HAl.out]; omega)
              clear p0 p1 hp hat5
              go_wp2_with (at_builtin; refine list_ls (w := V6) (L := A.take q) rfl _ _ rfl rfl (HE.out.alloc _) _ sv rfl (HasC.new _ _ _) (by rw [HJ.out]; omega) ?_; intro g2 cap2 w2 HE2; rw [HJ.out] at HE2 ⊢)
              go_roundw
              case rel => exact ⟨q + 1, by omega, by go_num, hide (by rw [HT.out]; exact HE2)⟩
              case measure => simp [intOf]; omega
            · obtain rfl : q = r := by omega
              have e : A.take q = A := List.take_of_length_le (by rw [HAl.out]; exact Nat.le_refl _)
              have HE1 := HE.out
              rw [e] at HE1
              obtain ⟨va, vc, rfl, hAi, -⟩ := Ints.of_owns HE1.a
              rw [HAl.out] at hAi ⊢
              have HVa := hide (Spn.value_any m.op m.k m.s _ _ _ _ _ (spn hAi))
              rw [HVz.out] at HVa
              have HN7 := hide (HN6.out.below HE1.bel)
              have HB7 := hide (bel HB6.out HE1.bel)
              obtain ⟨f0, -, -, -, f4, f5⟩ := six_of HN7.out
              clear hAi HE1 e HE
              go_wp2_with fail
              refine HVa.out.mono ?_
              rintro e V8 ⟨rfl, hb⟩
              have HB8 := hide (bel HB7.out hb)
              obtain ⟨_, _, he5, -, hat5⟩ := (HI4.out.later HB8.out).at (by omega)
              cases he5
              have lx5 := hat5 k hlt
              rw [HX.out] at lx5
              clear hb hat5
              go_wp2_with fail
              go_roundw
              case rel => exact ⟨k + 1, by omega, by go_num, HB8⟩
              case measure => simp [intOf]; omega
      · obtain rfl : k = n := by omega
        go_wp2_with fail
        go_ret
        exact ⟨rfl, bel HB4.out HB.out⟩
  · have he2 : (er != 0) = true := by simpa using he
    have hD := HZ0.out he
    subst hD
    clear he
    go_wp2_with fail
    refine (HA.out _).mono ?_
    rintro e V3 ⟨rfl, hb⟩
    have HB3 := hide (bel HB2.out hb)
    clear hb
    go_wp2_with fail
    go_ret
    exact ⟨rfl, HB3.out⟩

end Go.Proofs.Ythkihmbgdfnofaa

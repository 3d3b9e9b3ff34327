/-
  The document's Encode: what it answers.
-/
import Derived.Test.YtphmamhchkolkaaMD0
namespace Go.Proofs.Pck
open Ytphmamhchkolkaa
open Go.RowKit Go.IntWalk Ytphmamhchkolkaa.Knd
open Ytphmamhchkolkaa.Oct (vb vint lim scn scan pw rdU rdI zz uz)
open Ytphmamhchkolkaa.Ocm (Part joined u8s)
open Cde (In i0 ia cd is6 i6 Ins agL arN okI okT okT_at mcB mc_parts ccE csB rgN rgs rgB abc zA zA_get abc_at six_of four_of at6 has_new1 below_drew xMay_any xargs_any ok_con ok_ar arN_le)
set_option linter.unusedVariables false

/-- The bytes ahead of the instruction number k. -/
def preB (f d : Int) (n : Nat) (L : List In) (k : Nat) : List Int := ([1, f, d] ++ vint (n : Int)) ++ enS L k
theorem preB_len {f d : Int} {n : Nat} {L : List In} (h : okT L L.length = true) (hl : L.length ≤ 200) (hn : L.length = n) {k : Nat} (hk : k ≤ n) : (preB f d n L k).length ≤ 3700 := by
  have h1 := (enS_len h hl k (by omega)).2
  have h2 := (Oct.vint_len (n : Int)).2
  simp only [preB, List.length_append, List.length_cons, List.length_nil]
  omega
theorem preB_next {f d : Int} {n : Nat} {L : List In} {i : Nat} (h : 0 ≤ Spn.ar (L.getD i i0).op) : ((preB f d n L i ++ [(L.getD i i0).op]) ++ agB i (L.getD i i0) (arN (L.getD i i0))) ++ enK (L.getD i i0) = preB f d n L (i + 1) := by
  have := agB_all (L.getD i i0) i h
  unfold preB
  rw [enS_succ, ← this]
  simp only [List.append_assoc]
theorem one_bytes {W : World} {g : Nat} {x : Int} (h : HasC W g 5 #[.int .u8 x]) (h0 : 0 ≤ x) (h1 : x ≤ 255) : Ocm.Bytes W (some ⟨g, 0, none⟩) 1 1 [x] := by
  obtain ⟨a', c', e, hB, -⟩ := byt_own (own_one h 0 (Nat.zero_le _)) (Byts.one h0 h1)
  cases e
  exact hB
theorem by_bytes {W w' : World} {x : Option Addr} {zs : List Int} {c : Nat} (h : w'.ownsRow W.heap.size 5 1 (.slice x zs.length c) zs.length (u8s zs)) (hz : Byts zs) : Ocm.Bytes w' x zs.length c zs := by
  obtain ⟨a', c', e, hB, -⟩ := byt_own h hz
  cases e
  exact hB

set_option maxRecDepth 100000 in
set_option maxHeartbeats 16000000 in
theorem rencode_any (f d o : Int) {a : Option Addr} {n cap : Nat} {L : List In} {W : World} (h : Ins W a n cap L) : Calls Try.prog 10 #[.agg (cd f d a n cap o)] W (EnP W (enR f d L o)) := by
  have HC0 := hide (HasC.new W 26 (cd f d a n cap o))
  have HB0 := hide (bel1 W (.cells (cd f d a n cap o) 26))
  have HCk := hide (xMay_any f d o (h.later (bel1 W (.cells (cd f d a n cap o) 26))))
  have HI := hide h
  have HL := hide h.len
  have hn := h.short
  clear h
  by_cases hm : mcB f d L o = true
  · rw [show enR f d L o = (0, enC f d L o) from if_pos hm]
    rw [hm] at HCk
    obtain ⟨⟨hf, hd1, hd2⟩, m1, m2, m3, m4, hok⟩ := mc_parts hm
    have HOk := hide fun k (hk : k < n) => okT_at hok (k := k) (by rw [HL.out]; exact hk)
    have HPl := hide fun k (hk : k ≤ n) => preB_len (f := f) (d := d) hok m2 HL.out hk
    have HLen := hide (enC_len hm).2
    have HEq := hide (enC_eq f d L o)
    rw [HL.out] at HEq m2 m4 m1
    have hfb : f % 256 = f := by omega
    have hdb : d % 256 = d := by omega
    have f0 : 0 ≤ f ∧ f ≤ 255 := by omega
    have d0 : 0 ≤ d ∧ d ≤ 255 := by omega
    have HBy3 : Hid (Byts [1, f, d]) := hide ((Byts.one (x := 1) (by decide) (by decide)).app ((Byts.one f0.1 f0.2).app (Byts.one d0.1 d0.2)))
    have HNum := hide fun W => natural_any (n : Int) (by omega) (by omega) W
    have HAh := hide fun W => natural_any ((n : Int) - 1 - o) (by omega) (by omega) W
    have HAb := hide (Byts.vint (x := (n : Int) - 1 - o) (by omega) (by omega))
    clear hok hf hd1 hd2 hm
    go_enter Try.func10, Try.ntmps10
    go_wp2_with fail
    refine HCk.out.mono ?_
    rintro en V1 ⟨rfl, hb⟩
    have HC1 := hide (HC0.out.below hb)
    have HB1 := hide (bel HB0.out hb)
    obtain ⟨k0, k1, k2, k3⟩ := four_of HC1.out
    have zC := HC1.out.lt
    have HX2 := hide (HasC.new V1 5 #[.int .u8 1, .int .u8 f, .int .u8 d])
    have HC2 := hide (HC1.out.below (bel1 V1 (.cells #[.int .u8 1, .int .u8 f, .int .u8 d] 5)))
    have HB2 := hide (bel HB1.out (bel1 V1 (.cells #[.int .u8 1, .int .u8 f, .int .u8 d] 5)))
    have HBl : Hid (Bl W (V1.alloc (.cells #[.int .u8 1, .int .u8 f, .int .u8 d] 5)) (.slice (some ⟨V1.heap.size, 0, none⟩) 3 3) [1, f, d]) := hide ⟨⟨rfl, .inr ⟨V1.heap.size, 3, #[.int .u8 1, .int .u8 f, .int .u8 d], rfl, HB1.out.size, HX2.out, Nat.le_refl _, by decide, rfl, rfl⟩⟩, HB2.out⟩
    clear hb HC0 HB0 HCk HC1 HB1 HX2 HB2
    go_wp2_with fail
    refine (HNum.out _).mono ?_
    rintro en w2 ⟨x, c1, rfl, hO, hb⟩
    have HY := hide (by_bytes hO (Byts.vint (by omega) (by omega)))
    have HBl2 := hide (HBl.out.below hb)
    have HC3 := hide (HC2.out.below hb)
    have HZ0 : Hid (([1, f, d] : List Int) ++ vint (n : Int) = preB f d n L 0) := hide (by simp [preB, enS])
    obtain ⟨P0, hP0⟩ : ∃ P0, (preB f d n L 0).length = P0 := ⟨_, rfl⟩
    have HP0 := hide hP0
    have HP1 : Hid (([1, f, d] : List Int).length + (vint (n : Int)).length = P0) := hide (by rw [← hP0, ← HZ0.out, List.length_append])
    clear hO hb HNum HBl HC2 k0 k1 k2 k3 zC hP0
    go_wp2_with (at_builtin; refine app_list HBl2.out HY.out (by have := (Oct.vint_len (n : Int)).2; simp; omega) rfl _ _ rfl rfl rfl ?_; intro a3 p3 c3 w3 hB3 hn3 hO3; rw [HP1.out] at hn3; subst hn3; rw [HZ0.out] at hB3; have HBl3 := hide hB3; have HC4 := hide (hO3 _ _ _ HC3.out (by decide)); clear hB3 hO3)
    have HL3 := HP0
    clear HP0 HP1 HBl2 HY HC3
    go_loopw [4, 5] (fun bv iv wr => ∃ (k : Nat) (a' : Option Addr) (p c' : Nat), k ≤ n ∧ iv = .int .i64 k ∧ bv = .slice a' p c' ∧ Hid ((preB f d n L k).length = p) ∧ Hid (Bl W wr (.slice a' p c') (preB f d n L k)) ∧ Hid (HasC wr W.heap.size 26 (cd f d a n cap o))) (fun _ iv _ => n - (intOf iv).toNat)
    case atStart => exact ⟨0, _, _, _, Nat.zero_le _, rfl, rfl, HL3, HBl3, HC4⟩
    case round =>
      obtain ⟨k, a', p, c', hk, rfl, rfl, HLp, HBl, HC⟩ := hrel
      rename World => U
      clear HL3 HBl3 HC4 HZ0 HBy3
      obtain ⟨k0, k1, k2, k3⟩ := four_of HC.out
      have zC := HC.out.lt
      have hp : p ≤ 3700 := by rw [← HLp.out]; exact HPl.out k hk
      by_cases hlt : k < n
      · obtain ⟨ga, off, e, -, hat⟩ := (HI.out.later HBl.out.lo).at (by omega)
        subst e
        obtain ⟨e0, e1, e2, e3, e4, e5⟩ := hat k hlt
        have j0 : (0 : Int) ≤ k := by omega
        have j1 : (k : Int) < n := by omega
        have hE := HOk.out k hlt
        have HNx := hide (preB_next (f := f) (d := d) (n := n) (L := L) (i := k) (ok_ar hE))
        obtain ⟨o1, o2⟩ := op_byt (ok_ar hE)
        have hcs := ok_con hE
        have HRg := hide fun j (hj : j < arN (L.getD k i0)) => reg_ok hE hj
        generalize L.getD k i0 = nd at *
        obtain ⟨Z, hZ⟩ : ∃ Z, preB f d n L k = Z := ⟨_, rfl⟩
        obtain ⟨Z2, hZ2⟩ : ∃ Z2, preB f d n L (k + 1) = Z2 := ⟨_, rfl⟩
        rw [hZ] at HLp HBl HNx
        rw [hZ2] at HNx
        have HZ2 := hide hZ2
        have hop := byte_of o1 (by omega)
        have HZo := hide (Byts.one o1 (show nd.op ≤ 255 by omega))
        have HB2 := hide ((HBl.out.below (bel1 U (.cells (ia nd) 51))).below (bel1 (U.alloc (.cells (ia nd) 51)) (.cells #[.int .u8 nd.op] 5)))
        have HC2 := hide ((HC.out.alloc (.cells (ia nd) 51)).alloc (.cells #[.int .u8 nd.op] 5))
        have HN2 := hide ((HasC.new U 51 (ia nd)).alloc (.cells #[.int .u8 nd.op] 5))
        have HX2 := hide (one_bytes (has_new1 U (.cells (ia nd) 51) 5 #[.int .u8 nd.op]) o1 (by omega))
        clear hat hE HBl HC HPl HOk hZ hZ2 HAh HAb HEq HLen o1 o2
        go_wp2_with (at_builtin; refine app_list HB2.out HX2.out (by rw [HLp.out]; omega) rfl _ _ rfl rfl rfl ?_; intro a3 p3 c3 w3 hB3 hn3 hO3; rw [HLp.out] at hn3; subst hn3; have HBl3 := hide hB3; have HC3 := hide (hO3 _ _ _ HC2.out (by decide)); have HN3 := hide (hO3 _ _ _ HN2.out (by decide)); obtain ⟨d0', d1', d2', d3', d4', d5'⟩ := six_of HN3.out; clear hB3 hO3)
        refine (xargs_any nd _).mono ?_
        rintro en w4 ⟨gr, rfl, -, hG, hb⟩
        have HG4 := hide hG
        have HBl4 := hide (HBl3.out.below hb)
        have HC4 := hide (HC3.out.below hb)
        have HN4 := hide (HN3.out.below hb)
        obtain ⟨m, hm⟩ : ∃ m, arN nd = m := ⟨_, rfl⟩
        have hm3 : m ≤ 3 := by rw [← hm]; exact arN_le nd
        rw [hm] at HRg HNx ⊢
        obtain ⟨nb, hnb⟩ : ∃ nb, U.heap.size = nb := ⟨_, rfl⟩
        rw [hnb] at HN4 ⊢
        clear hG hb HBl3 HC3 HN3 HB2 HC2 HN2 HX2 hm hop k0 k1 k2 k3 zC e0 e1 e2 e3 e4 e5 d0' d1' d2' d3' d4' d5' hnb
        go_wp2_with fail
        have HL4 : Hid ((Z ++ [nd.op] ++ agB k nd 0).length = p + 1) := hide (by simp [agB, HLp.out])
        have HB4 : Hid (Bl W w4 (.slice a3 (p + 1) c3) (Z ++ [nd.op] ++ agB k nd 0)) := hide (by rw [show Z ++ [nd.op] ++ agB (k : Int) nd 0 = Z ++ [nd.op] by simp [agB]]; exact HBl4.out)
        clear HBl4
        go_loopw [4, 8] (fun bv jv wr => ∃ (j : Nat) (a' : Option Addr) (q c' : Nat), j ≤ m ∧ jv = .int .i64 j ∧ bv = .slice a' q c' ∧ Hid ((Z ++ [nd.op] ++ agB k nd j).length = q) ∧ Hid (q ≤ p + 1 + 10 * j) ∧ Hid (Bl W wr (.slice a' q c') (Z ++ [nd.op] ++ agB k nd j)) ∧ Hid (HasC wr W.heap.size 26 (cd f d (some ⟨ga, off, none⟩) n cap o)) ∧ Hid (HasC wr nb 51 (ia nd)) ∧ Hid (HasC wr gr 3 (zA (abc nd)))) (fun _ jv _ => m - (intOf jv).toNat)
        case atStart => exact ⟨0, _, _, _, Nat.zero_le _, rfl, rfl, HL4, hide (by omega), HB4, HC4, HN4, HG4⟩
        case round =>
          obtain ⟨j, a5, q, c5, hj, rfl, rfl, HLq, HQ, HB5, HC5, HN5, HG5⟩ := hrel
          rename World => X
          clear HL4 HB4 HC4 HN4 HG4
          have hq := HQ.out
          by_cases hlj : j < m
          · have i0' : (0 : Int) ≤ j := by omega
            have i1' : (j : Int) < m := by omega
            have g0 := HG5.out.cell j (zA_get (abc nd) j (by simp [abc]; omega))
            rw [abc_at nd j (by omega)] at g0
            obtain ⟨r0, r1⟩ := HRg.out j hlj
            have HNa := hide (natural_any ((k : Int) - 1 - rgN nd j) r1 (by omega) X)
            have HNb := hide (Byts.vint (x := (k : Int) - 1 - rgN nd j) r1 (by omega))
            have hvl := (Oct.vint_len ((k : Int) - 1 - rgN nd j)).2
            have HAg : Hid ((Z ++ [nd.op] ++ agB k nd j) ++ vint ((k : Int) - 1 - rgN nd j) = Z ++ [nd.op] ++ agB k nd (j + 1)) := hide (by rw [agB, List.append_assoc (Z ++ [nd.op])])
            generalize rgN nd j = rg at *
            clear HRg
            go_wp2_with fail
            refine HNa.out.mono ?_
            rintro en w6 ⟨x6, c6, rfl, hO, hb⟩
            have HY6 := hide (by_bytes hO HNb.out)
            have HB6 := hide (HB5.out.below hb)
            have HC6 := hide (HC5.out.below hb)
            have HN6 := hide (HN5.out.below hb)
            have HG6 := hide (HG5.out.below hb)
            generalize (vint ((k : Int) - 1 - rg)).length = vl at *
            clear hO hb HB5 HC5 HN5 HG5 HNa HNb g0 r0 r1
            go_wp2_with (at_builtin; refine app_list HB6.out HY6.out (by rw [HLq.out]; omega) rfl _ _ rfl rfl rfl ?_; intro a7 q7 c7 w7 hB7 hn7 hO7; rw [HLq.out] at hn7; subst hn7; have HB7 := hide hB7; have HC7 := hide (hO7 _ _ _ HC6.out (by decide)); have HN7 := hide (hO7 _ _ _ HN6.out (by decide)); have HG7 := hide (hO7 _ _ _ HG6.out (by decide)); clear hB7 hO7)
            have hl7 := congrArg List.length HAg.out
            rw [List.length_append, HLq.out, HY6.out.len] at hl7
            rw [HAg.out] at HB7
            have HL7 := hide hl7.symm
            clear hl7 HB6 HC6 HN6 HG6
            go_roundw
            case rel => exact ⟨j + 1, _, _, _, by omega, by go_num, rfl, HL7, hide (by omega), HB7, HC7, HN7, HG7⟩
            case measure => simp [intOf]; omega
          · obtain rfl : j = m := by omega
            obtain ⟨b0, b1, b2, b3, b4, b5⟩ := six_of HN5.out
            have HH := hide fun W => how_any nd.op W
            have hq2 : q ≤ 3800 := by omega
            obtain ⟨Y, hY⟩ : ∃ Y, Z ++ [nd.op] ++ agB k nd j = Y := ⟨_, rfl⟩
            rw [hY] at HB5 HLq HNx
            clear hY HG5 HRg HQ
            rcases hw_cases hcs with ⟨e, x0, x1, x2⟩ | ⟨e, x0, x1, x2⟩ | ⟨e, x0, x1, x2⟩ | ⟨e, x0, x1, x2, x3⟩ | ⟨e, x0, x1⟩
            · have hEK : enK nd = vint (zz nd.k) := by simp [enK, e]
              rw [hEK] at HNx
              have HNa := hide (fun W => rint_any nd.k (by omega) (by omega) W)
              have HNb := hide ((show Byts (vint (zz nd.k)) from by obtain ⟨z0, z1⟩ := Oct.zz_range nd.k (by omega) (by omega); exact Byts.vint z0 z1))
              have hvl := (Oct.vint_len (zz nd.k)).2
              rw [e] at HH
              clear hcs e hEK x0 x1 x2
              go_wp2_with (go_at_call 30; refine (HH.out _).mono ?_; rintro en w6 ⟨rfl, rfl⟩)
              refine (HNa.out _).mono ?_
              rintro en w6 ⟨x6, c6, rfl, hO, hb⟩
              have HY6 := hide (by_bytes hO HNb.out)
              have HB6 := hide (HB5.out.below hb)
              have HC6 := hide (HC5.out.below hb)
              obtain ⟨ys, hys⟩ : ∃ ys, vint (zz nd.k) = ys := ⟨_, rfl⟩
              rw [hys] at HY6 HNx hvl ⊢
              obtain ⟨vl, hv⟩ : ∃ vl, ys.length = vl := ⟨_, rfl⟩
              rw [hv] at HY6 hvl ⊢
              clear hO hb HB5 HC5 HN5 HNa HNb b0 b1 b2 b3 b4 b5 hys hv
              go_wp2_with (at_builtin; refine app_list HB6.out HY6.out (by rw [HLq.out]; omega) rfl _ _ rfl rfl rfl ?_; intro a7 q7 c7 w7 hB7 hn7 hO7; rw [HLq.out] at hn7; subst hn7; have HB7 := hide hB7; have HC7 := hide (hO7 _ _ _ HC6.out (by decide)); clear hB7 hO7)
              have hl7 := congrArg List.length HNx.out
              rw [List.length_append, HLq.out, HY6.out.len] at hl7
              rw [HNx.out] at HB7
              rw [← HZ2.out] at HB7 hl7
              have HL7 := hide hl7.symm
              clear hl7 HB6 HC6
              go_roundw
              case rel => exact ⟨k + 1, _, _, _, by omega, by go_num, rfl, HL7, HB7, HC7⟩
              case measure => simp [intOf]; omega
            · have hEK : enK nd = [nd.k] := by simp [enK, e]
              rw [hEK] at HNx
              have hkb := byte_of x0 x1
              have HX6 := hide (one_bytes (HasC.new X 5 #[.int .u8 nd.k]) x0 x1)
              have HB6 := hide (HB5.out.below (bel1 X (.cells #[.int .u8 nd.k] 5)))
              have HC6 := hide (HC5.out.alloc (.cells #[.int .u8 nd.k] 5))
              rw [e] at HH
              clear hcs e hEK x0 x1 x2 HB5 HC5 HN5
              go_wp2_with (first
                | (go_at_call 30; refine (HH.out _).mono ?_; rintro en w6 ⟨rfl, rfl⟩)
                | (at_builtin; refine app_list HB6.out HX6.out (by rw [HLq.out]; omega) rfl _ _ rfl rfl rfl ?_; intro a7 q7 c7 w7 hB7 hn7 hO7; rw [HLq.out] at hn7; subst hn7; have HB7 := hide hB7; have HC7 := hide (hO7 _ _ _ HC6.out (by decide)); clear hB7 hO7))
              have hl7 := congrArg List.length HNx.out
              rw [List.length_append, HLq.out] at hl7
              rw [HNx.out] at HB7
              rw [← HZ2.out] at HB7 hl7
              have HL7 := hide hl7.symm
              clear hl7 HB6 HC6 b0 b1 b2 b3 b4 b5 hkb
              go_roundw
              case rel => exact ⟨k + 1, _, _, _, by omega, by go_num, rfl, HL7, HB7, HC7⟩
              case measure => simp [intOf]; omega
            · have hEK : enK nd = vint nd.k := by simp [enK, e]
              rw [hEK] at HNx
              have HNa := hide (fun W => natural_any nd.k (by omega) (by omega) W)
              have HNb := hide (Byts.vint (x := nd.k) (by omega) (by omega))
              have hvl := (Oct.vint_len (nd.k)).2
              rw [e] at HH
              clear hcs e hEK x0 x1 x2
              go_wp2_with (go_at_call 30; refine (HH.out _).mono ?_; rintro en w6 ⟨rfl, rfl⟩)
              refine (HNa.out _).mono ?_
              rintro en w6 ⟨x6, c6, rfl, hO, hb⟩
              have HY6 := hide (by_bytes hO HNb.out)
              have HB6 := hide (HB5.out.below hb)
              have HC6 := hide (HC5.out.below hb)
              obtain ⟨ys, hys⟩ : ∃ ys, vint nd.k = ys := ⟨_, rfl⟩
              rw [hys] at HY6 HNx hvl ⊢
              obtain ⟨vl, hv⟩ : ∃ vl, ys.length = vl := ⟨_, rfl⟩
              rw [hv] at HY6 hvl ⊢
              clear hO hb HB5 HC5 HN5 HNa HNb b0 b1 b2 b3 b4 b5 hys hv
              go_wp2_with (at_builtin; refine app_list HB6.out HY6.out (by rw [HLq.out]; omega) rfl _ _ rfl rfl rfl ?_; intro a7 q7 c7 w7 hB7 hn7 hO7; rw [HLq.out] at hn7; subst hn7; have HB7 := hide hB7; have HC7 := hide (hO7 _ _ _ HC6.out (by decide)); clear hB7 hO7)
              have hl7 := congrArg List.length HNx.out
              rw [List.length_append, HLq.out, HY6.out.len] at hl7
              rw [HNx.out] at HB7
              rw [← HZ2.out] at HB7 hl7
              have HL7 := hide hl7.symm
              clear hl7 HB6 HC6
              go_roundw
              case rel => exact ⟨k + 1, _, _, _, by omega, by go_num, rfl, HL7, HB7, HC7⟩
              case measure => simp [intOf]; omega
            · have hEK : enK nd = vint nd.k ++ [nd.s] := by simp [enK, e]
              rw [hEK] at HNx
              have HNa := hide (fun W => natural_any nd.k (by omega) (by omega) W)
              have HNb := hide (Byts.vint (x := nd.k) (by omega) (by omega))
              have hvl := Oct.vint_len nd.k
              have hsb : IntKind.u8.wrap nd.s = nd.s := by rw [IntKind.wrap_u8]; omega
              have HYl : Hid ((vint nd.k).length = (vint nd.k).length) := hide rfl
              have s0 : 0 ≤ nd.s := x2
              have s1 : nd.s ≤ 255 := by omega
              rw [e] at HH
              clear hcs e hEK x0 x1 x2 x3
              go_wp2_with (go_at_call 30; refine (HH.out _).mono ?_; rintro en w6 ⟨rfl, rfl⟩)
              clear b0 b1 b2 b3 b4 b5
              have HS1 : Hid (HasC w6.drew nb 51 (ia nd)) := hide (HN5.out.below (below_drew w6))
              have HBd := hide (HB5.out.below (below_drew w6))
              have HCd := hide (HC5.out.below (below_drew w6))
              refine wp_region_held_drew (S := fun w => HasC w nb 51 (ia nd)) (by kernel_rfl) HS1.out (fun _ => ?_)
              obtain ⟨V2, hV2⟩ : ∃ V2, w6.drew = V2 := ⟨_, rfl⟩
              rw [hV2] at HS1 HBd HCd ⊢
              clear hV2 HB5 HC5 HN5
              refine wpAnyH_take (i := 0) (v := .slice a5 q c5) rfl (by kernel_rfl) (by kernel_rfl) (by kernel_rfl) (fun _ _ _ h => h) (Or.inl ⟨by rfl, fun w hS => by obtain ⟨e0, e1, e2, e3, e4, e5⟩ := six_of hS; go_simp⟩) HS1.out ?_
              refine wpAnyH_take (i := 1) (v := .pointer (some ⟨nb, 4, none⟩)) rfl (by kernel_rfl) (by kernel_rfl) (by kernel_rfl) (fun _ _ _ h => h) (Or.inl ⟨by rfl, fun w hS => by obtain ⟨e0, e1, e2, e3, e4, e5⟩ := six_of hS; go_simp⟩) HS1.out ?_
              refine wpAnyH_take (i := 2) (v := .int .i64 nd.k) rfl (by kernel_rfl) (by kernel_rfl) (by kernel_rfl) (fun _ _ _ h => h) (Or.inl ⟨by rfl, fun w hS => by obtain ⟨e0, e1, e2, e3, e4, e5⟩ := six_of hS; go_simp⟩) HS1.out ?_
              refine wpAnyH_take (i := 5) (v := .pointer (some ⟨nb, 5, none⟩)) rfl (by kernel_rfl) (by kernel_rfl) (by kernel_rfl) (fun _ _ _ h => h) (Or.inl ⟨by rfl, fun w hS => by obtain ⟨e0, e1, e2, e3, e4, e5⟩ := six_of hS; go_simp⟩) HS1.out ?_
              refine wpAnyH_take (i := 6) (v := .int .i64 nd.s) rfl (by kernel_rfl) (by kernel_rfl) (by kernel_rfl) (fun _ _ _ h => h) (Or.inl ⟨by rfl, fun w hS => by obtain ⟨e0, e1, e2, e3, e4, e5⟩ := six_of hS; go_simp⟩) HS1.out ?_
              refine wpAnyH_take (i := 7) (v := .int .u8 nd.s) rfl (by kernel_rfl) (by kernel_rfl) (by kernel_rfl) (fun _ _ _ h => h) (Or.inl ⟨by rfl, fun w hS => by obtain ⟨e0, e1, e2, e3, e4, e5⟩ := six_of hS; go_simp⟩) HS1.out ?_
              refine wpAnyH_ready (rs := [3, 8]) (by kernel_rfl) (by simp) (AllReadyH.cons rfl (fun K hK => ?_) (AllReadyH.cons rfl (fun K hK => ?_) AllReadyH.nil))
              · go_simp
                refine (HNa.out _).mono ?_
                rintro en w2 ⟨x6, c6, rfl, hO, hb⟩
                have HS2 := hide (HS1.out.below hb)
                have HB2 := hide (HBd.out.below hb)
                have HC2 := hide (HCd.out.below hb)
                have HY2 := hide (by_bytes hO HNb.out)
                clear hO hb
                refine hK.out _ _ HS2.out (fun _ => ?_)
                clear hK K
                refine wpAnyH_ready (rs := [4, 8]) (by kernel_rfl) (by simp) (AllReadyH.cons rfl (fun K hK => ?_) (AllReadyH.cons rfl (fun K hK => ?_) AllReadyH.nil))
                · obtain ⟨b', off', ey, -, -⟩ := HY2.out.at (by omega)
                  subst ey
                  refine app_step2 HB2.out HY2.out (by omega) (by rw [HLq.out]; omega) (by rfl) _ _ (by rfl) (by rfl) (by rfl) ?_
                  intro a7 q7 c7 w3 hB3 hn3 hO3
                  rw [HLq.out] at hn3
                  subst hn3
                  have HB3 := hide hB3
                  have HS3 := hide (hO3 _ _ _ HS2.out (own_ne HB2.out.s HS2.out (by decide)))
                  have HC3 := hide (hO3 _ _ _ HC2.out (own_ne HB2.out.s HC2.out (by decide)))
                  clear hB3 hO3
                  refine hK.out _ _ HS3.out (fun _ => ?_)
                  clear hK K
                  refine wpAnyH_ready (rs := [8]) (by kernel_rfl) (by simp) (AllReadyH.cons rfl (fun K hK => ?_) AllReadyH.nil)
                  go_simp
                  have HS4 := hide (HS3.out.below (bel1 w3 (.cells #[.int .u8 nd.s] 5)))
                  have HB4 := hide (HB3.out.below (bel1 w3 (.cells #[.int .u8 nd.s] 5)))
                  have HC4 := hide (HC3.out.below (bel1 w3 (.cells #[.int .u8 nd.s] 5)))
                  have HX4 := hide (HasC.new w3 5 #[.int .u8 nd.s])
                  refine hK.out _ _ HS4.out (fun _ => ?_)
                  clear hK K
                  refine wpAnyH_ready (rs := [9]) (by kernel_rfl) (by simp) (AllReadyH.cons rfl (fun K hK => ?_) AllReadyH.nil)
                  refine app_step2 HB4.out (one_bytes HX4.out s0 s1) (by decide) (by rw [List.length_append, HLq.out]; omega) (by rfl) _ _ (by rfl) (by rfl) (by rfl) ?_
                  intro a8 q8 c8 w8 hB8 hn8 hO8
                  rw [List.length_append, HLq.out] at hn8
                  subst hn8
                  have HB8 := hide hB8
                  have HS8 := hide (hO8 _ _ _ HS4.out (own_ne HB4.out.s HS4.out (by decide)))
                  have HC8 := hide (hO8 _ _ _ HC4.out (own_ne HB4.out.s HC4.out (by decide)))
                  clear hB8 hO8
                  refine hK.out _ _ HS8.out (fun _ => ?_)
                  clear hK K
                  refine wpAnyH_ready (rs := [10]) (by kernel_rfl) (by simp) (AllReadyH.cons rfl (fun K hK => ?_) AllReadyH.nil)
                  go_simp
                  refine hK.out _ _ HS8.out (fun _ => ?_)
                  clear hK K
                  refine wpAnyH_done (by kernel_rfl) ?_ _
                  go_simp
                  have hl7 := congrArg List.length HNx.out
                  rw [List.length_append, List.length_append, HLq.out, ← HZ2.out] at hl7
                  have HNy := HNx.out
                  rw [← List.append_assoc] at HNy
                  rw [HNy, ← HZ2.out] at HB8
                  have HL7 : Hid ((preB f d n L (k + 1)).length = q + (vint nd.k).length + 1) := hide (by rw [← hl7]; simp; omega)
                  clear hl7 HNy
                  go_wp2_with fail
                  go_roundw
                  case rel => exact ⟨k + 1, _, _, _, by omega, by go_num, rfl, HL7, HB8, HC8⟩
                  case measure => simp [intOf]; omega
                · go_simp
                  have HS4 := hide (HS2.out.below (bel1 w2 (.cells #[.int .u8 nd.s] 5)))
                  have HB4 := hide (HB2.out.below (bel1 w2 (.cells #[.int .u8 nd.s] 5)))
                  have HC4 := hide (HC2.out.below (bel1 w2 (.cells #[.int .u8 nd.s] 5)))
                  have HX4 := hide (HasC.new w2 5 #[.int .u8 nd.s])
                  have HY4 := hide (HY2.out.later (bel1 w2 (.cells #[.int .u8 nd.s] 5)))
                  refine hK.out _ _ HS4.out (fun _ => ?_)
                  clear hK K
                  refine wpAnyH_ready (rs := [4]) (by kernel_rfl) (by simp) (AllReadyH.cons rfl (fun K hK => ?_) AllReadyH.nil)
                  obtain ⟨b', off', ey, -, -⟩ := HY4.out.at (by omega)
                  subst ey
                  refine app_step2 HB4.out HY4.out (by omega) (by rw [HLq.out]; omega) (by rfl) _ _ (by rfl) (by rfl) (by rfl) ?_
                  intro a7 q7 c7 w3 hB3 hn3 hO3
                  rw [HLq.out] at hn3
                  subst hn3
                  have HB3 := hide hB3
                  have HS3 := hide (hO3 _ _ _ HS4.out (own_ne HB4.out.s HS4.out (by decide)))
                  have HC3 := hide (hO3 _ _ _ HC4.out (own_ne HB4.out.s HC4.out (by decide)))
                  have HX3 := hide (hO3 _ _ _ HX4.out (fun e => by have := own_lt HB2.out.s e; omega))
                  clear hB3 hO3
                  refine hK.out _ _ HS3.out (fun _ => ?_)
                  clear hK K
                  refine wpAnyH_ready (rs := [9]) (by kernel_rfl) (by simp) (AllReadyH.cons rfl (fun K hK => ?_) AllReadyH.nil)
                  refine app_step2 HB3.out (one_bytes HX3.out s0 s1) (by decide) (by rw [List.length_append, HLq.out]; omega) (by rfl) _ _ (by rfl) (by rfl) (by rfl) ?_
                  intro a8 q8 c8 w8 hB8 hn8 hO8
                  rw [List.length_append, HLq.out] at hn8
                  subst hn8
                  have HB8 := hide hB8
                  have HS8 := hide (hO8 _ _ _ HS3.out (own_ne HB3.out.s HS3.out (by decide)))
                  have HC8 := hide (hO8 _ _ _ HC3.out (own_ne HB3.out.s HC3.out (by decide)))
                  clear hB8 hO8
                  refine hK.out _ _ HS8.out (fun _ => ?_)
                  clear hK K
                  refine wpAnyH_ready (rs := [10]) (by kernel_rfl) (by simp) (AllReadyH.cons rfl (fun K hK => ?_) AllReadyH.nil)
                  go_simp
                  refine hK.out _ _ HS8.out (fun _ => ?_)
                  clear hK K
                  refine wpAnyH_done (by kernel_rfl) ?_ _
                  go_simp
                  have hl7 := congrArg List.length HNx.out
                  rw [List.length_append, List.length_append, HLq.out, ← HZ2.out] at hl7
                  have HNy := HNx.out
                  rw [← List.append_assoc] at HNy
                  rw [HNy, ← HZ2.out] at HB8
                  have HL7 : Hid ((preB f d n L (k + 1)).length = q + (vint nd.k).length + 1) := hide (by rw [← hl7]; simp; omega)
                  clear hl7 HNy
                  go_wp2_with fail
                  go_roundw
                  case rel => exact ⟨k + 1, _, _, _, by omega, by go_num, rfl, HL7, HB8, HC8⟩
                  case measure => simp [intOf]; omega
              · go_simp
                have HS4 := hide (HS1.out.below (bel1 V2 (.cells #[.int .u8 nd.s] 5)))
                have HB4 := hide (HBd.out.below (bel1 V2 (.cells #[.int .u8 nd.s] 5)))
                have HC4 := hide (HCd.out.below (bel1 V2 (.cells #[.int .u8 nd.s] 5)))
                have HX4 := hide (HasC.new V2 5 #[.int .u8 nd.s])
                refine hK.out _ _ HS4.out (fun _ => ?_)
                clear hK K
                refine wpAnyH_ready (rs := [3]) (by kernel_rfl) (by simp) (AllReadyH.cons rfl (fun K hK => ?_) AllReadyH.nil)
                go_simp
                refine (HNa.out _).mono ?_
                rintro en w2 ⟨x6, c6, rfl, hO, hb⟩
                have HS2 := hide (HS4.out.below hb)
                have HB2 := hide (HB4.out.below hb)
                have HC2 := hide (HC4.out.below hb)
                have HY2 := hide (by_bytes hO HNb.out)
                have HX2 := hide (HX4.out.below hb)
                clear hO hb
                refine hK.out _ _ HS2.out (fun _ => ?_)
                clear hK K
                refine wpAnyH_ready (rs := [4]) (by kernel_rfl) (by simp) (AllReadyH.cons rfl (fun K hK => ?_) AllReadyH.nil)
                obtain ⟨b', off', ey, -, -⟩ := HY2.out.at (by omega)
                subst ey
                refine app_step2 HB2.out HY2.out (by omega) (by rw [HLq.out]; omega) (by rfl) _ _ (by rfl) (by rfl) (by rfl) ?_
                intro a7 q7 c7 w3 hB3 hn3 hO3
                rw [HLq.out] at hn3
                subst hn3
                have HB3 := hide hB3
                have HS3 := hide (hO3 _ _ _ HS2.out (own_ne HB2.out.s HS2.out (by decide)))
                have HC3 := hide (hO3 _ _ _ HC2.out (own_ne HB2.out.s HC2.out (by decide)))
                have HX3 := hide (hO3 _ _ _ HX2.out (fun e => by have := own_lt HBd.out.s e; omega))
                clear hB3 hO3
                refine hK.out _ _ HS3.out (fun _ => ?_)
                clear hK K
                refine wpAnyH_ready (rs := [9]) (by kernel_rfl) (by simp) (AllReadyH.cons rfl (fun K hK => ?_) AllReadyH.nil)
                refine app_step2 HB3.out (one_bytes HX3.out s0 s1) (by decide) (by rw [List.length_append, HLq.out]; omega) (by rfl) _ _ (by rfl) (by rfl) (by rfl) ?_
                intro a8 q8 c8 w8 hB8 hn8 hO8
                rw [List.length_append, HLq.out] at hn8
                subst hn8
                have HB8 := hide hB8
                have HS8 := hide (hO8 _ _ _ HS3.out (own_ne HB3.out.s HS3.out (by decide)))
                have HC8 := hide (hO8 _ _ _ HC3.out (own_ne HB3.out.s HC3.out (by decide)))
                clear hB8 hO8
                refine hK.out _ _ HS8.out (fun _ => ?_)
                clear hK K
                refine wpAnyH_ready (rs := [10]) (by kernel_rfl) (by simp) (AllReadyH.cons rfl (fun K hK => ?_) AllReadyH.nil)
                go_simp
                refine hK.out _ _ HS8.out (fun _ => ?_)
                clear hK K
                refine wpAnyH_done (by kernel_rfl) ?_ _
                go_simp
                have hl7 := congrArg List.length HNx.out
                rw [List.length_append, List.length_append, HLq.out, ← HZ2.out] at hl7
                have HNy := HNx.out
                rw [← List.append_assoc] at HNy
                rw [HNy, ← HZ2.out] at HB8
                have HL7 : Hid ((preB f d n L (k + 1)).length = q + (vint nd.k).length + 1) := hide (by rw [← hl7]; simp; omega)
                clear hl7 HNy
                go_wp2_with fail
                go_roundw
                case rel => exact ⟨k + 1, _, _, _, by omega, by go_num, rfl, HL7, HB8, HC8⟩
                case measure => simp [intOf]; omega
            · have hEK : enK nd = [] := by simp [enK, e]
              rw [hEK, List.append_nil] at HNx
              obtain ⟨t1, t2, t3, t4, t5, t6, t7, t8⟩ := hw_zero e
              rw [e] at HH
              clear hcs e hEK x0 x1 t1 t2 t3 t4 t5 t6 t7 t8
              go_wp2_with (go_at_call 30; refine (HH.out _).mono ?_; rintro en w6 ⟨rfl, rfl⟩)
              have hl7 := HLq.out
              rw [HNx.out, ← HZ2.out] at hl7
              rw [HNx.out, ← HZ2.out] at HB5
              have HL7 := hide hl7
              clear hl7 b0 b1 b2 b3 b4 b5
              go_roundw
              case rel => exact ⟨k + 1, _, _, _, by omega, by go_num, rfl, HL7, HB5, HC5⟩
              case measure => simp [intOf]; omega
      · obtain rfl : k = n := by omega
        have HA := hide (HAh.out U)
        have hvl := (Oct.vint_len ((k : Int) - 1 - o)).2
        clear HAh HOk HPl
        go_wp2_with fail
        refine HA.out.mono ?_
        rintro en w6 ⟨x6, c6, rfl, hO, hb⟩
        have HY6 := hide (by_bytes hO HAb.out)
        have HB6 := hide (HBl.out.below hb)
        have HF : Hid (preB f d k L k ++ vint ((k : Int) - 1 - o) = enC f d L o) := HEq
        obtain ⟨ys, hys⟩ : ∃ ys, vint ((k : Int) - 1 - o) = ys := ⟨_, rfl⟩
        rw [hys] at HY6 HF hvl ⊢
        obtain ⟨vl, hv⟩ : ∃ vl, ys.length = vl := ⟨_, rfl⟩
        rw [hv] at HY6 hvl ⊢
        clear hO hb HA HBl HC HAb HEq hys hv k0 k1 k2 k3 zC
        go_wp2_with (at_builtin; refine app_list HB6.out HY6.out (by rw [HLp.out]; omega) rfl _ _ rfl rfl rfl ?_; intro a7 q7 c7 w7 hB7 hn7 hO7; rw [HLp.out] at hn7; subst hn7; have HB7 := hide hB7; clear hB7 hO7)
        have hl7 := congrArg List.length HF.out
        rw [List.length_append, HLp.out, HY6.out.len] at hl7
        rw [HF.out] at HB7
        have hs7 := HB7.out.s
        rw [← hl7] at hs7
        have HS7 := hide hs7
        have HL7 := hide hl7
        clear hs7 hl7
        go_ret2
        exact EnP.mk HL7.out HS7.out HB7.out.lo
  · rw [show enR f d L o = (15, []) from if_neg hm]
    rw [show mcB f d L o = false by simpa using hm] at HCk
    clear hm
    go_enter Try.func10, Try.ntmps10
    go_wp2_with fail
    refine HCk.out.mono ?_
    rintro en V1 ⟨rfl, hb⟩
    have HB1 := hide (bel HB0.out hb)
    clear hb HCk
    go_wp2_with fail
    go_ret2
    exact EnP.bad HB1.out

end Go.Proofs.Pck

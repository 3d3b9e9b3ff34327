/-
  code.Uses.
-/
import Derived.Test.YtbingoelpeoimaaMCdU0
namespace Go.Proofs.Cde
open Ytbingoelpeoimaa (Wd wdA Fits inpV fitE_cases)
open Go.RowKit Go.IntWalk Ytbingoelpeoimaa.Knd
set_option linter.unusedVariables false

set_option maxRecDepth 100000 in
set_option maxHeartbeats 8000000 in
theorem cuses_any (f d out : Int) {a : Option Addr} {n cap : Nat} {L : List In} {W : World} (hL : Ins W a n cap L) :
    Calls Try.prog 13 #[.agg (cd f d a n cap out)] W (TwP W (usZ f d L out)) := by
  have hb1 := bel1 W (.cells (cd f d a n cap out) 26)
  have HC0 := hide (HasC.new W 26 (cd f d a n cap out))
  have HB0 := hide hb1
  have HCk := hide (ccheck_any f d out (hL.later hb1))
  have HLI := hide hL
  have HLn := hide hL.len
  clear hb1 hL
  rcases ccE_cases f d L out with ⟨hm, h0⟩ | ⟨hm, h0⟩
  · rw [h0] at HCk
    obtain ⟨-, m1, m2, o1, o2, hok⟩ := mc_parts hm
    have HU := hide (usU_eq (L := L) (out := out) o1)
    rw [HLn.out] at m1 m2 o2 hok HU
    rw [show usZ f d L out = (0, usU L out) by rw [usZ, if_pos hm]]
    have HOk := hide hok
    have hmk := make_z n (by omega)
    clear hm h0 hok
    go_enter Try.func13, Try.ntmps13
    go_wp2_with fail
    refine HCk.out.mono ?_
    rintro e V1 ⟨rfl, hb⟩
    have HC1 := hide (HC0.out.below hb)
    have HB1 := hide (bel HB0.out hb)
    obtain ⟨c0, c1, c2, c3⟩ := four_of HC1.out
    have hg0 := HC1.out.lt
    clear hb HC0 HB0 HCk
    have HC3 := hide (HC1.out.alloc (.cells (zA (List.replicate n 0)) 3))
    have HB3 := hide (bel HB1.out (bel1 V1 (.cells (zA (List.replicate n 0)) 3)))
    have HG3 := hide (HasC.new V1 3 (zA (List.replicate n 0)))
    go_wp2_with fail
    generalize V1.heap.size = g at *
    clear HC1 HB1 c0 c1 c2 c3 hmk
    go_loopw [22] (fun i wr => ∃ k : Nat, k ≤ n ∧ i = .int .i64 k ∧ Hid (HasC wr g 3 (zA (usF n (agA (L.take k))))) ∧ Hid (HasC wr W.heap.size 26 (cd f d a n cap out)) ∧ Hid (Below W.heap.size W wr)) (fun i _ => n - (intOf i).toNat)
    case atStart => exact ⟨0, Nat.zero_le _, rfl, HG3, HC3, HB3⟩
    case round =>
      obtain ⟨k, hk, rfl, HG, HC, HB⟩ := hrel
      rename World => V
      clear HG3 HC3 HB3
      by_cases hlt : k < n
      · obtain ⟨b, off, rfl, -, hat⟩ := (HLI.out.later HB.out).at (by omega)
        obtain ⟨e0, e1, e2, e3, e4, e5⟩ := hat k hlt
        clear hat
        have hi0 : (0 : Int) ≤ k := by omega
        have hi1 : (k : Int) < n := by omega
        have hOk := okT_at HOk.out hlt
        have HS := hide (agA_snoc (L.take k) (L.getD k i0))
        rw [← take_snoc i0 (by rw [HLn.out]; exact hlt)] at HS
        have hAl : (agA (L.take k)).length ≤ 600 := by have := agA_len (L.take k); rw [List.length_take] at this; omega
        generalize L.getD k i0 = m at *
        generalize agA (L.take k) = A at *
        have HR := hide fun j hj => ok_reg hOk (j := j) hj
        have hr3 := arN_le m
        have HA := hide fun w => cargs_ex m w
        have HT := hide fun q (h : q < arN m) => agL_succ m h
        have HFu := hide (agL_full m)
        have HQl : Hid (∀ q, ((agL m).take q).length ≤ 3) := hide fun q => by rw [List.length_take, agL_len]; omega
        have HRg : Hid (∀ q, q < 3 → (zA (abc m))[q]? = some (.int .i64 (rgN m q))) := hide fun q h => by rw [zA_get _ q (by simp [abc]; omega), abc_at m q h]
        generalize arN m = r at *
        have hb := bel1 V (.cells (ia m) 48)
        have HG5 := hide (HG.out.below hb)
        have HC5 := hide (HC.out.below hb)
        have HB5 := hide (bel HB.out hb)
        clear hb hOk
        go_wp2_with fail
        refine (HA.out _).mono ?_
        rintro e V6 ⟨ga, rfl, hga, hGa, hb⟩
        have HG6 := hide (HG5.out.below hb)
        have HC6 := hide (HC5.out.below hb)
        have HB6 := hide (bel HB5.out hb)
        have HR6 := hide hGa
        have hne : g ≠ ga := Nat.ne_of_lt (Nat.lt_of_lt_of_le HG5.out.lt hga)
        clear hb hGa hga HG5 HC5 HB5 HA e0 e1 e2 e3 e4 e5
        go_wp2_with fail
        go_loopw [29] (fun j wr => ∃ q : Nat, q ≤ r ∧ j = .int .i64 q ∧ Hid (HasC wr g 3 (zA (usF n (A ++ (agL m).take q)))) ∧ Hid (HasC wr ga 3 (zA (abc m))) ∧ Hid (HasC wr W.heap.size 26 (cd f d (some ⟨b, off, none⟩) n cap out)) ∧ Hid (Below W.heap.size W wr)) (fun j _ => r - (intOf j).toNat)
        case atStart => exact ⟨0, Nat.zero_le _, rfl, hide (by rw [List.take_zero, List.append_nil]; exact HG6.out), HR6, HC6, HB6⟩
        case round =>
          obtain ⟨q, hq, rfl, HG7, HR7, HC7, HB7⟩ := hrel
          rename World => V7
          by_cases hqr : q < r
          · have cp := HR7.out.cell q (HRg.out q (by omega))
            obtain ⟨p0, p1⟩ := HR.out q hqr
            have hs := HT.out q hqr
            have hU2 := usF_snoc n (A ++ (agL m).take q) (rgN m q)
            rw [List.append_assoc, ← hs] at hU2
            have HU2 := hide hU2
            obtain ⟨p, hp⟩ : ∃ p : Nat, rgN m q = (p : Int) := ⟨(rgN m q).toNat, by omega⟩
            rw [hp] at cp p1 HU2
            simp only [Int.toNat_natCast] at p1
            unfold bump at HU2
            simp only [Int.toNat_natCast] at HU2
            have hul := usF_len n (A ++ (agL m).take q)
            have d0 := HG7.out.cell p (zA_get _ p (by rw [hul]; omega))
            have y0 := HG7.out.frozen p
            have hv1 := usF_at n (r := p) (by omega) (A ++ (agL m).take q)
            have hv2 := ctR_le p (A ++ (agL m).take q)
            rw [← hv1, List.length_append] at hv2
            have hv3 := HQl.out q
            generalize usF n (A ++ (agL m).take q) = U at *
            obtain ⟨x, hx⟩ : ∃ x, U.getD p 0 = x := ⟨_, rfl⟩
            rw [hx] at d0 hv2 HU2
            have x0 : 0 ≤ x := hv2.1
            have x1 : x ≤ 1000 := by omega
            have HG8 := hide (set_z (k := p) HG7.out (x + 1))
            rw [← HU2.out] at HG8
            have HR8 := hide (HR7.out.other (p := ⟨g, p, none⟩) (by simp; omega) (.int .i64 (x + 1)))
            have hz := HC7.out.lt
            have HC8 := hide (HC7.out.other (p := ⟨g, p, none⟩) (by simp; omega) (.int .i64 (x + 1)))
            have HB8 := hide (HB7.out.setCell (p := ⟨g, p, none⟩) (by simp; omega) (.int .i64 (x + 1)))
            have s0 : (0 : Int) ≤ q := by omega
            have s1 : (q : Int) < r := by omega
            have s2 : (q : Int) < 3 := by omega
            have t0 : (0 : Int) ≤ p := by omega
            have t1 : (p : Int) < n := by omega
            clear p0 p1 hp hs hU2 HU2 hul hv1 hv2 hv3 hx
            go_wp2_with fail
            go_roundw
            case rel => exact ⟨q + 1, by omega, by go_num, HG8, HR8, HC8, HB8⟩
            case measure => simp [intOf]; omega
          · obtain rfl : q = r := by omega
            have HG8 := HG7.out
            rw [HFu.out, ← HS.out] at HG8
            have HG9 := hide HG8
            clear HG8
            go_wp2_with fail
            go_roundw
            case rel => exact ⟨k + 1, by omega, by go_num, HG9, HC7, HB7⟩
            case measure => simp [intOf]; omega
      · obtain rfl : k = n := by omega
        have HG1 := HG.out
        rw [List.take_of_length_le (by rw [HLn.out]; exact Nat.le_refl _)] at HG1
        obtain ⟨p, hp⟩ : ∃ p : Nat, out = (p : Int) := ⟨out.toNat, by omega⟩
        subst hp
        unfold bump at HU
        simp only [Int.toNat_natCast] at HU
        have hul := usF_len k (agA L)
        have d0 := HG1.cell p (zA_get _ p (by rw [hul]; omega))
        have y0 := HG1.frozen p
        have hv1 := usF_at k (r := p) (by omega) (agA L)
        have hv2 := ctR_le p (agA L)
        have hv3 := agA_len L
        rw [HLn.out] at hv3
        rw [← hv1] at hv2
        generalize usF k (agA L) = U at *
        obtain ⟨x, hx⟩ : ∃ x, U.getD p 0 = x := ⟨_, rfl⟩
        rw [hx] at d0 hv2 HU
        have x0 : 0 ≤ x := hv2.1
        have x1 : x ≤ 1000 := by omega
        have HG8 := hide (set_z (k := p) HG1 (x + 1))
        rw [HU.out] at HG8
        have HB8 := hide (HB.out.setCell (p := ⟨g, p, none⟩) (by simp; omega) (.int .i64 (x + 1)))
        obtain ⟨c0, c1, c2, c3⟩ := four_of HC.out
        have t0 : (0 : Int) ≤ p := by omega
        have t1 : (p : Int) < k := by omega
        clear HG1 HU hul hv1 hv2 hv3 hx o1 o2
        go_wp2_with fail
        exact bodyPost_ret (v := .tuple #[.slice (some ⟨g, 0, none⟩) k k, .int .i64 0]) (by simp [results, Try.results13, go_sem]) rfl (TwP.row HG8.out (by rw [usU_len, HLn.out]) (by omega) (by omega) HB8.out)
  · rw [h0] at HCk
    rw [show usZ f d L out = (15, []) by rw [usZ, if_neg hm]]
    clear hm h0
    go_enter Try.func13, Try.ntmps13
    go_wp2_with fail
    refine HCk.out.mono ?_
    rintro e V1 ⟨rfl, hb⟩
    have HB1 := hide (bel HB0.out hb)
    clear hb
    go_wp2_with fail
    exact bodyPost_ret (v := .tuple #[.slice none 0 0, .int .i64 15]) (by simp [results, Try.results13, go_sem]) rfl (TwP.no HB1.out)

end Go.Proofs.Cde

/-
  The document's Uses and Cost.
-/
import Derived.Test.YthkihmbgdfnofaaU0
import Derived.Test.YthkihmbgdfnofaaB6
import Derived.Test.YthkihmbgdfnofaaM1
import Derived.Test.YthkihmbgdfnofaaX1
namespace Go.Proofs.Ythkihmbgdfnofaa
open Go.RowKit Go.IntWalk Knd
set_option linter.unusedVariables false

set_option maxHeartbeats 1000000 in
theorem jcost_any (o : Int) (W : World) : Calls Try.prog 41 #[.int .i64 o] W fun e W' => e = .returned (.int .i64 (coZ o)) ∧ W' = W := by
  by_cases h1 : o = 4
  · subst h1
    go_enter Try.func41, Try.ntmps41
    go_wp2
    go_ret
    exact ⟨rfl, rfl⟩
  by_cases h2 : o = 11
  · subst h2
    go_enter Try.func41, Try.ntmps41
    go_wp2
    go_ret
    exact ⟨rfl, rfl⟩
  by_cases h3 : o = 12
  · subst h3
    go_enter Try.func41, Try.ntmps41
    go_wp2
    go_ret
    exact ⟨rfl, rfl⟩
  have e : coZ o = 1 := by unfold coZ; rw [if_neg h1, if_neg h2, if_neg h3]
  rw [e]
  have e1 : (o == 4) = false := by simpa using h1
  have e2 : (o == 11) = false := by simpa using h2
  have e3 : (o == 12) = false := by simpa using h3
  clear h1 h2 h3 e
  go_enter Try.func41, Try.ntmps41
  go_wp2
  go_ret
  exact ⟨rfl, rfl⟩

set_option maxRecDepth 100000 in
set_option maxHeartbeats 4000000 in
theorem xcost_any (f d out : Int) {a : Option Addr} {n cap : Nat} {L : List In} {W : World} (hL : Ins W a n cap L) (hn : n ≤ 1000000000000000) :
    Calls Try.prog 18 #[.agg (cd f d a n cap out)] W fun e W' => e = .returned (.int .i64 (coL L)) ∧ Below W.heap.size W W' := by
  have hb1 := bel1 W (.cells (cd f d a n cap out) 26)
  have HB0 := hide hb1
  have HC0 := hide (HasC.new W 26 (cd f d a n cap out))
  have HLI := hide (hL.later hb1)
  have HLn := hide hL.len
  clear hL hb1
  go_enter Try.func18, Try.ntmps18
  go_wp2_with fail
  obtain ⟨V, hV⟩ : ∃ V, W.alloc (.cells (cd f d a n cap out) 26) = V := ⟨_, rfl⟩
  rw [hV] at HB0 HC0 HLI ⊢
  clear hV
  go_loop [3, 4] (fun s i => ∃ (k : Nat) (c : Int), k ≤ n ∧ i = .int .i64 k ∧ s = .int .i64 c ∧ 0 ≤ c ∧ c ≤ 6 * k ∧ Hid (c = coL (L.take k))) (fun _ i => n - (intOf i).toNat)
  case atStart => exact ⟨0, 0, Nat.zero_le _, rfl, rfl, Int.le_refl _, Int.le_refl _, hide rfl⟩
  case round =>
    obtain ⟨k, c, hk, rfl, rfl, hc0, hc6, HC⟩ := hrel
    obtain ⟨c0, c1, c2, c3⟩ := four_of HC0.out
    by_cases hlt : k < n
    · obtain ⟨g, off, rfl, -, hat⟩ := HLI.out.at (by omega)
      obtain ⟨e0, -, -, -, -, -⟩ := hat k hlt
      clear hat
      have hi0 : (0 : Int) ≤ k := by omega
      have hi1 : (k : Int) < n := by omega
      have HC2 := hide (show c + coZ (L.getD k i0).op = coL (L.take (k + 1)) by rw [take_snoc i0 (by rw [HLn.out]; exact hlt), coL_snoc, HC.out])
      generalize L.getD k i0 = m at *
      have HCo := hide fun w => jcost_any m.op w
      obtain ⟨z0, z1⟩ := coZ_le m.op
      generalize coZ m.op = z at *
      go_wp2_with (go_at_call 41; refine (HCo.out _).mono ?_; rintro e w' ⟨rfl, rfl⟩)
      go_round
      case rel => exact ⟨k + 1, c + z, by omega, by go_num, rfl, by omega, by omega, HC2⟩
      case measure => simp [intOf]; omega
    · obtain rfl : k = n := by omega
      have hC := HC.out
      rw [List.take_of_length_le (by rw [HLn.out]; exact Nat.le_refl _)] at hC
      have HC2 := hide hC
      clear hC
      go_wp2_with fail
      go_ret
      exact ⟨ret_int HC2.out, HB0.out⟩

theorem ctR_step {k : Nat} {A : List Int} {x : Int} (h0 : 0 ≤ x) : ctR k (A ++ [x]) = ctR k A + if x = (k : Int) then 1 else 0 := by
  rw [ctR_snoc]
  by_cases h : x = (k : Int)
  · rw [if_pos (by omega), if_pos h]
  · rw [if_neg (by omega), if_neg h]

set_option maxRecDepth 100000 in
set_option maxHeartbeats 8000000 in
theorem xuses_any (f d out : Int) {a : Option Addr} {n cap : Nat} {L : List In} {W : World} (hL : Ins W a n cap L) :
    Calls Try.prog 15 #[.agg (cd f d a n cap out)] W (TwP W (usZ f d L out)) := by
  have hb1 := bel1 W (.cells (cd f d a n cap out) 26)
  have HC0 := hide (HasC.new W 26 (cd f d a n cap out))
  have HB0 := hide hb1
  have HCk := hide (xMay_any f d out (hL.later hb1))
  have HLI := hide hL
  have HLn := hide hL.len
  clear hb1 hL
  cases hm : mcB f d L out
  · rw [hm] at HCk
    rw [show usZ f d L out = (15, []) by rw [usZ, if_neg (by rw [hm]; decide)]]
    clear hm
    go_enter Try.func15, Try.ntmps15
    go_wp2_with fail
    refine HCk.out.mono ?_
    rintro e V1 ⟨rfl, hb⟩
    have HB1 := hide (bel HB0.out hb)
    clear hb
    go_wp2_with fail
    exact bodyPost_ret (v := .tuple #[.slice none 0 0, .int .i64 15]) (by simp [results, Try.results15, go_sem]) rfl (TwP.no HB1.out)
  rw [hm] at HCk
  obtain ⟨-, m1, m2, o1, o2, hok⟩ := mc_parts hm
  rw [HLn.out] at m1 m2 o2 hok
  rw [show usZ f d L out = (0, usU L out) by rw [usZ, if_pos hm]]
  have HOk := hide hok
  have HUa := hide fun (r : Nat) hr => usU_at L out (r := r) hr
  have HUl := hide (usU_len L out)
  rw [HLn.out] at HUa HUl
  clear hm hok
  generalize usU L out = U at *
  go_enter Try.func15, Try.ntmps15
  go_wp2_with fail
  refine HCk.out.mono ?_
  rintro e V1 ⟨rfl, hb⟩
  have HC1 := hide (HC0.out.below hb)
  have HB1 := hide (bel HB0.out hb)
  clear hb HC0 HB0 HCk
  go_wp2_with fail
  go_loopw [4, 5] (fun vv i wr => ∃ k : Nat, k ≤ n ∧ i = .int .i64 k ∧ Hid (Ls V1 wr vv (U.take k))) (fun _ i _ => n - (intOf i).toNat)
  case atStart => exact ⟨0, Nat.zero_le _, rfl, hide (Ls.start V1)⟩
  case round =>
    obtain ⟨k, hk, rfl, HE⟩ := hrel
    rename World => V
    have HC := hide (HC1.out.below HE.out.bel)
    have HB := hide (bel HB1.out HE.out.bel)
    obtain ⟨c0, c1, c2, c3⟩ := four_of HC.out
    by_cases hlt : k < n
    · have hT := take_snoc 0 (L := U) (k := k) (by rw [HUl.out]; exact hlt)
      rw [HUa.out k hlt] at hT
      have HT := hide hT
      have HJ : Hid ((U.take k).length = k) := hide (by rw [List.length_take, HUl.out]; omega)
      have hi0 : (0 : Int) ≤ k := by omega
      have hi1 : (k : Int) < n := by omega
      obtain ⟨o, ho⟩ : ∃ o : Int, (if out = (k : Int) then 1 else 0) = o := ⟨_, rfl⟩
      rw [ho] at HT
      have ho1 : 0 ≤ o ∧ o ≤ 1 := by rw [← ho]; split <;> omega
      obtain ⟨oa, ob⟩ := ho1
      clear hT
      have hq : ((out == (k : Int)) = true ∧ o = 1) ∨ ((out == (k : Int)) = false ∧ o = 0) := by
        by_cases h : out = (k : Int)
        · left; rw [if_pos h] at ho; exact ⟨by simpa using h, ho.symm⟩
        · right; rw [if_neg h] at ho; exact ⟨by simpa using h, ho.symm⟩
      clear ho
      rcases hq with ⟨q1, rfl⟩ | ⟨q1, rfl⟩
      · go_wp2_with fail
        go_loopw [6, 7] (fun nv i wr => ∃ (j : Nat) (x : Int), j ≤ n ∧ i = .int .i64 j ∧ nv = .int .i64 x ∧ 0 ≤ x ∧ x ≤ 1 + 3 * j ∧ Hid (x = 1 + ctR k (agA (L.take j))) ∧ Hid (Below V.heap.size V wr)) (fun _ i _ => n - (intOf i).toNat)
        case atStart => exact ⟨0, 1, Nat.zero_le _, rfl, rfl, by omega, by omega, hide (by simp [agA, ctR]), hide (Below.refl _ _)⟩
        case round =>
          obtain ⟨j, x, hj, rfl, rfl, x0, x1, HX, HB5⟩ := hrel
          rename World => V5
          clear c0 c1 c2 c3
          obtain ⟨c0, c1, c2, c3⟩ := four_of (HC.out.below HB5.out)
          by_cases hjn : j < n
          · obtain ⟨b, off, rfl, -, hat⟩ := (HLI.out.later (bel HB.out HB5.out)).at (by omega)
            obtain ⟨e0, e1, e2, e3, e4, e5⟩ := hat j hjn
            clear hat
            have hj0 : (0 : Int) ≤ j := by omega
            have hj1 : (j : Int) < n := by omega
            have hOk := okT_at HOk.out hjn
            have HS := hide (agA_snoc (L.take j) (L.getD j i0))
            rw [← take_snoc i0 (by rw [HLn.out]; exact hjn)] at HS
            generalize L.getD j i0 = m at *
            generalize agA (L.take j) = A at *
            have HR := hide fun q hq => ok_reg hOk (j := q) hq
            have hr3 := arN_le m
            have HA := hide fun w => xargs_any m w
            have HT2 := hide fun q (h : q < arN m) => agL_succ m h
            have HFu := hide (agL_full m)
            have HRg : Hid (∀ q, q < 3 → (zA (abc m))[q]? = some (.int .i64 (rgN m q))) := hide fun q h => by rw [zA_get _ q (by simp [abc]; omega), abc_at m q h]
            generalize arN m = r at *
            clear hOk
            go_wp2_with fail
            refine (HA.out _).mono ?_
            rintro e V6 ⟨ga, rfl, hga, hGa, hb⟩
            have HR6 := hide hGa
            have HB6 := hide (bel HB5.out hb)
            clear hb hGa hga HB5 HA e0 e1 e2 e3 e4 e5 c0 c1 c2 c3
            go_wp2_with fail
            go_loop [6, 9] (fun nv i => ∃ (q : Nat) (y : Int), q ≤ r ∧ i = .int .i64 q ∧ nv = .int .i64 y ∧ 0 ≤ y ∧ y ≤ 1 + 3 * j + q ∧ Hid (y = 1 + ctR k (A ++ (agL m).take q))) (fun _ i => r - (intOf i).toNat)
            case atStart => exact ⟨0, x, Nat.zero_le _, rfl, rfl, x0, by omega, hide (by rw [List.take_zero, List.append_nil]; exact HX.out)⟩
            case round =>
              obtain ⟨q, y, hq, rfl, rfl, y0, y1, HY⟩ := hrel
              by_cases hqr : q < r
              · have cp := HR6.out.cell q (HRg.out q (by omega))
                obtain ⟨p0, p1⟩ := HR.out q hqr
                have hs := ctR_step (k := k) (A := A ++ (agL m).take q) p0
                rw [List.append_assoc, ← HT2.out q hqr] at hs
                have hY := HY.out
                generalize rgN m q = t at *
                have s0 : (0 : Int) ≤ q := by omega
                have s1 : (q : Int) < r := by omega
                have s2 : (q : Int) < 3 := by omega
                by_cases ht : t = (k : Int)
                · rw [if_pos ht] at hs
                  have ht2 : (t == (k : Int)) = true := by simpa using ht
                  have HY2 := hide (show y + 1 = 1 + ctR k (A ++ (agL m).take (q + 1)) by omega)
                  clear hs hY ht p0 p1
                  go_wp2_with fail
                  go_round
                  case rel => exact ⟨q + 1, y + 1, by omega, by go_num, rfl, by omega, by omega, HY2⟩
                  case measure => simp [intOf]; omega
                · rw [if_neg ht] at hs
                  have ht2 : (t == (k : Int)) = false := by simpa using ht
                  have HY2 := hide (show y = 1 + ctR k (A ++ (agL m).take (q + 1)) by omega)
                  clear hs hY ht p0 p1
                  go_wp2_with fail
                  go_round
                  case rel => exact ⟨q + 1, y, by omega, by go_num, rfl, by omega, by omega, HY2⟩
                  case measure => simp [intOf]; omega
              · obtain rfl : q = r := by omega
                have hY := HY.out
                rw [HFu.out, ← HS.out] at hY
                have HY2 := hide hY
                clear hY
                go_wp2_with fail
                go_roundw
                case rel => exact ⟨j + 1, y, by omega, by go_num, rfl, y0, by omega, HY2, HB6⟩
                case measure => simp [intOf]; omega
          · obtain rfl : j = n := by omega
            have hX := HX.out
            rw [List.take_of_length_le (by rw [HLn.out]; exact Nat.le_refl _)] at hX
            rw [← hX] at HT
            have HE5 := hide (HE.out.later HB5.out)
            clear hX
            go_wp2_with (at_builtin; refine list_ls (w := V1) (L := U.take k) rfl _ _ rfl rfl (HE5.out.alloc _) _ x rfl (HasC.new _ _ _) (by rw [HJ.out]; omega) ?_; intro g2 cap2 w2 HE2; rw [HJ.out] at HE2 ⊢)
            go_roundw
            case rel => exact ⟨k + 1, by omega, by go_num, hide (by rw [HT.out]; exact HE2)⟩
            case measure => simp [intOf]; omega
      · go_wp2_with fail
        go_loopw [6, 7] (fun nv i wr => ∃ (j : Nat) (x : Int), j ≤ n ∧ i = .int .i64 j ∧ nv = .int .i64 x ∧ 0 ≤ x ∧ x ≤ 1 + 3 * j ∧ Hid (x = 0 + ctR k (agA (L.take j))) ∧ Hid (Below V.heap.size V wr)) (fun _ i _ => n - (intOf i).toNat)
        case atStart => exact ⟨0, 0, Nat.zero_le _, rfl, rfl, by omega, by omega, hide (by simp [agA, ctR]), hide (Below.refl _ _)⟩
        case round =>
          obtain ⟨j, x, hj, rfl, rfl, x0, x1, HX, HB5⟩ := hrel
          rename World => V5
          clear c0 c1 c2 c3
          obtain ⟨c0, c1, c2, c3⟩ := four_of (HC.out.below HB5.out)
          by_cases hjn : j < n
          · obtain ⟨b, off, rfl, -, hat⟩ := (HLI.out.later (bel HB.out HB5.out)).at (by omega)
            obtain ⟨e0, e1, e2, e3, e4, e5⟩ := hat j hjn
            clear hat
            have hj0 : (0 : Int) ≤ j := by omega
            have hj1 : (j : Int) < n := by omega
            have hOk := okT_at HOk.out hjn
            have HS := hide (agA_snoc (L.take j) (L.getD j i0))
            rw [← take_snoc i0 (by rw [HLn.out]; exact hjn)] at HS
            generalize L.getD j i0 = m at *
            generalize agA (L.take j) = A at *
            have HR := hide fun q hq => ok_reg hOk (j := q) hq
            have hr3 := arN_le m
            have HA := hide fun w => xargs_any m w
            have HT2 := hide fun q (h : q < arN m) => agL_succ m h
            have HFu := hide (agL_full m)
            have HRg : Hid (∀ q, q < 3 → (zA (abc m))[q]? = some (.int .i64 (rgN m q))) := hide fun q h => by rw [zA_get _ q (by simp [abc]; omega), abc_at m q h]
            generalize arN m = r at *
            clear hOk
            go_wp2_with fail
            refine (HA.out _).mono ?_
            rintro e V6 ⟨ga, rfl, hga, hGa, hb⟩
            have HR6 := hide hGa
            have HB6 := hide (bel HB5.out hb)
            clear hb hGa hga HB5 HA e0 e1 e2 e3 e4 e5 c0 c1 c2 c3
            go_wp2_with fail
            go_loop [6, 9] (fun nv i => ∃ (q : Nat) (y : Int), q ≤ r ∧ i = .int .i64 q ∧ nv = .int .i64 y ∧ 0 ≤ y ∧ y ≤ 1 + 3 * j + q ∧ Hid (y = 0 + ctR k (A ++ (agL m).take q))) (fun _ i => r - (intOf i).toNat)
            case atStart => exact ⟨0, x, Nat.zero_le _, rfl, rfl, x0, by omega, hide (by rw [List.take_zero, List.append_nil]; exact HX.out)⟩
            case round =>
              obtain ⟨q, y, hq, rfl, rfl, y0, y1, HY⟩ := hrel
              by_cases hqr : q < r
              · have cp := HR6.out.cell q (HRg.out q (by omega))
                obtain ⟨p0, p1⟩ := HR.out q hqr
                have hs := ctR_step (k := k) (A := A ++ (agL m).take q) p0
                rw [List.append_assoc, ← HT2.out q hqr] at hs
                have hY := HY.out
                generalize rgN m q = t at *
                have s0 : (0 : Int) ≤ q := by omega
                have s1 : (q : Int) < r := by omega
                have s2 : (q : Int) < 3 := by omega
                by_cases ht : t = (k : Int)
                · rw [if_pos ht] at hs
                  have ht2 : (t == (k : Int)) = true := by simpa using ht
                  have HY2 := hide (show y + 1 = 0 + ctR k (A ++ (agL m).take (q + 1)) by omega)
                  clear hs hY ht p0 p1
                  go_wp2_with fail
                  go_round
                  case rel => exact ⟨q + 1, y + 1, by omega, by go_num, rfl, by omega, by omega, HY2⟩
                  case measure => simp [intOf]; omega
                · rw [if_neg ht] at hs
                  have ht2 : (t == (k : Int)) = false := by simpa using ht
                  have HY2 := hide (show y = 0 + ctR k (A ++ (agL m).take (q + 1)) by omega)
                  clear hs hY ht p0 p1
                  go_wp2_with fail
                  go_round
                  case rel => exact ⟨q + 1, y, by omega, by go_num, rfl, by omega, by omega, HY2⟩
                  case measure => simp [intOf]; omega
              · obtain rfl : q = r := by omega
                have hY := HY.out
                rw [HFu.out, ← HS.out] at hY
                have HY2 := hide hY
                clear hY
                go_wp2_with fail
                go_roundw
                case rel => exact ⟨j + 1, y, by omega, by go_num, rfl, y0, by omega, HY2, HB6⟩
                case measure => simp [intOf]; omega
          · obtain rfl : j = n := by omega
            have hX := HX.out
            rw [List.take_of_length_le (by rw [HLn.out]; exact Nat.le_refl _)] at hX
            rw [← hX] at HT
            have HE5 := hide (HE.out.later HB5.out)
            clear hX
            go_wp2_with (at_builtin; refine list_ls (w := V1) (L := U.take k) rfl _ _ rfl rfl (HE5.out.alloc _) _ x rfl (HasC.new _ _ _) (by rw [HJ.out]; omega) ?_; intro g2 cap2 w2 HE2; rw [HJ.out] at HE2 ⊢)
            go_roundw
            case rel => exact ⟨k + 1, by omega, by go_num, hide (by rw [HT.out]; exact HE2)⟩
            case measure => simp [intOf]; omega
    · obtain rfl : k = n := by omega
      have hE := HE.out
      rw [List.take_of_length_le (by rw [HUl.out]; exact Nat.le_refl _)] at hE
      have HE2 := hide hE
      obtain ⟨va, vc, rfl, -, -⟩ := Ints.of_owns hE.a
      clear hE
      go_wp2_with fail
      exact bodyPost_ret (v := .tuple #[.slice va U.length vc, .int .i64 0]) (by simp [results, Try.results15, go_sem]) rfl ⟨va, vc, rfl, own_mono HE2.out.a HB1.out.size, HB.out⟩

end Go.Proofs.Ythkihmbgdfnofaa

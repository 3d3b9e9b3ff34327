/-
  code.input and code.value: what an instruction comes to.
-/
import Derived.Test.YtijbmdmeiancgaaGreatMCdB3
import Derived.Test.YtijbmdmeiancgaaGreatMVa
import Derived.Deep.RegionWith
namespace Go.Proofs.Cde
open Go.RowKit Go.IntWalk YtijbmdmeiancgaaGreat.Knd
set_option linter.unusedVariables false

open YtijbmdmeiancgaaGreat (Wd wdA Fits inpV fitE_cases)
set_option maxRecDepth 100000 in
set_option maxHeartbeats 4000000 in
theorem cinput_any (f d k : Int) (v : Wd) (a : Option Addr) (n cap : Nat) (W : World) :
    Calls Tryz.prog 69 #[.agg (kd f d), .int .i64 k, .agg (wdA v a n cap)] W fun e W' => e = .returned (.int .i64 (inpV f d v k)) ∧ Below W.heap.size W W' := by
  have HL := hide fun W => YtijbmdmeiancgaaGreat.Knd.low_any f d W
  have HH := hide fun W => YtijbmdmeiancgaaGreat.Knd.high_any f d W
  have HO := hide fun W => YtijbmdmeiancgaaGreat.Knd.border_any f d W
  have HB := hide (bel (bel1 W (.cells (kd f d) 23)) (bel1 (W.alloc (.cells (kd f d) 23)) (.cells (wdA v a n cap) 44)))
  unfold inpV
  by_cases h0 : k = 0
  · subst h0
    rw [if_pos rfl]
    go_enter Tryz.func69, Tryz.ntmps69
    go_wp2_with fail
    go_ret
    exact ⟨rfl, HB.out⟩
  rw [if_neg h0]
  by_cases h1 : k = 1
  · subst h1
    rw [if_pos rfl]
    go_enter Tryz.func69, Tryz.ntmps69
    go_wp2_with fail
    go_ret
    exact ⟨rfl, HB.out⟩
  rw [if_neg h1]
  by_cases h2 : k = 2
  · subst h2
    rw [if_pos rfl]
    go_enter Tryz.func69, Tryz.ntmps69
    go_wp2_with fail
    go_ret
    exact ⟨rfl, HB.out⟩
  rw [if_neg h2]
  by_cases h3 : k = 3
  · subst h3
    rw [if_pos rfl]
    go_enter Tryz.func69, Tryz.ntmps69
    go_wp2_with fail
    refine (HL.out _).mono ?_
    rintro e V1 ⟨rfl, hb⟩
    go_wp2_with fail
    go_ret
    exact ⟨rfl, bel HB.out hb⟩
  rw [if_neg h3]
  by_cases h4 : k = 4
  · subst h4
    rw [if_pos rfl]
    go_enter Tryz.func69, Tryz.ntmps69
    go_wp2_with fail
    refine (HH.out _).mono ?_
    rintro e V1 ⟨rfl, hb⟩
    go_wp2_with fail
    go_ret
    exact ⟨rfl, bel HB.out hb⟩
  rw [if_neg h4]
  have q0 : (k == 0) = false := by simpa using h0
  have q1 : (k == 1) = false := by simpa using h1
  have q2 : (k == 2) = false := by simpa using h2
  have q3 : (k == 3) = false := by simpa using h3
  have q4 : (k == 4) = false := by simpa using h4
  clear h0 h1 h2 h3 h4
  go_enter Tryz.func69, Tryz.ntmps69
  go_wp2_with fail
  refine (HO.out _).mono ?_
  rintro e V1 ⟨rfl, hb⟩
  go_wp2_with fail
  go_ret
  exact ⟨rfl, bel HB.out hb⟩

/-- What an instruction comes to, by the registers ahead of it; the error beside it. -/
def arV (V : List Int) (n : In) : List Int := (agL n).map fun r => V.getD r.toNat 0
def vlI (f d : Int) (v : Wd) (V : List Int) (n : In) : Int × Int :=
  if n.op = 1 then (n.k, 0) else if n.op = 2 then (inpV f d v n.k, 0) else if n.op = 3 then (if countZ f d ≤ n.k then (0, 11) else (v.ps.getD n.k.toNat 0, 0)) else YtijbmdmeiancgaaGreat.Spn.valZ n.op n.k n.s (arV V n)
theorem arV_len (V : List Int) (n : In) : (arV V n).length = arN n := by rw [arV, List.length_map, agL_len]
theorem agL_at (n : In) (k : Nat) (h : k < arN n) : (agL n).getD k 0 = rgN n k := by
  rw [agL, List.getD_eq_getElem?_getD, List.getElem?_take_of_lt h]
  rfl
theorem arV_at (V : List Int) (n : In) (k : Nat) (h : k < arN n) : (arV V n).getD k 0 = V.getD (rgN n k).toNat 0 := by
  rw [← agL_at n k h, arV]
  simp [List.getD_eq_getElem?_getD, List.getElem?_map, List.getElem?_eq_getElem (show k < (agL n).length by rw [agL_len]; exact h)]
/-- What stands in the list of arguments behind k rounds. -/
def arM (V : List Int) (n : In) (k : Nat) : List Int := (arV V n).take k ++ (abc n).drop k
theorem arM_len (V : List Int) (n : In) {k : Nat} (h : k ≤ arN n) : (arM V n k).length = 3 := by
  have := arN_le n
  simp [arM, arV_len, abc]
  omega
theorem arM_split (V : List Int) (n : In) {k : Nat} (h : k < arN n) : arM V n k = (arV V n).take k ++ rgN n k :: (abc n).drop (k + 1) := by
  have := arN_le n
  rw [arM, List.drop_eq_getElem_cons (show k < (abc n).length by simp [abc]; omega)]
  congr 2
  rw [← abc_at n k (by omega), List.getD_eq_getElem?_getD, List.getElem?_eq_getElem (by simp [abc]; omega)]
  rfl
theorem arM_succ (V : List Int) (n : In) {k : Nat} (h : k < arN n) : (arV V n).take k ++ V.getD (rgN n k).toNat 0 :: (abc n).drop (k + 1) = arM V n (k + 1) := by
  rw [arM, take_snoc 0 (by rw [arV_len]; exact h), arV_at V n k h]
  simp
theorem arM_get (V : List Int) (n : In) {k : Nat} (h : k < arN n) : (arM V n k).getD k 0 = rgN n k := by
  rw [arM_split V n h, List.getD_eq_getElem?_getD, List.getElem?_append_right (by rw [List.length_take]; omega)]
  have e : k - ((arV V n).take k).length = 0 := by rw [List.length_take, arV_len]; omega
  rw [e]
  rfl
theorem arM_done (V : List Int) (n : In) : arM V n (arN n) = arV V n ++ (abc n).drop (arN n) := by
  rw [arM, List.take_of_length_le (by rw [arV_len]; exact Nat.le_refl _)]
theorem z_pre {W : World} {g : Nat} {L M : List Int} (h : HasC W g 3 (zA (L ++ M))) (hl : (L ++ M).length = 3) : Ints W (some ⟨g, 0, none⟩) L.length 3 L := by
  have h2 : L.length ≤ 3 := by rw [← hl]; simp
  refine ⟨rfl, h2, by decide, (fun h => by cases h), .inr ⟨g, 0, rfl, fun i hi => ?_⟩⟩
  rw [Nat.zero_add, h.cell i (zA_get _ i (by simp; omega)), getD_pre hi]
theorem fit_len {f d : Int} {v : Wd} (h : Fits f d v) : (v.ps.length : Int) = countZ f d := h.2.1

theorem ok_reg {n : In} {i : Nat} (h : okI n i = true) {j : Nat} (hj : j < arN n) : 0 ≤ rgN n j ∧ (rgN n j).toNat < i := by
  simp only [okI, Bool.and_eq_true] at h
  have h3 := arN_le n
  have hr := h.1.2
  rw [← rgT_three] at hr
  simp only [rgT, List.all_eq_true, List.mem_range] at hr
  have := hr j (by omega)
  rw [rgB, if_pos (by simp [arN] at *; omega), YtijbmdmeiancgaaGreat.Spn.inB_iff] at this
  omega
theorem ok_con {n : In} {i : Nat} (h : okI n i = true) : csB n = true := by
  simp only [okI, Bool.and_eq_true] at h
  exact h.2
theorem ok_ar {n : In} {i : Nat} (h : okI n i = true) : 0 ≤ YtijbmdmeiancgaaGreat.Spn.ar n.op := by
  simp only [okI, Bool.and_eq_true, decide_eq_true_eq] at h
  exact h.1.1
theorem cargs_ex (n : In) (W : World) :
    Calls Tryz.prog 70 #[.agg (ia n)] W fun e W' => ∃ g, e = .returned (.slice (some ⟨g, 0, none⟩) (arN n) 3) ∧ W.heap.size ≤ g ∧ HasC W' g 3 (zA (abc n)) ∧ Below W.heap.size W W' :=
  (cargs_any n W).mono fun e W' ⟨h1, h2, h3⟩ => ⟨_, h1, by omega, h2, h3⟩

set_option maxRecDepth 100000 in
set_option maxHeartbeats 4000000 in
theorem cvalue_any (f d : Int) (n : In) (v : Wd) {pa va : Option Addr} {pl pc vl vc i : Nat} {V : List Int} {W : World} (hP : Ints W pa pl pc v.ps) (hV : Ints W va vl vc V) (hF : Fits f d v) (ho : okI n i = true) (hi : i ≤ vl) :
    Calls Tryz.prog 35 #[.agg (kd f d), .agg (ia n), .agg (wdA v pa pl pc), .slice va vl vc] W fun e W' => e = .returned (.tuple #[.int .i64 (vlI f d v V n).1, .int .i64 (vlI f d v V n).2]) ∧ Below W.heap.size W W' := by
  have hb1 := bel1 W (.cells (kd f d) 23)
  have hb2 := bel hb1 (bel1 (W.alloc (.cells (kd f d) 23)) (.cells (ia n) 57))
  have hb3 := bel hb2 (bel1 ((W.alloc (.cells (kd f d) 23)).alloc (.cells (ia n) 57)) (.cells (wdA v pa pl pc) 44))
  have HK0 := hide (((HasC.new W 23 (kd f d)).alloc (.cells (ia n) 57)).alloc (.cells (wdA v pa pl pc) 44))
  have HN0 := hide ((has_new1 W (.cells (kd f d) 23) 57 (ia n)).alloc (.cells (wdA v pa pl pc) 44))
  have HW0 := hide (has_new1 (W.alloc (.cells (kd f d) 23)) (.cells (ia n) 57) 44 (wdA v pa pl pc))
  rw [World.size_alloc] at HW0
  have HB0 := hide hb3
  have HP0 := hide (hP.later hb3)
  have HVW := hide hV
  have hlp := hP.len
  have hfl := fit_len hF
  rw [hlp] at hfl
  clear hb1 hb2 hb3 hP hV hF hlp
  by_cases h1 : n.op = 1
  · rw [show vlI f d v V n = (n.k, 0) by simp [vlI, h1]]
    have q1 : (n.op == 1) = true := by simpa using h1
    clear h1 ho
    go_enter Tryz.func35, Tryz.ntmps35
    go_wp2_with fail
    go_ret2
    exact ⟨rfl, HB0.out⟩
  have q1 : (n.op == 1) = false := by simpa using h1
  by_cases h2 : n.op = 2
  · rw [show vlI f d v V n = (inpV f d v n.k, 0) by simp [vlI, h2]]
    have q2 : (n.op == 2) = true := by simpa using h2
    have HI := hide fun w => cinput_any f d n.k v pa pl pc w
    generalize inpV f d v n.k = z at *
    clear h1 h2 ho
    go_enter Tryz.func35, Tryz.ntmps35
    go_wp2_with fail
    refine (HI.out _).mono ?_
    rintro e V1 ⟨rfl, hb⟩
    have HB1 := hide (bel HB0.out hb)
    clear hb
    go_wp2_with fail
    go_ret2
    exact ⟨rfl, HB1.out⟩
  have q2 : (n.op == 2) = false := by simpa using h2
  by_cases h3 : n.op = 3
  · have q3 : (n.op == 3) = true := by simpa using h3
    have hc := ok_con ho
    rw [csB, if_neg h1, if_neg h2, if_pos h3, Bool.and_eq_true, YtijbmdmeiancgaaGreat.Spn.inB_iff] at hc
    obtain ⟨q, hq⟩ : ∃ q : Nat, n.k = (q : Int) := ⟨n.k.toNat, by omega⟩
    have hE : vlI f d v V n = if countZ f d ≤ n.k then (0, 11) else (v.ps.getD n.k.toNat 0, 0) := by rw [vlI, if_neg h1, if_neg h2, if_pos h3]
    rw [hE]
    clear hE hc ho h1 h2 h3
    have HC := hide fun w => YtijbmdmeiancgaaGreat.Knd.count_any f d w
    by_cases hk : countZ f d ≤ n.k
    · rw [if_pos hk]
      generalize countZ f d = cz at *
      go_enter Tryz.func35, Tryz.ntmps35
      go_wp2_with fail
      obtain ⟨V1, hV1⟩ : ∃ V1, ((W.alloc (.cells (kd f d) 23)).alloc (.cells (ia n) 57)).alloc (.cells (wdA v pa pl pc) 44) = V1 := ⟨_, rfl⟩
      rw [hV1] at HB0 HK0 HN0 HW0 HP0 ⊢
      clear hV1
      obtain ⟨x0, x1⟩ := two_of HK0.out
      obtain ⟨-, -, -, -, e4, -⟩ := six_of HN0.out
      have k0 := cell_regrown x0
      have k1 := cell_regrown x1
      have k2 := cell_regrown e4
      refine wp_region_quiet_below mixed0 (by kernel_rfl) ?_
      repeat (first | go_big_quiet_step (first
        | (go_at_call 37; exact Calls.regrown_of (HC.out _))))
      refine wpQuiet_nil ?_
      intro V2 hw'
      obtain ⟨⟨dq, osq⟩, hw''⟩ := hw'
      have hb := below_regrown V1 dq osq
      simp only at hw''
      rw [← hw''] at hb
      clear hw'' k0 k1 k2
      have HB2 := hide (bel HB0.out hb)
      clear hb
      go_wp2_with fail
      go_ret2
      exact ⟨rfl, HB2.out⟩
    · rw [if_neg hk]
      have hk2 : decide (countZ f d ≤ n.k) = false := by simpa using hk
      rw [hq] at hk2
      rw [hq, Int.toNat_natCast]
      obtain ⟨z, hz⟩ : ∃ z, v.ps.getD q 0 = z := ⟨_, rfl⟩
      rw [hz]
      have hql : q < pl := by omega
      generalize countZ f d = cz at *
      go_enter Tryz.func35, Tryz.ntmps35
      go_wp2_with fail
      obtain ⟨V1, hV1⟩ : ∃ V1, ((W.alloc (.cells (kd f d) 23)).alloc (.cells (ia n) 57)).alloc (.cells (wdA v pa pl pc) 44) = V1 := ⟨_, rfl⟩
      rw [hV1] at HB0 HK0 HN0 HW0 HP0 ⊢
      clear hV1
      obtain ⟨x0, x1⟩ := two_of HK0.out
      obtain ⟨-, -, -, -, e4, -⟩ := six_of HN0.out
      have k0 := cell_regrown x0
      have k1 := cell_regrown x1
      have k2 := cell_regrown e4
      refine wp_region_quiet_below mixed0 (by kernel_rfl) ?_
      repeat (first | go_big_quiet_step (first
        | (go_at_call 37; exact Calls.regrown_of (HC.out _))))
      refine wpQuiet_nil ?_
      intro V2 hw'
      obtain ⟨⟨dq, osq⟩, hw''⟩ := hw'
      have hb := below_regrown V1 dq osq
      simp only at hw''
      rw [← hw''] at hb
      clear hw'' k0 k1 k2 x0 x1 e4
      have HB2 := hide (bel HB0.out hb)
      obtain ⟨-, -, -, -, e4, -⟩ := six_of (HN0.out.below hb)
      obtain ⟨-, -, -, y3⟩ := four_of (HW0.out.below hb)
      obtain ⟨b, off, rfl, -, hat⟩ := (HP0.out.later hb).at (by omega)
      have c0 := hat q hql
      rw [hz] at c0
      clear hb hat hz hk hfl
      rw [hq] at e4
      have i0 : (0 : Int) ≤ q := by omega
      have i1 : (q : Int) < pl := by omega
      go_wp2_with fail
      go_ret2
      exact ⟨rfl, HB2.out⟩
  have q3 : (n.op == 3) = false := by simpa using h3
  rw [show vlI f d v V n = YtijbmdmeiancgaaGreat.Spn.valZ n.op n.k n.s (arV V n) by rw [vlI, if_neg h1, if_neg h2, if_neg h3]]
  have HA := hide fun w => cargs_ex n w
  have HR := hide fun j hj => ok_reg ho (j := j) hj
  have HS := hide fun k (h : k < arN n) => arM_split V n h
  have HU := hide fun k (h : k < arN n) => arM_succ V n h
  have HG0 := hide fun k (h : k < arN n) => arM_get V n h
  have HLn := hide fun k (h : k ≤ arN n) => arM_len V n h
  have HD := hide (arM_done V n)
  have HAl := hide (arV_len V n)
  have H00 : Hid (arM V n 0 = abc n) := hide rfl
  have h3' := arN_le n
  generalize arM V n = M at *
  generalize arN n = m at *
  clear h1 h2 h3 ho hfl
  go_enter Tryz.func35, Tryz.ntmps35
  go_wp2_with fail
  refine (HA.out _).mono ?_
  rintro e V1 ⟨g, rfl, hg, hG, hb⟩
  have HN1 := hide (HN0.out.below hb)
  have HB1 := hide (bel HB0.out hb)
  have HG1 := hide hG
  have hg2 : W.heap.size + 1 + 1 + 1 ≤ g := by simpa using hg
  clear hG hb HK0 HN0 HW0 HB0 HP0 HA hg
  go_wp2_with fail
  go_loopw [43] (fun j wr => ∃ k : Nat, k ≤ m ∧ j = .int .i64 k ∧ Hid (HasC wr g 3 (zA (M k))) ∧ Hid (HasC wr (W.heap.size + 1) 57 (ia n)) ∧ Hid (Below W.heap.size W wr)) (fun j _ => m - (intOf j).toNat)
  case atStart => exact ⟨0, Nat.zero_le _, rfl, hide (by rw [H00.out]; exact HG1.out), HN1, HB1⟩
  case round =>
    obtain ⟨k, hk, rfl, HG, HN, HB⟩ := hrel
    rename World => V2
    clear HG1 HN1 HB1
    by_cases hlt : k < m
    · obtain ⟨p0, p1⟩ := HR.out k hlt
      have hl3 := HLn.out k hk
      have c0 := HG.out.cell k (zA_get _ k (by rw [hl3]; omega))
      rw [HG0.out k hlt] at c0
      have HX := HG.out
      rw [HS.out k hlt] at HX
      have HX2 := hide fun x => put_z (k := k) HX (by rw [List.length_take, HAl.out]; omega) x
      have HU2 := hide (HU.out k hlt)
      have y0 := HG.out.frozen k
      obtain ⟨q, hq⟩ : ∃ q : Nat, rgN n k = (q : Int) := ⟨(rgN n k).toNat, by omega⟩
      rw [hq] at c0 p1 HU2
      simp only [Int.toNat_natCast] at p1 HU2
      obtain ⟨b, off, rfl, -, hat⟩ := (HVW.out.later HB.out).at (by omega)
      have c1 := hat q (by omega)
      generalize V.getD q 0 = z at *
      have HX3 := hide (HX2.out z)
      rw [HU2.out] at HX3
      have HN3 := hide (HN.out.other (p := ⟨g, k, none⟩) (by simp; omega) (.int .i64 z))
      have HB4 := hide (HB.out.setCell (p := ⟨g, k, none⟩) (by simp; omega) (.int .i64 z))
      have i0 : (0 : Int) ≤ q := by omega
      have i1 : (q : Int) < vl := by omega
      have j0 : (0 : Int) ≤ k := by omega
      have j1 : (k : Int) < m := by omega
      clear HX HX2 HU2 hat hq p0 p1 hl3
      go_wp2_with fail
      go_roundw
      case rel => exact ⟨k + 1, by omega, by go_num, HX3, HN3, HB4⟩
      case measure => simp [intOf]; omega
    · obtain rfl : k = m := by omega
      have hI := HG.out
      rw [HD.out] at hI
      have hI2 := z_pre hI (by rw [← HD.out]; exact HLn.out k (Nat.le_refl _))
      rw [HAl.out] at hI2
      have HVa := hide (YtijbmdmeiancgaaGreat.Spn.value_any n.op n.k n.s _ _ _ _ _ (spn hI2))
      obtain ⟨e0, -, -, -, e4, e5⟩ := six_of HN.out
      clear hI hI2
      go_wp2_with fail
      refine HVa.out.mono ?_
      rintro e V3 ⟨rfl, hb⟩
      have HB3 := hide (bel HB.out hb)
      clear hb
      go_wp2_with fail
      go_ret2
      exact ⟨rfl, HB3.out⟩

end Go.Proofs.Cde

/-
  code.Values: what every register comes to.
-/
namespace Go.Proofs.Cde
open YtijbmdmeiancgaaGreat (Wd wdA Fits inpV fitE_cases)
open Go.RowKit Go.IntWalk YtijbmdmeiancgaaGreat.Knd
set_option linter.unusedVariables false

/-- One step, and all of them: the error, and what came out ahead of it. -/
def vlS (f d : Int) (v : Wd) (s : Int × List Int) (n : In) : Int × List Int :=
  if s.1 = 0 then (if (vlI f d v s.2 n).2 = 0 then (0, s.2 ++ [(vlI f d v s.2 n).1]) else ((vlI f d v s.2 n).2, [])) else s
def vlF (f d : Int) (v : Wd) (L : List In) : Int × List Int := L.foldl (vlS f d v) (0, [])
theorem vlF_snoc (f d : Int) (v : Wd) (L : List In) (n : In) : vlF f d v (L ++ [n]) = vlS f d v (vlF f d v L) n := by simp [vlF]
theorem vlF_stuck (f d : Int) (v : Wd) : ∀ (L : List In) (s : Int × List Int), s.1 ≠ 0 → L.foldl (vlS f d v) s = s
  | [], s, h => rfl
  | n :: L, s, h => by
    rw [List.foldl_cons, show vlS f d v s n = s by rw [vlS, if_neg h]]
    exact vlF_stuck f d v L s h
theorem vlF_bad {f d : Int} {v : Wd} {L : List In} {k : Nat} {e : Int × List Int} (h : vlF f d v (L.take k) = e) (he : e.1 ≠ 0) : vlF f d v L = e := by
  have : vlF f d v L = (L.drop k).foldl (vlS f d v) (vlF f d v (L.take k)) := by
    rw [vlF, vlF, ← List.foldl_append, List.take_append_drop]
  rw [this, h, vlF_stuck f d v _ _ he]
theorem vlF_len (f d : Int) (v : Wd) (L : List In) : ∀ k, k ≤ L.length → (vlF f d v (L.take k)).1 = 0 → (vlF f d v (L.take k)).2.length = k
  | 0, _, _ => by simp [vlF]
  | k + 1, h, he => by
    have ih := vlF_len f d v L k (by omega)
    rw [take_snoc i0 (by omega), vlF_snoc] at he ⊢
    unfold vlS at he ⊢
    split at he
    · rename_i h0
      rw [if_pos h0]
      split at he
      · rename_i h1
        rw [if_pos h1]
        simp [ih h0]
      · rename_i h1
        exact absurd he h1
    · rename_i h0
      exact absurd he h0
open Classical in
/-- What Values answers: the error, and the registers. -/
noncomputable def vaZ (f d : Int) (v : Wd) (L : List In) (out : Int) : Int × List Int := if mcB f d L out = true then (if Fits f d v then vlF f d v L else (1, [])) else (15, [])
/-- An answer of two parts: a list of the call's own, and an error. -/
def TwP (w : World) (Z : Int × List Int) (e : Ending) (W' : World) : Prop :=
  ∃ a c, e = .returned (.tuple #[.slice a Z.2.length c, .int .i64 Z.1]) ∧ W'.ownsRow w.heap.size 3 1 (.slice a Z.2.length c) Z.2.length (i64s Z.2) ∧ Below w.heap.size w W'
theorem TwP.no {w W' : World} {er : Int} (hb : Below w.heap.size w W') : TwP w (er, []) (.returned (.tuple #[.slice none 0 0, .int .i64 er])) W' := ⟨_, _, rfl, ⟨rfl, .inl ⟨rfl, rfl⟩⟩, hb⟩
theorem TwP.row {w W' : World} {D : List Int} {g n : Nat} (hg : HasC W' g 3 (zA D)) (hn : D.length = n) (h0 : w.heap.size ≤ g) (hl : n ≤ 1024) (hb : Below w.heap.size w W') : TwP w (0, D) (.returned (.tuple #[.slice (some ⟨g, 0, none⟩) n n, .int .i64 0])) W' := by
  subst hn
  exact ⟨_, _, rfl, z_owns hg h0 hl, hb⟩
theorem ccE_zero {f d : Int} {L : List In} {out : Int} (h : ccE f d L out = 0) : mcB f d L out = true := by
  unfold ccE at h
  split at h
  · assumption
  · omega
theorem ccE_cases (f d : Int) (L : List In) (out : Int) : (mcB f d L out = true ∧ ccE f d L out = 0) ∨ (¬ mcB f d L out = true ∧ ccE f d L out = 15) := by
  unfold ccE
  by_cases h : mcB f d L out = true
  · exact .inl ⟨h, if_pos h⟩
  · exact .inr ⟨h, if_neg h⟩
theorem mc_parts {f d : Int} {L : List In} {out : Int} (h : mcB f d L out = true) : May f d ∧ 1 ≤ L.length ∧ L.length ≤ 200 ∧ 0 ≤ out ∧ out < L.length ∧ okT L L.length = true := by
  simp only [mcB, Bool.and_eq_true, decide_eq_true_eq, YtijbmdmeiancgaaGreat.Spn.inB_iff] at h
  obtain ⟨⟨⟨h1, h2⟩, h3⟩, h4⟩ := h
  exact ⟨h1, by omega, by omega, by omega, by omega, h4⟩
theorem vlI_pre {f d : Int} {v : Wd} {D Z : List Int} {n : In} (h : okI n D.length = true) : vlI f d v (D ++ Z) n = vlI f d v D n := by
  have e : arV (D ++ Z) n = arV D n := by
    unfold arV
    apply List.map_congr_left
    intro r hr
    obtain ⟨j, hj, rfl⟩ := List.getElem_of_mem hr
    rw [agL_len] at hj
    have := ok_reg h hj
    rw [← agL_at n j hj, List.getD_eq_getElem?_getD, List.getElem?_eq_getElem (by rw [agL_len]; exact hj)] at this
    exact getD_pre this.2
  rw [vlI, vlI, e]

set_option maxRecDepth 100000 in
set_option maxHeartbeats 4000000 in
theorem cvalues_any (f d out : Int) (v : Wd) {a pa : Option Addr} {n cap pl pc : Nat} {L : List In} {W : World} (hL : Ins W a n cap L) (hP : Ints W pa pl pc v.ps) :
    Calls Tryz.prog 20 #[.agg (cd f d a n cap out), .agg (wdA v pa pl pc)] W (TwP W (vaZ f d v L out)) := by
  have hb1 := bel1 W (.cells (cd f d a n cap out) 26)
  have hb2 := bel hb1 (bel1 (W.alloc (.cells (cd f d a n cap out) 26)) (.cells (wdA v pa pl pc) 44))
  have HC0 := hide ((HasC.new W 26 (cd f d a n cap out)).alloc (.cells (wdA v pa pl pc) 44))
  have HW0 := hide (has_new1 W (.cells (cd f d a n cap out) 26) 44 (wdA v pa pl pc))
  have HB0 := hide hb2
  have HCk := hide (ccheck_any f d out (hL.later hb2))
  have HLI := hide hL
  have HPI := hide hP
  have HLn := hide hL.len
  clear hb1 hb2 hL hP
  rcases ccE_cases f d L out with ⟨hm, h0⟩ | ⟨hm, h0⟩
  · rw [h0] at HCk
    obtain ⟨-, m1, m2, -, -, hok⟩ := mc_parts hm
    rw [HLn.out] at m1 m2 hok
    have HF := hide fun w h => fits_any f d v.x v.y v.c pa pl pc v.ps w h
    rcases fitE_cases f d v with ⟨hF, h1⟩ | ⟨hF, h1⟩
    · rw [h1] at HF
      rw [show vaZ f d v L out = vlF f d v L by rw [vaZ, if_pos hm, if_pos hF]]
      have HFt := hide hF
      have HOk := hide hok
      have hmk := make_z n (by omega)
      clear hm h0 hF h1 hok
      go_enter Tryz.func20, Tryz.ntmps20
      go_wp2_with fail
      refine HCk.out.mono ?_
      rintro e V1 ⟨rfl, hb⟩
      have HC1 := hide (HC0.out.below hb)
      have HW1 := hide (HW0.out.below hb)
      have HB1 := hide (bel HB0.out hb)
      obtain ⟨c0, c1, c2, c3⟩ := four_of HC1.out
      obtain ⟨y0, y1, y2, y3⟩ := four_of HW1.out
      clear hb HC0 HW0 HB0 HCk
      go_wp2_with fail
      refine (HF.out _ (HPI.out.later HB1.out)).mono ?_
      rintro e V2 ⟨rfl, hb⟩
      have HC2 := hide (HC1.out.below hb)
      have HW2 := hide (HW1.out.below hb)
      have HB2 := hide (bel HB1.out hb)
      clear hb HC1 HW1 HB1 c0 c1 c2 c3 y0 y1 y2 y3
      obtain ⟨c0, c1, c2, c3⟩ := four_of HC2.out
      have hg0 := HC2.out.lt
      have hg1 := HW2.out.lt
      have HC3 := hide (HC2.out.alloc (.cells (zA (List.replicate n 0)) 3))
      have HW3 := hide (HW2.out.alloc (.cells (zA (List.replicate n 0)) 3))
      have HB3 := hide (bel HB2.out (bel1 V2 (.cells (zA (List.replicate n 0)) 3)))
      have HG3 := hide (HasC.new V2 3 (zA (List.replicate n 0)))
      go_wp2_with fail
      generalize V2.heap.size = g at *
      clear HC2 HW2 HB2 c0 c1 c2 c3 hmk HF
      go_loopw [32] (fun i wr => ∃ (k : Nat) (D : List Int), k ≤ n ∧ i = .int .i64 k ∧ Hid (vlF f d v (L.take k) = (0, D)) ∧ Hid (D.length = k) ∧ Hid (HasC wr g 3 (zA (D ++ List.replicate (n - k) 0))) ∧ Hid (HasC wr W.heap.size 26 (cd f d a n cap out)) ∧ Hid (HasC wr (W.heap.size + 1) 44 (wdA v pa pl pc)) ∧ Hid (Below W.heap.size W wr)) (fun i _ => n - (intOf i).toNat)
      case atStart => exact ⟨0, [], Nat.zero_le _, rfl, hide rfl, hide rfl, HG3, HC3, HW3, HB3⟩
      case round =>
        obtain ⟨k, D, hk, rfl, HD, HDl, HG, HC, HW, HB⟩ := hrel
        rename World => V
        clear HG3 HC3 HW3 HB3
        by_cases hlt : k < n
        · obtain ⟨b, off, rfl, -, hat⟩ := (HLI.out.later HB.out).at (by omega)
          obtain ⟨e0, e1, e2, e3, e4, e5⟩ := hat k hlt
          clear hat
          have hi0 : (0 : Int) ≤ k := by omega
          have hi1 : (k : Int) < n := by omega
          have hOk := okT_at HOk.out hlt
          have hS := vlF_snoc f d v (L.take k) (L.getD k i0)
          rw [← take_snoc i0 (by rw [HLn.out]; exact hlt), HD.out] at hS
          have HS := hide hS
          have HSt := hide fun e h he => vlF_bad (f := f) (d := d) (v := v) (L := L) (k := k + 1) (e := e) h he
          clear hS
          generalize L.getD k i0 = m at *
          have hb := bel1 V (.cells (ia m) 57)
          have HG2 := hide (HG.out.below hb)
          have HC2 := hide (HC.out.below hb)
          have HW2 := hide (HW.out.below hb)
          have HB2 := hide (bel HB.out hb)
          have hl : (D ++ List.replicate (n - k) 0).length = n := by simp [HDl.out]; omega
          have hV := has_z HG2.out (by rw [hl]; omega)
          rw [hl] at hV
          have HV := hide (cvalue_any f d m v (HPI.out.later HB2.out) hV HFt.out hOk (by omega))
          rw [vlI_pre (by rw [HDl.out]; exact hOk)] at HV
          obtain ⟨c0, c1, c2, c3⟩ := four_of HC.out
          obtain ⟨y0, y1, y2, y3⟩ := four_of HW.out
          have hz0 := HC.out.lt
          have hz1 := HW.out.lt
          clear hb hV hl hOk
          unfold vlS at HS
          generalize vlI f d v D m = X at *
          obtain ⟨x, er⟩ := X
          simp only [if_true] at HS
          go_wp2_with fail
          refine HV.out.mono ?_
          rintro e V3 ⟨rfl, hb⟩
          have HG3 := hide (HG2.out.below hb)
          have HC3 := hide (HC2.out.below hb)
          have HW3 := hide (HW2.out.below hb)
          have HB3 := hide (bel HB2.out hb)
          clear hb HV HG2 HC2 HW2 HB2 c0 c1 c2 c3 y0 y1 y2 y3 e0 e1 e2 e3 e4 e5
          by_cases he : er = 0
          · subst he
            rw [if_pos rfl] at HS
            have HX := HG3.out
            rw [rep_succ hlt] at HX
            have w0 := HX.frozen k
            have w1 := HX.cell k (zA_get _ k (by simp [HDl.out]))
            have HX2 := hide (put_z HX HDl.out x)
            have HC4 := hide (HC3.out.other (p := ⟨g, k, none⟩) (by simp; omega) (.int .i64 x))
            have HW4 := hide (HW3.out.other (p := ⟨g, k, none⟩) (by simp; omega) (.int .i64 x))
            have HB4 := hide (HB3.out.setCell (p := ⟨g, k, none⟩) (by simp; omega) (.int .i64 x))
            clear HX
            go_wp2_with fail
            go_roundw
            case rel => exact ⟨k + 1, D ++ [x], by omega, by go_num, HS, hide (by simp [HDl.out]), hide (by rw [List.append_assoc]; exact HX2.out), HC4, HW4, HB4⟩
            case measure => simp [intOf]; omega
          · rw [if_neg he] at HS
            have HE := hide (HSt.out _ HS.out he)
            have he2 : (er != 0) = true := by simpa using he
            clear HS HSt he
            go_wp2_with fail
            exact bodyPost_ret (v := .tuple #[.slice none 0 0, .int .i64 er]) (by simp [results, Tryz.results20, go_sem]) rfl (by rw [HE.out]; exact TwP.no HB3.out)
        · obtain rfl : k = n := by omega
          have hD := HD.out
          rw [List.take_of_length_le (by rw [HLn.out]; exact Nat.le_refl _)] at hD
          have HE := hide hD
          have HX := HG.out
          rw [Nat.sub_self, List.replicate_zero, List.append_nil] at HX
          have HX2 := hide HX
          clear hD HX
          go_wp2_with fail
          exact bodyPost_ret (v := .tuple #[.slice (some ⟨g, 0, none⟩) k k, .int .i64 0]) (by simp [results, Tryz.results20, go_sem]) rfl (by rw [HE.out]; exact TwP.row HX2.out HDl.out (by omega) (by omega) HB.out)
    · rw [h1] at HF
      rw [show vaZ f d v L out = (1, []) by rw [vaZ, if_pos hm, if_neg hF]]
      clear hm h0 hF h1 hok
      go_enter Tryz.func20, Tryz.ntmps20
      go_wp2_with fail
      refine HCk.out.mono ?_
      rintro e V1 ⟨rfl, hb⟩
      have HC1 := hide (HC0.out.below hb)
      have HW1 := hide (HW0.out.below hb)
      have HB1 := hide (bel HB0.out hb)
      obtain ⟨c0, c1, c2, c3⟩ := four_of HC1.out
      obtain ⟨y0, y1, y2, y3⟩ := four_of HW1.out
      clear hb HC0 HW0 HB0 HCk
      go_wp2_with fail
      refine (HF.out _ (HPI.out.later HB1.out)).mono ?_
      rintro e V2 ⟨rfl, hb⟩
      have HB2 := hide (bel HB1.out hb)
      clear hb
      go_wp2_with fail
      exact bodyPost_ret (v := .tuple #[.slice none 0 0, .int .i64 1]) (by simp [results, Tryz.results20, go_sem]) rfl (TwP.no HB2.out)
  · rw [h0] at HCk
    rw [show vaZ f d v L out = (15, []) by rw [vaZ, if_neg hm]]
    clear hm h0
    go_enter Tryz.func20, Tryz.ntmps20
    go_wp2_with fail
    refine HCk.out.mono ?_
    rintro e V1 ⟨rfl, hb⟩
    have HB1 := hide (bel HB0.out hb)
    clear hb
    go_wp2_with fail
    exact bodyPost_ret (v := .tuple #[.slice none 0 0, .int .i64 15]) (by simp [results, Tryz.results20, go_sem]) rfl (TwP.no HB1.out)

end Go.Proofs.Cde

/-
  code.Cost; seven and awake of the statements.
-/
namespace Go.Proofs.Cde
open YtijbmdmeiancgaaGreat (Wd wdA Fits inpV fitE_cases)
open Go.RowKit Go.IntWalk YtijbmdmeiancgaaGreat.Knd
set_option linter.unusedVariables false

def coL (L : List In) : Int := L.foldl (fun s n => s + coZ n.op) 0
theorem coL_snoc (L : List In) (n : In) : coL (L ++ [n]) = coL L + coZ n.op := by simp [coL]
theorem coL_le (L : List In) : ∀ k, k ≤ L.length → 0 ≤ coL (L.take k) ∧ coL (L.take k) ≤ 6 * k
  | 0, _ => by simp [coL]
  | k + 1, h => by
    have ih := coL_le L k (by omega)
    rw [take_snoc i0 (by omega), coL_snoc]
    have := coZ_le (L.getD k i0).op
    omega

set_option maxRecDepth 100000 in
set_option maxHeartbeats 4000000 in
theorem ccost_any (f d out : Int) {a : Option Addr} {n cap : Nat} {L : List In} {W : World} (hL : Ins W a n cap L) (hn : n ≤ 1000000000000000) :
    Calls Tryz.prog 19 #[.agg (cd f d a n cap out)] W fun e W' => e = .returned (.int .i64 (coL L)) ∧ Below W.heap.size W W' := by
  have HB0 := hide (bel1 W (.cells (cd f d a n cap out) 26))
  have HLI := hide hL
  have HLn := hide hL.len
  clear hL
  go_enter Tryz.func19, Tryz.ntmps19
  go_wp2_with fail
  go_loopw [3, 9] (fun s i wr => ∃ (k : Nat) (c : Int), k ≤ n ∧ i = .int .i64 k ∧ s = .int .i64 c ∧ 0 ≤ c ∧ c ≤ 6 * k ∧ Hid (c = coL (L.take k)) ∧ Hid (Below W.heap.size W wr)) (fun _ i _ => n - (intOf i).toNat)
  case atStart => exact ⟨0, 0, Nat.zero_le _, rfl, rfl, Int.le_refl _, Int.le_refl _, hide rfl, HB0⟩
  case round =>
    obtain ⟨k, c, hk, rfl, rfl, hc0, hc6, HC, HB⟩ := hrel
    rename World => V
    clear HB0
    by_cases hlt : k < n
    · obtain ⟨g, off, rfl, -, hat⟩ := (HLI.out.later HB.out).at (by omega)
      obtain ⟨e0, e1, e2, e3, e4, e5⟩ := hat k hlt
      clear hat
      have hi0 : (0 : Int) ≤ k := by omega
      have hi1 : (k : Int) < n := by omega
      have HC2 := hide (show c + coZ (L.getD k i0).op = coL (L.take (k + 1)) by rw [take_snoc i0 (by rw [HLn.out]; exact hlt), coL_snoc, HC.out])
      generalize L.getD k i0 = m at *
      have HCo := hide fun w => cost_any m.op w
      obtain ⟨z0, z1⟩ := coZ_le m.op
      generalize coZ m.op = z at *
      have HB2 := hide (bel HB.out (bel1 V (.cells (ia m) 57)))
      go_wp2_with (go_at_call 33; refine (HCo.out _).mono ?_; rintro e w' ⟨rfl, rfl⟩)
      go_roundw
      case rel => exact ⟨k + 1, c + z, by omega, by go_num, rfl, by omega, by omega, HC2, HB2⟩
      case measure => simp [intOf]; omega
    · obtain rfl : k = n := by omega
      have hC := HC.out
      rw [List.take_of_length_le (by rw [HLn.out]; exact Nat.le_refl _)] at hC
      have HC2 := hide hC
      clear hC
      go_wp2_with fail
      go_ret
      exact ⟨ret_int HC2.out, HB.out⟩

theorem has_ins {W : World} {g : Nat} {L : List In} (h : HasC W g 57 (is6 L).toArray) (hl : L.length ≤ 1024) : Ins W (some ⟨g, 0, none⟩) L.length L.length L := by
  refine ⟨rfl, Nat.le_refl _, by unfold maxLen; omega, (fun h => by cases h), .inr ⟨g, 0, rfl, h.lt, fun i hi j v hv => ?_⟩⟩
  rw [Nat.add_assoc, Nat.zero_add]
  refine h.cell _ ?_
  rw [List.getElem?_toArray]
  exact is6_get L i hi j v hv

end Go.Proofs.Cde

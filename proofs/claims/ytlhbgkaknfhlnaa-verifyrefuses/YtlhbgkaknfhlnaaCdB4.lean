/-
  code.input and code.value: what an instruction comes to.
-/
import Derived.Test.YtlhbgkaknfhlnaaCdB3
import Derived.Test.YtlhbgkaknfhlnaaVa
namespace Go.Proofs.Cde
open Go.RowKit Go.IntWalk Ytlhbgkaknfhlnaa.Knd
set_option linter.unusedVariables false

open Ytlhbgkaknfhlnaa (Wd wdA Fits inpV fitE_cases)
set_option maxRecDepth 100000 in
set_option maxHeartbeats 4000000 in
theorem cinput_any (f d k : Int) (v : Wd) (a : Option Addr) (n cap : Nat) (W : World) :
    Calls Try.prog 29 #[.agg (kd f d), .int .i64 k, .agg (wdA v a n cap)] W fun e W' => e = .returned (.int .i64 (inpV f d v k)) ∧ Below W.heap.size W W' := by
  have HL := hide fun W => Ytlhbgkaknfhlnaa.Knd.low_any f d W
  have HH := hide fun W => Ytlhbgkaknfhlnaa.Knd.high_any f d W
  have HO := hide fun W => Ytlhbgkaknfhlnaa.Knd.border_any f d W
  have HB := hide (bel (bel1 W (.cells (kd f d) 23)) (bel1 (W.alloc (.cells (kd f d) 23)) (.cells (wdA v a n cap) 29)))
  unfold inpV
  by_cases h0 : k = 0
  · subst h0
    rw [if_pos rfl]
    go_enter Try.func29, Try.ntmps29
    go_wp2_with fail
    go_ret
    exact ⟨rfl, HB.out⟩
  rw [if_neg h0]
  by_cases h1 : k = 1
  · subst h1
    rw [if_pos rfl]
    go_enter Try.func29, Try.ntmps29
    go_wp2_with fail
    go_ret
    exact ⟨rfl, HB.out⟩
  rw [if_neg h1]
  by_cases h2 : k = 2
  · subst h2
    rw [if_pos rfl]
    go_enter Try.func29, Try.ntmps29
    go_wp2_with fail
    go_ret
    exact ⟨rfl, HB.out⟩
  rw [if_neg h2]
  by_cases h3 : k = 3
  · subst h3
    rw [if_pos rfl]
    go_enter Try.func29, Try.ntmps29
    go_wp2_with fail
    refine (HL.out _).mono ?_
    rintro e V1 ⟨rfl, hb⟩
    go_wp2_with fail
    go_ret
    exact ⟨rfl, bel HB.out hb⟩
  rw [if_neg h3]
  by_cases h4 : k = 4
  · subst h4
    rw [if_pos rfl]
    go_enter Try.func29, Try.ntmps29
    go_wp2_with fail
    refine (HH.out _).mono ?_
    rintro e V1 ⟨rfl, hb⟩
    go_wp2_with fail
    go_ret
    exact ⟨rfl, bel HB.out hb⟩
  rw [if_neg h4]
  have q0 : (k == 0) = false := by simpa using h0
  have q1 : (k == 1) = false := by simpa using h1
  have q2 : (k == 2) = false := by simpa using h2
  have q3 : (k == 3) = false := by simpa using h3
  have q4 : (k == 4) = false := by simpa using h4
  clear h0 h1 h2 h3 h4
  go_enter Try.func29, Try.ntmps29
  go_wp2_with fail
  refine (HO.out _).mono ?_
  rintro e V1 ⟨rfl, hb⟩
  go_wp2_with fail
  go_ret
  exact ⟨rfl, bel HB.out hb⟩

/-- What an instruction comes to, by the registers ahead of it; the error beside it. -/
def arV (V : List Int) (n : In) : List Int := (agL n).map fun r => V.getD r.toNat 0
def vlI (f d : Int) (v : Wd) (V : List Int) (n : In) : Int × Int :=
  if n.op = 1 then (n.k, 0) else if n.op = 2 then (inpV f d v n.k, 0) else if n.op = 3 then (if countZ f d ≤ n.k then (0, 11) else (v.ps.getD n.k.toNat 0, 0)) else Ytlhbgkaknfhlnaa.Spn.valZ n.op n.k n.s (arV V n)
theorem arV_len (V : List Int) (n : In) : (arV V n).length = arN n := by rw [arV, List.length_map, agL_len]
theorem agL_at (n : In) (k : Nat) (h : k < arN n) : (agL n).getD k 0 = rgN n k := by
  rw [agL, List.getD_eq_getElem?_getD, List.getElem?_take_of_lt h]
  rfl
theorem arV_at (V : List Int) (n : In) (k : Nat) (h : k < arN n) : (arV V n).getD k 0 = V.getD (rgN n k).toNat 0 := by
  rw [← agL_at n k h, arV]
  simp [List.getD_eq_getElem?_getD, List.getElem?_map, List.getElem?_eq_getElem (show k < (agL n).length by rw [agL_len]; exact h)]
/-- What stands in the list of arguments behind k rounds. -/
def arM (V : List Int) (n : In) (k : Nat) : List Int := (arV V n).take k ++ (abc n).drop k
theorem arM_len (V : List Int) (n : In) {k : Nat} (h : k ≤ arN n) : (arM V n k).length = 3 := by
  have := arN_le n
  simp [arM, arV_len, abc]
  omega
theorem arM_split (V : List Int) (n : In) {k : Nat} (h : k < arN n) : arM V n k = (arV V n).take k ++ rgN n k :: (abc n).drop (k + 1) := by
  have := arN_le n
  rw [arM, List.drop_eq_getElem_cons (show k < (abc n).length by simp [abc]; omega)]
  congr 2
  rw [← abc_at n k (by omega), List.getD_eq_getElem?_getD, List.getElem?_eq_getElem (by simp [abc]; omega)]
  rfl
theorem arM_succ (V : List Int) (n : In) {k : Nat} (h : k < arN n) : (arV V n).take k ++ V.getD (rgN n k).toNat 0 :: (abc n).drop (k + 1) = arM V n (k + 1) := by
  rw [arM, take_snoc 0 (by rw [arV_len]; exact h), arV_at V n k h]
  simp
theorem arM_get (V : List Int) (n : In) {k : Nat} (h : k < arN n) : (arM V n k).getD k 0 = rgN n k := by
  rw [arM_split V n h, List.getD_eq_getElem?_getD, List.getElem?_append_right (by rw [List.length_take]; omega)]
  have e : k - ((arV V n).take k).length = 0 := by rw [List.length_take, arV_len]; omega
  rw [e]
  rfl
theorem arM_done (V : List Int) (n : In) : arM V n (arN n) = arV V n ++ (abc n).drop (arN n) := by
  rw [arM, List.take_of_length_le (by rw [arV_len]; exact Nat.le_refl _)]
theorem z_pre {W : World} {g : Nat} {L M : List Int} (h : HasC W g 3 (zA (L ++ M))) (hl : (L ++ M).length = 3) : Ints W (some ⟨g, 0, none⟩) L.length 3 L := by
  have h2 : L.length ≤ 3 := by rw [← hl]; simp
  refine ⟨rfl, h2, by decide, (fun h => by cases h), .inr ⟨g, 0, rfl, fun i hi => ?_⟩⟩
  rw [Nat.zero_add, h.cell i (zA_get _ i (by simp; omega)), getD_pre hi]
theorem fit_len {f d : Int} {v : Wd} (h : Fits f d v) : (v.ps.length : Int) = countZ f d := h.2.1

theorem ok_reg {n : In} {i : Nat} (h : okI n i = true) {j : Nat} (hj : j < arN n) : 0 ≤ rgN n j ∧ (rgN n j).toNat < i := by
  simp only [okI, Bool.and_eq_true] at h
  have h3 := arN_le n
  have hr := h.1.2
  rw [← rgT_three] at hr
  simp only [rgT, List.all_eq_true, List.mem_range] at hr
  have := hr j (by omega)
  rw [rgB, if_pos (by simp [arN] at *; omega), Ytlhbgkaknfhlnaa.Spn.inB_iff] at this
  omega
theorem ok_con {n : In} {i : Nat} (h : okI n i = true) : csB n = true := by
  simp only [okI, Bool.and_eq_true] at h
  exact h.2
theorem ok_ar {n : In} {i : Nat} (h : okI n i = true) : 0 ≤ Ytlhbgkaknfhlnaa.Spn.ar n.op := by
  simp only [okI, Bool.and_eq_true, decide_eq_true_eq] at h
  exact h.1.1
theorem cargs_ex (n : In) (W : World) :
    Calls Try.prog 30 #[.agg (ia n)] W fun e W' => ∃ g, e = .returned (.slice (some ⟨g, 0, none⟩) (arN n) 3) ∧ W.heap.size ≤ g ∧ HasC W' g 3 (zA (abc n)) ∧ Below W.heap.size W W' :=
  (cargs_any n W).mono fun e W' ⟨h1, h2, h3⟩ => ⟨_, h1, by omega, h2, h3⟩

set_option maxRecDepth 100000 in
set_option maxHeartbeats 4000000 in
theorem cvalue_any (f d : Int) (n : In) (v : Wd) {pa va : Option Addr} {pl pc vl vc i : Nat} {V : List Int} {W : World} (hP : Ints W pa pl pc v.ps) (hV : Ints W va vl vc V) (hF : Fits f d v) (ho : okI n i = true) (hi : i ≤ vl) :
    Calls Try.prog 17 #[.agg (kd f d), .agg (ia n), .agg (wdA v pa pl pc), .slice va vl vc] W fun e W' => e = .returned (.tuple #[.int .i64 (vlI f d v V n).1, .int .i64 (vlI f d v V n).2]) ∧ Below W.heap.size W W' := by
  have hb1 := bel1 W (.cells (kd f d) 23)
  have hb2 := bel hb1 (bel1 (W.alloc (.cells (kd f d) 23)) (.cells (ia n) 47))
  have hb3 := bel hb2 (bel1 ((W.alloc (.cells (kd f d) 23)).alloc (.cells (ia n) 47)) (.cells (wdA v pa pl pc) 29))
  have HK0 := hide (((HasC.new W 23 (kd f d)).alloc (.cells (ia n) 47)).alloc (.cells (wdA v pa pl pc) 29))
  have HN0 := hide ((has_new1 W (.cells (kd f d) 23) 47 (ia n)).alloc (.cells (wdA v pa pl pc) 29))
  have HW0 := hide (has_new1 (W.alloc (.cells (kd f d) 23)) (.cells (ia n) 47) 29 (wdA v pa pl pc))
  rw [World.size_alloc] at HW0
  have HB0 := hide hb3
  have HP0 := hide (hP.later hb3)
  have HVW := hide hV
  have hlp := hP.len
  have hfl := fit_len hF
  rw [hlp] at hfl
  clear hb1 hb2 hb3 hP hV hF hlp
  by_cases h1 : n.op = 1
  · rw [show vlI f d v V n = (n.k, 0) by simp [vlI, h1]]
    have q1 : (n.op == 1) = true := by simpa using h1
    clear h1 ho
    go_enter Try.func17, Try.ntmps17
    go_wp2_with fail
    go_ret2
    exact ⟨rfl, HB0.out⟩
  have q1 : (n.op == 1) = false := by simpa using h1
  by_cases h2 : n.op = 2
  · rw [show vlI f d v V n = (inpV f d v n.k, 0) by simp [vlI, h2]]
    have q2 : (n.op == 2) = true := by simpa using h2
    have HI := hide fun w => cinput_any f d n.k v pa pl pc w
    generalize inpV f d v n.k = z at *
    clear h1 h2 ho
    go_enter Try.func17, Try.ntmps17
    go_wp2_with fail
    refine (HI.out _).mono ?_
    rintro e V1 ⟨rfl, hb⟩
    have HB1 := hide (bel HB0.out hb)
    clear hb
    go_wp2_with fail
    go_ret2
    exact ⟨rfl, HB1.out⟩
  have q2 : (n.op == 2) = false := by simpa using h2
  by_cases h3 : n.op = 3
  · have q3 : (n.op == 3) = true := by simpa using h3
    have hc := ok_con ho
    rw [csB, if_neg h1, if_neg h2, if_pos h3, Bool.and_eq_true, Ytlhbgkaknfhlnaa.Spn.inB_iff] at hc
    obtain ⟨q, hq⟩ : ∃ q : Nat, n.k = (q : Int) := ⟨n.k.toNat, by omega⟩
    have hE : vlI f d v V n = if countZ f d ≤ n.k then (0, 11) else (v.ps.getD n.k.toNat 0, 0) := by rw [vlI, if_neg h1, if_neg h2, if_pos h3]
    rw [hE]
    clear hE hc ho h1 h2 h3
    have HC := hide fun w => Ytlhbgkaknfhlnaa.Knd.count_any f d w
    by_cases hk : countZ f d ≤ n.k
    · rw [if_pos hk]
      generalize countZ f d = cz at *
      go_enter Try.func17, Try.ntmps17
      go_wp2_with fail
      obtain ⟨V1, hV1⟩ : ∃ V1, ((W.alloc (.cells (kd f d) 23)).alloc (.cells (ia n) 47)).alloc (.cells (wdA v pa pl pc) 29) = V1 := ⟨_, rfl⟩
      rw [hV1] at HB0 HK0 HN0 HW0 HP0 ⊢
      clear hV1
      obtain ⟨x0, x1⟩ := two_of HK0.out
      obtain ⟨-, -, -, -, e4, -⟩ := six_of HN0.out
      have k0 := cell_regrown x0
      have k1 := cell_regrown x1
      have k2 := cell_regrown e4
      refine wp_region_quiet_below mixed0 (by kernel_rfl) ?_
      repeat (first | go_big_quiet_step (first
        | (go_at_call 12; exact Calls.regrown_of (HC.out _))))
      refine wpQuiet_nil ?_
      intro V2 hw'
      obtain ⟨⟨dq, osq⟩, hw''⟩ := hw'
      have hb := below_regrown V1 dq osq
      simp only at hw''
      rw [← hw''] at hb
      clear hw'' k0 k1 k2
      have HB2 := hide (bel HB0.out hb)
      clear hb
      go_wp2_with fail
      go_ret2
      exact ⟨rfl, HB2.out⟩
    · rw [if_neg hk]
      have hk2 : decide (countZ f d ≤ n.k) = false := by simpa using hk
      rw [hq] at hk2
      rw [hq, Int.toNat_natCast]
      obtain ⟨z, hz⟩ : ∃ z, v.ps.getD q 0 = z := ⟨_, rfl⟩
      rw [hz]
      have hql : q < pl := by omega
      generalize countZ f d = cz at *
      go_enter Try.func17, Try.ntmps17
      go_wp2_with fail
      obtain ⟨V1, hV1⟩ : ∃ V1, ((W.alloc (.cells (kd f d) 23)).alloc (.cells (ia n) 47)).alloc (.cells (wdA v pa pl pc) 29) = V1 := ⟨_, rfl⟩
      rw [hV1] at HB0 HK0 HN0 HW0 HP0 ⊢
      clear hV1
      obtain ⟨x0, x1⟩ := two_of HK0.out
      obtain ⟨-, -, -, -, e4, -⟩ := six_of HN0.out
      have k0 := cell_regrown x0
      have k1 := cell_regrown x1
      have k2 := cell_regrown e4
      refine wp_region_quiet_below mixed0 (by kernel_rfl) ?_
      repeat (first | go_big_quiet_step (first
        | (go_at_call 12; exact Calls.regrown_of (HC.out _))))
      refine wpQuiet_nil ?_
      intro V2 hw'
      obtain ⟨⟨dq, osq⟩, hw''⟩ := hw'
      have hb := below_regrown V1 dq osq
      simp only at hw''
      rw [← hw''] at hb
      clear hw'' k0 k1 k2 x0 x1 e4
      have HB2 := hide (bel HB0.out hb)
      obtain ⟨-, -, -, -, e4, -⟩ := six_of (HN0.out.below hb)
      obtain ⟨-, -, -, y3⟩ := four_of (HW0.out.below hb)
      obtain ⟨b, off, rfl, -, hat⟩ := (HP0.out.later hb).at (by omega)
      have c0 := hat q hql
      rw [hz] at c0
      clear hb hat hz hk hfl
      rw [hq] at e4
      have i0 : (0 : Int) ≤ q := by omega
      have i1 : (q : Int) < pl := by omega
      go_wp2_with fail
      go_ret2
      exact ⟨rfl, HB2.out⟩
  have q3 : (n.op == 3) = false := by simpa using h3
  rw [show vlI f d v V n = Ytlhbgkaknfhlnaa.Spn.valZ n.op n.k n.s (arV V n) by rw [vlI, if_neg h1, if_neg h2, if_neg h3]]
  have HA := hide fun w => cargs_ex n w
  have HR := hide fun j hj => ok_reg ho (j := j) hj
  have HS := hide fun k (h : k < arN n) => arM_split V n h
  have HU := hide fun k (h : k < arN n) => arM_succ V n h
  have HG0 := hide fun k (h : k < arN n) => arM_get V n h
  have HLn := hide fun k (h : k ≤ arN n) => arM_len V n h
  have HD := hide (arM_done V n)
  have HAl := hide (arV_len V n)
  have H00 : Hid (arM V n 0 = abc n) := hide rfl
  have h3' := arN_le n
  generalize arM V n = M at *
  generalize arN n = m at *
  clear h1 h2 h3 ho hfl
  go_enter Try.func17, Try.ntmps17
  go_wp2_with fail
  refine (HA.out _).mono ?_
  rintro e V1 ⟨g, rfl, hg, hG, hb⟩
  have HN1 := hide (HN0.out.below hb)
  have HB1 := hide (bel HB0.out hb)
  have HG1 := hide hG
  have hg2 : W.heap.size + 1 + 1 + 1 ≤ g := by simpa using hg
  clear hG hb HK0 HN0 HW0 HB0 HP0 HA hg
  go_wp2_with fail
  go_loopw [43] (fun j wr => ∃ k : Nat, k ≤ m ∧ j = .int .i64 k ∧ Hid (HasC wr g 3 (zA (M k))) ∧ Hid (HasC wr (W.heap.size + 1) 47 (ia n)) ∧ Hid (Below W.heap.size W wr)) (fun j _ => m - (intOf j).toNat)
  case atStart => exact ⟨0, Nat.zero_le _, rfl, hide (by rw [H00.out]; exact HG1.out), HN1, HB1⟩
  case round =>
    obtain ⟨k, hk, rfl, HG, HN, HB⟩ := hrel
    rename World => V2
    clear HG1 HN1 HB1
    by_cases hlt : k < m
    · obtain ⟨p0, p1⟩ := HR.out k hlt
      have hl3 := HLn.out k hk
      have c0 := HG.out.cell k (zA_get _ k (by rw [hl3]; omega))
      rw [HG0.out k hlt] at c0
      have HX := HG.out
      rw [HS.out k hlt] at HX
      have HX2 := hide fun x => put_z (k := k) HX (by rw [List.length_take, HAl.out]; omega) x
      have HU2 := hide (HU.out k hlt)
      have y0 := HG.out.frozen k
      obtain ⟨q, hq⟩ : ∃ q : Nat, rgN n k = (q : Int) := ⟨(rgN n k).toNat, by omega⟩
      rw [hq] at c0 p1 HU2
      simp only [Int.toNat_natCast] at p1 HU2
      obtain ⟨b, off, rfl, -, hat⟩ := (HVW.out.later HB.out).at (by omega)
      have c1 := hat q (by omega)
      generalize V.getD q 0 = z at *
      have HX3 := hide (HX2.out z)
      rw [HU2.out] at HX3
      have HN3 := hide (HN.out.other (p := ⟨g, k, none⟩) (by simp; omega) (.int .i64 z))
      have HB4 := hide (HB.out.setCell (p := ⟨g, k, none⟩) (by simp; omega) (.int .i64 z))
      have i0 : (0 : Int) ≤ q := by omega
      have i1 : (q : Int) < vl := by omega
      have j0 : (0 : Int) ≤ k := by omega
      have j1 : (k : Int) < m := by omega
      clear HX HX2 HU2 hat hq p0 p1 hl3
      go_wp2_with fail
      go_roundw
      case rel => exact ⟨k + 1, by omega, by go_num, HX3, HN3, HB4⟩
      case measure => simp [intOf]; omega
    · obtain rfl : k = m := by omega
      have hI := HG.out
      rw [HD.out] at hI
      have hI2 := z_pre hI (by rw [← HD.out]; exact HLn.out k (Nat.le_refl _))
      rw [HAl.out] at hI2
      have HVa := hide (Ytlhbgkaknfhlnaa.Spn.value_any n.op n.k n.s _ _ _ _ _ (spn hI2))
      obtain ⟨e0, -, -, -, e4, e5⟩ := six_of HN.out
      clear hI hI2
      go_wp2_with fail
      refine HVa.out.mono ?_
      rintro e V3 ⟨rfl, hb⟩
      have HB3 := hide (bel HB.out hb)
      clear hb
      go_wp2_with fail
      go_ret2
      exact ⟨rfl, HB3.out⟩

end Go.Proofs.Cde

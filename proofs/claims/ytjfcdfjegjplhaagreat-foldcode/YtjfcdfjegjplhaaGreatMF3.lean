/-
  fold's reckoned and settled.
-/
import Derived.Test.YtjfcdfjegjplhaaGreatMF2
import Derived.Lib.QuietBelow
import Derived.BigQuiet
namespace Go.Proofs.Fld
open Go.RowKit Go.IntWalk YtjfcdfjegjplhaaGreat.Knd
open Cde (In i0 ia kd cd Ins at6 six_of has_new1 okI agL arN arV arM abc rgN zA zA_get put_z spn z_pre)
set_option linter.unusedVariables false

theorem map_k (M : List In) (q : Nat) : (M.map In.k).getD q 0 = (M.getD q i0).k := by
  rw [List.getD_eq_getElem?_getD, List.getElem?_map, List.getD_eq_getElem?_getD]
  cases M[q]? <;> rfl
theorem ka_ar (M : List In) (m : In) : kaL M m = arV (M.map In.k) m := by
  unfold kaL arV
  apply List.map_congr_left
  intro r hr
  rw [map_k]
theorem al_iff (M : List In) (m : In) : alN M m = true ↔ ∀ j, j < arN m → (rg M (rgN m j)).op = 1 := by
  unfold alN
  rw [List.all_eq_true]
  constructor
  · intro h j hj
    have := h ((agL m).getD j 0) (Cde.getD_mem 0 (by rw [Cde.agL_len]; exact hj))
    rw [Cde.agL_at m j hj] at this
    simpa using this
  · intro h r hr
    obtain ⟨j, hj, rfl⟩ := List.getElem_of_mem hr
    rw [Cde.agL_len] at hj
    have := h j hj
    rw [← Cde.agL_at m j hj, List.getD_eq_getElem?_getD, List.getElem?_eq_getElem (by rw [Cde.agL_len]; exact hj)] at this
    simpa using this
theorem rk_no {M : List In} {m : In} {j : Nat} (hj : j < arN m) (h : (rg M (rgN m j)).op ≠ 1) : rkZ M m = (0, false) := by
  unfold rkZ
  rw [if_neg]
  rw [al_iff]
  intro h2
  exact h (h2 j hj)
theorem rk_yes {M : List In} {m : In} (h : ∀ j, j < arN m → (rg M (rgN m j)).op = 1) : rkZ M m = ((vl m.op m.k m.s (arV (M.map In.k) m)).1, (vl m.op m.k m.s (arV (M.map In.k) m)).2 == 0) := by
  unfold rkZ
  rw [if_pos ((al_iff M m).2 h), ka_ar]

set_option maxRecDepth 100000 in
set_option maxHeartbeats 4000000 in
theorem frk_any (n : In) {va : Option Addr} {vn vc : Nat} {M : List In} {W : World} (hM : Ins W va vn vc M) (ho : okI n vn = true) :
    Calls Tryz.prog 52 #[.slice va vn vc, .agg (ia n)] W fun e W' => e = .returned (.tuple #[.int .i64 (rkZ M n).1, .bool (rkZ M n).2]) ∧ Below W.heap.size W W' := by
  have HA := hide fun w => Cde.cargs_ex n w
  have HR := hide fun j hj => Cde.ok_reg ho (j := j) hj
  have HS := hide fun k (h : k < arN n) => Cde.arM_split (M.map In.k) n h
  have HU := hide fun k (h : k < arN n) => Cde.arM_succ (M.map In.k) n h
  have HG0 := hide fun k (h : k < arN n) => Cde.arM_get (M.map In.k) n h
  have HLn := hide fun k (h : k ≤ arN n) => Cde.arM_len (M.map In.k) n h
  have HD := hide (Cde.arM_done (M.map In.k) n)
  have HAl := hide (Cde.arV_len (M.map In.k) n)
  have H00 : Hid (arM (M.map In.k) n 0 = abc n) := hide rfl
  have HNo := hide fun j => rk_no (M := M) (m := n) (j := j)
  have HYes := hide (rk_yes (M := M) (m := n))
  have h3' := Cde.arN_le n
  have hs := hM.short
  have HMk := hide fun q => map_k M q
  have HB0 := hide (bel1 W (.cells (ia n) 39))
  have HN0 := hide (HasC.new W 39 (ia n))
  have HVW := hide hM
  generalize arM (M.map In.k) n = Q at *
  generalize arN n = m at *
  obtain ⟨⟨X, x2⟩, hX⟩ : ∃ X, rkZ M n = X := ⟨_, rfl⟩
  rw [hX] at HNo HYes ⊢
  clear ho hM hX
  go_enter Tryz.func52, Tryz.ntmps52
  go_wp2_with fail
  refine (HA.out _).mono ?_
  rintro e V1 ⟨g, rfl, hg, hG, hb⟩
  have HN1 := hide (HN0.out.below hb)
  have HB1 := hide (bel HB0.out hb)
  have HG1 := hide hG
  have hg2 : W.heap.size + 1 ≤ g := by simpa using hg
  clear hG hb HN0 HB0 HA hg
  go_wp2_with fail
  go_loopw [15] (fun j wr => ∃ k : Nat, k ≤ m ∧ j = .int .i64 k ∧ Hid (∀ i, i < k → (rg M (rgN n i)).op = 1) ∧ Hid (HasC wr g 3 (zA (Q k))) ∧ Hid (HasC wr W.heap.size 39 (ia n)) ∧ Hid (Below W.heap.size W wr)) (fun j _ => m - (intOf j).toNat)
  case atStart => exact ⟨0, Nat.zero_le _, rfl, hide (fun i hi => absurd hi (Nat.not_lt_zero _)), hide (by rw [H00.out]; exact HG1.out), HN1, HB1⟩
  case round =>
    obtain ⟨k, hk, rfl, HF, HG, HN, HB⟩ := hrel
    rename World => V2
    clear HG1 HN1 HB1
    by_cases hlt : k < m
    · obtain ⟨p0, p1⟩ := HR.out k hlt
      have hl3 := HLn.out k hk
      have c0 := HG.out.cell k (zA_get _ k (by rw [hl3]; omega))
      rw [HG0.out k hlt] at c0
      have HX := HG.out
      rw [HS.out k hlt] at HX
      have HX2 := hide fun x => put_z (k := k) HX (by rw [List.length_take, HAl.out]; omega) x
      have HU2 := hide (HU.out k hlt)
      have y0 := HG.out.frozen k
      have HF2 := hide fun (h : (rg M (rgN n k)).op = 1) (i : Nat) (hi : i < k + 1) => show (rg M (rgN n i)).op = 1 from by
        by_cases e : i < k
        · exact HF.out i e
        · obtain rfl : i = k := by omega
          exact h
      have HNo2 := hide (HNo.out k hlt)
      obtain ⟨q, hq⟩ : ∃ q : Nat, rgN n k = (q : Int) := ⟨(rgN n k).toNat, by omega⟩
      rw [hq] at c0 p1 HU2
      unfold rg at HF2 HNo2
      rw [hq] at HF2 HNo2
      simp only [Int.toNat_natCast] at p1 HU2 HF2 HNo2
      rw [HMk.out q] at HU2
      obtain ⟨b, off, rfl, -, hat⟩ := (HVW.out.later HB.out).at (by omega)
      obtain ⟨c1, -, -, -, c5, -⟩ := hat q (by omega)
      generalize M.getD q i0 = z at *
      have HX3 := hide (HX2.out z.k)
      rw [HU2.out] at HX3
      have HN3 := hide (HN.out.other (p := ⟨g, k, none⟩) (by simp; omega) (.int .i64 z.k))
      have HB4 := hide (HB.out.setCell (p := ⟨g, k, none⟩) (by simp; omega) (.int .i64 z.k))
      have i0' : (0 : Int) ≤ q := by omega
      have i1' : (q : Int) < vn := by omega
      have j0 : (0 : Int) ≤ k := by omega
      have j1 : (k : Int) < m := by omega
      clear HX HX2 HU2 hat hq p0 p1 hl3 HF
      by_cases hop : z.op = 1
      · have q1 : (z.op != 1) = false := by simpa using hop
        have HF3 := hide (HF2.out hop)
        clear HF2 hop HNo2
        go_wp2_with fail
        go_roundw
        case rel => exact ⟨k + 1, by omega, by go_num, hide HF3.out, HX3, HN3, HB4⟩
        case measure => simp [intOf]; omega
      · have q1 : (z.op != 1) = true := by simpa using hop
        have HZ := hide (HNo2.out hop)
        clear HF2 hop HNo2
        go_wp2_with fail
        have hz := HZ.out
        cases hz
        exact bodyPost_ret (v := .tuple #[.int .i64 0, .bool false]) (by simp [results, Tryz.results52, go_sem]) rfl ⟨rfl, HB.out⟩
    · obtain rfl : k = m := by omega
      have hI := HG.out
      rw [HD.out] at hI
      have hI2 := z_pre hI (by rw [← HD.out]; exact HLn.out k (Nat.le_refl _))
      rw [HAl.out] at hI2
      have HVa := hide (YtjfcdfjegjplhaaGreat.Spn.value_any n.op n.k n.s _ _ _ _ _ (spn hI2))
      have HY := hide (HYes.out HF.out)
      obtain ⟨e0, -, -, -, e4, e5⟩ := six_of HN.out
      clear hI hI2 HYes HNo
      unfold vl at HY
      generalize YtjfcdfjegjplhaaGreat.Spn.valZ n.op n.k n.s (arV (M.map In.k) n) = Y at *
      go_wp2_with fail
      refine HVa.out.mono ?_
      rintro e V3 ⟨rfl, hb⟩
      have HB3 := hide (bel HB.out hb)
      clear hb
      go_wp2_with fail
      have hy := HY.out
      cases hy
      exact bodyPost_ret (v := .tuple #[.int .i64 Y.1, .bool (Y.2 == 0)]) (by simp [results, Tryz.results52, go_sem]) rfl ⟨rfl, HB3.out⟩

theorem st_z {M : List In} {m : In} (h : m.op = 9 ∨ m.op = 17 ∨ m.op = 18 ∨ m.op = 20 ∨ m.op = 23) : stZ M m = (0, m.a == m.b) := by unfold stZ; rw [if_pos h]
theorem st_o {M : List In} {m : In} (h : m.op = 19 ∨ m.op = 21 ∨ m.op = 22) : stZ M m = (1, m.a == m.b) := by unfold stZ; rw [if_neg (by omega), if_pos h]
theorem st_m {M : List In} {m : In} (h : m.op = 10 ∨ m.op = 15) : stZ M m = (0, isN M m.a 0 || isN M m.b 0) := by unfold stZ; rw [if_neg (by omega), if_neg (by omega), if_pos h]
theorem st_d {M : List In} {m : In} (h : m.op = 12) : stZ M m = (0, isN M m.b 1) := by unfold stZ; rw [if_neg (by omega), if_neg (by omega), if_neg (by omega), if_pos h]
theorem st_k {M : List In} {m : In} (h : m.op = 32 ∨ m.op = 31) : stZ M m = (0, m.k == 0) := by unfold stZ; rw [if_neg (by omega), if_neg (by omega), if_neg (by omega), if_neg (by omega), if_pos h]

set_option maxRecDepth 100000 in
set_option maxHeartbeats 8000000 in
theorem fse_any (m : In) {va : Option Addr} {vn vc : Nat} {M : List In} {W : World} (hM : Ins W va vn vc M) (ho : okI m vn = true) :
    Calls Tryz.prog 53 #[.slice va vn vc, .agg (ia m)] W fun e W' => e = .returned (.tuple #[.int .i64 (stZ M m).1, .bool (stZ M m).2]) ∧ Below W.heap.size W W' := by
  have hb1 := bel1 W (.cells (ia m) 39)
  have HI := hide fun r k (h : In1 r vn) => fis_any r k (hM.later hb1) h
  have HB := hide hb1
  have hin := fun r => ok_ag ho (r := r)
  have HE := hide (six_of (HasC.new W 39 (ia m)))
  clear hM ho hb1
  by_cases h1 : m.op = 9 ∨ m.op = 17 ∨ m.op = 18 ∨ m.op = 20 ∨ m.op = 23
  · rw [st_z h1]
    obtain ⟨op, a, b, c, k, s⟩ := m
    dsimp only at h1
    obtain ⟨e0, e1, e2, e3, e4, e5⟩ := HE.out
    clear hin HI
    rcases h1 with rfl | rfl | rfl | rfl | rfl
    all_goals
      go_enter Tryz.func53, Tryz.ntmps53
      go_wp2_with fail
      generalize hV : W.alloc (.cells (ia ⟨_, a, b, c, k, s⟩) 39) = V at *
      generalize hq : W.heap.size = q at *
      go_quiet (fail)
      go_wp2_with fail
      exact bodyPost_ret (v := .tuple #[.int .i64 0, .bool (a == b)]) (by simp [results, Tryz.results53, go_sem]) rfl ⟨rfl, by rw [← hq] at *; exact YtjfcdfjegjplhaaGreat.Spn.bdrew HB.out _⟩
  by_cases h2 : m.op = 19 ∨ m.op = 21 ∨ m.op = 22
  · rw [st_o h2]
    obtain ⟨op, a, b, c, k, s⟩ := m
    dsimp only at h2
    obtain ⟨e0, e1, e2, e3, e4, e5⟩ := HE.out
    clear hin HI h1
    rcases h2 with rfl | rfl | rfl
    all_goals
      go_enter Tryz.func53, Tryz.ntmps53
      go_wp2_with fail
      generalize hV : W.alloc (.cells (ia ⟨_, a, b, c, k, s⟩) 39) = V at *
      generalize hq : W.heap.size = q at *
      go_quiet (fail)
      go_wp2_with fail
      exact bodyPost_ret (v := .tuple #[.int .i64 1, .bool (a == b)]) (by simp [results, Tryz.results53, go_sem]) rfl ⟨rfl, by rw [← hq] at *; exact YtjfcdfjegjplhaaGreat.Spn.bdrew HB.out _⟩
  by_cases h3 : m.op = 10 ∨ m.op = 15
  · rw [st_m h3]
    have ha2 : ar m.op = 2 := by rcases h3 with e | e <;> rw [e] <;> decide
    have HJ1 := hide (HI.out m.a 0 (hin m.a (by rw [ag2 ha2]; simp)))
    have HJ2 := hide (HI.out m.b 0 (hin m.b (by rw [ag2 ha2]; simp)))
    obtain ⟨op, a, b, c, k, s⟩ := m
    dsimp only at h3 HJ1 HJ2 ⊢
    clear hin HI h1 h2 ha2 HE
    generalize isN M a 0 = x at *
    generalize isN M b 0 = y at *
    rcases h3 with rfl | rfl
    all_goals
      cases x
      · go_enter Tryz.func53, Tryz.ntmps53
        go_wp2_with fail
        refine HJ1.out.mono ?_
        rintro e w' ⟨rfl, rfl⟩
        go_wp2_with fail
        refine HJ2.out.mono ?_
        rintro e w' ⟨rfl, rfl⟩
        go_wp2_with fail
        exact bodyPost_ret (v := .tuple #[.int .i64 0, .bool y]) (by simp [results, Tryz.results53, go_sem]) rfl ⟨by simp, HB.out⟩
      · go_enter Tryz.func53, Tryz.ntmps53
        go_wp2_with fail
        refine HJ1.out.mono ?_
        rintro e w' ⟨rfl, rfl⟩
        go_wp2_with fail
        exact bodyPost_ret (v := .tuple #[.int .i64 0, .bool true]) (by simp [results, Tryz.results53, go_sem]) rfl ⟨by simp, HB.out⟩
  by_cases h4 : m.op = 12
  · rw [st_d h4]
    have ha2 : ar m.op = 2 := by rw [h4]; decide
    have HJ2 := hide (HI.out m.b 1 (hin m.b (by rw [ag2 ha2]; simp)))
    obtain ⟨op, a, b, c, k, s⟩ := m
    dsimp only at h4 HJ2 ⊢
    clear hin HI h1 h2 h3 ha2 HE
    generalize isN M b 1 = y at *
    subst h4
    go_enter Tryz.func53, Tryz.ntmps53
    go_wp2_with fail
    refine HJ2.out.mono ?_
    rintro e w' ⟨rfl, rfl⟩
    go_wp2_with fail
    exact bodyPost_ret (v := .tuple #[.int .i64 0, .bool y]) (by simp [results, Tryz.results53, go_sem]) rfl ⟨rfl, HB.out⟩
  by_cases h5 : m.op = 32 ∨ m.op = 31
  · rw [st_k h5]
    obtain ⟨op, a, b, c, k, s⟩ := m
    dsimp only at h5
    obtain ⟨e0, e1, e2, e3, e4, e5⟩ := HE.out
    clear hin HI h1 h2 h3 h4
    rcases h5 with rfl | rfl
    all_goals
      go_enter Tryz.func53, Tryz.ntmps53
      go_wp2_with fail
      generalize hV : W.alloc (.cells (ia ⟨_, a, b, c, k, s⟩) 39) = V at *
      generalize hq : W.heap.size = q at *
      go_quiet (fail)
      go_wp2_with fail
      exact bodyPost_ret (v := .tuple #[.int .i64 0, .bool (k == 0)]) (by simp [results, Tryz.results53, go_sem]) rfl ⟨rfl, by rw [← hq] at *; exact YtjfcdfjegjplhaaGreat.Spn.bdrew HB.out _⟩
  · rw [show stZ M m = (0, false) by unfold stZ; rw [if_neg h1, if_neg h2, if_neg h3, if_neg h4, if_neg h5]]
    obtain ⟨op, a, b, c, k, s⟩ := m
    dsimp only at *
    have q9 : (op == 9) = false := by simp; omega
    have q17 : (op == 17) = false := by simp; omega
    have q18 : (op == 18) = false := by simp; omega
    have q20 : (op == 20) = false := by simp; omega
    have q23 : (op == 23) = false := by simp; omega
    have q19 : (op == 19) = false := by simp; omega
    have q21 : (op == 21) = false := by simp; omega
    have q22 : (op == 22) = false := by simp; omega
    have q10 : (op == 10) = false := by simp; omega
    have q15 : (op == 15) = false := by simp; omega
    have q12 : (op == 12) = false := by simp; omega
    have q32 : (op == 32) = false := by simp; omega
    have q31 : (op == 31) = false := by simp; omega
    clear hin HI h1 h2 h3 h4 h5 HE
    go_enter Tryz.func53, Tryz.ntmps53
    go_wp2_with fail
    exact bodyPost_ret (v := .tuple #[.int .i64 0, .bool false]) (by simp [results, Tryz.results53, go_sem]) rfl ⟨rfl, HB.out⟩

end Go.Proofs.Fld

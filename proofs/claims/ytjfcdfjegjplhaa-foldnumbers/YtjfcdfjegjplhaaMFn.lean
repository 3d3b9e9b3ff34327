/-
  Operators over numbers, plainly.
-/
import Derived.Test.YtjfcdfjegjplhaaMFA
import Derived.Test.YtjfcdfjegjplhaaMSpRefuP
namespace Go.Proofs.Fld
open Go.RowKit Go.IntWalk Ytjfcdfjegjplhaa.Knd
open Cde (In i0 agL arN okI okT mcB csB rgN rgs coL coZ)
open Vfy (vfE vf_parts w32 sgF sgS sgI asS myE ahI)
set_option linter.unusedVariables false

/-- The instruction over the first three registers. -/
def opI (op k s : Int) : In := ⟨op, 0, if 1 < ar op then 1 else 0, if 2 < ar op then 2 else 0, k, s⟩
def numL (op k s a b c : Int) : List In := [nuI a, nuI b, nuI c, opI op k s]
/-- The numbers that it reads. -/
def numX (op a b c : Int) : List Int := [a, b, c].take (ar op).toNat

theorem ar3 {op : Int} (h1 : 1 ≤ ar op) : ar op = 1 ∨ ar op = 2 ∨ ar op = 3 := by
  have : Ytjfcdfjegjplhaa.Spn.ar op ≤ 3 := Ytjfcdfjegjplhaa.Spn.ar_le op
  have e : ar op = Ytjfcdfjegjplhaa.Spn.ar op := rfl
  omega
theorem ar_not {op : Int} (h1 : 1 ≤ ar op) : op ≠ 1 ∧ op ≠ 2 ∧ op ≠ 3 := by
  refine ⟨fun e => ?_, fun e => ?_, fun e => ?_⟩ <;> (rw [e] at h1; exact absurd h1 (by decide))
theorem op_ag {op k s : Int} (h1 : 1 ≤ ar op) : agL (opI op k s) = [0, 1, 2].take (ar op).toNat := by
  rcases ar3 h1 with e | e | e
  · rw [ag1 (n := opI op k s) e, e]; rfl
  · rw [ag2 (n := opI op k s) e, e]; simp [opI, e]
  · rw [ag3 (n := opI op k s) e, e]; simp [opI, e]
theorem sg_nu (f d : Int) (S : Vfy.Sps) (x : Int) : sgI f d S (nuI x) = ((x, x), 0) := by simp [sgI, nuI]
theorem sg_op {f d op k s a b c : Int} (h1 : 1 ≤ ar op) : (sgI f d [(a, a), (b, b), (c, c)] (opI op k s)).2 = (vl op k s (numX op a b c)).2 := by
  obtain ⟨n1, n2, n3⟩ := ar_not h1
  rw [sgI, if_neg (show ¬ (opI op k s).op = 1 from n1), if_neg (show ¬ (opI op k s).op = 2 from n2), if_neg (show ¬ (opI op k s).op = 3 from n3)]
  have e : asS [(a, a), (b, b), (c, c)] (opI op k s) = Ytjfcdfjegjplhaa.Spn.ptsOf (([(a, a), (b, b), (c, c)] : List (Int × Int)).take (ar op).toNat) := by
    unfold asS
    rw [op_ag h1]
    rcases ar3 h1 with e | e | e <;> rw [e] <;> rfl
  have e2 : numX op a b c = Ytjfcdfjegjplhaa.Spn.fsts (([(a, a), (b, b), (c, c)] : List (Int × Int)).take (ar op).toNat) := by
    unfold numX
    rcases ar3 h1 with e | e | e <;> rw [e] <;> rfl
  rw [e, e2]
  exact (Ytjfcdfjegjplhaa.Spn.refu_all op k s _).1
theorem num_sg {f d op k s a b c : Int} : sgF f d (numL op k s a b c) = sgS f d (0, [(a, a), (b, b), (c, c)]) (opI op k s) := by
  simp only [numL, sgF, List.foldl_cons, List.foldl_nil]
  simp only [sgS, sg_nu, if_true, List.nil_append, List.cons_append]
theorem num_my {op k s a b c : Int} (h1 : 1 ≤ ar op) (hm : mcB 1 3 (numL op k s a b c) 3 = true) : myE 1 3 (numL op k s a b c) 3 = 0 := by
  rw [Vfy.my_zero]
  refine ⟨hm, ?_⟩
  have n3 := (ar_not h1).2.2
  simp [numL, ahI, nuI, opI, n3]
theorem num_co (op k s a b c : Int) : coL (numL op k s a b c) ≤ 9 := by
  have := (Cde.coZ_le op).2
  have e : coL (numL op k s a b c) = 3 + coZ op := by
    simp [coL, numL, nuI, opI, coZ]
  omega
theorem num_bad {op k s a b c : Int} (hm : ¬ mcB 1 3 (numL op k s a b c) 3 = true) : vfE 1 3 (numL op k s a b c) 3 = 15 := by
  have e : myE 1 3 (numL op k s a b c) 3 = 15 := by unfold myE; rw [if_neg hm]
  unfold vfE
  rw [e, if_pos (by decide)]
theorem num_err {op k s a b c e : Int} (h1 : 1 ≤ ar op) (hm : mcB 1 3 (numL op k s a b c) 3 = true) (he : (vl op k s (numX op a b c)).2 = e) (h0 : e ≠ 0) : vfE 1 3 (numL op k s a b c) 3 = e := by
  have hs : (sgF 1 3 (numL op k s a b c)).1 = e := by
    rw [num_sg, sgS, if_pos rfl, if_neg (by rw [sg_op h1, he]; exact h0)]
    exact (sg_op h1).trans he
  unfold vfE
  rw [num_my h1 hm, if_neg (by simp), hs, if_pos h0]
theorem num_zero {op k s a b c : Int} (h1 : 1 ≤ ar op) (hm : mcB 1 3 (numL op k s a b c) 3 = true) (he : (vl op k s (numX op a b c)).2 = 0) : vfE 1 3 (numL op k s a b c) 3 = 0 := by
  rw [Vfy.vf_zero]
  refine ⟨num_my h1 hm, ?_, by have := num_co op k s a b c; omega⟩
  rw [num_sg, sgS, if_pos rfl, if_pos (by rw [sg_op h1, he])]

theorem th_nu (x : Int) (T : List Int) : thI (nuI x) T = nuI x := by
  have h : ¬ 0 < ar (nuI x).op := by show ¬ 0 < ar 1; decide
  unfold thI
  rw [if_neg h, if_neg (by omega), if_neg (by omega)]
theorem kn_nu (f d : Int) (M : List In) (x : Int) : (knZ f d M (nuI x)).2 = false := by
  have e1 : (bnZ f d (nuI x)).2 = false := by simp [bnZ, nuI]
  have e2 : (rkZ M (nuI x)).2 = false := rk_none (by show ¬ 1 ≤ ar 1; decide)
  have e3 : (stZ M (nuI x)).2 = false := by simp [stZ, nuI]
  unfold knZ
  rw [e1, if_neg (by decide), e2, if_neg (by decide), e3]
theorem fs_nu (f d : Int) (M : List In) (T : List Int) (x : Int) : foS f d (M, T) (nuI x) = (M ++ [nuI x], T ++ [(M.length : Int)]) := by
  have e : lnZ M (nuI x) = [] := by simp [lnZ, nuI]
  simp only [foS, th_nu, nwI, nwT, kn_nu, if_neg (show ¬ false = true by decide), e, fsZ]
theorem fs_op {f d op k s a b c v : Int} (h1 : 1 ≤ ar op) (hv : vl op k s (numX op a b c) = (v, 0)) : foS f d ([nuI a, nuI b, nuI c], [0, 1, 2]) (opI op k s) = ([nuI a, nuI b, nuI c, nuI v], [0, 1, 2, 3]) := by
  obtain ⟨n1, n2, n3⟩ := ar_not h1
  have et : thI (opI op k s) [0, 1, 2] = opI op k s := by
    rcases ar3 h1 with e | e | e <;> simp [thI, opI, exR, e]
  have e1 : (bnZ f d (opI op k s)).2 = false := by simp [bnZ, opI, n2]
  have ea : alN [nuI a, nuI b, nuI c] (opI op k s) = true := by
    unfold alN
    rw [op_ag h1]
    rcases ar3 h1 with e | e | e <;> rw [e] <;> rfl
  have ek : kaL [nuI a, nuI b, nuI c] (opI op k s) = numX op a b c := by
    unfold kaL numX
    rw [op_ag h1]
    rcases ar3 h1 with e | e | e <;> rw [e] <;> rfl
  have e2 : rkZ [nuI a, nuI b, nuI c] (opI op k s) = (v, true) := by
    rw [rkZ, if_pos ea, ek]
    show ((vl op k s (numX op a b c)).1, (vl op k s (numX op a b c)).2 == 0) = _
    rw [hv]; rfl
  have e3 : knZ f d [nuI a, nuI b, nuI c] (opI op k s) = (v, true) := by
    unfold knZ
    rw [e1, if_neg (by decide), e2, if_pos rfl]
  simp only [foS, et, nwI, nwT, e3, if_true, List.cons_append, List.nil_append]
  rfl
theorem num_fo {f d op k s a b c v : Int} (h1 : 1 ≤ ar op) (hv : vl op k s (numX op a b c) = (v, 0)) : foF f d (numL op k s a b c) = ([nuI a, nuI b, nuI c, nuI v], [0, 1, 2, 3]) := by
  have e : foF f d (numL op k s a b c) = foS f d (foS f d (foS f d (foS f d ([], []) (nuI a)) (nuI b)) (nuI c)) (opI op k s) := rfl
  rw [e, fs_nu, fs_nu, fs_nu]
  exact fs_op h1 hv
theorem num_vf {a b c v : Int} (ha : w32 a) (hb : w32 b) (hc : w32 c) (hv : w32 v) : vfE 1 3 [nuI a, nuI b, nuI c, nuI v] 3 = 0 := by
  have ho : okT [nuI a, nuI b, nuI c, nuI v] 4 = true := by
    simp only [okT, List.all_eq_true, List.mem_range]
    intro i hi
    rcases (show i = 0 ∨ i = 1 ∨ i = 2 ∨ i = 3 by omega) with rfl | rfl | rfl | rfl
    · exact nu_ok ha _
    · exact nu_ok hb _
    · exact nu_ok hc _
    · exact nu_ok hv _
  have hm : mcB 1 3 [nuI a, nuI b, nuI c, nuI v] 3 = true := by
    unfold mcB
    rw [show [nuI a, nuI b, nuI c, nuI v].length = 4 from rfl, ho]
    decide
  rw [Vfy.vf_zero, Vfy.my_zero]
  refine ⟨⟨hm, rfl⟩, ?_, ?_⟩
  · simp only [sgF, List.foldl_cons, List.foldl_nil, sgS, sg_nu, if_true]
  · show (4 : Int) ≤ 200
    decide
/-- Where the operator answers, the code is folded into its number. -/
theorem num_ok {op k s a b c v : Int} (h1 : 1 ≤ ar op) (hm : mcB 1 3 (numL op k s a b c) 3 = true) (ha : w32 a) (hb : w32 b) (hc : w32 c) (hv : vl op k s (numX op a b c) = (v, 0)) :
    vfE 1 3 (numL op k s a b c) 3 = 0 ∧ fdL 1 3 (numL op k s a b c) 3 = [nuI a, nuI b, nuI c, nuI v] ∧ fdO 1 3 (numL op k s a b c) 3 = 3 := by
  have hf := num_fo (f := 1) (d := 3) h1 hv
  have ho : foO 1 3 (numL op k s a b c) 3 = 3 := by rw [foO, hf]; rfl
  have h0 : vfE 1 3 (foF 1 3 (numL op k s a b c)).1 (foO 1 3 (numL op k s a b c) 3) = 0 := by rw [ho, hf]; exact num_vf ha hb hc (Vfy.val_w32 hv)
  refine ⟨num_zero h1 hm (by rw [hv]), ?_, ?_⟩
  · rw [fdL, if_pos h0, hf]
  · rw [fdO, if_pos h0, ho]

end Go.Proofs.Fld

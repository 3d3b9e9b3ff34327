/-
  The code that ReduceDivides asks of, plainly: it is taken.
-/
import Derived.Test.YtijbmdmeiancgaaGreatMRB
import Derived.Test.YtijbmdmeiancgaaGreatMFA
namespace Go.Proofs.Rdc
open Go.RowKit Go.IntWalk YtijbmdmeiancgaaGreat.Knd
open Cde (In i0 okI okT mcB coL coZ csB)
open Vfy (ahI vfE vf_parts w32 sgF sgS sgI asS myE)
open YtijbmdmeiancgaaGreat (Wd wdA Fits inpV)
open Cde (vlI)
open Fld (Rv gv av1 av2 vlI_op two_ex one_ex)
set_option linter.unusedVariables false

def dvP : List In := [⟨3, 0, 0, 0, 15, 0⟩, ⟨32, 0, 0, 0, 65536, 0⟩, ⟨3, 0, 0, 0, 14, 0⟩, ⟨1, 0, 0, 0, 32768, 0⟩, ⟨8, 2, 3, 0, 0, 0⟩, ⟨8, 1, 4, 0, 0, 0⟩]
def dvC (op d : Int) : List In := dvP ++ [⟨1, 0, 0, 0, d, 0⟩] ++ [⟨op, 5, 6, 0, 0, 0⟩]
theorem dvp_sg : sgF 1 16 dvP = (0, [(-32768, 32767), (-2147483648, 2147418112), (-32768, 32767), (32768, 32768), (0, 65535), (-2147483648, 2147483647)]) := by decide +kernel
theorem dv_val {x d : Int} (hx : w32 x) (hd : w32 d) (h0 : d ≠ 0) (h1 : d ≠ -1) : YtijbmdmeiancgaaGreat.Spn.valZ 11 0 0 [x, d] = (x.tdiv d, 0) ∧ w32 (x.tdiv d) := by
  have hw : w32 (x.tdiv d) := by
    obtain ⟨x1, x2⟩ := hx
    by_cases hp : 2 ≤ d
    · have := td_le ⟨x1, x2⟩ hp
      exact ⟨by omega, by omega⟩
    · by_cases h2 : d = 1
      · subst h2; rw [Int.tdiv_one]; exact ⟨x1, x2⟩
      · obtain ⟨e, he⟩ : ∃ e, d = -e := ⟨-d, by omega⟩
        subst he
        rw [Int.tdiv_neg]
        have := td_le (x := x) ⟨x1, x2⟩ (show 2 ≤ e by omega)
        exact ⟨by omega, by omega⟩
  refine ⟨?_, hw⟩
  have hm : YtijbmdmeiancgaaGreat.Spn.mayB 11 0 0 [x, d] = true := by
    have a1 : YtijbmdmeiancgaaGreat.Spn.wd x = true := YtijbmdmeiancgaaGreat.Spn.wd_iff.2 hx
    have a2 : YtijbmdmeiancgaaGreat.Spn.wd d = true := YtijbmdmeiancgaaGreat.Spn.wd_iff.2 hd
    have a3 : YtijbmdmeiancgaaGreat.Spn.ar 11 = 2 := by decide
    have a4 : YtijbmdmeiancgaaGreat.Spn.cons 11 0 0 = true := by decide
    simp [YtijbmdmeiancgaaGreat.Spn.mayB, a1, a2, a3, a4]
  have he : YtijbmdmeiancgaaGreat.Spn.ex 11 0 0 x d 0 = (x.tdiv d, 0) := by
    show (if d = 0 then ((0 : Int), (12 : Int)) else (x.tdiv d, 0)) = _
    rw [if_neg h0]
  unfold YtijbmdmeiancgaaGreat.Spn.valZ
  rw [if_pos hm]
  simp only [List.getD_cons_zero, List.getD_cons_succ, List.getD_nil, he]
  rw [if_pos trivial, if_pos (YtijbmdmeiancgaaGreat.Spn.wd_iff.2 hw)]
theorem dv_of {op d : Int} (hop : op = 11 ∨ op = 12) (hd : w32 d) (h0 : d ≠ 0) (h1 : d ≠ -1) : (YtijbmdmeiancgaaGreat.Spn.ofZ op 0 0 [(-2147483648, 2147483647), (d, d)]).2 = 0 := by
  have hm : YtijbmdmeiancgaaGreat.Spn.smayB op 0 0 [(-2147483648, 2147483647), (d, d)] = true := by
    have a1 : YtijbmdmeiancgaaGreat.Spn.whP (-2147483648, 2147483647) = true := by decide
    have a2 : YtijbmdmeiancgaaGreat.Spn.whP (d, d) = true := YtijbmdmeiancgaaGreat.Spn.whB_iff.2 ⟨Int.le_refl _, hd.1, hd.2, hd.1, hd.2⟩
    rcases hop with rfl | rfl
    · have a3 : YtijbmdmeiancgaaGreat.Spn.ar 11 = 2 := by decide
      have a4 : YtijbmdmeiancgaaGreat.Spn.cons 11 0 0 = true := by decide
      simp [YtijbmdmeiancgaaGreat.Spn.smayB, a1, a2, a3, a4]
    · have a3 : YtijbmdmeiancgaaGreat.Spn.ar 12 = 2 := by decide
      have a4 : YtijbmdmeiancgaaGreat.Spn.cons 12 0 0 = true := by decide
      simp [YtijbmdmeiancgaaGreat.Spn.smayB, a1, a2, a3, a4]
  have hh : YtijbmdmeiancgaaGreat.Spn.hasB d d 0 = false := by
    cases h : YtijbmdmeiancgaaGreat.Spn.hasB d d 0
    · rfl
    · have := YtijbmdmeiancgaaGreat.Spn.hasB_iff.1 h
      omega
  have hf : ∀ Z : (Int × Int) × Int, Z.2 = 0 → YtijbmdmeiancgaaGreat.Spn.whB Z.1.1 Z.1.2 = true → (YtijbmdmeiancgaaGreat.Spn.finZ Z).2 = 0 := by
    intro Z z1 z2
    unfold YtijbmdmeiancgaaGreat.Spn.finZ
    rw [if_neg (by simp [z1]), if_pos z2]
  obtain ⟨d1, d2⟩ := hd
  unfold YtijbmdmeiancgaaGreat.Spn.ofZ
  rw [if_pos hm]
  apply hf
  all_goals
    rcases hop with rfl | rfl
    · obtain ⟨e1, e2⟩ := dv_val (x := -2147483648) (d := d) ⟨by omega, by omega⟩ ⟨d1, d2⟩ h0 h1
      obtain ⟨e3, e4⟩ := dv_val (x := 2147483647) (d := d) ⟨by omega, by omega⟩ ⟨d1, d2⟩ h0 h1
      obtain ⟨f1, f2⟩ := e2
      obtain ⟨f3, f4⟩ := e4
      generalize Int.tdiv (-2147483648) d = A at *
      generalize Int.tdiv 2147483647 d = B at *
      simp [YtijbmdmeiancgaaGreat.Spn.reckZ, YtijbmdmeiancgaaGreat.Spn.divZ, hh, YtijbmdmeiancgaaGreat.Spn.cornZ, YtijbmdmeiancgaaGreat.Spn.cv, YtijbmdmeiancgaaGreat.Spn.pk, YtijbmdmeiancgaaGreat.Spn.cLo, YtijbmdmeiancgaaGreat.Spn.cHi, e1, e3, YtijbmdmeiancgaaGreat.Spn.whB_iff] <;> omega
    · simp [YtijbmdmeiancgaaGreat.Spn.reckZ, YtijbmdmeiancgaaGreat.Spn.divZ, hh, YtijbmdmeiancgaaGreat.Spn.leftZ, YtijbmdmeiancgaaGreat.Spn.whB_iff] <;> omega
theorem dvc_taken {op d : Int} (hop : op = 11 ∨ op = 12) (hd : w32 d) (h0 : d ≠ 0) (h1 : d ≠ -1) : vfE 1 16 (dvC op d) 7 = 0 := by
  rw [Vfy.vf_zero]
  refine ⟨?_, ?_, ?_⟩
  · rw [Vfy.my_zero]
    have hw : YtijbmdmeiancgaaGreat.Spn.wd d = true := YtijbmdmeiancgaaGreat.Spn.wd_iff.2 hd
    constructor
    · rcases hop with rfl | rfl
      · simp only [mcB, dvC, dvP, List.cons_append, List.nil_append, List.length_cons, List.length_nil, okT, List.range, List.range.loop, List.all_cons, List.all_nil, List.getD_cons_zero, List.getD_cons_succ]
        have e : okI ⟨1, 0, 0, 0, d, 0⟩ 6 = true := by simp [okI, Cde.rgs, Cde.rgB, csB, YtijbmdmeiancgaaGreat.Spn.ar, hw]
        rw [e]
        decide +kernel
      · simp only [mcB, dvC, dvP, List.cons_append, List.nil_append, List.length_cons, List.length_nil, okT, List.range, List.range.loop, List.all_cons, List.all_nil, List.getD_cons_zero, List.getD_cons_succ]
        have e : okI ⟨1, 0, 0, 0, d, 0⟩ 6 = true := by simp [okI, Cde.rgs, Cde.rgB, csB, YtijbmdmeiancgaaGreat.Spn.ar, hw]
        rw [e]
        decide +kernel
    · have e : ∀ o : Int, o = 11 ∨ o = 12 → (dvC o d).any (ahI 1 16) = false := by
        intro o ho
        rcases ho with rfl | rfl <;> simp [dvC, dvP, ahI] <;> decide
      exact e op hop
  · have hn : op ≠ 1 ∧ op ≠ 2 ∧ op ≠ 3 := by rcases hop with rfl | rfl <;> decide
    have ha : Fld.ar op = 2 := by rcases hop with rfl | rfl <;> decide
    rw [dvC, Vfy.sgF_snoc, Vfy.sgF_snoc, dvp_sg]
    have e1 : sgS 1 16 (0, [(-32768, 32767), (-2147483648, 2147418112), (-32768, 32767), (32768, 32768), (0, 65535), (-2147483648, 2147483647)]) ⟨1, 0, 0, 0, d, 0⟩ = (0, [(-32768, 32767), (-2147483648, 2147418112), (-32768, 32767), (32768, 32768), (0, 65535), (-2147483648, 2147483647), (d, d)]) := by simp [sgS, sgI]
    rw [e1]
    have e2 : (sgI 1 16 [(-32768, 32767), (-2147483648, 2147418112), (-32768, 32767), (32768, 32768), (0, 65535), (-2147483648, 2147483647), (d, d)] ⟨op, 5, 6, 0, 0, 0⟩).2 = 0 := by
      unfold sgI asS
      rw [if_neg hn.1, if_neg hn.2.1, if_neg hn.2.2, Fld.ag2 (n := ⟨op, 5, 6, 0, 0, 0⟩) ha]
      exact dv_of hop hd h0 h1
    rw [sgS, if_pos rfl, if_pos e2]
  · have e : coL (dvC op d) = 7 + coZ op := by simp [coL, dvC, dvP, coZ]
    have := (Cde.coZ_le op).2
    omega
/-- What it answers: the number that stands in the two samples, divided. -/
theorem dvc_val {op d x : Int} {v : Wd} {V : List Int} (hop : op = 11 ∨ op = 12) (h : Rv 1 16 v (dvC op d) V) (h0 : d ≠ 0) (hp : v.ps.getD 15 0 = x / 65536) (hq : v.ps.getD 14 0 = x % 65536 - 32768) : V.getD 7 0 = if op = 11 then x.tdiv d else x.tmod d := by
  have r0 := h.val 0 (by simp [dvC, dvP])
  have r1 := h.val 1 (by simp [dvC, dvP])
  have r2 := h.val 2 (by simp [dvC, dvP])
  have r3 := h.val 3 (by simp [dvC, dvP])
  have r4 := h.val 4 (by simp [dvC, dvP])
  have r5 := h.val 5 (by simp [dvC, dvP])
  have r6 := h.val 6 (by simp [dvC, dvP])
  have r7 := h.val 7 (by simp [dvC, dvP])
  change vlI 1 16 v V ⟨3, 0, 0, 0, 15, 0⟩ = _ at r0
  change vlI 1 16 v V ⟨32, 0, 0, 0, 65536, 0⟩ = _ at r1
  change vlI 1 16 v V ⟨3, 0, 0, 0, 14, 0⟩ = _ at r2
  change vlI 1 16 v V ⟨1, 0, 0, 0, 32768, 0⟩ = _ at r3
  change vlI 1 16 v V ⟨8, 2, 3, 0, 0, 0⟩ = _ at r4
  change vlI 1 16 v V ⟨8, 1, 4, 0, 0, 0⟩ = _ at r5
  change vlI 1 16 v V ⟨1, 0, 0, 0, d, 0⟩ = _ at r6
  change vlI 1 16 v V ⟨op, 5, 6, 0, 0, 0⟩ = _ at r7
  have q0 : v.ps.getD 15 0 = V.getD 0 0 := congrArg Prod.fst r0
  have q2 : v.ps.getD 14 0 = V.getD 2 0 := congrArg Prod.fst r2
  have q3 : (32768 : Int) = V.getD 3 0 := congrArg Prod.fst r3
  have q6 : d = V.getD 6 0 := congrArg Prod.fst r6
  rw [vlI_op (by decide), av1 (by decide)] at r1
  have q1 : gv V 0 * 65536 = V.getD 1 0 := congrArg Prod.fst (one_ex r1).2
  rw [vlI_op (by decide), av2 (by decide)] at r4 r5
  have q4 : gv V 2 + gv V 3 = V.getD 4 0 := congrArg Prod.fst (two_ex r4).2.2
  have q5 : gv V 1 + gv V 4 = V.getD 5 0 := congrArg Prod.fst (two_ex r5).2.2
  change V.getD 0 0 * 65536 = _ at q1
  change V.getD 2 0 + V.getD 3 0 = _ at q4
  change V.getD 1 0 + V.getD 4 0 = _ at q5
  have hx : V.getD 5 0 = x := by
    have := Int.mul_ediv_add_emod x 65536
    omega
  rcases hop with rfl | rfl
  · rw [vlI_op (by decide), av2 (by decide)] at r7
    have q7 : (if gv V 6 = 0 then ((0 : Int), (12 : Int)) else ((gv V 5).tdiv (gv V 6), 0)) = (V.getD 7 0, 0) := (two_ex r7).2.2
    change (if V.getD 6 0 = 0 then ((0 : Int), (12 : Int)) else ((V.getD 5 0).tdiv (V.getD 6 0), 0)) = _ at q7
    rw [← q6, hx, if_neg h0] at q7
    rw [if_pos rfl]
    exact (congrArg Prod.fst q7).symm
  · rw [vlI_op (by decide), av2 (by decide)] at r7
    have q7 : (if gv V 6 = 0 then ((0 : Int), (12 : Int)) else ((gv V 5).tmod (gv V 6), 0)) = (V.getD 7 0, 0) := (two_ex r7).2.2
    change (if V.getD 6 0 = 0 then ((0 : Int), (12 : Int)) else ((V.getD 5 0).tmod (V.getD 6 0), 0)) = _ at q7
    rw [← q6, hx, if_neg h0] at q7
    rw [if_neg (by decide)]
    exact (congrArg Prod.fst q7).symm

end Go.Proofs.Rdc

/-
  The code that ReduceSamples asks of, plainly: its reduced code is taken, with no division, product or mask of two registers.
-/
namespace Go.Proofs.Rdc
open Go.RowKit Go.IntWalk YtijbmdmeiancgaaGreat.Knd
open Cde (In i0 okI okT mcB coL coZ csB vlI vaZ)
open Vfy (Sps ahI vfE vfS vf_parts w32 sgF sgS sgI asS myE)
open YtijbmdmeiancgaaGreat (Wd wdA Fits inpV)
open Fld (Rv gv rg thI exR av1 av2 vlI_op two_ex one_ex)
set_option linter.unusedVariables false

theorem val1 {op k s x y : Int} (ha : YtijbmdmeiancgaaGreat.Spn.ar op = 1) (hcs : YtijbmdmeiancgaaGreat.Spn.cons op k s = true) (hx : w32 x) (he : YtijbmdmeiancgaaGreat.Spn.ex op k s x 0 0 = (y, 0)) (hy : w32 y) : YtijbmdmeiancgaaGreat.Spn.valZ op k s [x] = (y, 0) := by
  have hm : YtijbmdmeiancgaaGreat.Spn.mayB op k s [x] = true := by
    have hw' : YtijbmdmeiancgaaGreat.Spn.wd x = true := YtijbmdmeiancgaaGreat.Spn.wd_iff.2 hx
    simp [YtijbmdmeiancgaaGreat.Spn.mayB, ha, hcs, hw']
  unfold YtijbmdmeiancgaaGreat.Spn.valZ
  rw [if_pos hm]
  simp only [List.getD_cons_zero, List.getD_cons_succ, List.getD_nil, he]
  rw [if_pos trivial, if_pos (YtijbmdmeiancgaaGreat.Spn.wd_iff.2 hy)]
theorem val2 {op x z y : Int} (ha : YtijbmdmeiancgaaGreat.Spn.ar op = 2) (hcs : YtijbmdmeiancgaaGreat.Spn.cons op 0 0 = true) (hx : w32 x) (hz : w32 z) (he : YtijbmdmeiancgaaGreat.Spn.ex op 0 0 x z 0 = (y, 0)) (hy : w32 y) : YtijbmdmeiancgaaGreat.Spn.valZ op 0 0 [x, z] = (y, 0) := by
  have hm : YtijbmdmeiancgaaGreat.Spn.mayB op 0 0 [x, z] = true := by
    have hw' : YtijbmdmeiancgaaGreat.Spn.wd x = true := YtijbmdmeiancgaaGreat.Spn.wd_iff.2 hx
    have hw2 : YtijbmdmeiancgaaGreat.Spn.wd z = true := YtijbmdmeiancgaaGreat.Spn.wd_iff.2 hz
    simp [YtijbmdmeiancgaaGreat.Spn.mayB, ha, hcs, hw', hw2]
  unfold YtijbmdmeiancgaaGreat.Spn.valZ
  rw [if_pos hm]
  simp only [List.getD_cons_zero, List.getD_cons_succ, List.getD_nil, he]
  rw [if_pos trivial, if_pos (YtijbmdmeiancgaaGreat.Spn.wd_iff.2 hy)]
/-- A whole span. -/
def Wh (a b : Int) : Prop := a ≤ b ∧ -2147483648 ≤ a ∧ a ≤ 2147483647 ∧ -2147483648 ≤ b ∧ b ≤ 2147483647
theorem Wh.b {a b : Int} (h : Wh a b) : YtijbmdmeiancgaaGreat.Spn.whB a b = true := YtijbmdmeiancgaaGreat.Spn.whB_iff.2 h
theorem Wh.x {a b : Int} (h : Wh a b) : w32 a := ⟨h.2.1, h.2.2.1⟩
theorem Wh.y {a b : Int} (h : Wh a b) : w32 b := ⟨h.2.2.2.1, h.2.2.2.2⟩
theorem fin_ok {a b : Int} (h : Wh a b) : YtijbmdmeiancgaaGreat.Spn.finZ ((a, b), 0) = ((a, b), 0) := by
  unfold YtijbmdmeiancgaaGreat.Spn.finZ
  rw [if_neg (by simp), if_pos h.b]
theorem smay1 {op k s a b : Int} (ha : YtijbmdmeiancgaaGreat.Spn.ar op = 1) (hcs : YtijbmdmeiancgaaGreat.Spn.cons op k s = true) (h : Wh a b) : YtijbmdmeiancgaaGreat.Spn.smayB op k s [(a, b)] = true := by
  have : YtijbmdmeiancgaaGreat.Spn.whP (a, b) = true := h.b
  simp [YtijbmdmeiancgaaGreat.Spn.smayB, ha, hcs, this]
theorem smay2 {op a b c d : Int} (ha : YtijbmdmeiancgaaGreat.Spn.ar op = 2) (hcs : YtijbmdmeiancgaaGreat.Spn.cons op 0 0 = true) (h : Wh a b) (h2 : Wh c d) : YtijbmdmeiancgaaGreat.Spn.smayB op 0 0 [(a, b), (c, d)] = true := by
  have e1 : YtijbmdmeiancgaaGreat.Spn.whP (a, b) = true := h.b
  have e2 : YtijbmdmeiancgaaGreat.Spn.whP (c, d) = true := h2.b
  simp [YtijbmdmeiancgaaGreat.Spn.smayB, ha, hcs, e1, e2]
/-- Spans of operators of one register that are reckoned from the ends. -/
theorem of_ends1 {op k s a b x y : Int} (ho : op = 29 ∨ op = 30 ∨ op = 33) (hcs : YtijbmdmeiancgaaGreat.Spn.cons op k s = true) (h : Wh a b) (hx : YtijbmdmeiancgaaGreat.Spn.ex op k s a 0 0 = (x, 0)) (hy : YtijbmdmeiancgaaGreat.Spn.ex op k s b 0 0 = (y, 0)) (hxy : Wh x y) : YtijbmdmeiancgaaGreat.Spn.ofZ op k s [(a, b)] = ((x, y), 0) := by
  have ha : YtijbmdmeiancgaaGreat.Spn.ar op = 1 := by rcases ho with rfl | rfl | rfl <;> decide
  unfold YtijbmdmeiancgaaGreat.Spn.ofZ
  rw [if_pos (smay1 ha hcs h)]
  have e : YtijbmdmeiancgaaGreat.Spn.reckZ op k s [(a, b)] = ((x, y), 0) := by
    unfold YtijbmdmeiancgaaGreat.Spn.reckZ
    rw [if_neg (by omega), if_neg (by omega), if_neg (by omega), if_neg (by omega), if_pos (by omega)]
    unfold YtijbmdmeiancgaaGreat.Spn.endsZ YtijbmdmeiancgaaGreat.Spn.fsts YtijbmdmeiancgaaGreat.Spn.snds
    simp only [List.map_cons, List.map_nil, val1 ha hcs h.x hx hxy.x, val1 ha hcs h.y hy hxy.y]
    rfl
  rw [e]
  exact fin_ok hxy
theorem of_shr {k a b : Int} (hk : 0 ≤ k ∧ k ≤ 31) (h : Wh a b) : YtijbmdmeiancgaaGreat.Spn.ofZ 30 k 0 [(a, b)] = ((a / 2 ^ k.toNat, b / 2 ^ k.toNat), 0) ∧ Wh (a / 2 ^ k.toNat) (b / 2 ^ k.toNat) := by
  have h1 : YtijbmdmeiancgaaGreat.Spn.cons 30 k 0 = true := by simp [YtijbmdmeiancgaaGreat.Spn.cons, YtijbmdmeiancgaaGreat.Spn.inB_iff]; exact hk
  have hP := pow_pos' k.toNat
  have hz : ∀ z : Int, w32 z → w32 (z / 2 ^ k.toNat) := by
    intro z hz
    obtain ⟨z1, z2⟩ := hz
    constructor
    · refine (Int.le_ediv_iff_mul_le hP).2 ?_
      have := Int.mul_le_mul_of_nonneg_left (show 1 ≤ (2 : Int) ^ k.toNat by omega) (show (0 : Int) ≤ 2147483648 by omega)
      omega
    · by_cases h0 : 0 ≤ z
      · have := Int.ediv_le_self (a := z) (2 ^ k.toNat) h0
        omega
      · have : z / 2 ^ k.toNat < 0 := Int.ediv_neg_of_neg_of_pos (by omega) hP
        omega
  have hw : Wh (a / 2 ^ k.toNat) (b / 2 ^ k.toNat) := ⟨Int.ediv_le_ediv hP h.1, (hz a h.x).1, (hz a h.x).2, (hz b h.y).1, (hz b h.y).2⟩
  exact ⟨of_ends1 (.inr (.inl rfl)) h1 h (by simp [YtijbmdmeiancgaaGreat.Spn.ex]) (by simp [YtijbmdmeiancgaaGreat.Spn.ex]) hw, hw⟩
theorem of_shl {k a b : Int} (hk : 0 ≤ k ∧ k ≤ 31) (h : Wh a b) (hw : Wh (a * 2 ^ k.toNat) (b * 2 ^ k.toNat)) : YtijbmdmeiancgaaGreat.Spn.ofZ 29 k 0 [(a, b)] = ((a * 2 ^ k.toNat, b * 2 ^ k.toNat), 0) := by
  have h1 : YtijbmdmeiancgaaGreat.Spn.cons 29 k 0 = true := by simp [YtijbmdmeiancgaaGreat.Spn.cons, YtijbmdmeiancgaaGreat.Spn.inB_iff]; exact hk
  exact of_ends1 (.inl rfl) h1 h (by simp [YtijbmdmeiancgaaGreat.Spn.ex]) (by simp [YtijbmdmeiancgaaGreat.Spn.ex]) hw
theorem of_muls {k s a b : Int} (hk : 1 ≤ k ∧ k ≤ 4611686018427387904) (hs : 0 ≤ s ∧ s ≤ 62) (h : Wh a b) (h1 : max a (-a) * k ≤ 4611686018427387904) (h2 : max b (-b) * k ≤ 4611686018427387904) (hw : Wh (a * k / 2 ^ s.toNat) (b * k / 2 ^ s.toNat)) : YtijbmdmeiancgaaGreat.Spn.ofZ 33 k s [(a, b)] = ((a * k / 2 ^ s.toNat, b * k / 2 ^ s.toNat), 0) := by
  have q0 : YtijbmdmeiancgaaGreat.Spn.inB k 1 4611686018427387904 = true := YtijbmdmeiancgaaGreat.Spn.inB_iff.2 hk
  have q2 : YtijbmdmeiancgaaGreat.Spn.inB s 0 62 = true := YtijbmdmeiancgaaGreat.Spn.inB_iff.2 hs
  have q1 : YtijbmdmeiancgaaGreat.Spn.cons 33 k s = true := by simp [YtijbmdmeiancgaaGreat.Spn.cons, q0, q2]
  have he : ∀ x : Int, max x (-x) * k ≤ 4611686018427387904 → YtijbmdmeiancgaaGreat.Spn.ex 33 k s x 0 0 = (x * k / 2 ^ s.toNat, 0) := by
    intro x hx
    have : YtijbmdmeiancgaaGreat.Spn.ex 33 k s x 0 0 = if 4611686018427387904 < max x (-x) * k then (0, 13) else (x * k / 2 ^ s.toNat, 0) := by simp [YtijbmdmeiancgaaGreat.Spn.ex]
    rw [this, if_neg (by omega)]
  exact of_ends1 (.inr (.inr rfl)) q1 h (he a h1) (he b h2) hw
theorem of_max {a b c d : Int} (h : Wh a b) (h2 : Wh c d) : YtijbmdmeiancgaaGreat.Spn.ofZ 25 0 0 [(a, b), (c, d)] = ((max a c, max b d), 0) := by
  have ha : YtijbmdmeiancgaaGreat.Spn.ar 25 = 2 := by decide
  have hcs : YtijbmdmeiancgaaGreat.Spn.cons 25 0 0 = true := by decide
  obtain ⟨p1, p2, p3, p4, p5⟩ := h
  obtain ⟨r1, r2, r3, r4, r5⟩ := h2
  have hw : Wh (max a c) (max b d) := ⟨by omega, by omega, by omega, by omega, by omega⟩
  unfold YtijbmdmeiancgaaGreat.Spn.ofZ
  rw [if_pos (smay2 ha hcs ⟨p1, p2, p3, p4, p5⟩ ⟨r1, r2, r3, r4, r5⟩)]
  have e : YtijbmdmeiancgaaGreat.Spn.reckZ 25 0 0 [(a, b), (c, d)] = ((max a c, max b d), 0) := by
    unfold YtijbmdmeiancgaaGreat.Spn.reckZ
    rw [if_neg (by omega), if_neg (by omega), if_neg (by omega), if_neg (by omega), if_pos (by omega)]
    unfold YtijbmdmeiancgaaGreat.Spn.endsZ YtijbmdmeiancgaaGreat.Spn.fsts YtijbmdmeiancgaaGreat.Spn.snds
    simp only [List.map_cons, List.map_nil, val2 (op := 25) (x := a) (z := c) (y := max a c) ha hcs ⟨p2, p3⟩ ⟨r2, r3⟩ (by simp [YtijbmdmeiancgaaGreat.Spn.ex]) hw.x, val2 (op := 25) (x := b) (z := d) (y := max b d) ha hcs ⟨p4, p5⟩ ⟨r4, r5⟩ (by simp [YtijbmdmeiancgaaGreat.Spn.ex]) hw.y]
    rfl
  rw [e]
  exact fin_ok hw
theorem of_two {op a b c d x y : Int} (ho : op = 8 ∨ op = 9) (h : Wh a b) (h2 : Wh c d) (he : YtijbmdmeiancgaaGreat.Spn.twoZ op a b c d = (x, y)) (hw : Wh x y) : YtijbmdmeiancgaaGreat.Spn.ofZ op 0 0 [(a, b), (c, d)] = ((x, y), 0) := by
  have ha : YtijbmdmeiancgaaGreat.Spn.ar op = 2 := by rcases ho with rfl | rfl <;> decide
  have hcs : YtijbmdmeiancgaaGreat.Spn.cons op 0 0 = true := by rcases ho with rfl | rfl <;> decide
  unfold YtijbmdmeiancgaaGreat.Spn.ofZ
  rw [if_pos (smay2 ha hcs h h2)]
  have e : YtijbmdmeiancgaaGreat.Spn.reckZ op 0 0 [(a, b), (c, d)] = ((x, y), 0) := by
    unfold YtijbmdmeiancgaaGreat.Spn.reckZ
    rw [if_neg (by omega), if_neg (by omega), if_neg (by omega), if_neg (by omega), if_neg (by omega)]
    exact congrArg (·, (0 : Int)) he
  rw [e]
  exact fin_ok hw
theorem of_andk {k a b : Int} (hk : 0 ≤ k ∧ k ≤ 2147483647) (h : Wh a b) : ∃ y, YtijbmdmeiancgaaGreat.Spn.ofZ 31 k 0 [(a, b)] = ((0, y), 0) ∧ 0 ≤ y ∧ y ≤ k := by
  have ha : YtijbmdmeiancgaaGreat.Spn.ar 31 = 1 := by decide
  have h1 : YtijbmdmeiancgaaGreat.Spn.cons 31 k 0 = true := by simp [YtijbmdmeiancgaaGreat.Spn.cons, YtijbmdmeiancgaaGreat.Spn.inB_iff]; exact hk
  obtain ⟨p1, p2, p3, p4, p5⟩ := h
  have hb : ∃ y, YtijbmdmeiancgaaGreat.Spn.bothZ a b k k = (0, y) ∧ 0 ≤ y ∧ y ≤ k := by
    unfold YtijbmdmeiancgaaGreat.Spn.bothZ
    by_cases q : 0 ≤ a
    · rw [if_pos ⟨q, hk.1⟩]; exact ⟨min b k, rfl, by omega, by omega⟩
    · rw [if_neg (by omega), if_neg q, if_pos hk.1]; exact ⟨k, rfl, hk.1, Int.le_refl _⟩
  obtain ⟨y, e, y0, y1⟩ := hb
  refine ⟨y, ?_, y0, y1⟩
  unfold YtijbmdmeiancgaaGreat.Spn.ofZ
  rw [if_pos (smay1 ha h1 ⟨p1, p2, p3, p4, p5⟩)]
  have e' : YtijbmdmeiancgaaGreat.Spn.reckZ 31 k 0 [(a, b)] = ((0, y), 0) := by
    unfold YtijbmdmeiancgaaGreat.Spn.reckZ
    rw [if_neg (by omega), if_pos rfl]
    exact congrArg (·, (0 : Int)) e
  rw [e']
  exact fin_ok ⟨y0, by omega, by omega, by omega, by omega⟩
theorem of_mulk {k a b : Int} (hk : 0 ≤ k ∧ k ≤ 2147483647) (h : Wh a b) (hw : Wh (a * k) (b * k)) : YtijbmdmeiancgaaGreat.Spn.ofZ 32 k 0 [(a, b)] = ((a * k, b * k), 0) := by
  have ha : YtijbmdmeiancgaaGreat.Spn.ar 32 = 1 := by decide
  have h0 : YtijbmdmeiancgaaGreat.Spn.wd k = true := YtijbmdmeiancgaaGreat.Spn.wd_iff.2 ⟨by omega, by omega⟩
  have h1 : YtijbmdmeiancgaaGreat.Spn.cons 32 k 0 = true := by simp [YtijbmdmeiancgaaGreat.Spn.cons, h0]
  have hk' : w32 k := ⟨by omega, by omega⟩
  have m2 : YtijbmdmeiancgaaGreat.Spn.ar 10 = 2 := by decide
  have c2 : YtijbmdmeiancgaaGreat.Spn.cons 10 0 0 = true := by decide
  have e1 : YtijbmdmeiancgaaGreat.Spn.valZ 10 0 0 [a, k] = (a * k, 0) := val2 m2 c2 h.x hk' (by simp [YtijbmdmeiancgaaGreat.Spn.ex]) hw.x
  have e2 : YtijbmdmeiancgaaGreat.Spn.valZ 10 0 0 [b, k] = (b * k, 0) := val2 m2 c2 h.y hk' (by simp [YtijbmdmeiancgaaGreat.Spn.ex]) hw.y
  unfold YtijbmdmeiancgaaGreat.Spn.ofZ
  rw [if_pos (smay1 ha h1 h)]
  have hw' := hw
  obtain ⟨w1, w2, w3, w4, w5⟩ := hw'
  generalize a * k = A at *
  generalize b * k = B at *
  have e' : YtijbmdmeiancgaaGreat.Spn.reckZ 32 k 0 [(a, b)] = ((A, B), 0) := by
    simp [YtijbmdmeiancgaaGreat.Spn.reckZ, YtijbmdmeiancgaaGreat.Spn.cornZ, YtijbmdmeiancgaaGreat.Spn.cv, YtijbmdmeiancgaaGreat.Spn.pk, YtijbmdmeiancgaaGreat.Spn.cLo, YtijbmdmeiancgaaGreat.Spn.cHi, e1, e2]
    omega
  rw [e']
  exact fin_ok hw

/-! ## Spans of a code, one by one -/
theorem sg_step {f dd : Int} {M : List In} {S : Sps} {n : In} {s : Int × Int} (h : sgF f dd M = (0, S)) (hn : sgI f dd S n = (s, 0)) : sgF f dd (M ++ [n]) = (0, S ++ [s]) := by
  rw [Vfy.sgF_snoc, h, sgS, if_pos rfl, hn, if_pos rfl]
theorem sg1 {f dd : Int} {S : Sps} {op r k s : Int} (ha : Fld.ar op = 1) : sgI f dd S ⟨op, r, 0, 0, k, s⟩ = YtijbmdmeiancgaaGreat.Spn.ofZ op k s [S.getD r.toNat (0, 0)] := by
  have hn : op ≠ 1 ∧ op ≠ 2 ∧ op ≠ 3 := by refine ⟨?_, ?_, ?_⟩ <;> (rintro rfl; revert ha; decide)
  unfold sgI asS
  rw [if_neg hn.1, if_neg hn.2.1, if_neg hn.2.2, Fld.ag1 (n := ⟨op, r, 0, 0, k, s⟩) ha]
  rfl
theorem sg2 {f dd : Int} {S : Sps} {op r q : Int} (ha : Fld.ar op = 2) : sgI f dd S ⟨op, r, q, 0, 0, 0⟩ = YtijbmdmeiancgaaGreat.Spn.ofZ op 0 0 [S.getD r.toNat (0, 0), S.getD q.toNat (0, 0)] := by
  have hn : op ≠ 1 ∧ op ≠ 2 ∧ op ≠ 3 := by refine ⟨?_, ?_, ?_⟩ <;> (rintro rfl; revert ha; decide)
  unfold sgI asS
  rw [if_neg hn.1, if_neg hn.2.1, if_neg hn.2.2, Fld.ag2 (n := ⟨op, r, q, 0, 0, 0⟩) ha]
  rfl
theorem sg_pre {f dd : Int} : ∀ (B A : List In) (SA S : Sps), sgF f dd A = (0, SA) → sgF f dd (A ++ B) = (0, S) → ∃ Z, S = SA ++ Z
  | [], A, SA, S, hA, h => by
    rw [List.append_nil, hA] at h
    cases h
    exact ⟨[], by simp⟩
  | n :: B, A, SA, S, hA, h => by
    have e : A ++ n :: B = (A ++ [n]) ++ B := by simp
    rw [e] at h
    by_cases hn : (sgI f dd SA n).2 = 0
    · have h1 := sg_step (n := n) (s := (sgI f dd SA n).1) hA (Prod.ext rfl hn)
      obtain ⟨Z, hZ⟩ := sg_pre B (A ++ [n]) _ S h1 h
      exact ⟨[(sgI f dd SA n).1] ++ Z, by rw [hZ]; simp⟩
    · rw [Vfy.sgF_app, Vfy.sgF_snoc, hA, sgS, if_pos rfl, if_neg hn, Vfy.sgF_stuck _ _ _ _ hn] at h
      exact absurd (congrArg Prod.fst h) hn
theorem pw_15 (n : Int) (h : n ≤ 15) : 1 ≤ pw n ∧ pw n ≤ 32768 := by
  unfold pw
  have h1 : n.toNat ≤ 15 := by omega
  have h2 := pow_le' h1
  have h3 := pow_pos' n.toNat
  have e : (2 : Int) ^ 15 = 32768 := by decide
  omega
/-- The spans' bounds of a sample. -/
theorem lh_bounds {f dd : Int} (hm : May f dd) : Wh (lowZ f dd) (highZ f dd) ∧ -32768 ≤ lowZ f dd ∧ highZ f dd ≤ 65535 := by
  rcases kind3 f dd with ⟨h, rfl⟩ | ⟨h, rfl⟩ | h
  · have := pw_15 (dd - 1) (by have := h.2.2; omega)
    obtain ⟨a, b, -⟩ := zs0 h
    rw [a, b]
    exact ⟨⟨by omega, by omega, by omega, by omega, by omega⟩, by omega, by omega⟩
  · have := pw_15 (dd - 1) (by have := h.2.2; omega)
    obtain ⟨a, b, -⟩ := zs1 h
    rw [a, b]
    exact ⟨⟨by omega, by omega, by omega, by omega, by omega⟩, by omega, by omega⟩
  · exact absurd hm h
theorem fl_mul {x d : Int} (hd : 0 < d) : x - d < x / d * d ∧ x / d * d ≤ x := by
  have h1 := Int.mul_ediv_add_emod x d
  have h2 := Int.emod_nonneg x (show d ≠ 0 by omega)
  have h3 := Int.emod_lt_of_pos x hd
  rw [Int.mul_comm] at h1
  omega
theorem td_mul {x d : Int} (hd : 0 < d) : (0 ≤ x → 0 ≤ x.tdiv d * d ∧ x.tdiv d * d ≤ x) ∧ (x ≤ 0 → x ≤ x.tdiv d * d ∧ x.tdiv d * d ≤ 0) := by
  constructor
  · intro h
    rw [Int.tdiv_eq_ediv_of_nonneg h]
    exact ⟨Int.mul_nonneg (Int.ediv_nonneg h (by omega)) (by omega), (fl_mul hd).2⟩
  · intro h
    have e1 : x.tdiv d = -((-x) / d) := by
      rw [← Int.tdiv_eq_ediv_of_nonneg (by omega), Int.neg_tdiv]
      omega
    have h1 := Int.mul_nonneg (Int.ediv_nonneg (show 0 ≤ -x by omega) (show 0 ≤ d by omega)) (show 0 ≤ d by omega)
    have h2 := (fl_mul (x := -x) hd).2
    rw [e1, Int.neg_mul]
    omega
theorem of_mul_le {q d B : Int} (hd : 2 ≤ d) (h1 : -B ≤ q * d) (h2 : q * d ≤ B) (hB : 0 ≤ B) : -B ≤ q ∧ q ≤ B := by
  constructor
  · by_cases h : 0 ≤ q
    · omega
    · have := Int.mul_le_mul_of_nonneg_left (show (1 : Int) ≤ d by omega) (show 0 ≤ -q by omega)
      rw [Int.mul_one, Int.neg_mul] at this
      omega
  · by_cases h : q ≤ 0
    · omega
    · have := Int.mul_le_mul_of_nonneg_left (show (1 : Int) ≤ d by omega) (show 0 ≤ q by omega)
      omega

end Go.Proofs.Rdc

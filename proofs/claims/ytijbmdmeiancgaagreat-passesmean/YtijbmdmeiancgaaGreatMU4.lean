/-
  reduce's writer: product, mask, shift.
-/
import Derived.Test.YtijbmdmeiancgaaGreatMUB
import Derived.Deep.RegionWith
namespace Go.Proofs.Rdc
open Go.RowKit Go.IntWalk YtijbmdmeiancgaaGreat.Knd
open Cde (In i0 ia kd cd Ins at6 six_of four_of two_of has_new1 okI okT below_drew is6 i6 zA take_snoc)
open Vfy (vfE vfN vfC Sps)
open Fld (In1 rg gv)
set_option linter.unusedVariables false

set_option maxRecDepth 100000 in
set_option maxHeartbeats 4000000 in
theorem uproduct_any (n : In) {W V : World} {b : Nat} {wa : Option Addr} {wn wc : Nat} {sv mv tv : Value} {L M : List In} {T : List Int} (h : Wt W V b (.slice wa wn wc) sv mv tv M T) (hL : Ins W wa wn wc L) (hT : T.length ≤ wn) (hM : M.length ≤ 1000000) (ha : In1 n.a T.length) (hb : In1 n.b T.length) :
    Calls Tryz.prog 162 #[.pointer (some ⟨b, 0, none⟩), .agg (ia n)] V (QpP W V b (.slice wa wn wc) sv tv M T (if (rg L n.b).op = 1 then some [tmI (gv T n.a) (rg L n.b).k] else if (rg L n.a).op = 1 then some [tmI (gv T n.b) (rg L n.a).k] else none)) := by
  have HF0 := hide (h.below (bel1 V (.cells (ia n) 57)))
  have HC0 := hide (HasC.new V 57 (ia n))
  have HB0 := hide (bel1 V (.cells (ia n) 57))
  have HLe := hide h.le
  have HM := hide hM
  have HNB := hide (unumber_any n.b HF0.out hL ⟨hb.1, by have := hb.2; omega⟩)
  have HIa := hide ha
  have HN2 := hide fun (V2 : World) (h2 : Wt W V2 b (.slice wa wn wc) sv mv tv M T) => unumber_any n.a h2 hL ⟨ha.1, by have := ha.2; omega⟩
  have HIb := hide hb
  clear h hL hT hM ha hb
  obtain ⟨p, hp⟩ : ∃ p, rg L n.b = p := ⟨_, rfl⟩
  obtain ⟨q, hq⟩ : ∃ q, rg L n.a = q := ⟨_, rfl⟩
  rw [hp] at HNB ⊢
  rw [hq] at HN2 ⊢
  clear hp hq
  by_cases h1 : p.op = 1
  · have q1 : (p.op == 1) = true := by simpa using h1
    rw [if_pos h1]
    rw [q1] at HNB
    clear h1 q1
    go_enter Tryz.func162, Tryz.ntmps162
    go_wp2_with fail
    refine HNB.out.mono ?_
    rintro e V2 ⟨rfl, hb⟩
    have HF2 := hide (HF0.out.below hb)
    have HC2 := hide (HC0.out.below hb)
    have HB2 := hide (bel HB0.out hb)
    clear hb HNB HN2 HF0 HC0 HB0
    obtain ⟨j, gt, ct, ej, hj, hs, rfl, ct0⟩ := HF2.out.reg HIa.out
    obtain ⟨z, hz⟩ : ∃ z, gv T n.a = z := ⟨_, rfl⟩
    rw [hz] at ct0
    obtain ⟨b0, b1, b2, b3, b4, b5⟩ := six_of HC2.out
    rw [ej] at b1
    have wt := HF2.out.w.cell 3 rfl
    have HU := hide fun (w : World) (hb : Below V2.heap.size V2 w) => utimes_any z p.k (HF2.out.below hb) (by have := HM.out; omega)
    obtain ⟨tl, htl⟩ : ∃ tl, T.length = tl := ⟨_, rfl⟩
    rw [htl] at wt hj hs
    obtain ⟨m, hm⟩ : ∃ m, M.length = m := ⟨_, rfl⟩
    rw [hm] at HU
    have HMl := hide hm
    have i0' : (0 : Int) ≤ j := by omega
    have i1' : (j : Int) < tl := by omega
    have HLe2 := hide (low_of HLe.out HB2.out)
    have HD2 := hide (low_of HF2.out.le (below_drew V2))
    have HZ := hide hz
    clear hz htl hm ej
    go_wp2_with fail
    go_region_with (go_at_call 177; refine (HU.out _ (below_drew V2)).mono ?_; rintro e V9 ⟨rfl, hw, hb⟩)
    all_goals
      have HW9 := hide hw
      have HB9 := hide ((HLe2.out.trans HD2.out).trans hb)
      clear hw hb
      go_wp2_with fail
      exact bodyPost_ret (v := .tuple #[.int .i64 (m : Int), .bool true]) (by simp [results, Tryz.results162, go_sem]) rfl (QpP.one (by rw [HZ.out]) HMl.out HW9.out HB9.out)
  · have q1 : (p.op == 1) = false := by simpa using h1
    rw [if_neg h1]
    rw [q1] at HNB
    clear h1 q1
    by_cases h2 : q.op = 1
    · have q2 : (q.op == 1) = true := by simpa using h2
      rw [if_pos h2]
      rw [q2] at HN2
      clear h2 q2
      go_enter Tryz.func162, Tryz.ntmps162
      go_wp2_with fail
      refine HNB.out.mono ?_
      rintro e V1 ⟨rfl, hb⟩
      have HF1 := hide (HF0.out.below hb)
      have HC1 := hide (HC0.out.below hb)
      have HB1 := hide (bel HB0.out hb)
      clear hb HNB HF0 HC0 HB0
      obtain ⟨b0, b1, b2, b3, b4, b5⟩ := six_of HC1.out
      go_wp2_with fail
      clear b0 b1 b2 b3 b4 b5
      refine (HN2.out _ HF1.out).mono ?_
      rintro e V2 ⟨rfl, hb⟩
      have HF2 := hide (HF1.out.below hb)
      have HC2 := hide (HC1.out.below hb)
      have HB2 := hide (bel HB1.out hb)
      clear hb HN2 HF1 HC1 HB1
      obtain ⟨j, gt, ct, ej, hj, hs, rfl, ct0⟩ := HF2.out.reg HIb.out
      obtain ⟨z, hz⟩ : ∃ z, gv T n.b = z := ⟨_, rfl⟩
      rw [hz] at ct0
      obtain ⟨b0, b1, b2, b3, b4, b5⟩ := six_of HC2.out
      rw [ej] at b2
      have wt := HF2.out.w.cell 3 rfl
      have HU := hide fun (w : World) (hb : Below V2.heap.size V2 w) => utimes_any z q.k (HF2.out.below hb) (by have := HM.out; omega)
      obtain ⟨tl, htl⟩ : ∃ tl, T.length = tl := ⟨_, rfl⟩
      rw [htl] at wt hj hs
      obtain ⟨m, hm⟩ : ∃ m, M.length = m := ⟨_, rfl⟩
      rw [hm] at HU
      have HMl := hide hm
      have i0' : (0 : Int) ≤ j := by omega
      have i1' : (j : Int) < tl := by omega
      have HLe2 := hide (low_of HLe.out HB2.out)
      have HD2 := hide (low_of HF2.out.le (below_drew V2))
      have HZ := hide hz
      clear hz htl hm ej
      go_wp2_with fail
      go_region_with (go_at_call 177; refine (HU.out _ (below_drew V2)).mono ?_; rintro e V9 ⟨rfl, hw, hb⟩)
      all_goals
        have HW9 := hide hw
        have HB9 := hide ((HLe2.out.trans HD2.out).trans hb)
        clear hw hb
        go_wp2_with fail
        exact bodyPost_ret (v := .tuple #[.int .i64 (m : Int), .bool true]) (by simp [results, Tryz.results162, go_sem]) rfl (QpP.one (by rw [HZ.out]) HMl.out HW9.out HB9.out)
    · have q2 : (q.op == 1) = false := by simpa using h2
      rw [if_neg h2]
      rw [q2] at HN2
      clear h2 q2
      go_enter Tryz.func162, Tryz.ntmps162
      go_wp2_with fail
      refine HNB.out.mono ?_
      rintro e V1 ⟨rfl, hb⟩
      have HF1 := hide (HF0.out.below hb)
      have HC1 := hide (HC0.out.below hb)
      have HB1 := hide (bel HB0.out hb)
      clear hb HNB HF0 HC0 HB0
      obtain ⟨b0, b1, b2, b3, b4, b5⟩ := six_of HC1.out
      go_wp2_with fail
      clear b0 b1 b2 b3 b4 b5
      refine (HN2.out _ HF1.out).mono ?_
      rintro e V2 ⟨rfl, hb⟩
      have HF2 := hide (HF1.out.below hb)
      have HC2 := hide (HC1.out.below hb)
      have HB2 := hide (bel HB1.out hb)
      clear hb HN2 HF1 HC1 HB1
      go_wp2_with fail
      exact bodyPost_ret (v := .tuple #[.int .i64 0, .bool false]) (by simp [results, Tryz.results162, go_sem]) rfl (QpP.no rfl HB2.out)

set_option maxRecDepth 100000 in
set_option maxHeartbeats 4000000 in
theorem umask_any (n : In) {W V : World} {b : Nat} {wa : Option Addr} {wn wc : Nat} {sv mv tv : Value} {L M : List In} {T : List Int} (h : Wt W V b (.slice wa wn wc) sv mv tv M T) (hL : Ins W wa wn wc L) (hT : T.length ≤ wn) (hM : M.length ≤ 1000000) (ha : In1 n.a T.length) (hb : In1 n.b T.length) :
    Calls Tryz.prog 163 #[.pointer (some ⟨b, 0, none⟩), .agg (ia n)] V (QpP W V b (.slice wa wn wc) sv tv M T (if (rg L n.b).op = 1 ∧ 0 ≤ (rg L n.b).k then some [⟨31, gv T n.a, 0, 0, (rg L n.b).k, 0⟩] else if (rg L n.a).op = 1 ∧ 0 ≤ (rg L n.a).k then some [⟨31, gv T n.b, 0, 0, (rg L n.a).k, 0⟩] else none)) := by
  have HF0 := hide (h.below (bel1 V (.cells (ia n) 57)))
  have HC0 := hide (HasC.new V 57 (ia n))
  have HB0 := hide (bel1 V (.cells (ia n) 57))
  have HLe := hide h.le
  have HM := hide hM
  have HNB := hide (unumber_any n.b HF0.out hL ⟨hb.1, by have := hb.2; omega⟩)
  have HIa := hide ha
  have HN2 := hide fun (V2 : World) (h2 : Wt W V2 b (.slice wa wn wc) sv mv tv M T) => unumber_any n.a h2 hL ⟨ha.1, by have := ha.2; omega⟩
  have HIb := hide hb
  clear h hL hT hM ha hb
  obtain ⟨p, hp⟩ : ∃ p, rg L n.b = p := ⟨_, rfl⟩
  obtain ⟨q, hq⟩ : ∃ q, rg L n.a = q := ⟨_, rfl⟩
  rw [hp] at HNB ⊢
  rw [hq] at HN2 ⊢
  clear hp hq
  by_cases h1 : p.op = 1 ∧ 0 ≤ p.k
  · have q1 : (p.op == 1) = true := by simpa using h1.1
    have q3 : decide (0 ≤ p.k) = true := by simpa using h1.2
    rw [if_pos h1]
    rw [q1] at HNB
    clear h1 q1
    go_enter Tryz.func163, Tryz.ntmps163
    go_wp2_with fail
    refine HNB.out.mono ?_
    rintro e V2 ⟨rfl, hb⟩
    have HF2 := hide (HF0.out.below hb)
    have HC2 := hide (HC0.out.below hb)
    have HB2 := hide (bel HB0.out hb)
    clear hb HNB HN2 HF0 HC0 HB0
    obtain ⟨j, gt, ct, ej, hj, hs, rfl, ct0⟩ := HF2.out.reg HIa.out
    obtain ⟨z, hz⟩ : ∃ z, gv T n.a = z := ⟨_, rfl⟩
    rw [hz] at ct0
    obtain ⟨b0, b1, b2, b3, b4, b5⟩ := six_of HC2.out
    rw [ej] at b1
    have wt := HF2.out.w.cell 3 rfl
    have HU := hide fun (w : World) (hb : Below V2.heap.size V2 w) => uput_any ⟨31, z, 0, 0, p.k, 0⟩ (HF2.out.below hb) (by have := HM.out; omega)
    obtain ⟨tl, htl⟩ : ∃ tl, T.length = tl := ⟨_, rfl⟩
    rw [htl] at wt hj hs
    obtain ⟨m, hm⟩ : ∃ m, M.length = m := ⟨_, rfl⟩
    rw [hm] at HU
    have HMl := hide hm
    have i0' : (0 : Int) ≤ j := by omega
    have i1' : (j : Int) < tl := by omega
    have HLe2 := hide (low_of HLe.out HB2.out)
    have HD2 := hide (low_of HF2.out.le (below_drew V2))
    have HZ := hide hz
    clear hz htl hm ej
    go_wp2_with fail
    go_region_with (go_at_call 137; refine (HU.out _ (below_drew V2)).mono ?_; rintro e V9 ⟨rfl, hw, hb⟩)
    all_goals
      have HW9 := hide hw
      have HB9 := hide ((HLe2.out.trans HD2.out).trans hb)
      clear hw hb
      go_wp2_with fail
      exact bodyPost_ret (v := .tuple #[.int .i64 (m : Int), .bool true]) (by simp [results, Tryz.results163, go_sem]) rfl (QpP.one (by rw [HZ.out]) HMl.out HW9.out HB9.out)
  · rw [if_neg h1]
    obtain ⟨pb, hpb⟩ : ∃ pb, (p.op == 1) = pb := ⟨_, rfl⟩
    have hno : pb = false ∨ (pb = true ∧ decide (0 ≤ p.k) = false) := by
      cases pb
      · exact .inl rfl
      · exact .inr ⟨rfl, by simp at hpb; simp; omega⟩
    rw [hpb] at HNB
    clear h1 hpb
    by_cases h2 : q.op = 1 ∧ 0 ≤ q.k
    · have q2 : (q.op == 1) = true := by simpa using h2.1
      have q3 : decide (0 ≤ q.k) = true := by simpa using h2.2
      rw [if_pos h2]
      rw [q2] at HN2
      clear h2 q2
      rcases hno with rfl | ⟨rfl, hno⟩
      all_goals
        go_enter Tryz.func163, Tryz.ntmps163
        go_wp2_with fail
        refine HNB.out.mono ?_
        rintro e V1 ⟨rfl, hb⟩
        have HF1 := hide (HF0.out.below hb)
        have HC1 := hide (HC0.out.below hb)
        have HB1 := hide (bel HB0.out hb)
        clear hb HNB HF0 HC0 HB0
        obtain ⟨b0, b1, b2, b3, b4, b5⟩ := six_of HC1.out
        go_wp2_with fail
        clear b0 b1 b2 b3 b4 b5
        refine (HN2.out _ HF1.out).mono ?_
        rintro e V2 ⟨rfl, hb⟩
        have HF2 := hide (HF1.out.below hb)
        have HC2 := hide (HC1.out.below hb)
        have HB2 := hide (bel HB1.out hb)
        clear hb HN2 HF1 HC1 HB1
        obtain ⟨j, gt, ct, ej, hj, hs, rfl, ct0⟩ := HF2.out.reg HIb.out
        obtain ⟨z, hz⟩ : ∃ z, gv T n.b = z := ⟨_, rfl⟩
        rw [hz] at ct0
        obtain ⟨b0, b1, b2, b3, b4, b5⟩ := six_of HC2.out
        rw [ej] at b2
        have wt := HF2.out.w.cell 3 rfl
        have HU := hide fun (w : World) (hb : Below V2.heap.size V2 w) => uput_any ⟨31, z, 0, 0, q.k, 0⟩ (HF2.out.below hb) (by have := HM.out; omega)
        obtain ⟨tl, htl⟩ : ∃ tl, T.length = tl := ⟨_, rfl⟩
        rw [htl] at wt hj hs
        obtain ⟨m, hm⟩ : ∃ m, M.length = m := ⟨_, rfl⟩
        rw [hm] at HU
        have HMl := hide hm
        have i0' : (0 : Int) ≤ j := by omega
        have i1' : (j : Int) < tl := by omega
        have HLe2 := hide (low_of HLe.out HB2.out)
        have HD2 := hide (low_of HF2.out.le (below_drew V2))
        have HZ := hide hz
        clear hz htl hm ej
        go_wp2_with fail
        go_region_with (go_at_call 137; refine (HU.out _ (below_drew V2)).mono ?_; rintro e V9 ⟨rfl, hw, hb⟩)
        all_goals
          have HW9 := hide hw
          have HB9 := hide ((HLe2.out.trans HD2.out).trans hb)
          clear hw hb
          go_wp2_with fail
          exact bodyPost_ret (v := .tuple #[.int .i64 (m : Int), .bool true]) (by simp [results, Tryz.results163, go_sem]) rfl (QpP.one (by rw [HZ.out]) HMl.out HW9.out HB9.out)
    · rw [if_neg h2]
      obtain ⟨qb, hqb⟩ : ∃ qb, (q.op == 1) = qb := ⟨_, rfl⟩
      have hnq : qb = false ∨ (qb = true ∧ decide (0 ≤ q.k) = false) := by
        cases qb
        · exact .inl rfl
        · exact .inr ⟨rfl, by simp at hqb; simp; omega⟩
      rw [hqb] at HN2
      clear h2 hqb
      rcases hno with rfl | ⟨rfl, hno⟩
      all_goals
        rcases hnq with rfl | ⟨rfl, hnq⟩
        all_goals
          go_enter Tryz.func163, Tryz.ntmps163
          go_wp2_with fail
          refine HNB.out.mono ?_
          rintro e V1 ⟨rfl, hb⟩
          have HF1 := hide (HF0.out.below hb)
          have HC1 := hide (HC0.out.below hb)
          have HB1 := hide (bel HB0.out hb)
          clear hb HNB HF0 HC0 HB0
          obtain ⟨b0, b1, b2, b3, b4, b5⟩ := six_of HC1.out
          go_wp2_with fail
          clear b0 b1 b2 b3 b4 b5
          refine (HN2.out _ HF1.out).mono ?_
          rintro e V2 ⟨rfl, hb⟩
          have HF2 := hide (HF1.out.below hb)
          have HC2 := hide (HC1.out.below hb)
          have HB2 := hide (bel HB1.out hb)
          clear hb HN2 HF1 HC1 HB1
          go_wp2_with fail
          exact bodyPost_ret (v := .tuple #[.int .i64 0, .bool false]) (by simp [results, Tryz.results163, go_sem]) rfl (QpP.no rfl HB2.out)

set_option maxRecDepth 100000 in
set_option maxHeartbeats 4000000 in
theorem ushift_any (n : In) (op : Int) {W V : World} {b : Nat} {wa : Option Addr} {wn wc : Nat} {sv mv tv : Value} {L M : List In} {T : List Int} (h : Wt W V b (.slice wa wn wc) sv mv tv M T) (hL : Ins W wa wn wc L) (hT : T.length ≤ wn) (hM : M.length ≤ 1000000) (ha : In1 n.a T.length) (hb : In1 n.b T.length) :
    Calls Tryz.prog 164 #[.pointer (some ⟨b, 0, none⟩), .agg (ia n), .int .i64 op] V (QpP W V b (.slice wa wn wc) sv tv M T (if (rg L n.b).op = 1 then some [⟨op, gv T n.a, 0, 0, (rg L n.b).k, 0⟩] else none)) := by
  have HF0 := hide (h.below (bel1 V (.cells (ia n) 57)))
  have HC0 := hide (HasC.new V 57 (ia n))
  have HB0 := hide (bel1 V (.cells (ia n) 57))
  have HLe := hide h.le
  have HM := hide hM
  have HNB := hide (unumber_any n.b HF0.out hL ⟨hb.1, by have := hb.2; omega⟩)
  have HIa := hide ha
  clear h hL hT hM ha hb
  obtain ⟨p, hp⟩ : ∃ p, rg L n.b = p := ⟨_, rfl⟩
  rw [hp] at HNB ⊢
  clear hp
  by_cases h1 : p.op = 1
  · have q1 : (p.op == 1) = true := by simpa using h1
    rw [if_pos h1]
    rw [q1] at HNB
    clear h1 q1
    go_enter Tryz.func164, Tryz.ntmps164
    go_wp2_with fail
    refine HNB.out.mono ?_
    rintro e V2 ⟨rfl, hb⟩
    have HF2 := hide (HF0.out.below hb)
    have HC2 := hide (HC0.out.below hb)
    have HB2 := hide (bel HB0.out hb)
    clear hb HNB HF0 HC0 HB0
    obtain ⟨j, gt, ct, ej, hj, hs, rfl, ct0⟩ := HF2.out.reg HIa.out
    obtain ⟨z, hz⟩ : ∃ z, gv T n.a = z := ⟨_, rfl⟩
    rw [hz] at ct0
    obtain ⟨b0, b1, b2, b3, b4, b5⟩ := six_of HC2.out
    rw [ej] at b1
    have wt := HF2.out.w.cell 3 rfl
    have HU := hide fun (w : World) (hb : Below V2.heap.size V2 w) => uput_any ⟨op, z, 0, 0, p.k, 0⟩ (HF2.out.below hb) (by have := HM.out; omega)
    obtain ⟨tl, htl⟩ : ∃ tl, T.length = tl := ⟨_, rfl⟩
    rw [htl] at wt hj hs
    obtain ⟨m, hm⟩ : ∃ m, M.length = m := ⟨_, rfl⟩
    rw [hm] at HU
    have HMl := hide hm
    have i0' : (0 : Int) ≤ j := by omega
    have i1' : (j : Int) < tl := by omega
    have HLe2 := hide (low_of HLe.out HB2.out)
    have HD2 := hide (low_of HF2.out.le (below_drew V2))
    have HZ := hide hz
    clear hz htl hm ej
    go_wp2_with fail
    go_region_with (go_at_call 137; refine (HU.out _ (below_drew V2)).mono ?_; rintro e V9 ⟨rfl, hw, hb⟩)
    all_goals
      have HW9 := hide hw
      have HB9 := hide ((HLe2.out.trans HD2.out).trans hb)
      clear hw hb
      go_wp2_with fail
      exact bodyPost_ret (v := .tuple #[.int .i64 (m : Int), .bool true]) (by simp [results, Tryz.results164, go_sem]) rfl (QpP.one (by rw [HZ.out]) HMl.out HW9.out HB9.out)
  · have q1 : (p.op == 1) = false := by simpa using h1
    rw [if_neg h1]
    rw [q1] at HNB
    clear h1 q1
    go_enter Tryz.func164, Tryz.ntmps164
    go_wp2_with fail
    refine HNB.out.mono ?_
    rintro e V2 ⟨rfl, hb⟩
    have HF2 := hide (HF0.out.below hb)
    have HC2 := hide (HC0.out.below hb)
    have HB2 := hide (bel HB0.out hb)
    clear hb HNB HF0 HC0 HB0
    go_wp2_with fail
    exact bodyPost_ret (v := .tuple #[.int .i64 0, .bool false]) (by simp [results, Tryz.results164, go_sem]) rfl (QpP.no rfl HB2.out)

end Go.Proofs.Rdc

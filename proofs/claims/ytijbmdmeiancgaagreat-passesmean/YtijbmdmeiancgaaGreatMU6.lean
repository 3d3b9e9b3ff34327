/-
  reduce's writer: quotient, rest, cheaper.
-/
import Derived.Test.YtijbmdmeiancgaaGreatMU5
import Derived.Test.YtijbmdmeiancgaaGreatMU4
namespace Go.Proofs.Rdc
open Go.RowKit Go.IntWalk YtijbmdmeiancgaaGreat.Knd
open Cde (In i0 ia kd cd Ins at6 six_of four_of two_of has_new1 okI okT below_drew is6 i6 zA take_snoc)
open Vfy (vfE vfN vfC Sps w32)
open Fld (In1 rg gv ar ag2)
set_option linter.unusedVariables false

theorem Wt.at {W V : World} {b gt ct j : Nat} {wv sv mv : Value} {M : List In} {T : List Int} (h : Wt W V b wv sv mv (.slice (some ⟨gt, 0, none⟩) T.length ct) M T) (hj : j < T.length) : V.cell? ⟨gt, j, none⟩ = some (.int .i64 (T.getD j 0)) := by
  obtain ⟨a, c, e, hI⟩ := h.ints
  cases e
  obtain ⟨b', off, e', -, hat⟩ := hI.at (by omega)
  cases e'
  have c0 := hat j hj
  rw [Nat.zero_add] at c0
  exact c0
theorem QpP.mono {W V V0 V' : World} {b : Nat} {wv sv tv : Value} {M : List In} {T : List Int} {o : Option (List In)} {e : Ending} (h : QpP W V b wv sv tv M T o e V') (hb : b ≤ V0.heap.size) (hB : Below V0.heap.size V0 V) : QpP W V0 b wv sv tv M T o e V' := by
  rcases h with ⟨Q, h1, h2, h3, h4⟩ | ⟨h1, h2, h3⟩
  · exact .inl ⟨Q, h1, h2, h3, (low_of hb hB).trans h4⟩
  · exact .inr ⟨h1, h2, bel hB h3⟩

set_option maxRecDepth 100000 in
set_option maxHeartbeats 4000000 in
theorem uquot_any (r d : Int) {W V : World} {b : Nat} {wv : Value} {sa : Option Addr} {sn sc : Nat} {mv tv : Value} {M : List In} {T : List Int} {S : Sps} (h : Wt W V b wv (.slice sa sn sc) mv tv M T) (hS : YtijbmdmeiancgaaGreat.Spn.Spans W sa sn sc S) (hT : T.length ≤ sn) (hM : M.length ≤ 1000000) (hr : In1 r T.length) {lo hi : Int} (hs : S.getD r.toNat (0, 0) = (lo, hi)) (hw : Wh lo hi) :
    Calls Tryz.prog 166 #[.pointer (some ⟨b, 0, none⟩), .int .i64 r, .int .i64 d] V (QpP W V b wv (.slice sa sn sc) tv M T (dvL lo hi (gv T r) d M.length)) := by
  have HP := hide (upower_any d V)
  have HMu := hide (umult_any r d h hS hT hM hr hs hw)
  have HSh := hide fun (n : Nat) (hn : n ≤ 30) => ushifted_any r n hn h hS hT hM hr hs hw
  by_cases hn : 0 < pwZ d
  · obtain ⟨n, n1, n2, n3⟩ : ∃ n : Nat, n ≤ 30 ∧ pwZ d = n ∧ d = 2 ^ n := by
      rcases pw_cases d with e | e
      · omega
      · exact e
    rw [dvL_pow hn n2 n3]
    have HS2 := hide (HSh.out n n1)
    rw [n2] at HP hn
    have q : decide ((0 : Int) < n) = true := by simpa using hn
    have q2 : decide (0 < n) = true := by simp; omega
    generalize shL lo hi (gv T r) n M.length = O at *
    clear h hS hT hM hr hs hw HMu HSh n1 n2 n3
    go_enter Tryz.func166, Tryz.ntmps166
    go_wp2_with fail
    refine HP.out.mono ?_
    rintro e w' ⟨rfl, rfl⟩
    go_wp2_with fail
    refine HS2.out.mono ?_
    rintro e V2 hQ
    have HQ := hide hQ
    rcases hQ with ⟨Q, -, rfl, -, -⟩ | ⟨-, rfl, -⟩
    · obtain ⟨z, hz⟩ : ∃ z : Int, ((M.length + Q.length : Nat) : Int) - 1 = z := ⟨_, rfl⟩
      rw [hz] at HQ ⊢
      clear hz
      go_wp2_with fail
      exact bodyPost_ret (v := .tuple #[.int .i64 z, .bool true]) (by simp [results, Tryz.results166, go_sem]) rfl (HQ.out)
    · go_wp2_with fail
      exact bodyPost_ret (v := .tuple #[.int .i64 0, .bool false]) (by simp [results, Tryz.results166, go_sem]) rfl (HQ.out)
  · rw [dvL_oth hn]
    have q : decide (0 < pwZ d) = false := by simpa using hn
    generalize muL lo hi (gv T r) d M.length = O at *
    generalize pwZ d = p at *
    clear h hS hT hM hr hs hw HSh hn
    go_enter Tryz.func166, Tryz.ntmps166
    go_wp2_with fail
    refine HP.out.mono ?_
    rintro e w' ⟨rfl, rfl⟩
    go_wp2_with fail
    refine HMu.out.mono ?_
    rintro e V2 hQ
    have HQ := hide hQ
    rcases hQ with ⟨Q, -, rfl, -, -⟩ | ⟨-, rfl, -⟩
    · obtain ⟨z, hz⟩ : ∃ z : Int, ((M.length + Q.length : Nat) : Int) - 1 = z := ⟨_, rfl⟩
      rw [hz] at HQ ⊢
      clear hz
      go_wp2_with fail
      exact bodyPost_ret (v := .tuple #[.int .i64 z, .bool true]) (by simp [results, Tryz.results166, go_sem]) rfl (HQ.out)
    · go_wp2_with fail
      exact bodyPost_ret (v := .tuple #[.int .i64 0, .bool false]) (by simp [results, Tryz.results166, go_sem]) rfl (HQ.out)

theorem dvL_len {lo hi x d m : Int} {Q : List In} (h : dvL lo hi x d m = some Q) : Q.length ≤ 4 := by
  unfold dvL at h
  repeat' split at h
  all_goals first | (cases h; simp; done) | cases h
set_option maxRecDepth 100000 in
set_option maxHeartbeats 8000000 in
theorem urest_any (r d : Int) (hd : w32 d) {W V : World} {b : Nat} {wv : Value} {sa : Option Addr} {sn sc : Nat} {mv tv : Value} {M : List In} {T : List Int} {S : Sps} (h : Wt W V b wv (.slice sa sn sc) mv tv M T) (hS : YtijbmdmeiancgaaGreat.Spn.Spans W sa sn sc S) (hT : T.length ≤ sn) (hM : M.length ≤ 1000000) (hr : In1 r T.length) {lo hi : Int} (hs : S.getD r.toNat (0, 0) = (lo, hi)) (hw : Wh lo hi) :
    Calls Tryz.prog 167 #[.pointer (some ⟨b, 0, none⟩), .int .i64 r, .int .i64 d] V (QpP W V b wv (.slice sa sn sc) tv M T (if 0 < pwZ d ∧ 0 ≤ lo then some [⟨31, gv T r, 0, 0, d - 1, 0⟩] else (dvL lo hi (gv T r) d M.length).map fun Q => Q ++ [tmI (M.length + Q.length - 1) d, ⟨9, gv T r, M.length + Q.length, 0, 0, 0⟩])) := by
  have HF0 := hide h
  have HP := hide fun (w : World) => upower_any d w
  have HQu := hide (uquot_any r d h hS hT hM hr hs hw)
  have HM := hide hM
  obtain ⟨w1, w2, w3, w4, w5⟩ := hw
  obtain ⟨d1, d2⟩ := hd
  obtain ⟨j, gt, ct, rfl, hj, htl, rfl, ct0⟩ := h.reg hr
  have HJ := hide hj
  have hxe : gv T (j : Int) = T.getD j 0 := rfl
  rw [hxe] at ct0 HQu ⊢
  obtain ⟨x, hx⟩ : ∃ x, T.getD j 0 = x := ⟨_, rfl⟩
  rw [hx] at ct0 HQu ⊢
  have HX := hide hx
  have hg1 := h.w.cell 1 rfl
  have hg3 := h.w.cell 3 rfl
  obtain ⟨gs, off, rfl, hgs, hsc⟩ := (hS.later h.lo).at (by omega)
  obtain ⟨c0, c1⟩ := hsc j (by omega)
  rw [Int.toNat_natCast] at hs
  rw [hs] at c0 c1
  dsimp only at c0 c1
  have hsn := hS.le
  have hsn2 := hS.max
  unfold maxLen at hsn2
  have i0' : (0 : Int) ≤ j := by omega
  have i1' : (j : Int) < sn := by omega
  obtain ⟨tl, htl'⟩ : ∃ tl, T.length = tl := ⟨_, rfl⟩
  rw [htl'] at hg3 htl
  have HTl := hide htl'
  have i2' : (j : Int) < tl := by omega
  obtain ⟨D, hD⟩ : ∃ D, dvL lo hi x d M.length = D := ⟨_, rfl⟩
  have HDl : Hid (∀ Q, D = some Q → Q.length ≤ 4) := hide fun Q hq => dvL_len (hD.trans hq)
  rw [hD] at HQu ⊢
  clear hx hxe h hS hT hM hr hs hsc hj hD htl'
  obtain ⟨p, hp⟩ : ∃ p, pwZ d = p := ⟨_, rfl⟩
  rw [hp] at HP ⊢
  clear hp
  by_cases h1 : 0 < p ∧ 0 ≤ lo
  · rw [if_pos h1]
    have q1 : decide (0 < p) = true := by simpa using h1.1
    have q2 : decide (0 ≤ lo) = true := by simpa using h1.2
    obtain ⟨m, hm⟩ : ∃ m : Int, (M.length : Int) = m := ⟨_, rfl⟩
    have HU := hide (uput_z ⟨31, x, 0, 0, d - 1, 0⟩ HF0.out hm (by have := HM.out; omega))
    have HMl := hide hm
    have HMn : Hid (((M.length + 1 : Nat) : Int) - 1 = m) := hide (by omega)
    clear h1 hm HQu
    go_enter Tryz.func167, Tryz.ntmps167
    go_wp2_with fail
    refine (HP.out _).mono ?_
    rintro e w' ⟨rfl, rfl⟩
    go_wp2_with fail
    refine HU.out.mono ?_
    rintro e V2 ⟨rfl, hw, hb, -⟩
    go_wp2_with fail
    exact bodyPost_ret (v := .tuple #[.int .i64 m, .bool true]) (by simp [results, Tryz.results167, go_sem]) rfl (QpP.many _ rfl HMn.out hw hb)
  · rw [if_neg h1]
    have hno : decide (0 < p) = false ∨ (decide (0 < p) = true ∧ decide (0 ≤ lo) = false) := by
      by_cases h2 : 0 < p
      · exact .inr ⟨by simpa using h2, by simp; omega⟩
      · exact .inl (by simpa using h2)
    clear h1
    have HTm := hide fun (q : Int) (V2 : World) (M2 : List In) (mv2 : Value) (h2 : Wt W V2 b wv (.slice (some ⟨gs, off, none⟩) sn sc) mv2 (.slice (some ⟨gt, 0, none⟩) T.length ct) M2 T) (hl : M2.length ≤ 2000000) => utimes_any q d h2 hl
    rcases hno with hno | ⟨hno, hno2⟩
    all_goals
      go_enter Tryz.func167, Tryz.ntmps167
      go_wp2_with fail
      refine (HP.out _).mono ?_
      rintro e w' ⟨rfl, rfl⟩
      go_wp2_with fail
      refine HQu.out.mono ?_
      clear HP HQu hg1 hg3 c0 c1 ct0
      rintro e V2 (⟨Q, h1, rfl, ⟨mv2, h3⟩, h4⟩ | ⟨h1, rfl, h3⟩)
      · obtain ⟨z, hz⟩ : ∃ z : Int, ((M.length + Q.length : Nat) : Int) - 1 = z := ⟨_, rfl⟩
        rw [hz]
        have HO := hide h1
        have HZ := hide hz
        obtain ⟨z1, hz1⟩ : ∃ z1 : Int, ((M ++ Q).length : Int) = z1 := ⟨_, rfl⟩
        have HQl : Hid (Q.length ≤ 4) := hide (HDl.out Q h1)
        have HT2 := hide (HTm.out z V2 (M ++ Q) mv2 h3 (by have := HM.out; have := HQl.out; simp; omega))
        rw [hz1] at HT2
        have HZ1 := hide hz1
        have HF2 := hide h3
        have HL2 := hide h4
        have hg0 := h3.w.cell 3 rfl
        rw [HTl.out] at hg0
        clear h1 h3 h4 hz hz1 HTm
        go_wp2_with fail
        refine HT2.out.mono ?_
        rintro e V3 ⟨rfl, ⟨mv3, h3⟩, h4⟩
        obtain ⟨z2, hz2⟩ : ∃ z2 : Int, ((M ++ Q ++ [tmI z d]).length : Int) = z2 := ⟨_, rfl⟩
        have HU := hide (uput_z ⟨9, x, z1, 0, 0, 0⟩ h3 hz2 (by have := HM.out; have := HQl.out; simp; omega))
        have ct1 := h3.at HJ.out
        rw [HX.out] at ct1
        have hg4 := h3.w.cell 3 rfl
        rw [HTl.out] at hg4
        have HL3 := hide (HL2.out.trans h4)
        have HZ2 := hide hz2
        clear h3 h4 hz2 HT2 hg0
        go_wp2_with fail
        refine HU.out.mono ?_
        rintro e V4 ⟨rfl, ⟨mv4, h3⟩, h4, -⟩
        have HF4 := hide h3
        have HL4 := hide (HL3.out.trans h4)
        clear h3 h4 HU ct1 hg4
        go_wp2_with fail
        refine bodyPost_ret (v := .tuple #[.int .i64 z2, .bool true]) (by simp [results, Tryz.results167, go_sem]) rfl (QpP.many (Q ++ [tmI z d, ⟨9, x, z1, 0, 0, 0⟩]) ?_ ?_ ⟨mv4, by simpa using HF4.out⟩ HL4.out)
        · rw [HO.out]
          have e1 := HZ.out
          have e2 := HZ1.out
          have e3 : (M.length : Int) + Q.length - 1 = z := by omega
          have e4 : (M.length : Int) + Q.length = z1 := by rw [List.length_append] at e2; omega
          show some (Q ++ [tmI ((M.length : Int) + Q.length - 1) d, ⟨9, x, (M.length : Int) + Q.length, 0, 0, 0⟩]) = _
          rw [e3, e4]
        · have e2 := HZ2.out
          simp at e2 ⊢
          omega
      · have HO := hide h1
        have HB := hide h3
        clear h1 h3
        go_wp2_with fail
        exact bodyPost_ret (v := .tuple #[.int .i64 0, .bool false]) (by simp [results, Tryz.results167, go_sem]) rfl (QpP.no (by rw [HO.out]; rfl) HB.out)

set_option maxRecDepth 100000 in
set_option maxHeartbeats 8000000 in
theorem ucheap_any (n : In) {W V : World} {b : Nat} {wa : Option Addr} {wn wc : Nat} {sa : Option Addr} {sn sc : Nat} {mv tv : Value} {L M : List In} {T : List Int} {S : Sps} (h : Wt W V b (.slice wa wn wc) (.slice sa sn sc) mv tv M T) (hL : Ins W wa wn wc L) (hS : YtijbmdmeiancgaaGreat.Spn.Spans W sa sn sc S) (hTw : T.length ≤ wn) (hTs : T.length ≤ sn) (hM : M.length ≤ 1000000) (hok : okI n T.length = true)
    (hSw : ∀ r, In1 r T.length → Wh (S.getD r.toNat (0, 0)).1 (S.getD r.toNat (0, 0)).2) (hLw : ∀ r, In1 r T.length → (rg L r).op = 1 → w32 (rg L r).k) :
    Calls Tryz.prog 136 #[.pointer (some ⟨b, 0, none⟩), .agg (ia n)] V (QpP W V b (.slice wa wn wc) (.slice sa sn sc) tv M T (qkL L S T n M.length)) := by
  have HF0 := hide (h.below (bel1 V (.cells (ia n) 57)))
  have HC0 := hide (HasC.new V 57 (ia n))
  have HB0 := hide (bel1 V (.cells (ia n) 57))
  have HLe := hide h.le
  have two : ar n.op = 2 → In1 n.a T.length ∧ In1 n.b T.length := fun e => ⟨Fld.ok_ag hok (by rw [ag2 e]; simp), Fld.ok_ag hok (by rw [ag2 e]; simp)⟩
  by_cases h10 : n.op = 10
  · obtain ⟨ha, hb⟩ := two (by rw [h10]; decide)
    clear two
    unfold qkL
    rw [if_pos h10]
    have HU := hide (uproduct_any n HF0.out hL hTw hM ha hb)
    have t10 : (n.op == 10) = true := by simpa using h10
    obtain ⟨b0, b1, b2, b3, b4, b5⟩ := six_of HC0.out
    obtain ⟨O, hO⟩ : ∃ O, (if (rg L n.b).op = 1 then some [tmI (gv T n.a) (rg L n.b).k] else if (rg L n.a).op = 1 then some [tmI (gv T n.b) (rg L n.a).k] else none) = O := ⟨_, rfl⟩
    rw [hO] at HU ⊢
    clear hO
    clear h hL hS hTw hTs hM hok hSw hLw ha hb h10
    go_enter Tryz.func136, Tryz.ntmps136
    go_wp2_with fail
    refine HU.out.mono ?_
    clear HU b0 b1 b2 b3 b4 b5
    rintro e V2 hQ0
    have hQ := hQ0.mono HLe.out HB0.out
    clear hQ0
    have HQ := hide hQ
    rcases hQ with ⟨Q, -, rfl, -, -⟩ | ⟨-, rfl, -⟩
    · obtain ⟨z, hz⟩ : ∃ z : Int, ((M.length + Q.length : Nat) : Int) - 1 = z := ⟨_, rfl⟩
      rw [hz] at HQ ⊢
      clear hz
      go_wp2_with fail
      exact bodyPost_ret (v := .tuple #[.int .i64 z, .bool true]) (by simp [results, Tryz.results136, go_sem]) rfl (HQ.out)
    · go_wp2_with fail
      exact bodyPost_ret (v := .tuple #[.int .i64 0, .bool false]) (by simp [results, Tryz.results136, go_sem]) rfl (HQ.out)
  by_cases h15 : n.op = 15
  · obtain ⟨ha, hb⟩ := two (by rw [h15]; decide)
    clear two
    unfold qkL
    rw [if_neg h10, if_pos h15]
    have HU := hide (umask_any n HF0.out hL hTw hM ha hb)
    have t10 : (n.op == 10) = false := by simpa using h10
    have t15 : (n.op == 15) = true := by simpa using h15
    obtain ⟨b0, b1, b2, b3, b4, b5⟩ := six_of HC0.out
    obtain ⟨O, hO⟩ : ∃ O, (if (rg L n.b).op = 1 ∧ 0 ≤ (rg L n.b).k then some [(⟨31, gv T n.a, 0, 0, (rg L n.b).k, 0⟩ : In)] else if (rg L n.a).op = 1 ∧ 0 ≤ (rg L n.a).k then some [⟨31, gv T n.b, 0, 0, (rg L n.a).k, 0⟩] else none) = O := ⟨_, rfl⟩
    rw [hO] at HU ⊢
    clear hO
    clear h hL hS hTw hTs hM hok hSw hLw ha hb h10 h15
    go_enter Tryz.func136, Tryz.ntmps136
    go_wp2_with fail
    refine HU.out.mono ?_
    clear HU b0 b1 b2 b3 b4 b5
    rintro e V2 hQ0
    have hQ := hQ0.mono HLe.out HB0.out
    clear hQ0
    have HQ := hide hQ
    rcases hQ with ⟨Q, -, rfl, -, -⟩ | ⟨-, rfl, -⟩
    · obtain ⟨z, hz⟩ : ∃ z : Int, ((M.length + Q.length : Nat) : Int) - 1 = z := ⟨_, rfl⟩
      rw [hz] at HQ ⊢
      clear hz
      go_wp2_with fail
      exact bodyPost_ret (v := .tuple #[.int .i64 z, .bool true]) (by simp [results, Tryz.results136, go_sem]) rfl (HQ.out)
    · go_wp2_with fail
      exact bodyPost_ret (v := .tuple #[.int .i64 0, .bool false]) (by simp [results, Tryz.results136, go_sem]) rfl (HQ.out)
  by_cases h13 : n.op = 13
  · obtain ⟨ha, hb⟩ := two (by rw [h13]; decide)
    clear two
    unfold qkL
    rw [if_neg h10, if_neg h15, if_pos h13]
    have HU := hide (ushift_any n 29 HF0.out hL hTw hM ha hb)
    have t10 : (n.op == 10) = false := by simpa using h10
    have t15 : (n.op == 15) = false := by simpa using h15
    have t13 : (n.op == 13) = true := by simpa using h13
    obtain ⟨b0, b1, b2, b3, b4, b5⟩ := six_of HC0.out
    obtain ⟨O, hO⟩ : ∃ O, (if (rg L n.b).op = 1 then some [(⟨29, gv T n.a, 0, 0, (rg L n.b).k, 0⟩ : In)] else none) = O := ⟨_, rfl⟩
    rw [hO] at HU ⊢
    clear hO
    clear h hL hS hTw hTs hM hok hSw hLw ha hb h10 h15 h13
    go_enter Tryz.func136, Tryz.ntmps136
    go_wp2_with fail
    refine HU.out.mono ?_
    clear HU b0 b1 b2 b3 b4 b5
    rintro e V2 hQ0
    have hQ := hQ0.mono HLe.out HB0.out
    clear hQ0
    have HQ := hide hQ
    rcases hQ with ⟨Q, -, rfl, -, -⟩ | ⟨-, rfl, -⟩
    · obtain ⟨z, hz⟩ : ∃ z : Int, ((M.length + Q.length : Nat) : Int) - 1 = z := ⟨_, rfl⟩
      rw [hz] at HQ ⊢
      clear hz
      go_wp2_with fail
      exact bodyPost_ret (v := .tuple #[.int .i64 z, .bool true]) (by simp [results, Tryz.results136, go_sem]) rfl (HQ.out)
    · go_wp2_with fail
      exact bodyPost_ret (v := .tuple #[.int .i64 0, .bool false]) (by simp [results, Tryz.results136, go_sem]) rfl (HQ.out)
  by_cases h14 : n.op = 14
  · obtain ⟨ha, hb⟩ := two (by rw [h14]; decide)
    clear two
    unfold qkL
    rw [if_neg h10, if_neg h15, if_neg h13, if_pos h14]
    have HU := hide (ushift_any n 30 HF0.out hL hTw hM ha hb)
    have t10 : (n.op == 10) = false := by simpa using h10
    have t15 : (n.op == 15) = false := by simpa using h15
    have t13 : (n.op == 13) = false := by simpa using h13
    have t14 : (n.op == 14) = true := by simpa using h14
    obtain ⟨b0, b1, b2, b3, b4, b5⟩ := six_of HC0.out
    obtain ⟨O, hO⟩ : ∃ O, (if (rg L n.b).op = 1 then some [(⟨30, gv T n.a, 0, 0, (rg L n.b).k, 0⟩ : In)] else none) = O := ⟨_, rfl⟩
    rw [hO] at HU ⊢
    clear hO
    clear h hL hS hTw hTs hM hok hSw hLw ha hb h10 h15 h13 h14
    go_enter Tryz.func136, Tryz.ntmps136
    go_wp2_with fail
    refine HU.out.mono ?_
    clear HU b0 b1 b2 b3 b4 b5
    rintro e V2 hQ0
    have hQ := hQ0.mono HLe.out HB0.out
    clear hQ0
    have HQ := hide hQ
    rcases hQ with ⟨Q, -, rfl, -, -⟩ | ⟨-, rfl, -⟩
    · obtain ⟨z, hz⟩ : ∃ z : Int, ((M.length + Q.length : Nat) : Int) - 1 = z := ⟨_, rfl⟩
      rw [hz] at HQ ⊢
      clear hz
      go_wp2_with fail
      exact bodyPost_ret (v := .tuple #[.int .i64 z, .bool true]) (by simp [results, Tryz.results136, go_sem]) rfl (HQ.out)
    · go_wp2_with fail
      exact bodyPost_ret (v := .tuple #[.int .i64 0, .bool false]) (by simp [results, Tryz.results136, go_sem]) rfl (HQ.out)
  by_cases h11 : n.op = 11
  · obtain ⟨ha, hb⟩ := two (by rw [h11]; decide)
    clear two
    unfold qkL
    rw [if_neg h10, if_neg h15, if_neg h13, if_neg h14, if_pos h11]
    have HNu := hide (unumber_any n.b HF0.out hL ⟨hb.1, by have := hb.2; omega⟩)
    have HU := hide fun (V1 : World) (h1 : Wt W V1 b (.slice wa wn wc) (.slice sa sn sc) mv tv M T) (hw : w32 (rg L n.b).k) => uquot_any n.a (rg L n.b).k h1 hS hTs hM ha (lo := (S.getD n.a.toNat (0, 0)).1) (hi := (S.getD n.a.toNat (0, 0)).2) rfl (hSw n.a ha)
    have HW := hide fun h1 => hLw n.b hb h1
    have t10 : (n.op == 10) = false := by simpa using h10
    have t15 : (n.op == 15) = false := by simpa using h15
    have t13 : (n.op == 13) = false := by simpa using h13
    have t14 : (n.op == 14) = false := by simpa using h14
    have t11 : (n.op == 11) = true := by simpa using h11
    obtain ⟨p, hp⟩ : ∃ p, rg L n.b = p := ⟨_, rfl⟩
    rw [hp] at HNu HU HW ⊢
    obtain ⟨b0, b1, b2, b3, b4, b5⟩ := six_of HC0.out
    clear h hL hS hTw hTs hM hok hSw hLw ha hb hp h10 h15 h13 h14 h11
    by_cases h1 : p.op = 1
    · rw [if_pos h1]
      obtain ⟨O, hO⟩ : ∃ O, (dvL (S.getD n.a.toNat (0, 0)).1 (S.getD n.a.toNat (0, 0)).2 (gv T n.a) p.k M.length) = O := ⟨_, rfl⟩
      rw [hO] at HU ⊢
      clear hO
      have HW2 := hide (HW.out h1)
      have q1 : (p.op == 1) = true := by simpa using h1
      rw [q1] at HNu
      clear h1 q1
      go_enter Tryz.func136, Tryz.ntmps136
      go_wp2_with fail
      refine HNu.out.mono ?_
      rintro e V1 ⟨rfl, hb⟩
      have HF1 := hide (HF0.out.below hb)
      have HB1 := hide (bel HB0.out hb)
      have HU1 := hide (HU.out V1 HF1.out HW2.out)
      have hc1 := HC0.out.below hb
      clear b0 b1 b2 b3 b4 b5 hb HNu HU
      obtain ⟨b0, b1, b2, b3, b4, b5⟩ := six_of hc1
      clear hc1
      go_wp2_with fail
      refine HU1.out.mono ?_
      clear HU1 b0 b1 b2 b3 b4 b5
      rintro e V2 hQ0
      have hQ := hQ0.mono HLe.out HB1.out
      clear hQ0
      have HQ := hide hQ
      rcases hQ with ⟨Q, -, rfl, -, -⟩ | ⟨-, rfl, -⟩
      · obtain ⟨z, hz⟩ : ∃ z : Int, ((M.length + Q.length : Nat) : Int) - 1 = z := ⟨_, rfl⟩
        rw [hz] at HQ ⊢
        clear hz
        go_wp2_with fail
        exact bodyPost_ret (v := .tuple #[.int .i64 z, .bool true]) (by simp [results, Tryz.results136, go_sem]) rfl (HQ.out)
      · go_wp2_with fail
        exact bodyPost_ret (v := .tuple #[.int .i64 0, .bool false]) (by simp [results, Tryz.results136, go_sem]) rfl (HQ.out)
    · rw [if_neg h1]
      have q1 : (p.op == 1) = false := by simpa using h1
      rw [q1] at HNu
      clear h1 q1
      go_enter Tryz.func136, Tryz.ntmps136
      go_wp2_with fail
      refine HNu.out.mono ?_
      rintro e V1 ⟨rfl, hb⟩
      have HB1 := hide (bel HB0.out hb)
      clear hb HNu HU
      go_wp2_with fail
      exact bodyPost_ret (v := .tuple #[.int .i64 0, .bool false]) (by simp [results, Tryz.results136, go_sem]) rfl (QpP.no rfl HB1.out)
  by_cases h12 : n.op = 12
  · obtain ⟨ha, hb⟩ := two (by rw [h12]; decide)
    clear two
    unfold qkL
    rw [if_neg h10, if_neg h15, if_neg h13, if_neg h14, if_neg h11, if_pos h12]
    have HNu := hide (unumber_any n.b HF0.out hL ⟨hb.1, by have := hb.2; omega⟩)
    have HU := hide fun (V1 : World) (h1 : Wt W V1 b (.slice wa wn wc) (.slice sa sn sc) mv tv M T) (hw : w32 (rg L n.b).k) => urest_any n.a (rg L n.b).k hw h1 hS hTs hM ha (lo := (S.getD n.a.toNat (0, 0)).1) (hi := (S.getD n.a.toNat (0, 0)).2) rfl (hSw n.a ha)
    have HW := hide fun h1 => hLw n.b hb h1
    have t10 : (n.op == 10) = false := by simpa using h10
    have t15 : (n.op == 15) = false := by simpa using h15
    have t13 : (n.op == 13) = false := by simpa using h13
    have t14 : (n.op == 14) = false := by simpa using h14
    have t11 : (n.op == 11) = false := by simpa using h11
    have t12 : (n.op == 12) = true := by simpa using h12
    obtain ⟨p, hp⟩ : ∃ p, rg L n.b = p := ⟨_, rfl⟩
    rw [hp] at HNu HU HW ⊢
    obtain ⟨b0, b1, b2, b3, b4, b5⟩ := six_of HC0.out
    clear h hL hS hTw hTs hM hok hSw hLw ha hb hp h10 h15 h13 h14 h11 h12
    by_cases h1 : p.op = 1
    · rw [if_pos h1]
      obtain ⟨O, hO⟩ : ∃ O, (if 0 < pwZ p.k ∧ 0 ≤ (S.getD n.a.toNat (0, 0)).1 then some [(⟨31, gv T n.a, 0, 0, p.k - 1, 0⟩ : In)] else (dvL (S.getD n.a.toNat (0, 0)).1 (S.getD n.a.toNat (0, 0)).2 (gv T n.a) p.k M.length).map fun Q => Q ++ [tmI (M.length + Q.length - 1) p.k, ⟨9, gv T n.a, M.length + Q.length, 0, 0, 0⟩]) = O := ⟨_, rfl⟩
      rw [hO] at HU ⊢
      clear hO
      have HW2 := hide (HW.out h1)
      have q1 : (p.op == 1) = true := by simpa using h1
      rw [q1] at HNu
      clear h1 q1
      go_enter Tryz.func136, Tryz.ntmps136
      go_wp2_with fail
      refine HNu.out.mono ?_
      rintro e V1 ⟨rfl, hb⟩
      have HF1 := hide (HF0.out.below hb)
      have HB1 := hide (bel HB0.out hb)
      have HU1 := hide (HU.out V1 HF1.out HW2.out)
      have hc1 := HC0.out.below hb
      clear b0 b1 b2 b3 b4 b5 hb HNu HU
      obtain ⟨b0, b1, b2, b3, b4, b5⟩ := six_of hc1
      clear hc1
      go_wp2_with fail
      refine HU1.out.mono ?_
      clear HU1 b0 b1 b2 b3 b4 b5
      rintro e V2 hQ0
      have hQ := hQ0.mono HLe.out HB1.out
      clear hQ0
      have HQ := hide hQ
      rcases hQ with ⟨Q, -, rfl, -, -⟩ | ⟨-, rfl, -⟩
      · obtain ⟨z, hz⟩ : ∃ z : Int, ((M.length + Q.length : Nat) : Int) - 1 = z := ⟨_, rfl⟩
        rw [hz] at HQ ⊢
        clear hz
        go_wp2_with fail
        exact bodyPost_ret (v := .tuple #[.int .i64 z, .bool true]) (by simp [results, Tryz.results136, go_sem]) rfl (HQ.out)
      · go_wp2_with fail
        exact bodyPost_ret (v := .tuple #[.int .i64 0, .bool false]) (by simp [results, Tryz.results136, go_sem]) rfl (HQ.out)
    · rw [if_neg h1]
      have q1 : (p.op == 1) = false := by simpa using h1
      rw [q1] at HNu
      clear h1 q1
      go_enter Tryz.func136, Tryz.ntmps136
      go_wp2_with fail
      refine HNu.out.mono ?_
      rintro e V1 ⟨rfl, hb⟩
      have HB1 := hide (bel HB0.out hb)
      clear hb HNu HU
      go_wp2_with fail
      exact bodyPost_ret (v := .tuple #[.int .i64 0, .bool false]) (by simp [results, Tryz.results136, go_sem]) rfl (QpP.no rfl HB1.out)
  have hq : qkL L S T n M.length = none := by unfold qkL; rw [if_neg h10, if_neg h15, if_neg h13, if_neg h14, if_neg h11, if_neg h12]
  rw [hq]
  obtain ⟨b0, b1, b2, b3, b4, b5⟩ := six_of HC0.out
  have t10 : (n.op == 10) = false := by simpa using h10
  have t15 : (n.op == 15) = false := by simpa using h15
  have t13 : (n.op == 13) = false := by simpa using h13
  have t14 : (n.op == 14) = false := by simpa using h14
  have t11 : (n.op == 11) = false := by simpa using h11
  have t12 : (n.op == 12) = false := by simpa using h12
  clear h hL hS hTw hTs hM hok hSw hLw two hq h10 h15 h13 h14 h11 h12
  go_enter Tryz.func136, Tryz.ntmps136
  go_wp2_with fail
  exact bodyPost_ret (v := .tuple #[.int .i64 0, .bool false]) (by simp [results, Tryz.results136, go_sem]) rfl (QpP.no rfl HB0.out)

end Go.Proofs.Rdc

/-
  The document's quick, operator by operator.
-/
import Derived.Test.YtlpebmngjagbaaaGreatMDC
namespace Go.Proofs.Rdc
open Go.RowKit Go.IntWalk YtlpebmngjagbaaaGreat.Knd
open Cde (In i0 ia kd cd Ins at6 six_of four_of two_of has_new1 okI okT below_drew is6 i6 zA take_snoc)
open Vfy (vfE vfN vfC Sps w32)
open Fld (In1 rg gv ar ag2)
set_option linter.unusedVariables false

set_option maxRecDepth 100000 in
set_option maxHeartbeats 16000000 in
theorem mq_10 (n : In) (hop : n.op = 10) {W V : World} {b : Nat} {f dd out : Int} {wa : Option Addr} {wn wc : Nat} {sa : Option Addr} {sn sc : Nat} {mv tv : Value} {L M : List In} {T : List Int} {S : Sps} (h : Mt W V b f dd out (.slice wa wn wc) (.slice sa sn sc) mv tv M T) (hL : Ins W wa wn wc L) (hS : YtlpebmngjagbaaaGreat.Spn.Spans W sa sn sc S) (hTw : T.length ≤ wn) (hTs : T.length ≤ sn) (hM : M.length ≤ 1000000) (ia' : In1 n.a T.length) (ib' : In1 n.b T.length)
    (hSw : ∀ r, In1 r T.length → Wh (S.getD r.toNat (0, 0)).1 (S.getD r.toNat (0, 0)).2) (hLw : ∀ r, In1 r T.length → (rg L r).op = 1 → w32 (rg L r).k) :
    Calls Tryz.prog 15 #[.pointer (some ⟨b, 0, none⟩), .agg (ia n)] V (QmP W V b f dd out (.slice wa wn wc) (.slice sa sn sc) tv M T (qkL L S T n M.length)) := by
  have hb1 := bel1 V (.cells (ia n) 39)
  have HF0 := hide (h.below hb1)
  have HN0 := hide (HasC.new V 39 (ia n))
  have HB0 := hide hb1
  have HLe := hide h.le
  have HM := hide hM
  have hs := hL.short
  obtain ⟨na, gt, ct, ea, hja, htl, rfl, cta⟩ := HF0.out.reg ia'
  obtain ⟨nb, gt', ct', eb, hjb, -, e', ctb⟩ := HF0.out.reg ib'
  cases e'
  obtain ⟨xa, hxa⟩ : ∃ x, gv T n.a = x := ⟨_, rfl⟩
  obtain ⟨xb, hxb⟩ : ∃ x, gv T n.b = x := ⟨_, rfl⟩
  rw [hxa] at cta
  rw [hxb] at ctb
  obtain ⟨gl, off, rfl, hgl, hat⟩ := (hL.later HF0.out.lo).at (by omega)
  obtain ⟨a0, a1, a2, a3, a4, a5⟩ := hat na (by omega)
  obtain ⟨b0, b1, b2, b3, b4, b5⟩ := hat nb (by omega)
  have hA : rg L n.a = L.getD na i0 := by rw [ea]; rfl
  have hB : rg L n.b = L.getD nb i0 := by rw [eb]; rfl
  obtain ⟨m, hm⟩ : ∃ m : Int, (M.length : Int) = m := ⟨_, rfl⟩
  have HMl := hide hm
  obtain ⟨O, hO⟩ : ∃ O, qkL L S T n M.length = O := ⟨_, rfl⟩
  rw [hO]
  unfold qkL at hO
  rw [if_pos hop] at hO
  have HW := hide (hLw n.b ib')
  rw [hB] at HW hO
  rw [hA] at hO
  rw [hxa] at hO
  rw [hxb] at hO
  have HSw := hide (hSw n.a ia')
  rw [ea] at HSw hxa
  have HIa : Hid (In1 (na : Int) T.length) := hide (by rw [← ea]; exact ia')
  have HXa := hide hxa
  have HSI := hide hS
  have HTs := hide hTs
  have HJa := hide hja
  have HJb := hide hjb
  have hxa' : T.getD na 0 = xa := hxa
  have hxb' : T.getD nb 0 = xb := by rw [eb] at hxb; exact hxb
  have HXa2 := hide hxa'
  have HXb2 := hide hxb'
  generalize L.getD na i0 = A at *
  generalize L.getD nb i0 = B at *
  obtain ⟨n0, n1, n2, n3, n4, n5⟩ := six_of HN0.out
  rw [ea] at n1
  rw [eb] at n2
  have w2 := HF0.out.w.cell 2 rfl
  have hbl := HF0.out.w.lt
  have HOq := hide hO
  have tt0 : decide (n.op < 8) = false := by simp; omega
  have tt1 : decide (25 < n.op) = false := by simp; omega
  have t10 : (n.op == 10) = true := by simp; omega
  have ia0 : (0 : Int) ≤ na := by omega
  have ia1 : (na : Int) < wn := by omega
  have ib0 : (0 : Int) ≤ nb := by omega
  have ib1 : (nb : Int) < wn := by omega
  have HEa := hide ea
  have HEb := hide eb
  clear h hL hS hTw hTs hM ia' ib' hSw hLw hb1 hat hO hA hB ea eb hxa hxb hxa' hxb' hop
  go_enter Tryz.func15, Tryz.ntmps15
  go_upto_region 3 with fail
  obtain ⟨gn, hgn⟩ : ∃ gn, V.heap.size = gn := ⟨_, rfl⟩
  obtain ⟨V1, hV1⟩ : ∃ V1, V.alloc (.cells (ia n) 39) = V1 := ⟨_, rfl⟩
  have HB0' := HB0.out
  have HLe' := HLe.out
  rw [hV1] at HF0 HN0 HB0' cta ctb hgl a0 a1 a2 a3 a4 a5 b0 b1 b2 b3 b4 b5 n0 n1 n2 n3 n4 n5 w2 hbl ⊢
  rw [hgn] at HN0 n0 n1 n2 n3 n4 n5 ⊢
  have HB1 := hide HB0'
  have HLe1 := hide HLe'
  clear HB0 HLe HB0' HLe' hV1 hgn
  have hnl := HN0.out.lt
  go_region_held3 (fun w' => (w'.cell? ⟨b, 2, none⟩ = some (.slice (some ⟨gl, off, none⟩) wn wc) ∧ w'.cell? ⟨gn, 1, none⟩ = some (.int .i64 (na : Int)) ∧ w'.cell? ⟨gn, 2, none⟩ = some (.int .i64 (nb : Int))) ∧ (w'.cell? ⟨gl, off + na * 6, none⟩ = some (.int .i64 A.op) ∧ w'.cell? ⟨gl, off + na * 6 + 1, none⟩ = some (.int .i64 A.a) ∧ w'.cell? ⟨gl, off + na * 6 + 2, none⟩ = some (.int .i64 A.b) ∧ w'.cell? ⟨gl, off + na * 6 + 3, none⟩ = some (.int .i64 A.c) ∧ w'.cell? ⟨gl, off + na * 6 + 4, none⟩ = some (.int .i64 A.k) ∧ w'.cell? ⟨gl, off + na * 6 + 5, none⟩ = some (.int .i64 A.s)) ∧ (w'.cell? ⟨gl, off + nb * 6, none⟩ = some (.int .i64 B.op) ∧ w'.cell? ⟨gl, off + nb * 6 + 1, none⟩ = some (.int .i64 B.a) ∧ w'.cell? ⟨gl, off + nb * 6 + 2, none⟩ = some (.int .i64 B.b) ∧ w'.cell? ⟨gl, off + nb * 6 + 3, none⟩ = some (.int .i64 B.c) ∧ w'.cell? ⟨gl, off + nb * 6 + 4, none⟩ = some (.int .i64 B.k) ∧ w'.cell? ⟨gl, off + nb * 6 + 5, none⟩ = some (.int .i64 B.s)))
    (first | exact ⟨⟨w2, n1, n2⟩, ⟨a0, a1, a2, a3, a4, a5⟩, ⟨b0, b1, b2, b3, b4, b5⟩⟩ | go_keep) (fail)
  all_goals clear a0 a1 a2 a3 a4 a5 b0 b1 b2 b3 b4 b5 n0 n1 n2 n3 n4 n5 w2 hbl cta ctb hnl hgl
  · obtain ⟨V2, hV2⟩ : ∃ V2, ((V1.alloc (.cells (ia A) 39)).alloc (.cells (ia B) 39)).drew = V2 := ⟨_, rfl⟩
    rw [hV2]
    obtain ⟨ga, hx1⟩ : ∃ g, V1.heap.size = g := ⟨_, rfl⟩
    obtain ⟨gb, hy1⟩ : ∃ g, ga + 1 = g := ⟨_, rfl⟩
    have HQ2 : Hid (Qk W V V2 b gn ga gb f dd out (.slice (some ⟨gl, off, none⟩) wn wc) (.slice sa sn sc) mv (.slice (some ⟨gt, 0, none⟩) T.length ct) M T n A B) := hide (by rw [← hV2, ← hy1, ← hx1]; exact ⟨((HF0.out.below (bel1 _ _)).below (bel1 _ _)).below (below_drew _), ((HN0.out.below (bel1 _ _)).below (bel1 _ _)).below (below_drew _), ((HasC.new V1 39 (ia A)).alloc _).below (below_drew _), (has_n1 V1 _ 39 (ia B)).below (below_drew _), bel (bel (bel HB1.out (bel1 _ _)) (bel1 _ _)) (below_drew _), fun hk => by have := (HF0.out.m.lt _ hk).2; omega⟩)
    rw [hx1, hy1]
    clear hx1 hy1 hV2
    have w6 := HQ2.out.m.w.cell 6 rfl
    have cta := HQ2.out.m.at HJa.out
    have ctb := HQ2.out.m.at HJb.out
    rw [HXa2.out] at cta
    rw [HXb2.out] at ctb
    obtain ⟨n0, n1, n2, n3, n4, n5⟩ := six_of HQ2.out.n
    rw [HEa.out] at n1
    rw [HEb.out] at n2
    obtain ⟨tl, htl'⟩ : ∃ tl, T.length = tl := ⟨_, rfl⟩
    rw [htl'] at w6 htl
    have ia2 : (na : Int) < tl := by have := HJa.out; omega
    have ib2 : (nb : Int) < tl := by have := HJb.out; omega
    clear htl' HF0 HN0 HB1
    go_wp2_with fail
    go_quiet (fail)
    have HQ3 := hide (HQ2.out.below (Cde.below_dN V2 nq))
    generalize V2.drewN nq = V3 at *
    clear HQ2 w6 cta ctb n0 n1 n2 n3 n4 n5
    have HL3 := hide (low_of HLe1.out HQ3.out.lo)
    obtain ⟨n0, n1, n2, n3, n4, n5⟩ := six_of HQ3.out.n
    rw [HEa.out] at n1
    rw [HEb.out] at n2
    obtain ⟨a0, a1, a2, a3, a4, a5⟩ := six_of HQ3.out.a
    obtain ⟨b0, b1, b2, b3, b4, b5⟩ := six_of HQ3.out.b
    have hO := HOq.out
    clear HOq
    by_cases hB1 : B.op = 1
    · rw [if_pos hB1] at hO
      have HO := hide hO.symm
      have tB : (B.op == 1) = true := by simpa using hB1
      clear hO hB1
      have HU := hide (mtimes_z xa B.k HQ3.out.m HMl.out (by have := HM.out; omega))
      go_wp2_with fail
      refine HU.out.mono ?_
      rintro e V4 ⟨rfl, hw, hb⟩
      have HB4 := hide (HL3.out.trans hb)
      have HW4 := hide hw
      clear hw hb HU
      go_wp2_with fail
      exact bodyPost_ret (v := .tuple #[.int .i64 m, .bool true]) (by simp [results, Tryz.results15, go_sem]) rfl (QmP.many [tmI xa B.k] HO.out (by have := HMl.out; simp; omega) HW4.out HB4.out)
    · rw [if_neg hB1] at hO
      have tB : (B.op == 1) = false := by simpa using hB1
      clear hB1
      by_cases hA1 : A.op = 1
      · rw [if_pos hA1] at hO
        have HO := hide hO.symm
        have tA : (A.op == 1) = true := by simpa using hA1
        clear hO hA1
        have HU := hide (mtimes_z xb A.k HQ3.out.m HMl.out (by have := HM.out; omega))
        go_wp2_with fail
        refine HU.out.mono ?_
        rintro e V4 ⟨rfl, hw, hb⟩
        have HB4 := hide (HL3.out.trans hb)
        have HW4 := hide hw
        clear hw hb HU
        go_wp2_with fail
        exact bodyPost_ret (v := .tuple #[.int .i64 m, .bool true]) (by simp [results, Tryz.results15, go_sem]) rfl (QmP.many [tmI xb A.k] HO.out (by have := HMl.out; simp; omega) HW4.out HB4.out)
      · rw [if_neg hA1] at hO
        have HO := hide hO.symm
        have tA : (A.op == 1) = false := by simpa using hA1
        clear hO hA1
        go_wp2_with fail
        exact bodyPost_ret (v := .tuple #[.int .i64 0, .bool false]) (by simp [results, Tryz.results15, go_sem]) rfl (QmP.no HO.out HQ3.out.lo)
  · obtain ⟨V2, hV2⟩ : ∃ V2, ((V1.alloc (.cells (ia B) 39)).alloc (.cells (ia A) 39)).drew = V2 := ⟨_, rfl⟩
    rw [hV2]
    obtain ⟨gb, hx1⟩ : ∃ g, V1.heap.size = g := ⟨_, rfl⟩
    obtain ⟨ga, hy1⟩ : ∃ g, gb + 1 = g := ⟨_, rfl⟩
    have HQ2 : Hid (Qk W V V2 b gn ga gb f dd out (.slice (some ⟨gl, off, none⟩) wn wc) (.slice sa sn sc) mv (.slice (some ⟨gt, 0, none⟩) T.length ct) M T n A B) := hide (by rw [← hV2, ← hy1, ← hx1]; exact ⟨((HF0.out.below (bel1 _ _)).below (bel1 _ _)).below (below_drew _), ((HN0.out.below (bel1 _ _)).below (bel1 _ _)).below (below_drew _), (has_n1 V1 _ 39 (ia A)).below (below_drew _), ((HasC.new V1 39 (ia B)).alloc _).below (below_drew _), bel (bel (bel HB1.out (bel1 _ _)) (bel1 _ _)) (below_drew _), fun hk => by have := (HF0.out.m.lt _ hk).2; omega⟩)
    rw [hx1, hy1]
    clear hx1 hy1 hV2
    have w6 := HQ2.out.m.w.cell 6 rfl
    have cta := HQ2.out.m.at HJa.out
    have ctb := HQ2.out.m.at HJb.out
    rw [HXa2.out] at cta
    rw [HXb2.out] at ctb
    obtain ⟨n0, n1, n2, n3, n4, n5⟩ := six_of HQ2.out.n
    rw [HEa.out] at n1
    rw [HEb.out] at n2
    obtain ⟨tl, htl'⟩ : ∃ tl, T.length = tl := ⟨_, rfl⟩
    rw [htl'] at w6 htl
    have ia2 : (na : Int) < tl := by have := HJa.out; omega
    have ib2 : (nb : Int) < tl := by have := HJb.out; omega
    clear htl' HF0 HN0 HB1
    go_wp2_with fail
    go_quiet (fail)
    have HQ3 := hide (HQ2.out.below (Cde.below_dN V2 nq))
    generalize V2.drewN nq = V3 at *
    clear HQ2 w6 cta ctb n0 n1 n2 n3 n4 n5
    have HL3 := hide (low_of HLe1.out HQ3.out.lo)
    obtain ⟨n0, n1, n2, n3, n4, n5⟩ := six_of HQ3.out.n
    rw [HEa.out] at n1
    rw [HEb.out] at n2
    obtain ⟨a0, a1, a2, a3, a4, a5⟩ := six_of HQ3.out.a
    obtain ⟨b0, b1, b2, b3, b4, b5⟩ := six_of HQ3.out.b
    have hO := HOq.out
    clear HOq
    by_cases hB1 : B.op = 1
    · rw [if_pos hB1] at hO
      have HO := hide hO.symm
      have tB : (B.op == 1) = true := by simpa using hB1
      clear hO hB1
      have HU := hide (mtimes_z xa B.k HQ3.out.m HMl.out (by have := HM.out; omega))
      go_wp2_with fail
      refine HU.out.mono ?_
      rintro e V4 ⟨rfl, hw, hb⟩
      have HB4 := hide (HL3.out.trans hb)
      have HW4 := hide hw
      clear hw hb HU
      go_wp2_with fail
      exact bodyPost_ret (v := .tuple #[.int .i64 m, .bool true]) (by simp [results, Tryz.results15, go_sem]) rfl (QmP.many [tmI xa B.k] HO.out (by have := HMl.out; simp; omega) HW4.out HB4.out)
    · rw [if_neg hB1] at hO
      have tB : (B.op == 1) = false := by simpa using hB1
      clear hB1
      by_cases hA1 : A.op = 1
      · rw [if_pos hA1] at hO
        have HO := hide hO.symm
        have tA : (A.op == 1) = true := by simpa using hA1
        clear hO hA1
        have HU := hide (mtimes_z xb A.k HQ3.out.m HMl.out (by have := HM.out; omega))
        go_wp2_with fail
        refine HU.out.mono ?_
        rintro e V4 ⟨rfl, hw, hb⟩
        have HB4 := hide (HL3.out.trans hb)
        have HW4 := hide hw
        clear hw hb HU
        go_wp2_with fail
        exact bodyPost_ret (v := .tuple #[.int .i64 m, .bool true]) (by simp [results, Tryz.results15, go_sem]) rfl (QmP.many [tmI xb A.k] HO.out (by have := HMl.out; simp; omega) HW4.out HB4.out)
      · rw [if_neg hA1] at hO
        have HO := hide hO.symm
        have tA : (A.op == 1) = false := by simpa using hA1
        clear hO hA1
        go_wp2_with fail
        exact bodyPost_ret (v := .tuple #[.int .i64 0, .bool false]) (by simp [results, Tryz.results15, go_sem]) rfl (QmP.no HO.out HQ3.out.lo)

set_option maxRecDepth 100000 in
set_option maxHeartbeats 16000000 in
theorem mq_13 (n : In) (hop : n.op = 13) {W V : World} {b : Nat} {f dd out : Int} {wa : Option Addr} {wn wc : Nat} {sa : Option Addr} {sn sc : Nat} {mv tv : Value} {L M : List In} {T : List Int} {S : Sps} (h : Mt W V b f dd out (.slice wa wn wc) (.slice sa sn sc) mv tv M T) (hL : Ins W wa wn wc L) (hS : YtlpebmngjagbaaaGreat.Spn.Spans W sa sn sc S) (hTw : T.length ≤ wn) (hTs : T.length ≤ sn) (hM : M.length ≤ 1000000) (ia' : In1 n.a T.length) (ib' : In1 n.b T.length)
    (hSw : ∀ r, In1 r T.length → Wh (S.getD r.toNat (0, 0)).1 (S.getD r.toNat (0, 0)).2) (hLw : ∀ r, In1 r T.length → (rg L r).op = 1 → w32 (rg L r).k) :
    Calls Tryz.prog 15 #[.pointer (some ⟨b, 0, none⟩), .agg (ia n)] V (QmP W V b f dd out (.slice wa wn wc) (.slice sa sn sc) tv M T (qkL L S T n M.length)) := by
  have hb1 := bel1 V (.cells (ia n) 39)
  have HF0 := hide (h.below hb1)
  have HN0 := hide (HasC.new V 39 (ia n))
  have HB0 := hide hb1
  have HLe := hide h.le
  have HM := hide hM
  have hs := hL.short
  obtain ⟨na, gt, ct, ea, hja, htl, rfl, cta⟩ := HF0.out.reg ia'
  obtain ⟨nb, gt', ct', eb, hjb, -, e', ctb⟩ := HF0.out.reg ib'
  cases e'
  obtain ⟨xa, hxa⟩ : ∃ x, gv T n.a = x := ⟨_, rfl⟩
  obtain ⟨xb, hxb⟩ : ∃ x, gv T n.b = x := ⟨_, rfl⟩
  rw [hxa] at cta
  rw [hxb] at ctb
  obtain ⟨gl, off, rfl, hgl, hat⟩ := (hL.later HF0.out.lo).at (by omega)
  obtain ⟨a0, a1, a2, a3, a4, a5⟩ := hat na (by omega)
  obtain ⟨b0, b1, b2, b3, b4, b5⟩ := hat nb (by omega)
  have hA : rg L n.a = L.getD na i0 := by rw [ea]; rfl
  have hB : rg L n.b = L.getD nb i0 := by rw [eb]; rfl
  obtain ⟨m, hm⟩ : ∃ m : Int, (M.length : Int) = m := ⟨_, rfl⟩
  have HMl := hide hm
  obtain ⟨O, hO⟩ : ∃ O, qkL L S T n M.length = O := ⟨_, rfl⟩
  rw [hO]
  unfold qkL at hO
  rw [if_neg (by omega), if_neg (by omega), if_pos hop] at hO
  have HW := hide (hLw n.b ib')
  rw [hB] at HW hO
  rw [hxa] at hO
  have HSw := hide (hSw n.a ia')
  rw [ea] at HSw hxa
  have HIa : Hid (In1 (na : Int) T.length) := hide (by rw [← ea]; exact ia')
  have HXa := hide hxa
  have HSI := hide hS
  have HTs := hide hTs
  have HJa := hide hja
  have HJb := hide hjb
  have hxa' : T.getD na 0 = xa := hxa
  have hxb' : T.getD nb 0 = xb := by rw [eb] at hxb; exact hxb
  have HXa2 := hide hxa'
  have HXb2 := hide hxb'
  generalize L.getD na i0 = A at *
  generalize L.getD nb i0 = B at *
  obtain ⟨n0, n1, n2, n3, n4, n5⟩ := six_of HN0.out
  rw [ea] at n1
  rw [eb] at n2
  have w2 := HF0.out.w.cell 2 rfl
  have hbl := HF0.out.w.lt
  have HOq := hide hO
  have tt0 : decide (n.op < 8) = false := by simp; omega
  have tt1 : decide (25 < n.op) = false := by simp; omega
  have t10 : (n.op == 10) = false := by simp; omega
  have t15 : (n.op == 15) = false := by simp; omega
  have t13 : (n.op == 13) = true := by simp; omega
  have ia0 : (0 : Int) ≤ na := by omega
  have ia1 : (na : Int) < wn := by omega
  have ib0 : (0 : Int) ≤ nb := by omega
  have ib1 : (nb : Int) < wn := by omega
  have HEa := hide ea
  have HEb := hide eb
  clear h hL hS hTw hTs hM ia' ib' hSw hLw hb1 hat hO hA hB ea eb hxa hxb hxa' hxb' hop
  go_enter Tryz.func15, Tryz.ntmps15
  go_upto_region 3 with fail
  obtain ⟨gn, hgn⟩ : ∃ gn, V.heap.size = gn := ⟨_, rfl⟩
  obtain ⟨V1, hV1⟩ : ∃ V1, V.alloc (.cells (ia n) 39) = V1 := ⟨_, rfl⟩
  have HB0' := HB0.out
  have HLe' := HLe.out
  rw [hV1] at HF0 HN0 HB0' cta ctb hgl a0 a1 a2 a3 a4 a5 b0 b1 b2 b3 b4 b5 n0 n1 n2 n3 n4 n5 w2 hbl ⊢
  rw [hgn] at HN0 n0 n1 n2 n3 n4 n5 ⊢
  have HB1 := hide HB0'
  have HLe1 := hide HLe'
  clear HB0 HLe HB0' HLe' hV1 hgn
  have hnl := HN0.out.lt
  go_region_held3 (fun w' => (w'.cell? ⟨b, 2, none⟩ = some (.slice (some ⟨gl, off, none⟩) wn wc) ∧ w'.cell? ⟨gn, 1, none⟩ = some (.int .i64 (na : Int)) ∧ w'.cell? ⟨gn, 2, none⟩ = some (.int .i64 (nb : Int))) ∧ (w'.cell? ⟨gl, off + na * 6, none⟩ = some (.int .i64 A.op) ∧ w'.cell? ⟨gl, off + na * 6 + 1, none⟩ = some (.int .i64 A.a) ∧ w'.cell? ⟨gl, off + na * 6 + 2, none⟩ = some (.int .i64 A.b) ∧ w'.cell? ⟨gl, off + na * 6 + 3, none⟩ = some (.int .i64 A.c) ∧ w'.cell? ⟨gl, off + na * 6 + 4, none⟩ = some (.int .i64 A.k) ∧ w'.cell? ⟨gl, off + na * 6 + 5, none⟩ = some (.int .i64 A.s)) ∧ (w'.cell? ⟨gl, off + nb * 6, none⟩ = some (.int .i64 B.op) ∧ w'.cell? ⟨gl, off + nb * 6 + 1, none⟩ = some (.int .i64 B.a) ∧ w'.cell? ⟨gl, off + nb * 6 + 2, none⟩ = some (.int .i64 B.b) ∧ w'.cell? ⟨gl, off + nb * 6 + 3, none⟩ = some (.int .i64 B.c) ∧ w'.cell? ⟨gl, off + nb * 6 + 4, none⟩ = some (.int .i64 B.k) ∧ w'.cell? ⟨gl, off + nb * 6 + 5, none⟩ = some (.int .i64 B.s)))
    (first | exact ⟨⟨w2, n1, n2⟩, ⟨a0, a1, a2, a3, a4, a5⟩, ⟨b0, b1, b2, b3, b4, b5⟩⟩ | go_keep) (fail)
  all_goals clear a0 a1 a2 a3 a4 a5 b0 b1 b2 b3 b4 b5 n0 n1 n2 n3 n4 n5 w2 hbl cta ctb hnl hgl
  · obtain ⟨V2, hV2⟩ : ∃ V2, ((V1.alloc (.cells (ia A) 39)).alloc (.cells (ia B) 39)).drew = V2 := ⟨_, rfl⟩
    rw [hV2]
    obtain ⟨ga, hx1⟩ : ∃ g, V1.heap.size = g := ⟨_, rfl⟩
    obtain ⟨gb, hy1⟩ : ∃ g, ga + 1 = g := ⟨_, rfl⟩
    have HQ2 : Hid (Qk W V V2 b gn ga gb f dd out (.slice (some ⟨gl, off, none⟩) wn wc) (.slice sa sn sc) mv (.slice (some ⟨gt, 0, none⟩) T.length ct) M T n A B) := hide (by rw [← hV2, ← hy1, ← hx1]; exact ⟨((HF0.out.below (bel1 _ _)).below (bel1 _ _)).below (below_drew _), ((HN0.out.below (bel1 _ _)).below (bel1 _ _)).below (below_drew _), ((HasC.new V1 39 (ia A)).alloc _).below (below_drew _), (has_n1 V1 _ 39 (ia B)).below (below_drew _), bel (bel (bel HB1.out (bel1 _ _)) (bel1 _ _)) (below_drew _), fun hk => by have := (HF0.out.m.lt _ hk).2; omega⟩)
    rw [hx1, hy1]
    clear hx1 hy1 hV2
    have w6 := HQ2.out.m.w.cell 6 rfl
    have cta := HQ2.out.m.at HJa.out
    have ctb := HQ2.out.m.at HJb.out
    rw [HXa2.out] at cta
    rw [HXb2.out] at ctb
    obtain ⟨n0, n1, n2, n3, n4, n5⟩ := six_of HQ2.out.n
    rw [HEa.out] at n1
    rw [HEb.out] at n2
    obtain ⟨tl, htl'⟩ : ∃ tl, T.length = tl := ⟨_, rfl⟩
    rw [htl'] at w6 htl
    have ia2 : (na : Int) < tl := by have := HJa.out; omega
    have ib2 : (nb : Int) < tl := by have := HJb.out; omega
    clear htl' HF0 HN0 HB1
    go_wp2_with fail
    go_quiet (fail)
    have HQ3 := hide (HQ2.out.below (Cde.below_dN V2 nq))
    generalize V2.drewN nq = V3 at *
    clear HQ2 w6 cta ctb n0 n1 n2 n3 n4 n5
    have HL3 := hide (low_of HLe1.out HQ3.out.lo)
    obtain ⟨n0, n1, n2, n3, n4, n5⟩ := six_of HQ3.out.n
    rw [HEa.out] at n1
    rw [HEb.out] at n2
    obtain ⟨a0, a1, a2, a3, a4, a5⟩ := six_of HQ3.out.a
    obtain ⟨b0, b1, b2, b3, b4, b5⟩ := six_of HQ3.out.b
    have hO := HOq.out
    clear HOq
    by_cases hB1 : B.op = 1
    · rw [if_pos hB1] at hO
      have HO := hide hO.symm
      have tB : (B.op == 1) = true := by simpa using hB1
      clear hO hB1
      have HU := hide (mput_z 29 xa 0 B.k 0 HQ3.out.m HMl.out (by have := HM.out; omega))
      go_wp2_with fail
      refine HU.out.mono ?_
      rintro e V4 ⟨rfl, hw, hb, -⟩
      have HB4 := hide (HL3.out.trans hb)
      have HW4 := hide hw
      clear hw hb HU
      go_wp2_with fail
      exact bodyPost_ret (v := .tuple #[.int .i64 m, .bool true]) (by simp [results, Tryz.results15, go_sem]) rfl (QmP.many [⟨29, xa, 0, 0, B.k, 0⟩] HO.out (by have := HMl.out; simp; omega) HW4.out HB4.out)
    · rw [if_neg hB1] at hO
      have HO := hide hO.symm
      have tB : (B.op == 1) = false := by simpa using hB1
      clear hO hB1
      go_wp2_with fail
      exact bodyPost_ret (v := .tuple #[.int .i64 0, .bool false]) (by simp [results, Tryz.results15, go_sem]) rfl (QmP.no HO.out HQ3.out.lo)
  · obtain ⟨V2, hV2⟩ : ∃ V2, ((V1.alloc (.cells (ia B) 39)).alloc (.cells (ia A) 39)).drew = V2 := ⟨_, rfl⟩
    rw [hV2]
    obtain ⟨gb, hx1⟩ : ∃ g, V1.heap.size = g := ⟨_, rfl⟩
    obtain ⟨ga, hy1⟩ : ∃ g, gb + 1 = g := ⟨_, rfl⟩
    have HQ2 : Hid (Qk W V V2 b gn ga gb f dd out (.slice (some ⟨gl, off, none⟩) wn wc) (.slice sa sn sc) mv (.slice (some ⟨gt, 0, none⟩) T.length ct) M T n A B) := hide (by rw [← hV2, ← hy1, ← hx1]; exact ⟨((HF0.out.below (bel1 _ _)).below (bel1 _ _)).below (below_drew _), ((HN0.out.below (bel1 _ _)).below (bel1 _ _)).below (below_drew _), (has_n1 V1 _ 39 (ia A)).below (below_drew _), ((HasC.new V1 39 (ia B)).alloc _).below (below_drew _), bel (bel (bel HB1.out (bel1 _ _)) (bel1 _ _)) (below_drew _), fun hk => by have := (HF0.out.m.lt _ hk).2; omega⟩)
    rw [hx1, hy1]
    clear hx1 hy1 hV2
    have w6 := HQ2.out.m.w.cell 6 rfl
    have cta := HQ2.out.m.at HJa.out
    have ctb := HQ2.out.m.at HJb.out
    rw [HXa2.out] at cta
    rw [HXb2.out] at ctb
    obtain ⟨n0, n1, n2, n3, n4, n5⟩ := six_of HQ2.out.n
    rw [HEa.out] at n1
    rw [HEb.out] at n2
    obtain ⟨tl, htl'⟩ : ∃ tl, T.length = tl := ⟨_, rfl⟩
    rw [htl'] at w6 htl
    have ia2 : (na : Int) < tl := by have := HJa.out; omega
    have ib2 : (nb : Int) < tl := by have := HJb.out; omega
    clear htl' HF0 HN0 HB1
    go_wp2_with fail
    go_quiet (fail)
    have HQ3 := hide (HQ2.out.below (Cde.below_dN V2 nq))
    generalize V2.drewN nq = V3 at *
    clear HQ2 w6 cta ctb n0 n1 n2 n3 n4 n5
    have HL3 := hide (low_of HLe1.out HQ3.out.lo)
    obtain ⟨n0, n1, n2, n3, n4, n5⟩ := six_of HQ3.out.n
    rw [HEa.out] at n1
    rw [HEb.out] at n2
    obtain ⟨a0, a1, a2, a3, a4, a5⟩ := six_of HQ3.out.a
    obtain ⟨b0, b1, b2, b3, b4, b5⟩ := six_of HQ3.out.b
    have hO := HOq.out
    clear HOq
    by_cases hB1 : B.op = 1
    · rw [if_pos hB1] at hO
      have HO := hide hO.symm
      have tB : (B.op == 1) = true := by simpa using hB1
      clear hO hB1
      have HU := hide (mput_z 29 xa 0 B.k 0 HQ3.out.m HMl.out (by have := HM.out; omega))
      go_wp2_with fail
      refine HU.out.mono ?_
      rintro e V4 ⟨rfl, hw, hb, -⟩
      have HB4 := hide (HL3.out.trans hb)
      have HW4 := hide hw
      clear hw hb HU
      go_wp2_with fail
      exact bodyPost_ret (v := .tuple #[.int .i64 m, .bool true]) (by simp [results, Tryz.results15, go_sem]) rfl (QmP.many [⟨29, xa, 0, 0, B.k, 0⟩] HO.out (by have := HMl.out; simp; omega) HW4.out HB4.out)
    · rw [if_neg hB1] at hO
      have HO := hide hO.symm
      have tB : (B.op == 1) = false := by simpa using hB1
      clear hO hB1
      go_wp2_with fail
      exact bodyPost_ret (v := .tuple #[.int .i64 0, .bool false]) (by simp [results, Tryz.results15, go_sem]) rfl (QmP.no HO.out HQ3.out.lo)

set_option maxRecDepth 100000 in
set_option maxHeartbeats 16000000 in
theorem mq_14 (n : In) (hop : n.op = 14) {W V : World} {b : Nat} {f dd out : Int} {wa : Option Addr} {wn wc : Nat} {sa : Option Addr} {sn sc : Nat} {mv tv : Value} {L M : List In} {T : List Int} {S : Sps} (h : Mt W V b f dd out (.slice wa wn wc) (.slice sa sn sc) mv tv M T) (hL : Ins W wa wn wc L) (hS : YtlpebmngjagbaaaGreat.Spn.Spans W sa sn sc S) (hTw : T.length ≤ wn) (hTs : T.length ≤ sn) (hM : M.length ≤ 1000000) (ia' : In1 n.a T.length) (ib' : In1 n.b T.length)
    (hSw : ∀ r, In1 r T.length → Wh (S.getD r.toNat (0, 0)).1 (S.getD r.toNat (0, 0)).2) (hLw : ∀ r, In1 r T.length → (rg L r).op = 1 → w32 (rg L r).k) :
    Calls Tryz.prog 15 #[.pointer (some ⟨b, 0, none⟩), .agg (ia n)] V (QmP W V b f dd out (.slice wa wn wc) (.slice sa sn sc) tv M T (qkL L S T n M.length)) := by
  have hb1 := bel1 V (.cells (ia n) 39)
  have HF0 := hide (h.below hb1)
  have HN0 := hide (HasC.new V 39 (ia n))
  have HB0 := hide hb1
  have HLe := hide h.le
  have HM := hide hM
  have hs := hL.short
  obtain ⟨na, gt, ct, ea, hja, htl, rfl, cta⟩ := HF0.out.reg ia'
  obtain ⟨nb, gt', ct', eb, hjb, -, e', ctb⟩ := HF0.out.reg ib'
  cases e'
  obtain ⟨xa, hxa⟩ : ∃ x, gv T n.a = x := ⟨_, rfl⟩
  obtain ⟨xb, hxb⟩ : ∃ x, gv T n.b = x := ⟨_, rfl⟩
  rw [hxa] at cta
  rw [hxb] at ctb
  obtain ⟨gl, off, rfl, hgl, hat⟩ := (hL.later HF0.out.lo).at (by omega)
  obtain ⟨a0, a1, a2, a3, a4, a5⟩ := hat na (by omega)
  obtain ⟨b0, b1, b2, b3, b4, b5⟩ := hat nb (by omega)
  have hA : rg L n.a = L.getD na i0 := by rw [ea]; rfl
  have hB : rg L n.b = L.getD nb i0 := by rw [eb]; rfl
  obtain ⟨m, hm⟩ : ∃ m : Int, (M.length : Int) = m := ⟨_, rfl⟩
  have HMl := hide hm
  obtain ⟨O, hO⟩ : ∃ O, qkL L S T n M.length = O := ⟨_, rfl⟩
  rw [hO]
  unfold qkL at hO
  rw [if_neg (by omega), if_neg (by omega), if_neg (by omega), if_pos hop] at hO
  have HW := hide (hLw n.b ib')
  rw [hB] at HW hO
  rw [hxa] at hO
  have HSw := hide (hSw n.a ia')
  rw [ea] at HSw hxa
  have HIa : Hid (In1 (na : Int) T.length) := hide (by rw [← ea]; exact ia')
  have HXa := hide hxa
  have HSI := hide hS
  have HTs := hide hTs
  have HJa := hide hja
  have HJb := hide hjb
  have hxa' : T.getD na 0 = xa := hxa
  have hxb' : T.getD nb 0 = xb := by rw [eb] at hxb; exact hxb
  have HXa2 := hide hxa'
  have HXb2 := hide hxb'
  generalize L.getD na i0 = A at *
  generalize L.getD nb i0 = B at *
  obtain ⟨n0, n1, n2, n3, n4, n5⟩ := six_of HN0.out
  rw [ea] at n1
  rw [eb] at n2
  have w2 := HF0.out.w.cell 2 rfl
  have hbl := HF0.out.w.lt
  have HOq := hide hO
  have tt0 : decide (n.op < 8) = false := by simp; omega
  have tt1 : decide (25 < n.op) = false := by simp; omega
  have t10 : (n.op == 10) = false := by simp; omega
  have t15 : (n.op == 15) = false := by simp; omega
  have t13 : (n.op == 13) = false := by simp; omega
  have t14 : (n.op == 14) = true := by simp; omega
  have ia0 : (0 : Int) ≤ na := by omega
  have ia1 : (na : Int) < wn := by omega
  have ib0 : (0 : Int) ≤ nb := by omega
  have ib1 : (nb : Int) < wn := by omega
  have HEa := hide ea
  have HEb := hide eb
  clear h hL hS hTw hTs hM ia' ib' hSw hLw hb1 hat hO hA hB ea eb hxa hxb hxa' hxb' hop
  go_enter Tryz.func15, Tryz.ntmps15
  go_upto_region 3 with fail
  obtain ⟨gn, hgn⟩ : ∃ gn, V.heap.size = gn := ⟨_, rfl⟩
  obtain ⟨V1, hV1⟩ : ∃ V1, V.alloc (.cells (ia n) 39) = V1 := ⟨_, rfl⟩
  have HB0' := HB0.out
  have HLe' := HLe.out
  rw [hV1] at HF0 HN0 HB0' cta ctb hgl a0 a1 a2 a3 a4 a5 b0 b1 b2 b3 b4 b5 n0 n1 n2 n3 n4 n5 w2 hbl ⊢
  rw [hgn] at HN0 n0 n1 n2 n3 n4 n5 ⊢
  have HB1 := hide HB0'
  have HLe1 := hide HLe'
  clear HB0 HLe HB0' HLe' hV1 hgn
  have hnl := HN0.out.lt
  go_region_held3 (fun w' => (w'.cell? ⟨b, 2, none⟩ = some (.slice (some ⟨gl, off, none⟩) wn wc) ∧ w'.cell? ⟨gn, 1, none⟩ = some (.int .i64 (na : Int)) ∧ w'.cell? ⟨gn, 2, none⟩ = some (.int .i64 (nb : Int))) ∧ (w'.cell? ⟨gl, off + na * 6, none⟩ = some (.int .i64 A.op) ∧ w'.cell? ⟨gl, off + na * 6 + 1, none⟩ = some (.int .i64 A.a) ∧ w'.cell? ⟨gl, off + na * 6 + 2, none⟩ = some (.int .i64 A.b) ∧ w'.cell? ⟨gl, off + na * 6 + 3, none⟩ = some (.int .i64 A.c) ∧ w'.cell? ⟨gl, off + na * 6 + 4, none⟩ = some (.int .i64 A.k) ∧ w'.cell? ⟨gl, off + na * 6 + 5, none⟩ = some (.int .i64 A.s)) ∧ (w'.cell? ⟨gl, off + nb * 6, none⟩ = some (.int .i64 B.op) ∧ w'.cell? ⟨gl, off + nb * 6 + 1, none⟩ = some (.int .i64 B.a) ∧ w'.cell? ⟨gl, off + nb * 6 + 2, none⟩ = some (.int .i64 B.b) ∧ w'.cell? ⟨gl, off + nb * 6 + 3, none⟩ = some (.int .i64 B.c) ∧ w'.cell? ⟨gl, off + nb * 6 + 4, none⟩ = some (.int .i64 B.k) ∧ w'.cell? ⟨gl, off + nb * 6 + 5, none⟩ = some (.int .i64 B.s)))
    (first | exact ⟨⟨w2, n1, n2⟩, ⟨a0, a1, a2, a3, a4, a5⟩, ⟨b0, b1, b2, b3, b4, b5⟩⟩ | go_keep) (fail)
  all_goals clear a0 a1 a2 a3 a4 a5 b0 b1 b2 b3 b4 b5 n0 n1 n2 n3 n4 n5 w2 hbl cta ctb hnl hgl
  · obtain ⟨V2, hV2⟩ : ∃ V2, ((V1.alloc (.cells (ia A) 39)).alloc (.cells (ia B) 39)).drew = V2 := ⟨_, rfl⟩
    rw [hV2]
    obtain ⟨ga, hx1⟩ : ∃ g, V1.heap.size = g := ⟨_, rfl⟩
    obtain ⟨gb, hy1⟩ : ∃ g, ga + 1 = g := ⟨_, rfl⟩
    have HQ2 : Hid (Qk W V V2 b gn ga gb f dd out (.slice (some ⟨gl, off, none⟩) wn wc) (.slice sa sn sc) mv (.slice (some ⟨gt, 0, none⟩) T.length ct) M T n A B) := hide (by rw [← hV2, ← hy1, ← hx1]; exact ⟨((HF0.out.below (bel1 _ _)).below (bel1 _ _)).below (below_drew _), ((HN0.out.below (bel1 _ _)).below (bel1 _ _)).below (below_drew _), ((HasC.new V1 39 (ia A)).alloc _).below (below_drew _), (has_n1 V1 _ 39 (ia B)).below (below_drew _), bel (bel (bel HB1.out (bel1 _ _)) (bel1 _ _)) (below_drew _), fun hk => by have := (HF0.out.m.lt _ hk).2; omega⟩)
    rw [hx1, hy1]
    clear hx1 hy1 hV2
    have w6 := HQ2.out.m.w.cell 6 rfl
    have cta := HQ2.out.m.at HJa.out
    have ctb := HQ2.out.m.at HJb.out
    rw [HXa2.out] at cta
    rw [HXb2.out] at ctb
    obtain ⟨n0, n1, n2, n3, n4, n5⟩ := six_of HQ2.out.n
    rw [HEa.out] at n1
    rw [HEb.out] at n2
    obtain ⟨tl, htl'⟩ : ∃ tl, T.length = tl := ⟨_, rfl⟩
    rw [htl'] at w6 htl
    have ia2 : (na : Int) < tl := by have := HJa.out; omega
    have ib2 : (nb : Int) < tl := by have := HJb.out; omega
    clear htl' HF0 HN0 HB1
    go_wp2_with fail
    go_quiet (fail)
    have HQ3 := hide (HQ2.out.below (Cde.below_dN V2 nq))
    generalize V2.drewN nq = V3 at *
    clear HQ2 w6 cta ctb n0 n1 n2 n3 n4 n5
    have HL3 := hide (low_of HLe1.out HQ3.out.lo)
    obtain ⟨n0, n1, n2, n3, n4, n5⟩ := six_of HQ3.out.n
    rw [HEa.out] at n1
    rw [HEb.out] at n2
    obtain ⟨a0, a1, a2, a3, a4, a5⟩ := six_of HQ3.out.a
    obtain ⟨b0, b1, b2, b3, b4, b5⟩ := six_of HQ3.out.b
    have hO := HOq.out
    clear HOq
    by_cases hB1 : B.op = 1
    · rw [if_pos hB1] at hO
      have HO := hide hO.symm
      have tB : (B.op == 1) = true := by simpa using hB1
      clear hO hB1
      have HU := hide (mput_z 30 xa 0 B.k 0 HQ3.out.m HMl.out (by have := HM.out; omega))
      go_wp2_with fail
      refine HU.out.mono ?_
      rintro e V4 ⟨rfl, hw, hb, -⟩
      have HB4 := hide (HL3.out.trans hb)
      have HW4 := hide hw
      clear hw hb HU
      go_wp2_with fail
      exact bodyPost_ret (v := .tuple #[.int .i64 m, .bool true]) (by simp [results, Tryz.results15, go_sem]) rfl (QmP.many [⟨30, xa, 0, 0, B.k, 0⟩] HO.out (by have := HMl.out; simp; omega) HW4.out HB4.out)
    · rw [if_neg hB1] at hO
      have HO := hide hO.symm
      have tB : (B.op == 1) = false := by simpa using hB1
      clear hO hB1
      go_wp2_with fail
      exact bodyPost_ret (v := .tuple #[.int .i64 0, .bool false]) (by simp [results, Tryz.results15, go_sem]) rfl (QmP.no HO.out HQ3.out.lo)
  · obtain ⟨V2, hV2⟩ : ∃ V2, ((V1.alloc (.cells (ia B) 39)).alloc (.cells (ia A) 39)).drew = V2 := ⟨_, rfl⟩
    rw [hV2]
    obtain ⟨gb, hx1⟩ : ∃ g, V1.heap.size = g := ⟨_, rfl⟩
    obtain ⟨ga, hy1⟩ : ∃ g, gb + 1 = g := ⟨_, rfl⟩
    have HQ2 : Hid (Qk W V V2 b gn ga gb f dd out (.slice (some ⟨gl, off, none⟩) wn wc) (.slice sa sn sc) mv (.slice (some ⟨gt, 0, none⟩) T.length ct) M T n A B) := hide (by rw [← hV2, ← hy1, ← hx1]; exact ⟨((HF0.out.below (bel1 _ _)).below (bel1 _ _)).below (below_drew _), ((HN0.out.below (bel1 _ _)).below (bel1 _ _)).below (below_drew _), (has_n1 V1 _ 39 (ia A)).below (below_drew _), ((HasC.new V1 39 (ia B)).alloc _).below (below_drew _), bel (bel (bel HB1.out (bel1 _ _)) (bel1 _ _)) (below_drew _), fun hk => by have := (HF0.out.m.lt _ hk).2; omega⟩)
    rw [hx1, hy1]
    clear hx1 hy1 hV2
    have w6 := HQ2.out.m.w.cell 6 rfl
    have cta := HQ2.out.m.at HJa.out
    have ctb := HQ2.out.m.at HJb.out
    rw [HXa2.out] at cta
    rw [HXb2.out] at ctb
    obtain ⟨n0, n1, n2, n3, n4, n5⟩ := six_of HQ2.out.n
    rw [HEa.out] at n1
    rw [HEb.out] at n2
    obtain ⟨tl, htl'⟩ : ∃ tl, T.length = tl := ⟨_, rfl⟩
    rw [htl'] at w6 htl
    have ia2 : (na : Int) < tl := by have := HJa.out; omega
    have ib2 : (nb : Int) < tl := by have := HJb.out; omega
    clear htl' HF0 HN0 HB1
    go_wp2_with fail
    go_quiet (fail)
    have HQ3 := hide (HQ2.out.below (Cde.below_dN V2 nq))
    generalize V2.drewN nq = V3 at *
    clear HQ2 w6 cta ctb n0 n1 n2 n3 n4 n5
    have HL3 := hide (low_of HLe1.out HQ3.out.lo)
    obtain ⟨n0, n1, n2, n3, n4, n5⟩ := six_of HQ3.out.n
    rw [HEa.out] at n1
    rw [HEb.out] at n2
    obtain ⟨a0, a1, a2, a3, a4, a5⟩ := six_of HQ3.out.a
    obtain ⟨b0, b1, b2, b3, b4, b5⟩ := six_of HQ3.out.b
    have hO := HOq.out
    clear HOq
    by_cases hB1 : B.op = 1
    · rw [if_pos hB1] at hO
      have HO := hide hO.symm
      have tB : (B.op == 1) = true := by simpa using hB1
      clear hO hB1
      have HU := hide (mput_z 30 xa 0 B.k 0 HQ3.out.m HMl.out (by have := HM.out; omega))
      go_wp2_with fail
      refine HU.out.mono ?_
      rintro e V4 ⟨rfl, hw, hb, -⟩
      have HB4 := hide (HL3.out.trans hb)
      have HW4 := hide hw
      clear hw hb HU
      go_wp2_with fail
      exact bodyPost_ret (v := .tuple #[.int .i64 m, .bool true]) (by simp [results, Tryz.results15, go_sem]) rfl (QmP.many [⟨30, xa, 0, 0, B.k, 0⟩] HO.out (by have := HMl.out; simp; omega) HW4.out HB4.out)
    · rw [if_neg hB1] at hO
      have HO := hide hO.symm
      have tB : (B.op == 1) = false := by simpa using hB1
      clear hO hB1
      go_wp2_with fail
      exact bodyPost_ret (v := .tuple #[.int .i64 0, .bool false]) (by simp [results, Tryz.results15, go_sem]) rfl (QmP.no HO.out HQ3.out.lo)

set_option maxRecDepth 100000 in
set_option maxHeartbeats 16000000 in
theorem mq_0 (n : In) (hop : 8 ≤ n.op ∧ n.op ≤ 25) (h10 : n.op ≠ 10) (h15 : n.op ≠ 15) (h13 : n.op ≠ 13) (h14 : n.op ≠ 14) (h11 : n.op ≠ 11) (h12 : n.op ≠ 12) {W V : World} {b : Nat} {f dd out : Int} {wa : Option Addr} {wn wc : Nat} {sa : Option Addr} {sn sc : Nat} {mv tv : Value} {L M : List In} {T : List Int} {S : Sps} (h : Mt W V b f dd out (.slice wa wn wc) (.slice sa sn sc) mv tv M T) (hL : Ins W wa wn wc L) (hS : YtlpebmngjagbaaaGreat.Spn.Spans W sa sn sc S) (hTw : T.length ≤ wn) (hTs : T.length ≤ sn) (hM : M.length ≤ 1000000) (ia' : In1 n.a T.length) (ib' : In1 n.b T.length)
    (hSw : ∀ r, In1 r T.length → Wh (S.getD r.toNat (0, 0)).1 (S.getD r.toNat (0, 0)).2) (hLw : ∀ r, In1 r T.length → (rg L r).op = 1 → w32 (rg L r).k) :
    Calls Tryz.prog 15 #[.pointer (some ⟨b, 0, none⟩), .agg (ia n)] V (QmP W V b f dd out (.slice wa wn wc) (.slice sa sn sc) tv M T (qkL L S T n M.length)) := by
  have hb1 := bel1 V (.cells (ia n) 39)
  have HF0 := hide (h.below hb1)
  have HN0 := hide (HasC.new V 39 (ia n))
  have HB0 := hide hb1
  have HLe := hide h.le
  have HM := hide hM
  have hs := hL.short
  obtain ⟨na, gt, ct, ea, hja, htl, rfl, cta⟩ := HF0.out.reg ia'
  obtain ⟨nb, gt', ct', eb, hjb, -, e', ctb⟩ := HF0.out.reg ib'
  cases e'
  obtain ⟨xa, hxa⟩ : ∃ x, gv T n.a = x := ⟨_, rfl⟩
  obtain ⟨xb, hxb⟩ : ∃ x, gv T n.b = x := ⟨_, rfl⟩
  rw [hxa] at cta
  rw [hxb] at ctb
  obtain ⟨gl, off, rfl, hgl, hat⟩ := (hL.later HF0.out.lo).at (by omega)
  obtain ⟨a0, a1, a2, a3, a4, a5⟩ := hat na (by omega)
  obtain ⟨b0, b1, b2, b3, b4, b5⟩ := hat nb (by omega)
  have hA : rg L n.a = L.getD na i0 := by rw [ea]; rfl
  have hB : rg L n.b = L.getD nb i0 := by rw [eb]; rfl
  obtain ⟨m, hm⟩ : ∃ m : Int, (M.length : Int) = m := ⟨_, rfl⟩
  have HMl := hide hm
  obtain ⟨O, hO⟩ : ∃ O, qkL L S T n M.length = O := ⟨_, rfl⟩
  rw [hO]
  unfold qkL at hO
  rw [if_neg (by omega), if_neg (by omega), if_neg (by omega), if_neg (by omega), if_neg (by omega), if_neg (by omega)] at hO
  have HW := hide (hLw n.b ib')
  rw [hB] at HW
  have HSw := hide (hSw n.a ia')
  rw [ea] at HSw hxa
  have HIa : Hid (In1 (na : Int) T.length) := hide (by rw [← ea]; exact ia')
  have HXa := hide hxa
  have HSI := hide hS
  have HTs := hide hTs
  have HJa := hide hja
  have HJb := hide hjb
  have hxa' : T.getD na 0 = xa := hxa
  have hxb' : T.getD nb 0 = xb := by rw [eb] at hxb; exact hxb
  have HXa2 := hide hxa'
  have HXb2 := hide hxb'
  generalize L.getD na i0 = A at *
  generalize L.getD nb i0 = B at *
  obtain ⟨n0, n1, n2, n3, n4, n5⟩ := six_of HN0.out
  rw [ea] at n1
  rw [eb] at n2
  have w2 := HF0.out.w.cell 2 rfl
  have hbl := HF0.out.w.lt
  have HOq := hide hO
  have tt0 : decide (n.op < 8) = false := by simp; omega
  have tt1 : decide (25 < n.op) = false := by simp; omega
  have t10 : (n.op == 10) = false := by simp; omega
  have t15 : (n.op == 15) = false := by simp; omega
  have t13 : (n.op == 13) = false := by simp; omega
  have t14 : (n.op == 14) = false := by simp; omega
  have t11 : (n.op == 11) = false := by simp; omega
  have t12 : (n.op == 12) = false := by simp; omega
  have ia0 : (0 : Int) ≤ na := by omega
  have ia1 : (na : Int) < wn := by omega
  have ib0 : (0 : Int) ≤ nb := by omega
  have ib1 : (nb : Int) < wn := by omega
  have HEa := hide ea
  have HEb := hide eb
  clear h hL hS hTw hTs hM ia' ib' hSw hLw hb1 hat hO hA hB ea eb hxa hxb hxa' hxb' hop h10 h15 h13 h14 h11 h12
  go_enter Tryz.func15, Tryz.ntmps15
  go_upto_region 3 with fail
  obtain ⟨gn, hgn⟩ : ∃ gn, V.heap.size = gn := ⟨_, rfl⟩
  obtain ⟨V1, hV1⟩ : ∃ V1, V.alloc (.cells (ia n) 39) = V1 := ⟨_, rfl⟩
  have HB0' := HB0.out
  have HLe' := HLe.out
  rw [hV1] at HF0 HN0 HB0' cta ctb hgl a0 a1 a2 a3 a4 a5 b0 b1 b2 b3 b4 b5 n0 n1 n2 n3 n4 n5 w2 hbl ⊢
  rw [hgn] at HN0 n0 n1 n2 n3 n4 n5 ⊢
  have HB1 := hide HB0'
  have HLe1 := hide HLe'
  clear HB0 HLe HB0' HLe' hV1 hgn
  have hnl := HN0.out.lt
  go_region_held3 (fun w' => (w'.cell? ⟨b, 2, none⟩ = some (.slice (some ⟨gl, off, none⟩) wn wc) ∧ w'.cell? ⟨gn, 1, none⟩ = some (.int .i64 (na : Int)) ∧ w'.cell? ⟨gn, 2, none⟩ = some (.int .i64 (nb : Int))) ∧ (w'.cell? ⟨gl, off + na * 6, none⟩ = some (.int .i64 A.op) ∧ w'.cell? ⟨gl, off + na * 6 + 1, none⟩ = some (.int .i64 A.a) ∧ w'.cell? ⟨gl, off + na * 6 + 2, none⟩ = some (.int .i64 A.b) ∧ w'.cell? ⟨gl, off + na * 6 + 3, none⟩ = some (.int .i64 A.c) ∧ w'.cell? ⟨gl, off + na * 6 + 4, none⟩ = some (.int .i64 A.k) ∧ w'.cell? ⟨gl, off + na * 6 + 5, none⟩ = some (.int .i64 A.s)) ∧ (w'.cell? ⟨gl, off + nb * 6, none⟩ = some (.int .i64 B.op) ∧ w'.cell? ⟨gl, off + nb * 6 + 1, none⟩ = some (.int .i64 B.a) ∧ w'.cell? ⟨gl, off + nb * 6 + 2, none⟩ = some (.int .i64 B.b) ∧ w'.cell? ⟨gl, off + nb * 6 + 3, none⟩ = some (.int .i64 B.c) ∧ w'.cell? ⟨gl, off + nb * 6 + 4, none⟩ = some (.int .i64 B.k) ∧ w'.cell? ⟨gl, off + nb * 6 + 5, none⟩ = some (.int .i64 B.s)))
    (first | exact ⟨⟨w2, n1, n2⟩, ⟨a0, a1, a2, a3, a4, a5⟩, ⟨b0, b1, b2, b3, b4, b5⟩⟩ | go_keep) (fail)
  all_goals clear a0 a1 a2 a3 a4 a5 b0 b1 b2 b3 b4 b5 n0 n1 n2 n3 n4 n5 w2 hbl cta ctb hnl hgl
  · obtain ⟨V2, hV2⟩ : ∃ V2, ((V1.alloc (.cells (ia A) 39)).alloc (.cells (ia B) 39)).drew = V2 := ⟨_, rfl⟩
    rw [hV2]
    obtain ⟨ga, hx1⟩ : ∃ g, V1.heap.size = g := ⟨_, rfl⟩
    obtain ⟨gb, hy1⟩ : ∃ g, ga + 1 = g := ⟨_, rfl⟩
    have HQ2 : Hid (Qk W V V2 b gn ga gb f dd out (.slice (some ⟨gl, off, none⟩) wn wc) (.slice sa sn sc) mv (.slice (some ⟨gt, 0, none⟩) T.length ct) M T n A B) := hide (by rw [← hV2, ← hy1, ← hx1]; exact ⟨((HF0.out.below (bel1 _ _)).below (bel1 _ _)).below (below_drew _), ((HN0.out.below (bel1 _ _)).below (bel1 _ _)).below (below_drew _), ((HasC.new V1 39 (ia A)).alloc _).below (below_drew _), (has_n1 V1 _ 39 (ia B)).below (below_drew _), bel (bel (bel HB1.out (bel1 _ _)) (bel1 _ _)) (below_drew _), fun hk => by have := (HF0.out.m.lt _ hk).2; omega⟩)
    rw [hx1, hy1]
    clear hx1 hy1 hV2
    have w6 := HQ2.out.m.w.cell 6 rfl
    have cta := HQ2.out.m.at HJa.out
    have ctb := HQ2.out.m.at HJb.out
    rw [HXa2.out] at cta
    rw [HXb2.out] at ctb
    obtain ⟨n0, n1, n2, n3, n4, n5⟩ := six_of HQ2.out.n
    rw [HEa.out] at n1
    rw [HEb.out] at n2
    obtain ⟨tl, htl'⟩ : ∃ tl, T.length = tl := ⟨_, rfl⟩
    rw [htl'] at w6 htl
    have ia2 : (na : Int) < tl := by have := HJa.out; omega
    have ib2 : (nb : Int) < tl := by have := HJb.out; omega
    clear htl' HF0 HN0 HB1
    go_wp2_with fail
    go_quiet (fail)
    have HQ3 := hide (HQ2.out.below (Cde.below_dN V2 nq))
    generalize V2.drewN nq = V3 at *
    clear HQ2 w6 cta ctb n0 n1 n2 n3 n4 n5
    have HL3 := hide (low_of HLe1.out HQ3.out.lo)
    obtain ⟨n0, n1, n2, n3, n4, n5⟩ := six_of HQ3.out.n
    rw [HEa.out] at n1
    rw [HEb.out] at n2
    obtain ⟨a0, a1, a2, a3, a4, a5⟩ := six_of HQ3.out.a
    obtain ⟨b0, b1, b2, b3, b4, b5⟩ := six_of HQ3.out.b
    have hO := HOq.out
    clear HOq
    have HO := hide hO.symm
    clear hO
    go_wp2_with fail
    exact bodyPost_ret (v := .tuple #[.int .i64 0, .bool false]) (by simp [results, Tryz.results15, go_sem]) rfl (QmP.no HO.out HQ3.out.lo)
  · obtain ⟨V2, hV2⟩ : ∃ V2, ((V1.alloc (.cells (ia B) 39)).alloc (.cells (ia A) 39)).drew = V2 := ⟨_, rfl⟩
    rw [hV2]
    obtain ⟨gb, hx1⟩ : ∃ g, V1.heap.size = g := ⟨_, rfl⟩
    obtain ⟨ga, hy1⟩ : ∃ g, gb + 1 = g := ⟨_, rfl⟩
    have HQ2 : Hid (Qk W V V2 b gn ga gb f dd out (.slice (some ⟨gl, off, none⟩) wn wc) (.slice sa sn sc) mv (.slice (some ⟨gt, 0, none⟩) T.length ct) M T n A B) := hide (by rw [← hV2, ← hy1, ← hx1]; exact ⟨((HF0.out.below (bel1 _ _)).below (bel1 _ _)).below (below_drew _), ((HN0.out.below (bel1 _ _)).below (bel1 _ _)).below (below_drew _), (has_n1 V1 _ 39 (ia A)).below (below_drew _), ((HasC.new V1 39 (ia B)).alloc _).below (below_drew _), bel (bel (bel HB1.out (bel1 _ _)) (bel1 _ _)) (below_drew _), fun hk => by have := (HF0.out.m.lt _ hk).2; omega⟩)
    rw [hx1, hy1]
    clear hx1 hy1 hV2
    have w6 := HQ2.out.m.w.cell 6 rfl
    have cta := HQ2.out.m.at HJa.out
    have ctb := HQ2.out.m.at HJb.out
    rw [HXa2.out] at cta
    rw [HXb2.out] at ctb
    obtain ⟨n0, n1, n2, n3, n4, n5⟩ := six_of HQ2.out.n
    rw [HEa.out] at n1
    rw [HEb.out] at n2
    obtain ⟨tl, htl'⟩ : ∃ tl, T.length = tl := ⟨_, rfl⟩
    rw [htl'] at w6 htl
    have ia2 : (na : Int) < tl := by have := HJa.out; omega
    have ib2 : (nb : Int) < tl := by have := HJb.out; omega
    clear htl' HF0 HN0 HB1
    go_wp2_with fail
    go_quiet (fail)
    have HQ3 := hide (HQ2.out.below (Cde.below_dN V2 nq))
    generalize V2.drewN nq = V3 at *
    clear HQ2 w6 cta ctb n0 n1 n2 n3 n4 n5
    have HL3 := hide (low_of HLe1.out HQ3.out.lo)
    obtain ⟨n0, n1, n2, n3, n4, n5⟩ := six_of HQ3.out.n
    rw [HEa.out] at n1
    rw [HEb.out] at n2
    obtain ⟨a0, a1, a2, a3, a4, a5⟩ := six_of HQ3.out.a
    obtain ⟨b0, b1, b2, b3, b4, b5⟩ := six_of HQ3.out.b
    have hO := HOq.out
    clear HOq
    have HO := hide hO.symm
    clear hO
    go_wp2_with fail
    exact bodyPost_ret (v := .tuple #[.int .i64 0, .bool false]) (by simp [results, Tryz.results15, go_sem]) rfl (QmP.no HO.out HQ3.out.lo)


end Go.Proofs.Rdc

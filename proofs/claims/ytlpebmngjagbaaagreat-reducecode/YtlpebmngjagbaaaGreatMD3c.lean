/-
  The document's quick, operator by operator.
-/
import Derived.Test.YtlpebmngjagbaaaGreatMDC
namespace Go.Proofs.Rdc
open Go.RowKit Go.IntWalk YtlpebmngjagbaaaGreat.Knd
open Cde (In i0 ia kd cd Ins at6 six_of four_of two_of has_new1 okI okT below_drew is6 i6 zA take_snoc)
open Vfy (vfE vfN vfC Sps w32)
open Fld (In1 rg gv ar ag2)
set_option linter.unusedVariables false

set_option maxRecDepth 100000 in
set_option maxHeartbeats 16000000 in
theorem mq_12 (n : In) (hop : n.op = 12) {W V : World} {b : Nat} {f dd out : Int} {wa : Option Addr} {wn wc : Nat} {sa : Option Addr} {sn sc : Nat} {mv tv : Value} {L M : List In} {T : List Int} {S : Sps} (h : Mt W V b f dd out (.slice wa wn wc) (.slice sa sn sc) mv tv M T) (hL : Ins W wa wn wc L) (hS : YtlpebmngjagbaaaGreat.Spn.Spans W sa sn sc S) (hTw : T.length ≤ wn) (hTs : T.length ≤ sn) (hM : M.length ≤ 1000000) (ia' : In1 n.a T.length) (ib' : In1 n.b T.length)
    (hSw : ∀ r, In1 r T.length → Wh (S.getD r.toNat (0, 0)).1 (S.getD r.toNat (0, 0)).2) (hLw : ∀ r, In1 r T.length → (rg L r).op = 1 → w32 (rg L r).k) :
    Calls Tryz.prog 15 #[.pointer (some ⟨b, 0, none⟩), .agg (ia n)] V (QmP W V b f dd out (.slice wa wn wc) (.slice sa sn sc) tv M T (qkL L S T n M.length)) := by
  have hb1 := bel1 V (.cells (ia n) 39)
  have HF0 := hide (h.below hb1)
  have HN0 := hide (HasC.new V 39 (ia n))
  have HB0 := hide hb1
  have HLe := hide h.le
  have HM := hide hM
  have hs := hL.short
  obtain ⟨na, gt, ct, ea, hja, htl, rfl, cta⟩ := HF0.out.reg ia'
  obtain ⟨nb, gt', ct', eb, hjb, -, e', ctb⟩ := HF0.out.reg ib'
  cases e'
  obtain ⟨xa, hxa⟩ : ∃ x, gv T n.a = x := ⟨_, rfl⟩
  obtain ⟨xb, hxb⟩ : ∃ x, gv T n.b = x := ⟨_, rfl⟩
  rw [hxa] at cta
  rw [hxb] at ctb
  obtain ⟨gl, off, rfl, hgl, hat⟩ := (hL.later HF0.out.lo).at (by omega)
  obtain ⟨a0, a1, a2, a3, a4, a5⟩ := hat na (by omega)
  obtain ⟨b0, b1, b2, b3, b4, b5⟩ := hat nb (by omega)
  have hA : rg L n.a = L.getD na i0 := by rw [ea]; rfl
  have hB : rg L n.b = L.getD nb i0 := by rw [eb]; rfl
  obtain ⟨m, hm⟩ : ∃ m : Int, (M.length : Int) = m := ⟨_, rfl⟩
  have HMl := hide hm
  obtain ⟨O, hO⟩ : ∃ O, qkL L S T n M.length = O := ⟨_, rfl⟩
  rw [hO]
  unfold qkL at hO
  rw [if_neg (by omega), if_neg (by omega), if_neg (by omega), if_neg (by omega), if_neg (by omega), if_pos hop] at hO
  have HW := hide (hLw n.b ib')
  rw [hB] at HW hO
  rw [hxa] at hO
  rw [hm] at hO
  have HSw := hide (hSw n.a ia')
  rw [ea] at HSw hxa
  rw [ea] at hO
  have HIa : Hid (In1 (na : Int) T.length) := hide (by rw [← ea]; exact ia')
  have HXa := hide hxa
  have HSI := hide hS
  have HTs := hide hTs
  have HJa := hide hja
  have HJb := hide hjb
  have hxa' : T.getD na 0 = xa := hxa
  have hxb' : T.getD nb 0 = xb := by rw [eb] at hxb; exact hxb
  have HXa2 := hide hxa'
  have HXb2 := hide hxb'
  generalize L.getD na i0 = A at *
  generalize L.getD nb i0 = B at *
  obtain ⟨n0, n1, n2, n3, n4, n5⟩ := six_of HN0.out
  rw [ea] at n1
  rw [eb] at n2
  have w2 := HF0.out.w.cell 2 rfl
  have hbl := HF0.out.w.lt
  have HOq := hide hO
  have tt0 : decide (n.op < 8) = false := by simp; omega
  have tt1 : decide (25 < n.op) = false := by simp; omega
  have t10 : (n.op == 10) = false := by simp; omega
  have t15 : (n.op == 15) = false := by simp; omega
  have t13 : (n.op == 13) = false := by simp; omega
  have t14 : (n.op == 14) = false := by simp; omega
  have t11 : (n.op == 11) = false := by simp; omega
  have t12 : (n.op == 12) = true := by simp; omega
  have ia0 : (0 : Int) ≤ na := by omega
  have ia1 : (na : Int) < wn := by omega
  have ib0 : (0 : Int) ≤ nb := by omega
  have ib1 : (nb : Int) < wn := by omega
  have HEa := hide ea
  have HEb := hide eb
  clear h hL hS hTw hTs hM ia' ib' hSw hLw hb1 hat hO hA hB ea eb hxa hxb hxa' hxb' hop
  go_enter Tryz.func15, Tryz.ntmps15
  go_upto_region 3 with fail
  obtain ⟨gn, hgn⟩ : ∃ gn, V.heap.size = gn := ⟨_, rfl⟩
  obtain ⟨V1, hV1⟩ : ∃ V1, V.alloc (.cells (ia n) 39) = V1 := ⟨_, rfl⟩
  have HB0' := HB0.out
  have HLe' := HLe.out
  rw [hV1] at HF0 HN0 HB0' cta ctb hgl a0 a1 a2 a3 a4 a5 b0 b1 b2 b3 b4 b5 n0 n1 n2 n3 n4 n5 w2 hbl ⊢
  rw [hgn] at HN0 n0 n1 n2 n3 n4 n5 ⊢
  have HB1 := hide HB0'
  have HLe1 := hide HLe'
  clear HB0 HLe HB0' HLe' hV1 hgn
  have hnl := HN0.out.lt
  go_region_held3 (fun w' => (w'.cell? ⟨b, 2, none⟩ = some (.slice (some ⟨gl, off, none⟩) wn wc) ∧ w'.cell? ⟨gn, 1, none⟩ = some (.int .i64 (na : Int)) ∧ w'.cell? ⟨gn, 2, none⟩ = some (.int .i64 (nb : Int))) ∧ (w'.cell? ⟨gl, off + na * 6, none⟩ = some (.int .i64 A.op) ∧ w'.cell? ⟨gl, off + na * 6 + 1, none⟩ = some (.int .i64 A.a) ∧ w'.cell? ⟨gl, off + na * 6 + 2, none⟩ = some (.int .i64 A.b) ∧ w'.cell? ⟨gl, off + na * 6 + 3, none⟩ = some (.int .i64 A.c) ∧ w'.cell? ⟨gl, off + na * 6 + 4, none⟩ = some (.int .i64 A.k) ∧ w'.cell? ⟨gl, off + na * 6 + 5, none⟩ = some (.int .i64 A.s)) ∧ (w'.cell? ⟨gl, off + nb * 6, none⟩ = some (.int .i64 B.op) ∧ w'.cell? ⟨gl, off + nb * 6 + 1, none⟩ = some (.int .i64 B.a) ∧ w'.cell? ⟨gl, off + nb * 6 + 2, none⟩ = some (.int .i64 B.b) ∧ w'.cell? ⟨gl, off + nb * 6 + 3, none⟩ = some (.int .i64 B.c) ∧ w'.cell? ⟨gl, off + nb * 6 + 4, none⟩ = some (.int .i64 B.k) ∧ w'.cell? ⟨gl, off + nb * 6 + 5, none⟩ = some (.int .i64 B.s)))
    (first | exact ⟨⟨w2, n1, n2⟩, ⟨a0, a1, a2, a3, a4, a5⟩, ⟨b0, b1, b2, b3, b4, b5⟩⟩ | go_keep) (fail)
  all_goals clear a0 a1 a2 a3 a4 a5 b0 b1 b2 b3 b4 b5 n0 n1 n2 n3 n4 n5 w2 hbl cta ctb hnl hgl
  · obtain ⟨V2, hV2⟩ : ∃ V2, ((V1.alloc (.cells (ia A) 39)).alloc (.cells (ia B) 39)).drew = V2 := ⟨_, rfl⟩
    rw [hV2]
    obtain ⟨ga, hx1⟩ : ∃ g, V1.heap.size = g := ⟨_, rfl⟩
    obtain ⟨gb, hy1⟩ : ∃ g, ga + 1 = g := ⟨_, rfl⟩
    have HQ2 : Hid (Qk W V V2 b gn ga gb f dd out (.slice (some ⟨gl, off, none⟩) wn wc) (.slice sa sn sc) mv (.slice (some ⟨gt, 0, none⟩) T.length ct) M T n A B) := hide (by rw [← hV2, ← hy1, ← hx1]; exact ⟨((HF0.out.below (bel1 _ _)).below (bel1 _ _)).below (below_drew _), ((HN0.out.below (bel1 _ _)).below (bel1 _ _)).below (below_drew _), ((HasC.new V1 39 (ia A)).alloc _).below (below_drew _), (has_n1 V1 _ 39 (ia B)).below (below_drew _), bel (bel (bel HB1.out (bel1 _ _)) (bel1 _ _)) (below_drew _), fun hk => by have := (HF0.out.m.lt _ hk).2; omega⟩)
    rw [hx1, hy1]
    clear hx1 hy1 hV2
    have w6 := HQ2.out.m.w.cell 6 rfl
    have cta := HQ2.out.m.at HJa.out
    have ctb := HQ2.out.m.at HJb.out
    rw [HXa2.out] at cta
    rw [HXb2.out] at ctb
    obtain ⟨n0, n1, n2, n3, n4, n5⟩ := six_of HQ2.out.n
    rw [HEa.out] at n1
    rw [HEb.out] at n2
    obtain ⟨tl, htl'⟩ : ∃ tl, T.length = tl := ⟨_, rfl⟩
    rw [htl'] at w6 htl
    have ia2 : (na : Int) < tl := by have := HJa.out; omega
    have ib2 : (nb : Int) < tl := by have := HJb.out; omega
    clear htl' HF0 HN0 HB1
    go_wp2_with fail
    go_quiet (fail)
    have HQ3 := hide (HQ2.out.below (Cde.below_dN V2 nq))
    generalize V2.drewN nq = V3 at *
    clear HQ2 w6 cta ctb n0 n1 n2 n3 n4 n5
    have HL3 := hide (low_of HLe1.out HQ3.out.lo)
    obtain ⟨n0, n1, n2, n3, n4, n5⟩ := six_of HQ3.out.n
    rw [HEa.out] at n1
    rw [HEb.out] at n2
    obtain ⟨a0, a1, a2, a3, a4, a5⟩ := six_of HQ3.out.a
    obtain ⟨b0, b1, b2, b3, b4, b5⟩ := six_of HQ3.out.b
    have hO := HOq.out
    clear HOq
    by_cases hB1 : B.op = 1
    · rw [if_pos hB1] at hO
      have tB : (B.op != 1) = false := by simpa using hB1
      by_cases hk : B.k < 2
      · rw [dvL_few hk, if_neg (by have := pw_few hk; omega)] at hO
        have HO := hide hO.symm
        have tK : decide (B.k < 2) = true := by simpa using hk
        clear hO hB1 hk
        go_wp2_with fail
        exact bodyPost_ret (v := .tuple #[.int .i64 0, .bool false]) (by simp [results, Tryz.results15, go_sem]) rfl (QmP.no HO.out HQ3.out.lo)
      · have hBk := (HW.out hB1).2
        have HDv := hide fun (X : World) (hX : Mt W X b f dd out (.slice (some ⟨gl, off, none⟩) wn wc) (.slice sa sn sc) mv (.slice (some ⟨gt, 0, none⟩) T.length ct) M T) => (mdivide_k (na : Int) B.k ⟨by omega, hBk⟩ hX HSI.out HTs.out HM.out HIa.out (lo := (S.getD ((na : Int)).toNat (0, 0)).1) (hi := (S.getD ((na : Int)).toNat (0, 0)).2) rfl HSw.out)
        have tK : decide (B.k < 2) = false := by simp; omega
        rw [HXa.out] at HDv
        obtain ⟨lo, hlo⟩ : ∃ lo, (S.getD ((na : Int)).toNat (0, 0)).1 = lo := ⟨_, rfl⟩
        obtain ⟨hi, hhi⟩ : ∃ hi, (S.getD ((na : Int)).toNat (0, 0)).2 = hi := ⟨_, rfl⟩
        have HPw := hide fun w => gpower_any B.k w
        obtain ⟨p, hp⟩ : ∃ p, pwZ B.k = p := ⟨_, rfl⟩
        rw [hp] at HPw
        obtain ⟨gs, offs, rfl, hgs, hsc⟩ := (HSI.out.later HQ3.out.m.lo).at (by have := HTs.out; omega)
        obtain ⟨c0, c1⟩ := hsc na (by have := HTs.out; omega)
        rw [show (S.getD na (0, 0)).1 = lo from hlo] at c0
        have w4 := HQ3.out.m.w.cell 4 rfl
        have isn : (na : Int) < sn := by have := HTs.out; omega
        have hsn := HSI.out.le
        have hsn2 := HSI.out.max
        unfold maxLen at hsn2
        clear hsc hB1
        obtain ⟨D, hD⟩ : ∃ D, dvL lo hi xa B.k m = D := ⟨_, rfl⟩
        have HDl : Hid (∀ Q, D = some Q → Q.length ≤ 4) := hide fun Q hq => dvL_len (hD.trans hq)
        rw [hlo, hhi, hp, hD] at hO
        rw [hlo, hhi, HMl.out, hD] at HDv
        clear hlo hhi hp hD
        by_cases h1 : 0 < p ∧ 0 ≤ lo
        · rw [if_pos h1] at hO
          have HO := hide hO.symm
          have u1 : decide (0 < p) = true := by simpa using h1.1
          have u2 : decide (0 ≤ lo) = true := by simpa using h1.2
          clear hO h1 HDv
          go_wp2_with fail
          go_quiet ((go_at_call 34; exact Calls.quiet_of_same (HPw.out _)))
          have HQ4 := hide (HQ3.out.below (dn_below V3 nq))
          generalize V3.drewN nq = V3b at *
          clear HQ3 HL3 n0 n1 n2 n3 n4 n5 a0 a1 a2 a3 a4 a5 b0 b1 b2 b3 b4 b5 c0 c1 w4
          have HQ3 := HQ4
          clear HQ4
          have HL3 := hide (low_of HLe1.out HQ3.out.lo)
          obtain ⟨n0, n1, n2, n3, n4, n5⟩ := six_of HQ3.out.n
          rw [HEa.out] at n1
          rw [HEb.out] at n2
          obtain ⟨a0, a1, a2, a3, a4, a5⟩ := six_of HQ3.out.a
          obtain ⟨b0, b1, b2, b3, b4, b5⟩ := six_of HQ3.out.b
          have HU := hide (mput_z 31 xa 0 (B.k - 1) 0 HQ3.out.m HMl.out (by have := HM.out; omega))
          go_wp2_with fail
          refine HU.out.mono ?_
          rintro e V4 ⟨rfl, hw, hb, -⟩
          have HB4 := hide (HL3.out.trans hb)
          have HW4 := hide hw
          clear hw hb HU
          go_wp2_with fail
          exact bodyPost_ret (v := .tuple #[.int .i64 m, .bool true]) (by simp [results, Tryz.results15, go_sem]) rfl (QmP.many [⟨31, xa, 0, 0, (B.k - 1), 0⟩] HO.out (by have := HMl.out; simp; omega) HW4.out HB4.out)
        · rw [if_neg h1] at hO
          have hno : decide (0 < p) = false ∨ (decide (0 < p) = true ∧ decide (0 ≤ lo) = false) := by
            by_cases h2 : 0 < p
            · exact .inr ⟨by simpa using h2, by simp; omega⟩
            · exact .inl (by simpa using h2)
          clear h1
          rcases hno with u1 | ⟨u1, u2⟩
          all_goals
            go_wp2_with fail
            go_quiet ((go_at_call 34; exact Calls.quiet_of_same (HPw.out _)))
            have HQ4 := hide (HQ3.out.below (dn_below V3 nq))
            generalize V3.drewN nq = V3b at *
            clear HQ3 HL3 n0 n1 n2 n3 n4 n5 a0 a1 a2 a3 a4 a5 b0 b1 b2 b3 b4 b5 c0 c1 w4
            have HQ3 := HQ4
            clear HQ4
            have HL3 := hide (low_of HLe1.out HQ3.out.lo)
            obtain ⟨n0, n1, n2, n3, n4, n5⟩ := six_of HQ3.out.n
            rw [HEa.out] at n1
            rw [HEb.out] at n2
            obtain ⟨a0, a1, a2, a3, a4, a5⟩ := six_of HQ3.out.a
            obtain ⟨b0, b1, b2, b3, b4, b5⟩ := six_of HQ3.out.b
            have HDv2 := hide (HDv.out _ HQ3.out.m)
            go_wp2_with fail
            refine HDv2.out.mono ?_
            clear HDv HDv2
            rintro e V4 (⟨Q, h1, rfl, ⟨mv4, h3, hkn⟩, h4⟩ | ⟨h1, rfl, h3⟩)
            · obtain ⟨z, hz⟩ : ∃ z : Int, ((M.length + Q.length : Nat) : Int) - 1 = z := ⟨_, rfl⟩
              rw [hz]
              have HZ := hide hz
              obtain ⟨z1, hz1⟩ : ∃ z1 : Int, ((M ++ Q).length : Int) = z1 := ⟨_, rfl⟩
              have HZ1 := hide hz1
              have HQl : Hid (Q.length ≤ 4) := hide (HDl.out Q h1)
              have HO := hide (show O = some (Q ++ [tmI (m + Q.length - 1) B.k, ⟨9, xa, m + Q.length, 0, 0, 0⟩]) by rw [← hO, h1]; rfl)
              have HT2 := hide (mtimes_z z B.k h3 hz1 (by have := HM.out; have := HQl.out; simp; omega))
              have HL4 := hide (HL3.out.trans h4)
              obtain ⟨g0, g1, g2, g3, g4, g5⟩ := six_of (hkn gb B HQ3.out.b HQ3.out.ne).1
              clear h1 h3 h4 hz hz1 hO hkn n0 n1 n2 n3 n4 n5 a0 a1 a2 a3 a4 a5 b0 b1 b2 b3 b4 b5
              go_wp2_with fail
              refine HT2.out.mono ?_
              rintro e V5 ⟨rfl, ⟨mv5, h3⟩, h4⟩
              obtain ⟨z2, hz2⟩ : ∃ z2 : Int, ((M ++ Q ++ [tmI z B.k]).length : Int) = z2 := ⟨_, rfl⟩
              have HU := hide (mput_z 9 xa z1 0 0 h3 hz2 (by have := HM.out; have := HQl.out; simp; omega))
              have HL5 := hide (HL4.out.trans h4)
              have HZ2 := hide hz2
              clear h3 h4 hz2 HT2 g0 g1 g2 g3 g4 g5
              go_wp2_with fail
              refine HU.out.mono ?_
              rintro e V6 ⟨rfl, ⟨mv6, h3⟩, h4, -⟩
              have HF6 := hide h3
              have HL6 := hide (HL5.out.trans h4)
              clear h3 h4 HU
              go_wp2_with fail
              refine bodyPost_ret (v := .tuple #[.int .i64 z2, .bool true]) (by simp [results, Tryz.results15, go_sem]) rfl (QmP.many (Q ++ [tmI z B.k, ⟨9, xa, z1, 0, 0, 0⟩]) ?_ ?_ ⟨mv6, by simpa using HF6.out⟩ HL6.out)
              · rw [HO.out]
                have e1 := HZ.out
                have e2 := HZ1.out
                have e0 := HMl.out
                have e3 : m + Q.length - 1 = z := by omega
                have e4 : m + Q.length = z1 := by rw [List.length_append] at e2; omega
                rw [e3, e4]
              · have e2 := HZ2.out
                simp at e2 ⊢
                omega
            · have HO := hide (show O = none by rw [← hO, h1]; rfl)
              have HB := hide (bel HQ3.out.lo h3)
              clear h1 h3 hO
              go_wp2_with fail
              exact bodyPost_ret (v := .tuple #[.int .i64 0, .bool false]) (by simp [results, Tryz.results15, go_sem]) rfl (QmP.no HO.out HB.out)
    · rw [if_neg hB1] at hO
      have HO := hide hO.symm
      have tB : (B.op != 1) = true := by simpa using hB1
      clear hO hB1
      go_wp2_with fail
      exact bodyPost_ret (v := .tuple #[.int .i64 0, .bool false]) (by simp [results, Tryz.results15, go_sem]) rfl (QmP.no HO.out HQ3.out.lo)
  · obtain ⟨V2, hV2⟩ : ∃ V2, ((V1.alloc (.cells (ia B) 39)).alloc (.cells (ia A) 39)).drew = V2 := ⟨_, rfl⟩
    rw [hV2]
    obtain ⟨gb, hx1⟩ : ∃ g, V1.heap.size = g := ⟨_, rfl⟩
    obtain ⟨ga, hy1⟩ : ∃ g, gb + 1 = g := ⟨_, rfl⟩
    have HQ2 : Hid (Qk W V V2 b gn ga gb f dd out (.slice (some ⟨gl, off, none⟩) wn wc) (.slice sa sn sc) mv (.slice (some ⟨gt, 0, none⟩) T.length ct) M T n A B) := hide (by rw [← hV2, ← hy1, ← hx1]; exact ⟨((HF0.out.below (bel1 _ _)).below (bel1 _ _)).below (below_drew _), ((HN0.out.below (bel1 _ _)).below (bel1 _ _)).below (below_drew _), (has_n1 V1 _ 39 (ia A)).below (below_drew _), ((HasC.new V1 39 (ia B)).alloc _).below (below_drew _), bel (bel (bel HB1.out (bel1 _ _)) (bel1 _ _)) (below_drew _), fun hk => by have := (HF0.out.m.lt _ hk).2; omega⟩)
    rw [hx1, hy1]
    clear hx1 hy1 hV2
    have w6 := HQ2.out.m.w.cell 6 rfl
    have cta := HQ2.out.m.at HJa.out
    have ctb := HQ2.out.m.at HJb.out
    rw [HXa2.out] at cta
    rw [HXb2.out] at ctb
    obtain ⟨n0, n1, n2, n3, n4, n5⟩ := six_of HQ2.out.n
    rw [HEa.out] at n1
    rw [HEb.out] at n2
    obtain ⟨tl, htl'⟩ : ∃ tl, T.length = tl := ⟨_, rfl⟩
    rw [htl'] at w6 htl
    have ia2 : (na : Int) < tl := by have := HJa.out; omega
    have ib2 : (nb : Int) < tl := by have := HJb.out; omega
    clear htl' HF0 HN0 HB1
    go_wp2_with fail
    go_quiet (fail)
    have HQ3 := hide (HQ2.out.below (Cde.below_dN V2 nq))
    generalize V2.drewN nq = V3 at *
    clear HQ2 w6 cta ctb n0 n1 n2 n3 n4 n5
    have HL3 := hide (low_of HLe1.out HQ3.out.lo)
    obtain ⟨n0, n1, n2, n3, n4, n5⟩ := six_of HQ3.out.n
    rw [HEa.out] at n1
    rw [HEb.out] at n2
    obtain ⟨a0, a1, a2, a3, a4, a5⟩ := six_of HQ3.out.a
    obtain ⟨b0, b1, b2, b3, b4, b5⟩ := six_of HQ3.out.b
    have hO := HOq.out
    clear HOq
    by_cases hB1 : B.op = 1
    · rw [if_pos hB1] at hO
      have tB : (B.op != 1) = false := by simpa using hB1
      by_cases hk : B.k < 2
      · rw [dvL_few hk, if_neg (by have := pw_few hk; omega)] at hO
        have HO := hide hO.symm
        have tK : decide (B.k < 2) = true := by simpa using hk
        clear hO hB1 hk
        go_wp2_with fail
        exact bodyPost_ret (v := .tuple #[.int .i64 0, .bool false]) (by simp [results, Tryz.results15, go_sem]) rfl (QmP.no HO.out HQ3.out.lo)
      · have hBk := (HW.out hB1).2
        have HDv := hide fun (X : World) (hX : Mt W X b f dd out (.slice (some ⟨gl, off, none⟩) wn wc) (.slice sa sn sc) mv (.slice (some ⟨gt, 0, none⟩) T.length ct) M T) => (mdivide_k (na : Int) B.k ⟨by omega, hBk⟩ hX HSI.out HTs.out HM.out HIa.out (lo := (S.getD ((na : Int)).toNat (0, 0)).1) (hi := (S.getD ((na : Int)).toNat (0, 0)).2) rfl HSw.out)
        have tK : decide (B.k < 2) = false := by simp; omega
        rw [HXa.out] at HDv
        obtain ⟨lo, hlo⟩ : ∃ lo, (S.getD ((na : Int)).toNat (0, 0)).1 = lo := ⟨_, rfl⟩
        obtain ⟨hi, hhi⟩ : ∃ hi, (S.getD ((na : Int)).toNat (0, 0)).2 = hi := ⟨_, rfl⟩
        have HPw := hide fun w => gpower_any B.k w
        obtain ⟨p, hp⟩ : ∃ p, pwZ B.k = p := ⟨_, rfl⟩
        rw [hp] at HPw
        obtain ⟨gs, offs, rfl, hgs, hsc⟩ := (HSI.out.later HQ3.out.m.lo).at (by have := HTs.out; omega)
        obtain ⟨c0, c1⟩ := hsc na (by have := HTs.out; omega)
        rw [show (S.getD na (0, 0)).1 = lo from hlo] at c0
        have w4 := HQ3.out.m.w.cell 4 rfl
        have isn : (na : Int) < sn := by have := HTs.out; omega
        have hsn := HSI.out.le
        have hsn2 := HSI.out.max
        unfold maxLen at hsn2
        clear hsc hB1
        obtain ⟨D, hD⟩ : ∃ D, dvL lo hi xa B.k m = D := ⟨_, rfl⟩
        have HDl : Hid (∀ Q, D = some Q → Q.length ≤ 4) := hide fun Q hq => dvL_len (hD.trans hq)
        rw [hlo, hhi, hp, hD] at hO
        rw [hlo, hhi, HMl.out, hD] at HDv
        clear hlo hhi hp hD
        by_cases h1 : 0 < p ∧ 0 ≤ lo
        · rw [if_pos h1] at hO
          have HO := hide hO.symm
          have u1 : decide (0 < p) = true := by simpa using h1.1
          have u2 : decide (0 ≤ lo) = true := by simpa using h1.2
          clear hO h1 HDv
          go_wp2_with fail
          go_quiet ((go_at_call 34; exact Calls.quiet_of_same (HPw.out _)))
          have HQ4 := hide (HQ3.out.below (dn_below V3 nq))
          generalize V3.drewN nq = V3b at *
          clear HQ3 HL3 n0 n1 n2 n3 n4 n5 a0 a1 a2 a3 a4 a5 b0 b1 b2 b3 b4 b5 c0 c1 w4
          have HQ3 := HQ4
          clear HQ4
          have HL3 := hide (low_of HLe1.out HQ3.out.lo)
          obtain ⟨n0, n1, n2, n3, n4, n5⟩ := six_of HQ3.out.n
          rw [HEa.out] at n1
          rw [HEb.out] at n2
          obtain ⟨a0, a1, a2, a3, a4, a5⟩ := six_of HQ3.out.a
          obtain ⟨b0, b1, b2, b3, b4, b5⟩ := six_of HQ3.out.b
          have HU := hide (mput_z 31 xa 0 (B.k - 1) 0 HQ3.out.m HMl.out (by have := HM.out; omega))
          go_wp2_with fail
          refine HU.out.mono ?_
          rintro e V4 ⟨rfl, hw, hb, -⟩
          have HB4 := hide (HL3.out.trans hb)
          have HW4 := hide hw
          clear hw hb HU
          go_wp2_with fail
          exact bodyPost_ret (v := .tuple #[.int .i64 m, .bool true]) (by simp [results, Tryz.results15, go_sem]) rfl (QmP.many [⟨31, xa, 0, 0, (B.k - 1), 0⟩] HO.out (by have := HMl.out; simp; omega) HW4.out HB4.out)
        · rw [if_neg h1] at hO
          have hno : decide (0 < p) = false ∨ (decide (0 < p) = true ∧ decide (0 ≤ lo) = false) := by
            by_cases h2 : 0 < p
            · exact .inr ⟨by simpa using h2, by simp; omega⟩
            · exact .inl (by simpa using h2)
          clear h1
          rcases hno with u1 | ⟨u1, u2⟩
          all_goals
            go_wp2_with fail
            go_quiet ((go_at_call 34; exact Calls.quiet_of_same (HPw.out _)))
            have HQ4 := hide (HQ3.out.below (dn_below V3 nq))
            generalize V3.drewN nq = V3b at *
            clear HQ3 HL3 n0 n1 n2 n3 n4 n5 a0 a1 a2 a3 a4 a5 b0 b1 b2 b3 b4 b5 c0 c1 w4
            have HQ3 := HQ4
            clear HQ4
            have HL3 := hide (low_of HLe1.out HQ3.out.lo)
            obtain ⟨n0, n1, n2, n3, n4, n5⟩ := six_of HQ3.out.n
            rw [HEa.out] at n1
            rw [HEb.out] at n2
            obtain ⟨a0, a1, a2, a3, a4, a5⟩ := six_of HQ3.out.a
            obtain ⟨b0, b1, b2, b3, b4, b5⟩ := six_of HQ3.out.b
            have HDv2 := hide (HDv.out _ HQ3.out.m)
            go_wp2_with fail
            refine HDv2.out.mono ?_
            clear HDv HDv2
            rintro e V4 (⟨Q, h1, rfl, ⟨mv4, h3, hkn⟩, h4⟩ | ⟨h1, rfl, h3⟩)
            · obtain ⟨z, hz⟩ : ∃ z : Int, ((M.length + Q.length : Nat) : Int) - 1 = z := ⟨_, rfl⟩
              rw [hz]
              have HZ := hide hz
              obtain ⟨z1, hz1⟩ : ∃ z1 : Int, ((M ++ Q).length : Int) = z1 := ⟨_, rfl⟩
              have HZ1 := hide hz1
              have HQl : Hid (Q.length ≤ 4) := hide (HDl.out Q h1)
              have HO := hide (show O = some (Q ++ [tmI (m + Q.length - 1) B.k, ⟨9, xa, m + Q.length, 0, 0, 0⟩]) by rw [← hO, h1]; rfl)
              have HT2 := hide (mtimes_z z B.k h3 hz1 (by have := HM.out; have := HQl.out; simp; omega))
              have HL4 := hide (HL3.out.trans h4)
              obtain ⟨g0, g1, g2, g3, g4, g5⟩ := six_of (hkn gb B HQ3.out.b HQ3.out.ne).1
              clear h1 h3 h4 hz hz1 hO hkn n0 n1 n2 n3 n4 n5 a0 a1 a2 a3 a4 a5 b0 b1 b2 b3 b4 b5
              go_wp2_with fail
              refine HT2.out.mono ?_
              rintro e V5 ⟨rfl, ⟨mv5, h3⟩, h4⟩
              obtain ⟨z2, hz2⟩ : ∃ z2 : Int, ((M ++ Q ++ [tmI z B.k]).length : Int) = z2 := ⟨_, rfl⟩
              have HU := hide (mput_z 9 xa z1 0 0 h3 hz2 (by have := HM.out; have := HQl.out; simp; omega))
              have HL5 := hide (HL4.out.trans h4)
              have HZ2 := hide hz2
              clear h3 h4 hz2 HT2 g0 g1 g2 g3 g4 g5
              go_wp2_with fail
              refine HU.out.mono ?_
              rintro e V6 ⟨rfl, ⟨mv6, h3⟩, h4, -⟩
              have HF6 := hide h3
              have HL6 := hide (HL5.out.trans h4)
              clear h3 h4 HU
              go_wp2_with fail
              refine bodyPost_ret (v := .tuple #[.int .i64 z2, .bool true]) (by simp [results, Tryz.results15, go_sem]) rfl (QmP.many (Q ++ [tmI z B.k, ⟨9, xa, z1, 0, 0, 0⟩]) ?_ ?_ ⟨mv6, by simpa using HF6.out⟩ HL6.out)
              · rw [HO.out]
                have e1 := HZ.out
                have e2 := HZ1.out
                have e0 := HMl.out
                have e3 : m + Q.length - 1 = z := by omega
                have e4 : m + Q.length = z1 := by rw [List.length_append] at e2; omega
                rw [e3, e4]
              · have e2 := HZ2.out
                simp at e2 ⊢
                omega
            · have HO := hide (show O = none by rw [← hO, h1]; rfl)
              have HB := hide (bel HQ3.out.lo h3)
              clear h1 h3 hO
              go_wp2_with fail
              exact bodyPost_ret (v := .tuple #[.int .i64 0, .bool false]) (by simp [results, Tryz.results15, go_sem]) rfl (QmP.no HO.out HB.out)
    · rw [if_neg hB1] at hO
      have HO := hide hO.symm
      have tB : (B.op != 1) = true := by simpa using hB1
      clear hO hB1
      go_wp2_with fail
      exact bodyPost_ret (v := .tuple #[.int .i64 0, .bool false]) (by simp [results, Tryz.results15, go_sem]) rfl (QmP.no HO.out HQ3.out.lo)


end Go.Proofs.Rdc

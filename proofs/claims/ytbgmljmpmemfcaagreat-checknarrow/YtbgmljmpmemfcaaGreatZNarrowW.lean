/-
  The walk of CheckNarrow.
-/
import Derived.Test.YtbgmljmpmemfcaaGreatZTaA
import Derived.Test.YtbgmljmpmemfcaaGreatZCw
import Derived.Deep.QuietTactic
import Derived.BigQuiet
namespace Go.Proofs.YtbgmljmpmemfcaaGreat
open Go.RowKit Go.IntWalk Lx Pz
set_option linter.unusedVariables false

theorem mem_snoc {P : Nd → Prop} {NS : List Nd} {k : Nat} (hk : k < NS.length) (h : ∀ n ∈ NS.take k, P n) (h2 : P (NS.getD k n0)) : ∀ n ∈ NS.take (k + 1), P n := by
  rw [take_snoc n0 hk]
  intro n hn
  rcases List.mem_append.1 hn with hn | hn
  · exact h n hn
  · simp only [List.mem_cons, List.not_mem_nil, or_false] at hn
    rw [hn]; exact h2

set_option maxRecDepth 100000 in
set_option maxHeartbeats 8000000 in
theorem narrow_walk (fo de le : Int) (s : ByteArray) (w : World) : Calls Tryz.prog 7 #[.int .i64 fo, .int .i64 de, .int .i64 le, .string s] w fun e w' => e = .returned (.bool true) ∧ Below w.heap.size w w' := by
  have HA := hide awake_any
  go_enter Tryz.func7, Tryz.ntmps7
  go_wp2_with fail
  refine (parse_full s _).mono ?_
  rintro e V1 (⟨rfl, hb⟩ | ⟨A, NM, es, ex, na, nc, ba, bc, da, dc, -, -, hD, rfl, hX, hI, hN, hb⟩)
  · have HB1 := hide (bel hb (bel1 V1 (.cells nil4 28)))
    clear hb
    go_wp2_with fail
    refine (HA.out _).mono ?_
    rintro e V2 ⟨rfl, hb⟩
    have HB2 := hide (bel HB1.out hb)
    clear hb
    go_wp2_with fail
    refine (HA.out _).mono ?_
    rintro e V3 ⟨rfl, hb⟩
    have HB3 := hide (bel HB2.out hb)
    go_wp2_with fail
    go_ret
    exact ⟨rfl, HB3.out⟩
  · have hb2 := bel1 V1 (.cells (tr4 (.slice na es.length nc) (.slice ba es.length bc) (.slice da (szL es + ex.size) dc) (.int .i64 (rootOf es ex))) 28)
    have HB1 := hide (bel hb hb2)
    have HT1 := hide (HasC.new V1 28 (tr4 (.slice na es.length nc) (.slice ba es.length bc) (.slice da (szL es + ex.size) dc) (.int .i64 (rootOf es ex))))
    have HX1 := hide (hX.later hb2)
    have HI1 := hide (hI.later hb2)
    have HN1 := hide (hN.later hb2)
    have HLN := hide hN.len
    have hfew : szL es + ex.size ≤ 1024 := by rw [← HLN.out]; exact hD.few
    have HW := hide hD.wl
    have HS := hide (nm_short hD.ok)
    clear hb hb2 hX hI hN hD
    generalize rootOf es ex = root at *
    generalize nodesOf es ex = NS at *
    generalize bdL es 0 = BS at *
    generalize szL es + ex.size = dl at *
    generalize es.length = nl at *
    go_wp2_with fail
    refine (HA.out _).mono ?_
    rintro e V2 ⟨rfl, hb⟩
    have HB2 := hide (bel HB1.out hb)
    have HT2 := hide (HT1.out.below hb)
    have HX2 := hide (HX1.out.later hb)
    have HI2 := hide (HI1.out.later hb)
    have HN2 := hide (HN1.out.later hb)
    clear hb HB1 HT1 HX1 HI1 HN1
    by_cases h1 : de < le
    · go_wp2_with fail
      refine (HA.out _).mono ?_
      rintro e V3 ⟨rfl, hb⟩
      have HB3 := hide (bel HB2.out hb)
      go_wp2_with fail
      go_ret
      exact ⟨rfl, HB3.out⟩
    by_cases h2 : le < 1
    · go_wp2_with fail
      refine (HA.out _).mono ?_
      rintro e V3 ⟨rfl, hb⟩
      have HB3 := hide (bel HB2.out hb)
      go_wp2_with fail
      go_ret
      exact ⟨rfl, HB3.out⟩
    by_cases h3 : 16 < de
    · go_wp2_with fail
      refine (HA.out _).mono ?_
      rintro e V3 ⟨rfl, hb⟩
      have HB3 := hide (bel HB2.out hb)
      go_wp2_with fail
      go_ret
      exact ⟨rfl, HB3.out⟩
    have x0 := HT2.out.cell 0 rfl
    have x1 := HT2.out.cell 1 rfl
    have x2 := HT2.out.cell 2 rfl
    have x3 := HT2.out.cell 3 rfl
    go_wp2_with fail
    go_loop [11] (fun iv => ∃ k : Nat, k ≤ dl ∧ iv = .int .i64 k ∧ Hid (∀ n ∈ NS.take k, n.op = 2 → n.k < 3)) (fun iv => dl - (intOf iv).toNat)
    case atStart => exact ⟨0, Nat.zero_le _, rfl, hide (by simp)⟩
    case round =>
      obtain ⟨k, hk, rfl, HP⟩ := hrel
      by_cases hlt : k < dl
      · obtain ⟨g, off, rfl, hat⟩ := HN2.out.at (by omega)
        obtain ⟨e0, e1, e2, e3, e4, e5, e6, e7, e8⟩ := hat k hlt
        clear hat e1 e2 e3 e5 e6 e7 e8
        have hi0 : (0 : Int) ≤ k := by omega
        have hi1 : (k : Int) < dl := by omega
        have HSt := hide fun h2 => mem_snoc (P := fun n => n.op = 2 → n.k < 3) (by rw [HLN.out]; exact hlt : k < NS.length) HP.out h2
        generalize NS.getD k n0 = n at *
        by_cases ho : n.op = 2
        · have ho1 : (n.op == 2) = true := by simpa using ho
          by_cases hk3 : 3 ≤ n.k
          · go_wp2_with fail
            go_ret
            exact ⟨rfl, HB2.out⟩
          · have HSt2 := hide (HSt.out fun _ => by omega)
            go_wp2_with fail
            go_round
            case rel => exact ⟨k + 1, by omega, by go_num, hide HSt2.out⟩
            case measure => simp [intOf]; omega
        · have ho1 : (n.op == 2) = false := by simpa using ho
          have HSt2 := hide (HSt.out fun h => absurd h ho)
          go_wp2_with fail
          go_round
          case rel => exact ⟨k + 1, by omega, by go_num, hide HSt2.out⟩
          case measure => simp [intOf]; omega
      · obtain rfl : k = dl := by omega
        have e : NS.take k = NS := List.take_of_length_le (by rw [HLN.out]; exact Nat.le_refl _)
        have HP2 : Hid (∀ n ∈ NS, n.op = 2 → n.k < 3) := hide (by have := HP.out; rwa [e] at this)
        have HC := hide (ccheck_any fo de (root := root) HX2.out HI2.out HN2.out HS.out)
        have H16 := hide (show le ≤ de ∧ 1 ≤ le ∧ de ≤ 16 from ⟨by omega, by omega, by omega⟩)
        clear e HP h1 h2 h3
        go_wp2_with fail
        refine HC.out.mono ?_
        rintro e V3 (⟨he, rfl, hb⟩ | ⟨he, g1, rfl, hg1, hG1, hb⟩)
        · have hb3 := bel hb (bel1 V3 (.cells rep0 32))
          have HC2 := hide (ccheck_any fo le (root := root) (HX2.out.later hb3) (HI2.out.later hb3) (HN2.out.later hb3) HS.out)
          have HT3 := hide (HT2.out.below hb3)
          have y0 := HT3.out.cell 0 rfl
          have y1 := HT3.out.cell 1 rfl
          have y2 := HT3.out.cell 2 rfl
          have y3 := HT3.out.cell 3 rfl
          have hzz := (HT2.out.below hb).lt
          have z0 := (HT2.out.below hb).cell 0 rfl
          have z1 := (HT2.out.below hb).cell 1 rfl
          have z2 := (HT2.out.below hb).cell 2 rfl
          have z3 := (HT2.out.below hb).cell 3 rfl
          have HB3 := hide (bel HB2.out hb3)
          have hne : (ckE fo de NM BS NS root != 0) = true := by simpa using he
          generalize ckE fo de NM BS NS root = er at *
          clear hb hb3 HC
          go_wp2_with fail
          refine HC2.out.mono ?_
          rintro e V4 (⟨he2, rfl, hb⟩ | ⟨he2, g2, rfl, hg2, hG2, hb⟩)
          · have HB4 := hide (bel (bel HB3.out hb) (bel1 V4 (.cells rep0 32)))
            clear hb he2
            go_wp2_with fail
            go_ret
            exact ⟨rfl, HB4.out⟩
          · have HB4 := hide (bel (bel HB3.out hb) (bel1 V4 (.cells #[.slice (some ⟨g2, 0, none⟩) NS.length NS.length, .int .i64 (coR NS), .int .i64 (mxR (dpR BS NS []))] 32)))
            clear hb he2
            go_wp2_with fail
            go_ret
            exact ⟨rfl, HB4.out⟩
        · obtain ⟨q1, q2, q3⟩ := H16.out
          have hm := (ck_zero.1 he).1
          obtain ⟨he2, hNr⟩ := ck_narrow (f := fo) (d := de) (d' := le) ⟨hm.1, q2, by omega⟩ q1 HW.out HP2.out he
          have hl1 := spR_len (show spR fo de BS NS [] = ((spR fo de BS NS []).1, 0) from Prod.ext rfl (ck_zero.1 he).2.2.2.1)
          have hl1' : (spR fo de BS NS []).1.length = k := by rw [hl1, HLN.out]; simp
          obtain ⟨SA, hSA⟩ : ∃ SA, (spR fo de BS NS []).1 = SA := ⟨_, rfl⟩
          obtain ⟨SB, hSB⟩ : ∃ SB, (spR fo le BS NS []).1 = SB := ⟨_, rfl⟩
          rw [hSA] at hG1 hl1' hNr
          rw [hSB] at hNr
          have HNr := hide hNr
          have hb3 := bel hb (bel1 V3 (.cells #[.slice (some ⟨g1, 0, none⟩) k k, .int .i64 (coR NS), .int .i64 (mxR (dpR BS NS []))] 32))
          have HC2 := hide (ccheck_any fo le (root := root) (HX2.out.later hb3) (HI2.out.later hb3) (HN2.out.later hb3) HS.out)
          have HT3 := hide (HT2.out.below hb3)
          have hzz := (HT2.out.below hb).lt
          have z0 := (HT2.out.below hb).cell 0 rfl
          have z1 := (HT2.out.below hb).cell 1 rfl
          have z2 := (HT2.out.below hb).cell 2 rfl
          have z3 := (HT2.out.below hb).cell 3 rfl
          have HB3 := hide (bel HB2.out hb3)
          have HG1 := hide (hG1.alloc (.cells #[.slice (some ⟨g1, 0, none⟩) k k, .int .i64 (coR NS), .int .i64 (mxR (dpR BS NS []))] 32))
          have HR1 := hide (HasC.new V3 32 #[.slice (some ⟨g1, 0, none⟩) k k, .int .i64 (coR NS), .int .i64 (mxR (dpR BS NS []))])
          rw [HLN.out]
          clear hb hb3 HC hG1 hl1 hm hNr he q1 q2 q3
          obtain ⟨co, hco⟩ : ∃ co, coR NS = co := ⟨_, rfl⟩
          obtain ⟨mx, hmx⟩ : ∃ mx, mxR (dpR BS NS []) = mx := ⟨_, rfl⟩
          rw [hco, hmx] at HB3 HG1 HR1 HC2 HT3 ⊢
          go_wp2_with fail
          refine HC2.out.mono ?_
          rintro e V4 (⟨he3, rfl, hb⟩ | ⟨he3, g2, rfl, hg2, hG2, hb⟩)
          · exact absurd he2 he3
          · rw [HLN.out, hco, hmx]
            rw [hSB] at hG2
            have HR1a := hide (HR1.out.below hb)
            have HG1a := hide (HG1.out.below hb)
            have HT4 := hide (HT3.out.below hb)
            obtain ⟨r0, r1, r2, -, -, -⟩ := three_of HR1a.out
            have lr := HR1a.out.lt
            have lg1 := HG1a.out.lt
            have lg2 := hG2.lt
            have lt4 := HT4.out.lt
            have t2 := HT4.out.cell 2 rfl
            have HB4 := hide (bel (bel HB3.out hb) (bel1 V4 (.cells #[.slice (some ⟨g2, 0, none⟩) k k, .int .i64 co, .int .i64 mx] 32)))
            have HG2 := hide hG2
            have HL1 := hide hl1'
            clear hb hG2 HR1 HG1 HT3 HC2 he2 he3 hg1 hg2 hco hmx hSA hSB hl1' z0 z1 z2 z3
            go_wp2_with fail
            have KR1 := hide (HR1a.out.alloc (.cells #[.slice (some ⟨g2, 0, none⟩) k k, .int .i64 co, .int .i64 mx] 32))
            have KG1 := hide (HG1a.out.alloc (.cells #[.slice (some ⟨g2, 0, none⟩) k k, .int .i64 co, .int .i64 mx] 32))
            have KG2 := hide (HG2.out.alloc (.cells #[.slice (some ⟨g2, 0, none⟩) k k, .int .i64 co, .int .i64 mx] 32))
            have KR2 := hide (HasC.new V4 32 #[.slice (some ⟨g2, 0, none⟩) k k, .int .i64 co, .int .i64 mx])
            obtain ⟨W5, hW5⟩ : ∃ W5, V4.alloc (.cells #[.slice (some ⟨g2, 0, none⟩) k k, .int .i64 co, .int .i64 mx] 32) = W5 := ⟨_, rfl⟩
            rw [hW5] at KR1 KG1 KG2 KR2 HB4 ⊢
            clear hW5 HR1a HG1a HG2 HT4 r0 r1 r2 lr lg1 lg2 lt4 t2
            generalize V4.heap.size = q4 at *
            generalize V3.heap.size = q3 at *
            go_loopw [16] (fun iv wr => ∃ j : Nat, j ≤ k ∧ iv = .int .i64 j ∧ Hid (Below W5.heap.size W5 wr)) (fun iv _ => k - (intOf iv).toNat)
            case atStart => exact ⟨0, Nat.zero_le _, rfl, hide (Below.refl _ _)⟩
            case round =>
              obtain ⟨j, hj, rfl, HBw⟩ := hrel
              rename World => V
              have r1 := (KR1.out.below HBw.out).cell 0 rfl
              have r2 := (KR2.out.below HBw.out).cell 0 rfl
              by_cases hlt2 : j < k
              · obtain ⟨a0, a1⟩ := spA_get SA j (by rw [HL1.out]; exact hlt2)
                obtain ⟨b0, b1⟩ := spA_get SB j (by rw [HNr.out.1, HL1.out]; exact hlt2)
                have d0 := (KG1.out.below HBw.out).cell _ a0
                have d1 := (KG1.out.below HBw.out).cell _ a1
                have d2 := (KG2.out.below HBw.out).cell _ b0
                have d3 := (KG2.out.below HBw.out).cell _ b1
                obtain ⟨n1, -, n2⟩ := HNr.out.2 j (by rw [HL1.out]; exact hlt2)
                generalize (SA.getD j (0, 0)).1 = la at *
                generalize (SA.getD j (0, 0)).2 = ha at *
                generalize (SB.getD j (0, 0)).1 = lb at *
                generalize (SB.getD j (0, 0)).2 = hb at *
                have i0 : (0 : Int) ≤ j := by omega
                have i1 : (j : Int) < k := by omega
                have m1 : ¬ lb < la := by omega
                have m2 : ¬ ha < hb := by omega
                clear a0 a1 b0 b1 n1 n2
                go_wp2_with fail
                go_quiet (fail)
                go_wp2_with fail
                go_roundw
                case rel => exact ⟨j + 1, by omega, by go_num, hide (bel HBw.out (below_drewN _ _))⟩
                case measure => simp [intOf]; omega
              · obtain rfl : j = k := by omega
                go_wp2_with fail
                go_ret
                exact ⟨rfl, bel HB4.out HBw.out⟩

end Go.Proofs.YtbgmljmpmemfcaaGreat

/-
  The walk of CheckAhead.
-/
import Derived.Test.YtbgmljmpmemfcaaGreatZTaA
import Derived.Test.YtbgmljmpmemfcaaGreatZCw
namespace Go.Proofs.YtbgmljmpmemfcaaGreat
open Go.RowKit Go.IntWalk Lx Pz
set_option linter.unusedVariables false

theorem any_step {f d : Int} {NS : List Nd} {k : Nat} (hk : k < NS.length) : (NS.take (k + 1)).any (ahB f d) = ((NS.take k).any (ahB f d) || ahB f d (NS.getD k n0)) := by
  rw [take_snoc n0 hk, List.any_append, List.any_cons, List.any_nil, Bool.or_false]

set_option maxRecDepth 100000 in
set_option maxHeartbeats 8000000 in
theorem ahead_walk (f d : Int) (s : ByteArray) (w : World) : Calls Tryz.prog 4 #[.agg (kdA f d), .string s] w fun e w' => e = .returned (.bool true) ∧ Below w.heap.size w w' := by
  have HA := hide awake_any
  have HK0 := hide (HasC.new w 23 (kdA f d))
  have HB0 := hide (bel1 w (.cells (kdA f d) 23))
  go_enter Tryz.func4, Tryz.ntmps4
  go_wp2_with fail
  refine (parse_full s _).mono ?_
  rintro e V1 (⟨rfl, hb⟩ | ⟨A, NM, es, ex, na, nc, ba, bc, da, dc, -, -, hD, rfl, hX, hI, hN, hb⟩)
  · have HB1 := hide (bel (bel HB0.out hb) (bel1 V1 (.cells nil4 28)))
    clear hb
    go_wp2_with fail
    refine (HA.out _).mono ?_
    rintro e V2 ⟨rfl, hb⟩
    have HB2 := hide (bel HB1.out hb)
    clear hb
    go_wp2_with fail
    refine (HA.out _).mono ?_
    rintro e V3 ⟨rfl, hb⟩
    have HB3 := hide (bel HB2.out hb)
    go_wp2_with fail
    go_ret
    exact ⟨rfl, HB3.out⟩
  · have hb2 := bel1 V1 (.cells (tr4 (.slice na es.length nc) (.slice ba es.length bc) (.slice da (szL es + ex.size) dc) (.int .i64 (rootOf es ex))) 28)
    have HB1 := hide (bel (bel HB0.out hb) hb2)
    have HK1 := hide ((HK0.out.below hb).alloc (.cells (tr4 (.slice na es.length nc) (.slice ba es.length bc) (.slice da (szL es + ex.size) dc) (.int .i64 (rootOf es ex))) 28))
    have HT1 := hide (HasC.new V1 28 (tr4 (.slice na es.length nc) (.slice ba es.length bc) (.slice da (szL es + ex.size) dc) (.int .i64 (rootOf es ex))))
    have HX1 := hide (hX.later hb2)
    have HI1 := hide (hI.later hb2)
    have HN1 := hide (hN.later hb2)
    have HD := hide hD
    have hqlt : w.heap.size < V1.heap.size := by have := (HK0.out.below hb).lt; exact this
    have HLN := hide hN.len
    have hfew : szL es + ex.size ≤ 1024 := by rw [← HLN.out]; exact hD.few
    clear hb hb2 hX hI hN hD HB0 HK0
    generalize rootOf es ex = root at *
    generalize nodesOf es ex = NS at *
    generalize bdL es 0 = BS at *
    generalize szL es + ex.size = dl at *
    generalize es.length = nl at *
    go_wp2_with fail
    refine (HA.out _).mono ?_
    rintro e V2 ⟨rfl, hb⟩
    have HB2 := hide (bel HB1.out hb)
    have HK2 := hide (HK1.out.below hb)
    have HT2 := hide (HT1.out.below hb)
    have HX2 := hide (HX1.out.later hb)
    have HI2 := hide (HI1.out.later hb)
    have HN2 := hide (HN1.out.later hb)
    obtain ⟨k0, k1, -, -⟩ := two_of HK2.out
    clear hb HB1 HK1 HT1 HX1 HI1 HN1
    by_cases hm : Knd.May f d
    · have HCK := hide fun w => Knd.check_ok f d w hm
      go_wp2_with fail
      refine (HCK.out _).mono ?_
      rintro e V3 ⟨rfl, hb⟩
      have HB3 := hide (bel HB2.out hb)
      have HK3 := hide (HK2.out.below hb)
      have HT3 := hide (HT2.out.below hb)
      have HX3 := hide (HX2.out.later hb)
      have HI3 := hide (HI2.out.later hb)
      have HN3 := hide (HN2.out.later hb)
      have HAh := hide (ck_ahead (NM := NM) (BS := BS) (NS := NS) (root := root) hm (chk_dec.2 ⟨es, ex, HD.out⟩))
      have HW := hide HD.out.wl
      have HS := hide (nm_short HD.out.ok)
      clear hb HB2 HK2 HT2 HX2 HI2 HN2 k0 k1 HCK
      go_wp2_with fail
      go_loopw [7, 8] (fun av iv wr => ∃ k : Nat, k ≤ dl ∧ iv = .int .i64 k ∧ av = .bool ((NS.take k).any (ahB f d)) ∧ Hid (Below V3.heap.size V3 wr)) (fun _ iv _ => dl - (intOf iv).toNat)
      case atStart => exact ⟨0, Nat.zero_le _, rfl, rfl, hide (Below.refl _ _)⟩
      case round =>
        obtain ⟨k, hk, rfl, rfl, HB⟩ := hrel
        rename World => V
        have x2 := (HT3.out.below HB.out).cell 2 rfl
        by_cases hlt : k < dl
        · obtain ⟨g, off, rfl, hat⟩ := (HN3.out.later HB.out).at (by omega)
          obtain ⟨e0, e1, e2, e3, e4, e5, e6, e7, e8⟩ := hat k hlt
          have HAt := hide hat
          clear hat
          have hi0 : (0 : Int) ≤ k := by omega
          have hi1 : (k : Int) < dl := by omega
          have hw := (wl_at HW.out (by rw [HLN.out]; exact hlt : k < NS.length)).wf
          have HSt := hide (any_step (f := f) (d := d) (by rw [HLN.out]; exact hlt : k < NS.length))
          obtain ⟨f0, f1⟩ : V.cell? ⟨w.heap.size, 0, none⟩ = some (.int .i64 f) ∧ V.cell? ⟨w.heap.size, 1, none⟩ = some (.int .i64 d) := ⟨(HK3.out.below HB.out).cell 0 rfl, (HK3.out.below HB.out).cell 1 rfl⟩
          have HNum := hide fun W => Knd.number_any f d (plOf (NS.getD k n0)) hw W
          unfold Knd.numV at HNum
          have HE : Hid (ahB f d (NS.getD k n0) = ((NS.getD k n0).op == 3 && !(Knd.numZ f d (plOf (NS.getD k n0))).isSome)) := hide (by unfold ahB; cases Knd.numZ f d (plOf (NS.getD k n0)) <;> rfl)
          generalize (NS.take k).any (ahB f d) = bb at *
          generalize ahB f d (NS.getD k n0) = ab1 at *
          generalize ((Knd.numZ f d (plOf (NS.getD k n0))).getD 0 : Int) = zz at *
          generalize (Knd.numZ f d (plOf (NS.getD k n0))).isSome = qq at *
          generalize NS.getD k n0 = n at *
          have hgl : g < V.heap.size := World.block_lt_of_cell? V _ e0
          have HT4 := hide (HT3.out.below HB.out)
          have HK4 := hide (HK3.out.below HB.out)
          clear hw e1 e2 e3 e4
          go_wp2_with fail
          go_region_held3 (fun w' => w'.cell? ⟨w.heap.size, 0, none⟩ = some (.int .i64 f) ∧ w'.cell? ⟨w.heap.size, 1, none⟩ = some (.int .i64 d) ∧ w'.cell? ⟨V1.heap.size, 2, none⟩ = some (.slice (some ⟨g, off, none⟩) dl dc) ∧ w'.cell? ⟨g, off + k * 9 + 5, none⟩ = some (.int .i64 n.back) ∧ w'.cell? ⟨g, off + k * 9 + 6, none⟩ = some (.int .i64 n.co) ∧ w'.cell? ⟨g, off + k * 9 + 7, none⟩ = some (.int .i64 n.x) ∧ w'.cell? ⟨g, off + k * 9 + 8, none⟩ = some (.int .i64 n.y))
            (first | exact ⟨f0, f1, x2, e5, e6, e7, e8⟩ | exact ⟨p0, p1, p2, p5, p6, p7, p8⟩ | go_keep)
            ((first
              | (go_at_call 18; refine (HNum.out _).mono ?_; rintro e V4 ⟨rfl, hb4⟩; have hb := bel (below_drew V) hb4; have HB4 := hide (bel HB.out hb); have m0 := (hb.cell (p := ⟨g, off + k * 9, none⟩) hgl).trans e0; have p5 := (hb.cell (p := ⟨g, off + k * 9 + 5, none⟩) hgl).trans e5; have p6 := (hb.cell (p := ⟨g, off + k * 9 + 6, none⟩) hgl).trans e6; have p7 := (hb.cell (p := ⟨g, off + k * 9 + 7, none⟩) hgl).trans e7; have p8 := (hb.cell (p := ⟨g, off + k * 9 + 8, none⟩) hgl).trans e8; have p2 := (HT4.out.below hb).cell 2 rfl; have p0 := (HK4.out.below hb).cell 0 rfl; have p1 := (HK4.out.below hb).cell 1 rfl; clear hb hb4)))
          all_goals
            cases bb with
            | true =>
              go_wp2_with fail
              go_roundw
              case rel => exact ⟨k + 1, by omega, by go_num, by rw [HSt.out]; rfl, hide HB4.out⟩
              case measure => simp [intOf]; omega
            | false =>
              by_cases ho : n.op = 3
              · have ho1 : (n.op == 3) = true := by simpa using ho
                have HSt2 : Hid ((NS.take (k + 1)).any (ahB f d) = !qq) := hide (by rw [HSt.out, HE.out, ho1]; simp)
                go_wp2_with fail
                go_roundw
                case rel => exact ⟨k + 1, by omega, by go_num, by rw [HSt2.out], hide HB4.out⟩
                case measure => simp [intOf]; omega
              · have ho1 : (n.op == 3) = false := by simpa using ho
                have HSt2 : Hid ((NS.take (k + 1)).any (ahB f d) = false) := hide (by rw [HSt.out, HE.out, ho1]; simp)
                go_wp2_with fail
                go_roundw
                case rel => exact ⟨k + 1, by omega, by go_num, by rw [HSt2.out], hide HB4.out⟩
                case measure => simp [intOf]; omega
        · obtain rfl : k = dl := by omega
          have e : NS.take k = NS := List.take_of_length_le (by rw [HLN.out]; exact Nat.le_refl _)
          rw [e]
          have HC := hide (ccheck_any f d (root := root) (HX3.out.later HB.out) (HI3.out.later HB.out) (HN3.out.later HB.out) HS.out)
          have HT4 := hide (HT3.out.below HB.out)
          obtain ⟨f0, f1⟩ : V.cell? ⟨w.heap.size, 0, none⟩ = some (.int .i64 f) ∧ V.cell? ⟨w.heap.size, 1, none⟩ = some (.int .i64 d) := ⟨(HK3.out.below HB.out).cell 0 rfl, (HK3.out.below HB.out).cell 1 rfl⟩
          have y0 := HT4.out.cell 0 rfl
          have y1 := HT4.out.cell 1 rfl
          have y3 := HT4.out.cell 3 rfl
          rw [HAh.out]
          have HB5 := hide (bel HB3.out HB.out)
          have h1 : (0 : Int) < k := by
            have := HD.out.nodes
            have h2 : 1 ≤ NS.length := by rw [this, List.length_append, E.flat_len]; have := ex.size_pos; omega
            rw [HLN.out] at h2
            omega
          go_wp2_with fail
          refine HC.out.mono ?_
          rintro e V4 (⟨he, rfl, hb⟩ | ⟨he, g, rfl, hg, hG, hb⟩)
          · have HB6 := hide (bel (bel HB5.out hb) (bel1 V4 (.cells rep0 32)))
            have he0 : (ckE f d NM BS NS root == 0) = false := by simpa using he
            generalize ckE f d NM BS NS root = er at *
            clear hb HC
            cases h11 : (er == 11) with
            | true =>
              go_wp2_with fail
              go_ret
              exact ⟨rfl, HB6.out⟩
            | false =>
              go_wp2_with fail
              go_ret
              exact ⟨rfl, HB6.out⟩
          · have HB6 := hide (bel (bel HB5.out hb) (bel1 V4 (.cells #[.slice (some ⟨g, 0, none⟩) NS.length NS.length, .int .i64 (coR NS), .int .i64 (mxR (dpR BS NS []))] 32)))
            rw [he]
            have h2 : (0 : Int) < NS.length := by rw [HLN.out]; exact h1
            clear hb HC hG he
            generalize mxR (dpR BS NS []) = mx at *
            generalize coR NS = co at *
            go_wp2_with fail
            go_ret
            exact ⟨ret_bool (show decide (0 < NS.length) = true by have := HLN.out; simp only [decide_eq_true_eq]; omega), HB6.out⟩
    · have HCK := hide fun w => Knd.check_bad f d w hm
      go_wp2_with fail
      refine (HCK.out _).mono ?_
      rintro e V3 ⟨rfl, hb⟩
      have HB3 := hide (bel HB2.out hb)
      clear hb
      go_wp2_with fail
      refine (HA.out _).mono ?_
      rintro e V4 ⟨rfl, hb⟩
      have HB4 := hide (bel HB3.out hb)
      go_wp2_with fail
      go_ret
      exact ⟨rfl, HB4.out⟩

end Go.Proofs.YtbgmljmpmemfcaaGreat

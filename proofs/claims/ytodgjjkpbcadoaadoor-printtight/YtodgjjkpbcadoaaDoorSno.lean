/-
  damaskref07.Same on two trees that differ.
-/
import Derived.Test.YtodgjjkpbcadoaaDoorSq
import Derived.Test.YtodgjjkpbcadoaaDoorRnode
import Derived.Laws.StructEq
namespace Go.Proofs.YtodgjjkpbcadoaaDoor
open Go.RowKit Go.IntWalk Lx Pz
set_option linter.unusedVariables false

theorem all_ext {α : Type} {L M : List α} (d : α) (hl : L.length = M.length) (h : ∀ j, j < L.length → L.getD j d = M.getD j d) : L = M := by
  apply List.ext_getElem hl
  intro j h1 h2
  have := h j h1
  rw [List.getD_eq_getElem?_getD, List.getD_eq_getElem?_getD, List.getElem?_eq_getElem h1, List.getElem?_eq_getElem h2] at this
  exact this
theorem all_next {α : Type} {L M : List α} {d : α} {k : Nat} (h : ∀ j, j < k → L.getD j d = M.getD j d) (h2 : L.getD k d = M.getD k d) : ∀ j, j < k + 1 → L.getD j d = M.getD j d := by
  intro j hj
  rcases Nat.lt_succ_iff_lt_or_eq.1 hj with h1 | rfl
  · exact h j h1
  · exact h2

set_option maxRecDepth 100000 in
theorem pl_run (a b c d x y z u : Int) (w : World) : (Op.equalIn 9999 53 (.agg #[.int .i64 a, .int .i64 b, .int .i64 c, .int .i64 d]) (.agg #[.int .i64 x, .int .i64 y, .int .i64 z, .int .i64 u])).run Tryd.prog w = .ok (a == x && (b == y && (c == z && d == u))) w := by
  have u3 := Tryd.underlying3
  have a3 := Tryd.isAgg3
  have z3 := Tryd.sizeOf3
  have hS : Tryd.prog.underlying 53 = some (.struct (Tryd.prog.fieldsOf 53)) := by kernel_rfl
  have hp : Tryd.prog.stoodInHeld 53 = false := by kernel_rfl
  rw [show (9999 : Nat) = 9998 + 1 from rfl, run_equalIn_agg w 9998 53 _ _ hS hp]
  simp only [Program.fieldsOf, Tryd.underlying53]
  go_simp
  by_cases h1 : a = x <;> by_cases h2 : b = y <;> by_cases h3 : c = z <;> by_cases h4 : d = u <;> simp [h1, h2, h3, h4]
set_option maxRecDepth 100000 in
theorem nd_run {n m : Nd} (h : ¬ n = m) (w : World) : (Op.equalIn 10000 55 (.agg (ndA n)) (.agg (ndA m))).run Tryd.prog w = .ok false w := by
  have u3 := Tryd.underlying3
  have a3 := Tryd.isAgg3
  have z3 := Tryd.sizeOf3
  have hS : Tryd.prog.underlying 55 = some (.struct (Tryd.prog.fieldsOf 55)) := by kernel_rfl
  have hp : Tryd.prog.stoodInHeld 55 = false := by kernel_rfl
  have hpl := pl_run n.back n.co n.x n.y m.back m.co m.x m.y
  rw [show (10000 : Nat) = 9999 + 1 from rfl, run_equalIn_agg w 9999 55 _ _ hS hp]
  simp only [Program.fieldsOf, Tryd.underlying55]
  obtain ⟨z0, z1, z2, z3, z4, z5, z6, z7, z8⟩ := n
  obtain ⟨y0, y1, y2, y3, y4, y5, y6, y7, y8⟩ := m
  simp only at hpl
  go_simp
  by_cases h0 : z0 = y0
  · by_cases h1 : z1 = y1
    · by_cases h2 : z2 = y2
      · by_cases h3 : z3 = y3
        · by_cases h4 : z4 = y4
          · simp [h0, h1, h2, h3, h4]
            intro e5 e6 e7 e8
            exact h (by rw [h0, h1, h2, h3, h4, e5, e6, e7, e8])
          · simp [h0, h1, h2, h3, h4]
        · simp [h0, h1, h2, h3]
      · simp [h0, h1, h2]
    · simp [h0, h1]
  · simp [h0]

set_option maxRecDepth 100000 in
set_option maxHeartbeats 8000000 in
theorem same_no {W : World} {na ba da na2 ba2 da2 : Option Addr} {nl nc bl bc dl dc nc2 bc2 dc2 : Nat} {root : Int} {NM NM2 : List Txt} {BS BS2 : List Int} {NS NS2 : List Nd}
    (hX : Tx W na nl nc NM) (hB : Iz W ba bl bc BS) (hN : Nz W da dl dc NS) (hX2 : Tx W na2 nl nc2 NM2) (hB2 : Iz W ba2 bl bc2 BS2) (hN2 : Nz W da2 dl dc2 NS2) (hD : ¬ (NM = NM2 ∧ BS = BS2 ∧ NS = NS2)) :
    Calls Tryd.prog 10 #[.agg (tr4 (.slice na nl nc) (.slice ba bl bc) (.slice da dl dc) (.int .i64 root)), .agg (tr4 (.slice na2 nl nc2) (.slice ba2 bl bc2) (.slice da2 dl dc2) (.int .i64 root))] W fun e W' => e = .returned (.bool false) ∧ Below W.heap.size W W' := by
  have HD := hide hD
  have L1 := hide hX.len
  have L2 := hide hX2.len
  have L3 := hide hB.len
  have L4 := hide hB2.len
  have L5 := hide hN.len
  have L6 := hide hN2.len
  clear hD
  have hnl : nl ≤ 9223372036854775807 := by have := hX.le; have := hX.max; unfold maxLen at *; omega
  have hbl : bl ≤ 9223372036854775807 := by have := hB.le; have := hB.max; unfold maxLen at *; omega
  have hdl : dl ≤ 9223372036854775807 := by have := hN.le; have := hN.max; unfold maxLen at *; omega
  have HX := hide hX
  have HB := hide hB
  have HN := hide hN
  have HX2 := hide hX2
  have HB2 := hide hB2
  have HN2 := hide hN2
  clear hX hB hN hX2 hB2 hN2
  have HW0 := hide (bel (bel1 W (.cells (tr4 (.slice na nl nc) (.slice ba bl bc) (.slice da dl dc) (.int .i64 root)) 26)) (bel1 (W.alloc (.cells (tr4 (.slice na nl nc) (.slice ba bl bc) (.slice da dl dc) (.int .i64 root)) 26)) (.cells (tr4 (.slice na2 nl nc2) (.slice ba2 bl bc2) (.slice da2 dl dc2) (.int .i64 root)) 26)))
  have HC0 := hide ((HasC.new W 26 (tr4 (.slice na nl nc) (.slice ba bl bc) (.slice da dl dc) (.int .i64 root))).alloc (.cells (tr4 (.slice na2 nl nc2) (.slice ba2 bl bc2) (.slice da2 dl dc2) (.int .i64 root)) 26))
  have HC1 := hide (HasC.new (W.alloc (.cells (tr4 (.slice na nl nc) (.slice ba bl bc) (.slice da dl dc) (.int .i64 root)) 26)) 26 (tr4 (.slice na2 nl nc2) (.slice ba2 bl bc2) (.slice da2 dl dc2) (.int .i64 root)))
  rw [World.size_alloc] at HC1
  go_enter Tryd.func10, Tryd.ntmps10
  go_wp2_with fail
  go_loopw [5] (fun i wr => ∃ k : Nat, k ≤ nl ∧ i = .int .i64 k ∧ Hid (∀ q, q < k → NM.getD q [] = NM2.getD q []) ∧ Hid (Below W.heap.size W wr) ∧ Hid (HasC wr W.heap.size 26 (tr4 (.slice na nl nc) (.slice ba bl bc) (.slice da dl dc) (.int .i64 root))) ∧ Hid (HasC wr (W.heap.size + 1) 26 (tr4 (.slice na2 nl nc2) (.slice ba2 bl bc2) (.slice da2 dl dc2) (.int .i64 root)))) (fun i _ => nl - (intOf i).toNat)
  case atStart => exact ⟨0, Nat.zero_le _, rfl, hide (fun q hq => absurd hq (Nat.not_lt_zero _)), hide HW0.out, hide HC0.out, hide HC1.out⟩
  case round =>
    obtain ⟨k, hk, rfl, HA1, HWb, HD0, HD1⟩ := hrel
    rename World => V
    obtain ⟨c0, c1, c2, c3⟩ := facts4 HD0.out
    obtain ⟨d0, d1, d2, d3⟩ := facts4 HD1.out
    by_cases hlt : k < nl
    · obtain ⟨b, off, rfl, e1⟩ : ∃ b off, na = some ⟨b, off, none⟩ ∧ V.cell? ⟨b, off + k, none⟩ = some (.string (sB (NM.getD k []))) := by
        rcases (HX.out.later HWb.out).cell with h0 | ⟨b, off, ha, hc⟩
        · omega
        · exact ⟨b, off, ha, hc k hlt⟩
      obtain ⟨b2, off2, rfl, e2⟩ : ∃ b off, na2 = some ⟨b, off, none⟩ ∧ V.cell? ⟨b, off + k, none⟩ = some (.string (sB (NM2.getD k []))) := by
        rcases (HX2.out.later HWb.out).cell with h0 | ⟨b, off, ha, hc⟩
        · omega
        · exact ⟨b, off, ha, hc k hlt⟩
      by_cases he : NM.getD k [] = NM2.getD k []
      · rw [← he] at e2
        have HA2 := hide (all_next HA1.out he)
        clear he
        generalize sB (NM.getD k []) = u at *
        have hi0 : (0 : Int) ≤ k := by omega
        have hi1 : (k : Int) < nl := by omega
        go_upto_region 6 with fail
        go_quiet (fail)
        go_wp2_with fail
        go_roundw
        case rel => exact ⟨k + 1, by omega, by go_num, HA2, hide (bel HWb.out (below_drewN _ _)), hide (HD0.out.below (below_drewN _ _)), hide (HD1.out.below (below_drewN _ _))⟩
        case measure => simp [intOf]; omega
      · have hne := text_ne (s := sB (NM.getD k [])) (t := sB (NM2.getD k [])) he
        clear he HA1
        generalize sB (NM.getD k []) = u at *
        generalize sB (NM2.getD k []) = u2 at *
        have hi0 : (0 : Int) ≤ k := by omega
        have hi1 : (k : Int) < nl := by omega
        go_upto_region 6 with fail
        go_quiet (fail)
        go_wp2_with fail
        go_ret
        exact ⟨rfl, bel HWb.out (below_drewN _ _)⟩
    · obtain rfl : k = nl := by omega
      have HE1 := hide (all_ext [] (L1.out.trans L2.out.symm) (fun q hq => HA1.out q (by have := L1.out; omega)))
      clear HA1
      go_wp2_with fail
      go_loopw [6] (fun i wr => ∃ j : Nat, j ≤ bl ∧ i = .int .i64 j ∧ Hid (∀ q, q < j → BS.getD q 0 = BS2.getD q 0) ∧ Hid (Below W.heap.size W wr) ∧ Hid (HasC wr W.heap.size 26 (tr4 (.slice na k nc) (.slice ba bl bc) (.slice da dl dc) (.int .i64 root))) ∧ Hid (HasC wr (W.heap.size + 1) 26 (tr4 (.slice na2 k nc2) (.slice ba2 bl bc2) (.slice da2 dl dc2) (.int .i64 root)))) (fun i _ => bl - (intOf i).toNat)
      case atStart => exact ⟨0, Nat.zero_le _, rfl, hide (fun q hq => absurd hq (Nat.not_lt_zero _)), hide HWb.out, hide HD0.out, hide HD1.out⟩
      case round =>
        obtain ⟨j, hj, rfl, HA1, HWb, HD0, HD1⟩ := hrel
        rename World => V2
        clear c0 c1 c2 c3 d0 d1 d2 d3
        obtain ⟨c0, c1, c2, c3⟩ := facts4 HD0.out
        obtain ⟨d0, d1, d2, d3⟩ := facts4 HD1.out
        by_cases hlt : j < bl
        · obtain ⟨b, off, rfl, e1⟩ : ∃ b off, ba = some ⟨b, off, none⟩ ∧ V2.cell? ⟨b, off + j, none⟩ = some (.int .i64 (BS.getD j 0)) := by
            rcases (HB.out.later HWb.out).cell with h0 | ⟨b, off, ha, -, hc⟩
            · omega
            · exact ⟨b, off, ha, hc j hlt⟩
          obtain ⟨b2, off2, rfl, e2⟩ : ∃ b off, ba2 = some ⟨b, off, none⟩ ∧ V2.cell? ⟨b, off + j, none⟩ = some (.int .i64 (BS2.getD j 0)) := by
            rcases (HB2.out.later HWb.out).cell with h0 | ⟨b, off, ha, -, hc⟩
            · omega
            · exact ⟨b, off, ha, hc j hlt⟩
          by_cases he : BS.getD j 0 = BS2.getD j 0
          · rw [← he] at e2
            have HA2 := hide (all_next HA1.out he)
            clear he
            generalize BS.getD j 0 = u at *
            have hi0 : (0 : Int) ≤ j := by omega
            have hi1 : (j : Int) < bl := by omega
            go_upto_region 11 with fail
            go_quiet (fail)
            go_wp2_with fail
            go_roundw
            case rel => exact ⟨j + 1, by omega, by go_num, HA2, hide (bel HWb.out (below_drewN _ _)), hide (HD0.out.below (below_drewN _ _)), hide (HD1.out.below (below_drewN _ _))⟩
            case measure => simp [intOf]; omega
          · have hne : (BS.getD j 0 == BS2.getD j 0) = false := by simpa using he
            clear he HA1
            generalize BS.getD j 0 = u at *
            generalize BS2.getD j 0 = u2 at *
            have hi0 : (0 : Int) ≤ j := by omega
            have hi1 : (j : Int) < bl := by omega
            go_upto_region 11 with fail
            go_quiet (fail)
            go_wp2_with fail
            go_ret
            exact ⟨rfl, bel HWb.out (below_drewN _ _)⟩
        · obtain rfl : j = bl := by omega
          have HE2 := hide (all_ext 0 (L3.out.trans L4.out.symm) (fun q hq => HA1.out q (by have := L3.out; omega)))
          clear HA1
          go_wp2_with fail
          go_loopw [7] (fun i wr => ∃ m : Nat, m ≤ dl ∧ i = .int .i64 m ∧ Hid (∀ q, q < m → NS.getD q n0 = NS2.getD q n0) ∧ Hid (Below W.heap.size W wr) ∧ Hid (HasC wr W.heap.size 26 (tr4 (.slice na k nc) (.slice ba j bc) (.slice da dl dc) (.int .i64 root))) ∧ Hid (HasC wr (W.heap.size + 1) 26 (tr4 (.slice na2 k nc2) (.slice ba2 j bc2) (.slice da2 dl dc2) (.int .i64 root)))) (fun i _ => dl - (intOf i).toNat)
          case atStart => exact ⟨0, Nat.zero_le _, rfl, hide (fun q hq => absurd hq (Nat.not_lt_zero _)), hide HWb.out, hide HD0.out, hide HD1.out⟩
          case round =>
            obtain ⟨m, hm, rfl, HA1, HWb, HD0, HD1⟩ := hrel
            rename World => V3
            clear c0 c1 c2 c3 d0 d1 d2 d3
            obtain ⟨c0, c1, c2, c3⟩ := facts4 HD0.out
            obtain ⟨d0, d1, d2, d3⟩ := facts4 HD1.out
            by_cases hlt : m < dl
            · obtain ⟨g1, o1, rfl, at1⟩ := (HN.out.later HWb.out).at (by omega)
              obtain ⟨g2, o2, rfl, at2⟩ := (HN2.out.later HWb.out).at (by omega)
              obtain ⟨e0, e1, e2, e3, e4, e5, e6, e7, e8⟩ := at1 m hlt
              obtain ⟨f0, f1, f2, f3, f4, f5, f6, f7, f8⟩ := at2 m hlt
              clear at1 at2
              by_cases he : NS.getD m n0 = NS2.getD m n0
              · rw [← he] at f0 f1 f2 f3 f4 f5 f6 f7 f8
                have HA2 := hide (all_next HA1.out he)
                clear he
                generalize NS.getD m n0 = n at *
                have hi0 : (0 : Int) ≤ m := by omega
                have hi1 : (m : Int) < dl := by omega
                go_upto_region 16 with fail
                go_quiet (fail)
                go_wp2_with fail
                go_roundw
                case rel => exact ⟨m + 1, by omega, by go_num, HA2, hide (bel HWb.out (below_drewN _ _)), hide (HD0.out.below (below_drewN _ _)), hide (HD1.out.below (below_drewN _ _))⟩
                case measure => simp [intOf]; omega
              · have HNE := hide he
                clear he HA1
                generalize NS.getD m n0 = n at *
                generalize NS2.getD m n0 = n2 at *
                have hi0 : (0 : Int) ≤ m := by omega
                have hi1 : (m : Int) < dl := by omega
                have hq := fun w => nd_run HNE.out w
                go_upto_region 16 with fail
                go_quiet (fail)
                go_wp2_with fail
                go_ret
                exact ⟨rfl, bel HWb.out (below_drewN _ _)⟩
            · exfalso
              obtain rfl : m = dl := by omega
              exact HD.out ⟨HE1.out, HE2.out, all_ext n0 (L5.out.trans L6.out.symm) (fun q hq => HA1.out q (by have := L5.out; omega))⟩

end Go.Proofs.YtodgjjkpbcadoaaDoor

/-
  damaskref07.Same on two trees that differ.
-/
import Derived.Test.YtodgjjkpbcadoaaGreatDoorGrJS
import Derived.Test.YtodgjjkpbcadoaaGreatDoorRnode
import Derived.Laws.StructEq
import Derived.Test.YtodgjjkpbcadoaaGreatDoorPx
import Derived.Test.YtodgjjkpbcadoaaGreatDoorGr5P
import Derived.Lib.QuietBelow
import Derived.BigQuiet
namespace Go.Proofs.YtodgjjkpbcadoaaGreatDoor
open Go.RowKit Go.IntWalk Lx Pz
set_option linter.unusedVariables false

theorem all_ext {α : Type} {L M : List α} (d : α) (hl : L.length = M.length) (h : ∀ j, j < L.length → L.getD j d = M.getD j d) : L = M := by
  apply List.ext_getElem hl
  intro j h1 h2
  have := h j h1
  rw [List.getD_eq_getElem?_getD, List.getD_eq_getElem?_getD, List.getElem?_eq_getElem h1, List.getElem?_eq_getElem h2] at this
  exact this
theorem all_next {α : Type} {L M : List α} {d : α} {k : Nat} (h : ∀ j, j < k → L.getD j d = M.getD j d) (h2 : L.getD k d = M.getD k d) : ∀ j, j < k + 1 → L.getD j d = M.getD j d := by
  intro j hj
  rcases Nat.lt_succ_iff_lt_or_eq.1 hj with h1 | rfl
  · exact h j h1
  · exact h2

set_option maxRecDepth 100000 in
theorem pl_run (a b c d x y z u : Int) (w : World) : (Op.equalIn 9999 37 (.agg #[.int .i64 a, .int .i64 b, .int .i64 c, .int .i64 d]) (.agg #[.int .i64 x, .int .i64 y, .int .i64 z, .int .i64 u])).run Tryz.prog w = .ok (a == x && (b == y && (c == z && d == u))) w := by
  have u3 := Tryz.underlying3
  have a3 := Tryz.isAgg3
  have z3 := Tryz.sizeOf3
  have hS : Tryz.prog.underlying 37 = some (.struct (Tryz.prog.fieldsOf 37)) := by kernel_rfl
  have hp : Tryz.prog.stoodInHeld 37 = false := by kernel_rfl
  rw [show (9999 : Nat) = 9998 + 1 from rfl, run_equalIn_agg w 9998 37 _ _ hS hp]
  simp only [Program.fieldsOf, Tryz.underlying37]
  go_simp
  by_cases h1 : a = x <;> by_cases h2 : b = y <;> by_cases h3 : c = z <;> by_cases h4 : d = u <;> simp [h1, h2, h3, h4]
set_option maxRecDepth 100000 in
theorem nd_run {n m : Nd} (h : ¬ n = m) (w : World) : (Op.equalIn 10000 39 (.agg (ndA n)) (.agg (ndA m))).run Tryz.prog w = .ok false w := by
  have u3 := Tryz.underlying3
  have a3 := Tryz.isAgg3
  have z3 := Tryz.sizeOf3
  have hS : Tryz.prog.underlying 39 = some (.struct (Tryz.prog.fieldsOf 39)) := by kernel_rfl
  have hp : Tryz.prog.stoodInHeld 39 = false := by kernel_rfl
  have hpl := pl_run n.back n.co n.x n.y m.back m.co m.x m.y
  rw [show (10000 : Nat) = 9999 + 1 from rfl, run_equalIn_agg w 9999 39 _ _ hS hp]
  simp only [Program.fieldsOf, Tryz.underlying39]
  obtain ⟨z0, z1, z2, z3, z4, z5, z6, z7, z8⟩ := n
  obtain ⟨y0, y1, y2, y3, y4, y5, y6, y7, y8⟩ := m
  simp only at hpl
  go_simp
  by_cases h0 : z0 = y0
  · by_cases h1 : z1 = y1
    · by_cases h2 : z2 = y2
      · by_cases h3 : z3 = y3
        · by_cases h4 : z4 = y4
          · simp [h0, h1, h2, h3, h4]
            intro e5 e6 e7 e8
            exact h (by rw [h0, h1, h2, h3, h4, e5, e6, e7, e8])
          · simp [h0, h1, h2, h3, h4]
        · simp [h0, h1, h2, h3]
      · simp [h0, h1, h2]
    · simp [h0, h1]
  · simp [h0]

set_option maxRecDepth 100000 in
set_option maxHeartbeats 8000000 in
theorem same_no {W : World} {na ba da na2 ba2 da2 : Option Addr} {nl nc bl bc dl dc nc2 bc2 dc2 : Nat} {root : Int} {NM NM2 : List Txt} {BS BS2 : List Int} {NS NS2 : List Nd}
    (hX : Tx W na nl nc NM) (hB : Iz W ba bl bc BS) (hN : Nz W da dl dc NS) (hX2 : Tx W na2 nl nc2 NM2) (hB2 : Iz W ba2 bl bc2 BS2) (hN2 : Nz W da2 dl dc2 NS2) (hD : ¬ (NM = NM2 ∧ BS = BS2 ∧ NS = NS2)) :
    Calls Tryz.prog 17 #[.agg (tr4 (.slice na nl nc) (.slice ba bl bc) (.slice da dl dc) (.int .i64 root)), .agg (tr4 (.slice na2 nl nc2) (.slice ba2 bl bc2) (.slice da2 dl dc2) (.int .i64 root))] W fun e W' => e = .returned (.bool false) ∧ Below W.heap.size W W' := by
  have HD := hide hD
  have L1 := hide hX.len
  have L2 := hide hX2.len
  have L3 := hide hB.len
  have L4 := hide hB2.len
  have L5 := hide hN.len
  have L6 := hide hN2.len
  clear hD
  have hnl : nl ≤ 9223372036854775807 := by have := hX.le; have := hX.max; unfold maxLen at *; omega
  have hbl : bl ≤ 9223372036854775807 := by have := hB.le; have := hB.max; unfold maxLen at *; omega
  have hdl : dl ≤ 9223372036854775807 := by have := hN.le; have := hN.max; unfold maxLen at *; omega
  have HX := hide hX
  have HB := hide hB
  have HN := hide hN
  have HX2 := hide hX2
  have HB2 := hide hB2
  have HN2 := hide hN2
  clear hX hB hN hX2 hB2 hN2
  have HW0 := hide (bel (bel1 W (.cells (tr4 (.slice na nl nc) (.slice ba bl bc) (.slice da dl dc) (.int .i64 root)) 26)) (bel1 (W.alloc (.cells (tr4 (.slice na nl nc) (.slice ba bl bc) (.slice da dl dc) (.int .i64 root)) 26)) (.cells (tr4 (.slice na2 nl nc2) (.slice ba2 bl bc2) (.slice da2 dl dc2) (.int .i64 root)) 26)))
  have HC0 := hide ((HasC.new W 26 (tr4 (.slice na nl nc) (.slice ba bl bc) (.slice da dl dc) (.int .i64 root))).alloc (.cells (tr4 (.slice na2 nl nc2) (.slice ba2 bl bc2) (.slice da2 dl dc2) (.int .i64 root)) 26))
  have HC1 := hide (HasC.new (W.alloc (.cells (tr4 (.slice na nl nc) (.slice ba bl bc) (.slice da dl dc) (.int .i64 root)) 26)) 26 (tr4 (.slice na2 nl nc2) (.slice ba2 bl bc2) (.slice da2 dl dc2) (.int .i64 root)))
  rw [World.size_alloc] at HC1
  go_enter Tryz.func17, Tryz.ntmps17
  go_wp2_with fail
  go_loopw [5] (fun i wr => ∃ k : Nat, k ≤ nl ∧ i = .int .i64 k ∧ Hid (∀ q, q < k → NM.getD q [] = NM2.getD q []) ∧ Hid (Below W.heap.size W wr) ∧ Hid (HasC wr W.heap.size 26 (tr4 (.slice na nl nc) (.slice ba bl bc) (.slice da dl dc) (.int .i64 root))) ∧ Hid (HasC wr (W.heap.size + 1) 26 (tr4 (.slice na2 nl nc2) (.slice ba2 bl bc2) (.slice da2 dl dc2) (.int .i64 root)))) (fun i _ => nl - (intOf i).toNat)
  case atStart => exact ⟨0, Nat.zero_le _, rfl, hide (fun q hq => absurd hq (Nat.not_lt_zero _)), hide HW0.out, hide HC0.out, hide HC1.out⟩
  case round =>
    obtain ⟨k, hk, rfl, HA1, HWb, HD0, HD1⟩ := hrel
    rename World => V
    obtain ⟨c0, c1, c2, c3⟩ := facts4 HD0.out
    obtain ⟨d0, d1, d2, d3⟩ := facts4 HD1.out
    by_cases hlt : k < nl
    · obtain ⟨b, off, rfl, e1⟩ : ∃ b off, na = some ⟨b, off, none⟩ ∧ V.cell? ⟨b, off + k, none⟩ = some (.string (sB (NM.getD k []))) := by
        rcases (HX.out.later HWb.out).cell with h0 | ⟨b, off, ha, hc⟩
        · omega
        · exact ⟨b, off, ha, hc k hlt⟩
      obtain ⟨b2, off2, rfl, e2⟩ : ∃ b off, na2 = some ⟨b, off, none⟩ ∧ V.cell? ⟨b, off + k, none⟩ = some (.string (sB (NM2.getD k []))) := by
        rcases (HX2.out.later HWb.out).cell with h0 | ⟨b, off, ha, hc⟩
        · omega
        · exact ⟨b, off, ha, hc k hlt⟩
      by_cases he : NM.getD k [] = NM2.getD k []
      · rw [← he] at e2
        have HA2 := hide (all_next HA1.out he)
        clear he
        generalize sB (NM.getD k []) = u at *
        have hi0 : (0 : Int) ≤ k := by omega
        have hi1 : (k : Int) < nl := by omega
        go_upto_region 6 with fail
        go_quiet (fail)
        go_wp2_with fail
        go_roundw
        case rel => exact ⟨k + 1, by omega, by go_num, HA2, hide (bel HWb.out (below_drewN _ _)), hide (HD0.out.below (below_drewN _ _)), hide (HD1.out.below (below_drewN _ _))⟩
        case measure => simp [intOf]; omega
      · have hne := text_ne (s := sB (NM.getD k [])) (t := sB (NM2.getD k [])) he
        clear he HA1
        generalize sB (NM.getD k []) = u at *
        generalize sB (NM2.getD k []) = u2 at *
        have hi0 : (0 : Int) ≤ k := by omega
        have hi1 : (k : Int) < nl := by omega
        go_upto_region 6 with fail
        go_quiet (fail)
        go_wp2_with fail
        go_ret
        exact ⟨rfl, bel HWb.out (below_drewN _ _)⟩
    · obtain rfl : k = nl := by omega
      have HE1 := hide (all_ext [] (L1.out.trans L2.out.symm) (fun q hq => HA1.out q (by have := L1.out; omega)))
      clear HA1
      go_wp2_with fail
      go_loopw [6] (fun i wr => ∃ j : Nat, j ≤ bl ∧ i = .int .i64 j ∧ Hid (∀ q, q < j → BS.getD q 0 = BS2.getD q 0) ∧ Hid (Below W.heap.size W wr) ∧ Hid (HasC wr W.heap.size 26 (tr4 (.slice na k nc) (.slice ba bl bc) (.slice da dl dc) (.int .i64 root))) ∧ Hid (HasC wr (W.heap.size + 1) 26 (tr4 (.slice na2 k nc2) (.slice ba2 bl bc2) (.slice da2 dl dc2) (.int .i64 root)))) (fun i _ => bl - (intOf i).toNat)
      case atStart => exact ⟨0, Nat.zero_le _, rfl, hide (fun q hq => absurd hq (Nat.not_lt_zero _)), hide HWb.out, hide HD0.out, hide HD1.out⟩
      case round =>
        obtain ⟨j, hj, rfl, HA1, HWb, HD0, HD1⟩ := hrel
        rename World => V2
        clear c0 c1 c2 c3 d0 d1 d2 d3
        obtain ⟨c0, c1, c2, c3⟩ := facts4 HD0.out
        obtain ⟨d0, d1, d2, d3⟩ := facts4 HD1.out
        by_cases hlt : j < bl
        · obtain ⟨b, off, rfl, e1⟩ : ∃ b off, ba = some ⟨b, off, none⟩ ∧ V2.cell? ⟨b, off + j, none⟩ = some (.int .i64 (BS.getD j 0)) := by
            rcases (HB.out.later HWb.out).cell with h0 | ⟨b, off, ha, -, hc⟩
            · omega
            · exact ⟨b, off, ha, hc j hlt⟩
          obtain ⟨b2, off2, rfl, e2⟩ : ∃ b off, ba2 = some ⟨b, off, none⟩ ∧ V2.cell? ⟨b, off + j, none⟩ = some (.int .i64 (BS2.getD j 0)) := by
            rcases (HB2.out.later HWb.out).cell with h0 | ⟨b, off, ha, -, hc⟩
            · omega
            · exact ⟨b, off, ha, hc j hlt⟩
          by_cases he : BS.getD j 0 = BS2.getD j 0
          · rw [← he] at e2
            have HA2 := hide (all_next HA1.out he)
            clear he
            generalize BS.getD j 0 = u at *
            have hi0 : (0 : Int) ≤ j := by omega
            have hi1 : (j : Int) < bl := by omega
            go_upto_region 11 with fail
            go_quiet (fail)
            go_wp2_with fail
            go_roundw
            case rel => exact ⟨j + 1, by omega, by go_num, HA2, hide (bel HWb.out (below_drewN _ _)), hide (HD0.out.below (below_drewN _ _)), hide (HD1.out.below (below_drewN _ _))⟩
            case measure => simp [intOf]; omega
          · have hne : (BS.getD j 0 == BS2.getD j 0) = false := by simpa using he
            clear he HA1
            generalize BS.getD j 0 = u at *
            generalize BS2.getD j 0 = u2 at *
            have hi0 : (0 : Int) ≤ j := by omega
            have hi1 : (j : Int) < bl := by omega
            go_upto_region 11 with fail
            go_quiet (fail)
            go_wp2_with fail
            go_ret
            exact ⟨rfl, bel HWb.out (below_drewN _ _)⟩
        · obtain rfl : j = bl := by omega
          have HE2 := hide (all_ext 0 (L3.out.trans L4.out.symm) (fun q hq => HA1.out q (by have := L3.out; omega)))
          clear HA1
          go_wp2_with fail
          go_loopw [7] (fun i wr => ∃ m : Nat, m ≤ dl ∧ i = .int .i64 m ∧ Hid (∀ q, q < m → NS.getD q n0 = NS2.getD q n0) ∧ Hid (Below W.heap.size W wr) ∧ Hid (HasC wr W.heap.size 26 (tr4 (.slice na k nc) (.slice ba j bc) (.slice da dl dc) (.int .i64 root))) ∧ Hid (HasC wr (W.heap.size + 1) 26 (tr4 (.slice na2 k nc2) (.slice ba2 j bc2) (.slice da2 dl dc2) (.int .i64 root)))) (fun i _ => dl - (intOf i).toNat)
          case atStart => exact ⟨0, Nat.zero_le _, rfl, hide (fun q hq => absurd hq (Nat.not_lt_zero _)), hide HWb.out, hide HD0.out, hide HD1.out⟩
          case round =>
            obtain ⟨m, hm, rfl, HA1, HWb, HD0, HD1⟩ := hrel
            rename World => V3
            clear c0 c1 c2 c3 d0 d1 d2 d3
            obtain ⟨c0, c1, c2, c3⟩ := facts4 HD0.out
            obtain ⟨d0, d1, d2, d3⟩ := facts4 HD1.out
            by_cases hlt : m < dl
            · obtain ⟨g1, o1, rfl, at1⟩ := (HN.out.later HWb.out).at (by omega)
              obtain ⟨g2, o2, rfl, at2⟩ := (HN2.out.later HWb.out).at (by omega)
              obtain ⟨e0, e1, e2, e3, e4, e5, e6, e7, e8⟩ := at1 m hlt
              obtain ⟨f0, f1, f2, f3, f4, f5, f6, f7, f8⟩ := at2 m hlt
              clear at1 at2
              by_cases he : NS.getD m n0 = NS2.getD m n0
              · rw [← he] at f0 f1 f2 f3 f4 f5 f6 f7 f8
                have HA2 := hide (all_next HA1.out he)
                clear he
                generalize NS.getD m n0 = n at *
                have hi0 : (0 : Int) ≤ m := by omega
                have hi1 : (m : Int) < dl := by omega
                go_upto_region 16 with fail
                go_quiet (fail)
                go_wp2_with fail
                go_roundw
                case rel => exact ⟨m + 1, by omega, by go_num, HA2, hide (bel HWb.out (below_drewN _ _)), hide (HD0.out.below (below_drewN _ _)), hide (HD1.out.below (below_drewN _ _))⟩
                case measure => simp [intOf]; omega
              · have HNE := hide he
                clear he HA1
                generalize NS.getD m n0 = n at *
                generalize NS2.getD m n0 = n2 at *
                have hi0 : (0 : Int) ≤ m := by omega
                have hi1 : (m : Int) < dl := by omega
                have hq := fun w => nd_run HNE.out w
                go_upto_region 16 with fail
                go_quiet (fail)
                go_wp2_with fail
                go_ret
                exact ⟨rfl, bel HWb.out (below_drewN _ _)⟩
            · exfalso
              obtain rfl : m = dl := by omega
              exact HD.out ⟨HE1.out, HE2.out, all_ext n0 (L5.out.trans L6.out.symm) (fun q hq => HA1.out q (by have := L5.out; omega))⟩

end Go.Proofs.YtodgjjkpbcadoaaGreatDoor

/-
  Parse and Print together: what the statements of layer 8 are built of.
-/
namespace Go.Proofs.YtodgjjkpbcadoaaGreatDoor
open Go.RowKit Go.IntWalk Lx Pz
set_option linter.unusedVariables false

abbrev nodesOf (es : List E) (ex : E) : List Nd := flL es 0 ++ ex.flat (szL es)
abbrev rootOf (es : List E) (ex : E) : Int := ((szL es + ex.size : Nat) : Int) - 1

theorem dec_parse {l : List UInt8} {T : List Tok} {NM : List Txt} {es : List E} {ex : E} (hT : tks l = some T) (hg : GP [] [] (T.map ab) (NM, es, ex)) (hl : NM.length = es.length) (hz : szL es + ex.size ≤ T.length) :
    Dec NM (bdL es 0) (nodesOf es ex) (rootOf es ex) es ex := by
  have hok : (T.map ab).all okT = true := by
    rw [List.all_map, List.all_eq_true]
    intro t ht
    exact okT_ab (tks_wf hT t ht)
  obtain ⟨h1, h2, h3⟩ := gp_gd hg hok rfl (by intro j e h; simp at h) rfl
  have h4 := tks_len hT
  exact ⟨rfl, rfl, hl, h1, h2, h3, by rw [List.length_append, flL_len, E.flat_len], by rw [List.length_append, flL_len, E.flat_len]; omega⟩

/-- What Parse answers, and what it says of the printed text. -/
theorem parse_full (s : ByteArray) (w : World) : Calls Tryz.prog 16 #[.string s] w fun e W' =>
    (e = .returned (.tuple #[.agg nil4, .int .i64 10]) ∧ Below w.heap.size w W') ∨
    (∃ NM es ex na nc ba bc da dc, Dec NM (bdL es 0) (nodesOf es ex) (rootOf es ex) es ex ∧ (whole NM es ex).length ≤ (bs s).length ∧ (bs s).length ≤ 1024 ∧
      e = .returned (.tuple #[treeV na ba da es.length nc es.length bc (szL es + ex.size) dc (rootOf es ex), .int .i64 0]) ∧ Tx W' na es.length nc NM ∧ Iz W' ba es.length bc (bdL es 0) ∧
      Nz W' da (szL es + ex.size) dc (nodesOf es ex) ∧ Below w.heap.size w W') := by
  refine (parse_read s w).mono ?_
  rintro e W1 (⟨h1, h2, -⟩ | ⟨T, NM, es, ex, na, nc, ba, bc, da, dc, hT, hA, h3, h4, rfl, h6, h7, h8, h9⟩)
  · exact .inl ⟨h1, h2⟩
  · have hg := (hA (NM, es, ex)).1 rfl
    exact .inr ⟨NM, es, ex, na, nc, ba, bc, da, dc, dec_parse hT hg h3 h4, tight (A := []) hT hg h3, (ak_of hT).2, rfl, h6, h7, h8, h9⟩

/-- A printed text, read. -/
theorem parse_whole {NM : List Txt} {BS : List Int} {NS : List Nd} {root : Int} {es : List E} {ex : E} (hD : Dec NM BS NS root es ex) (hl : (whole NM es ex).length ≤ 1024) (w : World) :
    Calls Tryz.prog 16 #[.string (sB (whole NM es ex))] w fun e W' => ∃ na nc ba bc da dc,
      e = .returned (.tuple #[treeV na ba da es.length nc es.length bc (szL es + ex.size) dc (rootOf es ex), .int .i64 0]) ∧ Tx W' na es.length nc NM ∧ Iz W' ba es.length bc (bdL es 0) ∧ Nz W' da (szL es + ex.size) dc (nodesOf es ex) ∧ Below w.heap.size w W' := by
  obtain ⟨A, h1, h2⟩ := whole_reads hD
  exact parse_of (s := sB (whole NM es ex)) h1 (by rw [← bs_len, bs_sB]; exact hl) h2 w

theorem Dec.lens {NM : List Txt} {BS : List Int} {NS : List Nd} {root : Int} {es : List E} {ex : E} (h : Dec NM BS NS root es ex) : NM.length = es.length ∧ BS.length = es.length ∧ NS.length = szL es + ex.size ∧ root = rootOf es ex := by
  have h1 : NS.length = szL es + ex.size := by rw [h.nodes, List.length_append, flL_len, E.flat_len]
  exact ⟨h.names, by rw [h.binds, bdL_len], h1, by rw [h.root, h1]⟩

/-- Two sound trees with the same lists are one. -/
theorem lies_inj {NS : List Nd} {bd bd2 : Nat} : ∀ (e e2 : E) (i : Nat), Gd bd e → Gd bd2 e2 → Lies NS e i → Lies NS e2 i → e = e2
  | .leaf n, .leaf m, i, h, h2, l1, l2 => by have : some n = some m := l1.symm.trans l2; cases this; rfl
  | .un o a, .un o2 a2, i, h, h2, ⟨p, l1, k1⟩, ⟨p2, l2, k2⟩ => by
    have e := l1.symm.trans l2
    simp only [Option.some.injEq, Nd.mk.injEq, and_true] at e
    obtain ⟨e1, e2⟩ := e
    obtain rfl : p = p2 := by omega
    rw [e1, lies_inj a a2 p h.2 h2.2 k1 k2]
  | .bin o a b, .bin o2 a2 b2, i, h, h2, ⟨p, q, l1, k1, m1⟩, ⟨p2, q2, l2, k2, m2⟩ => by
    have e := l1.symm.trans l2
    simp only [Option.some.injEq, Nd.mk.injEq, and_true] at e
    obtain ⟨e1, e2, e3⟩ := e
    obtain rfl : p = p2 := by omega
    obtain rfl : q = q2 := by omega
    rw [e1, lies_inj a a2 p h.2.1 h2.2.1 k1 k2, lies_inj b b2 q h.2.2 h2.2.2 m1 m2]
  | .tri o a b c, .tri o2 a2 b2 c2, i, h, h2, ⟨p, q, r, l1, k1, m1, n1⟩, ⟨p2, q2, r2, l2, k2, m2, n2⟩ => by
    have e := l1.symm.trans l2
    simp only [Option.some.injEq, Nd.mk.injEq, and_true] at e
    obtain ⟨e1, e2, e3, e4⟩ := e
    obtain rfl : p = p2 := by omega
    obtain rfl : q = q2 := by omega
    obtain rfl : r = r2 := by omega
    rw [e1, lies_inj a a2 p h.2.1 h2.2.1 k1 k2, lies_inj b b2 q h.2.2.1 h2.2.2.1 m1 m2, lies_inj c c2 r h.2.2.2 h2.2.2.2 n1 n2]
  | .leaf n, .un o a, i, h, h2, l1, ⟨p, l2, _⟩ => by
    have : some n = some _ := l1.symm.trans l2
    cases this
    have := h.2.2.2.1
    have := h2.1
    simp only at *
    omega
  | .leaf n, .bin o a b, i, h, h2, l1, ⟨p, q, l2, _⟩ => by
    have : some n = some _ := l1.symm.trans l2
    cases this
    have := h.2.2.2.1
    have := h2.1
    simp only at *
    omega
  | .leaf n, .tri o a b c, i, h, h2, l1, ⟨p, q, r, l2, _⟩ => by
    have : some n = some _ := l1.symm.trans l2
    cases this
    have := h.2.2.2.1
    have := h2.1
    simp only at *
    omega
  | .un o a, .leaf n, i, h, h2, ⟨p, l2, _⟩, l1 => by
    have : some n = some _ := l1.symm.trans l2
    cases this
    have := h2.2.2.2.1
    have := h.1
    simp only at *
    omega
  | .bin o a b, .leaf n, i, h, h2, ⟨p, q, l2, _⟩, l1 => by
    have : some n = some _ := l1.symm.trans l2
    cases this
    have := h2.2.2.2.1
    have := h.1
    simp only at *
    omega
  | .tri o a b c, .leaf n, i, h, h2, ⟨p, q, r, l2, _⟩, l1 => by
    have : some n = some _ := l1.symm.trans l2
    cases this
    have := h2.2.2.2.1
    have := h.1
    simp only at *
    omega
  | .un o a, .bin o2 a2 b2, i, h, h2, ⟨p, l1, _⟩, ⟨p2, q2, l2, _⟩ => by
    have e := l1.symm.trans l2
    simp only [Option.some.injEq, Nd.mk.injEq, and_true] at e
    have h3 := h.1; have h4 := h2.1
    rw [e.1] at h3
    omega
  | .un o a, .tri o2 a2 b2 c2, i, h, h2, ⟨p, l1, _⟩, ⟨p2, q2, r2, l2, _⟩ => by
    have e := l1.symm.trans l2
    simp only [Option.some.injEq, Nd.mk.injEq, and_true] at e
    have h3 := h.1; have h4 := h2.1
    rw [e.1] at h3
    omega
  | .bin o a b, .un o2 a2, i, h, h2, ⟨p, q, l1, _⟩, ⟨p2, l2, _⟩ => by
    have e := l1.symm.trans l2
    simp only [Option.some.injEq, Nd.mk.injEq, and_true] at e
    have h3 := h.1; have h4 := h2.1
    rw [e.1] at h3
    omega
  | .bin o a b, .tri o2 a2 b2 c2, i, h, h2, ⟨p, q, l1, _⟩, ⟨p2, q2, r2, l2, _⟩ => by
    have e := l1.symm.trans l2
    simp only [Option.some.injEq, Nd.mk.injEq, and_true] at e
    have h3 := h.1; have h4 := h2.1
    rw [e.1] at h3
    omega
  | .tri o a b c, .un o2 a2, i, h, h2, ⟨p, q, r, l1, _⟩, ⟨p2, l2, _⟩ => by
    have e := l1.symm.trans l2
    simp only [Option.some.injEq, Nd.mk.injEq, and_true] at e
    have h3 := h.1; have h4 := h2.1
    rw [e.1] at h3
    omega
  | .tri o a b c, .bin o2 a2 b2, i, h, h2, ⟨p, q, r, l1, _⟩, ⟨p2, q2, l2, _⟩ => by
    have e := l1.symm.trans l2
    simp only [Option.some.injEq, Nd.mk.injEq, and_true] at e
    have h3 := h.1; have h4 := h2.1
    rw [e.1] at h3
    omega

theorem Dec.lies {NM : List Txt} {BS : List Int} {NS : List Nd} {root : Int} {es : List E} {ex : E} (h : Dec NM BS NS root es ex) : (∀ (j : Nat) (e : E), es[j]? = some e → ∃ p : Nat, BS[j]? = some (p : Int) ∧ Lies NS e p) ∧ ∃ r : Nat, root = r ∧ Lies NS ex r := by
  constructor
  · intro j e he
    obtain ⟨p, h1, h2⟩ := lies_list es [] (ex.flat (szL es)) j e he
    exact ⟨p, by rw [h.binds]; exact h1, by rw [h.nodes]; simpa using h2⟩
  · have h1 := lies_flat ex (flL es 0) []
    rw [flL_len, List.append_nil, ← h.nodes] at h1
    have h2 := h.lens.2.2.2
    have h3 := ex.size_pos
    exact ⟨_, by rw [h2]; unfold rootOf; omega, h1⟩

theorem Dec.one {NM : List Txt} {BS : List Int} {NS : List Nd} {root root2 : Int} {es es2 : List E} {ex ex2 : E} (h : Dec NM BS NS root es ex) (h2 : Dec NM BS NS root2 es2 ex2) : es = es2 ∧ ex = ex2 := by
  obtain ⟨a1, r, a2, a3⟩ := h.lies
  obtain ⟨b1, r2, b2, b3⟩ := h2.lies
  have hl : es.length = es2.length := by rw [← h.names, h2.names]
  constructor
  · apply List.ext_getElem hl
    intro j j1 j2
    obtain ⟨p, c1, c2⟩ := a1 j _ (List.getElem?_eq_getElem j1)
    obtain ⟨q, d1, d2⟩ := b1 j _ (List.getElem?_eq_getElem j2)
    rw [c1] at d1
    simp only [Option.some.injEq] at d1
    obtain rfl : p = q := by omega
    exact lies_inj _ _ p (h.gd j _ (List.getElem?_eq_getElem j1)) (h2.gd j _ (List.getElem?_eq_getElem j2)) c2 d2
  · have e1 := h.root
    have e2 := h2.root
    obtain rfl : r = r2 := by omega
    exact lies_inj _ _ r h.gx h2.gx a3 b3

end Go.Proofs.YtodgjjkpbcadoaaGreatDoor

/-
  awake; the walk of PrintBack.
-/
namespace Go.Proofs.YtodgjjkpbcadoaaGreatDoor
open Go.RowKit Go.IntWalk Lx Pz Go.Sort
open Go.Lib (decDigits itoa)
set_option linter.unusedVariables false

/- the text that the document names -/
def awT : Txt := [40, 32, 49, 32, 43, 32, 50, 32, 41, 32, 42, 32, 112, 40, 32, 45, 49, 32, 44, 32, 48, 32, 41]
def awE : E := .bin 10 (.bin 8 (.leaf (lf 1 1 0 0 0 0)) (.leaf (lf 1 2 0 0 0 0))) (.leaf (lf 3 0 0 2 (-1) 0))
def awK : List Tk := [.lp, .num 1, .op 5 8, .num 2, .rp, .op 6 10, .word wP, .lp, .op 5 9, .num 1, .comma, .num 0, .rp]
theorem ak_sp1 (r : Txt) : ak (32 :: r) = ak r := ak_blank (by decide) r
theorem ak_one {k : Tk} {c : UInt8} (h : AkP Tr [c] [k]) (r : Txt) : ak (c :: r) = (ak r).map ([k] ++ ·) := h r trivial
theorem ak_d1 {d : Nat} (hd : d < 10) (r : Txt) (hr : Fo r) : ak (UInt8.ofNat (48 + d) :: r) = (ak r).map ([.num d] ++ ·) := by
  have := ak_dec (u := d) (by omega) r hr
  rwa [dec_small hd] at this
theorem aw_ak : ak awT = some awK := by
  unfold awT
  have n1 := fun r hr => ak_d1 (d := 1) (by decide) r hr
  have n2 := fun r hr => ak_d1 (d := 2) (by decide) r hr
  have n0 := fun r hr => ak_d1 (d := 0) (by decide) r hr
  have hp : ∀ r, Fo r → ak (112 :: r) = (ak r).map ([.word wP] ++ ·) := ak_wrd (x := wP) (by decide)
  have ho8 : ∀ r, ak (43 :: r) = (ak r).map ([.op 5 8] ++ ·) := fun r => ak_m 43 _ (by decide) (by decide) (by decide) (by decide) (by decide) (by decide) r trivial
  have ho10 : ∀ r, ak (42 :: r) = (ak r).map ([.op 6 10] ++ ·) := fun r => ak_m 42 _ (by decide) (by decide) (by decide) (by decide) (by decide) (by decide) r trivial
  have f32 : ∀ r, Fo (32 :: r) := fun r => fo_cons (by decide) r
  have f40 : ∀ r, Fo (40 :: r) := fun r => fo_cons (by decide) r
  rw [ak_one ak_lp, ak_sp1]
  rw [show (49 : UInt8) = UInt8.ofNat (48 + 1) from rfl, n1 _ (f32 _), ak_sp1, ho8, ak_sp1]
  rw [show (50 : UInt8) = UInt8.ofNat (48 + 2) from rfl, n2 _ (f32 _), ak_sp1, ak_one ak_rp, ak_sp1, ho10, ak_sp1, hp _ (f40 _), ak_one ak_lp, ak_sp1, ak_one ak_minus]
  rw [n1 _ (f32 _), ak_sp1, ak_one ak_comma, ak_sp1]
  rw [show (48 : UInt8) = UInt8.ofNat (48 + 0) from rfl, n0 _ (f32 _), ak_sp1, ak_one ak_rp, ak_nil]
  rfl
theorem aw_gp : GP [] [] awK ([], [], awE) := by
  refine GP.last ?_
  have h1 : G [] 8 [.num 1] (.leaf (lf 1 1 0 0 0 0)) := G.num 1
  have h2 : G [] 8 [.num 2] (.leaf (lf 1 2 0 0 0 0)) := G.num 2
  have h3 : G [] 6 ([.num 1] ++ .op 5 8 :: [.num 2]) _ := G.bin (k := 5) (o := 8) (by omega) (G.ups h1 (by decide) (by decide)) (G.ups h2 (by decide) (by decide))
  have h4 : G [] 8 (.lp :: (([.num 1] ++ .op 5 8 :: [.num 2]) ++ [.rp])) _ := G.par (G.ups h3 (by decide) (by decide))
  have h5 : G [] 8 [.word wP, .lp, .op 5 9, .num 1, .comma, .num 0, .rp] (.leaf (lf 3 0 0 2 (-1) 0)) := G.place (s := wP) (.inl rfl) rfl
  exact G.ups (G.bin (k := 6) (o := 10) (by omega) (G.ups h4 (by decide) (by decide)) (G.ups h5 (by decide) (by decide))) (by omega) (by omega)
theorem aw_dec : Dec [] (bdL [] 0) (nodesOf [] awE) (rootOf [] awE) [] awE := by
  obtain ⟨T, hT, hab⟩ := tks_ak aw_ak (by decide)
  have h1 : T.length = 13 := by rw [← List.length_map (f := ab), hab]; rfl
  exact dec_parse hT (by rw [hab]; exact aw_gp) rfl (by rw [h1]; decide)
theorem aw_whole : whole [] [] awE = [40, 49, 43, 50, 41, 42, 112, 40, 45, 49, 44, 48, 41] := by
  have d1 : itoa 1 = [49] := by unfold itoa; rw [if_neg (by decide), show (1 : Int).toNat = 1 from rfl, dec_small (by decide)]; rfl
  have d2 : itoa 2 = [50] := by unfold itoa; rw [if_neg (by decide), show (2 : Int).toNat = 2 from rfl, dec_small (by decide)]; rfl
  have d0 : itoa 0 = [48] := by unfold itoa; rw [if_neg (by decide), show (0 : Int).toNat = 0 from rfl, dec_small (by decide)]; rfl
  have dm : itoa (-1) = [45, 49] := by unfold itoa; rw [if_pos (by decide), show (-1 : Int).natAbs = 1 from rfl, dec_small (by decide)]; rfl
  unfold whole awE
  simp [ltT, etx, leafT, plT, brk, rkE, lfk, ork, otx, opTab, d1, d2, d0, dm]

set_option maxRecDepth 100000 in
set_option maxHeartbeats 4000000 in
theorem awake_any {W : World} (hG : Gl W) : Calls Tryz.prog 7 #[] W fun e w' => e = .returned (.bool true) ∧ Below W.heap.size W w' := by
  have HP := hide (parse_of (s := sB awT) (by rw [bs_sB]; exact aw_ak) (by decide) aw_gp W)
  have HG := hide hG
  clear hG
  go_enter Tryz.func7, Tryz.ntmps7
  go_wp2_with fail
  refine HP.out.mono ?_
  rintro e W1 ⟨na, nc, ba, bc, da, dc, rfl, hx, hi, hn, hb⟩
  have HB1 := hide hb
  have hb2 := bel1 W1 (.cells (tr4 (.slice na ([] : List E).length nc) (.slice ba ([] : List E).length bc) (.slice da (szL [] + awE.size) dc) (.int .i64 (rootOf [] awE))) 26)
  have HQ := hide (print_ok (hx.later hb2) (hi.later hb2) (hn.later hb2) ((HG.out.later hb).later hb2) aw_dec)
  have HB2 := hide (bel hb hb2)
  rw [aw_whole] at HQ
  clear hx hi hn hb hb2 HP
  go_wp2_with fail
  refine HQ.out.mono ?_
  rintro e W2 ⟨rfl, hb⟩
  have HB3 := hide (bel HB2.out hb)
  clear hb HQ
  go_wp2_with fail
  go_ret
  exact ⟨rfl, HB3.out⟩

end Go.Proofs.YtodgjjkpbcadoaaGreatDoor

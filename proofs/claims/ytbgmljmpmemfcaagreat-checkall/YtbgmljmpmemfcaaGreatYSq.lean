/-
 damaskref07.Same on two trees that read the same.
-/
import Derived.Test.YtbgmljmpmemfcaaGreatYJoA
import Derived.Deep.QuietTactic
import Derived.BigQuiet
namespace Go.Proofs.YtbgmljmpmemfcaaGreat
open Go.RowKit Go.IntWalk Lx Pz
set_option linter.unusedVariables false

/-- A tree in memory. -/
structure Trz (W : World) (v : Value) (NM : List Txt) (BS : List Int) (NS : List Nd) (root : Int) : Prop where
 form : ∃ na nc ba bc da dc, v = .agg (tr4 (.slice na NM.length nc) (.slice ba BS.length bc) (.slice da NS.length dc) (.int .i64 root)) ∧ Tx W na NM.length nc NM ∧ Iz W ba BS.length bc BS ∧ Nz W da NS.length dc NS

set_option maxRecDepth 100000 in
set_option maxHeartbeats 4000000 in
theorem same_self {W : World} {na ba da na2 ba2 da2 : Option Addr} {nl nc bl bc dl dc nc2 bc2 dc2 : Nat} {root : Int} {NM : List Txt} {BS : List Int} {NS : List Nd}
  (hX : Tx W na nl nc NM) (hB : Iz W ba bl bc BS) (hN : Nz W da dl dc NS) (hX2 : Tx W na2 nl nc2 NM) (hB2 : Iz W ba2 bl bc2 BS) (hN2 : Nz W da2 dl dc2 NS) :
  Calls Tryz.prog 32 #[.agg (tr4 (.slice na nl nc) (.slice ba bl bc) (.slice da dl dc) (.int .i64 root)), .agg (tr4 (.slice na2 nl nc2) (.slice ba2 bl bc2) (.slice da2 dl dc2) (.int .i64 root))] W fun e W' => e = .returned (.bool true) ∧ Below W.heap.size W W' := by
 have hnl : nl ≤ 9223372036854775807 := by have := hX.le; have := hX.max; unfold maxLen at *; omega
 have hbl : bl ≤ 9223372036854775807 := by have := hB.le; have := hB.max; unfold maxLen at *; omega
 have hdl : dl ≤ 9223372036854775807 := by have := hN.le; have := hN.max; unfold maxLen at *; omega
 have HX := hide hX
 have HB := hide hB
 have HN := hide hN
 have HX2 := hide hX2
 have HB2 := hide hB2
 have HN2 := hide hN2
 clear hX hB hN hX2 hB2 hN2
 have HW0 := hide (bel (bel1 W (.cells (tr4 (.slice na nl nc) (.slice ba bl bc) (.slice da dl dc) (.int .i64 root)) 28)) (bel1 (W.alloc (.cells (tr4 (.slice na nl nc) (.slice ba bl bc) (.slice da dl dc) (.int .i64 root)) 28)) (.cells (tr4 (.slice na2 nl nc2) (.slice ba2 bl bc2) (.slice da2 dl dc2) (.int .i64 root)) 28)))
 have HC0 := hide ((HasC.new W 28 (tr4 (.slice na nl nc) (.slice ba bl bc) (.slice da dl dc) (.int .i64 root))).alloc (.cells (tr4 (.slice na2 nl nc2) (.slice ba2 bl bc2) (.slice da2 dl dc2) (.int .i64 root)) 28))
 have HC1 := hide (HasC.new (W.alloc (.cells (tr4 (.slice na nl nc) (.slice ba bl bc) (.slice da dl dc) (.int .i64 root)) 28)) 28 (tr4 (.slice na2 nl nc2) (.slice ba2 bl bc2) (.slice da2 dl dc2) (.int .i64 root)))
 rw [World.size_alloc] at HC1
 go_enter Tryz.func32, Tryz.ntmps32
 go_wp2_with fail
 go_loopw [5] (fun i wr => ∃ k : Nat, k ≤ nl ∧ i = .int .i64 k ∧ Hid (Below W.heap.size W wr) ∧ Hid (HasC wr W.heap.size 28 (tr4 (.slice na nl nc) (.slice ba bl bc) (.slice da dl dc) (.int .i64 root))) ∧ Hid (HasC wr (W.heap.size + 1) 28 (tr4 (.slice na2 nl nc2) (.slice ba2 bl bc2) (.slice da2 dl dc2) (.int .i64 root)))) (fun i _ => nl - (intOf i).toNat)
 case atStart => exact ⟨0, Nat.zero_le _, rfl, hide HW0.out, hide HC0.out, hide HC1.out⟩
 case round =>
  obtain ⟨k, hk, rfl, HWb, HD0, HD1⟩ := hrel
  rename World => V
  obtain ⟨c0, c1, c2, c3⟩ := facts4 HD0.out
  obtain ⟨d0, d1, d2, d3⟩ := facts4 HD1.out
  by_cases hlt : k < nl
  ·obtain ⟨b, off, rfl, e1⟩ : ∃ b off, na = some ⟨b, off, none⟩ ∧ V.cell? ⟨b, off + k, none⟩ = some (.string (sB (NM.getD k []))) := by
    rcases (HX.out.later HWb.out).cell with h0 | ⟨b, off, ha, hc⟩
    ·omega
    ·exact ⟨b, off, ha, hc k hlt⟩
   obtain ⟨b2, off2, rfl, e2⟩ : ∃ b off, na2 = some ⟨b, off, none⟩ ∧ V.cell? ⟨b, off + k, none⟩ = some (.string (sB (NM.getD k []))) := by
    rcases (HX2.out.later HWb.out).cell with h0 | ⟨b, off, ha, hc⟩
    ·omega
    ·exact ⟨b, off, ha, hc k hlt⟩
   generalize sB (NM.getD k []) = u at *
   have hi0 : (0 : Int) ≤ k := by omega
   have hi1 : (k : Int) < nl := by omega
   go_upto_region 6 with fail
   go_quiet (fail)
   go_wp2_with fail
   go_roundw
   case rel => exact ⟨k + 1, by omega, by go_num, hide (bel HWb.out (below_drewN _ _)), hide (HD0.out.below (below_drewN _ _)), hide (HD1.out.below (below_drewN _ _))⟩
   case measure => simp [intOf]; omega
  ·obtain rfl : k = nl := by omega
   go_wp2_with fail
   go_loopw [6] (fun i wr => ∃ j : Nat, j ≤ bl ∧ i = .int .i64 j ∧ Hid (Below W.heap.size W wr) ∧ Hid (HasC wr W.heap.size 28 (tr4 (.slice na k nc) (.slice ba bl bc) (.slice da dl dc) (.int .i64 root))) ∧ Hid (HasC wr (W.heap.size + 1) 28 (tr4 (.slice na2 k nc2) (.slice ba2 bl bc2) (.slice da2 dl dc2) (.int .i64 root)))) (fun i _ => bl - (intOf i).toNat)
   case atStart => exact ⟨0, Nat.zero_le _, rfl, hide HWb.out, hide HD0.out, hide HD1.out⟩
   case round =>
    obtain ⟨j, hj, rfl, HWb, HD0, HD1⟩ := hrel
    rename World => V2
    clear c0 c1 c2 c3 d0 d1 d2 d3
    obtain ⟨c0, c1, c2, c3⟩ := facts4 HD0.out
    obtain ⟨d0, d1, d2, d3⟩ := facts4 HD1.out
    by_cases hlt : j < bl
    ·obtain ⟨b, off, rfl, e1⟩ : ∃ b off, ba = some ⟨b, off, none⟩ ∧ V2.cell? ⟨b, off + j, none⟩ = some (.int .i64 (BS.getD j 0)) := by
      rcases (HB.out.later HWb.out).cell with h0 | ⟨b, off, ha, -, hc⟩
      ·omega
      ·exact ⟨b, off, ha, hc j hlt⟩
     obtain ⟨b2, off2, rfl, e2⟩ : ∃ b off, ba2 = some ⟨b, off, none⟩ ∧ V2.cell? ⟨b, off + j, none⟩ = some (.int .i64 (BS.getD j 0)) := by
      rcases (HB2.out.later HWb.out).cell with h0 | ⟨b, off, ha, -, hc⟩
      ·omega
      ·exact ⟨b, off, ha, hc j hlt⟩
     generalize BS.getD j 0 = u at *
     have hi0 : (0 : Int) ≤ j := by omega
     have hi1 : (j : Int) < bl := by omega
     go_upto_region 11 with fail
     go_quiet (fail)
     go_wp2_with fail
     go_roundw
     case rel => exact ⟨j + 1, by omega, by go_num, hide (bel HWb.out (below_drewN _ _)), hide (HD0.out.below (below_drewN _ _)), hide (HD1.out.below (below_drewN _ _))⟩
     case measure => simp [intOf]; omega
    ·obtain rfl : j = bl := by omega
     go_wp2_with fail
     go_loopw [7] (fun i wr => ∃ m : Nat, m ≤ dl ∧ i = .int .i64 m ∧ Hid (Below W.heap.size W wr) ∧ Hid (HasC wr W.heap.size 28 (tr4 (.slice na k nc) (.slice ba j bc) (.slice da dl dc) (.int .i64 root))) ∧ Hid (HasC wr (W.heap.size + 1) 28 (tr4 (.slice na2 k nc2) (.slice ba2 j bc2) (.slice da2 dl dc2) (.int .i64 root)))) (fun i _ => dl - (intOf i).toNat)
     case atStart => exact ⟨0, Nat.zero_le _, rfl, hide HWb.out, hide HD0.out, hide HD1.out⟩
     case round =>
      obtain ⟨m, hm, rfl, HWb, HD0, HD1⟩ := hrel
      rename World => V3
      clear c0 c1 c2 c3 d0 d1 d2 d3
      obtain ⟨c0, c1, c2, c3⟩ := facts4 HD0.out
      obtain ⟨d0, d1, d2, d3⟩ := facts4 HD1.out
      by_cases hlt : m < dl
      ·obtain ⟨g1, o1, rfl, at1⟩ := (HN.out.later HWb.out).at (by omega)
       obtain ⟨g2, o2, rfl, at2⟩ := (HN2.out.later HWb.out).at (by omega)
       obtain ⟨e0, e1, e2, e3, e4, e5, e6, e7, e8⟩ := at1 m hlt
       obtain ⟨f0, f1, f2, f3, f4, f5, f6, f7, f8⟩ := at2 m hlt
       clear at1 at2
       generalize NS.getD m n0 = n at *
       have hi0 : (0 : Int) ≤ m := by omega
       have hi1 : (m : Int) < dl := by omega
       go_upto_region 16 with fail
       go_quiet (fail)
       go_wp2_with fail
       go_roundw
       case rel => exact ⟨m + 1, by omega, by go_num, hide (bel HWb.out (below_drewN _ _)), hide (HD0.out.below (below_drewN _ _)), hide (HD1.out.below (below_drewN _ _))⟩
       case measure => simp [intOf]; omega
      ·obtain rfl : m = dl := by omega
       go_wp2_with fail
       go_ret
       exact ⟨rfl, HWb.out⟩

end Go.Proofs.YtbgmljmpmemfcaaGreat

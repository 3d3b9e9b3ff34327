/-
  The walk of PrintBack.
-/
import Derived.Test.YtodgjjkpbcadoaaDoorLwAB
namespace Go.Proofs.YtodgjjkpbcadoaaDoor
open Go.RowKit Go.IntWalk Lx Pz Go.Sort
set_option linter.unusedVariables false

set_option maxRecDepth 100000 in
set_option maxHeartbeats 8000000 in
theorem back_walk {W : World} {na ba da : Option Addr} {nl nc bl bc dl dc : Nat} {root : Int} {NM : List Txt} {BS : List Int} {NS : List Nd} (hX : Tx W na nl nc NM) (hB : Iz W ba bl bc BS) (hN : Nz W da dl dc NS) (hs : ∀ s ∈ NM, s.length ≤ 9223372036854775807) (hG : Gl W) :
    Calls Tryd.prog 3 #[treeV na ba da nl nc bl bc dl dc root] W fun e W' => e = .returned (.bool true) ∧ Below W.heap.size W W' := by
  have hb0 := bel1 W (.cells (tr4 (.slice na nl nc) (.slice ba bl bc) (.slice da dl dc) (.int .i64 root)) 26)
  have HX := hide hX
  have HBS := hide hB
  have HN := hide hN
  have HS := hide hs
  have HG := hide hG
  have HH := hide (HasC.new W 26 (tr4 (.slice na nl nc) (.slice ba bl bc) (.slice da dl dc) (.int .i64 root)))
  have HB := hide hb0
  clear hX hB hN hs hG hb0
  cases hc : chkP NM BS NS root with
  | false =>
    have HQ := hide (print_bad (HX.out.later HB.out) (HBS.out.later HB.out) (HN.out.later HB.out) HS.out hc)
    have hcc := hc
    go_enter Tryd.func3, Tryd.ntmps3
    go_wp2_with fail
    refine HQ.out.mono ?_
    rintro e W1 ⟨rfl, hb⟩
    have HB1 := hide (bel HB.out hb)
    have HH1 := hide (HH.out.below hb)
    clear hb HQ HB HH
    go_wp2_with fail
    refine (awake_any (HG.out.later HB1.out)).mono ?_
    rintro e W2 ⟨rfl, hb⟩
    have HB2 := hide (bel HB1.out hb)
    have HH2 := hide (HH1.out.below hb)
    clear hb HB1 HH1
    go_wp2_with fail
    refine (awake_any (HG.out.later HB2.out)).mono ?_
    rintro e W3 ⟨rfl, hb⟩
    have HB3 := hide (bel HB2.out hb)
    have HH3 := hide (HH2.out.below hb)
    clear hb HB2 HH2
    obtain ⟨c0, c1, c2, c3⟩ := facts4 HH3.out
    have HC := hide (check_any (root := root) (HX.out.later HB3.out) (HBS.out.later HB3.out) (HN.out.later HB3.out) HS.out)
    rw [hcc] at HC
    go_wp2_with fail
    refine HC.out.mono ?_
    rintro e W4 ⟨rfl, hb⟩
    have HB4 := hide (bel HB3.out hb)
    clear hb HB3 HH3 HC c0 c1 c2 c3
    go_wp2_with fail
    go_ret
    exact ⟨rfl, HB4.out⟩
  | true =>
    obtain ⟨es, ex, hD⟩ := chk_dec.1 hc
    have HQ := hide (print_ok (HX.out.later HB.out) (HBS.out.later HB.out) (HN.out.later HB.out) (HG.out.later HB.out) hD)
    by_cases hl : 1024 < (whole NM es ex).length
    · rw [if_pos hl] at HQ
      clear hl hD
      go_enter Tryd.func3, Tryd.ntmps3
      go_wp2_with fail
      refine HQ.out.mono ?_
      rintro e W1 ⟨rfl, hb⟩
      have HB1 := hide (bel HB.out hb)
      have HH1 := hide (HH.out.below hb)
      clear hb HQ HB HH
      go_wp2_with fail
      refine (awake_any (HG.out.later HB1.out)).mono ?_
      rintro e W2 ⟨rfl, hb⟩
      have HB2 := hide (bel HB1.out hb)
      have HH2 := hide (HH1.out.below hb)
      clear hb HB1 HH1
      go_wp2_with fail
      refine (awake_any (HG.out.later HB2.out)).mono ?_
      rintro e W3 ⟨rfl, hb⟩
      have HB3 := hide (bel HB2.out hb)
      have HH3 := hide (HH2.out.below hb)
      clear hb HB2 HH2
      obtain ⟨c0, c1, c2, c3⟩ := facts4 HH3.out
      have HC := hide (check_any (root := root) (HX.out.later HB3.out) (HBS.out.later HB3.out) (HN.out.later HB3.out) HS.out)
      rw [hc] at HC
      go_wp2_with fail
      refine HC.out.mono ?_
      rintro e W4 ⟨rfl, hb⟩
      have HB4 := hide (bel HB3.out hb)
      clear hb HB3 HH3 HC c0 c1 c2 c3
      go_wp2_with fail
      go_ret
      exact ⟨rfl, HB4.out⟩
    · rw [if_neg hl] at HQ
      have HPW := hide (fun V => parse_whole hD (by omega) V)
      obtain ⟨l1, l2, l3, l4⟩ := hD.lens
      have e1 := hD.binds
      have e2 := hD.nodes
      have HE := hide (show BS = bdL es 0 ∧ NS = nodesOf es ex from ⟨e1, e2⟩)
      have k1 := HX.out.len
      have k2 := HBS.out.len
      have k3 := HN.out.len
      obtain rfl : nl = es.length := by omega
      obtain rfl : bl = es.length := by omega
      obtain rfl : dl = szL es + ex.size := by omega
      subst l4
      clear hl hD l1 l2 l3 e1 e2 k1 k2 k3
      go_enter Tryd.func3, Tryd.ntmps3
      go_wp2_with fail
      refine HQ.out.mono ?_
      rintro e W1 ⟨rfl, hb⟩
      have HB1 := hide (bel HB.out hb)
      have HH1 := hide (HH.out.below hb)
      clear hb HQ HB HH
      go_wp2_with fail
      refine (awake_any (HG.out.later HB1.out)).mono ?_
      rintro e W2 ⟨rfl, hb⟩
      have HB2 := hide (bel HB1.out hb)
      have HH2 := hide (HH1.out.below hb)
      clear hb HB1 HH1
      go_wp2_with fail
      refine (HPW.out W2).mono ?_
      rintro e W3 ⟨na2, nc2, ba2, bc2, da2, dc2, rfl, hx, hi, hn, hb⟩
      have hb2 := bel1 W3 (.cells (tr4 (.slice na2 es.length nc2) (.slice ba2 es.length bc2) (.slice da2 (szL es + ex.size) dc2) (.int .i64 (rootOf es ex))) 26)
      have HB3 := hide (bel (bel HB2.out hb) hb2)
      have HH3 := hide (HH2.out.below (bel hb hb2))
      have HJ3 := hide (HasC.new W3 26 (tr4 (.slice na2 es.length nc2) (.slice ba2 es.length bc2) (.slice da2 (szL es + ex.size) dc2) (.int .i64 (rootOf es ex))))
      have HSm := hide (same_self (root := rootOf es ex) (HX.out.later HB3.out) (HBS.out.later HB3.out) (HN.out.later HB3.out) (hx.later hb2) (by rw [HE.out.1]; exact hi.later hb2) (by rw [HE.out.2]; exact hn.later hb2))
      obtain ⟨c0, c1, c2, c3⟩ := facts4 HH3.out
      obtain ⟨d0, d1, d2, d3⟩ := facts4 HJ3.out
      clear hx hi hn hb hb2 HB2 HH2 HPW
      go_wp2_with fail
      refine HSm.out.mono ?_
      rintro e W4 ⟨rfl, hb⟩
      have HB4 := hide (bel HB3.out hb)
      clear hb HB3 HH3 HJ3 HSm c0 c1 c2 c3 d0 d1 d2 d3
      go_wp2_with fail
      go_ret
      exact ⟨rfl, HB4.out⟩

end Go.Proofs.YtodgjjkpbcadoaaDoor

/-
  The walk of PrintTight.
-/
import Derived.Test.YtodgjjkpbcadoaaDoorLwAB
namespace Go.Proofs.YtodgjjkpbcadoaaDoor
open Go.RowKit Go.IntWalk Lx Pz Go.Sort
set_option linter.unusedVariables false

theorem tx_nil (W : World) : Tx W none 0 0 [] := ⟨rfl, Nat.le_refl _, Nat.zero_le _, .inl rfl⟩
theorem iz_nil (W : World) : Iz W none 0 0 [] := ⟨rfl, Nat.le_refl _, Nat.zero_le _, .inl rfl⟩
theorem nz_nil (W : World) : Nz W none 0 0 [] := ⟨rfl, Nat.le_refl _, Nat.zero_le _, .inl rfl⟩
theorem print_nil (W : World) : Calls Tryd.prog 6 #[.agg nil4] W fun e W' => e = .returned (.tuple #[.string ⟨#[]⟩, .int .i64 3]) ∧ Below W.heap.size W W' :=
  print_bad (NM := []) (BS := []) (NS := []) (root := 0) (tx_nil W) (iz_nil W) (nz_nil W) (by simp) (by decide)

set_option maxRecDepth 100000 in
set_option maxHeartbeats 8000000 in
theorem tight_walk {W : World} (s : ByteArray) (hG : Gl W) :
    Calls Tryd.prog 4 #[.string s] W fun e W' => e = .returned (.bool true) ∧ Below W.heap.size W W' := by
  have HG := hide hG
  clear hG
  go_enter Tryd.func4, Tryd.ntmps4
  go_wp2_with fail
  refine (parse_full s W).mono ?_
  rintro e W1 (⟨rfl, hb⟩ | ⟨NM, es, ex, na, nc, ba, bc, da, dc, hD, ht, hs, rfl, hx, hi, hn, hb⟩)
  · have HB1 := hide (bel hb (bel1 W1 (.cells nil4 26)))
    clear hb
    go_wp2_with fail
    refine (print_nil _).mono ?_
    rintro e W2 ⟨rfl, hb⟩
    have HB2 := hide (bel HB1.out hb)
    clear hb HB1
    go_wp2_with fail
    refine (awake_any (HG.out.later HB2.out)).mono ?_
    rintro e W3 ⟨rfl, hb⟩
    have HB3 := hide (bel HB2.out hb)
    clear hb HB2
    go_wp2_with fail
    refine (awake_any (HG.out.later HB3.out)).mono ?_
    rintro e W4 ⟨rfl, hb⟩
    have HB4 := hide (bel HB3.out hb)
    clear hb HB3
    go_wp2_with fail
    go_ret
    exact ⟨rfl, HB4.out⟩
  · have hb2 := bel1 W1 (.cells (tr4 (.slice na es.length nc) (.slice ba es.length bc) (.slice da (szL es + ex.size) dc) (.int .i64 (rootOf es ex))) 26)
    have HX := hide (hx.later hb2)
    have HI := hide (hi.later hb2)
    have HN := hide (hn.later hb2)
    have HB1 := hide (bel hb hb2)
    have HQ := hide (fun (V : World) (hV : Below W.heap.size W V) (na ba da : Option Addr) (nc bc dc : Nat) (hx : Tx V na es.length nc NM) (hi : Iz V ba es.length bc (bdL es 0)) (hn : Nz V da (szL es + ex.size) dc (nodesOf es ex)) => print_ok hx hi hn (HG.out.later hV) hD)
    rw [if_neg (show ¬ 1024 < (whole NM es ex).length by omega)] at HQ
    have HPW := hide (fun V => parse_whole hD (by omega) V)
    have HH1 := hide (HasC.new W1 26 (tr4 (.slice na es.length nc) (.slice ba es.length bc) (.slice da (szL es + ex.size) dc) (.int .i64 (rootOf es ex))))
    have hz1 : (sB (whole NM es ex)).size ≤ s.size := by rw [← bs_len, ← bs_len, bs_sB]; exact ht
    have hz0 : 0 < (sB (whole NM es ex)).size := by
      rw [← bs_len, bs_sB]
      exact List.length_pos_iff.2 (whole_ne hD)
    clear hx hi hn hb hb2 hD ht hs
    generalize sB (whole NM es ex) = S at *
    go_wp2_with fail
    refine (HQ.out _ HB1.out na ba da nc bc dc HX.out HI.out HN.out).mono ?_
    rintro e W2 ⟨rfl, hb⟩
    have HB2 := hide (bel HB1.out hb)
    have HX2 := hide (HX.out.later hb)
    have HI2 := hide (HI.out.later hb)
    have HN2 := hide (HN.out.later hb)
    have HH2 := hide (HH1.out.below hb)
    clear hb HB1 HX HI HN HH1
    go_wp2_with fail
    refine (awake_any (HG.out.later HB2.out)).mono ?_
    rintro e W3 ⟨rfl, hb⟩
    have HB3 := hide (bel HB2.out hb)
    have HX3 := hide (HX2.out.later hb)
    have HI3 := hide (HI2.out.later hb)
    have HN3 := hide (HN2.out.later hb)
    have HH3 := hide (HH2.out.below hb)
    clear hb HB2 HX2 HI2 HN2 HH2
    go_wp2_with fail
    refine (HPW.out W3).mono ?_
    rintro e W4 ⟨na2, nc2, ba2, bc2, da2, dc2, rfl, hx, hi, hn, hb⟩
    have hb2 := bel1 W4 (.cells (tr4 (.slice na2 es.length nc2) (.slice ba2 es.length bc2) (.slice da2 (szL es + ex.size) dc2) (.int .i64 (rootOf es ex))) 26)
    have hb3 := bel hb hb2
    have HB5 := hide (bel HB3.out hb3)
    have HX5 := hide (HX3.out.later hb3)
    have HI5 := hide (HI3.out.later hb3)
    have HN5 := hide (HN3.out.later hb3)
    have HH5 := hide (HH3.out.below hb3)
    have HY5 := hide (hx.later hb2)
    have HJ5 := hide (hi.later hb2)
    have HM5 := hide (hn.later hb2)
    have HK5 := hide (HasC.new W4 26 (tr4 (.slice na2 es.length nc2) (.slice ba2 es.length bc2) (.slice da2 (szL es + ex.size) dc2) (.int .i64 (rootOf es ex))))
    clear hx hi hn hb hb2 hb3 HB3 HX3 HI3 HN3 HH3 HPW
    go_wp2_with fail
    refine (HQ.out _ HB5.out na2 ba2 da2 nc2 bc2 dc2 HY5.out HJ5.out HM5.out).mono ?_
    rintro e W6 ⟨rfl, hb⟩
    have HB6 := hide (bel HB5.out hb)
    have HH6 := hide (HH5.out.below hb)
    have HK6 := hide (HK5.out.below hb)
    have HSm := hide (same_self (root := rootOf es ex) (HX5.out.later hb) (HI5.out.later hb) (HN5.out.later hb) (HY5.out.later hb) (HJ5.out.later hb) (HM5.out.later hb))
    obtain ⟨c0, c1, c2, c3⟩ := facts4 HH6.out
    obtain ⟨d0, d1, d2, d3⟩ := facts4 HK6.out
    clear hb HB5 HX5 HI5 HN5 HH5 HY5 HJ5 HM5 HK5 HQ
    go_wp2_with fail
    refine HSm.out.mono ?_
    rintro e W7 ⟨rfl, hb⟩
    have HB7 := hide (bel HB6.out hb)
    clear hb HB6 HH6 HK6 HSm c0 c1 c2 c3 d0 d1 d2 d3
    go_wp2_with fail
    go_ret
    exact ⟨rfl, HB7.out⟩

end Go.Proofs.YtodgjjkpbcadoaaDoor

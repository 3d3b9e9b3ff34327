/-
  The walk of CodeSame.
-/
import Derived.Test.YthkihmbgdfnofaaCheckW
import Derived.Test.YthkihmbgdfnofaaSpBitsP
namespace Go.Proofs.Ythkihmbgdfnofaa
open Go.RowKit Go.IntWalk Knd Go.Sort
set_option linter.unusedVariables false

theorem xor1_ne (a : Int) : bits BinOp.xor IntKind.i64 a 1 ≠ a := by
  intro h
  have h1 : bits BinOp.xor IntKind.i64 a 1 = Spn.bw Spn.Bop.xor a 1 := rfl
  rw [h1, Spn.bw_eq] at h
  have h2 := Spn.half_bv (Spn.Bop.bv Spn.Bop.xor (BitVec.ofInt 64 a) (BitVec.ofInt 64 1))
  have h3 := Spn.dig_nat Spn.Bop.xor (BitVec.ofInt 64 a) (BitVec.ofInt 64 1)
  rw [Spn.bit_ofInt, Spn.bit_ofInt] at h3
  change _ = (a % 2 + 1 % 2) % 2 at h3
  rw [h] at h2
  omega
theorem is6_set5 (x : Int) : ∀ (L : List In) (j : Nat), j < L.length → (is6 L).set (j * 6 + 5) (.int .i64 x) = is6 (L.set j { L.getD j i0 with s := x })
  | [], j, h => by simp at h
  | p :: L, 0, h => by simp [is6, i6]
  | p :: L, j + 1, h => by
    have ih := is6_set5 x L j (by simpa using h)
    have e : (j + 1) * 6 + 5 = (i6 p).length + (j * 6 + 5) := by simp [i6]; omega
    simp only [is6, List.flatMap_cons, List.set_cons_succ] at ih ⊢
    rw [e, List.set_append_right _ _ (by omega), Nat.add_sub_cancel_left, ih]
    rfl
theorem row_ne {w : World} {b base size g n c : Nat} {t e : TypeId} {cs : Array Value} {xs : List Value} (h : HasC w b t cs) (hO : w.ownsRow base e size (.slice (some ⟨g, 0, none⟩) n c) n xs) (ht : t ≠ e) : b ≠ g := by
  intro he
  subst he
  obtain ⟨_, cs', fr, hk⟩ := owns_block hO b rfl
  rw [show w.heap[b]? = _ from h] at hk
  cases hk
  exact ht rfl
theorem set_ne {L : List In} {j : Nat} (hj : j < L.length) {x : Int} (hx : x ≠ (L.getD j i0).s) : L ≠ L.set j { L.getD j i0 with s := x } := by
  intro h
  have h2 := congrArg (fun l => (l.getD j i0).s) h
  simp [List.getD_eq_getElem?_getD, hj] at h2
  rw [List.getD_eq_getElem?_getD, List.getElem?_eq_getElem hj] at hx
  exact hx h2.symm

set_option maxRecDepth 100000 in
set_option maxHeartbeats 8000000 in
theorem same_walk (f d o g e p at' : Int) {a b : Option Addr} {n m cap k : Nat} {L M : List In} (W : World) (hL : Ins W a n cap L) (hM : Ins W b m k M) (hs : n ≤ 2932031007317) (hs2 : m ≤ 2932031007317) :
    Calls Try.prog 6 #[.agg (cd f d a n cap o), .agg (cd g e b m k p), .int .i64 at'] W fun r W' => r = .returned (.bool true) ∧ Below W.heap.size W W' := by
  have hb1 := bel (bel1 W (.cells (cd f d a n cap o) 26)) (bel1 (W.alloc (.cells (cd f d a n cap o) 26)) (.cells (cd g e b m k p) 26))
  have HC0 := hide ((HasC.new W 26 (cd f d a n cap o)).alloc (.cells (cd g e b m k p) 26))
  have HE0 := hide (has_new1 W (.cells (cd f d a n cap o) 26) 26 (cd g e b m k p))
  have HB0 := hide hb1
  have HR := hide (roomyC_any f d o (hL.later hb1) (by omega))
  have HA := hide fun w => awake_any w
  have HS1 := hide fun (V : World) (hb : Below W.heap.size W V) => csame_any f d o g e p (hL.later hb) (hM.later hb)
  have HS2 := hide fun (V : World) (hb : Below W.heap.size W V) => xsame_any f d o g e p (hL.later hb) (hM.later hb)
  have HS3 := hide fun (V : World) (q c : Nat) (hb : Below W.heap.size W V) (h : Ins V (some ⟨q, 0, none⟩) (n + 1) c (L ++ [mk7])) => csame_any f d o f d o (hL.later hb) (ins_left h)
  rw [sameB_self] at HS3
  have HLI := hide hL
  have hn := hL.short
  clear hb1 hL hM
  generalize sameB f d o L g e p M = s at *
  go_enter Try.func6, Try.ntmps6
  go_wp2_with fail
  refine HR.out.mono ?_
  rintro r V1 ⟨q, c, rfl, hO, hb⟩
  have hb2 := bel1 V1 (.cells (cd f d (some ⟨q, 0, none⟩) n c o) 26)
  have HC1 := hide ((HC0.out.below hb).below hb2)
  have HE1 := hide ((HE0.out.below hb).below hb2)
  have HD1 := hide (HasC.new V1 26 (cd f d (some ⟨q, 0, none⟩) n c o))
  have HB1 := hide (bel (bel HB0.out hb) hb2)
  have HO1 := hide (hO.alloc (.cells (cd f d (some ⟨q, 0, none⟩) n c o) 26))
  clear hb hb2 hO HR HC0 HE0 HB0
  go_wp2_with fail
  obtain ⟨V2, hV2⟩ : ∃ V2, V1.alloc (.cells (cd f d (some ⟨q, 0, none⟩) n c o) 26) = V2 := ⟨_, rfl⟩
  rw [hV2] at HC1 HE1 HD1 HB1 HO1 ⊢
  clear hV2
  generalize V1.heap.size = x at *
  obtain ⟨c0, c1, c2, c3⟩ := four_of HC1.out
  obtain ⟨d0, d1, d2, d3⟩ := four_of HD1.out
  obtain ⟨e0, e1, e2, e3⟩ := four_of HE1.out
  have k0 := cell_regrown c0
  have k1 := cell_regrown c1
  have k2 := cell_regrown c2
  have k3 := cell_regrown c3
  have j0 := cell_regrown d0
  have j1 := cell_regrown d1
  have j2 := cell_regrown d2
  have j3 := cell_regrown d3
  have l0 := cell_regrown e0
  have l1 := cell_regrown e1
  have l2 := cell_regrown e2
  have l3 := cell_regrown e3
  have hss : (s != s) = false := by simp
  refine wp_region_quiet_below mixed0 (by kernel_rfl) ?_
  go_big_quiet_step ((go_at_call 11; exact Calls.regrown_of (HA.out _)))
  repeat (go_big_quiet_step (fail))
  go_big_quiet_step ((go_at_call 26; exact Calls.regrown_of (HS1.out _ (bel HB1.out (below_regrown _ _ _)))))
  repeat (go_big_quiet_step (fail))
  go_big_quiet_step ((go_at_call 27; exact Calls.regrown_of (HS2.out _ (bel HB1.out (below_regrown _ _ _)))))
  repeat (go_big_quiet_step (fail))
  go_big_quiet_step ((go_at_call 26; exact Calls.regrown_of (HS3.out _ _ _ (bel HB1.out (below_regrown _ _ _)) ((roomy_ins HO1.out).later (below_regrown _ _ _)))))
  repeat (go_big_quiet_step (fail))
  refine wpQuiet_nil ?_
  intro V3 hw'
  obtain ⟨⟨dq, osq⟩, hw''⟩ := hw'
  have hb := below_regrown V2 dq osq
  simp only at hw''
  rw [← hw''] at hb
  clear hw'' k0 k1 k2 k3 j0 j1 j2 j3 l0 l1 l2 l3 c0 c1 c2 c3 d0 d1 d2 d3 e0 e1 e2 e3
  have HC2 := hide (HC1.out.below hb)
  have HD2 := hide (HD1.out.below hb)
  have HB2 := hide (bel HB1.out hb)
  have HO2 := hide (HO1.out.kept (⟨hb.os, hb.tape, hb.output, hb.size, fun k hk _ => hb.block k hk⟩ : V2.grownBy V3 none) (Decidable.em _))
  clear hb HC1 HD1 HB1 HO1 HE1 HA HS1 HS2 HS3
  obtain ⟨c0, c1, c2, c3⟩ := four_of HC2.out
  by_cases h1 : at' < 0
  · go_wp2_with fail
    go_ret
    exact ⟨rfl, HB2.out⟩
  have h1' : decide (at' < 0) = false := by simpa using h1
  by_cases h2 : (n : Int) ≤ at'
  · go_wp2_with fail
    go_ret
    exact ⟨rfl, HB2.out⟩
  have h2' : decide ((n : Int) ≤ at') = false := by simpa using h2
  obtain ⟨j, rfl⟩ : ∃ j : Nat, at' = (j : Int) := ⟨at'.toNat, by omega⟩
  have hj : j < n := by omega
  obtain ⟨d0, d1, d2, d3⟩ := four_of HD2.out
  have f5 := World.ownsRow.frozenAt HO2.out (j * 6 + 5)
  have z0 : (0 : Int) ≤ j := by omega
  have z1 : (j : Int) < n := by omega
  have hll := HLI.out.len
  have x5 := World.ownsRow.cellAt HO2.out (j * 6 + 5) (by omega)
  rw [is6_get _ j (by simp; omega) 5 _ rfl] at x5
  have hgj : (L ++ [mk7]).getD j i0 = L.getD j i0 := by rw [List.getD_eq_getElem?_getD, List.getElem?_append_left (by omega), ← List.getD_eq_getElem?_getD]
  rw [hgj] at x5
  have hxn := xor1_ne (L.getD j i0).s
  have hO3 := (World.ownsRow.stored HO2.out (j * 6 + 5) (.int .i64 (bits BinOp.xor IntKind.i64 (L.getD j i0).s 1))).1
  rw [is6_set5 _ _ j (by simp; omega), hgj, List.set_append_left _ _ (by omega)] at hO3
  have HNe := hide (set_ne (L := L) (j := j) (by omega) hxn)
  generalize L.set j { L.getD j i0 with s := bits BinOp.xor IntKind.i64 (L.getD j i0).s 1 } = L2 at *
  have HI3 := hide (ins_left (roomy_ins hO3))
  generalize (L.getD j i0).s = sv at *
  generalize hsw : bits BinOp.xor IntKind.i64 sv 1 = sw at *
  have hlq := (HO2.out.lt q rfl).1
  simp only [World.size_alloc] at hlq
  have HC3 := hide (HC2.out.other (p := ⟨q, j * 6 + 5, none⟩) (row_ne HC2.out HO2.out (by decide)) (.int .i64 sw))
  have HD3 := hide (HD2.out.other (p := ⟨q, j * 6 + 5, none⟩) (row_ne HD2.out HO2.out (by decide)) (.int .i64 sw))
  have HB3 := hide (HB2.out.setCell (p := ⟨q, j * 6 + 5, none⟩) (by simp; omega) (.int .i64 sw))
  have HS4 := hide (csame_any f d o f d o (HLI.out.later HB3.out) HI3.out)
  rw [show sameB f d o L f d o L2 = false by simp [sameB, HNe.out]] at HS4
  have HS5 := hide fun (V : World) (hb : Below (V3.setCell ⟨q, j * 6 + 5, none⟩ (.int .i64 sw)).heap.size (V3.setCell ⟨q, j * 6 + 5, none⟩ (.int .i64 sw)) V) => csame_any f d o f d o (HI3.out.later hb) ((HLI.out.later HB3.out).later hb)
  rw [show sameB f d o L2 f d o L = false by simp [sameB, Ne.symm HNe.out]] at HS5
  clear hO3 hgj hxn hll hlq HO2 HC2 HD2 HB2 h1 h2
  obtain ⟨x0, x1, x2, x3⟩ := four_of HC3.out
  obtain ⟨y0, y1, y2, y3⟩ := four_of HD3.out
  go_wp2_with fail
  refine HS4.out.mono ?_
  rintro r V4 ⟨rfl, hb⟩
  have HS6 := hide (HS5.out _ hb)
  have HC4 := hide (HC3.out.below hb)
  have HD4 := hide (HD3.out.below hb)
  have HB4 := hide (bel HB3.out hb)
  clear hb HC3 HD3 HB3 HS5 HS4 x0 x1 x2 x3 y0 y1 y2 y3 c0 c1 c2 c3 d0 d1 d2 d3 f5 x5
  obtain ⟨x0, x1, x2, x3⟩ := four_of HC4.out
  obtain ⟨y0, y1, y2, y3⟩ := four_of HD4.out
  go_wp2_with fail
  refine HS6.out.mono ?_
  rintro r V5 ⟨rfl, hb⟩
  have HB5 := hide (bel HB4.out hb)
  clear hb
  go_wp2_with fail
  go_ret
  exact ⟨rfl, HB5.out⟩

end Go.Proofs.Ythkihmbgdfnofaa

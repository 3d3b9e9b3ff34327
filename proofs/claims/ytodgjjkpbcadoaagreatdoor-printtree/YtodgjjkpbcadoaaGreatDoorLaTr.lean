/-
  The package's tables, as the program's text lays them: from the row's condition to what the walks ask.
-/
import Derived.Test.YtodgjjkpbcadoaaGreatDoorRows
import Derived.Test.YtodgjjkpbcadoaaGreatDoorPrP
import Derived.MakeChecks
import Derived.Lib.LaidTab
import Derived.OpenShut
import Derived.Stop.LaidErr
import Derived.LaidMore
import Derived.ProofKit
import Derived.Test.YtodgjjkpbcadoaaGreatDoorCards
import Derived.Test.YtodgjjkpbcadoaaGreatDoorTie
import Derived.Test.YtodgjjkpbcadoaaGreatDoorOpenT
import Derived.Test.YtodgjjkpbcadoaaGreatDoorRfD
import Derived.SevenTiedAt
namespace Go.Proofs.YtodgjjkpbcadoaaGreatDoor
open Go.ChangeShapes Go.WideShapes Go.ChangeAt Go.RowKit Lx Pz
set_option linter.unusedVariables false

abbrev laid5 : List (String × DataW Unit) := Rows.printTreeRow.laid

theorem gIn : Tryz.prog.globalNamed "damask/print.inputs" = some 0 := by kernel_rfl
theorem gOp : Tryz.prog.globalNamed "damask/print.operators" = some 1 := by kernel_rfl
theorem gTab : Tryz.prog.globalNamed "internal/strconv.uint64pow10" = some 2 := by kernel_rfl
theorem yIn : (Tryz.prog.globals[0]?).map (·.type) = some 80 := by kernel_rfl
theorem yOp : (Tryz.prog.globals[1]?).map (·.type) = some 100 := by kernel_rfl
theorem yTab : (Tryz.prog.globals[2]?).map (·.type) = some 124 := by kernel_rfl
theorem kIn : Tryz.prog.cellsOf 80 = 6 := by kernel_rfl
theorem kOp : Tryz.prog.cellsOf 100 = 58 := by kernel_rfl
theorem kTab : Tryz.prog.cellsOf 124 = 20 := by kernel_rfl
theorem kRow : Tryz.prog.cellsOf 99 = 2 := by kernel_rfl
theorem kStr : Tryz.prog.cellsOf 9 = 1 := by kernel_rfl
theorem kInt : Tryz.prog.cellsOf 3 = 1 := by kernel_rfl
theorem kU64 : Tryz.prog.cellsOf 118 = 1 := by kernel_rfl

theorem one_of {cs : List Value} {i : Nat} {v : Value} (h : (cs.drop i).take 1 = [v]) : cs[i]? = some v := by
  have := congrArg (·[0]?) h
  simpa [List.getElem?_take, List.getElem?_drop] using this

theorem arr_str {H : Type} {enc : TypeId × Value → H} {W : World} {base fuel : Nat} {sp : Nat → Bool} {held : Bool} {cs : List Value} {L : List Txt} {p : List MemPlace}
    (h : DataW.trod enc Tryz.prog W base sp held fuel 80 cs = some (.agg (L.map fun s => .lit (.string s)), p)) : ∀ i, i < 6 → cs[i]? = some (.string (sB (L.getD i []))) := by
  obtain ⟨xs, m, -, hx, -, hn, hel⟩ := DataW.trod_array Tryz.underlying80 h
  simp only [Prod.mk.injEq, DataW.agg.injEq] at hx
  intro i hi
  have h1 := hel i hi
  rw [kStr, Nat.mul_one] at h1
  have hlt : i < xs.length := by omega
  rw [List.getElem?_eq_getElem hlt] at h1
  obtain ⟨s, e1, e2, -⟩ := DataW.trod_string Tryz.underlying9 h1
  have e3 : (xs.map (·.1))[i]? = some (.lit (.string s.data.toList)) := by rw [List.getElem?_map, List.getElem?_eq_getElem hlt, e2]; rfl
  rw [← hx.1, List.getElem?_map] at e3
  cases hL : L[i]? with
  | none => rw [hL] at e3; cases e3
  | some l =>
    rw [hL] at e3
    simp only [Option.map_some, Option.some.injEq, DataW.lit.injEq, Lit.string.injEq] at e3
    rw [one_of e1, List.getD_eq_getElem?_getD, hL, Option.getD_some, e3]

theorem arr_row {H : Type} {enc : TypeId × Value → H} {W : World} {base fuel : Nat} {sp : Nat → Bool} {held : Bool} {cs : List Value} {L : List (Txt × Nat)} {p : List MemPlace}
    (h : DataW.trod enc Tryz.prog W base sp held fuel 100 cs = some (.agg (L.map fun r => .agg [.lit (.string r.1), .lit (.int .i64 (r.2 : Int))]), p)) : ∀ i, i < 29 → cs[i * 2]? = some (.string (sB (L.getD i ([], 0)).1)) ∧ cs[i * 2 + 1]? = some (.int .i64 (L.getD i ([], 0)).2) := by
  obtain ⟨xs, m, -, hx, -, hn, hel⟩ := DataW.trod_array Tryz.underlying100 h
  simp only [Prod.mk.injEq, DataW.agg.injEq] at hx
  intro i hi
  have h1 := hel i hi
  rw [kRow] at h1
  have hlt : i < xs.length := by omega
  rw [List.getElem?_eq_getElem hlt] at h1
  obtain ⟨y0, y1, m2, e2, -, g0, g1⟩ := trod_struct2 Tryz.underlying99 h1
  simp only [kStr, kInt, List.drop_zero] at g0 g1
  obtain ⟨s, a1, a2, -⟩ := DataW.trod_string Tryz.underlying9 g0
  obtain ⟨z, b1, b2, -⟩ := DataW.trod_int Tryz.underlying3 g1
  have c0 : cs[i * 2]? = some (.string s) := by
    have := congrArg (·[0]?) a1
    simpa [List.getElem?_take, List.getElem?_drop] using this
  have c1 : cs[i * 2 + 1]? = some (.int .i64 z) := by
    have := congrArg (·[0]?) b1
    simpa [List.getElem?_take, List.getElem?_drop] using this
  have e3 : (xs.map (·.1))[i]? = some (.agg [.lit (.string s.data.toList), .lit (.int .i64 z)]) := by rw [List.getElem?_map, List.getElem?_eq_getElem hlt, e2, a2, b2]; rfl
  rw [← hx.1, List.getElem?_map] at e3
  cases hL : L[i]? with
  | none => rw [hL] at e3; cases e3
  | some l =>
    rw [hL] at e3
    simp only [Option.map_some, Option.some.injEq, DataW.agg.injEq, List.cons.injEq, DataW.lit.injEq, Lit.string.injEq, Lit.int.injEq, true_and, and_true] at e3
    rw [c0, c1, List.getD_eq_getElem?_getD, hL, Option.getD_some, e3.1, e3.2]
    exact ⟨congrArg (fun z => some (Value.string z)) (sB_bs s).symm, rfl⟩

theorem gl_of {W : World} (h0 : laidMetH Tryz.prog laid5 W) : Gl W := by
  rw [MakeChecks.laidMetH_plain _ _ _ (by kernel_rfl)] at h0
  have h3 : laidMet Tryz.prog [("internal/strconv.uint64pow10", Rows.laid_internal_strconv_uint64pow10), ("damask/print.operators", Rows.laid_damask_print_operators), ("damask/print.inputs", Rows.laid_damask_print_inputs)] W := h0.tail.tail
  have h4 := h3.tail
  have h5 := h4.tail
  have hT : Lib.TabIs Tryz.prog W "internal/strconv.uint64pow10" .u64 Lib.pow10Tab :=
    Lib.tabIs_of_head gTab yTab Tryz.underlying124 Tryz.underlying118 kU64 kTab (show laidMet Tryz.prog (("internal/strconv.uint64pow10", Lib.tabData .u64 Lib.pow10Tab) :: _) W from h3)
  obtain ⟨ps, ⟨g, t, cs, fuel, p, q, hg, ht, hv, hd, _, _⟩, _⟩ := h4
  obtain rfl := Option.some.inj (gOp.symm.trans hg)
  obtain rfl := Option.some.inj (yOp.symm.trans ht)
  obtain ⟨ps2, ⟨g2, t2, cs2, fuel2, p2, q2, hg2, ht2, hv2, hd2, _, _⟩, _⟩ := h5
  obtain rfl := Option.some.inj (gIn.symm.trans hg2)
  obtain rfl := Option.some.inj (yIn.symm.trans ht2)
  rw [show Rows.laid_damask_print_operators = (.agg (opTab.map fun r => .agg [.lit (.string r.1), .lit (.int .i64 (r.2 : Int))]) : DataW Unit) from by kernel_rfl] at hd
  rw [show Rows.laid_damask_print_inputs = (.agg (inTx.map fun s => .lit (.string s)) : DataW Unit) from by kernel_rfl] at hd2
  have r1 := arr_row hd
  have r2 := arr_str hd2
  refine ⟨fun k hk => ?_, fun k hk => ⟨?_, ?_⟩, hT⟩
  · have := World.var?_cell hg2 hv2 k
    rw [this, ← Array.getElem?_toList]
    exact r2 k hk
  · have := World.var?_cell hg hv (k * 2)
    rw [this, ← Array.getElem?_toList]
    exact (r1 k hk).1
  · have := World.var?_cell hg hv (k * 2 + 1)
    rw [this, ← Array.getElem?_toList]
    exact (r1 k hk).2

end Go.Proofs.YtodgjjkpbcadoaaGreatDoor

/-
  PrintTree: of every tree the printed text and the answer are the document's; the tree stays as it was.
-/
namespace Go.Proofs.YtodgjjkpbcadoaaGreatDoor
open Go.ChangeShapes Go.WideShapes Go.ChangeAt Go.RowKit
set_option linter.unusedVariables false

set_option maxRecDepth 100000 in
theorem door_met (os : Os) (args : Array Value) : laidMetH Tryz.prog laid5 ((World.doorLaid Tryz.prog 400 os).forCall (fun _ _ => 0) ⟨#[], args, []⟩).memory :=
  laidMetH_of_parts3 (fuel := 8) (laidMet_of_run' 8 (by kernel_rfl) (by kernel_rfl)) (by kernel_rfl) (by kernel_rfl)

set_option maxRecDepth 100000 in
theorem printTree_lifted (os : Os) (started : os.Started) (H : Type) (enc : TypeId × Value → H) :
    ReturnsInHanded {} Tryz.checked os 3 .any (fun w args => (Rows.printTreeSpec.pre enc Tryz.prog Tryz.f3 [] false w args ∧ laidMetH Tryz.prog laid5 w) ∧ sizedMet enc Tryz.prog Tryz.f3 (OpenSpec.ofChange Rows.printTreeSpec) false w args)
      (Rows.printTreeSpec.post enc Tryz.prog Tryz.f3 false true false false) := by
  refine returnsInHanded_of_change_and (C := Tryz.checked) (X := fun w _ => laidMetH Tryz.prog laid5 w) (fun _ _ _ hh h => h.of_heap hh) ownK started (by kernel_rfl) Tryz.func3
    (ChangeSpec.witness_shaped (enc := enc) (C := Tryz.checked) (os := os) (X := fun w _ => laidMetH Tryz.prog laid5 w) false (World.doorLaid Tryz.prog 400 os) #[.agg #[.slice none 0 0, .slice none 0 0, .slice none 0 0, .int .i64 0]] 8 rfl (World.shaped_of_RefB (by kernel_rfl) (by kernel_rfl)) (by kernel_rfl) (by kernel_rfl) (by kernel_rfl) (door_met os _)) ?_
  intro W base args ds gs before hval0 hW hcnd hsz0 hL _
  have hval : ∀ (j : Nat) t v, Tryz.f3.params[j]? = some t → args[j]? = some v → Value.okWide Tryz.prog W .any base t v := hval0
  have hsz : (DataW.weightsEach Tryz.prog (Tryz.f3.params.toList ++ Rows.printTreeSpec.plain.varTypes Tryz.prog) (ds ++ gs)).all (· ≤ reachBytes) = true := hsz0
  have hW' := hW
  obtain ⟨p, q, hA0, hV, rfl, hfz, hnd⟩ := hW
  have hA : DataW.TrodAll enc Tryz.prog W 0 (fun _ => true) true Tryz.f3.params.toList args.toList ds p := hA0
  rw [Tryz.params3] at hA hval hsz
  obtain ⟨v0, vs0, d0, ds0, p0, q0, hargs, rfl, rfl, h0, r0⟩ := trodAll_cons hA
  obtain ⟨rfl, rfl, rfl⟩ := trodAll_nil r0
  obtain rfl : args = #[v0] := by cases args; simp_all
  obtain ⟨rfl, rfl⟩ := trodVars_none hV
  have k0 := h0
  have lt0 : ∀ x ∈ p0, x.block < W.heap.size := by obtain ⟨m, hm⟩ := k0; exact DataW.trod_lt m _ _ _ hm
  obtain ⟨na0, nl0, nc0, NM0, ba0, bl0, bc0, BS0, da0, dl0, dc0, NS0, root0, rfl, hX0, hN0, hI0, hY0, o00, o10, o20, y00, y10, y20, y30, hd0, he0, hf0, hg0⟩ := open_tree (hval 0 26 v0 rfl rfl) h0
  obtain ⟨hR0, hS0, hT0⟩ := tree_reach hd0 he0 hf0 hg0 hsz 0 rfl rfl
  clear hA0 hval0 hsz0
  refine (tree_walk hX0 hI0 hY0 hN0 o00 o10 o20 hR0 hS0 hT0 (gl_of hL)).mono fun e W' ⟨he, bel⟩ => ?_
  subst he
  exact ⟨_, rfl, _, _, _, [], _, [], hW', trodAll_mk1 (shut_bool Tryz.underlying4 _), trodAll_cons_mk (Below.trod laidOut' (by kernel_rfl) (of_decide_eq_true (by kernel_rfl)) k0 bel lt0) (trodAll_mk0), rfl, bel.frame _, fun h => by cases h⟩

theorem printTree_row : Rows.PrintTreeSaid :=
  OpenClaim.holds_of_wide 3 Tryz.f3 rfl rfl rfl rfl rfl rfl rfl ⟨rfl, rfl, rfl, rfl, rfl⟩ rfl rfl rfl rfl rfl (by kernel_rfl) Tryz.func3 (by kernel_rfl)
    (of_decide_eq_true (by kernel_rfl)) (by unfold Func.isWrapper; first | (rw [if_pos (by decide +kernel)]; kernel_rfl) | (rw [if_neg (by decide +kernel)]; exact ⟨rfl, rfl⟩))
    (fun os started H enc _ => printTree_lifted os started H enc)

theorem printTree_holds : Rows.PrintTreeCardSaid :=
  Claim7.holds_tied_plain_at .later [] [.data, .data, .data, .data, .data] true Rows.printTreeCard.stood.harness false
    printTree_row (fun _ h => by cases h) (by kernel_rfl) (fun _ h => by cases h) printTree_row_tie rfl ⟨rfl, rfl⟩ (by kernel_rfl) rfl
    (fun f fn hf hfn => by
      obtain rfl : f = 3 := Option.some.inj ((show Tryz.prog.funcNamed Rows.printTreeRow.func = some 3 by kernel_rfl).symm.trans hf) |>.symm
      obtain rfl : fn = Tryz.f3 := (Option.some.inj (Tryz.func3.symm.trans hfn)).symm
      exact ⟨by kernel_rfl, fun j t ht => by
        rw [Tryz.params3] at ht
        have hm : t ∈ [26] := by simpa using Array.mem_of_getElem? ht
        have hall : ([26].all fun u => !Tryz.prog.wantsStandIn u) = true := by kernel_rfl
        exact (show Tryz.prog.wantsStandIn t = false by simpa using List.all_eq_true.1 hall t hm)⟩)
    (by kernel_rfl)
#print axioms printTree_holds

end Go.Proofs.YtodgjjkpbcadoaaGreatDoor

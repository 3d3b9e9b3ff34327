/-
  The package's tables, as the program's text lays them: from the row's condition to what the walks ask.
-/
import Derived.Test.YtodgjjkpbcadoaaDoorRows
import Derived.Test.YtodgjjkpbcadoaaDoorPrP
import Derived.MakeChecks
import Derived.Lib.LaidTab
import Derived.OpenShut
import Derived.Stop.LaidErr
import Derived.LaidMore
import Derived.ProofKit
namespace Go.Proofs.YtodgjjkpbcadoaaDoor
open Go.ChangeShapes Go.WideShapes Go.ChangeAt Go.RowKit Lx Pz
set_option linter.unusedVariables false

abbrev laid5 : List (String × DataW Unit) := Rows.printBackRow.laid

theorem gIn : Tryd.prog.globalNamed "damask/print.inputs" = some 0 := by kernel_rfl
theorem gOp : Tryd.prog.globalNamed "damask/print.operators" = some 1 := by kernel_rfl
theorem gTab : Tryd.prog.globalNamed "internal/strconv.uint64pow10" = some 2 := by kernel_rfl
theorem yIn : (Tryd.prog.globals[0]?).map (·.type) = some 77 := by kernel_rfl
theorem yOp : (Tryd.prog.globals[1]?).map (·.type) = some 99 := by kernel_rfl
theorem yTab : (Tryd.prog.globals[2]?).map (·.type) = some 116 := by kernel_rfl
theorem kIn : Tryd.prog.cellsOf 77 = 6 := by kernel_rfl
theorem kOp : Tryd.prog.cellsOf 99 = 58 := by kernel_rfl
theorem kTab : Tryd.prog.cellsOf 116 = 20 := by kernel_rfl
theorem kRow : Tryd.prog.cellsOf 98 = 2 := by kernel_rfl
theorem kStr : Tryd.prog.cellsOf 9 = 1 := by kernel_rfl
theorem kInt : Tryd.prog.cellsOf 3 = 1 := by kernel_rfl
theorem kU64 : Tryd.prog.cellsOf 110 = 1 := by kernel_rfl

theorem one_of {cs : List Value} {i : Nat} {v : Value} (h : (cs.drop i).take 1 = [v]) : cs[i]? = some v := by
  have := congrArg (·[0]?) h
  simpa [List.getElem?_take, List.getElem?_drop] using this

theorem arr_str {H : Type} {enc : TypeId × Value → H} {W : World} {base fuel : Nat} {sp : Nat → Bool} {held : Bool} {cs : List Value} {L : List Txt} {p : List MemPlace}
    (h : DataW.trod enc Tryd.prog W base sp held fuel 77 cs = some (.agg (L.map fun s => .lit (.string s)), p)) : ∀ i, i < 6 → cs[i]? = some (.string (sB (L.getD i []))) := by
  obtain ⟨xs, m, -, hx, -, hn, hel⟩ := DataW.trod_array Tryd.underlying77 h
  simp only [Prod.mk.injEq, DataW.agg.injEq] at hx
  intro i hi
  have h1 := hel i hi
  rw [kStr, Nat.mul_one] at h1
  have hlt : i < xs.length := by omega
  rw [List.getElem?_eq_getElem hlt] at h1
  obtain ⟨s, e1, e2, -⟩ := DataW.trod_string Tryd.underlying9 h1
  have e3 : (xs.map (·.1))[i]? = some (.lit (.string s.data.toList)) := by rw [List.getElem?_map, List.getElem?_eq_getElem hlt, e2]; rfl
  rw [← hx.1, List.getElem?_map] at e3
  cases hL : L[i]? with
  | none => rw [hL] at e3; cases e3
  | some l =>
    rw [hL] at e3
    simp only [Option.map_some, Option.some.injEq, DataW.lit.injEq, Lit.string.injEq] at e3
    rw [one_of e1, List.getD_eq_getElem?_getD, hL, Option.getD_some, e3]

theorem arr_row {H : Type} {enc : TypeId × Value → H} {W : World} {base fuel : Nat} {sp : Nat → Bool} {held : Bool} {cs : List Value} {L : List (Txt × Nat)} {p : List MemPlace}
    (h : DataW.trod enc Tryd.prog W base sp held fuel 99 cs = some (.agg (L.map fun r => .agg [.lit (.string r.1), .lit (.int .i64 (r.2 : Int))]), p)) : ∀ i, i < 29 → cs[i * 2]? = some (.string (sB (L.getD i ([], 0)).1)) ∧ cs[i * 2 + 1]? = some (.int .i64 (L.getD i ([], 0)).2) := by
  obtain ⟨xs, m, -, hx, -, hn, hel⟩ := DataW.trod_array Tryd.underlying99 h
  simp only [Prod.mk.injEq, DataW.agg.injEq] at hx
  intro i hi
  have h1 := hel i hi
  rw [kRow] at h1
  have hlt : i < xs.length := by omega
  rw [List.getElem?_eq_getElem hlt] at h1
  obtain ⟨y0, y1, m2, e2, -, g0, g1⟩ := trod_struct2 Tryd.underlying98 h1
  simp only [kStr, kInt, List.drop_zero] at g0 g1
  obtain ⟨s, a1, a2, -⟩ := DataW.trod_string Tryd.underlying9 g0
  obtain ⟨z, b1, b2, -⟩ := DataW.trod_int Tryd.underlying3 g1
  have c0 : cs[i * 2]? = some (.string s) := by
    have := congrArg (·[0]?) a1
    simpa [List.getElem?_take, List.getElem?_drop] using this
  have c1 : cs[i * 2 + 1]? = some (.int .i64 z) := by
    have := congrArg (·[0]?) b1
    simpa [List.getElem?_take, List.getElem?_drop] using this
  have e3 : (xs.map (·.1))[i]? = some (.agg [.lit (.string s.data.toList), .lit (.int .i64 z)]) := by rw [List.getElem?_map, List.getElem?_eq_getElem hlt, e2, a2, b2]; rfl
  rw [← hx.1, List.getElem?_map] at e3
  cases hL : L[i]? with
  | none => rw [hL] at e3; cases e3
  | some l =>
    rw [hL] at e3
    simp only [Option.map_some, Option.some.injEq, DataW.agg.injEq, List.cons.injEq, DataW.lit.injEq, Lit.string.injEq, Lit.int.injEq, true_and, and_true] at e3
    rw [c0, c1, List.getD_eq_getElem?_getD, hL, Option.getD_some, e3.1, e3.2]
    exact ⟨congrArg (fun z => some (Value.string z)) (sB_bs s).symm, rfl⟩

theorem gl_of {W : World} (h0 : laidMetH Tryd.prog laid5 W) : Gl W := by
  rw [MakeChecks.laidMetH_plain _ _ _ (by kernel_rfl)] at h0
  have h3 : laidMet Tryd.prog [("internal/strconv.uint64pow10", Rows.laid_internal_strconv_uint64pow10), ("damask/print.operators", Rows.laid_damask_print_operators), ("damask/print.inputs", Rows.laid_damask_print_inputs)] W := h0.tail.tail
  have h4 := h3.tail
  have h5 := h4.tail
  have hT : Lib.TabIs Tryd.prog W "internal/strconv.uint64pow10" .u64 Lib.pow10Tab :=
    Lib.tabIs_of_head gTab yTab Tryd.underlying116 Tryd.underlying110 kU64 kTab (show laidMet Tryd.prog (("internal/strconv.uint64pow10", Lib.tabData .u64 Lib.pow10Tab) :: _) W from h3)
  obtain ⟨ps, ⟨g, t, cs, fuel, p, q, hg, ht, hv, hd, _, _⟩, _⟩ := h4
  obtain rfl := Option.some.inj (gOp.symm.trans hg)
  obtain rfl := Option.some.inj (yOp.symm.trans ht)
  obtain ⟨ps2, ⟨g2, t2, cs2, fuel2, p2, q2, hg2, ht2, hv2, hd2, _, _⟩, _⟩ := h5
  obtain rfl := Option.some.inj (gIn.symm.trans hg2)
  obtain rfl := Option.some.inj (yIn.symm.trans ht2)
  rw [show Rows.laid_damask_print_operators = (.agg (opTab.map fun r => .agg [.lit (.string r.1), .lit (.int .i64 (r.2 : Int))]) : DataW Unit) from by kernel_rfl] at hd
  rw [show Rows.laid_damask_print_inputs = (.agg (inTx.map fun s => .lit (.string s)) : DataW Unit) from by kernel_rfl] at hd2
  have r1 := arr_row hd
  have r2 := arr_str hd2
  refine ⟨fun k hk => ?_, fun k hk => ⟨?_, ?_⟩, hT⟩
  · have := World.var?_cell hg2 hv2 k
    rw [this, ← Array.getElem?_toList]
    exact r2 k hk
  · have := World.var?_cell hg hv (k * 2)
    rw [this, ← Array.getElem?_toList]
    exact (r1 k hk).1
  · have := World.var?_cell hg hv (k * 2 + 1)
    rw [this, ← Array.getElem?_toList]
    exact (r1 k hk).2

end Go.Proofs.YtodgjjkpbcadoaaDoor

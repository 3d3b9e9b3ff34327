/-
  What the printer's small methods write.
-/
import Derived.Test.YtodgjjkpbcadoaaGreatDoorBlIt
import Derived.Test.YtodgjjkpbcadoaaGreatDoorGr5P
import Derived.Lib.ItoaLen
import Derived.Lib.AppendIntMem
import Derived.BigQuiet
import Derived.Deep.QuietTactic
import Derived.Test.YtodgjjkpbcadoaaGreatDoorRplace
import Derived.Test.YtodgjjkpbcadoaaGreatDoorGrJS
namespace Go.Proofs.YtodgjjkpbcadoaaGreatDoor
open Go.RowKit Go.IntWalk Lx Pz Go.Sort
set_option linter.unusedVariables false

theorem mixedP : Tryz.prog.follows .mixedOrders = true := by kernel_rfl

/-- The package's tables, as its text lays them. -/
structure Gl (w : World) : Prop where
  inp : ∀ k, k < 6 → w.cell? ⟨0, k, none⟩ = some (.string (sB (inTx.getD k [])))
  ops : ∀ k, k < 29 → w.cell? ⟨1, k * 2, none⟩ = some (.string (sB (opTab.getD k ([], 0)).1)) ∧ w.cell? ⟨1, k * 2 + 1, none⟩ = some (.int .i64 (opTab.getD k ([], 0)).2)
  tab : Lib.TabIs Tryz.prog w "internal/strconv.uint64pow10" .u64 Lib.pow10Tab

theorem tab_later {w w' : World} (h : Lib.TabIs Tryz.prog w "internal/strconv.uint64pow10" .u64 Lib.pow10Tab) (hb : Below w.heap.size w w') : Lib.TabIs Tryz.prog w' "internal/strconv.uint64pow10" .u64 Lib.pow10Tab :=
  Lib.tabBelow_of_tabIs h w' hb
theorem Gl.later {w w' : World} (h : Gl w) (hb : Below w.heap.size w w') : Gl w' :=
  ⟨fun k hk => (hb.cell (p := ⟨0, k, none⟩) (World.block_lt_of_cell? w _ (h.inp k hk))).trans (h.inp k hk),
   fun k hk => ⟨(hb.cell (p := ⟨1, k * 2, none⟩) (World.block_lt_of_cell? w _ (h.ops k hk).1)).trans (h.ops k hk).1, (hb.cell (p := ⟨1, k * 2 + 1, none⟩) (World.block_lt_of_cell? w _ (h.ops k hk).2)).trans (h.ops k hk).2⟩,
   tab_later h.tab hb⟩

theorem below_grow (w : World) (k : Nat) (os : Array Obj) : Below w.heap.size w (grow (w.drewN k) os) := by
  have h := below_regrown w (w.drawn + k) os
  exact h

theorem itoa_any {w : World} (h : Gl w) (n : Int) (h0 : -9223372036854775808 ≤ n) (h1 : n ≤ 9223372036854775807) :
    Calls Tryz.prog 67 #[.int .i64 n] w fun e w' => e = .returned (.string (sB (Lib.itoa n))) ∧ Below w.heap.size w w' := by
  refine (Tryz.strconv_Itoa n h0 h1 w h.tab).mono ?_
  rintro e w' ⟨rfl, k, os, rfl⟩
  exact ⟨rfl, below_grow w k os⟩

theorem itoa_len {n : Int} (h0 : -9223372036854775808 ≤ n) (h1 : n ≤ 9223372036854775807) : (Lib.itoa n).length ≤ 21 := Lib.itoa_length_le n h0 h1

set_option maxHeartbeats 2000000 in
set_option maxRecDepth 100000 in
theorem xnumber_any {w W : World} {b : Nat} {t : Tv} {out : List UInt8} (hP : Pb w W b t out) (hG : Gl w) (n : Int) (h0 : -9223372036854775808 ≤ n) (h1 : n ≤ 9223372036854775807) (hlen : out.length + (Lib.itoa n).length ≤ 1099511627776) :
    Calls Tryz.prog 43 #[ptr b, .int .i64 n] W fun e W' => e = .returned (.tuple #[]) ∧ Pb w W' b t (out ++ Lib.itoa n) ∧ Kp SP W W' := by
  have HI := fun (G : World) (hb : Below W.heap.size W G) => hide (itoa_any (hG.later (bel hP.old hb)) n h0 h1)
  have HP := hide hP
  have HL := hide hlen
  clear hP hG h0 h1 hlen
  go_enter Tryz.func43, Tryz.ntmps43
  go_wp2_with fail
  refine wp_region_quiet_last_lit (hf := (List.dropLast_concat_getLast (by simp)).symm) mixedP (by kernel_rfl) rfl (by kernel_rfl) (by kernel_rfl) (by kernel_rfl) (by kernel_rfl) (by kernel_rfl) ?_
  simp only [List.dropLast_cons_cons, List.dropLast_singleton, List.getLast_cons_cons, List.getLast_singleton]
  repeat (go_big_quiet_step ((go_at_call 67; exact Calls.regrown_of (HI _ (below_regrown _ _ _)).out)))
  refine wpQuiet_nil ?_
  intro _ hw'
  obtain ⟨pq, hw''⟩ := hw'
  subst hw''
  have hb2 := below_regrown W pq.d pq.os
  have HP2 := hide (HP.out.later hb2)
  have HK2 := hide (Kp.of_below SP hb2)
  clear HP hb2
  generalize grow (redrawn W pq.d) pq.os = G at *
  go_wp2_with fail
  refine (writeString_any HP2.out _ (by exact HL.out)).mono ?_
  rintro e W1 ⟨rfl, hP1, hK1⟩
  go_wp2_with fail
  go_end0
  exact ⟨rfl, hP1, HK2.out.trans hK1⟩

end Go.Proofs.YtodgjjkpbcadoaaGreatDoor

/-
  What the printer's method place writes.
-/
namespace Go.Proofs.YtodgjjkpbcadoaaGreatDoor
open Go.RowKit Go.IntWalk Lx Pz Go.Sort
set_option linter.unusedVariables false

set_option maxHeartbeats 4000000 in
set_option maxRecDepth 100000 in
theorem xplace_00 {w W : World} {b : Nat} {t : Tv} {out : List UInt8} (hP : Pb w W b t out) (hG : Gl w) (back co x y : Int) (h0 : -9223372036854775808 ≤ back ∧ back ≤ 9223372036854775807) (h1 : -9223372036854775808 ≤ x ∧ x ≤ 9223372036854775807) (h2 : -9223372036854775808 ≤ y ∧ y ≤ 9223372036854775807)
    (hb : (back == 0) = true) (hc : (co == 2) = false) (hlen : out.length + (plT ⟨3, 0, 0, 0, 0, back, co, x, y⟩).length ≤ 1099511627776) :
    Calls Tryz.prog 44 #[ptr b, .agg (pl4 back co x y)] W fun e W' => e = .returned (.tuple #[]) ∧ Pb w W' b t (out ++ plT ⟨3, 0, 0, 0, 0, back, co, x, y⟩) ∧ Kp SP W W' := by
  have HX0 := hide (HasC.new W 37 (pl4 back co x y))
  have HP0 := hide (hP.later (bel1 W (.cells (pl4 back co x y) 37)))
  have HK0 := hide (Kp.of_below SP (bel1 W (.cells (pl4 back co x y) 37)))
  have HG := hide hG
  have HB0 := hide h0
  have HB1 := hide h1
  have HB2 := hide h2
  have hb2 : back = 0 := by simpa using hb
  have hc2 : ¬ co = 2 := by simpa using hc
  have HT := hide (show out ++ plT ⟨3, 0, 0, 0, 0, back, co, x, y⟩ = (((out ++ bs ⟨#[112, 40]⟩) ++ Lib.itoa x) ++ [UInt8.ofNat 41]) by simp [plT, hb2, hc2, bs])
  have HL := hide (show ((((out ++ bs ⟨#[112, 40]⟩) ++ Lib.itoa x) ++ [UInt8.ofNat 41])).length ≤ 1099511627776 by rw [← HT.out, List.length_append]; exact hlen)
  clear hP hG h0 h1 h2 hlen hb2 hc2
  obtain ⟨c0, c1, c2, c3⟩ := facts4 HX0.out
  go_enter Tryz.func44, Tryz.ntmps44
  go_wp2_with fail
  refine (writeString_any HP0.out _ (by have := HL.out; simp [bs] at this ⊢; omega)).mono ?_
  rintro e W1 ⟨rfl, hP, hK⟩
  have HP1 := hide hP
  have HX1 := hide (HX0.out.kp hK (by decide))
  have HK1 := hide (HK0.out.trans hK)
  clear HP0 HX0 HK0 hP hK c0 c1 c2 c3
  obtain ⟨c0, c1, c2, c3⟩ := facts4 HX1.out
  go_wp2_with fail
  refine (xnumber_any HP1.out HG.out _ HB1.out.1 HB1.out.2 (by have := HL.out; simp [bs] at this ⊢; omega)).mono ?_
  rintro e W2 ⟨rfl, hP, hK⟩
  have HP2 := hide hP
  have HX2 := hide (HX1.out.kp hK (by decide))
  have HK2 := hide (HK1.out.trans hK)
  clear HP1 HX1 HK1 hP hK c0 c1 c2 c3
  obtain ⟨c0, c1, c2, c3⟩ := facts4 HX2.out
  go_wp2_with fail
  refine (writeByte_any HP2.out 41 (by decide) (by have := HL.out; simp [bs] at this ⊢; omega)).mono ?_
  rintro e W3 ⟨rfl, hP, hK⟩
  have HP3 := hide hP
  have HX3 := hide (HX2.out.kp hK (by decide))
  have HK3 := hide (HK2.out.trans hK)
  clear HP2 HX2 HK2 hP hK c0 c1 c2 c3
  obtain ⟨c0, c1, c2, c3⟩ := facts4 HX3.out
  go_wp2_with fail
  go_end0
  exact ⟨rfl, HT.out ▸ HP3.out, HK3.out⟩

set_option maxHeartbeats 4000000 in
set_option maxRecDepth 100000 in
theorem xplace_01 {w W : World} {b : Nat} {t : Tv} {out : List UInt8} (hP : Pb w W b t out) (hG : Gl w) (back co x y : Int) (h0 : -9223372036854775808 ≤ back ∧ back ≤ 9223372036854775807) (h1 : -9223372036854775808 ≤ x ∧ x ≤ 9223372036854775807) (h2 : -9223372036854775808 ≤ y ∧ y ≤ 9223372036854775807)
    (hb : (back == 0) = true) (hc : (co == 2) = true) (hlen : out.length + (plT ⟨3, 0, 0, 0, 0, back, co, x, y⟩).length ≤ 1099511627776) :
    Calls Tryz.prog 44 #[ptr b, .agg (pl4 back co x y)] W fun e W' => e = .returned (.tuple #[]) ∧ Pb w W' b t (out ++ plT ⟨3, 0, 0, 0, 0, back, co, x, y⟩) ∧ Kp SP W W' := by
  have HX0 := hide (HasC.new W 37 (pl4 back co x y))
  have HP0 := hide (hP.later (bel1 W (.cells (pl4 back co x y) 37)))
  have HK0 := hide (Kp.of_below SP (bel1 W (.cells (pl4 back co x y) 37)))
  have HG := hide hG
  have HB0 := hide h0
  have HB1 := hide h1
  have HB2 := hide h2
  have hb2 : back = 0 := by simpa using hb
  have hc2 : co = 2 := by simpa using hc
  have HT := hide (show out ++ plT ⟨3, 0, 0, 0, 0, back, co, x, y⟩ = (((((out ++ bs ⟨#[112, 40]⟩) ++ Lib.itoa x) ++ [UInt8.ofNat 44]) ++ Lib.itoa y) ++ [UInt8.ofNat 41]) by simp [plT, hb2, hc2, bs])
  have HL := hide (show ((((((out ++ bs ⟨#[112, 40]⟩) ++ Lib.itoa x) ++ [UInt8.ofNat 44]) ++ Lib.itoa y) ++ [UInt8.ofNat 41])).length ≤ 1099511627776 by rw [← HT.out, List.length_append]; exact hlen)
  clear hP hG h0 h1 h2 hlen hb2 hc2
  obtain ⟨c0, c1, c2, c3⟩ := facts4 HX0.out
  go_enter Tryz.func44, Tryz.ntmps44
  go_wp2_with fail
  refine (writeString_any HP0.out _ (by have := HL.out; simp [bs] at this ⊢; omega)).mono ?_
  rintro e W1 ⟨rfl, hP, hK⟩
  have HP1 := hide hP
  have HX1 := hide (HX0.out.kp hK (by decide))
  have HK1 := hide (HK0.out.trans hK)
  clear HP0 HX0 HK0 hP hK c0 c1 c2 c3
  obtain ⟨c0, c1, c2, c3⟩ := facts4 HX1.out
  go_wp2_with fail
  refine (xnumber_any HP1.out HG.out _ HB1.out.1 HB1.out.2 (by have := HL.out; simp [bs] at this ⊢; omega)).mono ?_
  rintro e W2 ⟨rfl, hP, hK⟩
  have HP2 := hide hP
  have HX2 := hide (HX1.out.kp hK (by decide))
  have HK2 := hide (HK1.out.trans hK)
  clear HP1 HX1 HK1 hP hK c0 c1 c2 c3
  obtain ⟨c0, c1, c2, c3⟩ := facts4 HX2.out
  go_wp2_with fail
  refine (writeByte_any HP2.out 44 (by decide) (by have := HL.out; simp [bs] at this ⊢; omega)).mono ?_
  rintro e W3 ⟨rfl, hP, hK⟩
  have HP3 := hide hP
  have HX3 := hide (HX2.out.kp hK (by decide))
  have HK3 := hide (HK2.out.trans hK)
  clear HP2 HX2 HK2 hP hK c0 c1 c2 c3
  obtain ⟨c0, c1, c2, c3⟩ := facts4 HX3.out
  go_wp2_with fail
  refine (xnumber_any HP3.out HG.out _ HB2.out.1 HB2.out.2 (by have := HL.out; simp [bs] at this ⊢; omega)).mono ?_
  rintro e W4 ⟨rfl, hP, hK⟩
  have HP4 := hide hP
  have HX4 := hide (HX3.out.kp hK (by decide))
  have HK4 := hide (HK3.out.trans hK)
  clear HP3 HX3 HK3 hP hK c0 c1 c2 c3
  obtain ⟨c0, c1, c2, c3⟩ := facts4 HX4.out
  go_wp2_with fail
  refine (writeByte_any HP4.out 41 (by decide) (by have := HL.out; simp [bs] at this ⊢; omega)).mono ?_
  rintro e W5 ⟨rfl, hP, hK⟩
  have HP5 := hide hP
  have HX5 := hide (HX4.out.kp hK (by decide))
  have HK5 := hide (HK4.out.trans hK)
  clear HP4 HX4 HK4 hP hK c0 c1 c2 c3
  obtain ⟨c0, c1, c2, c3⟩ := facts4 HX5.out
  go_wp2_with fail
  go_end0
  exact ⟨rfl, HT.out ▸ HP5.out, HK5.out⟩

set_option maxHeartbeats 4000000 in
set_option maxRecDepth 100000 in
theorem xplace_10 {w W : World} {b : Nat} {t : Tv} {out : List UInt8} (hP : Pb w W b t out) (hG : Gl w) (back co x y : Int) (h0 : -9223372036854775808 ≤ back ∧ back ≤ 9223372036854775807) (h1 : -9223372036854775808 ≤ x ∧ x ≤ 9223372036854775807) (h2 : -9223372036854775808 ≤ y ∧ y ≤ 9223372036854775807)
    (hb : (back == 0) = false) (hc : (co == 2) = false) (hlen : out.length + (plT ⟨3, 0, 0, 0, 0, back, co, x, y⟩).length ≤ 1099511627776) :
    Calls Tryz.prog 44 #[ptr b, .agg (pl4 back co x y)] W fun e W' => e = .returned (.tuple #[]) ∧ Pb w W' b t (out ++ plT ⟨3, 0, 0, 0, 0, back, co, x, y⟩) ∧ Kp SP W W' := by
  have HX0 := hide (HasC.new W 37 (pl4 back co x y))
  have HP0 := hide (hP.later (bel1 W (.cells (pl4 back co x y) 37)))
  have HK0 := hide (Kp.of_below SP (bel1 W (.cells (pl4 back co x y) 37)))
  have HG := hide hG
  have HB0 := hide h0
  have HB1 := hide h1
  have HB2 := hide h2
  have hb2 : ¬ back = 0 := by simpa using hb
  have hc2 : ¬ co = 2 := by simpa using hc
  have HT := hide (show out ++ plT ⟨3, 0, 0, 0, 0, back, co, x, y⟩ = (((((out ++ bs ⟨#[113, 40]⟩) ++ Lib.itoa back) ++ [UInt8.ofNat 44]) ++ Lib.itoa x) ++ [UInt8.ofNat 41]) by simp [plT, hb2, hc2, bs])
  have HL := hide (show ((((((out ++ bs ⟨#[113, 40]⟩) ++ Lib.itoa back) ++ [UInt8.ofNat 44]) ++ Lib.itoa x) ++ [UInt8.ofNat 41])).length ≤ 1099511627776 by rw [← HT.out, List.length_append]; exact hlen)
  clear hP hG h0 h1 h2 hlen hb2 hc2
  obtain ⟨c0, c1, c2, c3⟩ := facts4 HX0.out
  go_enter Tryz.func44, Tryz.ntmps44
  go_wp2_with fail
  refine (writeString_any HP0.out _ (by have := HL.out; simp [bs] at this ⊢; omega)).mono ?_
  rintro e W1 ⟨rfl, hP, hK⟩
  have HP1 := hide hP
  have HX1 := hide (HX0.out.kp hK (by decide))
  have HK1 := hide (HK0.out.trans hK)
  clear HP0 HX0 HK0 hP hK c0 c1 c2 c3
  obtain ⟨c0, c1, c2, c3⟩ := facts4 HX1.out
  go_wp2_with fail
  refine (xnumber_any HP1.out HG.out _ HB0.out.1 HB0.out.2 (by have := HL.out; simp [bs] at this ⊢; omega)).mono ?_
  rintro e W2 ⟨rfl, hP, hK⟩
  have HP2 := hide hP
  have HX2 := hide (HX1.out.kp hK (by decide))
  have HK2 := hide (HK1.out.trans hK)
  clear HP1 HX1 HK1 hP hK c0 c1 c2 c3
  obtain ⟨c0, c1, c2, c3⟩ := facts4 HX2.out
  go_wp2_with fail
  refine (writeByte_any HP2.out 44 (by decide) (by have := HL.out; simp [bs] at this ⊢; omega)).mono ?_
  rintro e W3 ⟨rfl, hP, hK⟩
  have HP3 := hide hP
  have HX3 := hide (HX2.out.kp hK (by decide))
  have HK3 := hide (HK2.out.trans hK)
  clear HP2 HX2 HK2 hP hK c0 c1 c2 c3
  obtain ⟨c0, c1, c2, c3⟩ := facts4 HX3.out
  go_wp2_with fail
  refine (xnumber_any HP3.out HG.out _ HB1.out.1 HB1.out.2 (by have := HL.out; simp [bs] at this ⊢; omega)).mono ?_
  rintro e W4 ⟨rfl, hP, hK⟩
  have HP4 := hide hP
  have HX4 := hide (HX3.out.kp hK (by decide))
  have HK4 := hide (HK3.out.trans hK)
  clear HP3 HX3 HK3 hP hK c0 c1 c2 c3
  obtain ⟨c0, c1, c2, c3⟩ := facts4 HX4.out
  go_wp2_with fail
  refine (writeByte_any HP4.out 41 (by decide) (by have := HL.out; simp [bs] at this ⊢; omega)).mono ?_
  rintro e W5 ⟨rfl, hP, hK⟩
  have HP5 := hide hP
  have HX5 := hide (HX4.out.kp hK (by decide))
  have HK5 := hide (HK4.out.trans hK)
  clear HP4 HX4 HK4 hP hK c0 c1 c2 c3
  obtain ⟨c0, c1, c2, c3⟩ := facts4 HX5.out
  go_wp2_with fail
  go_end0
  exact ⟨rfl, HT.out ▸ HP5.out, HK5.out⟩

set_option maxHeartbeats 4000000 in
set_option maxRecDepth 100000 in
theorem xplace_11 {w W : World} {b : Nat} {t : Tv} {out : List UInt8} (hP : Pb w W b t out) (hG : Gl w) (back co x y : Int) (h0 : -9223372036854775808 ≤ back ∧ back ≤ 9223372036854775807) (h1 : -9223372036854775808 ≤ x ∧ x ≤ 9223372036854775807) (h2 : -9223372036854775808 ≤ y ∧ y ≤ 9223372036854775807)
    (hb : (back == 0) = false) (hc : (co == 2) = true) (hlen : out.length + (plT ⟨3, 0, 0, 0, 0, back, co, x, y⟩).length ≤ 1099511627776) :
    Calls Tryz.prog 44 #[ptr b, .agg (pl4 back co x y)] W fun e W' => e = .returned (.tuple #[]) ∧ Pb w W' b t (out ++ plT ⟨3, 0, 0, 0, 0, back, co, x, y⟩) ∧ Kp SP W W' := by
  have HX0 := hide (HasC.new W 37 (pl4 back co x y))
  have HP0 := hide (hP.later (bel1 W (.cells (pl4 back co x y) 37)))
  have HK0 := hide (Kp.of_below SP (bel1 W (.cells (pl4 back co x y) 37)))
  have HG := hide hG
  have HB0 := hide h0
  have HB1 := hide h1
  have HB2 := hide h2
  have hb2 : ¬ back = 0 := by simpa using hb
  have hc2 : co = 2 := by simpa using hc
  have HT := hide (show out ++ plT ⟨3, 0, 0, 0, 0, back, co, x, y⟩ = (((((((out ++ bs ⟨#[113, 40]⟩) ++ Lib.itoa back) ++ [UInt8.ofNat 44]) ++ Lib.itoa x) ++ [UInt8.ofNat 44]) ++ Lib.itoa y) ++ [UInt8.ofNat 41]) by simp [plT, hb2, hc2, bs])
  have HL := hide (show ((((((((out ++ bs ⟨#[113, 40]⟩) ++ Lib.itoa back) ++ [UInt8.ofNat 44]) ++ Lib.itoa x) ++ [UInt8.ofNat 44]) ++ Lib.itoa y) ++ [UInt8.ofNat 41])).length ≤ 1099511627776 by rw [← HT.out, List.length_append]; exact hlen)
  clear hP hG h0 h1 h2 hlen hb2 hc2
  obtain ⟨c0, c1, c2, c3⟩ := facts4 HX0.out
  go_enter Tryz.func44, Tryz.ntmps44
  go_wp2_with fail
  refine (writeString_any HP0.out _ (by have := HL.out; simp [bs] at this ⊢; omega)).mono ?_
  rintro e W1 ⟨rfl, hP, hK⟩
  have HP1 := hide hP
  have HX1 := hide (HX0.out.kp hK (by decide))
  have HK1 := hide (HK0.out.trans hK)
  clear HP0 HX0 HK0 hP hK c0 c1 c2 c3
  obtain ⟨c0, c1, c2, c3⟩ := facts4 HX1.out
  go_wp2_with fail
  refine (xnumber_any HP1.out HG.out _ HB0.out.1 HB0.out.2 (by have := HL.out; simp [bs] at this ⊢; omega)).mono ?_
  rintro e W2 ⟨rfl, hP, hK⟩
  have HP2 := hide hP
  have HX2 := hide (HX1.out.kp hK (by decide))
  have HK2 := hide (HK1.out.trans hK)
  clear HP1 HX1 HK1 hP hK c0 c1 c2 c3
  obtain ⟨c0, c1, c2, c3⟩ := facts4 HX2.out
  go_wp2_with fail
  refine (writeByte_any HP2.out 44 (by decide) (by have := HL.out; simp [bs] at this ⊢; omega)).mono ?_
  rintro e W3 ⟨rfl, hP, hK⟩
  have HP3 := hide hP
  have HX3 := hide (HX2.out.kp hK (by decide))
  have HK3 := hide (HK2.out.trans hK)
  clear HP2 HX2 HK2 hP hK c0 c1 c2 c3
  obtain ⟨c0, c1, c2, c3⟩ := facts4 HX3.out
  go_wp2_with fail
  refine (xnumber_any HP3.out HG.out _ HB1.out.1 HB1.out.2 (by have := HL.out; simp [bs] at this ⊢; omega)).mono ?_
  rintro e W4 ⟨rfl, hP, hK⟩
  have HP4 := hide hP
  have HX4 := hide (HX3.out.kp hK (by decide))
  have HK4 := hide (HK3.out.trans hK)
  clear HP3 HX3 HK3 hP hK c0 c1 c2 c3
  obtain ⟨c0, c1, c2, c3⟩ := facts4 HX4.out
  go_wp2_with fail
  refine (writeByte_any HP4.out 44 (by decide) (by have := HL.out; simp [bs] at this ⊢; omega)).mono ?_
  rintro e W5 ⟨rfl, hP, hK⟩
  have HP5 := hide hP
  have HX5 := hide (HX4.out.kp hK (by decide))
  have HK5 := hide (HK4.out.trans hK)
  clear HP4 HX4 HK4 hP hK c0 c1 c2 c3
  obtain ⟨c0, c1, c2, c3⟩ := facts4 HX5.out
  go_wp2_with fail
  refine (xnumber_any HP5.out HG.out _ HB2.out.1 HB2.out.2 (by have := HL.out; simp [bs] at this ⊢; omega)).mono ?_
  rintro e W6 ⟨rfl, hP, hK⟩
  have HP6 := hide hP
  have HX6 := hide (HX5.out.kp hK (by decide))
  have HK6 := hide (HK5.out.trans hK)
  clear HP5 HX5 HK5 hP hK c0 c1 c2 c3
  obtain ⟨c0, c1, c2, c3⟩ := facts4 HX6.out
  go_wp2_with fail
  refine (writeByte_any HP6.out 41 (by decide) (by have := HL.out; simp [bs] at this ⊢; omega)).mono ?_
  rintro e W7 ⟨rfl, hP, hK⟩
  have HP7 := hide hP
  have HX7 := hide (HX6.out.kp hK (by decide))
  have HK7 := hide (HK6.out.trans hK)
  clear HP6 HX6 HK6 hP hK c0 c1 c2 c3
  obtain ⟨c0, c1, c2, c3⟩ := facts4 HX7.out
  go_wp2_with fail
  go_end0
  exact ⟨rfl, HT.out ▸ HP7.out, HK7.out⟩

theorem xplace_any {w W : World} {b : Nat} {t : Tv} {out : List UInt8} (hP : Pb w W b t out) (hG : Gl w) (n : Nd) (h0 : -9223372036854775808 ≤ n.back ∧ n.back ≤ 9223372036854775807) (h1 : -9223372036854775808 ≤ n.x ∧ n.x ≤ 9223372036854775807) (h2 : -9223372036854775808 ≤ n.y ∧ n.y ≤ 9223372036854775807)
    (hlen : out.length + (plT n).length ≤ 1099511627776) :
    Calls Tryz.prog 44 #[ptr b, .agg (pl4 n.back n.co n.x n.y)] W fun e W' => e = .returned (.tuple #[]) ∧ Pb w W' b t (out ++ plT n) ∧ Kp SP W W' := by
  have e : plT n = plT ⟨3, 0, 0, 0, 0, n.back, n.co, n.x, n.y⟩ := rfl
  rw [e] at hlen ⊢
  cases hb : (n.back == 0) <;> cases hc : (n.co == 2)
  · exact xplace_10 hP hG _ _ _ _ h0 h1 h2 hb hc hlen
  · exact xplace_11 hP hG _ _ _ _ h0 h1 h2 hb hc hlen
  · exact xplace_00 hP hG _ _ _ _ h0 h1 h2 hb hc hlen
  · exact xplace_01 hP hG _ _ _ _ h0 h1 h2 hb hc hlen

end Go.Proofs.YtodgjjkpbcadoaaGreatDoor

/-
  What the printer's methods write of a part, if they write each of its nodes so.
-/
namespace Go.Proofs.YtodgjjkpbcadoaaGreatDoor
open Go.RowKit Go.IntWalk Lx Pz Go.Sort
set_option linter.unusedVariables false

/-- The tree that the printer was given, and the package's tables: as they lay ahead. -/
structure Env (w : World) (t : Tv) (NM : List Txt) (BS : List Int) (NS : List Nd) (root : Int) : Prop where
  names : ∃ na nl nc, t.nv = .slice na nl nc ∧ Tx w na nl nc NM
  binds : ∃ ba bl bc, t.bv = .slice ba bl bc ∧ Iz w ba bl bc BS
  nodes : ∃ da dl dc, t.dv = .slice da dl dc ∧ Nz w da dl dc NS
  root : t.rv = .int .i64 root
  gl : Gl w
  few : NS.length ≤ 1024

/-- The operator of an expression. -/
def opE : E → Int
  | .leaf n => n.op
  | .un o _ => o
  | .bin o _ _ => o
  | .tri o _ _ _ => o
theorem rk_op (e : E) : rkE e = ork (opE e) := by cases e <;> rfl
theorem lies_op {NS : List Nd} {e : E} {i : Nat} (h : Lies NS e i) : ∃ n, NS[i]? = some n ∧ n.op = opE e := by
  cases e with
  | leaf n => exact ⟨n, h, rfl⟩
  | un o a => obtain ⟨p, h, -⟩ := h; exact ⟨_, h, rfl⟩
  | bin o a b => obtain ⟨p, q, h, -⟩ := h; exact ⟨_, h, rfl⟩
  | tri o a b c => obtain ⟨p, q, r, h, -⟩ := h; exact ⟨_, h, rfl⟩

/-- node writes the expression's text. -/
def NodeC (w : World) (t : Tv) (b : Nat) (nm : List Txt) (NS : List Nd) (e : E) : Prop :=
  ∀ (W : World) (out : List UInt8) (i : Nat), Pb w W b t out → Lies NS e i → out.length + (etx nm e).length ≤ 1099511627776 →
    Calls Tryz.prog 23 #[ptr b, .int .i64 i] W fun r W' => r = .returned (.tuple #[]) ∧ Pb w W' b t (out ++ etx nm e) ∧ Kp SP W W'

theorem brk_len (x : Bool) (l : Txt) : l.length ≤ (brk x l).length := by unfold brk; split <;> simp <;> omega

theorem Env.node {w W : World} {t : Tv} {NM : List Txt} {BS : List Int} {NS : List Nd} {root : Int} {b : Nat} {out : List UInt8} (h : Env w t NM BS NS root) (hP : Pb w W b t out) {i : Nat} {n : Nd} (hi : NS[i]? = some n) :
    ∃ g off dl dc, t.dv = .slice (some ⟨g, off, none⟩) dl dc ∧ i < dl ∧ dl ≤ 1024 ∧ dl ≤ dc ∧ at9 W g (off + i * 9) n ∧ g < W.heap.size := by
  obtain ⟨da, dl, dc, h1, h2⟩ := h.nodes
  have hlt : i < NS.length := (List.getElem?_eq_some_iff.1 hi).1
  have hl := h2.len
  have hf := h.few
  obtain ⟨g, off, rfl, hc⟩ := (h2.later hP.old).at (by omega)
  refine ⟨g, off, dl, dc, h1, by omega, by omega, h2.le, ?_⟩
  have := hc i (by omega)
  rw [List.getD_eq_getElem?_getD, hi] at this
  exact ⟨this, World.block_lt_of_cell? W _ this.1⟩

set_option maxHeartbeats 4000000 in
set_option maxRecDepth 100000 in
theorem xpart_any {w : World} {t : Tv} {NM : List Txt} {BS : List Int} {NS : List Nd} {root : Int} {b : Nat} (hE : Env w t NM BS NS root) {e : E} (hN : NodeC w t b NM NS e) (ho : 1 ≤ opE e ∧ opE e ≤ 28) (c : Nat) (hc : c ≤ 9)
    (W : World) (out : List UInt8) (i : Nat) (hP : Pb w W b t out) (hL : Lies NS e i) (hlen : out.length + (prp NM c e).length ≤ 1099511627776) :
    Calls Tryz.prog 45 #[ptr b, .int .i64 i, .int .i64 c] W fun r W' => r = .returned (.tuple #[]) ∧ Pb w W' b t (out ++ prp NM c e) ∧ Kp SP W W' := by
  obtain ⟨n, hi, hop⟩ := lies_op hL
  obtain ⟨g, off, dl, dc, hdv, hil, hdl, hdc, ⟨c0, -⟩, hg⟩ := hE.node hP hi
  obtain ⟨k, hk⟩ : ∃ k : Nat, opE e = k := ⟨(opE e).toNat, by omega⟩
  have hg1 := ((hE.gl.later hP.old).ops k (by omega)).2
  have hrk : (opTab.getD k ([], 0)).2 = rkE e := by rw [rk_op, hk]; rfl
  rw [hrk] at hg1
  rw [hop, hk] at c0
  obtain ⟨p, v, hp, hb, hown⟩ := hP.ex
  have c4 : W.cell? ⟨b, 4, none⟩ = some t.dv := hb.cell 4 rfl
  rw [hdv] at c4
  have HP := hide hP
  have HL := hide hL
  have hk28 : k < 29 := by omega
  clear hp hb hown hP hL hop hi hdv
  by_cases hr : rkE e < c
  · have hr2 : ¬ c ≤ rkE e := by omega
    have ht : prp NM c e = 40 :: (etx NM e ++ [41]) := by unfold prp brk; rw [decide_eq_true hr]; rfl
    have hlen' := hide (show out.length + (etx NM e).length + 2 ≤ 1099511627776 by rw [ht] at hlen; simp at hlen; omega)
    have HT := hide (show out ++ prp NM c e = ((out ++ [UInt8.ofNat 40]) ++ etx NM e) ++ [UInt8.ofNat 41] by rw [ht]; simp)
    have HN := hide hN
    clear hN hE hrk hlen ht
    generalize rkE e = rr at *
    go_enter Tryz.func45, Tryz.ntmps45
    go_wp2_with fail
    refine (writeByte_any HP.out 40 (by decide) (by have := hlen'.out; omega)).mono ?_
    rintro e1 W1 ⟨rfl, hP1, hK1⟩
    have HP1 := hide hP1
    have HK1 := hide hK1
    clear hP1 hK1 HP c0 c4 hg1
    go_wp2_with fail
    refine (HN.out W1 _ i HP1.out HL.out (by have := hlen'.out; simp; omega)).mono ?_
    rintro e1 W2 ⟨rfl, hP2, hK2⟩
    have HP2 := hide hP2
    have HK2 := hide (HK1.out.trans hK2)
    clear hP2 hK2 HP1
    go_wp2_with fail
    refine (writeByte_any HP2.out 41 (by decide) (by have := hlen'.out; simp; omega)).mono ?_
    rintro e1 W3 ⟨rfl, hP3, hK3⟩
    have HP3 := hide hP3
    have HK3 := hide (HK2.out.trans hK3)
    clear hP3 hK3 HP2
    go_wp2_with fail
    go_end0
    exact ⟨rfl, HT.out ▸ HP3.out, HK3.out⟩
  · have hr2 : c ≤ rkE e := by omega
    have ht : prp NM c e = etx NM e := by unfold prp brk; rw [decide_eq_false hr]; rfl
    have hlen' := hide (show out.length + (etx NM e).length ≤ 1099511627776 by rw [← ht]; exact hlen)
    rw [ht]
    have HN := hide (hN W out i HP.out HL.out hlen'.out)
    clear hN hE hrk hlen ht
    generalize rkE e = rr at *
    go_enter Tryz.func45, Tryz.ntmps45
    go_wp2_with fail
    refine HN.out.mono ?_
    rintro e1 W1 ⟨rfl, hP1, hK1⟩
    have HP1 := hide hP1
    have HK1 := hide hK1
    clear hP1 hK1 HP c0 c4 hg1
    go_wp2_with fail
    refine bodyPost_ret (results_none rfl _ _ _) rfl ?_
    exact ⟨rfl, HP1.out, HK1.out⟩

end Go.Proofs.YtodgjjkpbcadoaaGreatDoor

/-
  What the printer's method node writes, an operator at a time.
-/
import Derived.Test.YtodgjjkpbcadoaaGreatDoorChCl
namespace Go.Proofs.YtodgjjkpbcadoaaGreatDoor
open Go.RowKit Go.IntWalk Lx Pz Go.Sort
set_option linter.unusedVariables false

set_option maxHeartbeats 8000000 in
set_option maxRecDepth 100000 in
theorem xnode_1 {w : World} {t : Tv} {NM : List Txt} {BS : List Int} {NS : List Nd} {root : Int} {b : Nat} (hE : Env w t NM BS NS root) (k : Int) (hk : 0 ≤ k ∧ k ≤ 2147483647)
    (W : World) (out : List UInt8) (i : Nat) (hP : Pb w W b t out) (hi : NS[i]? = some ⟨1, 0, 0, 0, k, 0, 0, 0, 0⟩) (hlen : out.length + (Lib.itoa k).length ≤ 1099511627776) :
    Calls Tryz.prog 23 #[ptr b, .int .i64 i] W fun r W' => r = .returned (.tuple #[]) ∧ Pb w W' b t (out ++ Lib.itoa k) ∧ Kp SP W W' := by
  obtain ⟨g, off, dl, dc, hdv, hil, hdl, hdc, ⟨n0, n1, n2, n3, n4, n5, n6, n7, n8⟩, hg⟩ := hE.node hP hi
  obtain ⟨p0, v0, hp0, hb0, hown0⟩ := hP.ex
  have c4 : W.cell? ⟨b, 4, none⟩ = some t.dv := hb0.cell 4 rfl
  rw [hdv] at c4
  have HX0 := hide (HasC.new W 39 (ndA ⟨1, 0, 0, 0, k, 0, 0, 0, 0⟩))
  have HP0 := hide (hP.later (bel1 W (.cells (ndA ⟨1, 0, 0, 0, k, 0, 0, 0, 0⟩) 39)))
  have HK0 := hide (Kp.of_below SP (bel1 W (.cells (ndA ⟨1, 0, 0, 0, k, 0, 0, 0, 0⟩) 39)))
  have HL := hide hlen
  have HG := hide (hE.gl)
  simp only at n0 n1 n2 n3 n4 n5 n6 n7 n8
  clear hp0 hb0 hown0 hP hi hdv hlen hE
  go_enter Tryz.func23, Tryz.ntmps23
  go_wp2_with fail
  refine (xnumber_any HP0.out HG.out k (by omega) (by omega) HL.out).mono ?_
  rintro e W1 ⟨rfl, hP1, hK1⟩
  have HP1 := hide hP1
  have HK1 := hide (HK0.out.trans hK1)
  clear hP1 hK1 HP0 HX0 n0 n1 n2 n3 n4 n5 n6 n7 n8 c4
  go_wp2_with fail
  go_end0
  exact ⟨rfl, HP1.out, HK1.out⟩

set_option maxHeartbeats 8000000 in
set_option maxRecDepth 100000 in
theorem xnode_2 {w : World} {t : Tv} {NM : List Txt} {BS : List Int} {NS : List Nd} {root : Int} {b : Nat} (hE : Env w t NM BS NS root) (k : Nat) (hk : k < 6)
    (W : World) (out : List UInt8) (i : Nat) (hP : Pb w W b t out) (hi : NS[i]? = some ⟨2, 0, 0, 0, ((k : Nat) : Int), 0, 0, 0, 0⟩) (hlen : out.length + (inTx.getD k []).length ≤ 1099511627776) :
    Calls Tryz.prog 23 #[ptr b, .int .i64 i] W fun r W' => r = .returned (.tuple #[]) ∧ Pb w W' b t (out ++ inTx.getD k []) ∧ Kp SP W W' := by
  obtain ⟨g, off, dl, dc, hdv, hil, hdl, hdc, ⟨n0, n1, n2, n3, n4, n5, n6, n7, n8⟩, hg⟩ := hE.node hP hi
  obtain ⟨p0, v0, hp0, hb0, hown0⟩ := hP.ex
  have c4 : W.cell? ⟨b, 4, none⟩ = some t.dv := hb0.cell 4 rfl
  rw [hdv] at c4
  have HX0 := hide (HasC.new W 39 (ndA ⟨2, 0, 0, 0, ((k : Nat) : Int), 0, 0, 0, 0⟩))
  have HP0 := hide (hP.later (bel1 W (.cells (ndA ⟨2, 0, 0, 0, ((k : Nat) : Int), 0, 0, 0, 0⟩) 39)))
  have HK0 := hide (Kp.of_below SP (bel1 W (.cells (ndA ⟨2, 0, 0, 0, ((k : Nat) : Int), 0, 0, 0, 0⟩) 39)))
  have HL := hide hlen
  have HG := hide (hE.gl)
  have h4 : (W.alloc (.cells (ndA ⟨2, 0, 0, 0, ((k : Nat) : Int), 0, 0, 0, 0⟩) 39)).cell? ⟨W.heap.size, 4, none⟩ = some (.int .i64 ((k : Nat) : Int)) := HX0.out.cell 4 rfl
  have e1 := fun dd os => cell_regrown h4 dd os
  have e2 := fun dd os => cell_regrown ((HG.out.later HP0.out.old).inp k hk) dd os
  clear h4 hlen
  generalize inTx.getD k [] = tx at *
  simp only at n0 n1 n2 n3 n4 n5 n6 n7 n8
  clear hp0 hb0 hown0 hP hi hdv hE
  go_enter Tryz.func23, Tryz.ntmps23
  go_wp2_with fail
  refine wp_region_quiet_last_lit (hf := (List.dropLast_concat_getLast (by simp)).symm) mixedP (by kernel_rfl) rfl (by kernel_rfl) (by kernel_rfl) (by kernel_rfl) (by kernel_rfl) (by kernel_rfl) ?_
  simp only [List.dropLast_cons_cons, List.dropLast_singleton, List.getLast_cons_cons, List.getLast_singleton]
  repeat (go_big_quiet_step (fail))
  refine wpQuiet_nil ?_
  intro _ hw'
  obtain ⟨pq, hw''⟩ := hw'
  subst hw''
  have hb2 := below_regrown (W.alloc (.cells (ndA ⟨2, 0, 0, 0, ((k : Nat) : Int), 0, 0, 0, 0⟩) 39)) pq.d pq.os
  have HP9 := hide (HP0.out.later hb2)
  have HK9 := hide (HK0.out.trans (Kp.of_below SP hb2))
  clear e1 e2 HP0 HK0 hb2 HX0
  generalize grow (redrawn (W.alloc (.cells (ndA ⟨2, 0, 0, 0, ((k : Nat) : Int), 0, 0, 0, 0⟩) 39)) pq.d) pq.os = G at *
  go_wp2_with fail
  refine (writeString_any HP9.out _ (by have := HL.out; rw [bs_sB]; omega)).mono ?_
  rintro e W1 ⟨rfl, hP1, hK1⟩
  rw [bs_sB] at hP1
  have HP1 := hide hP1
  have HK1 := hide (HK9.out.trans hK1)
  clear hP1 hK1 HP9 n0 n1 n2 n3 n4 n5 n6 n7 n8 c4
  go_wp2_with fail
  go_end0
  exact ⟨rfl, HP1.out, HK1.out⟩

set_option maxHeartbeats 8000000 in
set_option maxRecDepth 100000 in
theorem xnode_4 {w : World} {t : Tv} {NM : List Txt} {BS : List Int} {NS : List Nd} {root : Int} {b : Nat} (hE : Env w t NM BS NS root) (k : Nat) (hk : k < NM.length)
    (W : World) (out : List UInt8) (i : Nat) (hP : Pb w W b t out) (hi : NS[i]? = some ⟨4, 0, 0, 0, ((k : Nat) : Int), 0, 0, 0, 0⟩) (hlen : out.length + (NM.getD k []).length ≤ 1099511627776) :
    Calls Tryz.prog 23 #[ptr b, .int .i64 i] W fun r W' => r = .returned (.tuple #[]) ∧ Pb w W' b t (out ++ NM.getD k []) ∧ Kp SP W W' := by
  obtain ⟨g, off, dl, dc, hdv, hil, hdl, hdc, ⟨n0, n1, n2, n3, n4, n5, n6, n7, n8⟩, hg⟩ := hE.node hP hi
  obtain ⟨p0, v0, hp0, hb0, hown0⟩ := hP.ex
  have c4 : W.cell? ⟨b, 4, none⟩ = some t.dv := hb0.cell 4 rfl
  rw [hdv] at c4
  have HX0 := hide (HasC.new W 39 (ndA ⟨4, 0, 0, 0, ((k : Nat) : Int), 0, 0, 0, 0⟩))
  have HP0 := hide (hP.later (bel1 W (.cells (ndA ⟨4, 0, 0, 0, ((k : Nat) : Int), 0, 0, 0, 0⟩) 39)))
  have HK0 := hide (Kp.of_below SP (bel1 W (.cells (ndA ⟨4, 0, 0, 0, ((k : Nat) : Int), 0, 0, 0, 0⟩) 39)))
  have HL := hide hlen
  have HG := hide (hE.gl)
  obtain ⟨na, nl, nc, hnv, hTx⟩ := hE.names
  have hnl := hTx.len
  have hnc := hTx.le
  have hnm := hTx.max
  unfold maxLen at hnm
  obtain ⟨gn, ofn, rfl, hcn⟩ : ∃ gn ofn, na = some ⟨gn, ofn, none⟩ ∧ ∀ j, j < nl → (W.alloc (.cells (ndA ⟨4, 0, 0, 0, ((k : Nat) : Int), 0, 0, 0, 0⟩) 39)).cell? ⟨gn, ofn + j, none⟩ = some (.string (sB (NM.getD j []))) := by
    rcases (hTx.later HP0.out.old).cell with h | ⟨gn, ofn, h1, h2⟩
    · omega
    · exact ⟨gn, ofn, h1, h2⟩
  have h4 : (W.alloc (.cells (ndA ⟨4, 0, 0, 0, ((k : Nat) : Int), 0, 0, 0, 0⟩) 39)).cell? ⟨W.heap.size, 4, none⟩ = some (.int .i64 ((k : Nat) : Int)) := HX0.out.cell 4 rfl
  have e1 := fun dd os => cell_regrown h4 dd os
  have e2 := fun dd os => cell_regrown (hcn k (by omega)) dd os
  obtain ⟨p1, v1, hp1, hb1, hown1⟩ := HP0.out.ex
  have h2 : (W.alloc (.cells (ndA ⟨4, 0, 0, 0, ((k : Nat) : Int), 0, 0, 0, 0⟩) 39)).cell? ⟨b, 2, none⟩ = some t.nv := hb1.cell 2 rfl
  rw [hnv] at h2
  have e3 := fun dd os => cell_regrown h2 dd os
  have hkl : k < nl := by omega
  clear hTx hnl hcn h2 hp1 hb1 hown1 hnv hk
  clear h4 hlen
  generalize NM.getD k [] = tx at *
  simp only at n0 n1 n2 n3 n4 n5 n6 n7 n8
  clear hp0 hb0 hown0 hP hi hdv hE
  go_enter Tryz.func23, Tryz.ntmps23
  go_wp2_with fail
  refine wp_region_quiet_last_lit (hf := (List.dropLast_concat_getLast (by simp)).symm) mixedP (by kernel_rfl) rfl (by kernel_rfl) (by kernel_rfl) (by kernel_rfl) (by kernel_rfl) (by kernel_rfl) ?_
  simp only [List.dropLast_cons_cons, List.dropLast_singleton, List.getLast_cons_cons, List.getLast_singleton]
  repeat (go_big_quiet_step (fail))
  refine wpQuiet_nil ?_
  intro _ hw'
  obtain ⟨pq, hw''⟩ := hw'
  subst hw''
  have hb2 := below_regrown (W.alloc (.cells (ndA ⟨4, 0, 0, 0, ((k : Nat) : Int), 0, 0, 0, 0⟩) 39)) pq.d pq.os
  have HP9 := hide (HP0.out.later hb2)
  have HK9 := hide (HK0.out.trans (Kp.of_below SP hb2))
  clear e1 e2 e3 HP0 HK0 hb2 HX0
  generalize grow (redrawn (W.alloc (.cells (ndA ⟨4, 0, 0, 0, ((k : Nat) : Int), 0, 0, 0, 0⟩) 39)) pq.d) pq.os = G at *
  go_wp2_with fail
  refine (writeString_any HP9.out _ (by have := HL.out; rw [bs_sB]; omega)).mono ?_
  rintro e W1 ⟨rfl, hP1, hK1⟩
  rw [bs_sB] at hP1
  have HP1 := hide hP1
  have HK1 := hide (HK9.out.trans hK1)
  clear hP1 hK1 HP9 n0 n1 n2 n3 n4 n5 n6 n7 n8 c4
  go_wp2_with fail
  go_end0
  exact ⟨rfl, HP1.out, HK1.out⟩

set_option maxHeartbeats 8000000 in
set_option maxRecDepth 100000 in
theorem xnode_3 {w : World} {t : Tv} {NM : List Txt} {BS : List Int} {NS : List Nd} {root : Int} {b : Nat} (hE : Env w t NM BS NS root) (back co x y : Int) (h0 : 0 ≤ back ∧ back ≤ 2147483647) (h1 : -2147483647 ≤ x ∧ x ≤ 2147483647) (h2 : -2147483647 ≤ y ∧ y ≤ 2147483647)
    (W : World) (out : List UInt8) (i : Nat) (hP : Pb w W b t out) (hi : NS[i]? = some ⟨3, 0, 0, 0, 0, back, co, x, y⟩) (hlen : out.length + (plT ⟨3, 0, 0, 0, 0, back, co, x, y⟩).length ≤ 1099511627776) :
    Calls Tryz.prog 23 #[ptr b, .int .i64 i] W fun r W' => r = .returned (.tuple #[]) ∧ Pb w W' b t (out ++ plT ⟨3, 0, 0, 0, 0, back, co, x, y⟩) ∧ Kp SP W W' := by
  obtain ⟨g, off, dl, dc, hdv, hil, hdl, hdc, ⟨n0, n1, n2, n3, n4, n5, n6, n7, n8⟩, hg⟩ := hE.node hP hi
  obtain ⟨p0, v0, hp0, hb0, hown0⟩ := hP.ex
  have c4 : W.cell? ⟨b, 4, none⟩ = some t.dv := hb0.cell 4 rfl
  rw [hdv] at c4
  have HX0 := hide (HasC.new W 39 (ndA ⟨3, 0, 0, 0, 0, back, co, x, y⟩))
  have HP0 := hide (hP.later (bel1 W (.cells (ndA ⟨3, 0, 0, 0, 0, back, co, x, y⟩) 39)))
  have HK0 := hide (Kp.of_below SP (bel1 W (.cells (ndA ⟨3, 0, 0, 0, 0, back, co, x, y⟩) 39)))
  have HL := hide hlen
  have HG := hide (hE.gl)
  simp only at n0 n1 n2 n3 n4 n5 n6 n7 n8
  clear hp0 hb0 hown0 hP hi hdv hlen hE
  go_enter Tryz.func23, Tryz.ntmps23
  go_wp2_with fail
  refine (xplace_any HP0.out HG.out ⟨3, 0, 0, 0, 0, back, co, x, y⟩ (by simp only; omega) (by simp only; omega) (by simp only; omega) HL.out).mono ?_
  rintro e W1 ⟨rfl, hP1, hK1⟩
  have HP1 := hide hP1
  have HK1 := hide (HK0.out.trans hK1)
  clear hP1 hK1 HP0 HX0 n0 n1 n2 n3 n4 n5 n6 n7 n8 c4
  go_wp2_with fail
  go_end0
  exact ⟨rfl, HP1.out, HK1.out⟩

set_option maxHeartbeats 8000000 in
set_option maxRecDepth 100000 in
theorem xnode_5 {w : World} {t : Tv} {NM : List Txt} {BS : List Int} {NS : List Nd} {root : Int} {b : Nat} (hE : Env w t NM BS NS root) {x : E} (hx : NodeC w t b NM NS x) (ho : 1 ≤ opE x ∧ opE x ≤ 28) (p : Nat) (h1 : Lies NS x p)
    (W : World) (out : List UInt8) (i : Nat) (hP : Pb w W b t out) (hi : NS[i]? = some ⟨5, ((p : Nat) : Int), 0, 0, 0, 0, 0, 0, 0⟩) (hlen : out.length + (etx NM (.un 5 x)).length ≤ 1099511627776) :
    Calls Tryz.prog 23 #[ptr b, .int .i64 i] W fun r W' => r = .returned (.tuple #[]) ∧ Pb w W' b t (out ++ etx NM (.un 5 x)) ∧ Kp SP W W' := by
  obtain ⟨g, off, dl, dc, hdv, hil, hdl, hdc, ⟨n0, n1, n2, n3, n4, n5, n6, n7, n8⟩, hg⟩ := hE.node hP hi
  obtain ⟨p0, v0, hp0, hb0, hown0⟩ := hP.ex
  have c4 : W.cell? ⟨b, 4, none⟩ = some t.dv := hb0.cell 4 rfl
  rw [hdv] at c4
  have HX0 := hide (HasC.new W 39 (ndA ⟨5, ((p : Nat) : Int), 0, 0, 0, 0, 0, 0, 0⟩))
  have HP0 := hide (hP.later (bel1 W (.cells (ndA ⟨5, ((p : Nat) : Int), 0, 0, 0, 0, 0, 0, 0⟩) 39)))
  have HK0 := hide (Kp.of_below SP (bel1 W (.cells (ndA ⟨5, ((p : Nat) : Int), 0, 0, 0, 0, 0, 0, 0⟩) 39)))
  have HL := hide hlen
  have HG := hide (hE.gl)
  have ht : etx NM (.un 5 x) = 45 :: prp NM 8 x := by simp [etx, prp]
  have HL2 := hide (show out.length + (prp NM 8 x).length + 1 ≤ 1099511627776 by rw [ht] at hlen; simp at hlen; omega)
  have HT := hide (show out ++ etx NM (.un 5 x) = (out ++ [UInt8.ofNat 45]) ++ prp NM 8 x by rw [ht]; simp)
  have Hx := hide (fun V o hV hl => xpart_any hE hx ho 8 (by decide) V o p hV h1 hl)
  clear ht hx ho h1 HL
  simp only at n0 n1 n2 n3 n4 n5 n6 n7 n8
  clear hp0 hb0 hown0 hP hi hdv hlen hE
  go_enter Tryz.func23, Tryz.ntmps23
  go_wp2_with fail
  refine (writeByte_any HP0.out 45 (by decide) (by have := HL2.out; omega)).mono ?_
  rintro e W1 ⟨rfl, hP1, hK1⟩
  have HP1 := hide hP1
  have HK1 := hide (HK0.out.trans hK1)
  have HX1 := hide (HX0.out.kp hK1 (by decide))
  clear hP1 hK1 HP0 HX0 n0 n1 n2 n3 n4 n5 n6 n7 n8 c4
  obtain ⟨m0, m1, -⟩ := HX1.out.nine
  simp only at m0 m1
  go_wp2_with fail
  refine (Hx.out _ _ HP1.out (by have := HL2.out; simp; omega)).mono ?_
  rintro e W2 ⟨rfl, hP2, hK2⟩
  have HP2 := hide hP2
  have HK2 := hide (HK1.out.trans hK2)
  clear hP2 hK2 HP1 HX1 m0 m1
  go_wp2_with fail
  go_end0
  exact ⟨rfl, HT.out ▸ HP2.out, HK2.out⟩

set_option maxHeartbeats 8000000 in
set_option maxRecDepth 100000 in
theorem xnode_6 {w : World} {t : Tv} {NM : List Txt} {BS : List Int} {NS : List Nd} {root : Int} {b : Nat} (hE : Env w t NM BS NS root) {x : E} (hx : NodeC w t b NM NS x) (p : Nat) (lx : Lies NS x p)
    (W : World) (out : List UInt8) (i : Nat) (hP : Pb w W b t out) (hi : NS[i]? = some ⟨6, ((p : Nat) : Int), 0, 0, 0, 0, 0, 0, 0⟩) (hlen : out.length + (etx NM (.un 6 x)).length ≤ 1099511627776) :
    Calls Tryz.prog 23 #[ptr b, .int .i64 i] W fun r W' => r = .returned (.tuple #[]) ∧ Pb w W' b t (out ++ etx NM (.un 6 x)) ∧ Kp SP W W' := by
  obtain ⟨g, off, dl, dc, hdv, hil, hdl, hdc, ⟨n0, n1, n2, n3, n4, n5, n6, n7, n8⟩, hg⟩ := hE.node hP hi
  obtain ⟨p0, v0, hp0, hb0, hown0⟩ := hP.ex
  have c4 : W.cell? ⟨b, 4, none⟩ = some t.dv := hb0.cell 4 rfl
  rw [hdv] at c4
  have HX0 := hide (HasC.new W 39 (ndA ⟨6, ((p : Nat) : Int), 0, 0, 0, 0, 0, 0, 0⟩))
  have HP0 := hide (hP.later (bel1 W (.cells (ndA ⟨6, ((p : Nat) : Int), 0, 0, 0, 0, 0, 0, 0⟩) 39)))
  have HK0 := hide (Kp.of_below SP (bel1 W (.cells (ndA ⟨6, ((p : Nat) : Int), 0, 0, 0, 0, 0, 0, 0⟩) 39)))
  have HL := hide hlen
  have HG := hide (hE.gl)
  have ht : etx NM (.un 6 x) = otx 6 ++ 40 :: (jn NM [x] 1 ++ [41]) := by simp [etx, jn, List.range_succ]
  have hN : ∀ j, j < 1 → NodeC w t b NM NS (([x] : List E).getD j z0) := by
      intro j hj
      match j, hj with
      | 0, _ => exact hx
      | _ + 1, hj => exact absurd hj (by omega)
  have hS : ∀ j, j < 1 → Lies NS (([x] : List E).getD j z0) (([p] : List Nat).getD j 0) := by
      intro j hj
      match j, hj with
      | 0, _ => exact lx
      | _ + 1, hj => exact absurd hj (by omega)
  have hC : ∀ j, j < 1 → (#[.int .i64 ((p : Nat) : Int)] : Array Value)[j]? = some (.int .i64 ((([p] : List Nat).getD j 0 : Nat) : Int)) := by
      intro j hj
      match j, hj with
      | 0, _ => rfl
      | _ + 1, hj => exact absurd hj (by omega)
  have HL2 := hide (show out.length + (otx 6).length + (jn NM [x] 1).length + 2 ≤ 1099511627776 by rw [ht] at hlen; simp at hlen; omega)
  have HT := hide (show out ++ etx NM (.un 6 x) = out ++ (otx ((6 : Nat) : Int) ++ 40 :: (jn NM [x] 1 ++ [41])) by rw [ht]; rfl)
  have HP0A := hide (HP0.out.later (bel1 _ (.cells #[.int .i64 ((p : Nat) : Int)] 3)))
  have HK0A := hide (HK0.out.trans (Kp.of_below SP (bel1 _ (.cells #[.int .i64 ((p : Nat) : Int)] 3))))
  have HQ := hide (HasC.new (W.alloc (.cells (ndA ⟨6, ((p : Nat) : Int), 0, 0, 0, 0, 0, 0, 0⟩) 39)) 3 #[.int .i64 ((p : Nat) : Int)])
  have Hc := hide (xcall_any hE [x] [p] 1 (by decide) hN hS 6 (by decide) _ out HP0A.out _ #[.int .i64 ((p : Nat) : Int)] HQ.out hC HL2.out)
  rw [World.size_alloc] at Hc
  clear ht hN hS hC HL hx lx
  simp only at n0 n1 n2 n3 n4 n5 n6 n7 n8
  clear hp0 hb0 hown0 hP hi hdv hlen hE
  go_enter Tryz.func23, Tryz.ntmps23
  go_wp2_with fail
  refine Hc.out.mono ?_
  rintro e W1 ⟨rfl, hP1, hK1⟩
  have HP1 := hide hP1
  have HK1 := hide (HK0A.out.trans hK1)
  clear hP1 hK1 HP0 HX0 n0 n1 n2 n3 n4 n5 n6 n7 n8 c4
  go_wp2_with fail
  go_end0
  exact ⟨rfl, HT.out ▸ HP1.out, HK1.out⟩

set_option maxHeartbeats 8000000 in
set_option maxRecDepth 100000 in
theorem xnode_7 {w : World} {t : Tv} {NM : List Txt} {BS : List Int} {NS : List Nd} {root : Int} {b : Nat} (hE : Env w t NM BS NS root) {x : E} (hx : NodeC w t b NM NS x) (p : Nat) (lx : Lies NS x p)
    (W : World) (out : List UInt8) (i : Nat) (hP : Pb w W b t out) (hi : NS[i]? = some ⟨7, ((p : Nat) : Int), 0, 0, 0, 0, 0, 0, 0⟩) (hlen : out.length + (etx NM (.un 7 x)).length ≤ 1099511627776) :
    Calls Tryz.prog 23 #[ptr b, .int .i64 i] W fun r W' => r = .returned (.tuple #[]) ∧ Pb w W' b t (out ++ etx NM (.un 7 x)) ∧ Kp SP W W' := by
  obtain ⟨g, off, dl, dc, hdv, hil, hdl, hdc, ⟨n0, n1, n2, n3, n4, n5, n6, n7, n8⟩, hg⟩ := hE.node hP hi
  obtain ⟨p0, v0, hp0, hb0, hown0⟩ := hP.ex
  have c4 : W.cell? ⟨b, 4, none⟩ = some t.dv := hb0.cell 4 rfl
  rw [hdv] at c4
  have HX0 := hide (HasC.new W 39 (ndA ⟨7, ((p : Nat) : Int), 0, 0, 0, 0, 0, 0, 0⟩))
  have HP0 := hide (hP.later (bel1 W (.cells (ndA ⟨7, ((p : Nat) : Int), 0, 0, 0, 0, 0, 0, 0⟩) 39)))
  have HK0 := hide (Kp.of_below SP (bel1 W (.cells (ndA ⟨7, ((p : Nat) : Int), 0, 0, 0, 0, 0, 0, 0⟩) 39)))
  have HL := hide hlen
  have HG := hide (hE.gl)
  have ht : etx NM (.un 7 x) = otx 7 ++ 40 :: (jn NM [x] 1 ++ [41]) := by simp [etx, jn, List.range_succ]
  have hN : ∀ j, j < 1 → NodeC w t b NM NS (([x] : List E).getD j z0) := by
      intro j hj
      match j, hj with
      | 0, _ => exact hx
      | _ + 1, hj => exact absurd hj (by omega)
  have hS : ∀ j, j < 1 → Lies NS (([x] : List E).getD j z0) (([p] : List Nat).getD j 0) := by
      intro j hj
      match j, hj with
      | 0, _ => exact lx
      | _ + 1, hj => exact absurd hj (by omega)
  have hC : ∀ j, j < 1 → (#[.int .i64 ((p : Nat) : Int)] : Array Value)[j]? = some (.int .i64 ((([p] : List Nat).getD j 0 : Nat) : Int)) := by
      intro j hj
      match j, hj with
      | 0, _ => rfl
      | _ + 1, hj => exact absurd hj (by omega)
  have HL2 := hide (show out.length + (otx 7).length + (jn NM [x] 1).length + 2 ≤ 1099511627776 by rw [ht] at hlen; simp at hlen; omega)
  have HT := hide (show out ++ etx NM (.un 7 x) = out ++ (otx ((7 : Nat) : Int) ++ 40 :: (jn NM [x] 1 ++ [41])) by rw [ht]; rfl)
  have HP0A := hide (HP0.out.later (bel1 _ (.cells #[.int .i64 ((p : Nat) : Int)] 3)))
  have HK0A := hide (HK0.out.trans (Kp.of_below SP (bel1 _ (.cells #[.int .i64 ((p : Nat) : Int)] 3))))
  have HQ := hide (HasC.new (W.alloc (.cells (ndA ⟨7, ((p : Nat) : Int), 0, 0, 0, 0, 0, 0, 0⟩) 39)) 3 #[.int .i64 ((p : Nat) : Int)])
  have Hc := hide (xcall_any hE [x] [p] 1 (by decide) hN hS 7 (by decide) _ out HP0A.out _ #[.int .i64 ((p : Nat) : Int)] HQ.out hC HL2.out)
  rw [World.size_alloc] at Hc
  clear ht hN hS hC HL hx lx
  simp only at n0 n1 n2 n3 n4 n5 n6 n7 n8
  clear hp0 hb0 hown0 hP hi hdv hlen hE
  go_enter Tryz.func23, Tryz.ntmps23
  go_wp2_with fail
  refine Hc.out.mono ?_
  rintro e W1 ⟨rfl, hP1, hK1⟩
  have HP1 := hide hP1
  have HK1 := hide (HK0A.out.trans hK1)
  clear hP1 hK1 HP0 HX0 n0 n1 n2 n3 n4 n5 n6 n7 n8 c4
  go_wp2_with fail
  go_end0
  exact ⟨rfl, HT.out ▸ HP1.out, HK1.out⟩

set_option maxHeartbeats 8000000 in
set_option maxRecDepth 100000 in
theorem xnode_24 {w : World} {t : Tv} {NM : List Txt} {BS : List Int} {NS : List Nd} {root : Int} {b : Nat} (hE : Env w t NM BS NS root) {x y : E} (hx : NodeC w t b NM NS x) (hy : NodeC w t b NM NS y) (p q : Nat) (lx : Lies NS x p) (ly : Lies NS y q)
    (W : World) (out : List UInt8) (i : Nat) (hP : Pb w W b t out) (hi : NS[i]? = some ⟨24, ((p : Nat) : Int), ((q : Nat) : Int), 0, 0, 0, 0, 0, 0⟩) (hlen : out.length + (etx NM (.bin 24 x y)).length ≤ 1099511627776) :
    Calls Tryz.prog 23 #[ptr b, .int .i64 i] W fun r W' => r = .returned (.tuple #[]) ∧ Pb w W' b t (out ++ etx NM (.bin 24 x y)) ∧ Kp SP W W' := by
  obtain ⟨g, off, dl, dc, hdv, hil, hdl, hdc, ⟨n0, n1, n2, n3, n4, n5, n6, n7, n8⟩, hg⟩ := hE.node hP hi
  obtain ⟨p0, v0, hp0, hb0, hown0⟩ := hP.ex
  have c4 : W.cell? ⟨b, 4, none⟩ = some t.dv := hb0.cell 4 rfl
  rw [hdv] at c4
  have HX0 := hide (HasC.new W 39 (ndA ⟨24, ((p : Nat) : Int), ((q : Nat) : Int), 0, 0, 0, 0, 0, 0⟩))
  have HP0 := hide (hP.later (bel1 W (.cells (ndA ⟨24, ((p : Nat) : Int), ((q : Nat) : Int), 0, 0, 0, 0, 0, 0⟩) 39)))
  have HK0 := hide (Kp.of_below SP (bel1 W (.cells (ndA ⟨24, ((p : Nat) : Int), ((q : Nat) : Int), 0, 0, 0, 0, 0, 0⟩) 39)))
  have HL := hide hlen
  have HG := hide (hE.gl)
  have ht : etx NM (.bin 24 x y) = otx 24 ++ 40 :: (jn NM [x, y] 2 ++ [41]) := by simp [etx, jn, List.range_succ]
  have hN : ∀ j, j < 2 → NodeC w t b NM NS (([x, y] : List E).getD j z0) := by
      intro j hj
      match j, hj with
      | 0, _ => exact hx
      | 1, _ => exact hy
      | _ + 2, hj => exact absurd hj (by omega)
  have hS : ∀ j, j < 2 → Lies NS (([x, y] : List E).getD j z0) (([p, q] : List Nat).getD j 0) := by
      intro j hj
      match j, hj with
      | 0, _ => exact lx
      | 1, _ => exact ly
      | _ + 2, hj => exact absurd hj (by omega)
  have hC : ∀ j, j < 2 → (#[.int .i64 ((p : Nat) : Int), .int .i64 ((q : Nat) : Int)] : Array Value)[j]? = some (.int .i64 ((([p, q] : List Nat).getD j 0 : Nat) : Int)) := by
      intro j hj
      match j, hj with
      | 0, _ => rfl
      | 1, _ => rfl
      | _ + 2, hj => exact absurd hj (by omega)
  have HL2 := hide (show out.length + (otx 24).length + (jn NM [x, y] 2).length + 2 ≤ 1099511627776 by rw [ht] at hlen; simp at hlen; omega)
  have HT := hide (show out ++ etx NM (.bin 24 x y) = out ++ (otx ((24 : Nat) : Int) ++ 40 :: (jn NM [x, y] 2 ++ [41])) by rw [ht]; rfl)
  have HP0A := hide (HP0.out.later (bel1 _ (.cells #[.int .i64 ((p : Nat) : Int), .int .i64 ((q : Nat) : Int)] 3)))
  have HK0A := hide (HK0.out.trans (Kp.of_below SP (bel1 _ (.cells #[.int .i64 ((p : Nat) : Int), .int .i64 ((q : Nat) : Int)] 3))))
  have HQ := hide (HasC.new (W.alloc (.cells (ndA ⟨24, ((p : Nat) : Int), ((q : Nat) : Int), 0, 0, 0, 0, 0, 0⟩) 39)) 3 #[.int .i64 ((p : Nat) : Int), .int .i64 ((q : Nat) : Int)])
  have Hc := hide (xcall_any hE [x, y] [p, q] 2 (by decide) hN hS 24 (by decide) _ out HP0A.out _ #[.int .i64 ((p : Nat) : Int), .int .i64 ((q : Nat) : Int)] HQ.out hC HL2.out)
  rw [World.size_alloc] at Hc
  clear ht hN hS hC HL hx hy lx ly
  simp only at n0 n1 n2 n3 n4 n5 n6 n7 n8
  clear hp0 hb0 hown0 hP hi hdv hlen hE
  go_enter Tryz.func23, Tryz.ntmps23
  go_wp2_with fail
  refine Hc.out.mono ?_
  rintro e W1 ⟨rfl, hP1, hK1⟩
  have HP1 := hide hP1
  have HK1 := hide (HK0A.out.trans hK1)
  clear hP1 hK1 HP0 HX0 n0 n1 n2 n3 n4 n5 n6 n7 n8 c4
  go_wp2_with fail
  go_end0
  exact ⟨rfl, HT.out ▸ HP1.out, HK1.out⟩

set_option maxHeartbeats 8000000 in
set_option maxRecDepth 100000 in
theorem xnode_25 {w : World} {t : Tv} {NM : List Txt} {BS : List Int} {NS : List Nd} {root : Int} {b : Nat} (hE : Env w t NM BS NS root) {x y : E} (hx : NodeC w t b NM NS x) (hy : NodeC w t b NM NS y) (p q : Nat) (lx : Lies NS x p) (ly : Lies NS y q)
    (W : World) (out : List UInt8) (i : Nat) (hP : Pb w W b t out) (hi : NS[i]? = some ⟨25, ((p : Nat) : Int), ((q : Nat) : Int), 0, 0, 0, 0, 0, 0⟩) (hlen : out.length + (etx NM (.bin 25 x y)).length ≤ 1099511627776) :
    Calls Tryz.prog 23 #[ptr b, .int .i64 i] W fun r W' => r = .returned (.tuple #[]) ∧ Pb w W' b t (out ++ etx NM (.bin 25 x y)) ∧ Kp SP W W' := by
  obtain ⟨g, off, dl, dc, hdv, hil, hdl, hdc, ⟨n0, n1, n2, n3, n4, n5, n6, n7, n8⟩, hg⟩ := hE.node hP hi
  obtain ⟨p0, v0, hp0, hb0, hown0⟩ := hP.ex
  have c4 : W.cell? ⟨b, 4, none⟩ = some t.dv := hb0.cell 4 rfl
  rw [hdv] at c4
  have HX0 := hide (HasC.new W 39 (ndA ⟨25, ((p : Nat) : Int), ((q : Nat) : Int), 0, 0, 0, 0, 0, 0⟩))
  have HP0 := hide (hP.later (bel1 W (.cells (ndA ⟨25, ((p : Nat) : Int), ((q : Nat) : Int), 0, 0, 0, 0, 0, 0⟩) 39)))
  have HK0 := hide (Kp.of_below SP (bel1 W (.cells (ndA ⟨25, ((p : Nat) : Int), ((q : Nat) : Int), 0, 0, 0, 0, 0, 0⟩) 39)))
  have HL := hide hlen
  have HG := hide (hE.gl)
  have ht : etx NM (.bin 25 x y) = otx 25 ++ 40 :: (jn NM [x, y] 2 ++ [41]) := by simp [etx, jn, List.range_succ]
  have hN : ∀ j, j < 2 → NodeC w t b NM NS (([x, y] : List E).getD j z0) := by
      intro j hj
      match j, hj with
      | 0, _ => exact hx
      | 1, _ => exact hy
      | _ + 2, hj => exact absurd hj (by omega)
  have hS : ∀ j, j < 2 → Lies NS (([x, y] : List E).getD j z0) (([p, q] : List Nat).getD j 0) := by
      intro j hj
      match j, hj with
      | 0, _ => exact lx
      | 1, _ => exact ly
      | _ + 2, hj => exact absurd hj (by omega)
  have hC : ∀ j, j < 2 → (#[.int .i64 ((p : Nat) : Int), .int .i64 ((q : Nat) : Int)] : Array Value)[j]? = some (.int .i64 ((([p, q] : List Nat).getD j 0 : Nat) : Int)) := by
      intro j hj
      match j, hj with
      | 0, _ => rfl
      | 1, _ => rfl
      | _ + 2, hj => exact absurd hj (by omega)
  have HL2 := hide (show out.length + (otx 25).length + (jn NM [x, y] 2).length + 2 ≤ 1099511627776 by rw [ht] at hlen; simp at hlen; omega)
  have HT := hide (show out ++ etx NM (.bin 25 x y) = out ++ (otx ((25 : Nat) : Int) ++ 40 :: (jn NM [x, y] 2 ++ [41])) by rw [ht]; rfl)
  have HP0A := hide (HP0.out.later (bel1 _ (.cells #[.int .i64 ((p : Nat) : Int), .int .i64 ((q : Nat) : Int)] 3)))
  have HK0A := hide (HK0.out.trans (Kp.of_below SP (bel1 _ (.cells #[.int .i64 ((p : Nat) : Int), .int .i64 ((q : Nat) : Int)] 3))))
  have HQ := hide (HasC.new (W.alloc (.cells (ndA ⟨25, ((p : Nat) : Int), ((q : Nat) : Int), 0, 0, 0, 0, 0, 0⟩) 39)) 3 #[.int .i64 ((p : Nat) : Int), .int .i64 ((q : Nat) : Int)])
  have Hc := hide (xcall_any hE [x, y] [p, q] 2 (by decide) hN hS 25 (by decide) _ out HP0A.out _ #[.int .i64 ((p : Nat) : Int), .int .i64 ((q : Nat) : Int)] HQ.out hC HL2.out)
  rw [World.size_alloc] at Hc
  clear ht hN hS hC HL hx hy lx ly
  simp only at n0 n1 n2 n3 n4 n5 n6 n7 n8
  clear hp0 hb0 hown0 hP hi hdv hlen hE
  go_enter Tryz.func23, Tryz.ntmps23
  go_wp2_with fail
  refine Hc.out.mono ?_
  rintro e W1 ⟨rfl, hP1, hK1⟩
  have HP1 := hide hP1
  have HK1 := hide (HK0A.out.trans hK1)
  clear hP1 hK1 HP0 HX0 n0 n1 n2 n3 n4 n5 n6 n7 n8 c4
  go_wp2_with fail
  go_end0
  exact ⟨rfl, HT.out ▸ HP1.out, HK1.out⟩

set_option maxHeartbeats 8000000 in
set_option maxRecDepth 100000 in
theorem xnode_26 {w : World} {t : Tv} {NM : List Txt} {BS : List Int} {NS : List Nd} {root : Int} {b : Nat} (hE : Env w t NM BS NS root) {x y z : E} (hx : NodeC w t b NM NS x) (hy : NodeC w t b NM NS y) (hz : NodeC w t b NM NS z) (p q r : Nat) (lx : Lies NS x p) (ly : Lies NS y q) (lz : Lies NS z r)
    (W : World) (out : List UInt8) (i : Nat) (hP : Pb w W b t out) (hi : NS[i]? = some ⟨26, ((p : Nat) : Int), ((q : Nat) : Int), ((r : Nat) : Int), 0, 0, 0, 0, 0⟩) (hlen : out.length + (etx NM (.tri 26 x y z)).length ≤ 1099511627776) :
    Calls Tryz.prog 23 #[ptr b, .int .i64 i] W fun r W' => r = .returned (.tuple #[]) ∧ Pb w W' b t (out ++ etx NM (.tri 26 x y z)) ∧ Kp SP W W' := by
  obtain ⟨g, off, dl, dc, hdv, hil, hdl, hdc, ⟨n0, n1, n2, n3, n4, n5, n6, n7, n8⟩, hg⟩ := hE.node hP hi
  obtain ⟨p0, v0, hp0, hb0, hown0⟩ := hP.ex
  have c4 : W.cell? ⟨b, 4, none⟩ = some t.dv := hb0.cell 4 rfl
  rw [hdv] at c4
  have HX0 := hide (HasC.new W 39 (ndA ⟨26, ((p : Nat) : Int), ((q : Nat) : Int), ((r : Nat) : Int), 0, 0, 0, 0, 0⟩))
  have HP0 := hide (hP.later (bel1 W (.cells (ndA ⟨26, ((p : Nat) : Int), ((q : Nat) : Int), ((r : Nat) : Int), 0, 0, 0, 0, 0⟩) 39)))
  have HK0 := hide (Kp.of_below SP (bel1 W (.cells (ndA ⟨26, ((p : Nat) : Int), ((q : Nat) : Int), ((r : Nat) : Int), 0, 0, 0, 0, 0⟩) 39)))
  have HL := hide hlen
  have HG := hide (hE.gl)
  have ht : etx NM (.tri 26 x y z) = otx 26 ++ 40 :: (jn NM [x, y, z] 3 ++ [41]) := by simp [etx, jn, List.range_succ]
  have hN : ∀ j, j < 3 → NodeC w t b NM NS (([x, y, z] : List E).getD j z0) := by
      intro j hj
      match j, hj with
      | 0, _ => exact hx
      | 1, _ => exact hy
      | 2, _ => exact hz
      | _ + 3, hj => exact absurd hj (by omega)
  have hS : ∀ j, j < 3 → Lies NS (([x, y, z] : List E).getD j z0) (([p, q, r] : List Nat).getD j 0) := by
      intro j hj
      match j, hj with
      | 0, _ => exact lx
      | 1, _ => exact ly
      | 2, _ => exact lz
      | _ + 3, hj => exact absurd hj (by omega)
  have hC : ∀ j, j < 3 → (#[.int .i64 ((p : Nat) : Int), .int .i64 ((q : Nat) : Int), .int .i64 ((r : Nat) : Int)] : Array Value)[j]? = some (.int .i64 ((([p, q, r] : List Nat).getD j 0 : Nat) : Int)) := by
      intro j hj
      match j, hj with
      | 0, _ => rfl
      | 1, _ => rfl
      | 2, _ => rfl
      | _ + 3, hj => exact absurd hj (by omega)
  have HL2 := hide (show out.length + (otx 26).length + (jn NM [x, y, z] 3).length + 2 ≤ 1099511627776 by rw [ht] at hlen; simp at hlen; omega)
  have HT := hide (show out ++ etx NM (.tri 26 x y z) = out ++ (otx ((26 : Nat) : Int) ++ 40 :: (jn NM [x, y, z] 3 ++ [41])) by rw [ht]; rfl)
  have HP0A := hide (HP0.out.later (bel1 _ (.cells #[.int .i64 ((p : Nat) : Int), .int .i64 ((q : Nat) : Int), .int .i64 ((r : Nat) : Int)] 3)))
  have HK0A := hide (HK0.out.trans (Kp.of_below SP (bel1 _ (.cells #[.int .i64 ((p : Nat) : Int), .int .i64 ((q : Nat) : Int), .int .i64 ((r : Nat) : Int)] 3))))
  have HQ := hide (HasC.new (W.alloc (.cells (ndA ⟨26, ((p : Nat) : Int), ((q : Nat) : Int), ((r : Nat) : Int), 0, 0, 0, 0, 0⟩) 39)) 3 #[.int .i64 ((p : Nat) : Int), .int .i64 ((q : Nat) : Int), .int .i64 ((r : Nat) : Int)])
  have Hc := hide (xcall_any hE [x, y, z] [p, q, r] 3 (by decide) hN hS 26 (by decide) _ out HP0A.out _ #[.int .i64 ((p : Nat) : Int), .int .i64 ((q : Nat) : Int), .int .i64 ((r : Nat) : Int)] HQ.out hC HL2.out)
  rw [World.size_alloc] at Hc
  clear ht hN hS hC HL hx hy hz lx ly lz
  simp only at n0 n1 n2 n3 n4 n5 n6 n7 n8
  clear hp0 hb0 hown0 hP hi hdv hlen hE
  go_enter Tryz.func23, Tryz.ntmps23
  go_wp2_with fail
  refine Hc.out.mono ?_
  rintro e W1 ⟨rfl, hP1, hK1⟩
  have HP1 := hide hP1
  have HK1 := hide (HK0A.out.trans hK1)
  clear hP1 hK1 HP0 HX0 n0 n1 n2 n3 n4 n5 n6 n7 n8 c4
  go_wp2_with fail
  go_end0
  exact ⟨rfl, HT.out ▸ HP1.out, HK1.out⟩

set_option maxHeartbeats 8000000 in
set_option maxRecDepth 100000 in
theorem xnode_27 {w : World} {t : Tv} {NM : List Txt} {BS : List Int} {NS : List Nd} {root : Int} {b : Nat} (hE : Env w t NM BS NS root) {x y z : E} (hx : NodeC w t b NM NS x) (hy : NodeC w t b NM NS y) (hz : NodeC w t b NM NS z) (p q r : Nat) (lx : Lies NS x p) (ly : Lies NS y q) (lz : Lies NS z r)
    (W : World) (out : List UInt8) (i : Nat) (hP : Pb w W b t out) (hi : NS[i]? = some ⟨27, ((p : Nat) : Int), ((q : Nat) : Int), ((r : Nat) : Int), 0, 0, 0, 0, 0⟩) (hlen : out.length + (etx NM (.tri 27 x y z)).length ≤ 1099511627776) :
    Calls Tryz.prog 23 #[ptr b, .int .i64 i] W fun r W' => r = .returned (.tuple #[]) ∧ Pb w W' b t (out ++ etx NM (.tri 27 x y z)) ∧ Kp SP W W' := by
  obtain ⟨g, off, dl, dc, hdv, hil, hdl, hdc, ⟨n0, n1, n2, n3, n4, n5, n6, n7, n8⟩, hg⟩ := hE.node hP hi
  obtain ⟨p0, v0, hp0, hb0, hown0⟩ := hP.ex
  have c4 : W.cell? ⟨b, 4, none⟩ = some t.dv := hb0.cell 4 rfl
  rw [hdv] at c4
  have HX0 := hide (HasC.new W 39 (ndA ⟨27, ((p : Nat) : Int), ((q : Nat) : Int), ((r : Nat) : Int), 0, 0, 0, 0, 0⟩))
  have HP0 := hide (hP.later (bel1 W (.cells (ndA ⟨27, ((p : Nat) : Int), ((q : Nat) : Int), ((r : Nat) : Int), 0, 0, 0, 0, 0⟩) 39)))
  have HK0 := hide (Kp.of_below SP (bel1 W (.cells (ndA ⟨27, ((p : Nat) : Int), ((q : Nat) : Int), ((r : Nat) : Int), 0, 0, 0, 0, 0⟩) 39)))
  have HL := hide hlen
  have HG := hide (hE.gl)
  have ht : etx NM (.tri 27 x y z) = otx 27 ++ 40 :: (jn NM [x, y, z] 3 ++ [41]) := by simp [etx, jn, List.range_succ]
  have hN : ∀ j, j < 3 → NodeC w t b NM NS (([x, y, z] : List E).getD j z0) := by
      intro j hj
      match j, hj with
      | 0, _ => exact hx
      | 1, _ => exact hy
      | 2, _ => exact hz
      | _ + 3, hj => exact absurd hj (by omega)
  have hS : ∀ j, j < 3 → Lies NS (([x, y, z] : List E).getD j z0) (([p, q, r] : List Nat).getD j 0) := by
      intro j hj
      match j, hj with
      | 0, _ => exact lx
      | 1, _ => exact ly
      | 2, _ => exact lz
      | _ + 3, hj => exact absurd hj (by omega)
  have hC : ∀ j, j < 3 → (#[.int .i64 ((p : Nat) : Int), .int .i64 ((q : Nat) : Int), .int .i64 ((r : Nat) : Int)] : Array Value)[j]? = some (.int .i64 ((([p, q, r] : List Nat).getD j 0 : Nat) : Int)) := by
      intro j hj
      match j, hj with
      | 0, _ => rfl
      | 1, _ => rfl
      | 2, _ => rfl
      | _ + 3, hj => exact absurd hj (by omega)
  have HL2 := hide (show out.length + (otx 27).length + (jn NM [x, y, z] 3).length + 2 ≤ 1099511627776 by rw [ht] at hlen; simp at hlen; omega)
  have HT := hide (show out ++ etx NM (.tri 27 x y z) = out ++ (otx ((27 : Nat) : Int) ++ 40 :: (jn NM [x, y, z] 3 ++ [41])) by rw [ht]; rfl)
  have HP0A := hide (HP0.out.later (bel1 _ (.cells #[.int .i64 ((p : Nat) : Int), .int .i64 ((q : Nat) : Int), .int .i64 ((r : Nat) : Int)] 3)))
  have HK0A := hide (HK0.out.trans (Kp.of_below SP (bel1 _ (.cells #[.int .i64 ((p : Nat) : Int), .int .i64 ((q : Nat) : Int), .int .i64 ((r : Nat) : Int)] 3))))
  have HQ := hide (HasC.new (W.alloc (.cells (ndA ⟨27, ((p : Nat) : Int), ((q : Nat) : Int), ((r : Nat) : Int), 0, 0, 0, 0, 0⟩) 39)) 3 #[.int .i64 ((p : Nat) : Int), .int .i64 ((q : Nat) : Int), .int .i64 ((r : Nat) : Int)])
  have Hc := hide (xcall_any hE [x, y, z] [p, q, r] 3 (by decide) hN hS 27 (by decide) _ out HP0A.out _ #[.int .i64 ((p : Nat) : Int), .int .i64 ((q : Nat) : Int), .int .i64 ((r : Nat) : Int)] HQ.out hC HL2.out)
  rw [World.size_alloc] at Hc
  clear ht hN hS hC HL hx hy hz lx ly lz
  simp only at n0 n1 n2 n3 n4 n5 n6 n7 n8
  clear hp0 hb0 hown0 hP hi hdv hlen hE
  go_enter Tryz.func23, Tryz.ntmps23
  go_wp2_with fail
  refine Hc.out.mono ?_
  rintro e W1 ⟨rfl, hP1, hK1⟩
  have HP1 := hide hP1
  have HK1 := hide (HK0A.out.trans hK1)
  clear hP1 hK1 HP0 HX0 n0 n1 n2 n3 n4 n5 n6 n7 n8 c4
  go_wp2_with fail
  go_end0
  exact ⟨rfl, HT.out ▸ HP1.out, HK1.out⟩

set_option maxHeartbeats 8000000 in
set_option maxRecDepth 100000 in
theorem xnode_28 {w : World} {t : Tv} {NM : List Txt} {BS : List Int} {NS : List Nd} {root : Int} {b : Nat} (hE : Env w t NM BS NS root) {x y z : E} (hx : NodeC w t b NM NS x) (hy : NodeC w t b NM NS y) (hz : NodeC w t b NM NS z) (ho : 1 ≤ opE x ∧ opE x ≤ 28) (p q r : Nat) (lx : Lies NS x p) (ly : Lies NS y q) (lz : Lies NS z r)
    (W : World) (out : List UInt8) (i : Nat) (hP : Pb w W b t out) (hi : NS[i]? = some ⟨28, ((p : Nat) : Int), ((q : Nat) : Int), ((r : Nat) : Int), 0, 0, 0, 0, 0⟩) (hlen : out.length + (etx NM (.tri 28 x y z)).length ≤ 1099511627776) :
    Calls Tryz.prog 23 #[ptr b, .int .i64 i] W fun r W' => r = .returned (.tuple #[]) ∧ Pb w W' b t (out ++ etx NM (.tri 28 x y z)) ∧ Kp SP W W' := by
  obtain ⟨g, off, dl, dc, hdv, hil, hdl, hdc, ⟨n0, n1, n2, n3, n4, n5, n6, n7, n8⟩, hg⟩ := hE.node hP hi
  obtain ⟨p0, v0, hp0, hb0, hown0⟩ := hP.ex
  have c4 : W.cell? ⟨b, 4, none⟩ = some t.dv := hb0.cell 4 rfl
  rw [hdv] at c4
  have HX0 := hide (HasC.new W 39 (ndA ⟨28, ((p : Nat) : Int), ((q : Nat) : Int), ((r : Nat) : Int), 0, 0, 0, 0, 0⟩))
  have HP0 := hide (hP.later (bel1 W (.cells (ndA ⟨28, ((p : Nat) : Int), ((q : Nat) : Int), ((r : Nat) : Int), 0, 0, 0, 0, 0⟩) 39)))
  have HK0 := hide (Kp.of_below SP (bel1 W (.cells (ndA ⟨28, ((p : Nat) : Int), ((q : Nat) : Int), ((r : Nat) : Int), 0, 0, 0, 0, 0⟩) 39)))
  have HL := hide hlen
  have HG := hide (hE.gl)
  have Hc := hide (xchoice_any hE hx hy hz ho _ out p q r HP0.out lx ly lz hlen)
  clear hx hy hz ho lx ly lz
  simp only at n0 n1 n2 n3 n4 n5 n6 n7 n8
  clear hp0 hb0 hown0 hP hi hdv hlen hE
  go_enter Tryz.func23, Tryz.ntmps23
  go_wp2_with fail
  refine (Hc.out).mono ?_
  rintro e W1 ⟨rfl, hP1, hK1⟩
  have HP1 := hide hP1
  have HK1 := hide (HK0.out.trans hK1)
  clear hP1 hK1 HP0 HX0 n0 n1 n2 n3 n4 n5 n6 n7 n8 c4
  go_wp2_with fail
  go_end0
  exact ⟨rfl, HP1.out, HK1.out⟩

set_option maxHeartbeats 8000000 in
set_option maxRecDepth 100000 in
theorem xnode_k {w : World} {t : Tv} {NM : List Txt} {BS : List Int} {NS : List Nd} {root : Int} {b : Nat} (hE : Env w t NM BS NS root) (k : Nat) (hk : 8 ≤ k ∧ k ≤ 23) {x y : E} (hx : NodeC w t b NM NS x) (hy : NodeC w t b NM NS y) (hox : 1 ≤ opE x ∧ opE x ≤ 28) (hoy : 1 ≤ opE y ∧ opE y ≤ 28) (p q : Nat) (lx : Lies NS x p) (ly : Lies NS y q)
    (W : World) (out : List UInt8) (i : Nat) (hP : Pb w W b t out) (hi : NS[i]? = some ⟨((k : Nat) : Int), ((p : Nat) : Int), ((q : Nat) : Int), 0, 0, 0, 0, 0, 0⟩) (hlen : out.length + (etx NM (.bin k x y)).length ≤ 1099511627776) :
    Calls Tryz.prog 23 #[ptr b, .int .i64 i] W fun r W' => r = .returned (.tuple #[]) ∧ Pb w W' b t (out ++ etx NM (.bin k x y)) ∧ Kp SP W W' := by
  obtain ⟨g, off, dl, dc, hdv, hil, hdl, hdc, ⟨n0, n1, n2, n3, n4, n5, n6, n7, n8⟩, hg⟩ := hE.node hP hi
  obtain ⟨p0, v0, hp0, hb0, hown0⟩ := hP.ex
  have c4 : W.cell? ⟨b, 4, none⟩ = some t.dv := hb0.cell 4 rfl
  rw [hdv] at c4
  have HX0 := hide (HasC.new W 39 (ndA ⟨((k : Nat) : Int), ((p : Nat) : Int), ((q : Nat) : Int), 0, 0, 0, 0, 0, 0⟩))
  have HP0 := hide (hP.later (bel1 W (.cells (ndA ⟨((k : Nat) : Int), ((p : Nat) : Int), ((q : Nat) : Int), 0, 0, 0, 0, 0, 0⟩) 39)))
  have HK0 := hide (Kp.of_below SP (bel1 W (.cells (ndA ⟨((k : Nat) : Int), ((p : Nat) : Int), ((q : Nat) : Int), 0, 0, 0, 0, 0, 0⟩) 39)))
  have HL := hide hlen
  have HG := hide (hE.gl)
  have Hc := hide (xbetween_any hE hx hy hox hoy k hk _ out p q HP0.out lx ly hlen)
  have t1 : ((k : Int) == 1) = false := by simp; omega
  have t2 : ((k : Int) == 2) = false := by simp; omega
  have t3 : ((k : Int) == 3) = false := by simp; omega
  have t4 : ((k : Int) == 4) = false := by simp; omega
  have t5 : ((k : Int) == 5) = false := by simp; omega
  have t6 : ((k : Int) == 6) = false := by simp; omega
  have t7 : ((k : Int) == 7) = false := by simp; omega
  have t24 : ((k : Int) == 24) = false := by simp; omega
  have t25 : ((k : Int) == 25) = false := by simp; omega
  have t26 : ((k : Int) == 26) = false := by simp; omega
  have t27 : ((k : Int) == 27) = false := by simp; omega
  have t28 : ((k : Int) == 28) = false := by simp; omega
  clear hx hy hox hoy lx ly
  simp only at n0 n1 n2 n3 n4 n5 n6 n7 n8
  clear hp0 hb0 hown0 hP hi hdv hlen hE
  go_enter Tryz.func23, Tryz.ntmps23
  go_wp2_with fail
  refine (Hc.out).mono ?_
  rintro e W1 ⟨rfl, hP1, hK1⟩
  have HP1 := hide hP1
  have HK1 := hide (HK0.out.trans hK1)
  clear hP1 hK1 HP0 HX0 n0 n1 n2 n3 n4 n5 n6 n7 n8 c4
  go_wp2_with fail
  go_end0
  exact ⟨rfl, HP1.out, HK1.out⟩

end Go.Proofs.YtodgjjkpbcadoaaGreatDoor

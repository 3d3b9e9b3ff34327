/-
  What the reference's Node answers of the called operators.
-/
import Derived.Test.YtodgjjkpbcadoaaGreatDoorRfA
import Derived.Test.YtodgjjkpbcadoaaGreatDoorChCl
import Derived.Lib.QuietBelow
import Derived.BigQuiet
namespace Go.Proofs.YtodgjjkpbcadoaaGreatDoor
open Go.RowKit Go.IntWalk Lx Pz Go.Sort
set_option linter.unusedVariables false

set_option maxHeartbeats 8000000 in
set_option maxRecDepth 100000 in
theorem node_abs {t : Tv} {NM : List Txt} {NS : List Nd} {x : E} (hx : NodeR t NM NS x) (hl : (etx NM (.un 6 x)).length ≤ 1048576) : NodeR t NM NS (.un 6 x) := by
  intro V i hE hL
  obtain ⟨p, hi, hx1⟩ := hL
  obtain ⟨nv, bv, dv, rv⟩ := t
  have ht : etx NM (.un 6 x) = (([97, 98, 115, 40] ++ etx NM x) ++ [41]) := by simp [etx, otx, opTab]
  obtain ⟨Ax, hAx⟩ := some_sB (etx NM x)
  rw [ht] at hl
  obtain ⟨C1, hC1, aC1⟩ := cat (A := ⟨#[97, 98, 115, 40]⟩) (a := [97, 98, 115, 40]) rfl hAx (by simp only [List.length_append, List.length_cons, List.length_nil] at hl ⊢; omega)
  obtain ⟨C2, hC2, aC2⟩ := cat (B := ⟨#[41]⟩) (b := [41]) hC1 rfl (by simp only [List.length_append, List.length_cons, List.length_nil] at hl ⊢; omega)
  rw [ht, ← hC2]
  obtain ⟨g, off, dl, dc, hdv, hil, hdl, hdc, hat, hg⟩ := (hE.later (bel1 V (.cells #[nv, bv, dv, rv] 26))).node hi
  subst hdv
  have hb0 := bel1 V (.cells #[nv, bv, .slice (some ⟨g, off, none⟩) dl dc, rv] 26)
  obtain ⟨c0, c1, c2, c3, c4, c5, c6, c7, c8⟩ := hat
  simp only at c0 c1 c2 c3 c4 c5 c6 c7 c8
  have HH := hide (HasC.new V 26 #[nv, bv, .slice (some ⟨g, off, none⟩) dl dc, rv])
  have HE := hide (hE.later hb0)
  have HB := hide hb0
  have Kx := hide (fun (X : World) (h : Er X ⟨nv, bv, .slice (some ⟨g, off, none⟩) dl dc, rv⟩ NM NS) => hx X p h hx1)
  rw [← hAx] at Kx
  obtain ⟨t0, t1, t2, t3⟩ := facts4 HH.out
  clear hE hb0 hi hg ht hl hx hx1 hAx hC1 hC2
  go_enter Tryz.func15, Tryz.ntmps15
  go_wp2_with fail
  refine (rank_any 6 (by decide) _).mono ?_
  rintro r U ⟨rfl, hU⟩
  have HX0 : Hid (HasC U (V.heap.size + 1) 39 (ndA ⟨6, (p : Int), 0, 0, 0, 0, 0, 0, 0⟩)) := hide (by
    rw [hU]
    have := HasC.new (V.alloc (.cells #[nv, bv, .slice (some ⟨g, off, none⟩) dl dc, rv] 26)) 39 (ndA ⟨6, (p : Int), 0, 0, 0, 0, 0, 0, 0⟩)
    rw [World.size_alloc] at this
    exact this)
  have hb1 : Below (V.alloc (.cells #[nv, bv, .slice (some ⟨g, off, none⟩) dl dc, rv] 26)).heap.size (V.alloc (.cells #[nv, bv, .slice (some ⟨g, off, none⟩) dl dc, rv] 26)) U := by
    rw [hU]; exact bel1 _ _
  have HE0 := hide (HE.out.later hb1)
  have HB0 := hide (bel HB.out hb1)
  have HT0 := hide (HH.out.below hb1)
  clear hU hb1 HE HB HH t0 t1 t2 t3 c0 c1 c2 c3 c4 c5 c6 c7 c8
  obtain ⟨t0, t1, t2, t3⟩ := facts4 HT0.out
  obtain ⟨c0, c1, c2, c3, c4, c5, c6, c7, c8⟩ := HX0.out.nine
  simp only at c0 c1 c2 c3 c4 c5 c6 c7 c8
  go_wp2_with fail
  refine (Kx.out _ HE0.out).mono ?_
  rintro r U1 ⟨rfl, hb⟩
  have HE1 := hide (HE0.out.later hb)
  have HB1 := hide (bel HB0.out hb)
  have HT1 := hide (HT0.out.below hb)
  have HX1 := hide (HX0.out.below hb)
  clear hb HE0 HB0 HT0 HX0 Kx t0 t1 t2 t3 c0 c1 c2 c3 c4 c5 c6 c7 c8
  obtain ⟨t0, t1, t2, t3⟩ := facts4 HT1.out
  obtain ⟨c0, c1, c2, c3, c4, c5, c6, c7, c8⟩ := HX1.out.nine
  simp only at c0 c1 c2 c3 c4 c5 c6 c7 c8
  go_wp2_with fail
  go_ret
  exact ⟨rfl, HB1.out⟩

set_option maxHeartbeats 8000000 in
set_option maxRecDepth 100000 in
theorem node_sgn {t : Tv} {NM : List Txt} {NS : List Nd} {x : E} (hx : NodeR t NM NS x) (hl : (etx NM (.un 7 x)).length ≤ 1048576) : NodeR t NM NS (.un 7 x) := by
  intro V i hE hL
  obtain ⟨p, hi, hx1⟩ := hL
  obtain ⟨nv, bv, dv, rv⟩ := t
  have ht : etx NM (.un 7 x) = (([115, 103, 110, 40] ++ etx NM x) ++ [41]) := by simp [etx, otx, opTab]
  obtain ⟨Ax, hAx⟩ := some_sB (etx NM x)
  rw [ht] at hl
  obtain ⟨C1, hC1, aC1⟩ := cat (A := ⟨#[115, 103, 110, 40]⟩) (a := [115, 103, 110, 40]) rfl hAx (by simp only [List.length_append, List.length_cons, List.length_nil] at hl ⊢; omega)
  obtain ⟨C2, hC2, aC2⟩ := cat (B := ⟨#[41]⟩) (b := [41]) hC1 rfl (by simp only [List.length_append, List.length_cons, List.length_nil] at hl ⊢; omega)
  rw [ht, ← hC2]
  obtain ⟨g, off, dl, dc, hdv, hil, hdl, hdc, hat, hg⟩ := (hE.later (bel1 V (.cells #[nv, bv, dv, rv] 26))).node hi
  subst hdv
  have hb0 := bel1 V (.cells #[nv, bv, .slice (some ⟨g, off, none⟩) dl dc, rv] 26)
  obtain ⟨c0, c1, c2, c3, c4, c5, c6, c7, c8⟩ := hat
  simp only at c0 c1 c2 c3 c4 c5 c6 c7 c8
  have HH := hide (HasC.new V 26 #[nv, bv, .slice (some ⟨g, off, none⟩) dl dc, rv])
  have HE := hide (hE.later hb0)
  have HB := hide hb0
  have Kx := hide (fun (X : World) (h : Er X ⟨nv, bv, .slice (some ⟨g, off, none⟩) dl dc, rv⟩ NM NS) => hx X p h hx1)
  rw [← hAx] at Kx
  obtain ⟨t0, t1, t2, t3⟩ := facts4 HH.out
  clear hE hb0 hi hg ht hl hx hx1 hAx hC1 hC2
  go_enter Tryz.func15, Tryz.ntmps15
  go_wp2_with fail
  refine (rank_any 7 (by decide) _).mono ?_
  rintro r U ⟨rfl, hU⟩
  have HX0 : Hid (HasC U (V.heap.size + 1) 39 (ndA ⟨7, (p : Int), 0, 0, 0, 0, 0, 0, 0⟩)) := hide (by
    rw [hU]
    have := HasC.new (V.alloc (.cells #[nv, bv, .slice (some ⟨g, off, none⟩) dl dc, rv] 26)) 39 (ndA ⟨7, (p : Int), 0, 0, 0, 0, 0, 0, 0⟩)
    rw [World.size_alloc] at this
    exact this)
  have hb1 : Below (V.alloc (.cells #[nv, bv, .slice (some ⟨g, off, none⟩) dl dc, rv] 26)).heap.size (V.alloc (.cells #[nv, bv, .slice (some ⟨g, off, none⟩) dl dc, rv] 26)) U := by
    rw [hU]; exact bel1 _ _
  have HE0 := hide (HE.out.later hb1)
  have HB0 := hide (bel HB.out hb1)
  have HT0 := hide (HH.out.below hb1)
  clear hU hb1 HE HB HH t0 t1 t2 t3 c0 c1 c2 c3 c4 c5 c6 c7 c8
  obtain ⟨t0, t1, t2, t3⟩ := facts4 HT0.out
  obtain ⟨c0, c1, c2, c3, c4, c5, c6, c7, c8⟩ := HX0.out.nine
  simp only at c0 c1 c2 c3 c4 c5 c6 c7 c8
  go_wp2_with fail
  refine (Kx.out _ HE0.out).mono ?_
  rintro r U1 ⟨rfl, hb⟩
  have HE1 := hide (HE0.out.later hb)
  have HB1 := hide (bel HB0.out hb)
  have HT1 := hide (HT0.out.below hb)
  have HX1 := hide (HX0.out.below hb)
  clear hb HE0 HB0 HT0 HX0 Kx t0 t1 t2 t3 c0 c1 c2 c3 c4 c5 c6 c7 c8
  obtain ⟨t0, t1, t2, t3⟩ := facts4 HT1.out
  obtain ⟨c0, c1, c2, c3, c4, c5, c6, c7, c8⟩ := HX1.out.nine
  simp only at c0 c1 c2 c3 c4 c5 c6 c7 c8
  go_wp2_with fail
  go_ret
  exact ⟨rfl, HB1.out⟩

set_option maxHeartbeats 8000000 in
set_option maxRecDepth 100000 in
theorem node_min {t : Tv} {NM : List Txt} {NS : List Nd} {x y : E} (hx : NodeR t NM NS x) (hy : NodeR t NM NS y) (hl : (etx NM (.bin 24 x y)).length ≤ 1048576) : NodeR t NM NS (.bin 24 x y) := by
  intro V i hE hL
  obtain ⟨p, q, hi, hx1, hy1⟩ := hL
  obtain ⟨nv, bv, dv, rv⟩ := t
  have ht : etx NM (.bin 24 x y) = (((([109, 105, 110, 40] ++ etx NM x) ++ [44]) ++ etx NM y) ++ [41]) := by simp [etx, otx, opTab]
  obtain ⟨Ax, hAx⟩ := some_sB (etx NM x)
  obtain ⟨Ay, hAy⟩ := some_sB (etx NM y)
  rw [ht] at hl
  obtain ⟨C1, hC1, aC1⟩ := cat (A := ⟨#[109, 105, 110, 40]⟩) (a := [109, 105, 110, 40]) rfl hAx (by simp only [List.length_append, List.length_cons, List.length_nil] at hl ⊢; omega)
  obtain ⟨C2, hC2, aC2⟩ := cat (B := ⟨#[44]⟩) (b := [44]) hC1 rfl (by simp only [List.length_append, List.length_cons, List.length_nil] at hl ⊢; omega)
  obtain ⟨C3, hC3, aC3⟩ := cat hC2 hAy (by simp only [List.length_append, List.length_cons, List.length_nil] at hl ⊢; omega)
  obtain ⟨C4, hC4, aC4⟩ := cat (B := ⟨#[41]⟩) (b := [41]) hC3 rfl (by simp only [List.length_append, List.length_cons, List.length_nil] at hl ⊢; omega)
  rw [ht, ← hC4]
  obtain ⟨g, off, dl, dc, hdv, hil, hdl, hdc, hat, hg⟩ := (hE.later (bel1 V (.cells #[nv, bv, dv, rv] 26))).node hi
  subst hdv
  have hb0 := bel1 V (.cells #[nv, bv, .slice (some ⟨g, off, none⟩) dl dc, rv] 26)
  obtain ⟨c0, c1, c2, c3, c4, c5, c6, c7, c8⟩ := hat
  simp only at c0 c1 c2 c3 c4 c5 c6 c7 c8
  have HH := hide (HasC.new V 26 #[nv, bv, .slice (some ⟨g, off, none⟩) dl dc, rv])
  have HE := hide (hE.later hb0)
  have HB := hide hb0
  have Kx := hide (fun (X : World) (h : Er X ⟨nv, bv, .slice (some ⟨g, off, none⟩) dl dc, rv⟩ NM NS) => hx X p h hx1)
  rw [← hAx] at Kx
  have Ky := hide (fun (X : World) (h : Er X ⟨nv, bv, .slice (some ⟨g, off, none⟩) dl dc, rv⟩ NM NS) => hy X q h hy1)
  rw [← hAy] at Ky
  obtain ⟨t0, t1, t2, t3⟩ := facts4 HH.out
  clear hE hb0 hi hg ht hl hx hx1 hAx hy hy1 hAy hC1 hC2 hC3 hC4
  go_enter Tryz.func15, Tryz.ntmps15
  go_wp2_with fail
  refine (rank_any 24 (by decide) _).mono ?_
  rintro r U ⟨rfl, hU⟩
  have HX0 : Hid (HasC U (V.heap.size + 1) 39 (ndA ⟨24, (p : Int), (q : Int), 0, 0, 0, 0, 0, 0⟩)) := hide (by
    rw [hU]
    have := HasC.new (V.alloc (.cells #[nv, bv, .slice (some ⟨g, off, none⟩) dl dc, rv] 26)) 39 (ndA ⟨24, (p : Int), (q : Int), 0, 0, 0, 0, 0, 0⟩)
    rw [World.size_alloc] at this
    exact this)
  have hb1 : Below (V.alloc (.cells #[nv, bv, .slice (some ⟨g, off, none⟩) dl dc, rv] 26)).heap.size (V.alloc (.cells #[nv, bv, .slice (some ⟨g, off, none⟩) dl dc, rv] 26)) U := by
    rw [hU]; exact bel1 _ _
  have HE0 := hide (HE.out.later hb1)
  have HB0 := hide (bel HB.out hb1)
  have HT0 := hide (HH.out.below hb1)
  clear hU hb1 HE HB HH t0 t1 t2 t3 c0 c1 c2 c3 c4 c5 c6 c7 c8
  obtain ⟨t0, t1, t2, t3⟩ := facts4 HT0.out
  obtain ⟨c0, c1, c2, c3, c4, c5, c6, c7, c8⟩ := HX0.out.nine
  simp only at c0 c1 c2 c3 c4 c5 c6 c7 c8
  go_wp2_with fail
  have e0 := fun dd os => cell_regrown t0 dd os
  have e1 := fun dd os => cell_regrown t1 dd os
  have e2 := fun dd os => cell_regrown t2 dd os
  have e3 := fun dd os => cell_regrown t3 dd os
  have n0 := fun dd os => cell_regrown c0 dd os
  have n1 := fun dd os => cell_regrown c1 dd os
  have n2 := fun dd os => cell_regrown c2 dd os
  have n3 := fun dd os => cell_regrown c3 dd os
  have HKx := fun (G : World) (hb : Below U.heap.size U G) => hide (Kx.out G (HE0.out.later hb))
  have HKy := fun (G : World) (hb : Below U.heap.size U G) => hide (Ky.out G (HE0.out.later hb))
  refine wp_region_quiet_below mixedP (by kernel_rfl) ?_
  repeat (go_big_quiet_step (fail))
  go_big_quiet_step ((go_at_call 15; exact Calls.regrown_of (HKx _ (below_regrown _ _ _)).out))
  repeat (go_big_quiet_step (fail))
  go_big_quiet_step ((go_at_call 15; exact Calls.regrown_of (HKy _ (below_regrown _ _ _)).out))
  repeat (go_big_quiet_step (fail))
  refine wpQuiet_nil ?_
  intro _ hw'
  obtain ⟨pq, hw''⟩ := hw'
  subst hw''
  have hb2 := bel HB0.out (below_regrown U pq.d pq.os)
  generalize grow (redrawn U pq.d) pq.os = G at *
  go_wp2_with fail
  go_ret
  exact ⟨rfl, hb2⟩

set_option maxHeartbeats 8000000 in
set_option maxRecDepth 100000 in
theorem node_max {t : Tv} {NM : List Txt} {NS : List Nd} {x y : E} (hx : NodeR t NM NS x) (hy : NodeR t NM NS y) (hl : (etx NM (.bin 25 x y)).length ≤ 1048576) : NodeR t NM NS (.bin 25 x y) := by
  intro V i hE hL
  obtain ⟨p, q, hi, hx1, hy1⟩ := hL
  obtain ⟨nv, bv, dv, rv⟩ := t
  have ht : etx NM (.bin 25 x y) = (((([109, 97, 120, 40] ++ etx NM x) ++ [44]) ++ etx NM y) ++ [41]) := by simp [etx, otx, opTab]
  obtain ⟨Ax, hAx⟩ := some_sB (etx NM x)
  obtain ⟨Ay, hAy⟩ := some_sB (etx NM y)
  rw [ht] at hl
  obtain ⟨C1, hC1, aC1⟩ := cat (A := ⟨#[109, 97, 120, 40]⟩) (a := [109, 97, 120, 40]) rfl hAx (by simp only [List.length_append, List.length_cons, List.length_nil] at hl ⊢; omega)
  obtain ⟨C2, hC2, aC2⟩ := cat (B := ⟨#[44]⟩) (b := [44]) hC1 rfl (by simp only [List.length_append, List.length_cons, List.length_nil] at hl ⊢; omega)
  obtain ⟨C3, hC3, aC3⟩ := cat hC2 hAy (by simp only [List.length_append, List.length_cons, List.length_nil] at hl ⊢; omega)
  obtain ⟨C4, hC4, aC4⟩ := cat (B := ⟨#[41]⟩) (b := [41]) hC3 rfl (by simp only [List.length_append, List.length_cons, List.length_nil] at hl ⊢; omega)
  rw [ht, ← hC4]
  obtain ⟨g, off, dl, dc, hdv, hil, hdl, hdc, hat, hg⟩ := (hE.later (bel1 V (.cells #[nv, bv, dv, rv] 26))).node hi
  subst hdv
  have hb0 := bel1 V (.cells #[nv, bv, .slice (some ⟨g, off, none⟩) dl dc, rv] 26)
  obtain ⟨c0, c1, c2, c3, c4, c5, c6, c7, c8⟩ := hat
  simp only at c0 c1 c2 c3 c4 c5 c6 c7 c8
  have HH := hide (HasC.new V 26 #[nv, bv, .slice (some ⟨g, off, none⟩) dl dc, rv])
  have HE := hide (hE.later hb0)
  have HB := hide hb0
  have Kx := hide (fun (X : World) (h : Er X ⟨nv, bv, .slice (some ⟨g, off, none⟩) dl dc, rv⟩ NM NS) => hx X p h hx1)
  rw [← hAx] at Kx
  have Ky := hide (fun (X : World) (h : Er X ⟨nv, bv, .slice (some ⟨g, off, none⟩) dl dc, rv⟩ NM NS) => hy X q h hy1)
  rw [← hAy] at Ky
  obtain ⟨t0, t1, t2, t3⟩ := facts4 HH.out
  clear hE hb0 hi hg ht hl hx hx1 hAx hy hy1 hAy hC1 hC2 hC3 hC4
  go_enter Tryz.func15, Tryz.ntmps15
  go_wp2_with fail
  refine (rank_any 25 (by decide) _).mono ?_
  rintro r U ⟨rfl, hU⟩
  have HX0 : Hid (HasC U (V.heap.size + 1) 39 (ndA ⟨25, (p : Int), (q : Int), 0, 0, 0, 0, 0, 0⟩)) := hide (by
    rw [hU]
    have := HasC.new (V.alloc (.cells #[nv, bv, .slice (some ⟨g, off, none⟩) dl dc, rv] 26)) 39 (ndA ⟨25, (p : Int), (q : Int), 0, 0, 0, 0, 0, 0⟩)
    rw [World.size_alloc] at this
    exact this)
  have hb1 : Below (V.alloc (.cells #[nv, bv, .slice (some ⟨g, off, none⟩) dl dc, rv] 26)).heap.size (V.alloc (.cells #[nv, bv, .slice (some ⟨g, off, none⟩) dl dc, rv] 26)) U := by
    rw [hU]; exact bel1 _ _
  have HE0 := hide (HE.out.later hb1)
  have HB0 := hide (bel HB.out hb1)
  have HT0 := hide (HH.out.below hb1)
  clear hU hb1 HE HB HH t0 t1 t2 t3 c0 c1 c2 c3 c4 c5 c6 c7 c8
  obtain ⟨t0, t1, t2, t3⟩ := facts4 HT0.out
  obtain ⟨c0, c1, c2, c3, c4, c5, c6, c7, c8⟩ := HX0.out.nine
  simp only at c0 c1 c2 c3 c4 c5 c6 c7 c8
  go_wp2_with fail
  have e0 := fun dd os => cell_regrown t0 dd os
  have e1 := fun dd os => cell_regrown t1 dd os
  have e2 := fun dd os => cell_regrown t2 dd os
  have e3 := fun dd os => cell_regrown t3 dd os
  have n0 := fun dd os => cell_regrown c0 dd os
  have n1 := fun dd os => cell_regrown c1 dd os
  have n2 := fun dd os => cell_regrown c2 dd os
  have n3 := fun dd os => cell_regrown c3 dd os
  have HKx := fun (G : World) (hb : Below U.heap.size U G) => hide (Kx.out G (HE0.out.later hb))
  have HKy := fun (G : World) (hb : Below U.heap.size U G) => hide (Ky.out G (HE0.out.later hb))
  refine wp_region_quiet_below mixedP (by kernel_rfl) ?_
  repeat (go_big_quiet_step (fail))
  go_big_quiet_step ((go_at_call 15; exact Calls.regrown_of (HKx _ (below_regrown _ _ _)).out))
  repeat (go_big_quiet_step (fail))
  go_big_quiet_step ((go_at_call 15; exact Calls.regrown_of (HKy _ (below_regrown _ _ _)).out))
  repeat (go_big_quiet_step (fail))
  refine wpQuiet_nil ?_
  intro _ hw'
  obtain ⟨pq, hw''⟩ := hw'
  subst hw''
  have hb2 := bel HB0.out (below_regrown U pq.d pq.os)
  generalize grow (redrawn U pq.d) pq.os = G at *
  go_wp2_with fail
  go_ret
  exact ⟨rfl, hb2⟩

end Go.Proofs.YtodgjjkpbcadoaaGreatDoor

/-
  What the reference's Node answers of the called operators of three, of - and of ?.
-/
namespace Go.Proofs.YtodgjjkpbcadoaaGreatDoor
open Go.RowKit Go.IntWalk Lx Pz Go.Sort
set_option linter.unusedVariables false

set_option maxHeartbeats 8000000 in
set_option maxRecDepth 100000 in
theorem node_clamp {t : Tv} {NM : List Txt} {NS : List Nd} {x y z : E} (hx : NodeR t NM NS x) (hy : NodeR t NM NS y) (hz : NodeR t NM NS z) (hl : (etx NM (.tri 26 x y z)).length ≤ 1048576) : NodeR t NM NS (.tri 26 x y z) := by
  intro V i hE hL
  obtain ⟨p, q, s, hi, hx1, hy1, hz1⟩ := hL
  obtain ⟨nv, bv, dv, rv⟩ := t
  have ht : etx NM (.tri 26 x y z) = (((((([99, 108, 97, 109, 112, 40] ++ etx NM x) ++ [44]) ++ etx NM y) ++ [44]) ++ etx NM z) ++ [41]) := by simp [etx, otx, opTab]
  obtain ⟨Ax, hAx⟩ := some_sB (etx NM x)
  obtain ⟨Ay, hAy⟩ := some_sB (etx NM y)
  obtain ⟨Az, hAz⟩ := some_sB (etx NM z)
  rw [ht] at hl
  obtain ⟨C1, hC1, aC1⟩ := cat (A := ⟨#[99, 108, 97, 109, 112, 40]⟩) (a := [99, 108, 97, 109, 112, 40]) rfl hAx (by simp only [List.length_append, List.length_cons, List.length_nil] at hl ⊢; omega)
  obtain ⟨C2, hC2, aC2⟩ := cat (B := ⟨#[44]⟩) (b := [44]) hC1 rfl (by simp only [List.length_append, List.length_cons, List.length_nil] at hl ⊢; omega)
  obtain ⟨C3, hC3, aC3⟩ := cat hC2 hAy (by simp only [List.length_append, List.length_cons, List.length_nil] at hl ⊢; omega)
  obtain ⟨C4, hC4, aC4⟩ := cat (B := ⟨#[44]⟩) (b := [44]) hC3 rfl (by simp only [List.length_append, List.length_cons, List.length_nil] at hl ⊢; omega)
  obtain ⟨C5, hC5, aC5⟩ := cat hC4 hAz (by simp only [List.length_append, List.length_cons, List.length_nil] at hl ⊢; omega)
  obtain ⟨C6, hC6, aC6⟩ := cat (B := ⟨#[41]⟩) (b := [41]) hC5 rfl (by simp only [List.length_append, List.length_cons, List.length_nil] at hl ⊢; omega)
  rw [ht, ← hC6]
  obtain ⟨g, off, dl, dc, hdv, hil, hdl, hdc, hat, hg⟩ := (hE.later (bel1 V (.cells #[nv, bv, dv, rv] 26))).node hi
  subst hdv
  have hb0 := bel1 V (.cells #[nv, bv, .slice (some ⟨g, off, none⟩) dl dc, rv] 26)
  obtain ⟨c0, c1, c2, c3, c4, c5, c6, c7, c8⟩ := hat
  simp only at c0 c1 c2 c3 c4 c5 c6 c7 c8
  have HH := hide (HasC.new V 26 #[nv, bv, .slice (some ⟨g, off, none⟩) dl dc, rv])
  have HE := hide (hE.later hb0)
  have HB := hide hb0
  have Kx := hide (fun (X : World) (h : Er X ⟨nv, bv, .slice (some ⟨g, off, none⟩) dl dc, rv⟩ NM NS) => hx X p h hx1)
  rw [← hAx] at Kx
  have Ky := hide (fun (X : World) (h : Er X ⟨nv, bv, .slice (some ⟨g, off, none⟩) dl dc, rv⟩ NM NS) => hy X q h hy1)
  rw [← hAy] at Ky
  have Kz := hide (fun (X : World) (h : Er X ⟨nv, bv, .slice (some ⟨g, off, none⟩) dl dc, rv⟩ NM NS) => hz X s h hz1)
  rw [← hAz] at Kz
  obtain ⟨t0, t1, t2, t3⟩ := facts4 HH.out
  clear hE hb0 hi hg ht hl hx hx1 hAx hy hy1 hAy hz hz1 hAz hC1 hC2 hC3 hC4 hC5 hC6
  go_enter Tryz.func15, Tryz.ntmps15
  go_wp2_with fail
  refine (rank_any 26 (by decide) _).mono ?_
  rintro r U ⟨rfl, hU⟩
  have HX0 : Hid (HasC U (V.heap.size + 1) 39 (ndA ⟨26, (p : Int), (q : Int), (s : Int), 0, 0, 0, 0, 0⟩)) := hide (by
    rw [hU]
    have := HasC.new (V.alloc (.cells #[nv, bv, .slice (some ⟨g, off, none⟩) dl dc, rv] 26)) 39 (ndA ⟨26, (p : Int), (q : Int), (s : Int), 0, 0, 0, 0, 0⟩)
    rw [World.size_alloc] at this
    exact this)
  have hb1 : Below (V.alloc (.cells #[nv, bv, .slice (some ⟨g, off, none⟩) dl dc, rv] 26)).heap.size (V.alloc (.cells #[nv, bv, .slice (some ⟨g, off, none⟩) dl dc, rv] 26)) U := by
    rw [hU]; exact bel1 _ _
  have HE0 := hide (HE.out.later hb1)
  have HB0 := hide (bel HB.out hb1)
  have HT0 := hide (HH.out.below hb1)
  clear hU hb1 HE HB HH t0 t1 t2 t3 c0 c1 c2 c3 c4 c5 c6 c7 c8
  obtain ⟨t0, t1, t2, t3⟩ := facts4 HT0.out
  obtain ⟨c0, c1, c2, c3, c4, c5, c6, c7, c8⟩ := HX0.out.nine
  simp only at c0 c1 c2 c3 c4 c5 c6 c7 c8
  go_wp2_with fail
  have e0 := fun dd os => cell_regrown t0 dd os
  have e1 := fun dd os => cell_regrown t1 dd os
  have e2 := fun dd os => cell_regrown t2 dd os
  have e3 := fun dd os => cell_regrown t3 dd os
  have n0 := fun dd os => cell_regrown c0 dd os
  have n1 := fun dd os => cell_regrown c1 dd os
  have n2 := fun dd os => cell_regrown c2 dd os
  have n3 := fun dd os => cell_regrown c3 dd os
  have HKx := fun (G : World) (hb : Below U.heap.size U G) => hide (Kx.out G (HE0.out.later hb))
  have HKy := fun (G : World) (hb : Below U.heap.size U G) => hide (Ky.out G (HE0.out.later hb))
  have HKz := fun (G : World) (hb : Below U.heap.size U G) => hide (Kz.out G (HE0.out.later hb))
  refine wp_region_quiet_below mixedP (by kernel_rfl) ?_
  repeat (go_big_quiet_step (fail))
  go_big_quiet_step ((go_at_call 15; exact Calls.regrown_of (HKx _ (below_regrown _ _ _)).out))
  repeat (go_big_quiet_step (fail))
  go_big_quiet_step ((go_at_call 15; exact Calls.regrown_of (HKy _ (below_regrown _ _ _)).out))
  repeat (go_big_quiet_step (fail))
  go_big_quiet_step ((go_at_call 15; exact Calls.regrown_of (HKz _ (below_regrown _ _ _)).out))
  repeat (go_big_quiet_step (fail))
  refine wpQuiet_nil ?_
  intro _ hw'
  obtain ⟨pq, hw''⟩ := hw'
  subst hw''
  have hb2 := bel HB0.out (below_regrown U pq.d pq.os)
  generalize grow (redrawn U pq.d) pq.os = G at *
  go_wp2_with fail
  go_ret
  exact ⟨rfl, hb2⟩

set_option maxHeartbeats 8000000 in
set_option maxRecDepth 100000 in
theorem node_med {t : Tv} {NM : List Txt} {NS : List Nd} {x y z : E} (hx : NodeR t NM NS x) (hy : NodeR t NM NS y) (hz : NodeR t NM NS z) (hl : (etx NM (.tri 27 x y z)).length ≤ 1048576) : NodeR t NM NS (.tri 27 x y z) := by
  intro V i hE hL
  obtain ⟨p, q, s, hi, hx1, hy1, hz1⟩ := hL
  obtain ⟨nv, bv, dv, rv⟩ := t
  have ht : etx NM (.tri 27 x y z) = (((((([109, 101, 100, 40] ++ etx NM x) ++ [44]) ++ etx NM y) ++ [44]) ++ etx NM z) ++ [41]) := by simp [etx, otx, opTab]
  obtain ⟨Ax, hAx⟩ := some_sB (etx NM x)
  obtain ⟨Ay, hAy⟩ := some_sB (etx NM y)
  obtain ⟨Az, hAz⟩ := some_sB (etx NM z)
  rw [ht] at hl
  obtain ⟨C1, hC1, aC1⟩ := cat (A := ⟨#[109, 101, 100, 40]⟩) (a := [109, 101, 100, 40]) rfl hAx (by simp only [List.length_append, List.length_cons, List.length_nil] at hl ⊢; omega)
  obtain ⟨C2, hC2, aC2⟩ := cat (B := ⟨#[44]⟩) (b := [44]) hC1 rfl (by simp only [List.length_append, List.length_cons, List.length_nil] at hl ⊢; omega)
  obtain ⟨C3, hC3, aC3⟩ := cat hC2 hAy (by simp only [List.length_append, List.length_cons, List.length_nil] at hl ⊢; omega)
  obtain ⟨C4, hC4, aC4⟩ := cat (B := ⟨#[44]⟩) (b := [44]) hC3 rfl (by simp only [List.length_append, List.length_cons, List.length_nil] at hl ⊢; omega)
  obtain ⟨C5, hC5, aC5⟩ := cat hC4 hAz (by simp only [List.length_append, List.length_cons, List.length_nil] at hl ⊢; omega)
  obtain ⟨C6, hC6, aC6⟩ := cat (B := ⟨#[41]⟩) (b := [41]) hC5 rfl (by simp only [List.length_append, List.length_cons, List.length_nil] at hl ⊢; omega)
  rw [ht, ← hC6]
  obtain ⟨g, off, dl, dc, hdv, hil, hdl, hdc, hat, hg⟩ := (hE.later (bel1 V (.cells #[nv, bv, dv, rv] 26))).node hi
  subst hdv
  have hb0 := bel1 V (.cells #[nv, bv, .slice (some ⟨g, off, none⟩) dl dc, rv] 26)
  obtain ⟨c0, c1, c2, c3, c4, c5, c6, c7, c8⟩ := hat
  simp only at c0 c1 c2 c3 c4 c5 c6 c7 c8
  have HH := hide (HasC.new V 26 #[nv, bv, .slice (some ⟨g, off, none⟩) dl dc, rv])
  have HE := hide (hE.later hb0)
  have HB := hide hb0
  have Kx := hide (fun (X : World) (h : Er X ⟨nv, bv, .slice (some ⟨g, off, none⟩) dl dc, rv⟩ NM NS) => hx X p h hx1)
  rw [← hAx] at Kx
  have Ky := hide (fun (X : World) (h : Er X ⟨nv, bv, .slice (some ⟨g, off, none⟩) dl dc, rv⟩ NM NS) => hy X q h hy1)
  rw [← hAy] at Ky
  have Kz := hide (fun (X : World) (h : Er X ⟨nv, bv, .slice (some ⟨g, off, none⟩) dl dc, rv⟩ NM NS) => hz X s h hz1)
  rw [← hAz] at Kz
  obtain ⟨t0, t1, t2, t3⟩ := facts4 HH.out
  clear hE hb0 hi hg ht hl hx hx1 hAx hy hy1 hAy hz hz1 hAz hC1 hC2 hC3 hC4 hC5 hC6
  go_enter Tryz.func15, Tryz.ntmps15
  go_wp2_with fail
  refine (rank_any 27 (by decide) _).mono ?_
  rintro r U ⟨rfl, hU⟩
  have HX0 : Hid (HasC U (V.heap.size + 1) 39 (ndA ⟨27, (p : Int), (q : Int), (s : Int), 0, 0, 0, 0, 0⟩)) := hide (by
    rw [hU]
    have := HasC.new (V.alloc (.cells #[nv, bv, .slice (some ⟨g, off, none⟩) dl dc, rv] 26)) 39 (ndA ⟨27, (p : Int), (q : Int), (s : Int), 0, 0, 0, 0, 0⟩)
    rw [World.size_alloc] at this
    exact this)
  have hb1 : Below (V.alloc (.cells #[nv, bv, .slice (some ⟨g, off, none⟩) dl dc, rv] 26)).heap.size (V.alloc (.cells #[nv, bv, .slice (some ⟨g, off, none⟩) dl dc, rv] 26)) U := by
    rw [hU]; exact bel1 _ _
  have HE0 := hide (HE.out.later hb1)
  have HB0 := hide (bel HB.out hb1)
  have HT0 := hide (HH.out.below hb1)
  clear hU hb1 HE HB HH t0 t1 t2 t3 c0 c1 c2 c3 c4 c5 c6 c7 c8
  obtain ⟨t0, t1, t2, t3⟩ := facts4 HT0.out
  obtain ⟨c0, c1, c2, c3, c4, c5, c6, c7, c8⟩ := HX0.out.nine
  simp only at c0 c1 c2 c3 c4 c5 c6 c7 c8
  go_wp2_with fail
  have e0 := fun dd os => cell_regrown t0 dd os
  have e1 := fun dd os => cell_regrown t1 dd os
  have e2 := fun dd os => cell_regrown t2 dd os
  have e3 := fun dd os => cell_regrown t3 dd os
  have n0 := fun dd os => cell_regrown c0 dd os
  have n1 := fun dd os => cell_regrown c1 dd os
  have n2 := fun dd os => cell_regrown c2 dd os
  have n3 := fun dd os => cell_regrown c3 dd os
  have HKx := fun (G : World) (hb : Below U.heap.size U G) => hide (Kx.out G (HE0.out.later hb))
  have HKy := fun (G : World) (hb : Below U.heap.size U G) => hide (Ky.out G (HE0.out.later hb))
  have HKz := fun (G : World) (hb : Below U.heap.size U G) => hide (Kz.out G (HE0.out.later hb))
  refine wp_region_quiet_below mixedP (by kernel_rfl) ?_
  repeat (go_big_quiet_step (fail))
  go_big_quiet_step ((go_at_call 15; exact Calls.regrown_of (HKx _ (below_regrown _ _ _)).out))
  repeat (go_big_quiet_step (fail))
  go_big_quiet_step ((go_at_call 15; exact Calls.regrown_of (HKy _ (below_regrown _ _ _)).out))
  repeat (go_big_quiet_step (fail))
  go_big_quiet_step ((go_at_call 15; exact Calls.regrown_of (HKz _ (below_regrown _ _ _)).out))
  repeat (go_big_quiet_step (fail))
  refine wpQuiet_nil ?_
  intro _ hw'
  obtain ⟨pq, hw''⟩ := hw'
  subst hw''
  have hb2 := bel HB0.out (below_regrown U pq.d pq.os)
  generalize grow (redrawn U pq.d) pq.os = G at *
  go_wp2_with fail
  go_ret
  exact ⟨rfl, hb2⟩

set_option maxHeartbeats 8000000 in
set_option maxRecDepth 100000 in
theorem node_neg {t : Tv} {NM : List Txt} {NS : List Nd} {x : E} (hx : NodeR t NM NS x) (ox : 1 ≤ opE x ∧ opE x ≤ 28) (lx : (etx NM x).length ≤ 1048576) (hl : (etx NM (.un 5 x)).length ≤ 1048576) : NodeR t NM NS (.un 5 x) := by
  intro V i hE hL
  obtain ⟨p, hi, hx1⟩ := hL
  obtain ⟨nv, bv, dv, rv⟩ := t
  have ht : etx NM (.un 5 x) = ([45] ++ prp NM 8 x) := by simp [etx, prp]
  obtain ⟨Ax, hAx⟩ := some_sB (prp NM 8 x)
  rw [ht] at hl
  obtain ⟨C1, hC1, aC1⟩ := cat (A := ⟨#[45]⟩) (a := [45]) rfl hAx (by simp only [List.length_append, List.length_cons, List.length_nil] at hl ⊢; omega)
  rw [ht, ← hC1]
  obtain ⟨g, off, dl, dc, hdv, hil, hdl, hdc, hat, hg⟩ := (hE.later (bel1 V (.cells #[nv, bv, dv, rv] 26))).node hi
  subst hdv
  have hb0 := bel1 V (.cells #[nv, bv, .slice (some ⟨g, off, none⟩) dl dc, rv] 26)
  obtain ⟨c0, c1, c2, c3, c4, c5, c6, c7, c8⟩ := hat
  simp only at c0 c1 c2 c3 c4 c5 c6 c7 c8
  have HH := hide (HasC.new V 26 #[nv, bv, .slice (some ⟨g, off, none⟩) dl dc, rv])
  have HE := hide (hE.later hb0)
  have HB := hide hb0
  have Kx := hide (fun (X : World) (h : Er X ⟨nv, bv, .slice (some ⟨g, off, none⟩) dl dc, rv⟩ NM NS) => brac_any hx ox lx 8 (by decide) X p h hx1)
  rw [← hAx] at Kx
  obtain ⟨t0, t1, t2, t3⟩ := facts4 HH.out
  clear hE hb0 hi hg ht hl ox lx hx hx1 hAx hC1
  go_enter Tryz.func15, Tryz.ntmps15
  go_wp2_with fail
  refine (rank_any 5 (by decide) _).mono ?_
  rintro r U ⟨rfl, hU⟩
  have HX0 : Hid (HasC U (V.heap.size + 1) 39 (ndA ⟨5, (p : Int), 0, 0, 0, 0, 0, 0, 0⟩)) := hide (by
    rw [hU]
    have := HasC.new (V.alloc (.cells #[nv, bv, .slice (some ⟨g, off, none⟩) dl dc, rv] 26)) 39 (ndA ⟨5, (p : Int), 0, 0, 0, 0, 0, 0, 0⟩)
    rw [World.size_alloc] at this
    exact this)
  have hb1 : Below (V.alloc (.cells #[nv, bv, .slice (some ⟨g, off, none⟩) dl dc, rv] 26)).heap.size (V.alloc (.cells #[nv, bv, .slice (some ⟨g, off, none⟩) dl dc, rv] 26)) U := by
    rw [hU]; exact bel1 _ _
  have HE0 := hide (HE.out.later hb1)
  have HB0 := hide (bel HB.out hb1)
  have HT0 := hide (HH.out.below hb1)
  clear hU hb1 HE HB HH t0 t1 t2 t3 c0 c1 c2 c3 c4 c5 c6 c7 c8
  obtain ⟨t0, t1, t2, t3⟩ := facts4 HT0.out
  obtain ⟨c0, c1, c2, c3, c4, c5, c6, c7, c8⟩ := HX0.out.nine
  simp only at c0 c1 c2 c3 c4 c5 c6 c7 c8
  go_wp2_with fail
  refine (Kx.out _ HE0.out).mono ?_
  rintro r U1 ⟨rfl, hb⟩
  have HE1 := hide (HE0.out.later hb)
  have HB1 := hide (bel HB0.out hb)
  have HT1 := hide (HT0.out.below hb)
  have HX1 := hide (HX0.out.below hb)
  clear hb HE0 HB0 HT0 HX0 Kx t0 t1 t2 t3 c0 c1 c2 c3 c4 c5 c6 c7 c8
  obtain ⟨t0, t1, t2, t3⟩ := facts4 HT1.out
  obtain ⟨c0, c1, c2, c3, c4, c5, c6, c7, c8⟩ := HX1.out.nine
  simp only at c0 c1 c2 c3 c4 c5 c6 c7 c8
  go_wp2_with fail
  go_ret
  exact ⟨rfl, HB1.out⟩

set_option maxHeartbeats 8000000 in
set_option maxRecDepth 100000 in
theorem node_sel {t : Tv} {NM : List Txt} {NS : List Nd} {x y z : E} (hx : NodeR t NM NS x) (hy : NodeR t NM NS y) (hz : NodeR t NM NS z) (ox : 1 ≤ opE x ∧ opE x ≤ 28) (lx : (etx NM x).length ≤ 1048576) (hl : (etx NM (.tri 28 x y z)).length ≤ 1048576) : NodeR t NM NS (.tri 28 x y z) := by
  intro V i hE hL
  obtain ⟨p, q, s, hi, hx1, hy1, hz1⟩ := hL
  obtain ⟨nv, bv, dv, rv⟩ := t
  have ht : etx NM (.tri 28 x y z) = ((((prp NM 1 x ++ [63]) ++ etx NM y) ++ [58]) ++ etx NM z) := by simp [etx, prp]
  obtain ⟨Ax, hAx⟩ := some_sB (prp NM 1 x)
  obtain ⟨Ay, hAy⟩ := some_sB (etx NM y)
  obtain ⟨Az, hAz⟩ := some_sB (etx NM z)
  rw [ht] at hl
  obtain ⟨C1, hC1, aC1⟩ := cat (B := ⟨#[63]⟩) (b := [63]) hAx rfl (by simp only [List.length_append, List.length_cons, List.length_nil] at hl ⊢; omega)
  obtain ⟨C2, hC2, aC2⟩ := cat hC1 hAy (by simp only [List.length_append, List.length_cons, List.length_nil] at hl ⊢; omega)
  obtain ⟨C3, hC3, aC3⟩ := cat (B := ⟨#[58]⟩) (b := [58]) hC2 rfl (by simp only [List.length_append, List.length_cons, List.length_nil] at hl ⊢; omega)
  obtain ⟨C4, hC4, aC4⟩ := cat hC3 hAz (by simp only [List.length_append, List.length_cons, List.length_nil] at hl ⊢; omega)
  rw [ht, ← hC4]
  obtain ⟨g, off, dl, dc, hdv, hil, hdl, hdc, hat, hg⟩ := (hE.later (bel1 V (.cells #[nv, bv, dv, rv] 26))).node hi
  subst hdv
  have hb0 := bel1 V (.cells #[nv, bv, .slice (some ⟨g, off, none⟩) dl dc, rv] 26)
  obtain ⟨c0, c1, c2, c3, c4, c5, c6, c7, c8⟩ := hat
  simp only at c0 c1 c2 c3 c4 c5 c6 c7 c8
  have HH := hide (HasC.new V 26 #[nv, bv, .slice (some ⟨g, off, none⟩) dl dc, rv])
  have HE := hide (hE.later hb0)
  have HB := hide hb0
  have Kx := hide (fun (X : World) (h : Er X ⟨nv, bv, .slice (some ⟨g, off, none⟩) dl dc, rv⟩ NM NS) => brac_any hx ox lx 1 (by decide) X p h hx1)
  rw [← hAx] at Kx
  have Ky := hide (fun (X : World) (h : Er X ⟨nv, bv, .slice (some ⟨g, off, none⟩) dl dc, rv⟩ NM NS) => hy X q h hy1)
  rw [← hAy] at Ky
  have Kz := hide (fun (X : World) (h : Er X ⟨nv, bv, .slice (some ⟨g, off, none⟩) dl dc, rv⟩ NM NS) => hz X s h hz1)
  rw [← hAz] at Kz
  obtain ⟨t0, t1, t2, t3⟩ := facts4 HH.out
  clear hE hb0 hi hg ht hl ox lx hx hx1 hAx hy hy1 hAy hz hz1 hAz hC1 hC2 hC3 hC4
  go_enter Tryz.func15, Tryz.ntmps15
  go_wp2_with fail
  refine (rank_any 28 (by decide) _).mono ?_
  rintro r U ⟨rfl, hU⟩
  have HX0 : Hid (HasC U (V.heap.size + 1) 39 (ndA ⟨28, (p : Int), (q : Int), (s : Int), 0, 0, 0, 0, 0⟩)) := hide (by
    rw [hU]
    have := HasC.new (V.alloc (.cells #[nv, bv, .slice (some ⟨g, off, none⟩) dl dc, rv] 26)) 39 (ndA ⟨28, (p : Int), (q : Int), (s : Int), 0, 0, 0, 0, 0⟩)
    rw [World.size_alloc] at this
    exact this)
  have hb1 : Below (V.alloc (.cells #[nv, bv, .slice (some ⟨g, off, none⟩) dl dc, rv] 26)).heap.size (V.alloc (.cells #[nv, bv, .slice (some ⟨g, off, none⟩) dl dc, rv] 26)) U := by
    rw [hU]; exact bel1 _ _
  have HE0 := hide (HE.out.later hb1)
  have HB0 := hide (bel HB.out hb1)
  have HT0 := hide (HH.out.below hb1)
  clear hU hb1 HE HB HH t0 t1 t2 t3 c0 c1 c2 c3 c4 c5 c6 c7 c8
  obtain ⟨t0, t1, t2, t3⟩ := facts4 HT0.out
  obtain ⟨c0, c1, c2, c3, c4, c5, c6, c7, c8⟩ := HX0.out.nine
  simp only at c0 c1 c2 c3 c4 c5 c6 c7 c8
  go_wp2_with fail
  have e0 := fun dd os => cell_regrown t0 dd os
  have e1 := fun dd os => cell_regrown t1 dd os
  have e2 := fun dd os => cell_regrown t2 dd os
  have e3 := fun dd os => cell_regrown t3 dd os
  have n0 := fun dd os => cell_regrown c0 dd os
  have n1 := fun dd os => cell_regrown c1 dd os
  have n2 := fun dd os => cell_regrown c2 dd os
  have n3 := fun dd os => cell_regrown c3 dd os
  have HKx := fun (G : World) (hb : Below U.heap.size U G) => hide (Kx.out G (HE0.out.later hb))
  have HKy := fun (G : World) (hb : Below U.heap.size U G) => hide (Ky.out G (HE0.out.later hb))
  have HKz := fun (G : World) (hb : Below U.heap.size U G) => hide (Kz.out G (HE0.out.later hb))
  refine wp_region_quiet_below mixedP (by kernel_rfl) ?_
  repeat (go_big_quiet_step (fail))
  go_big_quiet_step ((go_at_call 31; exact Calls.regrown_of (HKx _ (below_regrown _ _ _)).out))
  repeat (go_big_quiet_step (fail))
  go_big_quiet_step ((go_at_call 15; exact Calls.regrown_of (HKy _ (below_regrown _ _ _)).out))
  repeat (go_big_quiet_step (fail))
  go_big_quiet_step ((go_at_call 15; exact Calls.regrown_of (HKz _ (below_regrown _ _ _)).out))
  repeat (go_big_quiet_step (fail))
  refine wpQuiet_nil ?_
  intro _ hw'
  obtain ⟨pq, hw''⟩ := hw'
  subst hw''
  have hb2 := bel HB0.out (below_regrown U pq.d pq.os)
  generalize grow (redrawn U pq.d) pq.os = G at *
  go_wp2_with fail
  go_ret
  exact ⟨rfl, hb2⟩

end Go.Proofs.YtodgjjkpbcadoaaGreatDoor

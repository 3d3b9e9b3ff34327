/-
  What the reference's Node answers of the leaves.
-/
import Derived.Test.YtodgjjkpbcadoaaGreatDoorRfA
import Derived.Test.YtodgjjkpbcadoaaGreatDoorChCl
import Derived.Test.YtodgjjkpbcadoaaGreatDoorHeld
import Derived.Lib.QuietBelow
import Derived.BigQuiet
namespace Go.Proofs.YtodgjjkpbcadoaaGreatDoor
open Go.RowKit Go.IntWalk Lx Pz Go.Sort
set_option linter.unusedVariables false

set_option maxHeartbeats 8000000 in
set_option maxRecDepth 100000 in
theorem node_num {t : Tv} {NM : List Txt} {NS : List Nd} {k : Int} (h0 : 0 ≤ k) (h1 : k ≤ 2147483647) (hl : (etx NM (.leaf ⟨1, 0, 0, 0, k, 0, 0, 0, 0⟩)).length ≤ 1048576) : NodeR t NM NS (.leaf ⟨1, 0, 0, 0, k, 0, 0, 0, 0⟩) := by
  intro V i hE hL
  have hi : NS[i]? = some _ := hL
  obtain ⟨nv, bv, dv, rv⟩ := t
  have ht : etx NM (.leaf ⟨1, 0, 0, 0, k, 0, 0, 0, 0⟩) = Lib.itoa k := by simp [etx, leafT]
  obtain ⟨D, hD⟩ := some_sB (Lib.itoa k)
  rw [ht, ← hD]
  obtain ⟨g, off, dl, dc, hdv, hil, hdl, hdc, hat, hg⟩ := (hE.later (bel1 V (.cells #[nv, bv, dv, rv] 26))).node hi
  subst hdv
  have hb0 := bel1 V (.cells #[nv, bv, .slice (some ⟨g, off, none⟩) dl dc, rv] 26)
  obtain ⟨c0, c1, c2, c3, c4, c5, c6, c7, c8⟩ := hat
  simp only at c0 c1 c2 c3 c4 c5 c6 c7 c8
  have HH := hide (HasC.new V 26 #[nv, bv, .slice (some ⟨g, off, none⟩) dl dc, rv])
  have HE := hide (hE.later hb0)
  have HB := hide hb0
  have KD := hide (fun (X : World) (h : Er X ⟨nv, bv, .slice (some ⟨g, off, none⟩) dl dc, rv⟩ NM NS) => dec_any k (by omega) (by omega) X)
  rw [← hD] at KD
  obtain ⟨t0, t1, t2, t3⟩ := facts4 HH.out
  clear hE hb0 hi hg ht hl hL hD
  go_enter Tryz.func15, Tryz.ntmps15
  go_wp2_with fail
  refine (rank_any 1 (by decide) _).mono ?_
  rintro r U ⟨rfl, hU⟩
  have HX0 : Hid (HasC U (V.heap.size + 1) 39 (ndA ⟨1, 0, 0, 0, k, 0, 0, 0, 0⟩)) := hide (by
    rw [hU]
    have := HasC.new (V.alloc (.cells #[nv, bv, .slice (some ⟨g, off, none⟩) dl dc, rv] 26)) 39 (ndA ⟨1, 0, 0, 0, k, 0, 0, 0, 0⟩)
    rw [World.size_alloc] at this
    exact this)
  have hb1 : Below (V.alloc (.cells #[nv, bv, .slice (some ⟨g, off, none⟩) dl dc, rv] 26)).heap.size (V.alloc (.cells #[nv, bv, .slice (some ⟨g, off, none⟩) dl dc, rv] 26)) U := by
    rw [hU]; exact bel1 _ _
  have HE0 := hide (HE.out.later hb1)
  have HB0 := hide (bel HB.out hb1)
  have HT0 := hide (HH.out.below hb1)
  clear hU hb1 HE HB HH t0 t1 t2 t3 c0 c1 c2 c3 c4 c5 c6 c7 c8
  obtain ⟨t0, t1, t2, t3⟩ := facts4 HT0.out
  obtain ⟨c0, c1, c2, c3, c4, c5, c6, c7, c8⟩ := HX0.out.nine
  simp only at c0 c1 c2 c3 c4 c5 c6 c7 c8
  go_wp2_with fail
  refine (KD.out _ HE0.out).mono ?_
  rintro r U1 ⟨rfl, hb⟩
  have HE1 := hide (HE0.out.later hb)
  have HB1 := hide (bel HB0.out hb)
  have HT1 := hide (HT0.out.below hb)
  have HX1 := hide (HX0.out.below hb)
  clear hb HE0 HB0 HT0 HX0 KD t0 t1 t2 t3 c0 c1 c2 c3 c4 c5 c6 c7 c8
  obtain ⟨t0, t1, t2, t3⟩ := facts4 HT1.out
  obtain ⟨c0, c1, c2, c3, c4, c5, c6, c7, c8⟩ := HX1.out.nine
  simp only at c0 c1 c2 c3 c4 c5 c6 c7 c8
  go_wp2_with fail
  go_ret
  exact ⟨rfl, HB1.out⟩

set_option maxHeartbeats 8000000 in
set_option maxRecDepth 100000 in
theorem node_p1 {t : Tv} {NM : List Txt} {NS : List Nd} {x : Int} (x0 : -2147483647 ≤ x) (x1 : x ≤ 2147483647) (hl : (etx NM (.leaf ⟨3, 0, 0, 0, 0, 0, 1, x, 0⟩)).length ≤ 1048576) : NodeR t NM NS (.leaf ⟨3, 0, 0, 0, 0, 0, 1, x, 0⟩) := by
  intro V i hE hL
  have hi : NS[i]? = some _ := hL
  obtain ⟨nv, bv, dv, rv⟩ := t
  have ht : etx NM (.leaf ⟨3, 0, 0, 0, 0, 0, 1, x, 0⟩) = (([112, 40] ++ Lib.itoa x) ++ [41]) := by simp [etx, leafT, plT]
  obtain ⟨Dx, hDx⟩ := some_sB (Lib.itoa x)
  rw [ht] at hl
  obtain ⟨C1, hC1, aC1⟩ := cat (A := ⟨#[112, 40]⟩) (a := [112, 40]) rfl hDx (by simp only [List.length_append, List.length_cons, List.length_nil] at hl ⊢; omega)
  obtain ⟨C2, hC2, aC2⟩ := cat (B := ⟨#[41]⟩) (b := [41]) hC1 rfl (by simp only [List.length_append, List.length_cons, List.length_nil] at hl ⊢; omega)
  rw [ht, ← hC2]
  obtain ⟨g, off, dl, dc, hdv, hil, hdl, hdc, hat, hg⟩ := (hE.later (bel1 V (.cells #[nv, bv, dv, rv] 26))).node hi
  subst hdv
  have hb0 := bel1 V (.cells #[nv, bv, .slice (some ⟨g, off, none⟩) dl dc, rv] 26)
  obtain ⟨c0, c1, c2, c3, c4, c5, c6, c7, c8⟩ := hat
  simp only at c0 c1 c2 c3 c4 c5 c6 c7 c8
  have HH := hide (HasC.new V 26 #[nv, bv, .slice (some ⟨g, off, none⟩) dl dc, rv])
  have HE := hide (hE.later hb0)
  have HB := hide hb0
  have Kx := hide (fun (X : World) (h : Er X ⟨nv, bv, .slice (some ⟨g, off, none⟩) dl dc, rv⟩ NM NS) => dec_any x (by omega) (by omega) X)
  rw [← hDx] at Kx
  obtain ⟨t0, t1, t2, t3⟩ := facts4 HH.out
  clear hE hb0 hi hg ht hl hL hDx hC1 hC2
  go_enter Tryz.func15, Tryz.ntmps15
  go_wp2_with fail
  refine (rank_any 3 (by decide) _).mono ?_
  rintro r U ⟨rfl, hU⟩
  have HX0 : Hid (HasC U (V.heap.size + 1) 39 (ndA ⟨3, 0, 0, 0, 0, 0, 1, x, 0⟩)) := hide (by
    rw [hU]
    have := HasC.new (V.alloc (.cells #[nv, bv, .slice (some ⟨g, off, none⟩) dl dc, rv] 26)) 39 (ndA ⟨3, 0, 0, 0, 0, 0, 1, x, 0⟩)
    rw [World.size_alloc] at this
    exact this)
  have hb1 : Below (V.alloc (.cells #[nv, bv, .slice (some ⟨g, off, none⟩) dl dc, rv] 26)).heap.size (V.alloc (.cells #[nv, bv, .slice (some ⟨g, off, none⟩) dl dc, rv] 26)) U := by
    rw [hU]; exact bel1 _ _
  have HE0 := hide (HE.out.later hb1)
  have HB0 := hide (bel HB.out hb1)
  have HT0 := hide (HH.out.below hb1)
  clear hU hb1 HE HB HH t0 t1 t2 t3 c0 c1 c2 c3 c4 c5 c6 c7 c8
  obtain ⟨t0, t1, t2, t3⟩ := facts4 HT0.out
  obtain ⟨c0, c1, c2, c3, c4, c5, c6, c7, c8⟩ := HX0.out.nine
  simp only at c0 c1 c2 c3 c4 c5 c6 c7 c8
  go_wp2_with fail
  refine (Kx.out _ HE0.out).mono ?_
  rintro r U1 ⟨rfl, hb⟩
  have HE1 := hide (HE0.out.later hb)
  have HB1 := hide (bel HB0.out hb)
  have HT1 := hide (HT0.out.below hb)
  have HX1 := hide (HX0.out.below hb)
  clear hb HE0 HB0 HT0 HX0 Kx t0 t1 t2 t3 c0 c1 c2 c3 c4 c5 c6 c7 c8
  obtain ⟨t0, t1, t2, t3⟩ := facts4 HT1.out
  obtain ⟨c0, c1, c2, c3, c4, c5, c6, c7, c8⟩ := HX1.out.nine
  simp only at c0 c1 c2 c3 c4 c5 c6 c7 c8
  go_wp2_with fail
  go_ret
  exact ⟨rfl, HB1.out⟩

set_option maxHeartbeats 8000000 in
set_option maxRecDepth 100000 in
theorem node_p2 {t : Tv} {NM : List Txt} {NS : List Nd} {x y : Int} (x0 : -2147483647 ≤ x) (x1 : x ≤ 2147483647) (y0 : -2147483647 ≤ y) (y1 : y ≤ 2147483647) (hl : (etx NM (.leaf ⟨3, 0, 0, 0, 0, 0, 2, x, y⟩)).length ≤ 1048576) : NodeR t NM NS (.leaf ⟨3, 0, 0, 0, 0, 0, 2, x, y⟩) := by
  intro V i hE hL
  have hi : NS[i]? = some _ := hL
  obtain ⟨nv, bv, dv, rv⟩ := t
  have ht : etx NM (.leaf ⟨3, 0, 0, 0, 0, 0, 2, x, y⟩) = (((([112, 40] ++ Lib.itoa x) ++ [44]) ++ Lib.itoa y) ++ [41]) := by simp [etx, leafT, plT]
  obtain ⟨Dx, hDx⟩ := some_sB (Lib.itoa x)
  obtain ⟨Dy, hDy⟩ := some_sB (Lib.itoa y)
  rw [ht] at hl
  obtain ⟨C1, hC1, aC1⟩ := cat (A := ⟨#[112, 40]⟩) (a := [112, 40]) rfl hDx (by simp only [List.length_append, List.length_cons, List.length_nil] at hl ⊢; omega)
  obtain ⟨C2, hC2, aC2⟩ := cat (B := ⟨#[44]⟩) (b := [44]) hC1 rfl (by simp only [List.length_append, List.length_cons, List.length_nil] at hl ⊢; omega)
  obtain ⟨C3, hC3, aC3⟩ := cat hC2 hDy (by simp only [List.length_append, List.length_cons, List.length_nil] at hl ⊢; omega)
  obtain ⟨C4, hC4, aC4⟩ := cat (B := ⟨#[41]⟩) (b := [41]) hC3 rfl (by simp only [List.length_append, List.length_cons, List.length_nil] at hl ⊢; omega)
  rw [ht, ← hC4]
  obtain ⟨g, off, dl, dc, hdv, hil, hdl, hdc, hat, hg⟩ := (hE.later (bel1 V (.cells #[nv, bv, dv, rv] 26))).node hi
  subst hdv
  have hb0 := bel1 V (.cells #[nv, bv, .slice (some ⟨g, off, none⟩) dl dc, rv] 26)
  obtain ⟨c0, c1, c2, c3, c4, c5, c6, c7, c8⟩ := hat
  simp only at c0 c1 c2 c3 c4 c5 c6 c7 c8
  have HH := hide (HasC.new V 26 #[nv, bv, .slice (some ⟨g, off, none⟩) dl dc, rv])
  have HE := hide (hE.later hb0)
  have HB := hide hb0
  have Kx := hide (fun (X : World) (h : Er X ⟨nv, bv, .slice (some ⟨g, off, none⟩) dl dc, rv⟩ NM NS) => dec_any x (by omega) (by omega) X)
  rw [← hDx] at Kx
  have Ky := hide (fun (X : World) (h : Er X ⟨nv, bv, .slice (some ⟨g, off, none⟩) dl dc, rv⟩ NM NS) => dec_any y (by omega) (by omega) X)
  rw [← hDy] at Ky
  obtain ⟨t0, t1, t2, t3⟩ := facts4 HH.out
  clear hE hb0 hi hg ht hl hL hDx hDy hC1 hC2 hC3 hC4
  go_enter Tryz.func15, Tryz.ntmps15
  go_wp2_with fail
  refine (rank_any 3 (by decide) _).mono ?_
  rintro r U ⟨rfl, hU⟩
  have HX0 : Hid (HasC U (V.heap.size + 1) 39 (ndA ⟨3, 0, 0, 0, 0, 0, 2, x, y⟩)) := hide (by
    rw [hU]
    have := HasC.new (V.alloc (.cells #[nv, bv, .slice (some ⟨g, off, none⟩) dl dc, rv] 26)) 39 (ndA ⟨3, 0, 0, 0, 0, 0, 2, x, y⟩)
    rw [World.size_alloc] at this
    exact this)
  have hb1 : Below (V.alloc (.cells #[nv, bv, .slice (some ⟨g, off, none⟩) dl dc, rv] 26)).heap.size (V.alloc (.cells #[nv, bv, .slice (some ⟨g, off, none⟩) dl dc, rv] 26)) U := by
    rw [hU]; exact bel1 _ _
  have HE0 := hide (HE.out.later hb1)
  have HB0 := hide (bel HB.out hb1)
  have HT0 := hide (HH.out.below hb1)
  clear hU hb1 HE HB HH t0 t1 t2 t3 c0 c1 c2 c3 c4 c5 c6 c7 c8
  obtain ⟨t0, t1, t2, t3⟩ := facts4 HT0.out
  obtain ⟨c0, c1, c2, c3, c4, c5, c6, c7, c8⟩ := HX0.out.nine
  simp only at c0 c1 c2 c3 c4 c5 c6 c7 c8
  go_wp2_with fail
  refine (Kx.out _ HE0.out).mono ?_
  rintro r U1 ⟨rfl, hb⟩
  have HE1 := hide (HE0.out.later hb)
  have HB1 := hide (bel HB0.out hb)
  have HT1 := hide (HT0.out.below hb)
  have HX1 := hide (HX0.out.below hb)
  clear hb HE0 HB0 HT0 HX0 Kx t0 t1 t2 t3 c0 c1 c2 c3 c4 c5 c6 c7 c8
  obtain ⟨t0, t1, t2, t3⟩ := facts4 HT1.out
  obtain ⟨c0, c1, c2, c3, c4, c5, c6, c7, c8⟩ := HX1.out.nine
  simp only at c0 c1 c2 c3 c4 c5 c6 c7 c8
  go_wp2_with fail
  refine (Ky.out _ HE1.out).mono ?_
  rintro r U2 ⟨rfl, hb⟩
  have HE2 := hide (HE1.out.later hb)
  have HB2 := hide (bel HB1.out hb)
  have HT2 := hide (HT1.out.below hb)
  have HX2 := hide (HX1.out.below hb)
  clear hb HE1 HB1 HT1 HX1 Ky t0 t1 t2 t3 c0 c1 c2 c3 c4 c5 c6 c7 c8
  obtain ⟨t0, t1, t2, t3⟩ := facts4 HT2.out
  obtain ⟨c0, c1, c2, c3, c4, c5, c6, c7, c8⟩ := HX2.out.nine
  simp only at c0 c1 c2 c3 c4 c5 c6 c7 c8
  go_wp2_with fail
  go_ret
  exact ⟨rfl, HB2.out⟩

set_option maxHeartbeats 8000000 in
set_option maxRecDepth 100000 in
theorem node_q1 {t : Tv} {NM : List Txt} {NS : List Nd} {x back : Int} (b0 : 0 < back) (b1 : back ≤ 2147483647) (x0 : -2147483647 ≤ x) (x1 : x ≤ 2147483647) (hl : (etx NM (.leaf ⟨3, 0, 0, 0, 0, back, 1, x, 0⟩)).length ≤ 1048576) : NodeR t NM NS (.leaf ⟨3, 0, 0, 0, 0, back, 1, x, 0⟩) := by
  intro V i hE hL
  have hi : NS[i]? = some _ := hL
  obtain ⟨nv, bv, dv, rv⟩ := t
  have ht : etx NM (.leaf ⟨3, 0, 0, 0, 0, back, 1, x, 0⟩) = (((([113, 40] ++ Lib.itoa back) ++ [44]) ++ Lib.itoa x) ++ [41]) := by simp [etx, leafT, plT, show back ≠ 0 by omega]
  obtain ⟨Db, hDb⟩ := some_sB (Lib.itoa back)
  obtain ⟨Dx, hDx⟩ := some_sB (Lib.itoa x)
  rw [ht] at hl
  obtain ⟨C1, hC1, aC1⟩ := cat (A := ⟨#[113, 40]⟩) (a := [113, 40]) rfl hDb (by simp only [List.length_append, List.length_cons, List.length_nil] at hl ⊢; omega)
  obtain ⟨C2, hC2, aC2⟩ := cat (B := ⟨#[44]⟩) (b := [44]) hC1 rfl (by simp only [List.length_append, List.length_cons, List.length_nil] at hl ⊢; omega)
  obtain ⟨C3, hC3, aC3⟩ := cat hC2 hDx (by simp only [List.length_append, List.length_cons, List.length_nil] at hl ⊢; omega)
  obtain ⟨C4, hC4, aC4⟩ := cat (B := ⟨#[41]⟩) (b := [41]) hC3 rfl (by simp only [List.length_append, List.length_cons, List.length_nil] at hl ⊢; omega)
  rw [ht, ← hC4]
  obtain ⟨g, off, dl, dc, hdv, hil, hdl, hdc, hat, hg⟩ := (hE.later (bel1 V (.cells #[nv, bv, dv, rv] 26))).node hi
  subst hdv
  have hb0 := bel1 V (.cells #[nv, bv, .slice (some ⟨g, off, none⟩) dl dc, rv] 26)
  obtain ⟨c0, c1, c2, c3, c4, c5, c6, c7, c8⟩ := hat
  simp only at c0 c1 c2 c3 c4 c5 c6 c7 c8
  have HH := hide (HasC.new V 26 #[nv, bv, .slice (some ⟨g, off, none⟩) dl dc, rv])
  have HE := hide (hE.later hb0)
  have HB := hide hb0
  have Kb := hide (fun (X : World) (h : Er X ⟨nv, bv, .slice (some ⟨g, off, none⟩) dl dc, rv⟩ NM NS) => dec_any back (by omega) (by omega) X)
  rw [← hDb] at Kb
  have Kx := hide (fun (X : World) (h : Er X ⟨nv, bv, .slice (some ⟨g, off, none⟩) dl dc, rv⟩ NM NS) => dec_any x (by omega) (by omega) X)
  rw [← hDx] at Kx
  obtain ⟨t0, t1, t2, t3⟩ := facts4 HH.out
  clear hE hb0 hi hg ht hl hL hDb hDx hC1 hC2 hC3 hC4
  go_enter Tryz.func15, Tryz.ntmps15
  go_wp2_with fail
  refine (rank_any 3 (by decide) _).mono ?_
  rintro r U ⟨rfl, hU⟩
  have HX0 : Hid (HasC U (V.heap.size + 1) 39 (ndA ⟨3, 0, 0, 0, 0, back, 1, x, 0⟩)) := hide (by
    rw [hU]
    have := HasC.new (V.alloc (.cells #[nv, bv, .slice (some ⟨g, off, none⟩) dl dc, rv] 26)) 39 (ndA ⟨3, 0, 0, 0, 0, back, 1, x, 0⟩)
    rw [World.size_alloc] at this
    exact this)
  have hb1 : Below (V.alloc (.cells #[nv, bv, .slice (some ⟨g, off, none⟩) dl dc, rv] 26)).heap.size (V.alloc (.cells #[nv, bv, .slice (some ⟨g, off, none⟩) dl dc, rv] 26)) U := by
    rw [hU]; exact bel1 _ _
  have HE0 := hide (HE.out.later hb1)
  have HB0 := hide (bel HB.out hb1)
  have HT0 := hide (HH.out.below hb1)
  clear hU hb1 HE HB HH t0 t1 t2 t3 c0 c1 c2 c3 c4 c5 c6 c7 c8
  obtain ⟨t0, t1, t2, t3⟩ := facts4 HT0.out
  obtain ⟨c0, c1, c2, c3, c4, c5, c6, c7, c8⟩ := HX0.out.nine
  simp only at c0 c1 c2 c3 c4 c5 c6 c7 c8
  go_wp2_with fail
  refine (Kb.out _ HE0.out).mono ?_
  rintro r U1 ⟨rfl, hb⟩
  have HE1 := hide (HE0.out.later hb)
  have HB1 := hide (bel HB0.out hb)
  have HT1 := hide (HT0.out.below hb)
  have HX1 := hide (HX0.out.below hb)
  clear hb HE0 HB0 HT0 HX0 Kb t0 t1 t2 t3 c0 c1 c2 c3 c4 c5 c6 c7 c8
  obtain ⟨t0, t1, t2, t3⟩ := facts4 HT1.out
  obtain ⟨c0, c1, c2, c3, c4, c5, c6, c7, c8⟩ := HX1.out.nine
  simp only at c0 c1 c2 c3 c4 c5 c6 c7 c8
  go_wp2_with fail
  refine (Kx.out _ HE1.out).mono ?_
  rintro r U2 ⟨rfl, hb⟩
  have HE2 := hide (HE1.out.later hb)
  have HB2 := hide (bel HB1.out hb)
  have HT2 := hide (HT1.out.below hb)
  have HX2 := hide (HX1.out.below hb)
  clear hb HE1 HB1 HT1 HX1 Kx t0 t1 t2 t3 c0 c1 c2 c3 c4 c5 c6 c7 c8
  obtain ⟨t0, t1, t2, t3⟩ := facts4 HT2.out
  obtain ⟨c0, c1, c2, c3, c4, c5, c6, c7, c8⟩ := HX2.out.nine
  simp only at c0 c1 c2 c3 c4 c5 c6 c7 c8
  go_wp2_with fail
  go_ret
  exact ⟨rfl, HB2.out⟩

set_option maxHeartbeats 8000000 in
set_option maxRecDepth 100000 in
theorem node_q2 {t : Tv} {NM : List Txt} {NS : List Nd} {x back y : Int} (b0 : 0 < back) (b1 : back ≤ 2147483647) (x0 : -2147483647 ≤ x) (x1 : x ≤ 2147483647) (y0 : -2147483647 ≤ y) (y1 : y ≤ 2147483647) (hl : (etx NM (.leaf ⟨3, 0, 0, 0, 0, back, 2, x, y⟩)).length ≤ 1048576) : NodeR t NM NS (.leaf ⟨3, 0, 0, 0, 0, back, 2, x, y⟩) := by
  intro V i hE hL
  have hi : NS[i]? = some _ := hL
  obtain ⟨nv, bv, dv, rv⟩ := t
  have ht : etx NM (.leaf ⟨3, 0, 0, 0, 0, back, 2, x, y⟩) = (((((([113, 40] ++ Lib.itoa back) ++ [44]) ++ Lib.itoa x) ++ [44]) ++ Lib.itoa y) ++ [41]) := by simp [etx, leafT, plT, show back ≠ 0 by omega]
  obtain ⟨Db, hDb⟩ := some_sB (Lib.itoa back)
  obtain ⟨Dx, hDx⟩ := some_sB (Lib.itoa x)
  obtain ⟨Dy, hDy⟩ := some_sB (Lib.itoa y)
  rw [ht] at hl
  obtain ⟨C1, hC1, aC1⟩ := cat (A := ⟨#[113, 40]⟩) (a := [113, 40]) rfl hDb (by simp only [List.length_append, List.length_cons, List.length_nil] at hl ⊢; omega)
  obtain ⟨C2, hC2, aC2⟩ := cat (B := ⟨#[44]⟩) (b := [44]) hC1 rfl (by simp only [List.length_append, List.length_cons, List.length_nil] at hl ⊢; omega)
  obtain ⟨C3, hC3, aC3⟩ := cat hC2 hDx (by simp only [List.length_append, List.length_cons, List.length_nil] at hl ⊢; omega)
  obtain ⟨C4, hC4, aC4⟩ := cat (B := ⟨#[44]⟩) (b := [44]) hC3 rfl (by simp only [List.length_append, List.length_cons, List.length_nil] at hl ⊢; omega)
  obtain ⟨C5, hC5, aC5⟩ := cat hC4 hDy (by simp only [List.length_append, List.length_cons, List.length_nil] at hl ⊢; omega)
  obtain ⟨C6, hC6, aC6⟩ := cat (B := ⟨#[41]⟩) (b := [41]) hC5 rfl (by simp only [List.length_append, List.length_cons, List.length_nil] at hl ⊢; omega)
  rw [ht, ← hC6]
  obtain ⟨g, off, dl, dc, hdv, hil, hdl, hdc, hat, hg⟩ := (hE.later (bel1 V (.cells #[nv, bv, dv, rv] 26))).node hi
  subst hdv
  have hb0 := bel1 V (.cells #[nv, bv, .slice (some ⟨g, off, none⟩) dl dc, rv] 26)
  obtain ⟨c0, c1, c2, c3, c4, c5, c6, c7, c8⟩ := hat
  simp only at c0 c1 c2 c3 c4 c5 c6 c7 c8
  have HH := hide (HasC.new V 26 #[nv, bv, .slice (some ⟨g, off, none⟩) dl dc, rv])
  have HE := hide (hE.later hb0)
  have HB := hide hb0
  have Kb := hide (fun (X : World) (h : Er X ⟨nv, bv, .slice (some ⟨g, off, none⟩) dl dc, rv⟩ NM NS) => dec_any back (by omega) (by omega) X)
  rw [← hDb] at Kb
  have Kx := hide (fun (X : World) (h : Er X ⟨nv, bv, .slice (some ⟨g, off, none⟩) dl dc, rv⟩ NM NS) => dec_any x (by omega) (by omega) X)
  rw [← hDx] at Kx
  have Ky := hide (fun (X : World) (h : Er X ⟨nv, bv, .slice (some ⟨g, off, none⟩) dl dc, rv⟩ NM NS) => dec_any y (by omega) (by omega) X)
  rw [← hDy] at Ky
  obtain ⟨t0, t1, t2, t3⟩ := facts4 HH.out
  clear hE hb0 hi hg ht hl hL hDb hDx hDy hC1 hC2 hC3 hC4 hC5 hC6
  go_enter Tryz.func15, Tryz.ntmps15
  go_wp2_with fail
  refine (rank_any 3 (by decide) _).mono ?_
  rintro r U ⟨rfl, hU⟩
  have HX0 : Hid (HasC U (V.heap.size + 1) 39 (ndA ⟨3, 0, 0, 0, 0, back, 2, x, y⟩)) := hide (by
    rw [hU]
    have := HasC.new (V.alloc (.cells #[nv, bv, .slice (some ⟨g, off, none⟩) dl dc, rv] 26)) 39 (ndA ⟨3, 0, 0, 0, 0, back, 2, x, y⟩)
    rw [World.size_alloc] at this
    exact this)
  have hb1 : Below (V.alloc (.cells #[nv, bv, .slice (some ⟨g, off, none⟩) dl dc, rv] 26)).heap.size (V.alloc (.cells #[nv, bv, .slice (some ⟨g, off, none⟩) dl dc, rv] 26)) U := by
    rw [hU]; exact bel1 _ _
  have HE0 := hide (HE.out.later hb1)
  have HB0 := hide (bel HB.out hb1)
  have HT0 := hide (HH.out.below hb1)
  clear hU hb1 HE HB HH t0 t1 t2 t3 c0 c1 c2 c3 c4 c5 c6 c7 c8
  obtain ⟨t0, t1, t2, t3⟩ := facts4 HT0.out
  obtain ⟨c0, c1, c2, c3, c4, c5, c6, c7, c8⟩ := HX0.out.nine
  simp only at c0 c1 c2 c3 c4 c5 c6 c7 c8
  go_wp2_with fail
  refine (Kb.out _ HE0.out).mono ?_
  rintro r U1 ⟨rfl, hb⟩
  have HE1 := hide (HE0.out.later hb)
  have HB1 := hide (bel HB0.out hb)
  have HT1 := hide (HT0.out.below hb)
  have HX1 := hide (HX0.out.below hb)
  clear hb HE0 HB0 HT0 HX0 Kb t0 t1 t2 t3 c0 c1 c2 c3 c4 c5 c6 c7 c8
  obtain ⟨t0, t1, t2, t3⟩ := facts4 HT1.out
  obtain ⟨c0, c1, c2, c3, c4, c5, c6, c7, c8⟩ := HX1.out.nine
  simp only at c0 c1 c2 c3 c4 c5 c6 c7 c8
  go_wp2_with fail
  refine (Kx.out _ HE1.out).mono ?_
  rintro r U2 ⟨rfl, hb⟩
  have HE2 := hide (HE1.out.later hb)
  have HB2 := hide (bel HB1.out hb)
  have HT2 := hide (HT1.out.below hb)
  have HX2 := hide (HX1.out.below hb)
  clear hb HE1 HB1 HT1 HX1 Kx t0 t1 t2 t3 c0 c1 c2 c3 c4 c5 c6 c7 c8
  obtain ⟨t0, t1, t2, t3⟩ := facts4 HT2.out
  obtain ⟨c0, c1, c2, c3, c4, c5, c6, c7, c8⟩ := HX2.out.nine
  simp only at c0 c1 c2 c3 c4 c5 c6 c7 c8
  go_wp2_with fail
  refine (Ky.out _ HE2.out).mono ?_
  rintro r U3 ⟨rfl, hb⟩
  have HE3 := hide (HE2.out.later hb)
  have HB3 := hide (bel HB2.out hb)
  have HT3 := hide (HT2.out.below hb)
  have HX3 := hide (HX2.out.below hb)
  clear hb HE2 HB2 HT2 HX2 Ky t0 t1 t2 t3 c0 c1 c2 c3 c4 c5 c6 c7 c8
  obtain ⟨t0, t1, t2, t3⟩ := facts4 HT3.out
  obtain ⟨c0, c1, c2, c3, c4, c5, c6, c7, c8⟩ := HX3.out.nine
  simp only at c0 c1 c2 c3 c4 c5 c6 c7 c8
  go_wp2_with fail
  go_ret
  exact ⟨rfl, HB3.out⟩

set_option maxHeartbeats 8000000 in
set_option maxRecDepth 100000 in
theorem node_use {t : Tv} {NM : List Txt} {NS : List Nd} {k : Nat} (hk : k < NM.length) (hl : (etx NM (.leaf ⟨4, 0, 0, 0, (k : Int), 0, 0, 0, 0⟩)).length ≤ 1048576) : NodeR t NM NS (.leaf ⟨4, 0, 0, 0, (k : Int), 0, 0, 0, 0⟩) := by
  intro V i hE hL
  have hi : NS[i]? = some _ := hL
  obtain ⟨nv, bv, dv, rv⟩ := t
  have ht : etx NM (.leaf ⟨4, 0, 0, 0, (k : Int), 0, 0, 0, 0⟩) = NM.getD k [] := by simp [etx, leafT]
  obtain ⟨D, hD⟩ := some_sB (NM.getD k [])
  rw [ht, ← hD]
  obtain ⟨g, off, dl, dc, hdv, hil, hdl, hdc, hat, hg⟩ := (hE.later (bel1 V (.cells #[nv, bv, dv, rv] 26))).node hi
  subst hdv
  obtain ⟨g2, o2, nl, nc, hnv, hkl, hnl, hnc, hcell⟩ := (hE.later (bel1 V (.cells #[nv, bv, .slice (some ⟨g, off, none⟩) dl dc, rv] 26))).name hk
  subst hnv
  rw [← hD] at hcell
  have hb0 := bel1 V (.cells #[.slice (some ⟨g2, o2, none⟩) nl nc, bv, .slice (some ⟨g, off, none⟩) dl dc, rv] 26)
  obtain ⟨c0, c1, c2, c3, c4, c5, c6, c7, c8⟩ := hat
  simp only at c0 c1 c2 c3 c4 c5 c6 c7 c8
  have HH := hide (HasC.new V 26 #[.slice (some ⟨g2, o2, none⟩) nl nc, bv, .slice (some ⟨g, off, none⟩) dl dc, rv])
  have HE := hide (hE.later hb0)
  have HB := hide hb0
  obtain ⟨t0, t1, t2, t3⟩ := facts4 HH.out
  clear hE hb0 hi hg ht hl hL hD
  go_enter Tryz.func15, Tryz.ntmps15
  go_wp2_with fail
  refine (rank_any 4 (by decide) _).mono ?_
  rintro r U ⟨rfl, hU⟩
  have HX0 : Hid (HasC U (V.heap.size + 1) 39 (ndA ⟨4, 0, 0, 0, (k : Int), 0, 0, 0, 0⟩)) := hide (by
    rw [hU]
    have := HasC.new (V.alloc (.cells #[.slice (some ⟨g2, o2, none⟩) nl nc, bv, .slice (some ⟨g, off, none⟩) dl dc, rv] 26)) 39 (ndA ⟨4, 0, 0, 0, (k : Int), 0, 0, 0, 0⟩)
    rw [World.size_alloc] at this
    exact this)
  have hb1 : Below (V.alloc (.cells #[.slice (some ⟨g2, o2, none⟩) nl nc, bv, .slice (some ⟨g, off, none⟩) dl dc, rv] 26)).heap.size (V.alloc (.cells #[.slice (some ⟨g2, o2, none⟩) nl nc, bv, .slice (some ⟨g, off, none⟩) dl dc, rv] 26)) U := by
    rw [hU]; exact bel1 _ _
  have HE0 := hide (HE.out.later hb1)
  have HB0 := hide (bel HB.out hb1)
  have HT0 := hide (HH.out.below hb1)
  have hcl := below_cell hb1 hcell
  clear hcell
  clear hU hb1 HE HB HH t0 t1 t2 t3 c0 c1 c2 c3 c4 c5 c6 c7 c8
  obtain ⟨t0, t1, t2, t3⟩ := facts4 HT0.out
  obtain ⟨c0, c1, c2, c3, c4, c5, c6, c7, c8⟩ := HX0.out.nine
  simp only at c0 c1 c2 c3 c4 c5 c6 c7 c8
  go_wp2_with fail
  go_ret
  exact ⟨rfl, HB0.out⟩

set_option maxHeartbeats 8000000 in
set_option maxRecDepth 100000 in
theorem node_in0 {t : Tv} {NM : List Txt} {NS : List Nd} (hl : (etx NM (.leaf ⟨2, 0, 0, 0, 0, 0, 0, 0, 0⟩)).length ≤ 1048576) : NodeR t NM NS (.leaf ⟨2, 0, 0, 0, 0, 0, 0, 0, 0⟩) := by
  intro V i hE hL
  have hi : NS[i]? = some _ := hL
  obtain ⟨nv, bv, dv, rv⟩ := t
  have ht : etx NM (.leaf ⟨2, 0, 0, 0, 0, 0, 0, 0, 0⟩) = [120] := by simp [etx, leafT, inTx]
  obtain ⟨D, hD⟩ := some_sB ([120])
  rw [ht, ← hD]
  obtain ⟨g, off, dl, dc, hdv, hil, hdl, hdc, hat, hg⟩ := (hE.later (bel1 V (.cells #[nv, bv, dv, rv] 26))).node hi
  subst hdv
  have hb0 := bel1 V (.cells #[nv, bv, .slice (some ⟨g, off, none⟩) dl dc, rv] 26)
  obtain ⟨c0, c1, c2, c3, c4, c5, c6, c7, c8⟩ := hat
  simp only at c0 c1 c2 c3 c4 c5 c6 c7 c8
  have HH := hide (HasC.new V 26 #[nv, bv, .slice (some ⟨g, off, none⟩) dl dc, rv])
  have HE := hide (hE.later hb0)
  have HB := hide hb0
  obtain ⟨t0, t1, t2, t3⟩ := facts4 HH.out
  clear hE hb0 hi hg ht hl hL
  go_enter Tryz.func15, Tryz.ntmps15
  go_wp2_with fail
  refine (rank_any 2 (by decide) _).mono ?_
  rintro r U ⟨rfl, hU⟩
  have HX0 : Hid (HasC U (V.heap.size + 1) 39 (ndA ⟨2, 0, 0, 0, 0, 0, 0, 0, 0⟩)) := hide (by
    rw [hU]
    have := HasC.new (V.alloc (.cells #[nv, bv, .slice (some ⟨g, off, none⟩) dl dc, rv] 26)) 39 (ndA ⟨2, 0, 0, 0, 0, 0, 0, 0, 0⟩)
    rw [World.size_alloc] at this
    exact this)
  have hb1 : Below (V.alloc (.cells #[nv, bv, .slice (some ⟨g, off, none⟩) dl dc, rv] 26)).heap.size (V.alloc (.cells #[nv, bv, .slice (some ⟨g, off, none⟩) dl dc, rv] 26)) U := by
    rw [hU]; exact bel1 _ _
  have HE0 := hide (HE.out.later hb1)
  have HB0 := hide (bel HB.out hb1)
  have HT0 := hide (HH.out.below hb1)
  have d4 := ((HX0.out.alloc (.cells insC 9)).nine).2.2.2.2.1
  simp only at d4
  have dn := (HasC.new U 9 insC).cell 0 rfl
  clear hU hb1 HE HB HH t0 t1 t2 t3 c0 c1 c2 c3 c4 c5 c6 c7 c8
  obtain ⟨t0, t1, t2, t3⟩ := facts4 HT0.out
  obtain ⟨c0, c1, c2, c3, c4, c5, c6, c7, c8⟩ := HX0.out.nine
  simp only at c0 c1 c2 c3 c4 c5 c6 c7 c8
  go_wp2_with fail
  go_ret
  exact ⟨by rw [hD]; rfl, bel HB0.out (bel1 _ _)⟩

set_option maxHeartbeats 8000000 in
set_option maxRecDepth 100000 in
theorem node_in1 {t : Tv} {NM : List Txt} {NS : List Nd} (hl : (etx NM (.leaf ⟨2, 0, 0, 0, 1, 0, 0, 0, 0⟩)).length ≤ 1048576) : NodeR t NM NS (.leaf ⟨2, 0, 0, 0, 1, 0, 0, 0, 0⟩) := by
  intro V i hE hL
  have hi : NS[i]? = some _ := hL
  obtain ⟨nv, bv, dv, rv⟩ := t
  have ht : etx NM (.leaf ⟨2, 0, 0, 0, 1, 0, 0, 0, 0⟩) = [121] := by simp [etx, leafT, inTx]
  obtain ⟨D, hD⟩ := some_sB ([121])
  rw [ht, ← hD]
  obtain ⟨g, off, dl, dc, hdv, hil, hdl, hdc, hat, hg⟩ := (hE.later (bel1 V (.cells #[nv, bv, dv, rv] 26))).node hi
  subst hdv
  have hb0 := bel1 V (.cells #[nv, bv, .slice (some ⟨g, off, none⟩) dl dc, rv] 26)
  obtain ⟨c0, c1, c2, c3, c4, c5, c6, c7, c8⟩ := hat
  simp only at c0 c1 c2 c3 c4 c5 c6 c7 c8
  have HH := hide (HasC.new V 26 #[nv, bv, .slice (some ⟨g, off, none⟩) dl dc, rv])
  have HE := hide (hE.later hb0)
  have HB := hide hb0
  obtain ⟨t0, t1, t2, t3⟩ := facts4 HH.out
  clear hE hb0 hi hg ht hl hL
  go_enter Tryz.func15, Tryz.ntmps15
  go_wp2_with fail
  refine (rank_any 2 (by decide) _).mono ?_
  rintro r U ⟨rfl, hU⟩
  have HX0 : Hid (HasC U (V.heap.size + 1) 39 (ndA ⟨2, 0, 0, 0, 1, 0, 0, 0, 0⟩)) := hide (by
    rw [hU]
    have := HasC.new (V.alloc (.cells #[nv, bv, .slice (some ⟨g, off, none⟩) dl dc, rv] 26)) 39 (ndA ⟨2, 0, 0, 0, 1, 0, 0, 0, 0⟩)
    rw [World.size_alloc] at this
    exact this)
  have hb1 : Below (V.alloc (.cells #[nv, bv, .slice (some ⟨g, off, none⟩) dl dc, rv] 26)).heap.size (V.alloc (.cells #[nv, bv, .slice (some ⟨g, off, none⟩) dl dc, rv] 26)) U := by
    rw [hU]; exact bel1 _ _
  have HE0 := hide (HE.out.later hb1)
  have HB0 := hide (bel HB.out hb1)
  have HT0 := hide (HH.out.below hb1)
  have d4 := ((HX0.out.alloc (.cells insC 9)).nine).2.2.2.2.1
  simp only at d4
  have dn := (HasC.new U 9 insC).cell 1 rfl
  clear hU hb1 HE HB HH t0 t1 t2 t3 c0 c1 c2 c3 c4 c5 c6 c7 c8
  obtain ⟨t0, t1, t2, t3⟩ := facts4 HT0.out
  obtain ⟨c0, c1, c2, c3, c4, c5, c6, c7, c8⟩ := HX0.out.nine
  simp only at c0 c1 c2 c3 c4 c5 c6 c7 c8
  go_wp2_with fail
  go_ret
  exact ⟨by rw [hD]; rfl, bel HB0.out (bel1 _ _)⟩

set_option maxHeartbeats 8000000 in
set_option maxRecDepth 100000 in
theorem node_in2 {t : Tv} {NM : List Txt} {NS : List Nd} (hl : (etx NM (.leaf ⟨2, 0, 0, 0, 2, 0, 0, 0, 0⟩)).length ≤ 1048576) : NodeR t NM NS (.leaf ⟨2, 0, 0, 0, 2, 0, 0, 0, 0⟩) := by
  intro V i hE hL
  have hi : NS[i]? = some _ := hL
  obtain ⟨nv, bv, dv, rv⟩ := t
  have ht : etx NM (.leaf ⟨2, 0, 0, 0, 2, 0, 0, 0, 0⟩) = [99] := by simp [etx, leafT, inTx]
  obtain ⟨D, hD⟩ := some_sB ([99])
  rw [ht, ← hD]
  obtain ⟨g, off, dl, dc, hdv, hil, hdl, hdc, hat, hg⟩ := (hE.later (bel1 V (.cells #[nv, bv, dv, rv] 26))).node hi
  subst hdv
  have hb0 := bel1 V (.cells #[nv, bv, .slice (some ⟨g, off, none⟩) dl dc, rv] 26)
  obtain ⟨c0, c1, c2, c3, c4, c5, c6, c7, c8⟩ := hat
  simp only at c0 c1 c2 c3 c4 c5 c6 c7 c8
  have HH := hide (HasC.new V 26 #[nv, bv, .slice (some ⟨g, off, none⟩) dl dc, rv])
  have HE := hide (hE.later hb0)
  have HB := hide hb0
  obtain ⟨t0, t1, t2, t3⟩ := facts4 HH.out
  clear hE hb0 hi hg ht hl hL
  go_enter Tryz.func15, Tryz.ntmps15
  go_wp2_with fail
  refine (rank_any 2 (by decide) _).mono ?_
  rintro r U ⟨rfl, hU⟩
  have HX0 : Hid (HasC U (V.heap.size + 1) 39 (ndA ⟨2, 0, 0, 0, 2, 0, 0, 0, 0⟩)) := hide (by
    rw [hU]
    have := HasC.new (V.alloc (.cells #[nv, bv, .slice (some ⟨g, off, none⟩) dl dc, rv] 26)) 39 (ndA ⟨2, 0, 0, 0, 2, 0, 0, 0, 0⟩)
    rw [World.size_alloc] at this
    exact this)
  have hb1 : Below (V.alloc (.cells #[nv, bv, .slice (some ⟨g, off, none⟩) dl dc, rv] 26)).heap.size (V.alloc (.cells #[nv, bv, .slice (some ⟨g, off, none⟩) dl dc, rv] 26)) U := by
    rw [hU]; exact bel1 _ _
  have HE0 := hide (HE.out.later hb1)
  have HB0 := hide (bel HB.out hb1)
  have HT0 := hide (HH.out.below hb1)
  have d4 := ((HX0.out.alloc (.cells insC 9)).nine).2.2.2.2.1
  simp only at d4
  have dn := (HasC.new U 9 insC).cell 2 rfl
  clear hU hb1 HE HB HH t0 t1 t2 t3 c0 c1 c2 c3 c4 c5 c6 c7 c8
  obtain ⟨t0, t1, t2, t3⟩ := facts4 HT0.out
  obtain ⟨c0, c1, c2, c3, c4, c5, c6, c7, c8⟩ := HX0.out.nine
  simp only at c0 c1 c2 c3 c4 c5 c6 c7 c8
  go_wp2_with fail
  go_ret
  exact ⟨by rw [hD]; rfl, bel HB0.out (bel1 _ _)⟩

set_option maxHeartbeats 8000000 in
set_option maxRecDepth 100000 in
theorem node_in3 {t : Tv} {NM : List Txt} {NS : List Nd} (hl : (etx NM (.leaf ⟨2, 0, 0, 0, 3, 0, 0, 0, 0⟩)).length ≤ 1048576) : NodeR t NM NS (.leaf ⟨2, 0, 0, 0, 3, 0, 0, 0, 0⟩) := by
  intro V i hE hL
  have hi : NS[i]? = some _ := hL
  obtain ⟨nv, bv, dv, rv⟩ := t
  have ht : etx NM (.leaf ⟨2, 0, 0, 0, 3, 0, 0, 0, 0⟩) = [108, 111] := by simp [etx, leafT, inTx]
  obtain ⟨D, hD⟩ := some_sB ([108, 111])
  rw [ht, ← hD]
  obtain ⟨g, off, dl, dc, hdv, hil, hdl, hdc, hat, hg⟩ := (hE.later (bel1 V (.cells #[nv, bv, dv, rv] 26))).node hi
  subst hdv
  have hb0 := bel1 V (.cells #[nv, bv, .slice (some ⟨g, off, none⟩) dl dc, rv] 26)
  obtain ⟨c0, c1, c2, c3, c4, c5, c6, c7, c8⟩ := hat
  simp only at c0 c1 c2 c3 c4 c5 c6 c7 c8
  have HH := hide (HasC.new V 26 #[nv, bv, .slice (some ⟨g, off, none⟩) dl dc, rv])
  have HE := hide (hE.later hb0)
  have HB := hide hb0
  obtain ⟨t0, t1, t2, t3⟩ := facts4 HH.out
  clear hE hb0 hi hg ht hl hL
  go_enter Tryz.func15, Tryz.ntmps15
  go_wp2_with fail
  refine (rank_any 2 (by decide) _).mono ?_
  rintro r U ⟨rfl, hU⟩
  have HX0 : Hid (HasC U (V.heap.size + 1) 39 (ndA ⟨2, 0, 0, 0, 3, 0, 0, 0, 0⟩)) := hide (by
    rw [hU]
    have := HasC.new (V.alloc (.cells #[nv, bv, .slice (some ⟨g, off, none⟩) dl dc, rv] 26)) 39 (ndA ⟨2, 0, 0, 0, 3, 0, 0, 0, 0⟩)
    rw [World.size_alloc] at this
    exact this)
  have hb1 : Below (V.alloc (.cells #[nv, bv, .slice (some ⟨g, off, none⟩) dl dc, rv] 26)).heap.size (V.alloc (.cells #[nv, bv, .slice (some ⟨g, off, none⟩) dl dc, rv] 26)) U := by
    rw [hU]; exact bel1 _ _
  have HE0 := hide (HE.out.later hb1)
  have HB0 := hide (bel HB.out hb1)
  have HT0 := hide (HH.out.below hb1)
  have d4 := ((HX0.out.alloc (.cells insC 9)).nine).2.2.2.2.1
  simp only at d4
  have dn := (HasC.new U 9 insC).cell 3 rfl
  clear hU hb1 HE HB HH t0 t1 t2 t3 c0 c1 c2 c3 c4 c5 c6 c7 c8
  obtain ⟨t0, t1, t2, t3⟩ := facts4 HT0.out
  obtain ⟨c0, c1, c2, c3, c4, c5, c6, c7, c8⟩ := HX0.out.nine
  simp only at c0 c1 c2 c3 c4 c5 c6 c7 c8
  go_wp2_with fail
  go_ret
  exact ⟨by rw [hD]; rfl, bel HB0.out (bel1 _ _)⟩

set_option maxHeartbeats 8000000 in
set_option maxRecDepth 100000 in
theorem node_in4 {t : Tv} {NM : List Txt} {NS : List Nd} (hl : (etx NM (.leaf ⟨2, 0, 0, 0, 4, 0, 0, 0, 0⟩)).length ≤ 1048576) : NodeR t NM NS (.leaf ⟨2, 0, 0, 0, 4, 0, 0, 0, 0⟩) := by
  intro V i hE hL
  have hi : NS[i]? = some _ := hL
  obtain ⟨nv, bv, dv, rv⟩ := t
  have ht : etx NM (.leaf ⟨2, 0, 0, 0, 4, 0, 0, 0, 0⟩) = [104, 105] := by simp [etx, leafT, inTx]
  obtain ⟨D, hD⟩ := some_sB ([104, 105])
  rw [ht, ← hD]
  obtain ⟨g, off, dl, dc, hdv, hil, hdl, hdc, hat, hg⟩ := (hE.later (bel1 V (.cells #[nv, bv, dv, rv] 26))).node hi
  subst hdv
  have hb0 := bel1 V (.cells #[nv, bv, .slice (some ⟨g, off, none⟩) dl dc, rv] 26)
  obtain ⟨c0, c1, c2, c3, c4, c5, c6, c7, c8⟩ := hat
  simp only at c0 c1 c2 c3 c4 c5 c6 c7 c8
  have HH := hide (HasC.new V 26 #[nv, bv, .slice (some ⟨g, off, none⟩) dl dc, rv])
  have HE := hide (hE.later hb0)
  have HB := hide hb0
  obtain ⟨t0, t1, t2, t3⟩ := facts4 HH.out
  clear hE hb0 hi hg ht hl hL
  go_enter Tryz.func15, Tryz.ntmps15
  go_wp2_with fail
  refine (rank_any 2 (by decide) _).mono ?_
  rintro r U ⟨rfl, hU⟩
  have HX0 : Hid (HasC U (V.heap.size + 1) 39 (ndA ⟨2, 0, 0, 0, 4, 0, 0, 0, 0⟩)) := hide (by
    rw [hU]
    have := HasC.new (V.alloc (.cells #[nv, bv, .slice (some ⟨g, off, none⟩) dl dc, rv] 26)) 39 (ndA ⟨2, 0, 0, 0, 4, 0, 0, 0, 0⟩)
    rw [World.size_alloc] at this
    exact this)
  have hb1 : Below (V.alloc (.cells #[nv, bv, .slice (some ⟨g, off, none⟩) dl dc, rv] 26)).heap.size (V.alloc (.cells #[nv, bv, .slice (some ⟨g, off, none⟩) dl dc, rv] 26)) U := by
    rw [hU]; exact bel1 _ _
  have HE0 := hide (HE.out.later hb1)
  have HB0 := hide (bel HB.out hb1)
  have HT0 := hide (HH.out.below hb1)
  have d4 := ((HX0.out.alloc (.cells insC 9)).nine).2.2.2.2.1
  simp only at d4
  have dn := (HasC.new U 9 insC).cell 4 rfl
  clear hU hb1 HE HB HH t0 t1 t2 t3 c0 c1 c2 c3 c4 c5 c6 c7 c8
  obtain ⟨t0, t1, t2, t3⟩ := facts4 HT0.out
  obtain ⟨c0, c1, c2, c3, c4, c5, c6, c7, c8⟩ := HX0.out.nine
  simp only at c0 c1 c2 c3 c4 c5 c6 c7 c8
  go_wp2_with fail
  go_ret
  exact ⟨by rw [hD]; rfl, bel HB0.out (bel1 _ _)⟩

set_option maxHeartbeats 8000000 in
set_option maxRecDepth 100000 in
theorem node_in5 {t : Tv} {NM : List Txt} {NS : List Nd} (hl : (etx NM (.leaf ⟨2, 0, 0, 0, 5, 0, 0, 0, 0⟩)).length ≤ 1048576) : NodeR t NM NS (.leaf ⟨2, 0, 0, 0, 5, 0, 0, 0, 0⟩) := by
  intro V i hE hL
  have hi : NS[i]? = some _ := hL
  obtain ⟨nv, bv, dv, rv⟩ := t
  have ht : etx NM (.leaf ⟨2, 0, 0, 0, 5, 0, 0, 0, 0⟩) = [109, 105, 100] := by simp [etx, leafT, inTx]
  obtain ⟨D, hD⟩ := some_sB ([109, 105, 100])
  rw [ht, ← hD]
  obtain ⟨g, off, dl, dc, hdv, hil, hdl, hdc, hat, hg⟩ := (hE.later (bel1 V (.cells #[nv, bv, dv, rv] 26))).node hi
  subst hdv
  have hb0 := bel1 V (.cells #[nv, bv, .slice (some ⟨g, off, none⟩) dl dc, rv] 26)
  obtain ⟨c0, c1, c2, c3, c4, c5, c6, c7, c8⟩ := hat
  simp only at c0 c1 c2 c3 c4 c5 c6 c7 c8
  have HH := hide (HasC.new V 26 #[nv, bv, .slice (some ⟨g, off, none⟩) dl dc, rv])
  have HE := hide (hE.later hb0)
  have HB := hide hb0
  obtain ⟨t0, t1, t2, t3⟩ := facts4 HH.out
  clear hE hb0 hi hg ht hl hL
  go_enter Tryz.func15, Tryz.ntmps15
  go_wp2_with fail
  refine (rank_any 2 (by decide) _).mono ?_
  rintro r U ⟨rfl, hU⟩
  have HX0 : Hid (HasC U (V.heap.size + 1) 39 (ndA ⟨2, 0, 0, 0, 5, 0, 0, 0, 0⟩)) := hide (by
    rw [hU]
    have := HasC.new (V.alloc (.cells #[nv, bv, .slice (some ⟨g, off, none⟩) dl dc, rv] 26)) 39 (ndA ⟨2, 0, 0, 0, 5, 0, 0, 0, 0⟩)
    rw [World.size_alloc] at this
    exact this)
  have hb1 : Below (V.alloc (.cells #[nv, bv, .slice (some ⟨g, off, none⟩) dl dc, rv] 26)).heap.size (V.alloc (.cells #[nv, bv, .slice (some ⟨g, off, none⟩) dl dc, rv] 26)) U := by
    rw [hU]; exact bel1 _ _
  have HE0 := hide (HE.out.later hb1)
  have HB0 := hide (bel HB.out hb1)
  have HT0 := hide (HH.out.below hb1)
  have d4 := ((HX0.out.alloc (.cells insC 9)).nine).2.2.2.2.1
  simp only at d4
  have dn := (HasC.new U 9 insC).cell 5 rfl
  clear hU hb1 HE HB HH t0 t1 t2 t3 c0 c1 c2 c3 c4 c5 c6 c7 c8
  obtain ⟨t0, t1, t2, t3⟩ := facts4 HT0.out
  obtain ⟨c0, c1, c2, c3, c4, c5, c6, c7, c8⟩ := HX0.out.nine
  simp only at c0 c1 c2 c3 c4 c5 c6 c7 c8
  go_wp2_with fail
  go_ret
  exact ⟨by rw [hD]; rfl, bel HB0.out (bel1 _ _)⟩

end Go.Proofs.YtodgjjkpbcadoaaGreatDoor

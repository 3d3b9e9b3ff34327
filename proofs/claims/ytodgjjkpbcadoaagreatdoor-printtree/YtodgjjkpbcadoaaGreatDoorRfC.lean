/-
  What the reference's Node answers of the operators between.
-/
import Derived.Test.YtodgjjkpbcadoaaGreatDoorRfA
import Derived.Test.YtodgjjkpbcadoaaGreatDoorChCl
import Derived.Deep.RegionHeld3
import Derived.Test.YtodgjjkpbcadoaaGreatDoorHeld
import Derived.Test.YtodgjjkpbcadoaaGreatDoorRfB
import Derived.Test.YtodgjjkpbcadoaaGreatDoorRf5
namespace Go.Proofs.YtodgjjkpbcadoaaGreatDoor
open Go.RowKit Go.IntWalk Lx Pz Go.Sort
set_option linter.unusedVariables false

/-- More may be held. -/
theorem wpAnyH_less {P : Program} {ops : Array Oper} {Q : Exit → Act → World → Prop} {md : Region.Mode} {S S' : World → Prop} (hS : ∀ w, S' w → S w) : ∀ {fuel : Nat} {listed : Array Bool} {a : Act} {w : World}, wpAnyH P md ops Q S' fuel listed a w → wpAnyH P md ops Q S fuel listed a w
  | 0, _, _, _, h => h
  | _ + 1, _, _, _, h => ⟨h.1, fun i hi => wpOp_mono (fun _ _ h' => ⟨hS _ h'.1, wpAnyH_less hS h'.2⟩) (h.2 i hi)⟩

set_option maxHeartbeats 16000000 in
set_option maxRecDepth 100000 in
theorem node_op4 {t : Tv} {NM : List Txt} {NS : List Nd} {x y : E} {k : Nat} (hx : NodeR t NM NS x) (hy : NodeR t NM NS y) (ox : 1 ≤ opE x ∧ opE x ≤ 28) (oy : 1 ≤ opE y ∧ opE y ≤ 28) (lx : (etx NM x).length ≤ 1048576) (ly : (etx NM y).length ≤ 1048576)
    (hk : 8 ≤ k ∧ k ≤ 23) (h4 : ork (k : Int) = 4) (hl : (etx NM (.bin (k : Int) x y)).length ≤ 1048576) : NodeR t NM NS (.bin (k : Int) x y) := by
  intro V i hE hL
  obtain ⟨p, q, hi, hx1, hy1⟩ := hL
  obtain ⟨nv, bv, dv, rv⟩ := t
  have ht : etx NM (.bin (k : Int) x y) = prp NM (lfk k) x ++ otx k ++ prp NM (ork k + 1) y := by simp only [etx, prp]; rw [if_neg (by omega)]; simp
  have h9 : ork (k : Int) ≤ 8 := by
    have : ∀ j : Nat, j < 16 → ork ((8 + j : Nat) : Int) ≤ 8 := by decide
    have := this (k - 8) (by omega)
    rwa [show 8 + (k - 8) = k by omega] at this
  have hf : lfk (k : Int) ≤ 9 := by unfold lfk; split <;> omega
  have HM : ∀ G : World, (G.alloc (.cells mksC 9)).cell? ⟨G.heap.size, k - 8, none⟩ = some (.string (sB (otx k))) := by
    intro G
    refine (HasC.new G 9 mksC).cell (k - 8) ?_
    have : ∀ j : Nat, j < 16 → mksC[j]? = some (.string (sB (otx ((8 + j : Nat) : Int)))) := fun j hj => by
      have hj' : j = 0 ∨ j = 1 ∨ j = 2 ∨ j = 3 ∨ j = 4 ∨ j = 5 ∨ j = 6 ∨ j = 7 ∨ j = 8 ∨ j = 9 ∨ j = 10 ∨ j = 11 ∨ j = 12 ∨ j = 13 ∨ j = 14 ∨ j = 15 := by omega
      rcases hj' with rfl | rfl | rfl | rfl | rfl | rfl | rfl | rfl | rfl | rfl | rfl | rfl | rfl | rfl | rfl | rfl <;> rfl
    have := this (k - 8) (by omega)
    rwa [show 8 + (k - 8) = k by omega] at this
  obtain ⟨Ax, hAx⟩ := some_sB (prp NM (lfk k) x)
  obtain ⟨Am, hAm⟩ := some_sB (otx k)
  obtain ⟨Ay, hAy⟩ := some_sB (prp NM (ork k + 1) y)
  rw [ht] at hl
  obtain ⟨C1, hC1, aC1⟩ := cat hAx hAm (by simp only [List.length_append] at hl ⊢; omega)
  obtain ⟨C2, hC2, aC2⟩ := cat hC1 hAy (by simp only [List.length_append] at hl ⊢; omega)
  rw [ht, ← hC2]
  obtain ⟨g, off, dl, dc, hdv, hil, hdl, hdc, hat, hg⟩ := (hE.later (bel1 V (.cells #[nv, bv, dv, rv] 26))).node hi
  subst hdv
  have hb0 := bel1 V (.cells #[nv, bv, .slice (some ⟨g, off, none⟩) dl dc, rv] 26)
  obtain ⟨c0, c1, c2, c3, c4, c5, c6, c7, c8⟩ := hat
  simp only at c0 c1 c2 c3 c4 c5 c6 c7 c8
  have HH := hide (HasC.new V 26 #[nv, bv, .slice (some ⟨g, off, none⟩) dl dc, rv])
  have HE := hide (hE.later hb0)
  have HB := hide hb0
  have Kx := hide (fun (X : World) (h : Er X ⟨nv, bv, .slice (some ⟨g, off, none⟩) dl dc, rv⟩ NM NS) => brac_any hx ox lx (lfk k) hf X p h hx1)
  rw [← hAx] at Kx
  have Ky := hide (fun (X : World) (h : Er X ⟨nv, bv, .slice (some ⟨g, off, none⟩) dl dc, rv⟩ NM NS) => brac_any hy oy ly (ork k + 1) (by omega) X q h hy1)
  rw [← hAy] at Ky
  have Kr := hide (fun X => rank_any k (by omega) X)
  rw [← hAm] at HM
  have hlf : lfk (k : Int) = 5 := by unfold lfk; rw [if_pos h4]
  rw [hlf] at Kx
  rw [h4] at Kr Ky
  have KM := hide (fun (X : World) => show Calls Tryz.prog 32 #[] X fun r X' => ∃ b, r = .returned (.slice (some ⟨b, 0, none⟩) 16 16) ∧ X'.cell? ⟨b, k - 8, none⟩ = some (.string Am) ∧ Below X.heap.size X X' from
    (marks_any X).mono fun r X' h => ⟨_, h.1, by rw [h.2]; exact HM X, by rw [h.2]; exact bel1 _ _⟩)
  obtain ⟨jm, hjm, hj16, hjw⟩ : ∃ j : Nat, k - 8 = j ∧ (j : Int) < 16 ∧ (k : Int) - 8 = (j : Int) := ⟨k - 8, rfl, by omega, by omega⟩
  rw [hjm] at KM
  have hj0 : (0 : Int) ≤ (jm : Int) := by omega
  have hww : IntKind.i64.wrap (jm : Int) = (jm : Int) := i64_in _ ⟨by omega, by omega⟩
  have hwo : IntKind.i64.wrap 5 = 5 := i64_in _ ⟨by omega, by omega⟩
  
  obtain ⟨t0, t1, t2, t3⟩ := facts4 HH.out
  clear hE hb0 hi hg ht hl hx hy hx1 hy1 hAx hAm hAy hC1 hC2 ox oy lx ly hf hlf HM hjm h4 h9
  go_enter Tryz.func15, Tryz.ntmps15
  go_wp2_with fail
  refine (Kr.out _).mono ?_
  rintro r U ⟨rfl, hU⟩
  have HX0 : Hid (HasC U (V.heap.size + 1) 39 (ndA ⟨(k : Int), (p : Int), (q : Int), 0, 0, 0, 0, 0, 0⟩)) := hide (by
    rw [hU]
    have := HasC.new (V.alloc (.cells #[nv, bv, .slice (some ⟨g, off, none⟩) dl dc, rv] 26)) 39 (ndA ⟨(k : Int), (p : Int), (q : Int), 0, 0, 0, 0, 0, 0⟩)
    rw [World.size_alloc] at this
    exact this)
  have hb1 : Below (V.alloc (.cells #[nv, bv, .slice (some ⟨g, off, none⟩) dl dc, rv] 26)).heap.size (V.alloc (.cells #[nv, bv, .slice (some ⟨g, off, none⟩) dl dc, rv] 26)) U := by
    rw [hU]; exact bel1 _ _
  have HS0 := hide (show Nst V U nv bv (.slice (some ⟨g, off, none⟩) dl dc) rv ⟨(k : Int), (p : Int), (q : Int), 0, 0, 0, 0, 0, 0⟩ NM NS from ⟨bel HB.out hb1, HE.out.later hb1, HH.out.below hb1, HX0.out⟩)
  clear hU hb1 HE HB HH HX0 Kr t0 t1 t2 t3 c0 c1 c2 c3 c4 c5 c6 c7 c8
  obtain ⟨t0, t1, t2, t3⟩ := facts4 HS0.out.T
  obtain ⟨c0, c1, c2, c3, c4, c5, c6, c7, c8⟩ := HS0.out.X.nine
  simp only at c0 c1 c2 c3 c4 c5 c6 c7 c8
  go_wp2_with fail
  clear t0 t1 t2 t3 c0 c1 c2 c3 c4 c5 c6 c7 c8
  have HS1 := hide (HS0.out.later (below_drew U))
  clear HS0
  refine wp_region_held_drew (S := fun w => Nst V w nv bv (.slice (some ⟨g, off, none⟩) dl dc) rv ⟨(k : Int), (p : Int), (q : Int), 0, 0, 0, 0, 0, 0⟩ NM NS) (by kernel_rfl) HS1.out (fun _ => ?_)
  refine wpAnyH_take (i := 0) (v := .agg #[nv, bv, .slice (some ⟨g, off, none⟩) dl dc, rv]) rfl (by kernel_rfl) (by kernel_rfl) (by kernel_rfl) (fun _ _ _ h => h) (Or.inl ⟨by rfl, fun w hS => by obtain ⟨t0, t1, t2, t3, c0, c1, c2, c3, -⟩ := hS.all; go_simp⟩) HS1.out ?_
  refine wpAnyH_take (i := 1) (v := .pointer (some ⟨V.heap.size + 1, 1, none⟩)) rfl (by kernel_rfl) (by kernel_rfl) (by kernel_rfl) (fun _ _ _ h => h) (Or.inl ⟨by rfl, fun w hS => by obtain ⟨t0, t1, t2, t3, c0, c1, c2, c3, -⟩ := hS.all; go_simp⟩) HS1.out ?_
  refine wpAnyH_take (i := 2) (v := .int .i64 (p : Int)) rfl (by kernel_rfl) (by kernel_rfl) (by kernel_rfl) (fun _ _ _ h => h) (Or.inl ⟨by rfl, fun w hS => by obtain ⟨t0, t1, t2, t3, c0, c1, c2, c3, -⟩ := hS.all; go_simp⟩) HS1.out ?_
  refine wpAnyH_take (i := 3) (v := .int .i64 5) rfl (by kernel_rfl) (by kernel_rfl) (by kernel_rfl) (fun _ _ _ h => h) (Or.inl ⟨by rfl, fun w hS => by obtain ⟨t0, t1, t2, t3, c0, c1, c2, c3, -⟩ := hS.all; go_simp⟩) HS1.out ?_
  refine wpAnyH_take (i := 6) (v := .pointer (some ⟨V.heap.size + 1, 0, none⟩)) rfl (by kernel_rfl) (by kernel_rfl) (by kernel_rfl) (fun _ _ _ h => h) (Or.inl ⟨by rfl, fun w hS => by obtain ⟨t0, t1, t2, t3, c0, c1, c2, c3, -⟩ := hS.all; go_simp⟩) HS1.out ?_
  refine wpAnyH_take (i := 7) (v := .int .i64 (k : Int)) rfl (by kernel_rfl) (by kernel_rfl) (by kernel_rfl) (fun _ _ _ h => h) (Or.inl ⟨by rfl, fun w hS => by obtain ⟨t0, t1, t2, t3, c0, c1, c2, c3, -⟩ := hS.all; go_simp⟩) HS1.out ?_
  refine wpAnyH_take (i := 8) (v := .int .i64 (jm : Int)) rfl (by kernel_rfl) (by kernel_rfl) (by kernel_rfl) (fun _ _ _ h => h) (Or.inl ⟨by rfl, fun w hS => by obtain ⟨t0, t1, t2, t3, c0, c1, c2, c3, -⟩ := hS.all; go_simp⟩) HS1.out ?_
  refine wpAnyH_take (i := 12) (v := .agg #[nv, bv, .slice (some ⟨g, off, none⟩) dl dc, rv]) rfl (by kernel_rfl) (by kernel_rfl) (by kernel_rfl) (fun _ _ _ h => h) (Or.inl ⟨by rfl, fun w hS => by obtain ⟨t0, t1, t2, t3, c0, c1, c2, c3, -⟩ := hS.all; go_simp⟩) HS1.out ?_
  refine wpAnyH_take (i := 13) (v := .pointer (some ⟨V.heap.size + 1, 2, none⟩)) rfl (by kernel_rfl) (by kernel_rfl) (by kernel_rfl) (fun _ _ _ h => h) (Or.inl ⟨by rfl, fun w hS => by obtain ⟨t0, t1, t2, t3, c0, c1, c2, c3, -⟩ := hS.all; go_simp⟩) HS1.out ?_
  refine wpAnyH_take (i := 14) (v := .int .i64 (q : Int)) rfl (by kernel_rfl) (by kernel_rfl) (by kernel_rfl) (fun _ _ _ h => h) (Or.inl ⟨by rfl, fun w hS => by obtain ⟨t0, t1, t2, t3, c0, c1, c2, c3, -⟩ := hS.all; go_simp⟩) HS1.out ?_
  refine wpAnyH_take (i := 15) (v := .int .i64 4) rfl (by kernel_rfl) (by kernel_rfl) (by kernel_rfl) (fun _ _ _ h => h) (Or.inl ⟨by rfl, fun w hS => by obtain ⟨t0, t1, t2, t3, c0, c1, c2, c3, -⟩ := hS.all; go_simp⟩) HS1.out ?_
  refine wpAnyH_take (i := 16) (v := .int .i64 5) rfl (by kernel_rfl) (by kernel_rfl) (by kernel_rfl) (fun _ _ _ h => h) (Or.inl ⟨by rfl, fun w hS => by obtain ⟨t0, t1, t2, t3, c0, c1, c2, c3, -⟩ := hS.all; go_simp⟩) HS1.out ?_
  refine wpAnyH_ready (rs := [4]) (by kernel_rfl) (by simp) (AllReadyH.cons rfl (fun K hK => ?_) AllReadyH.nil)
  go_simp
  refine (Kx.out _ HS1.out.E).mono ?_
  rintro r U1 ⟨rfl, hb⟩
  have HS2 := hide (HS1.out.later hb)
  clear hb HS1 Kx
  refine hK.out _ _ HS2.out (fun _ => ?_)
  clear hK K
  refine wpAnyH_ready (rs := [5]) (by kernel_rfl) (by simp) (AllReadyH.cons rfl (fun K hK => ?_) AllReadyH.nil)
  go_simp
  refine (KM.out _).mono ?_
  rintro r U2 ⟨bm, rfl, hmk, hb⟩
  have HS3 := hide (And.intro (HS2.out.later hb) hmk)
  clear hb HS2 KM
  refine hK.out _ _ HS3.out.1 (fun _ => ?_)
  clear hK K
  refine wpAnyH_less (S' := fun w => Nst V w nv bv (.slice (some ⟨g, off, none⟩) dl dc) rv ⟨(k : Int), (p : Int), (q : Int), 0, 0, 0, 0, 0, 0⟩ NM NS ∧ w.cell? ⟨bm, jm, none⟩ = some (.string Am)) (fun _ h => h.1) ?_
  clear hmk
  refine wpAnyH_take (i := 9) (v := .pointer (some ⟨bm, jm, none⟩)) rfl (by kernel_rfl) (by kernel_rfl) (by kernel_rfl) (fun _ _ _ h => h) (Or.inl ⟨by rfl, fun w hS => by obtain ⟨t0, t1, t2, t3, c0, c1, c2, c3, -⟩ := hS.1.all; have hm := hS.2; go_simp⟩) HS3.out ?_
  refine wpAnyH_take (i := 10) (v := .string Am) rfl (by kernel_rfl) (by kernel_rfl) (by kernel_rfl) (fun _ _ _ h => h) (Or.inl ⟨by rfl, fun w hS => by obtain ⟨t0, t1, t2, t3, c0, c1, c2, c3, -⟩ := hS.1.all; have hm := hS.2; go_simp⟩) HS3.out ?_
  refine wpAnyH_take (i := 11) (v := .string C1) rfl (by kernel_rfl) (by kernel_rfl) (by kernel_rfl) (fun _ _ _ h => h) (Or.inl ⟨by rfl, fun w hS => by obtain ⟨t0, t1, t2, t3, c0, c1, c2, c3, -⟩ := hS.1.all; have hm := hS.2; go_simp⟩) HS3.out ?_
  refine wpAnyH_ready (rs := [17]) (by kernel_rfl) (by simp) (AllReadyH.cons rfl (fun K hK => ?_) AllReadyH.nil)
  go_simp
  refine (Ky.out _ HS3.out.1.E).mono ?_
  rintro r U3 ⟨rfl, hb⟩
  have HS4 := hide (And.intro (HS3.out.1.later hb) (below_cell hb HS3.out.2))
  clear hb HS3 Ky
  refine hK.out _ _ HS4.out (fun _ => ?_)
  clear hK K
  refine wpAnyH_take (i := 18) (v := .string C2) rfl (by kernel_rfl) (by kernel_rfl) (by kernel_rfl) (fun _ _ _ h => h) (Or.inl ⟨by rfl, fun w hS => by obtain ⟨t0, t1, t2, t3, c0, c1, c2, c3, -⟩ := hS.1.all; have hm := hS.2; go_simp⟩) HS4.out ?_
  refine wpAnyH_take (i := 19) (v := .string C2) rfl (by kernel_rfl) (by kernel_rfl) (by kernel_rfl) (fun _ _ _ h => h) (Or.inl ⟨by rfl, fun w hS => by obtain ⟨t0, t1, t2, t3, c0, c1, c2, c3, -⟩ := hS.1.all; have hm := hS.2; go_simp⟩) HS4.out ?_
  refine wpAnyH_done (by kernel_rfl) ?_ _
  go_simp
  go_wp2_with fail
  go_ret
  exact ⟨rfl, HS4.out.1.old⟩

set_option maxHeartbeats 16000000 in
set_option maxRecDepth 100000 in
theorem node_opn {t : Tv} {NM : List Txt} {NS : List Nd} {x y : E} {k : Nat} (hx : NodeR t NM NS x) (hy : NodeR t NM NS y) (ox : 1 ≤ opE x ∧ opE x ≤ 28) (oy : 1 ≤ opE y ∧ opE y ≤ 28) (lx : (etx NM x).length ≤ 1048576) (ly : (etx NM y).length ≤ 1048576)
    (hk : 8 ≤ k ∧ k ≤ 23) (h4 : ork (k : Int) ≠ 4) (hl : (etx NM (.bin (k : Int) x y)).length ≤ 1048576) : NodeR t NM NS (.bin (k : Int) x y) := by
  intro V i hE hL
  obtain ⟨p, q, hi, hx1, hy1⟩ := hL
  obtain ⟨nv, bv, dv, rv⟩ := t
  have ht : etx NM (.bin (k : Int) x y) = prp NM (lfk k) x ++ otx k ++ prp NM (ork k + 1) y := by simp only [etx, prp]; rw [if_neg (by omega)]; simp
  have h9 : ork (k : Int) ≤ 8 := by
    have : ∀ j : Nat, j < 16 → ork ((8 + j : Nat) : Int) ≤ 8 := by decide
    have := this (k - 8) (by omega)
    rwa [show 8 + (k - 8) = k by omega] at this
  have hf : lfk (k : Int) ≤ 9 := by unfold lfk; split <;> omega
  have HM : ∀ G : World, (G.alloc (.cells mksC 9)).cell? ⟨G.heap.size, k - 8, none⟩ = some (.string (sB (otx k))) := by
    intro G
    refine (HasC.new G 9 mksC).cell (k - 8) ?_
    have : ∀ j : Nat, j < 16 → mksC[j]? = some (.string (sB (otx ((8 + j : Nat) : Int)))) := fun j hj => by
      have hj' : j = 0 ∨ j = 1 ∨ j = 2 ∨ j = 3 ∨ j = 4 ∨ j = 5 ∨ j = 6 ∨ j = 7 ∨ j = 8 ∨ j = 9 ∨ j = 10 ∨ j = 11 ∨ j = 12 ∨ j = 13 ∨ j = 14 ∨ j = 15 := by omega
      rcases hj' with rfl | rfl | rfl | rfl | rfl | rfl | rfl | rfl | rfl | rfl | rfl | rfl | rfl | rfl | rfl | rfl <;> rfl
    have := this (k - 8) (by omega)
    rwa [show 8 + (k - 8) = k by omega] at this
  obtain ⟨Ax, hAx⟩ := some_sB (prp NM (lfk k) x)
  obtain ⟨Am, hAm⟩ := some_sB (otx k)
  obtain ⟨Ay, hAy⟩ := some_sB (prp NM (ork k + 1) y)
  rw [ht] at hl
  obtain ⟨C1, hC1, aC1⟩ := cat hAx hAm (by simp only [List.length_append] at hl ⊢; omega)
  obtain ⟨C2, hC2, aC2⟩ := cat hC1 hAy (by simp only [List.length_append] at hl ⊢; omega)
  rw [ht, ← hC2]
  obtain ⟨g, off, dl, dc, hdv, hil, hdl, hdc, hat, hg⟩ := (hE.later (bel1 V (.cells #[nv, bv, dv, rv] 26))).node hi
  subst hdv
  have hb0 := bel1 V (.cells #[nv, bv, .slice (some ⟨g, off, none⟩) dl dc, rv] 26)
  obtain ⟨c0, c1, c2, c3, c4, c5, c6, c7, c8⟩ := hat
  simp only at c0 c1 c2 c3 c4 c5 c6 c7 c8
  have HH := hide (HasC.new V 26 #[nv, bv, .slice (some ⟨g, off, none⟩) dl dc, rv])
  have HE := hide (hE.later hb0)
  have HB := hide hb0
  have Kx := hide (fun (X : World) (h : Er X ⟨nv, bv, .slice (some ⟨g, off, none⟩) dl dc, rv⟩ NM NS) => brac_any hx ox lx (lfk k) hf X p h hx1)
  rw [← hAx] at Kx
  have Ky := hide (fun (X : World) (h : Er X ⟨nv, bv, .slice (some ⟨g, off, none⟩) dl dc, rv⟩ NM NS) => brac_any hy oy ly (ork k + 1) (by omega) X q h hy1)
  rw [← hAy] at Ky
  have Kr := hide (fun X => rank_any k (by omega) X)
  rw [← hAm] at HM
  have hlf : lfk (k : Int) = ork (k : Int) := by unfold lfk; rw [if_neg h4]
  rw [hlf] at Kx
  generalize ork (k : Int) = ok at *
  have KM := hide (fun (X : World) => show Calls Tryz.prog 32 #[] X fun r X' => ∃ b, r = .returned (.slice (some ⟨b, 0, none⟩) 16 16) ∧ X'.cell? ⟨b, k - 8, none⟩ = some (.string Am) ∧ Below X.heap.size X X' from
    (marks_any X).mono fun r X' h => ⟨_, h.1, by rw [h.2]; exact HM X, by rw [h.2]; exact bel1 _ _⟩)
  obtain ⟨jm, hjm, hj16, hjw⟩ : ∃ j : Nat, k - 8 = j ∧ (j : Int) < 16 ∧ (k : Int) - 8 = (j : Int) := ⟨k - 8, rfl, by omega, by omega⟩
  rw [hjm] at KM
  have hj0 : (0 : Int) ≤ (jm : Int) := by omega
  have hww : IntKind.i64.wrap (jm : Int) = (jm : Int) := i64_in _ ⟨by omega, by omega⟩
  have hwo : IntKind.i64.wrap ((ok : Int) + 1) = (ok : Int) + 1 := i64_in _ ⟨by omega, by omega⟩
  have h4i : ¬ ((ok : Int) = 4) := by omega
  obtain ⟨t0, t1, t2, t3⟩ := facts4 HH.out
  clear hE hb0 hi hg ht hl hx hy hx1 hy1 hAx hAm hAy hC1 hC2 ox oy lx ly hf hlf HM hjm 
  go_enter Tryz.func15, Tryz.ntmps15
  go_wp2_with fail
  refine (Kr.out _).mono ?_
  rintro r U ⟨rfl, hU⟩
  have HX0 : Hid (HasC U (V.heap.size + 1) 39 (ndA ⟨(k : Int), (p : Int), (q : Int), 0, 0, 0, 0, 0, 0⟩)) := hide (by
    rw [hU]
    have := HasC.new (V.alloc (.cells #[nv, bv, .slice (some ⟨g, off, none⟩) dl dc, rv] 26)) 39 (ndA ⟨(k : Int), (p : Int), (q : Int), 0, 0, 0, 0, 0, 0⟩)
    rw [World.size_alloc] at this
    exact this)
  have hb1 : Below (V.alloc (.cells #[nv, bv, .slice (some ⟨g, off, none⟩) dl dc, rv] 26)).heap.size (V.alloc (.cells #[nv, bv, .slice (some ⟨g, off, none⟩) dl dc, rv] 26)) U := by
    rw [hU]; exact bel1 _ _
  have HS0 := hide (show Nst V U nv bv (.slice (some ⟨g, off, none⟩) dl dc) rv ⟨(k : Int), (p : Int), (q : Int), 0, 0, 0, 0, 0, 0⟩ NM NS from ⟨bel HB.out hb1, HE.out.later hb1, HH.out.below hb1, HX0.out⟩)
  clear hU hb1 HE HB HH HX0 Kr t0 t1 t2 t3 c0 c1 c2 c3 c4 c5 c6 c7 c8
  obtain ⟨t0, t1, t2, t3⟩ := facts4 HS0.out.T
  obtain ⟨c0, c1, c2, c3, c4, c5, c6, c7, c8⟩ := HS0.out.X.nine
  simp only at c0 c1 c2 c3 c4 c5 c6 c7 c8
  go_wp2_with fail
  clear t0 t1 t2 t3 c0 c1 c2 c3 c4 c5 c6 c7 c8
  have HS1 := hide (HS0.out.later (below_drew U))
  clear HS0
  refine wp_region_held_drew (S := fun w => Nst V w nv bv (.slice (some ⟨g, off, none⟩) dl dc) rv ⟨(k : Int), (p : Int), (q : Int), 0, 0, 0, 0, 0, 0⟩ NM NS) (by kernel_rfl) HS1.out (fun _ => ?_)
  refine wpAnyH_take (i := 0) (v := .agg #[nv, bv, .slice (some ⟨g, off, none⟩) dl dc, rv]) rfl (by kernel_rfl) (by kernel_rfl) (by kernel_rfl) (fun _ _ _ h => h) (Or.inl ⟨by rfl, fun w hS => by obtain ⟨t0, t1, t2, t3, c0, c1, c2, c3, -⟩ := hS.all; go_simp⟩) HS1.out ?_
  refine wpAnyH_take (i := 1) (v := .pointer (some ⟨V.heap.size + 1, 1, none⟩)) rfl (by kernel_rfl) (by kernel_rfl) (by kernel_rfl) (fun _ _ _ h => h) (Or.inl ⟨by rfl, fun w hS => by obtain ⟨t0, t1, t2, t3, c0, c1, c2, c3, -⟩ := hS.all; go_simp⟩) HS1.out ?_
  refine wpAnyH_take (i := 2) (v := .int .i64 (p : Int)) rfl (by kernel_rfl) (by kernel_rfl) (by kernel_rfl) (fun _ _ _ h => h) (Or.inl ⟨by rfl, fun w hS => by obtain ⟨t0, t1, t2, t3, c0, c1, c2, c3, -⟩ := hS.all; go_simp⟩) HS1.out ?_
  refine wpAnyH_take (i := 3) (v := .int .i64 (ok : Int)) rfl (by kernel_rfl) (by kernel_rfl) (by kernel_rfl) (fun _ _ _ h => h) (Or.inl ⟨by rfl, fun w hS => by obtain ⟨t0, t1, t2, t3, c0, c1, c2, c3, -⟩ := hS.all; go_simp⟩) HS1.out ?_
  refine wpAnyH_take (i := 6) (v := .pointer (some ⟨V.heap.size + 1, 0, none⟩)) rfl (by kernel_rfl) (by kernel_rfl) (by kernel_rfl) (fun _ _ _ h => h) (Or.inl ⟨by rfl, fun w hS => by obtain ⟨t0, t1, t2, t3, c0, c1, c2, c3, -⟩ := hS.all; go_simp⟩) HS1.out ?_
  refine wpAnyH_take (i := 7) (v := .int .i64 (k : Int)) rfl (by kernel_rfl) (by kernel_rfl) (by kernel_rfl) (fun _ _ _ h => h) (Or.inl ⟨by rfl, fun w hS => by obtain ⟨t0, t1, t2, t3, c0, c1, c2, c3, -⟩ := hS.all; go_simp⟩) HS1.out ?_
  refine wpAnyH_take (i := 8) (v := .int .i64 (jm : Int)) rfl (by kernel_rfl) (by kernel_rfl) (by kernel_rfl) (fun _ _ _ h => h) (Or.inl ⟨by rfl, fun w hS => by obtain ⟨t0, t1, t2, t3, c0, c1, c2, c3, -⟩ := hS.all; go_simp⟩) HS1.out ?_
  refine wpAnyH_take (i := 12) (v := .agg #[nv, bv, .slice (some ⟨g, off, none⟩) dl dc, rv]) rfl (by kernel_rfl) (by kernel_rfl) (by kernel_rfl) (fun _ _ _ h => h) (Or.inl ⟨by rfl, fun w hS => by obtain ⟨t0, t1, t2, t3, c0, c1, c2, c3, -⟩ := hS.all; go_simp⟩) HS1.out ?_
  refine wpAnyH_take (i := 13) (v := .pointer (some ⟨V.heap.size + 1, 2, none⟩)) rfl (by kernel_rfl) (by kernel_rfl) (by kernel_rfl) (fun _ _ _ h => h) (Or.inl ⟨by rfl, fun w hS => by obtain ⟨t0, t1, t2, t3, c0, c1, c2, c3, -⟩ := hS.all; go_simp⟩) HS1.out ?_
  refine wpAnyH_take (i := 14) (v := .int .i64 (q : Int)) rfl (by kernel_rfl) (by kernel_rfl) (by kernel_rfl) (fun _ _ _ h => h) (Or.inl ⟨by rfl, fun w hS => by obtain ⟨t0, t1, t2, t3, c0, c1, c2, c3, -⟩ := hS.all; go_simp⟩) HS1.out ?_
  refine wpAnyH_take (i := 15) (v := .int .i64 (ok : Int)) rfl (by kernel_rfl) (by kernel_rfl) (by kernel_rfl) (fun _ _ _ h => h) (Or.inl ⟨by rfl, fun w hS => by obtain ⟨t0, t1, t2, t3, c0, c1, c2, c3, -⟩ := hS.all; go_simp⟩) HS1.out ?_
  refine wpAnyH_take (i := 16) (v := .int .i64 ((ok : Int) + 1)) rfl (by kernel_rfl) (by kernel_rfl) (by kernel_rfl) (fun _ _ _ h => h) (Or.inl ⟨by rfl, fun w hS => by obtain ⟨t0, t1, t2, t3, c0, c1, c2, c3, -⟩ := hS.all; go_simp⟩) HS1.out ?_
  refine wpAnyH_ready (rs := [4]) (by kernel_rfl) (by simp) (AllReadyH.cons rfl (fun K hK => ?_) AllReadyH.nil)
  go_simp
  refine (Kx.out _ HS1.out.E).mono ?_
  rintro r U1 ⟨rfl, hb⟩
  have HS2 := hide (HS1.out.later hb)
  clear hb HS1 Kx
  refine hK.out _ _ HS2.out (fun _ => ?_)
  clear hK K
  refine wpAnyH_ready (rs := [5]) (by kernel_rfl) (by simp) (AllReadyH.cons rfl (fun K hK => ?_) AllReadyH.nil)
  go_simp
  refine (KM.out _).mono ?_
  rintro r U2 ⟨bm, rfl, hmk, hb⟩
  have HS3 := hide (And.intro (HS2.out.later hb) hmk)
  clear hb HS2 KM
  refine hK.out _ _ HS3.out.1 (fun _ => ?_)
  clear hK K
  refine wpAnyH_less (S' := fun w => Nst V w nv bv (.slice (some ⟨g, off, none⟩) dl dc) rv ⟨(k : Int), (p : Int), (q : Int), 0, 0, 0, 0, 0, 0⟩ NM NS ∧ w.cell? ⟨bm, jm, none⟩ = some (.string Am)) (fun _ h => h.1) ?_
  clear hmk
  refine wpAnyH_take (i := 9) (v := .pointer (some ⟨bm, jm, none⟩)) rfl (by kernel_rfl) (by kernel_rfl) (by kernel_rfl) (fun _ _ _ h => h) (Or.inl ⟨by rfl, fun w hS => by obtain ⟨t0, t1, t2, t3, c0, c1, c2, c3, -⟩ := hS.1.all; have hm := hS.2; go_simp⟩) HS3.out ?_
  refine wpAnyH_take (i := 10) (v := .string Am) rfl (by kernel_rfl) (by kernel_rfl) (by kernel_rfl) (fun _ _ _ h => h) (Or.inl ⟨by rfl, fun w hS => by obtain ⟨t0, t1, t2, t3, c0, c1, c2, c3, -⟩ := hS.1.all; have hm := hS.2; go_simp⟩) HS3.out ?_
  refine wpAnyH_take (i := 11) (v := .string C1) rfl (by kernel_rfl) (by kernel_rfl) (by kernel_rfl) (fun _ _ _ h => h) (Or.inl ⟨by rfl, fun w hS => by obtain ⟨t0, t1, t2, t3, c0, c1, c2, c3, -⟩ := hS.1.all; have hm := hS.2; go_simp⟩) HS3.out ?_
  refine wpAnyH_ready (rs := [17]) (by kernel_rfl) (by simp) (AllReadyH.cons rfl (fun K hK => ?_) AllReadyH.nil)
  go_simp
  refine (Ky.out _ HS3.out.1.E).mono ?_
  rintro r U3 ⟨rfl, hb⟩
  have HS4 := hide (And.intro (HS3.out.1.later hb) (below_cell hb HS3.out.2))
  clear hb HS3 Ky
  refine hK.out _ _ HS4.out (fun _ => ?_)
  clear hK K
  refine wpAnyH_take (i := 18) (v := .string C2) rfl (by kernel_rfl) (by kernel_rfl) (by kernel_rfl) (fun _ _ _ h => h) (Or.inl ⟨by rfl, fun w hS => by obtain ⟨t0, t1, t2, t3, c0, c1, c2, c3, -⟩ := hS.1.all; have hm := hS.2; go_simp⟩) HS4.out ?_
  refine wpAnyH_take (i := 19) (v := .string C2) rfl (by kernel_rfl) (by kernel_rfl) (by kernel_rfl) (fun _ _ _ h => h) (Or.inl ⟨by rfl, fun w hS => by obtain ⟨t0, t1, t2, t3, c0, c1, c2, c3, -⟩ := hS.1.all; have hm := hS.2; go_simp⟩) HS4.out ?_
  refine wpAnyH_done (by kernel_rfl) ?_ _
  go_simp
  go_wp2_with fail
  go_ret
  exact ⟨rfl, HS4.out.1.old⟩

end Go.Proofs.YtodgjjkpbcadoaaGreatDoor

/-
  What the reference's Node answers: of every sound expression its text.
-/
namespace Go.Proofs.YtodgjjkpbcadoaaGreatDoor
open Lx Pz
set_option linter.unusedVariables false

theorem node_leaf {t : Tv} {NM : List Txt} {NS : List Nd} {bd : Nat} (hb : bd ≤ NM.length) (n : Nd) (h : Gd bd (.leaf n)) (hl : (etx NM (.leaf n)).length ≤ 1048576) : NodeR t NM NS (.leaf n) := by
  obtain ⟨op, a, b, c, k, back, co, x, y⟩ := n
  obtain ⟨h1, h2, h3, h4⟩ := gd_leaf h
  simp only at h1 h2 h3 h4
  subst h1 h2 h3
  rcases h4 with ⟨rfl, rfl, hc, b0, b1, x0, x1, y0, y1⟩ | ⟨rfl, rfl, rfl, rfl, ⟨rfl, k0, k1⟩ | ⟨rfl, k0, k1⟩ | ⟨rfl, k0, k1⟩⟩
  · by_cases hz : back = 0
    · subst hz
      rcases hc with rfl | ⟨rfl, rfl⟩
      · exact node_p2 x0 x1 y0 y1 hl
      · exact node_p1 x0 x1 hl
    · rcases hc with rfl | ⟨rfl, rfl⟩
      · exact node_q2 (by omega) b1 x0 x1 y0 y1 hl
      · exact node_q1 (by omega) b1 x0 x1 hl
  · exact node_num k0 k1 hl
  · have hk : k = 0 ∨ k = 1 ∨ k = 2 ∨ k = 3 ∨ k = 4 ∨ k = 5 := by omega
    rcases hk with rfl | rfl | rfl | rfl | rfl | rfl
    · exact node_in0 hl
    · exact node_in1 hl
    · exact node_in2 hl
    · exact node_in3 hl
    · exact node_in4 hl
    · exact node_in5 hl
  · obtain ⟨j, rfl⟩ : ∃ j : Nat, k = j := ⟨k.toNat, by omega⟩
    exact node_use (by omega) hl

theorem wnode_any {t : Tv} {NM : List Txt} {NS : List Nd} {bd : Nat} (hn : nmB NM = true) (hb : bd ≤ NM.length) : ∀ (e : E), Gd bd e → e.size ≤ 1024 → NodeR t NM NS e
  | .leaf n, h, hz => node_leaf hb n h (by have := etx_len hn (.leaf n) h; omega)
  | .un o a, h, hz => by
    have hz1 : a.size ≤ 1024 := by simp only [E.size] at hz; omega
    have ha := wnode_any (t := t) (NS := NS) hn hb a h.2 hz1
    have hl : (etx NM (.un o a)).length ≤ 1048576 := by have := etx_len hn (.un o a) h; omega
    have la : (etx NM a).length ≤ 1048576 := by have := etx_len hn a h.2; omega
    rcases pr_one h.1 with rfl | rfl | rfl
    · exact node_neg ha (gd_op h.2) la hl
    · exact node_abs ha hl
    · exact node_sgn ha hl
  | .bin o a b, h, hz => by
    have hz1 : a.size ≤ 1024 := by simp only [E.size] at hz; omega
    have hz2 : b.size ≤ 1024 := by simp only [E.size] at hz; omega
    have ha := wnode_any (t := t) (NS := NS) hn hb a h.2.1 hz1
    have hb2 := wnode_any (t := t) (NS := NS) hn hb b h.2.2 hz2
    have hl : (etx NM (.bin o a b)).length ≤ 1048576 := by have := etx_len hn (.bin o a b) h; omega
    have la : (etx NM a).length ≤ 1048576 := by have := etx_len hn a h.2.1; omega
    have lb : (etx NM b).length ≤ 1048576 := by have := etx_len hn b h.2.2; omega
    have ho := pr_two h.1
    by_cases h24 : o = 24
    · subst h24; exact node_min ha hb2 hl
    by_cases h25 : o = 25
    · subst h25; exact node_max ha hb2 hl
    obtain ⟨k, rfl⟩ : ∃ k : Nat, o = k := ⟨o.toNat, by omega⟩
    by_cases h4 : ork (k : Int) = 4
    · exact node_op4 ha hb2 (gd_op h.2.1) (gd_op h.2.2) la lb (by omega) h4 hl
    · exact node_opn ha hb2 (gd_op h.2.1) (gd_op h.2.2) la lb (by omega) h4 hl
  | .tri o a b c, h, hz => by
    have hz1 : a.size ≤ 1024 := by simp only [E.size] at hz; omega
    have hz2 : b.size ≤ 1024 := by simp only [E.size] at hz; omega
    have hz3 : c.size ≤ 1024 := by simp only [E.size] at hz; omega
    have ha := wnode_any (t := t) (NS := NS) hn hb a h.2.1 hz1
    have hb2 := wnode_any (t := t) (NS := NS) hn hb b h.2.2.1 hz2
    have hc := wnode_any (t := t) (NS := NS) hn hb c h.2.2.2 hz3
    have hl : (etx NM (.tri o a b c)).length ≤ 1048576 := by have := etx_len hn (.tri o a b c) h; omega
    have la : (etx NM a).length ≤ 1048576 := by have := etx_len hn a h.2.1; omega
    rcases pr_three h.1 with rfl | rfl | rfl
    · exact node_clamp ha hb2 hc hl
    · exact node_med ha hb2 hc hl
    · exact node_sel ha hb2 hc (gd_op h.2.1) la hl

end Go.Proofs.YtodgjjkpbcadoaaGreatDoor

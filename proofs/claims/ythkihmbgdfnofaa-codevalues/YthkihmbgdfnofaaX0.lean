/-
  The document's Input.
-/
import Derived.Test.YthkihmbgdfnofaaB4
import Derived.Test.YthkihmbgdfnofaaKnRef
import Derived.Deep.RegionHeld3
namespace Go.Proofs.Ythkihmbgdfnofaa
open Go.RowKit Go.IntWalk Knd
set_option linter.unusedVariables false

/-- More may be held. -/
theorem wpAnyH_less {P : Program} {ops : Array Oper} {Q : Exit → Act → World → Prop} {md : Region.Mode} {S S' : World → Prop} (hS : ∀ w, S' w → S w) : ∀ {fuel : Nat} {listed : Array Bool} {a : Act} {w : World}, wpAnyH P md ops Q S' fuel listed a w → wpAnyH P md ops Q S fuel listed a w
  | 0, _, _, _, h => h
  | _ + 1, _, _, _, h => ⟨h.1, fun i hi => wpOp_mono (fun _ _ h' => ⟨hS _ h'.1, wpAnyH_less hS h'.2⟩) (h.2 i hi)⟩

abbrev wnC (f d : Int) (v : Wd) : Array Value := #[.int .i64 v.x, .int .i64 v.y, .int .i64 v.c, .int .i64 (Knd.lowZ f d), .int .i64 (Knd.highZ f d), .int .i64 (Knd.borderZ f d)]
theorem wnC_at (f d : Int) (v : Wd) : ∀ k, k < 6 → (wnC f d v)[k]? = some (.int .i64 (inpV f d v (k : Int)))
  | 0, _ => rfl
  | 1, _ => rfl
  | 2, _ => rfl
  | 3, _ => rfl
  | 4, _ => rfl
  | 5, _ => rfl
  | k + 6, h => by omega
/-- The boxes of a kind and a window. -/
structure Iq (W V : World) (f d : Int) (v : Wd) (a : Option Addr) (n cap : Nat) : Prop where
  k : HasC V W.heap.size 23 (kd f d)
  w : HasC V (W.heap.size + 1) 46 (wdA v a n cap)
  lo : Below W.heap.size W V
theorem Iq.below {W V V' : World} {f d : Int} {v : Wd} {a : Option Addr} {n cap : Nat} (h : Iq W V f d v a n cap) (hb : Below V.heap.size V V') : Iq W V' f d v a n cap :=
  ⟨h.k.below hb, h.w.below hb, bel h.lo hb⟩
theorem Iq.five {W V : World} {f d : Int} {v : Wd} {a : Option Addr} {n cap : Nat} (h : Iq W V f d v a n cap) : V.cell? ⟨W.heap.size, 0, none⟩ = some (.int .i64 f) ∧ V.cell? ⟨W.heap.size, 1, none⟩ = some (.int .i64 d) ∧ V.cell? ⟨W.heap.size + 1, 0, none⟩ = some (.int .i64 v.x) ∧ V.cell? ⟨W.heap.size + 1, 1, none⟩ = some (.int .i64 v.y) ∧ V.cell? ⟨W.heap.size + 1, 2, none⟩ = some (.int .i64 v.c) :=
  ⟨h.k.cell 0 rfl, h.k.cell 1 rfl, h.w.cell 0 rfl, h.w.cell 1 rfl, h.w.cell 2 rfl⟩

set_option maxRecDepth 100000 in
set_option maxHeartbeats 16000000 in
theorem winput_any (f d k : Int) (v : Wd) (a : Option Addr) (n cap : Nat) (h0 : 0 ≤ k) (h5 : k ≤ 5) (W : World) :
    Calls Try.prog 45 #[.agg (kd f d), .agg (wdA v a n cap), .int .i64 k] W fun e W' => e = .returned (.int .i64 (inpV f d v k)) ∧ Below W.heap.size W W' := by
  have HLo := hide fun W => Knd.rlow_any f d W
  have HHi := hide fun W => Knd.rhigh_any f d W
  have HBo := hide fun W => Knd.rborder_any f d W
  obtain ⟨j, rfl⟩ : ∃ j : Nat, k = j := ⟨k.toNat, by omega⟩
  have HAt := hide (wnC_at f d v j (by omega))
  obtain ⟨R, hR⟩ : ∃ R, inpV f d v (j : Int) = R := ⟨_, rfl⟩
  rw [hR] at HAt ⊢
  clear hR
  have i1 : (j : Int) < 6 := by omega
  have hb0 := bel (bel1 W (.cells (kd f d) 23)) (bel1 (W.alloc (.cells (kd f d) 23)) (.cells (wdA v a n cap) 46))
  have HK0 := (HasC.new W 23 (kd f d)).alloc (.cells (wdA v a n cap) 46)
  have HW0 : HasC ((W.alloc (.cells (kd f d) 23)).alloc (.cells (wdA v a n cap) 46)) (W.heap.size + 1) 46 (wdA v a n cap) := by
    have := HasC.new (W.alloc (.cells (kd f d) 23)) 46 (wdA v a n cap)
    simp only [World.size_alloc] at this
    exact this
  have HS1 := hide ((Iq.mk HK0 HW0 hb0).below (below_drew _))
  clear hb0 HK0 HW0 h5
  go_enter Try.func45, Try.ntmps45
  go_wp2_with fail
  refine wp_region_held_drew (S := fun w => Iq W w f d v a n cap) (by kernel_rfl) HS1.out (fun _ => ?_)
  refine wpAnyH_take (i := 0) (v := .pointer (some ⟨W.heap.size + 1, 0, none⟩)) rfl (by kernel_rfl) (by kernel_rfl) (by kernel_rfl) (fun _ _ _ h => h) (Or.inl ⟨by rfl, fun w hS => by obtain ⟨a0, a1, a2, a3, a4⟩ := hS.five; go_simp⟩) HS1.out ?_
  refine wpAnyH_take (i := 1) (v := .int .i64 v.x) rfl (by kernel_rfl) (by kernel_rfl) (by kernel_rfl) (fun _ _ _ h => h) (Or.inl ⟨by rfl, fun w hS => by obtain ⟨a0, a1, a2, a3, a4⟩ := hS.five; go_simp⟩) HS1.out ?_
  refine wpAnyH_take (i := 2) (v := .pointer (some ⟨W.heap.size + 1, 1, none⟩)) rfl (by kernel_rfl) (by kernel_rfl) (by kernel_rfl) (fun _ _ _ h => h) (Or.inl ⟨by rfl, fun w hS => by obtain ⟨a0, a1, a2, a3, a4⟩ := hS.five; go_simp⟩) HS1.out ?_
  refine wpAnyH_take (i := 3) (v := .int .i64 v.y) rfl (by kernel_rfl) (by kernel_rfl) (by kernel_rfl) (fun _ _ _ h => h) (Or.inl ⟨by rfl, fun w hS => by obtain ⟨a0, a1, a2, a3, a4⟩ := hS.five; go_simp⟩) HS1.out ?_
  refine wpAnyH_take (i := 4) (v := .pointer (some ⟨W.heap.size + 1, 2, none⟩)) rfl (by kernel_rfl) (by kernel_rfl) (by kernel_rfl) (fun _ _ _ h => h) (Or.inl ⟨by rfl, fun w hS => by obtain ⟨a0, a1, a2, a3, a4⟩ := hS.five; go_simp⟩) HS1.out ?_
  refine wpAnyH_take (i := 5) (v := .int .i64 v.c) rfl (by kernel_rfl) (by kernel_rfl) (by kernel_rfl) (fun _ _ _ h => h) (Or.inl ⟨by rfl, fun w hS => by obtain ⟨a0, a1, a2, a3, a4⟩ := hS.five; go_simp⟩) HS1.out ?_
  refine wpAnyH_take (i := 6) (v := .agg #[.int .i64 f, .int .i64 d]) rfl (by kernel_rfl) (by kernel_rfl) (by kernel_rfl) (fun _ _ _ h => h) (Or.inl ⟨by rfl, fun w hS => by obtain ⟨a0, a1, a2, a3, a4⟩ := hS.five; go_simp⟩) HS1.out ?_
  refine wpAnyH_take (i := 8) (v := .agg #[.int .i64 f, .int .i64 d]) rfl (by kernel_rfl) (by kernel_rfl) (by kernel_rfl) (fun _ _ _ h => h) (Or.inl ⟨by rfl, fun w hS => by obtain ⟨a0, a1, a2, a3, a4⟩ := hS.five; go_simp⟩) HS1.out ?_
  refine wpAnyH_take (i := 10) (v := .agg #[.int .i64 f, .int .i64 d]) rfl (by kernel_rfl) (by kernel_rfl) (by kernel_rfl) (fun _ _ _ h => h) (Or.inl ⟨by rfl, fun w hS => by obtain ⟨a0, a1, a2, a3, a4⟩ := hS.five; go_simp⟩) HS1.out ?_
  refine wpAnyH_take (i := 13) (v := .int .i64 (j : Int)) rfl (by kernel_rfl) (by kernel_rfl) (by kernel_rfl) (fun _ _ _ h => h) (Or.inl ⟨by rfl, fun w hS => by obtain ⟨a0, a1, a2, a3, a4⟩ := hS.five; go_simp⟩) HS1.out ?_
  refine wpAnyH_ready (rs := [7]) (by kernel_rfl) (by simp) (AllReadyH.cons rfl (fun K hK => ?_) AllReadyH.nil)
  go_simp
  refine (HLo.out _).mono ?_
  rintro r U1 ⟨rfl, hb⟩
  have HS2 := hide (HS1.out.below hb)
  clear hb HS1 HLo
  refine hK.out _ _ HS2.out (fun _ => ?_)
  clear hK K
  refine wpAnyH_ready (rs := [9]) (by kernel_rfl) (by simp) (AllReadyH.cons rfl (fun K hK => ?_) AllReadyH.nil)
  go_simp
  refine (HHi.out _).mono ?_
  rintro r U2 ⟨rfl, hb⟩
  have HS3 := hide (HS2.out.below hb)
  clear hb HS2 HHi
  refine hK.out _ _ HS3.out (fun _ => ?_)
  clear hK K
  refine wpAnyH_ready (rs := [11]) (by kernel_rfl) (by simp) (AllReadyH.cons rfl (fun K hK => ?_) AllReadyH.nil)
  go_simp
  refine (HBo.out _).mono ?_
  rintro r U3 ⟨rfl, hb⟩
  have HS4 := hide (HS3.out.below hb)
  clear hb HS3 HBo
  refine hK.out _ _ HS4.out (fun _ => ?_)
  clear hK K
  refine wpAnyH_ready (rs := [12]) (by kernel_rfl) (by simp) (AllReadyH.cons rfl (fun K hK => ?_) AllReadyH.nil)
  go_simp
  have HS5 := hide (And.intro (HS4.out.below (bel1 U3 (.cells (wnC f d v) 3))) ((HasC.new U3 3 (wnC f d v)).cell j HAt.out))
  clear HS4 HAt
  refine hK.out _ _ HS5.out.1 (fun _ => ?_)
  clear hK K
  refine wpAnyH_less (S' := fun w => Iq W w f d v a n cap ∧ w.cell? ⟨U3.heap.size, j, none⟩ = some (.int .i64 R)) (fun _ h => h.1) ?_
  refine wpAnyH_take (i := 14) (v := .pointer (some ⟨U3.heap.size, j, none⟩)) rfl (by kernel_rfl) (by kernel_rfl) (by kernel_rfl) (fun _ _ _ h => h) (Or.inl ⟨by rfl, fun w hS => by have hm := hS.2; go_simp⟩) HS5.out ?_
  refine wpAnyH_take (i := 15) (v := .int .i64 R) rfl (by kernel_rfl) (by kernel_rfl) (by kernel_rfl) (fun _ _ _ h => h) (Or.inl ⟨by rfl, fun w hS => by have hm := hS.2; go_simp⟩) HS5.out ?_
  refine wpAnyH_take (i := 16) (v := .int .i64 R) rfl (by kernel_rfl) (by kernel_rfl) (by kernel_rfl) (fun _ _ _ h => h) (Or.inl ⟨by rfl, fun w hS => by have hm := hS.2; go_simp⟩) HS5.out ?_
  refine wpAnyH_done (by kernel_rfl) ?_ _
  go_simp
  go_wp2_with fail
  go_ret
  exact ⟨rfl, HS5.out.1.lo⟩

end Go.Proofs.Ythkihmbgdfnofaa

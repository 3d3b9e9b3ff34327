/-
  reduce's writer: its state; put, number, times.
-/
import Derived.Test.YtijbmdmeiancgaaGreatMU0
import Derived.Test.YtijbmdmeiancgaaGreatMU1
namespace Go.Proofs.Rdc
open Go.RowKit Go.IntWalk YtijbmdmeiancgaaGreat.Knd
open Cde (In i0 ia kd cd Ins at6 six_of four_of two_of has_new1 okI okT below_drew is6 i6 zA take_snoc)
open Vfy (vfE vfN vfC Sps)
open Fld (In1 rg gv)
set_option linter.unusedVariables false

theorem has_ne {W : World} {a b : Nat} {s t : TypeId} {cs ds : Array Value} (h : HasC W a s cs) (k : HasC W b t ds) (hn : s ≠ t) : a ≠ b := by
  rintro rfl
  unfold HasC at h k
  rw [h] at k
  cases k
  exact hn rfl
/-- The writer in the block b: what it reads lies in the world W, what it writes is its own. -/
structure Wt (W V : World) (b : Nat) (wv sv mv tv : Value) (M : List In) (T : List Int) : Prop where
  w : HasC V b 145 #[wv, sv, mv, tv]
  m : V.ownsRow b 57 6 mv M.length (is6 M)
  t : V.ownsRow b 3 1 tv T.length (i64s T)
  lo : Below W.heap.size W V
  hb : W.heap.size ≤ b
theorem Wt.below {W V V' : World} {b : Nat} {wv sv mv tv : Value} {M : List In} {T : List Int} (h : Wt W V b wv sv mv tv M T) (hb : Below V.heap.size V V') : Wt W V' b wv sv mv tv M T :=
  ⟨h.w.below hb, Cde.own_later h.m hb, Cde.own_later h.t hb, bel h.lo hb, h.hb⟩
theorem low_of {b : Nat} {V V' : World} (hb : b ≤ V.heap.size) (h : Below V.heap.size V V') : Below b V V' := h.mono hb
theorem Wt.le {W V : World} {b : Nat} {wv sv mv tv : Value} {M : List In} {T : List Int} (h : Wt W V b wv sv mv tv M T) : b ≤ V.heap.size := Nat.le_of_lt h.w.lt
theorem Wt.growM {W V w' : World} {b : Nat} {wv sv mv tv mv' : Value} {M M' : List In} {T : List Int} (h : Wt W V b wv sv mv tv M T) (hg : V.grownBy w' mv.ownBlock) (hO : w'.ownsRow b 57 6 mv' M'.length (is6 M')) :
    Wt W (w'.setCell ⟨b, 2, none⟩ mv') b wv sv mv' tv M' T ∧ Below b V (w'.setCell ⟨b, 2, none⟩ mv') := by
  have hW := own_grow h.m hg h.w (by decide)
  have hT := own_two h.m h.t (by decide) hg
  have hB : Below b V w' := (Below.refl b V).grown hg h.le fun k hk => (Cde.owns_block h.m k hk).1
  exact ⟨⟨hW.set 2 mv', ownsRow_setCell_other hO (a := ⟨b, 2, none⟩) (own_ne hO hW (by decide)) _, ownsRow_setCell_other hT (a := ⟨b, 2, none⟩) (own_ne hT hW (by decide)) _, (h.lo.grown hg h.lo.size fun k hk => Nat.le_trans h.hb (Cde.owns_block h.m k hk).1).setCell (p := ⟨b, 2, none⟩) h.hb _, h.hb⟩, hB.setCell (p := ⟨b, 2, none⟩) (Nat.le_refl _) _⟩
theorem Wt.growT {W V w' : World} {b : Nat} {wv sv mv tv tv' : Value} {M : List In} {T T' : List Int} (h : Wt W V b wv sv mv tv M T) (hg : V.grownBy w' tv.ownBlock) (hO : w'.ownsRow b 3 1 tv' T'.length (i64s T')) :
    Wt W (w'.setCell ⟨b, 3, none⟩ tv') b wv sv mv tv' M T' ∧ Below b V (w'.setCell ⟨b, 3, none⟩ tv') := by
  have hW := own_grow h.t hg h.w (by decide)
  have hM := own_two h.t h.m (by decide) hg
  have hB : Below b V w' := (Below.refl b V).grown hg h.le fun k hk => (Cde.owns_block h.t k hk).1
  exact ⟨⟨hW.set 3 tv', ownsRow_setCell_other hM (a := ⟨b, 3, none⟩) (own_ne hM hW (by decide)) _, ownsRow_setCell_other hO (a := ⟨b, 3, none⟩) (own_ne hO hW (by decide)) _, (h.lo.grown hg h.lo.size fun k hk => Nat.le_trans h.hb (Cde.owns_block h.t k hk).1).setCell (p := ⟨b, 3, none⟩) h.hb _, h.hb⟩, hB.setCell (p := ⟨b, 3, none⟩) (Nat.le_refl _) _⟩
theorem Wt.ints {W V : World} {b : Nat} {wv sv mv tv : Value} {M : List In} {T : List Int} (h : Wt W V b wv sv mv tv M T) : ∃ a c, tv = .slice a T.length c ∧ Ints V a T.length c T := by
  obtain ⟨a', c', e, hi, -⟩ := Ints.of_owns h.t
  exact ⟨a', c', e, hi⟩

/-- Boxes of spans stay. -/
def Kp (V V' : World) : Prop := ∀ q cs, HasC V q 81 cs → HasC V' q 81 cs
theorem Kp.below {V V' V2 : World} (h : Kp V V') (hb : Below V'.heap.size V' V2) : Kp V V2 := fun q cs hq => (h q cs hq).below hb
theorem Wt.keepM {W V w' : World} {b : Nat} {wv sv mv tv mv' : Value} {M : List In} {T : List Int} (h : Wt W V b wv sv mv tv M T) (hg : V.grownBy w' mv.ownBlock) {V0 : World} (hk : Kp V0 V) : Kp V0 (w'.setCell ⟨b, 2, none⟩ mv') := by
  intro q cs hq
  have hq1 := hk q cs hq
  exact (own_grow h.m hg hq1 (by decide)).other (p := ⟨b, 2, none⟩) (has_ne hq1 h.w (by decide)) _

set_option maxRecDepth 100000 in
set_option maxHeartbeats 4000000 in
theorem uput_all (n : In) {W V : World} {b : Nat} {wv sv mv tv : Value} {M : List In} {T : List Int} (h : Wt W V b wv sv mv tv M T) (hM : M.length ≤ 2000000) :
    Calls Tryz.prog 137 #[.pointer (some ⟨b, 0, none⟩), .agg (ia n)] V fun e V' => e = .returned (.int .i64 (M.length : Int)) ∧ (∃ mv', Wt W V' b wv sv mv' tv (M ++ [n]) T) ∧ Below b V V' ∧ Kp V V' := by
  obtain ⟨ma, mc, rfl, -, -⟩ := Ins.of_owns h.m
  have HF0 := hide (h.below (bel1 V (.cells (ia n) 57)))
  have HN0 := hide (HasC.new V 57 (ia n))
  have HB0 := hide (low_of h.le (bel1 V (.cells (ia n) 57)))
  have HK0 : Hid (Kp V (V.alloc (.cells (ia n) 57))) := hide fun q cs hq => hq.below (bel1 V (.cells (ia n) 57))
  have HM := hide hM
  have HNe : Hid ((Value.slice ma M.length mc).ownBlock ≠ some V.heap.size) := hide fun hk => by
    obtain ⟨-, cs, fr, h1⟩ := Cde.owns_block h.m _ hk
    have := (Array.getElem?_eq_some_iff.1 h1).1
    omega
  obtain ⟨m, hm⟩ : ∃ m, M.length = m := ⟨_, rfl⟩
  have hm2 : m ≤ 2000000 := by omega
  rw [hm] at HF0 HNe ⊢
  have HMl := hide hm
  clear h hM hm
  go_enter Tryz.func137, Tryz.ntmps137
  go_wp2_with fail
  obtain ⟨gb, hgb⟩ : ∃ gb, V.heap.size = gb := ⟨_, rfl⟩
  obtain ⟨V1, hV1⟩ : ∃ V1, V.alloc (.cells (ia n) 57) = V1 := ⟨_, rfl⟩
  rw [hV1] at HF0 HN0 HB0 HK0 ⊢
  rw [hgb] at HN0 HNe ⊢
  clear hV1 hgb
  have HF1 := hide (HF0.out.below (below_drew V1))
  have HN1 := hide (HN0.out.below (below_drew V1))
  have HB1 := hide (HB0.out.drew)
  have HK1 := hide (HK0.out.below (below_drew V1))
  generalize hU : V1.drew = U1 at *
  refine wp_region_held_drew (S := fun w => HasC w gb 57 (ia n)) (by kernel_rfl) (by rw [hU]; exact HN1.out) (fun _ => ?_)
  rw [hU]
  clear hU HF0 HN0 HB0 HK0
  refine wpAnyH_take (i := 0) (v := .pointer (some ⟨b, 0, none⟩)) rfl (by kernel_rfl) (by kernel_rfl) (by kernel_rfl) (fun _ _ _ h => h) (Or.inl ⟨by rfl, fun w hS => by obtain ⟨e0, e1, e2, e3, e4, e5⟩ := six_of hS; go_simp⟩) HN1.out ?_
  refine wpAnyH_take (i := 1) (v := .pointer (some ⟨b, 0, none⟩)) rfl (by kernel_rfl) (by kernel_rfl) (by kernel_rfl) (fun _ _ _ h => h) (Or.inl ⟨by rfl, fun w hS => by obtain ⟨e0, e1, e2, e3, e4, e5⟩ := six_of hS; go_simp⟩) HN1.out ?_
  refine wpAnyH_take (i := 2) (v := .pointer (some ⟨b, 0, none⟩)) rfl (by kernel_rfl) (by kernel_rfl) (by kernel_rfl) (fun _ _ _ h => h) (Or.inl ⟨by rfl, fun w hS => by obtain ⟨e0, e1, e2, e3, e4, e5⟩ := six_of hS; go_simp⟩) HN1.out ?_
  refine wpAnyH_take (i := 3) (v := .pointer (some ⟨b, 2, none⟩)) rfl (by kernel_rfl) (by kernel_rfl) (by kernel_rfl) (fun _ _ _ h => h) (Or.inl ⟨by rfl, fun w hS => by obtain ⟨e0, e1, e2, e3, e4, e5⟩ := six_of hS; go_simp⟩) HN1.out ?_
  refine wpAnyH_take (i := 5) (v := .agg (ia n)) rfl (by kernel_rfl) (by kernel_rfl) (by kernel_rfl) (fun _ _ _ h => h) (Or.inl ⟨by rfl, fun w hS => by obtain ⟨e0, e1, e2, e3, e4, e5⟩ := six_of hS; go_simp⟩) HN1.out ?_
  have HGb := hide (has_ne HN1.out HF1.out.w (by decide))
  refine wpAnyH_ready (rs := [4, 6]) (by kernel_rfl) (by simp) (AllReadyH.cons rfl (fun K hK => ?_) (AllReadyH.cons rfl (fun K hK => ?_) AllReadyH.nil))
  · have c2 := HF1.out.w.cell 2 rfl
    go_simp
    refine hK.out _ _ HN1.out (fun _ => ?_)
    clear hK K c2
    refine wpAnyH_ready (rs := [6]) (by kernel_rfl) (by simp) (AllReadyH.cons rfl (fun K hK => ?_) AllReadyH.nil)
    go_simp
    have HF2 := hide (HF1.out.below (bel1 U1 (.cells (ia n) 57)))
    have HN2 := hide (HN1.out.below (bel1 U1 (.cells (ia n) 57)))
    have HX2 := hide (HasC.new U1 57 (ia n))
    have HBU := hide (HB1.out.alloc HF1.out.le (.cells (ia n) 57))
    have HK2 := hide (HK1.out.below (bel1 U1 (.cells (ia n) 57)))
    refine hK.out _ _ HN2.out (fun _ => ?_)
    clear hK K
    refine wpAnyH_ready (rs := [7]) (by kernel_rfl) (by simp) (AllReadyH.cons rfl (fun K hK => ?_) AllReadyH.nil)
    refine ins_step (L := M) (by rfl) _ _ (by rfl) (by rw [← HMl.out]; rfl) HF2.out.m HF2.out.le _ n (by rfl) HX2.out HM.out ?_
    intro g cap w3 hown hgr
    have hN3 := HN2.out.kept hgr (fun he => HNe.out he.symm)
    obtain ⟨hW3, hB3⟩ := HF2.out.growM hgr hown
    have hK3 := HF2.out.keepM (mv' := .slice (some ⟨g, 0, none⟩) (M.length + 1) cap) hgr HK2.out
    have hc3 := own_grow HF2.out.m hgr HF2.out.w (by decide)
    have v2 := hc3.cell 2 rfl
    have yv := hc3.frozen 2
    rw [HMl.out] at hW3 hB3 hK3 ⊢
    refine hK.out _ _ hN3 (fun _ => ?_)
    clear hK K
    refine wpAnyH_take (i := 8) (v := .pointer (some ⟨b, 0, none⟩)) rfl (by kernel_rfl) (by kernel_rfl) (by kernel_rfl) (fun _ _ _ h => h) (Or.inl ⟨by rfl, fun w hS => by obtain ⟨e0, e1, e2, e3, e4, e5⟩ := six_of hS; go_simp⟩) hN3 ?_
    refine wpAnyH_take (i := 9) (v := .pointer (some ⟨b, 2, none⟩)) rfl (by kernel_rfl) (by kernel_rfl) (by kernel_rfl) (fun _ _ _ h => h) (Or.inl ⟨by rfl, fun w hS => by obtain ⟨e0, e1, e2, e3, e4, e5⟩ := six_of hS; go_simp⟩) hN3 ?_
    refine wpAnyH_ready (rs := [10]) (by kernel_rfl) (by simp) (AllReadyH.cons rfl (fun K hK => ?_) AllReadyH.nil)
    go_simp
    refine hK.out _ _ (hN3.other (p := ⟨b, 2, none⟩) HGb.out _) (fun _ => ?_)
    clear hK K
    refine wpAnyH_done (by kernel_rfl) ?_ _
    go_simp
    have HW4 := hide hW3
    have HB4 := hide (HBU.out.trans hB3)
    have HK4 := hide hK3
    obtain ⟨x0, x1, x2, x3⟩ := four_of hW3.w
    clear v2 yv hc3 hN3 hown hgr hW3 hB3 hK3
    go_wp2_with fail
    go_ret
    exact ⟨rfl, ⟨_, HW4.out⟩, HB4.out, HK4.out⟩
  · go_simp
    have HF2 := hide (HF1.out.below (bel1 U1 (.cells (ia n) 57)))
    have HN2 := hide (HN1.out.below (bel1 U1 (.cells (ia n) 57)))
    have HX2 := hide (HasC.new U1 57 (ia n))
    have HBU := hide (HB1.out.alloc HF1.out.le (.cells (ia n) 57))
    have HK2 := hide (HK1.out.below (bel1 U1 (.cells (ia n) 57)))
    refine hK.out _ _ HN2.out (fun _ => ?_)
    clear hK K
    refine wpAnyH_ready (rs := [4]) (by kernel_rfl) (by simp) (AllReadyH.cons rfl (fun K hK => ?_) AllReadyH.nil)
    have c2 := HF2.out.w.cell 2 rfl
    go_simp
    refine hK.out _ _ HN2.out (fun _ => ?_)
    clear hK K c2
    refine wpAnyH_ready (rs := [7]) (by kernel_rfl) (by simp) (AllReadyH.cons rfl (fun K hK => ?_) AllReadyH.nil)
    refine ins_step (L := M) (by rfl) _ _ (by rfl) (by rw [← HMl.out]; rfl) HF2.out.m HF2.out.le _ n (by rfl) HX2.out HM.out ?_
    intro g cap w3 hown hgr
    have hN3 := HN2.out.kept hgr (fun he => HNe.out he.symm)
    obtain ⟨hW3, hB3⟩ := HF2.out.growM hgr hown
    have hK3 := HF2.out.keepM (mv' := .slice (some ⟨g, 0, none⟩) (M.length + 1) cap) hgr HK2.out
    have hc3 := own_grow HF2.out.m hgr HF2.out.w (by decide)
    have v2 := hc3.cell 2 rfl
    have yv := hc3.frozen 2
    rw [HMl.out] at hW3 hB3 hK3 ⊢
    refine hK.out _ _ hN3 (fun _ => ?_)
    clear hK K
    refine wpAnyH_take (i := 8) (v := .pointer (some ⟨b, 0, none⟩)) rfl (by kernel_rfl) (by kernel_rfl) (by kernel_rfl) (fun _ _ _ h => h) (Or.inl ⟨by rfl, fun w hS => by obtain ⟨e0, e1, e2, e3, e4, e5⟩ := six_of hS; go_simp⟩) hN3 ?_
    refine wpAnyH_take (i := 9) (v := .pointer (some ⟨b, 2, none⟩)) rfl (by kernel_rfl) (by kernel_rfl) (by kernel_rfl) (fun _ _ _ h => h) (Or.inl ⟨by rfl, fun w hS => by obtain ⟨e0, e1, e2, e3, e4, e5⟩ := six_of hS; go_simp⟩) hN3 ?_
    refine wpAnyH_ready (rs := [10]) (by kernel_rfl) (by simp) (AllReadyH.cons rfl (fun K hK => ?_) AllReadyH.nil)
    go_simp
    refine hK.out _ _ (hN3.other (p := ⟨b, 2, none⟩) HGb.out _) (fun _ => ?_)
    clear hK K
    refine wpAnyH_done (by kernel_rfl) ?_ _
    go_simp
    have HW4 := hide hW3
    have HB4 := hide (HBU.out.trans hB3)
    have HK4 := hide hK3
    obtain ⟨x0, x1, x2, x3⟩ := four_of hW3.w
    clear v2 yv hc3 hN3 hown hgr hW3 hB3 hK3
    go_wp2_with fail
    go_ret
    exact ⟨rfl, ⟨_, HW4.out⟩, HB4.out, HK4.out⟩
theorem uput_any (n : In) {W V : World} {b : Nat} {wv sv mv tv : Value} {M : List In} {T : List Int} (h : Wt W V b wv sv mv tv M T) (hM : M.length ≤ 2000000) :
    Calls Tryz.prog 137 #[.pointer (some ⟨b, 0, none⟩), .agg (ia n)] V fun e V' => e = .returned (.int .i64 (M.length : Int)) ∧ (∃ mv', Wt W V' b wv sv mv' tv (M ++ [n]) T) ∧ Below b V V' :=
  (uput_all n h hM).mono fun e V' ⟨h1, h2, h3, _⟩ => ⟨h1, h2, h3⟩

end Go.Proofs.Rdc

/-
  reduce's writer: number, times, product.
-/
namespace Go.Proofs.Rdc
open Go.RowKit Go.IntWalk YtijbmdmeiancgaaGreat.Knd
open Cde (In i0 ia kd cd Ins at6 six_of four_of two_of has_new1 okI okT below_drew is6 i6 zA take_snoc)
open Vfy (vfE vfN vfC Sps)
open Fld (In1 rg gv)
set_option linter.unusedVariables false

set_option maxRecDepth 100000 in
set_option maxHeartbeats 4000000 in
theorem unumber_any (r : Int) {W V : World} {b : Nat} {wa : Option Addr} {wn wc : Nat} {sv mv tv : Value} {L M : List In} {T : List Int} (h : Wt W V b (.slice wa wn wc) sv mv tv M T) (hL : Ins W wa wn wc L) (hr : In1 r wn) :
    Calls Tryz.prog 165 #[.pointer (some ⟨b, 0, none⟩), .int .i64 r] V fun e V' => e = .returned (.tuple #[.int .i64 (rg L r).k, .bool ((rg L r).op == 1)]) ∧ Below V.heap.size V V' := by
  have hs := hL.short
  obtain ⟨j, rfl⟩ : ∃ k : Nat, r = k := ⟨r.toNat, by have := hr.1; omega⟩
  have hj : j < wn := by have := hr.2; omega
  obtain ⟨g, off, rfl, -, hc⟩ := (hL.later h.lo).at (by omega)
  obtain ⟨c0, c1, c2, c3, c4, c5⟩ := hc j hj
  have w0 := h.w.cell 0 rfl
  unfold rg
  rw [Int.toNat_natCast]
  generalize L.getD j i0 = n at *
  have i0' : (0 : Int) ≤ j := by omega
  have i1' : (j : Int) < wn := by omega
  have HB := hide (bel1 V (.cells (ia n) 57))
  clear hc h hL hr
  go_enter Tryz.func165, Tryz.ntmps165
  go_wp2_with fail
  go_quiet (fail)
  go_wp2_with fail
  exact bodyPost_ret (v := .tuple #[.int .i64 n.k, .bool (n.op == 1)]) (by simp [results, Tryz.results165, go_sem]) rfl ⟨rfl, bel (bel1 V (.cells (ia n) 57)) (Cde.below_dN _ _)⟩

set_option maxRecDepth 100000 in
set_option maxHeartbeats 4000000 in
theorem utimes_any (r k : Int) {W V : World} {b : Nat} {wv sv mv tv : Value} {M : List In} {T : List Int} (h : Wt W V b wv sv mv tv M T) (hM : M.length ≤ 2000000) :
    Calls Tryz.prog 177 #[.pointer (some ⟨b, 0, none⟩), .int .i64 r, .int .i64 k] V fun e V' => e = .returned (.int .i64 (M.length : Int)) ∧ (∃ mv', Wt W V' b wv sv mv' tv (M ++ [tmI r k]) T) ∧ Below b V V' := by
  have HP := hide (upower_any k V)
  have HU := hide fun n => uput_any n h hM
  unfold tmI
  generalize pwZ k = p at *
  clear h hM
  by_cases hp : 0 ≤ p
  · rw [if_pos hp]
    have q : decide (0 ≤ p) = true := by simpa using hp
    clear hp
    go_enter Tryz.func177, Tryz.ntmps177
    go_wp2_with fail
    refine HP.out.mono ?_
    rintro e w' ⟨rfl, rfl⟩
    go_wp2_with fail
    refine (HU.out ⟨29, r, 0, 0, p, 0⟩).mono ?_
    rintro e V1 ⟨rfl, hw, hb⟩
    go_wp2_with fail
    go_ret
    exact ⟨rfl, hw, hb⟩
  · rw [if_neg hp]
    have q : decide (0 ≤ p) = false := by simpa using hp
    clear hp
    go_enter Tryz.func177, Tryz.ntmps177
    go_wp2_with fail
    refine HP.out.mono ?_
    rintro e w' ⟨rfl, rfl⟩
    go_wp2_with fail
    refine (HU.out ⟨32, r, 0, 0, k, 0⟩).mono ?_
    rintro e V1 ⟨rfl, hw, hb⟩
    go_wp2_with fail
    go_ret
    exact ⟨rfl, hw, hb⟩

/-- What the writer's ways answer: what is written, and the last register; or nothing. -/
def QpP (W V : World) (b : Nat) (wv sv tv : Value) (M : List In) (T : List Int) (o : Option (List In)) (e : Ending) (V' : World) : Prop :=
  (∃ Q, o = some Q ∧ e = .returned (.tuple #[.int .i64 (((M.length + Q.length : Nat) : Int) - 1), .bool true]) ∧ (∃ mv', Wt W V' b wv sv mv' tv (M ++ Q) T) ∧ Below b V V') ∨
  (o = none ∧ e = .returned (.tuple #[.int .i64 0, .bool false]) ∧ Below V.heap.size V V')
theorem QpP.one {W V V' : World} {b : Nat} {wv sv tv : Value} {M : List In} {T : List Int} {n : In} {o : Option (List In)} {m : Nat} (ho : o = some [n]) (hm : M.length = m) (h : ∃ mv', Wt W V' b wv sv mv' tv (M ++ [n]) T) (hb : Below b V V') : QpP W V b wv sv tv M T o (.returned (.tuple #[.int .i64 (m : Int), .bool true])) V' := by
  subst hm
  exact .inl ⟨[n], ho, by simp, h, hb⟩
theorem QpP.no {W V V' : World} {b : Nat} {wv sv tv : Value} {M : List In} {T : List Int} {o : Option (List In)} (ho : o = none) (hb : Below V.heap.size V V') : QpP W V b wv sv tv M T o (.returned (.tuple #[.int .i64 0, .bool false])) V' := .inr ⟨ho, rfl, hb⟩
/-- The new register of an old one, in memory. -/
theorem Wt.reg {W V : World} {b : Nat} {wv sv mv tv : Value} {M : List In} {T : List Int} (h : Wt W V b wv sv mv tv M T) {r : Int} (hr : In1 r T.length) : ∃ j g c, r = ((j : Nat) : Int) ∧ j < T.length ∧ T.length ≤ 9223372036854775807 ∧ tv = .slice (some ⟨g, 0, none⟩) T.length c ∧ V.cell? ⟨g, j, none⟩ = some (.int .i64 (gv T r)) := by
  obtain ⟨j, rfl⟩ : ∃ k : Nat, r = k := ⟨r.toNat, by have := hr.1; omega⟩
  have hj : j < T.length := by have := hr.2; omega
  rcases h.t.2 with ⟨e1, e2⟩ | ⟨g, cap, cur, rfl, -⟩
  · omega
  · obtain ⟨a, c, e, hI⟩ := h.ints
    cases e
    obtain ⟨b', off, e', -, hat⟩ := hI.at (by omega)
    cases e'
    have c0 := hat j hj
    rw [Nat.zero_add] at c0
    exact ⟨j, g, cap, rfl, hj, by have := hI.le; have := hI.max; unfold maxLen at this; omega, rfl, c0⟩

end Go.Proofs.Rdc

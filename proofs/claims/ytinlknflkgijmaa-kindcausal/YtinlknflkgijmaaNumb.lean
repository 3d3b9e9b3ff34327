/-
  The walks of kind.numbers and kind.Number: the number of a place.
-/
import Derived.Test.YtinlknflkgijmaaKey
import Derived.Lib.QuietBelow
import Derived.BigQuiet
import Derived.Deep.RegionWith
namespace Go.Proofs.Ytinlknflkgijmaa
open Go.RowKit Go.Shelf Go.Maps
set_option linter.unusedVariables false
attribute [local go_sem] Oper.semAt_some

theorem bsz {w w2 : World} {o : Obj} (h : Below (w.alloc o).heap.size (w.alloc o) w2) : w.heap.size < w2.heap.size := by have := h.size; simp at this; omega

theorem run_makeMap53 (c : Int) (w : World) : (Instr.makeMap 53 (some (.int .i64 c))).run Try.prog w = .ok (.map (some w.heap.size)) (w.alloc (.map #[] 0)) := by
  simp [Instr.makeMap, run_underlying Try.underlying53, go_sem]

set_option maxRecDepth 100000 in
set_option maxHeartbeats 4000000 in
theorem numbers_in (m : Nat) (hm : 6 ≤ m) (f d : Int) (w : World) :
    CallsIn Fence.wide m Try.prog 34 #[.agg #[.int .i64 f, .int .i64 d]] w fun e w' => ∃ b D, e = .returned (.map (some b)) ∧ w'.ownsMap Try.prog 30 (plainElem (H := Unit) Try.prog 3) b 64 D ∧ Tab (plcs f d) (upto (plcs f d).length) D ∧ Below w.heap.size w w' := by
  have h1 : 1 ≤ m := by omega
  have hro : Fence.wide.round = none := rfl
  have hmm := run_makeMap53
  have hb := bel1 w (.cells #[.int .i64 f, .int .i64 d] 23)
  refine callsIn_of_wp_marks Try.func34 rfl trivial ?_ hro
  simp only [Try.ntmps34, List.size_toArray, List.length_cons, List.length_nil, Nat.reduceAdd, Nat.reduceSub, Array.replicate_succ, Array.replicate_zero, List.push_toArray, List.append_toArray, List.nil_append, List.cons_append]
  gi_wp2_with (refine ⟨trivial, ?_⟩; first | (gi_at_call 30; refine (callsIn_wide.2 (all_any f d _)).mono ?_; rintro e w3 ⟨rfl, rfl⟩) | (gi_at_call 18; refine (callsIn_wide.2 (count_any f d _)).mono ?_; rintro e w2 ⟨rfl, hb2⟩; obtain ⟨hc2, hf2⟩ := bcell hb2; have hz2 := bsz hb2))
  have HB2 := hide (bel hb hb2)
  have hKd := HasC.new ((w2.alloc (.map #[] 0)).alloc (.cells #[.map (some w2.heap.size)] 53)) 23 #[.int .i64 f, .int .i64 d]
  have hLs := (HasC.new (w2.alloc (.map #[] 0)) 53 #[.map (some w2.heap.size)]).alloc (.cells #[.int .i64 f, .int .i64 d] 23)
  have hM := ((World.ownsMap_made w2 Try.prog 30 (plainElem (H := Unit) Try.prog 3)).alloc (.cells #[.map (some w2.heap.size)] 53)).alloc (.cells #[.int .i64 f, .int .i64 d] 23)
  have hsz : (((w2.alloc (.map #[] 0)).alloc (.cells #[.map (some w2.heap.size)] 53)).alloc (.cells #[.int .i64 f, .int .i64 d] 23)).heap.size = w2.heap.size + 3 := by simp
  have hB0 : Below w.heap.size w (((w2.alloc (.map #[] 0)).alloc (.cells #[.map (some w2.heap.size)] 53)).alloc (.cells #[.int .i64 f, .int .i64 d] 23)) :=
    ((HB2.out.alloc HB2.out.size _).alloc (by have := HB2.out.size; simp; omega) _).alloc (by have := HB2.out.size; simp; omega) _
  simp only [World.size_alloc] at hKd hLs
  obtain ⟨W0, hW0⟩ : ∃ W0, (((w2.alloc (.map #[] 0)).alloc (.cells #[.map (some w2.heap.size)] 53)).alloc (.cells #[.int .i64 f, .int .i64 d] 23)) = W0 := ⟨_, rfl⟩
  rw [hW0] at hKd hLs hM hsz hB0 ⊢
  clear hW0 hc2 hf2 hb2 hb HB2
  obtain ⟨Z, hZ⟩ : ∃ Z, w2.heap.size = Z := ⟨_, rfl⟩
  rw [hZ] at hKd hLs hM hsz hz2 ⊢
  clear hZ
  obtain ⟨L, hL⟩ : ∃ L, L = plcs f d := ⟨_, rfl⟩
  have HL := hide hL
  have hseq := all_stops (m - 1) (by omega) (Z + 1 + 1) W0.heap.size f d W0 (by omega) (Nat.le_refl _) (hKd.cell 0 rfl) (hKd.cell 1 rfl)
  rw [← hL] at hseq
  clear hL
  refine wpIn_rangeFunc_ownH hro h1 (gf := 40) (lb := #[.pointer (some ⟨Z + 1 + 1, 0, none⟩)]) rfl trivial (enters_of Try.func40 (by kernel_rfl) rfl)
    hseq (fun h k => h.trans k) keepsIn_b (Below.refl _ _) (fun _ => rfl)
    (fun pre W => (HasC W (Z + 1) 53 #[.map (some Z)] ∧ ∃ D, W.ownsMap Try.prog 30 (plainElem (H := Unit) Try.prog 3) Z pre.length D ∧ Tab L pre D) ∧ Below w.heap.size w W)
    (fun _ _ _ => False)
    (OwnFrom.and (OwnFrom.and (ownFrom_hasC _ _ _) (fun s X Y row hs hg hr => by
      obtain ⟨D, h1, h2⟩ := hs
      exact ⟨D, h1.kept hg (fun e => by have := (hr _ e.symm).1; omega), h2⟩)) (ownFrom_below (Nat.le_refl _) (by omega)))
    (fun _ _ _ _ _ hs _ _ => hs)
    ⟨⟨hLs, _, hM, Tab.nil L⟩, hB0⟩
    (fun x a' W => ∃ Bx, Z + 1 < Bx ∧ HasC W Bx 30 (pcells (L.getD x.val zp)) ∧ a' = { tmps := #[.agg #[.int .i64 f, .int .i64 d], .pointer (some ⟨w.heap.size, 0, none⟩), .map none, .pointer (some ⟨Z + 1, 0, none⟩), .int .i64 (x.val : Int), .pointer (some ⟨Bx, 0, none⟩), .agg #[.int .i64 f, .int .i64 d], .int .i64 (countZ f d), .map (some Z), .agg #[.int .i64 f, .int .i64 d], .func (.func 40) #[] #[.pointer (some ⟨Z + 1 + 1, 0, none⟩)], .int .i64 (x.val : Int), .agg (pcells (L.getD x.val zp)), undef, undef, undef, undef], defers := [] })
    (fun x a' _ X Y row hs hg hr => by obtain ⟨Bx, h1, h2, h3⟩ := hs; exact ⟨Bx, h1, hasC_own Bx 30 (fun (_ : Unit) => pcells (L.getD x.val zp)) () X Y row h2 hg (fun r e => (hr r e).2), h3⟩)
    ?assign ?body ?done ?stop
  case assign =>
    rintro l pre x W K ⟨⟨hLs1, D, hM1, hT1⟩, hB1⟩ hK
    simp only [encs]
    gi_wp2
    exact hK _ _ ((KeepsOthers.alloc _ _).from _) (KeepsIn.of_below (bel1 _ _)) ⟨⟨hLs1.alloc _, D, hM1.alloc _, hT1⟩, hB1.alloc hB1.size _⟩ ⟨W.heap.size, hLs1.lt, HasC.new W 30 _, rfl⟩
  case body =>
    rintro l pre x a' W hl ⟨r, hr⟩ ⟨⟨hLs1, D, hM1, hT1⟩, hB1⟩ ⟨Bx, hBx, hX, rfl⟩ hlt
    have cL := hLs1.cell 0 rfl
    obtain ⟨p, hp0⟩ : ∃ p, p = L.getD x.val zp := ⟨_, rfl⟩
    have hpw : p.wf := by rw [hp0, HL.out]; exact getD_wf f d _
    rw [← hp0] at hX ⊢
    have HP := hide hp0
    have HT := hide hT1
    have HM := hide hM1
    clear hp0 hT1 hM1
    have cx0 : W.cell? ⟨Bx, 0, none⟩ = some (.int .i64 p.back) := hX.cell 0 rfl
    have cx1 : W.cell? ⟨Bx, 1, none⟩ = some (.int .i64 p.coords) := hX.cell 1 rfl
    have cx2 : W.cell? ⟨Bx, 2, none⟩ = some (.int .i64 p.x) := hX.cell 2 rfl
    have cx3 : W.cell? ⟨Bx, 3, none⟩ = some (.int .i64 p.y) := hX.cell 3 rfl
    have hl64 : pre.length < 64 := by have := (blks_bound f d).1; rw [← HL.out] at this; omega
    gi_wp2_with (gi_at_mapUpdate; refine wpListIn_mapUpdate_own _ rfl _ _ _ 53 rfl 30 3 law30 Try.underlying53 _ Z pre.length _ rfl HM.out (by unfold maxLen; omega) _ _ _ rfl rfl (key_some hpw) _ [] (plainElem_int Try.underlying3 (wf64_lit (n := (x.val : Int)) (by unfold wf64; omega))) ?_; intro w1 hown1 hgrow1)
    exact ⟨KeepsFrom.of_grownBy hgrow1 (fun j e => by cases e; omega), KeepsIn.of_grownBy hgrow1 (fun j e => by cases e; exact .inl (by omega)),
      ⟨hLs1.kept hgrow1 (by simp), _, by rw [List.length_append]; exact hown1, by have h := HT.out.snoc x (by rw [← HP.out]; exact hpw); rw [← HP.out] at h; exact h⟩, hB1.grown hgrow1 hB1.size (fun k e => by cases e; omega)⟩
  case done =>
    rintro D0 ys W hD rfl ⟨⟨hLs1, D, hM1, hT1⟩, hB1⟩ hK
    have cL := hLs1.cell 0 rfl
    have hle := (blks_bound f d).1
    rw [← HL.out] at hle
    rw [upto_len _ (by omega)] at hM1
    gi_wp2
    refine ⟨by simp, .inl ⟨_, _, rfl, run_takeDeferred hK, ?_⟩⟩
    refine ⟨_, results_tmp rfl _ _ _, Z, D, rfl, (hM1.mono (by omega)).kept (grownBy_putObj' _ D0 _) (fun e => by cases e; omega), by rw [← HL.out]; exact hT1, hB1.trans (belowK_b (w := w) (Nat.le_refl _) W D0 _ _ (by omega) hK rfl rfl)⟩
  case stop =>
    rintro D c pre W _ _ h _
    exact h.elim


theorem numbers_any (f d : Int) (w : World) :
    Calls Try.prog 34 #[.agg #[.int .i64 f, .int .i64 d]] w fun e w' => ∃ b D, e = .returned (.map (some b)) ∧ w'.ownsMap Try.prog 30 (plainElem (H := Unit) Try.prog 3) b 64 D ∧ Tab (plcs f d) (upto (plcs f d).length) D ∧ Below w.heap.size w w' :=
  callsIn_wide.1 (numbers_in 6 (Nat.le_refl _) f d w)

def numZ (f d : Int) (p : Plc) : Option Nat := look (plcs f d) (upto (plcs f d).length) p
def numV (f d : Int) (p : Plc) : Value := .tuple #[.int .i64 (((numZ f d p).getD 0 : Nat) : Int), .bool (numZ f d p).isSome]

/-- A look at the table. -/
theorem look30 {f d : Int} {p : Plc} (hp : p.wf) {w2 : World} {b : Nat} {D : DataW Unit} (hM : w2.ownsMap Try.prog 30 (plainElem (H := Unit) Try.prog 3) b 64 D) (hT : Tab (plcs f d) (upto (plcs f d).length) D) :
    ∃ c q, (Instr.lookup 53 (.map (some b)) (.agg #[.int .i64 p.back, .int .i64 p.coords, .int .i64 p.x, .int .i64 p.y]) true).run Try.prog w2 = .ok (.tuple #[.int .i64 c, .bool q]) w2 ∧ Hid (.tuple #[.int .i64 c, .bool q] = numV f d p) := by
  obtain ⟨v, ps, hrun, hv⟩ := hM.look_ok law30 Try.underlying53 (Try.zeroValue3 w2) (plainElem_int Try.underlying3 (wf64_lit (n := 0) (by unfold wf64; omega))) (key_some hp)
  obtain ⟨c, rfl, hc, hwc⟩ := plainElem_int_inv Try.underlying3 hv
  obtain ⟨t1, t2⟩ := hT.2 p hp
  have hc1 : D.atKey (kl p) (.lit (.int .i64 0)) = .lit (.int .i64 c) := congrArg Prod.fst hc
  rw [t2] at hc1
  simp at hc1
  refine ⟨_, _, hrun, ?_⟩
  unfold Hid
  rw [t1, ← hc1]
  rfl

set_option maxHeartbeats 4000000 in
theorem number_any (f d : Int) (p : Plc) (hp : p.wf) (w : World) :
    Calls Try.prog 20 #[.agg #[.int .i64 f, .int .i64 d], .agg #[.int .i64 p.back, .int .i64 p.coords, .int .i64 p.x, .int .i64 p.y]] w fun e w' => e = .returned (numV f d p) ∧ Below w.heap.size w w' := by
  have hb := (bel1 w (.cells #[.int .i64 f, .int .i64 d] 23)).alloc (by simp) (.cells #[.int .i64 p.back, .int .i64 p.coords, .int .i64 p.x, .int .i64 p.y] 30)
  go_enter Try.func20, Try.ntmps20
  go_wp2
  go_region_with (go_at_call 34; refine (numbers_any _ _ _).mono ?_; rintro e w2 ⟨b, D, rfl, hM, hT, hb2⟩; obtain ⟨hc2, hf2⟩ := bcell hb2; obtain ⟨c, q, hrun, hv⟩ := look30 hp hM hT)
  all_goals go_simp
  all_goals go_wp2
  all_goals go_ret2
  all_goals exact ⟨by rw [← hv.out]; rfl, bel hb.drew hb2⟩

end Go.Proofs.Ytinlknflkgijmaa

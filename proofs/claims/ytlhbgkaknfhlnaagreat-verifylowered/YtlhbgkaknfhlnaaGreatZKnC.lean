/-
  The walks of kind.numbers and kind.Number: the number of a place.
-/
import Derived.Test.YtlhbgkaknfhlnaaGreatZKnB
import Derived.Lib.QuietBelow
import Derived.BigQuiet
import Derived.Deep.RegionWith
namespace Go.Proofs.YtlhbgkaknfhlnaaGreat.Knd
open Go.RowKit Go.Shelf Go.Maps
set_option linter.unusedVariables false
attribute [local go_sem] Oper.semAt_some

theorem bsz {w w2 : World} {o : Obj} (h : Below (w.alloc o).heap.size (w.alloc o) w2) : w.heap.size < w2.heap.size := by have := h.size; simp at this; omega

theorem run_makeMap53 (c : Int) (w : World) : (Instr.makeMap 122 (some (.int .i64 c))).run Tryz.prog w = .ok (.map (some w.heap.size)) (w.alloc (.map #[] 0)) := by
  simp [Instr.makeMap, run_underlying Tryz.underlying122, go_sem]

set_option maxRecDepth 100000 in
set_option maxHeartbeats 4000000 in
theorem numbers_in (m : Nat) (hm : 6 ≤ m) (f d : Int) (w : World) :
    CallsIn Fence.wide m Tryz.prog 91 #[.agg #[.int .i64 f, .int .i64 d]] w fun e w' => ∃ b D, e = .returned (.map (some b)) ∧ w'.ownsMap Tryz.prog 76 (plainElem (H := Unit) Tryz.prog 3) b 64 D ∧ Tab (plcs f d) (upto (plcs f d).length) D ∧ Below w.heap.size w w' := by
  have h1 : 1 ≤ m := by omega
  have hro : Fence.wide.round = none := rfl
  have hmm := run_makeMap53
  have hb := bel1 w (.cells #[.int .i64 f, .int .i64 d] 23)
  refine callsIn_of_wp_marks Tryz.func91 rfl trivial ?_ hro
  simp only [Tryz.ntmps91, List.size_toArray, List.length_cons, List.length_nil, Nat.reduceAdd, Nat.reduceSub, Array.replicate_succ, Array.replicate_zero, List.push_toArray, List.append_toArray, List.nil_append, List.cons_append]
  gi_wp2_with (refine ⟨trivial, ?_⟩; first | (gi_at_call 124; refine (callsIn_wide.2 (all_any f d _)).mono ?_; rintro e w3 ⟨rfl, rfl⟩) | (gi_at_call 34; refine (callsIn_wide.2 (count_any f d _)).mono ?_; rintro e w2 ⟨rfl, hb2⟩; obtain ⟨hc2, hf2⟩ := bcell hb2; have hz2 := bsz hb2))
  have HB2 := hide (bel hb hb2)
  have hKd := HasC.new ((w2.alloc (.map #[] 0)).alloc (.cells #[.map (some w2.heap.size)] 122)) 23 #[.int .i64 f, .int .i64 d]
  have hLs := (HasC.new (w2.alloc (.map #[] 0)) 122 #[.map (some w2.heap.size)]).alloc (.cells #[.int .i64 f, .int .i64 d] 23)
  have hM := ((World.ownsMap_made w2 Tryz.prog 76 (plainElem (H := Unit) Tryz.prog 3)).alloc (.cells #[.map (some w2.heap.size)] 122)).alloc (.cells #[.int .i64 f, .int .i64 d] 23)
  have hsz : (((w2.alloc (.map #[] 0)).alloc (.cells #[.map (some w2.heap.size)] 122)).alloc (.cells #[.int .i64 f, .int .i64 d] 23)).heap.size = w2.heap.size + 3 := by simp
  have hB0 : Below w.heap.size w (((w2.alloc (.map #[] 0)).alloc (.cells #[.map (some w2.heap.size)] 122)).alloc (.cells #[.int .i64 f, .int .i64 d] 23)) :=
    ((HB2.out.alloc HB2.out.size _).alloc (by have := HB2.out.size; simp; omega) _).alloc (by have := HB2.out.size; simp; omega) _
  simp only [World.size_alloc] at hKd hLs
  obtain ⟨W0, hW0⟩ : ∃ W0, (((w2.alloc (.map #[] 0)).alloc (.cells #[.map (some w2.heap.size)] 122)).alloc (.cells #[.int .i64 f, .int .i64 d] 23)) = W0 := ⟨_, rfl⟩
  rw [hW0] at hKd hLs hM hsz hB0 ⊢
  clear hW0 hc2 hf2 hb2 hb HB2
  obtain ⟨Z, hZ⟩ : ∃ Z, w2.heap.size = Z := ⟨_, rfl⟩
  rw [hZ] at hKd hLs hM hsz hz2 ⊢
  clear hZ
  obtain ⟨L, hL⟩ : ∃ L, L = plcs f d := ⟨_, rfl⟩
  have HL := hide hL
  have hseq := all_stops (m - 1) (by omega) (Z + 1 + 1) W0.heap.size f d W0 (by omega) (Nat.le_refl _) (hKd.cell 0 rfl) (hKd.cell 1 rfl)
  rw [← hL] at hseq
  clear hL
  refine wpIn_rangeFunc_ownH hro h1 (gf := 142) (lb := #[.pointer (some ⟨Z + 1 + 1, 0, none⟩)]) rfl trivial (enters_of Tryz.func142 (by kernel_rfl) rfl)
    hseq (fun h k => h.trans k) keepsIn_b (Below.refl _ _) (fun _ => rfl)
    (fun pre W => (HasC W (Z + 1) 122 #[.map (some Z)] ∧ ∃ D, W.ownsMap Tryz.prog 76 (plainElem (H := Unit) Tryz.prog 3) Z pre.length D ∧ Tab L pre D) ∧ Below w.heap.size w W)
    (fun _ _ _ => False)
    (OwnFrom.and (OwnFrom.and (ownFrom_hasC _ _ _) (fun s X Y row hs hg hr => by
      obtain ⟨D, h1, h2⟩ := hs
      exact ⟨D, h1.kept hg (fun e => by have := (hr _ e.symm).1; omega), h2⟩)) (ownFrom_below (Nat.le_refl _) (by omega)))
    (fun _ _ _ _ _ hs _ _ => hs)
    ⟨⟨hLs, _, hM, Tab.nil L⟩, hB0⟩
    (fun x a' W => ∃ Bx, Z + 1 < Bx ∧ HasC W Bx 76 (pcells (L.getD x.val zp)) ∧ a' = { tmps := #[.agg #[.int .i64 f, .int .i64 d], .pointer (some ⟨w.heap.size, 0, none⟩), .map none, .pointer (some ⟨Z + 1, 0, none⟩), .int .i64 (x.val : Int), .pointer (some ⟨Bx, 0, none⟩), .agg #[.int .i64 f, .int .i64 d], .int .i64 (countZ f d), .map (some Z), .agg #[.int .i64 f, .int .i64 d], .func (.func 142) #[] #[.pointer (some ⟨Z + 1 + 1, 0, none⟩)], .int .i64 (x.val : Int), .agg (pcells (L.getD x.val zp)), undef, undef, undef, undef], defers := [] })
    (fun x a' _ X Y row hs hg hr => by obtain ⟨Bx, h1, h2, h3⟩ := hs; exact ⟨Bx, h1, hasC_own Bx 76 (fun (_ : Unit) => pcells (L.getD x.val zp)) () X Y row h2 hg (fun r e => (hr r e).2), h3⟩)
    ?assign ?body ?done ?stop
  case assign =>
    rintro l pre x W K ⟨⟨hLs1, D, hM1, hT1⟩, hB1⟩ hK
    simp only [encs]
    gi_wp2
    exact hK _ _ ((KeepsOthers.alloc _ _).from _) (KeepsIn.of_below (bel1 _ _)) ⟨⟨hLs1.alloc _, D, hM1.alloc _, hT1⟩, hB1.alloc hB1.size _⟩ ⟨W.heap.size, hLs1.lt, HasC.new W 76 _, rfl⟩
  case body =>
    rintro l pre x a' W hl ⟨r, hr⟩ ⟨⟨hLs1, D, hM1, hT1⟩, hB1⟩ ⟨Bx, hBx, hX, rfl⟩ hlt
    have cL := hLs1.cell 0 rfl
    obtain ⟨p, hp0⟩ : ∃ p, p = L.getD x.val zp := ⟨_, rfl⟩
    have hpw : p.wf := by rw [hp0, HL.out]; exact getD_wf f d _
    rw [← hp0] at hX ⊢
    have HP := hide hp0
    have HT := hide hT1
    have HM := hide hM1
    clear hp0 hT1 hM1
    have cx0 : W.cell? ⟨Bx, 0, none⟩ = some (.int .i64 p.back) := hX.cell 0 rfl
    have cx1 : W.cell? ⟨Bx, 1, none⟩ = some (.int .i64 p.coords) := hX.cell 1 rfl
    have cx2 : W.cell? ⟨Bx, 2, none⟩ = some (.int .i64 p.x) := hX.cell 2 rfl
    have cx3 : W.cell? ⟨Bx, 3, none⟩ = some (.int .i64 p.y) := hX.cell 3 rfl
    have hl64 : pre.length < 64 := by have := (blks_bound f d).1; rw [← HL.out] at this; omega
    gi_wp2_with (gi_at_mapUpdate; refine wpListIn_mapUpdate_own _ rfl _ _ _ 122 rfl 76 3 law30 Tryz.underlying122 _ Z pre.length _ rfl HM.out (by unfold maxLen; omega) _ _ _ rfl rfl (key_some hpw) _ [] (plainElem_int Tryz.underlying3 (wf64_lit (n := (x.val : Int)) (by unfold wf64; omega))) ?_; intro w1 hown1 hgrow1)
    exact ⟨KeepsFrom.of_grownBy hgrow1 (fun j e => by cases e; omega), KeepsIn.of_grownBy hgrow1 (fun j e => by cases e; exact .inl (by omega)),
      ⟨hLs1.kept hgrow1 (by simp), _, by rw [List.length_append]; exact hown1, by have h := HT.out.snoc x (by rw [← HP.out]; exact hpw); rw [← HP.out] at h; exact h⟩, hB1.grown hgrow1 hB1.size (fun k e => by cases e; omega)⟩
  case done =>
    rintro D0 ys W hD rfl ⟨⟨hLs1, D, hM1, hT1⟩, hB1⟩ hK
    have cL := hLs1.cell 0 rfl
    have hle := (blks_bound f d).1
    rw [← HL.out] at hle
    rw [upto_len _ (by omega)] at hM1
    gi_wp2
    refine ⟨by simp, .inl ⟨_, _, rfl, run_takeDeferred hK, ?_⟩⟩
    refine ⟨_, results_tmp rfl _ _ _, Z, D, rfl, (hM1.mono (by omega)).kept (grownBy_putObj' _ D0 _) (fun e => by cases e; omega), by rw [← HL.out]; exact hT1, hB1.trans (belowK_b (w := w) (Nat.le_refl _) W D0 _ _ (by omega) hK rfl rfl)⟩
  case stop =>
    rintro D c pre W _ _ h _
    exact h.elim


theorem numbers_any (f d : Int) (w : World) :
    Calls Tryz.prog 91 #[.agg #[.int .i64 f, .int .i64 d]] w fun e w' => ∃ b D, e = .returned (.map (some b)) ∧ w'.ownsMap Tryz.prog 76 (plainElem (H := Unit) Tryz.prog 3) b 64 D ∧ Tab (plcs f d) (upto (plcs f d).length) D ∧ Below w.heap.size w w' :=
  callsIn_wide.1 (numbers_in 6 (Nat.le_refl _) f d w)

def numZ (f d : Int) (p : Plc) : Option Nat := look (plcs f d) (upto (plcs f d).length) p
def numV (f d : Int) (p : Plc) : Value := .tuple #[.int .i64 (((numZ f d p).getD 0 : Nat) : Int), .bool (numZ f d p).isSome]

/-- A look at the table. -/
theorem look30 {f d : Int} {p : Plc} (hp : p.wf) {w2 : World} {b : Nat} {D : DataW Unit} (hM : w2.ownsMap Tryz.prog 76 (plainElem (H := Unit) Tryz.prog 3) b 64 D) (hT : Tab (plcs f d) (upto (plcs f d).length) D) :
    ∃ c q, (Instr.lookup 122 (.map (some b)) (.agg #[.int .i64 p.back, .int .i64 p.coords, .int .i64 p.x, .int .i64 p.y]) true).run Tryz.prog w2 = .ok (.tuple #[.int .i64 c, .bool q]) w2 ∧ Hid (.tuple #[.int .i64 c, .bool q] = numV f d p) := by
  obtain ⟨v, ps, hrun, hv⟩ := hM.look_ok law30 Tryz.underlying122 (Tryz.zeroValue3 w2) (plainElem_int Tryz.underlying3 (wf64_lit (n := 0) (by unfold wf64; omega))) (key_some hp)
  obtain ⟨c, rfl, hc, hwc⟩ := plainElem_int_inv Tryz.underlying3 hv
  obtain ⟨t1, t2⟩ := hT.2 p hp
  have hc1 : D.atKey (kl p) (.lit (.int .i64 0)) = .lit (.int .i64 c) := congrArg Prod.fst hc
  rw [t2] at hc1
  simp at hc1
  refine ⟨_, _, hrun, ?_⟩
  unfold Hid
  rw [t1, ← hc1]
  rfl

set_option maxRecDepth 100000 in
set_option maxHeartbeats 4000000 in
theorem number_any (f d : Int) (p : Plc) (hp : p.wf) (w : World) :
    Calls Tryz.prog 53 #[.agg #[.int .i64 f, .int .i64 d], .agg #[.int .i64 p.back, .int .i64 p.coords, .int .i64 p.x, .int .i64 p.y]] w fun e w' => e = .returned (numV f d p) ∧ Below w.heap.size w w' := by
  have hb := (bel1 w (.cells #[.int .i64 f, .int .i64 d] 23)).alloc (by simp) (.cells #[.int .i64 p.back, .int .i64 p.coords, .int .i64 p.x, .int .i64 p.y] 76)
  go_enter Tryz.func53, Tryz.ntmps53
  go_wp2
  go_region_with (go_at_call 91; refine (numbers_any _ _ _).mono ?_; rintro e w2 ⟨b, D, rfl, hM, hT, hb2⟩; obtain ⟨hc2, hf2⟩ := bcell hb2; obtain ⟨c, q, hrun, hv⟩ := look30 hp hM hT)
  all_goals go_simp
  all_goals go_wp2
  all_goals go_ret2
  all_goals exact ⟨by rw [← hv.out]; rfl, bel hb.drew hb2⟩

end Go.Proofs.YtlhbgkaknfhlnaaGreat.Knd

/-
  The walks of kind.Input and what it calls, and of kind.lies.
-/
namespace Go.Proofs.YtlhbgkaknfhlnaaGreat.Knd
open Go.RowKit
set_option linter.unusedVariables false

def colZ (f : Int) : Int := if f = 0 then 4096 else 1048576
def rowZ (f : Int) : Int := if f = 0 then 4096 else 1

set_option maxRecDepth 100000 in
set_option maxHeartbeats 1000000 in
theorem columns_any (f d : Int) (w : World) :
    Calls Tryz.prog 95 #[.agg #[.int .i64 f, .int .i64 d]] w fun e w' => e = .returned (.int .i64 (colZ f)) ∧ Below w.heap.size w w' := by
  have hb := bel1 w (.cells #[.int .i64 f, .int .i64 d] 23)
  by_cases h : f = 0
  · subst h
    go_enter Tryz.func95, Tryz.ntmps95
    go_wp2
    go_ret
    exact ⟨rfl, hb⟩
  · go_enter Tryz.func95, Tryz.ntmps95
    go_wp2
    go_ret
    exact ⟨ret_int (by simp [colZ, h]), hb⟩

set_option maxRecDepth 100000 in
set_option maxHeartbeats 1000000 in
theorem rows_any (f d : Int) (w : World) :
    Calls Tryz.prog 96 #[.agg #[.int .i64 f, .int .i64 d]] w fun e w' => e = .returned (.int .i64 (rowZ f)) ∧ Below w.heap.size w w' := by
  have hb := bel1 w (.cells #[.int .i64 f, .int .i64 d] 23)
  by_cases h : f = 0
  · subst h
    go_enter Tryz.func96, Tryz.ntmps96
    go_wp2
    go_ret
    exact ⟨rfl, hb⟩
  · go_enter Tryz.func96, Tryz.ntmps96
    go_wp2
    go_ret
    exact ⟨ret_int (by simp [rowZ, h]), hb⟩

set_option maxRecDepth 100000 in
set_option maxHeartbeats 1000000 in
theorem only_any (n : Int) (w : World) :
    Calls Tryz.prog 97 #[.int .i64 n] w fun e w' => e = .returned (.agg #[.int .i64 n, .int .i64 n]) ∧ Below w.heap.size w w' := by
  go_enter Tryz.func97, Tryz.ntmps97
  go_wp2
  exact bodyPost_ret (v := .agg #[.int .i64 n, .int .i64 n]) (by simp [results, Tryz.results97, go_sem]) rfl ⟨rfl, bel1 _ _⟩

/-- Between what an input lies, if there is one. -/
def inZ (f d n : Int) : Option (Int × Int) :=
  if ¬ May f d then none else
  if n = 0 then some (0, colZ f - 1) else
  if n = 1 then some (0, rowZ f - 1) else
  if n = 2 then some (0, 3) else
  if n = 3 then some (lowZ f d, lowZ f d) else
  if n = 4 then some (highZ f d, highZ f d) else
  if n = 5 then some (borderZ f d, borderZ f d) else none
def inV (f d n : Int) : Value := .tuple #[.agg #[.int .i64 ((inZ f d n).getD (0, 0)).1, .int .i64 ((inZ f d n).getD (0, 0)).2], .bool (inZ f d n).isSome]

theorem facts2 {W : World} {b : Nat} {t : TypeId} {x y : Value} (h : HasC W b t #[x, y]) : W.cell? ⟨b, 0, none⟩ = some x ∧ W.cell? ⟨b, 1, none⟩ = some y ∧ W.frozen? ⟨b, 0, none⟩ = false ∧ W.frozen? ⟨b, 1, none⟩ = false :=
  ⟨h.cell 0 rfl, h.cell 1 rfl, h.frozen 0, h.frozen 1⟩

/-- The end of a walk whose answer lies in a cell of its own: two stores. -/
theorem stored2 {w w2 : World} {b : Nat} (h : HasC w2 b 40 #[.int .i64 0, .int .i64 0]) (hB : Below w.heap.size w w2) (hb : w.heap.size ≤ b) (x y : Int) :
    ((w2.setCell ⟨b, 0, none⟩ (.int .i64 x)).setCell ⟨b, 1, none⟩ (.int .i64 y)).cell? ⟨b, 0, none⟩ = some (.int .i64 x) ∧ ((w2.setCell ⟨b, 0, none⟩ (.int .i64 x)).setCell ⟨b, 1, none⟩ (.int .i64 y)).cell? ⟨b, 1, none⟩ = some (.int .i64 y) ∧
    Below w.heap.size w ((w2.setCell ⟨b, 0, none⟩ (.int .i64 x)).setCell ⟨b, 1, none⟩ (.int .i64 y)) := by
  have h3 := (h.set 0 (.int .i64 x)).set 1 (.int .i64 y)
  exact ⟨h3.cell 0 rfl, h3.cell 1 rfl, (hB.setCell (p := ⟨b, 0, none⟩) hb _).setCell (p := ⟨b, 1, none⟩) hb _⟩

set_option maxRecDepth 100000 in
set_option maxHeartbeats 2000000 in
theorem input_bad (f d n : Int) (hm : ¬ May f d) (w : World) :
    Calls Tryz.prog 61 #[.agg #[.int .i64 f, .int .i64 d], .int .i64 n] w fun e w' => e = .returned (inV f d n) ∧ Below w.heap.size w w' := by
  have HB1 := hide ((bel1 w (.cells #[.int .i64 f, .int .i64 d] 23)).alloc (by simp) (.cells #[.int .i64 0, .int .i64 0] 40))
  have hR : HasC ((w.alloc (.cells #[.int .i64 f, .int .i64 d] 23)).alloc (.cells #[.int .i64 0, .int .i64 0] 40)) (w.heap.size + 1) 40 #[.int .i64 0, .int .i64 0] := by
    have := HasC.new (w.alloc (.cells #[.int .i64 f, .int .i64 d] 23)) 40 #[.int .i64 0, .int .i64 0]
    rwa [World.size_alloc] at this
  have HR1 := hide hR
  have HK1 := hide ((HasC.new w 23 #[.int .i64 f, .int .i64 d]).alloc (.cells #[.int .i64 0, .int .i64 0] 40))
  clear hR
  have e : inV f d n = .tuple #[.agg #[.int .i64 (0), .int .i64 (0)], .bool false] := by simp [inV, inZ, hm]
  rw [e]
  clear e
  go_enter Tryz.func61, Tryz.ntmps61
  go_wp2_with (first
    | (go_at_call 51; refine (check_bad _ _ _ hm).mono ?_; rintro e w2 ⟨rfl, hb2⟩; have HR2 := hide (HR1.out.below hb2); have HK2 := hide (HK1.out.below hb2); have HB2 := hide (bel HB1.out hb2); clear hb2; obtain ⟨s2, t2, u2, v2⟩ := facts2 HR2.out; obtain ⟨x2, y2, -, -⟩ := facts2 HK2.out))
  obtain ⟨c0, c1, hB⟩ := stored2 HR2.out HB2.out (by omega) (0) (0)
  exact bodyPost_ret (v := .tuple #[.agg #[.int .i64 (0), .int .i64 (0)], .bool false]) (by simp [results, Tryz.results61, go_sem, c0, c1]) rfl ⟨rfl, hB⟩

set_option maxRecDepth 100000 in
set_option maxHeartbeats 2000000 in
theorem input0 (f d : Int) (hm : May f d) (w : World) :
    Calls Tryz.prog 61 #[.agg #[.int .i64 f, .int .i64 d], .int .i64 0] w fun e w' => e = .returned (inV f d 0) ∧ Below w.heap.size w w' := by
  have HB1 := hide ((bel1 w (.cells #[.int .i64 f, .int .i64 d] 23)).alloc (by simp) (.cells #[.int .i64 0, .int .i64 0] 40))
  have hR : HasC ((w.alloc (.cells #[.int .i64 f, .int .i64 d] 23)).alloc (.cells #[.int .i64 0, .int .i64 0] 40)) (w.heap.size + 1) 40 #[.int .i64 0, .int .i64 0] := by
    have := HasC.new (w.alloc (.cells #[.int .i64 f, .int .i64 d] 23)) 40 #[.int .i64 0, .int .i64 0]
    rwa [World.size_alloc] at this
  have HR1 := hide hR
  have HK1 := hide ((HasC.new w 23 #[.int .i64 f, .int .i64 d]).alloc (.cells #[.int .i64 0, .int .i64 0] 40))
  clear hR
  have e : inV f d 0 = .tuple #[.agg #[.int .i64 (0), .int .i64 (colZ f - 1)], .bool true] := by simp [inV, inZ, hm]
  rw [e]
  clear e
  obtain ⟨p1, p2⟩ : 0 ≤ colZ f ∧ colZ f ≤ 1048576 := by unfold colZ; split <;> omega
  go_enter Tryz.func61, Tryz.ntmps61
  go_wp2_with (first
    | (go_at_call 51; refine (check_ok _ _ _ hm).mono ?_; rintro e w2 ⟨rfl, hb2⟩; have HR2 := hide (HR1.out.below hb2); have HK2 := hide (HK1.out.below hb2); have HB2 := hide (bel HB1.out hb2); clear hb2; obtain ⟨s2, t2, u2, v2⟩ := facts2 HR2.out; obtain ⟨x2, y2, -, -⟩ := facts2 HK2.out)
    | (go_at_call 95; refine (columns_any _ _ _).mono ?_; rintro e w3 ⟨rfl, hb3⟩; have HR3 := hide (HR2.out.below hb3); have HK3 := hide (HK2.out.below hb3); have HB3 := hide (bel HB2.out hb3); clear hb3; obtain ⟨s3, t3, u3, v3⟩ := facts2 HR3.out; obtain ⟨x3, y3, -, -⟩ := facts2 HK3.out))
  obtain ⟨c0, c1, hB⟩ := stored2 HR3.out HB3.out (by omega) (0) (colZ f - 1)
  exact bodyPost_ret (v := .tuple #[.agg #[.int .i64 (0), .int .i64 (colZ f - 1)], .bool true]) (by simp [results, Tryz.results61, go_sem, c0, c1]) rfl ⟨rfl, hB⟩

set_option maxRecDepth 100000 in
set_option maxHeartbeats 2000000 in
theorem input1 (f d : Int) (hm : May f d) (w : World) :
    Calls Tryz.prog 61 #[.agg #[.int .i64 f, .int .i64 d], .int .i64 1] w fun e w' => e = .returned (inV f d 1) ∧ Below w.heap.size w w' := by
  have HB1 := hide ((bel1 w (.cells #[.int .i64 f, .int .i64 d] 23)).alloc (by simp) (.cells #[.int .i64 0, .int .i64 0] 40))
  have hR : HasC ((w.alloc (.cells #[.int .i64 f, .int .i64 d] 23)).alloc (.cells #[.int .i64 0, .int .i64 0] 40)) (w.heap.size + 1) 40 #[.int .i64 0, .int .i64 0] := by
    have := HasC.new (w.alloc (.cells #[.int .i64 f, .int .i64 d] 23)) 40 #[.int .i64 0, .int .i64 0]
    rwa [World.size_alloc] at this
  have HR1 := hide hR
  have HK1 := hide ((HasC.new w 23 #[.int .i64 f, .int .i64 d]).alloc (.cells #[.int .i64 0, .int .i64 0] 40))
  clear hR
  have e : inV f d 1 = .tuple #[.agg #[.int .i64 (0), .int .i64 (rowZ f - 1)], .bool true] := by simp [inV, inZ, hm]
  rw [e]
  clear e
  obtain ⟨p1, p2⟩ : 0 ≤ rowZ f ∧ rowZ f ≤ 1048576 := by unfold rowZ; split <;> omega
  go_enter Tryz.func61, Tryz.ntmps61
  go_wp2_with (first
    | (go_at_call 51; refine (check_ok _ _ _ hm).mono ?_; rintro e w2 ⟨rfl, hb2⟩; have HR2 := hide (HR1.out.below hb2); have HK2 := hide (HK1.out.below hb2); have HB2 := hide (bel HB1.out hb2); clear hb2; obtain ⟨s2, t2, u2, v2⟩ := facts2 HR2.out; obtain ⟨x2, y2, -, -⟩ := facts2 HK2.out)
    | (go_at_call 96; refine (rows_any _ _ _).mono ?_; rintro e w3 ⟨rfl, hb3⟩; have HR3 := hide (HR2.out.below hb3); have HK3 := hide (HK2.out.below hb3); have HB3 := hide (bel HB2.out hb3); clear hb3; obtain ⟨s3, t3, u3, v3⟩ := facts2 HR3.out; obtain ⟨x3, y3, -, -⟩ := facts2 HK3.out))
  obtain ⟨c0, c1, hB⟩ := stored2 HR3.out HB3.out (by omega) (0) (rowZ f - 1)
  exact bodyPost_ret (v := .tuple #[.agg #[.int .i64 (0), .int .i64 (rowZ f - 1)], .bool true]) (by simp [results, Tryz.results61, go_sem, c0, c1]) rfl ⟨rfl, hB⟩

set_option maxRecDepth 100000 in
set_option maxHeartbeats 2000000 in
theorem input2 (f d : Int) (hm : May f d) (w : World) :
    Calls Tryz.prog 61 #[.agg #[.int .i64 f, .int .i64 d], .int .i64 2] w fun e w' => e = .returned (inV f d 2) ∧ Below w.heap.size w w' := by
  have HB1 := hide ((bel1 w (.cells #[.int .i64 f, .int .i64 d] 23)).alloc (by simp) (.cells #[.int .i64 0, .int .i64 0] 40))
  have hR : HasC ((w.alloc (.cells #[.int .i64 f, .int .i64 d] 23)).alloc (.cells #[.int .i64 0, .int .i64 0] 40)) (w.heap.size + 1) 40 #[.int .i64 0, .int .i64 0] := by
    have := HasC.new (w.alloc (.cells #[.int .i64 f, .int .i64 d] 23)) 40 #[.int .i64 0, .int .i64 0]
    rwa [World.size_alloc] at this
  have HR1 := hide hR
  have HK1 := hide ((HasC.new w 23 #[.int .i64 f, .int .i64 d]).alloc (.cells #[.int .i64 0, .int .i64 0] 40))
  clear hR
  have e : inV f d 2 = .tuple #[.agg #[.int .i64 (0), .int .i64 (3)], .bool true] := by simp [inV, inZ, hm]
  rw [e]
  clear e
  go_enter Tryz.func61, Tryz.ntmps61
  go_wp2_with (first
    | (go_at_call 51; refine (check_ok _ _ _ hm).mono ?_; rintro e w2 ⟨rfl, hb2⟩; have HR2 := hide (HR1.out.below hb2); have HK2 := hide (HK1.out.below hb2); have HB2 := hide (bel HB1.out hb2); clear hb2; obtain ⟨s2, t2, u2, v2⟩ := facts2 HR2.out; obtain ⟨x2, y2, -, -⟩ := facts2 HK2.out))
  obtain ⟨c0, c1, hB⟩ := stored2 HR2.out HB2.out (by omega) (0) (3)
  exact bodyPost_ret (v := .tuple #[.agg #[.int .i64 (0), .int .i64 (3)], .bool true]) (by simp [results, Tryz.results61, go_sem, c0, c1]) rfl ⟨rfl, hB⟩

set_option maxRecDepth 100000 in
set_option maxHeartbeats 2000000 in
theorem input3 (f d : Int) (hm : May f d) (w : World) :
    Calls Tryz.prog 61 #[.agg #[.int .i64 f, .int .i64 d], .int .i64 3] w fun e w' => e = .returned (inV f d 3) ∧ Below w.heap.size w w' := by
  have HB1 := hide ((bel1 w (.cells #[.int .i64 f, .int .i64 d] 23)).alloc (by simp) (.cells #[.int .i64 0, .int .i64 0] 40))
  have hR : HasC ((w.alloc (.cells #[.int .i64 f, .int .i64 d] 23)).alloc (.cells #[.int .i64 0, .int .i64 0] 40)) (w.heap.size + 1) 40 #[.int .i64 0, .int .i64 0] := by
    have := HasC.new (w.alloc (.cells #[.int .i64 f, .int .i64 d] 23)) 40 #[.int .i64 0, .int .i64 0]
    rwa [World.size_alloc] at this
  have HR1 := hide hR
  have HK1 := hide ((HasC.new w 23 #[.int .i64 f, .int .i64 d]).alloc (.cells #[.int .i64 0, .int .i64 0] 40))
  clear hR
  have e : inV f d 3 = .tuple #[.agg #[.int .i64 (lowZ f d), .int .i64 (lowZ f d)], .bool true] := by simp [inV, inZ, hm]
  rw [e]
  clear e
  go_enter Tryz.func61, Tryz.ntmps61
  go_wp2_with (first
    | (go_at_call 51; refine (check_ok _ _ _ hm).mono ?_; rintro e w2 ⟨rfl, hb2⟩; have HR2 := hide (HR1.out.below hb2); have HK2 := hide (HK1.out.below hb2); have HB2 := hide (bel HB1.out hb2); clear hb2; obtain ⟨s2, t2, u2, v2⟩ := facts2 HR2.out; obtain ⟨x2, y2, -, -⟩ := facts2 HK2.out)
    | (go_at_call 62; refine (low_any _ _ _).mono ?_; rintro e w3 ⟨rfl, hb3⟩; have HR3 := hide (HR2.out.below hb3); have HK3 := hide (HK2.out.below hb3); have HB3 := hide (bel HB2.out hb3); clear hb3; obtain ⟨s3, t3, u3, v3⟩ := facts2 HR3.out; obtain ⟨x3, y3, -, -⟩ := facts2 HK3.out)
    | (go_at_call 97; refine (only_any _ _).mono ?_; rintro e w4 ⟨rfl, hb4⟩; have HR4 := hide (HR3.out.below hb4); have HK4 := hide (HK3.out.below hb4); have HB4 := hide (bel HB3.out hb4); clear hb4; obtain ⟨s4, t4, u4, v4⟩ := facts2 HR4.out; obtain ⟨x4, y4, -, -⟩ := facts2 HK4.out))
  obtain ⟨c0, c1, hB⟩ := stored2 HR4.out HB4.out (by omega) (lowZ f d) (lowZ f d)
  exact bodyPost_ret (v := .tuple #[.agg #[.int .i64 (lowZ f d), .int .i64 (lowZ f d)], .bool true]) (by simp [results, Tryz.results61, go_sem, c0, c1]) rfl ⟨rfl, hB⟩

set_option maxRecDepth 100000 in
set_option maxHeartbeats 2000000 in
theorem input4 (f d : Int) (hm : May f d) (w : World) :
    Calls Tryz.prog 61 #[.agg #[.int .i64 f, .int .i64 d], .int .i64 4] w fun e w' => e = .returned (inV f d 4) ∧ Below w.heap.size w w' := by
  have HB1 := hide ((bel1 w (.cells #[.int .i64 f, .int .i64 d] 23)).alloc (by simp) (.cells #[.int .i64 0, .int .i64 0] 40))
  have hR : HasC ((w.alloc (.cells #[.int .i64 f, .int .i64 d] 23)).alloc (.cells #[.int .i64 0, .int .i64 0] 40)) (w.heap.size + 1) 40 #[.int .i64 0, .int .i64 0] := by
    have := HasC.new (w.alloc (.cells #[.int .i64 f, .int .i64 d] 23)) 40 #[.int .i64 0, .int .i64 0]
    rwa [World.size_alloc] at this
  have HR1 := hide hR
  have HK1 := hide ((HasC.new w 23 #[.int .i64 f, .int .i64 d]).alloc (.cells #[.int .i64 0, .int .i64 0] 40))
  clear hR
  have e : inV f d 4 = .tuple #[.agg #[.int .i64 (highZ f d), .int .i64 (highZ f d)], .bool true] := by simp [inV, inZ, hm]
  rw [e]
  clear e
  go_enter Tryz.func61, Tryz.ntmps61
  go_wp2_with (first
    | (go_at_call 51; refine (check_ok _ _ _ hm).mono ?_; rintro e w2 ⟨rfl, hb2⟩; have HR2 := hide (HR1.out.below hb2); have HK2 := hide (HK1.out.below hb2); have HB2 := hide (bel HB1.out hb2); clear hb2; obtain ⟨s2, t2, u2, v2⟩ := facts2 HR2.out; obtain ⟨x2, y2, -, -⟩ := facts2 HK2.out)
    | (go_at_call 63; refine (high_any _ _ _).mono ?_; rintro e w3 ⟨rfl, hb3⟩; have HR3 := hide (HR2.out.below hb3); have HK3 := hide (HK2.out.below hb3); have HB3 := hide (bel HB2.out hb3); clear hb3; obtain ⟨s3, t3, u3, v3⟩ := facts2 HR3.out; obtain ⟨x3, y3, -, -⟩ := facts2 HK3.out)
    | (go_at_call 97; refine (only_any _ _).mono ?_; rintro e w4 ⟨rfl, hb4⟩; have HR4 := hide (HR3.out.below hb4); have HK4 := hide (HK3.out.below hb4); have HB4 := hide (bel HB3.out hb4); clear hb4; obtain ⟨s4, t4, u4, v4⟩ := facts2 HR4.out; obtain ⟨x4, y4, -, -⟩ := facts2 HK4.out))
  obtain ⟨c0, c1, hB⟩ := stored2 HR4.out HB4.out (by omega) (highZ f d) (highZ f d)
  exact bodyPost_ret (v := .tuple #[.agg #[.int .i64 (highZ f d), .int .i64 (highZ f d)], .bool true]) (by simp [results, Tryz.results61, go_sem, c0, c1]) rfl ⟨rfl, hB⟩

set_option maxRecDepth 100000 in
set_option maxHeartbeats 2000000 in
theorem input5 (f d : Int) (hm : May f d) (w : World) :
    Calls Tryz.prog 61 #[.agg #[.int .i64 f, .int .i64 d], .int .i64 5] w fun e w' => e = .returned (inV f d 5) ∧ Below w.heap.size w w' := by
  have HB1 := hide ((bel1 w (.cells #[.int .i64 f, .int .i64 d] 23)).alloc (by simp) (.cells #[.int .i64 0, .int .i64 0] 40))
  have hR : HasC ((w.alloc (.cells #[.int .i64 f, .int .i64 d] 23)).alloc (.cells #[.int .i64 0, .int .i64 0] 40)) (w.heap.size + 1) 40 #[.int .i64 0, .int .i64 0] := by
    have := HasC.new (w.alloc (.cells #[.int .i64 f, .int .i64 d] 23)) 40 #[.int .i64 0, .int .i64 0]
    rwa [World.size_alloc] at this
  have HR1 := hide hR
  have HK1 := hide ((HasC.new w 23 #[.int .i64 f, .int .i64 d]).alloc (.cells #[.int .i64 0, .int .i64 0] 40))
  clear hR
  have e : inV f d 5 = .tuple #[.agg #[.int .i64 (borderZ f d), .int .i64 (borderZ f d)], .bool true] := by simp [inV, inZ, hm]
  rw [e]
  clear e
  go_enter Tryz.func61, Tryz.ntmps61
  go_wp2_with (first
    | (go_at_call 51; refine (check_ok _ _ _ hm).mono ?_; rintro e w2 ⟨rfl, hb2⟩; have HR2 := hide (HR1.out.below hb2); have HK2 := hide (HK1.out.below hb2); have HB2 := hide (bel HB1.out hb2); clear hb2; obtain ⟨s2, t2, u2, v2⟩ := facts2 HR2.out; obtain ⟨x2, y2, -, -⟩ := facts2 HK2.out)
    | (go_at_call 98; refine (border_any _ _ _).mono ?_; rintro e w3 ⟨rfl, hb3⟩; have HR3 := hide (HR2.out.below hb3); have HK3 := hide (HK2.out.below hb3); have HB3 := hide (bel HB2.out hb3); clear hb3; obtain ⟨s3, t3, u3, v3⟩ := facts2 HR3.out; obtain ⟨x3, y3, -, -⟩ := facts2 HK3.out)
    | (go_at_call 97; refine (only_any _ _).mono ?_; rintro e w4 ⟨rfl, hb4⟩; have HR4 := hide (HR3.out.below hb4); have HK4 := hide (HK3.out.below hb4); have HB4 := hide (bel HB3.out hb4); clear hb4; obtain ⟨s4, t4, u4, v4⟩ := facts2 HR4.out; obtain ⟨x4, y4, -, -⟩ := facts2 HK4.out))
  obtain ⟨c0, c1, hB⟩ := stored2 HR4.out HB4.out (by omega) (borderZ f d) (borderZ f d)
  exact bodyPost_ret (v := .tuple #[.agg #[.int .i64 (borderZ f d), .int .i64 (borderZ f d)], .bool true]) (by simp [results, Tryz.results61, go_sem, c0, c1]) rfl ⟨rfl, hB⟩

set_option maxRecDepth 100000 in
set_option maxHeartbeats 2000000 in
theorem input6 (f d n : Int) (hm : May f d) (h0 : n ≠ 0) (h1 : n ≠ 1) (h2 : n ≠ 2) (h3 : n ≠ 3) (h4 : n ≠ 4) (h5 : n ≠ 5) (w : World) :
    Calls Tryz.prog 61 #[.agg #[.int .i64 f, .int .i64 d], .int .i64 n] w fun e w' => e = .returned (inV f d n) ∧ Below w.heap.size w w' := by
  have HB1 := hide ((bel1 w (.cells #[.int .i64 f, .int .i64 d] 23)).alloc (by simp) (.cells #[.int .i64 0, .int .i64 0] 40))
  have hR : HasC ((w.alloc (.cells #[.int .i64 f, .int .i64 d] 23)).alloc (.cells #[.int .i64 0, .int .i64 0] 40)) (w.heap.size + 1) 40 #[.int .i64 0, .int .i64 0] := by
    have := HasC.new (w.alloc (.cells #[.int .i64 f, .int .i64 d] 23)) 40 #[.int .i64 0, .int .i64 0]
    rwa [World.size_alloc] at this
  have HR1 := hide hR
  have HK1 := hide ((HasC.new w 23 #[.int .i64 f, .int .i64 d]).alloc (.cells #[.int .i64 0, .int .i64 0] 40))
  clear hR
  have e : inV f d n = .tuple #[.agg #[.int .i64 (0), .int .i64 (0)], .bool false] := by simp [inV, inZ, hm, h0, h1, h2, h3, h4, h5]
  rw [e]
  clear e
  go_enter Tryz.func61, Tryz.ntmps61
  go_wp2_with (first
    | (go_at_call 51; refine (check_ok _ _ _ hm).mono ?_; rintro e w2 ⟨rfl, hb2⟩; have HR2 := hide (HR1.out.below hb2); have HK2 := hide (HK1.out.below hb2); have HB2 := hide (bel HB1.out hb2); clear hb2; obtain ⟨s2, t2, u2, v2⟩ := facts2 HR2.out; obtain ⟨x2, y2, -, -⟩ := facts2 HK2.out))
  obtain ⟨c0, c1, hB⟩ := stored2 HR2.out HB2.out (by omega) (0) (0)
  exact bodyPost_ret (v := .tuple #[.agg #[.int .i64 (0), .int .i64 (0)], .bool false]) (by simp [results, Tryz.results61, go_sem, c0, c1]) rfl ⟨rfl, hB⟩

theorem input_any (f d n : Int) (w : World) :
    Calls Tryz.prog 61 #[.agg #[.int .i64 f, .int .i64 d], .int .i64 n] w fun e w' => e = .returned (inV f d n) ∧ Below w.heap.size w w' := by
  by_cases hm : May f d
  · by_cases h0 : n = 0
    · subst h0; exact input0 f d hm w
    by_cases h1 : n = 1
    · subst h1; exact input1 f d hm w
    by_cases h2 : n = 2
    · subst h2; exact input2 f d hm w
    by_cases h3 : n = 3
    · subst h3; exact input3 f d hm w
    by_cases h4 : n = 4
    · subst h4; exact input4 f d hm w
    by_cases h5 : n = 5
    · subst h5; exact input5 f d hm w
    exact input6 f d n hm h0 h1 h2 h3 h4 h5 w
  · exact input_bad f d n hm w

end Go.Proofs.YtlhbgkaknfhlnaaGreat.Knd

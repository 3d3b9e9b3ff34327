/-
  The walk of kind.At: the place of a number.
-/
import Derived.Test.YtinlknflkgijmaaAll
namespace Go.Proofs.Ytinlknflkgijmaa
open Go.RowKit Go.Shelf
set_option linter.unusedVariables false
attribute [local go_sem] Oper.semAt_some

/-- The block b holds just these cells. -/
def HasC (W : World) (b : Nat) (t : TypeId) (cs : Array Value) : Prop := W.heap[b]? = some (.cells cs t (0, 0))

theorem HasC.lt {W : World} {b : Nat} {t : TypeId} {cs : Array Value} (h : HasC W b t cs) : b < W.heap.size := (Array.getElem?_eq_some_iff.1 h).1
theorem HasC.new (W : World) (t : TypeId) (cs : Array Value) : HasC (W.alloc (.cells cs t)) W.heap.size t cs := heap_alloc_new W _
theorem HasC.kept {W W' : World} {row : Option Nat} {b : Nat} {t : TypeId} {cs : Array Value} (h : HasC W b t cs) (hg : W.grownBy W' row) (hne : some b ≠ row) : HasC W' b t cs := (hg.block b h.lt hne).trans h
theorem HasC.alloc {W : World} {b : Nat} {t : TypeId} {cs : Array Value} (h : HasC W b t cs) (o : Obj) : HasC (W.alloc o) b t cs := h.kept (World.grownBy_alloc W o none) (by simp)
theorem HasC.below {W W' : World} {b : Nat} {t : TypeId} {cs : Array Value} (h : HasC W b t cs) (hb : Below W.heap.size W W') : HasC W' b t cs := (hb.block b h.lt).trans h
theorem HasC.cell {W : World} {b : Nat} {t : TypeId} {cs : Array Value} (h : HasC W b t cs) (i : Nat) {v : Value} (hv : cs[i]? = some v) : W.cell? ⟨b, i, none⟩ = some v := (cell_of_row W b i cs t (0, 0) h).trans hv
theorem HasC.frozen {W : World} {b : Nat} {t : TypeId} {cs : Array Value} (h : HasC W b t cs) (i : Nat) : W.frozen? ⟨b, i, none⟩ = false := by
  simp [World.frozen?, show W.heap[b]? = _ from h]
theorem HasC.other {W : World} {b : Nat} {t : TypeId} {cs : Array Value} (h : HasC W b t cs) {p : Addr} (hne : b ≠ p.block) (u : Value) : HasC (W.setCell p u) b t cs := (Below.heap_setCell W p u b hne).trans h
theorem HasC.set {W : World} {b : Nat} {t : TypeId} {cs : Array Value} (h : HasC W b t cs) (i : Nat) (u : Value) : HasC (W.setCell ⟨b, i, none⟩ u) b t (cs.setIfInBounds i u) := by
  obtain ⟨hlt, hk⟩ := Array.getElem?_eq_some_iff.1 h
  show (W.heap.modify b _)[b]? = _
  rw [Array.getElem?_eq_getElem (by rw [Array.size_modify]; exact hlt), Array.getElem_modify_self, hk]
  rfl
theorem hasC_own {β : Type} (b : Nat) (t : TypeId) (f : β → Array Value) : Own (fun s W => HasC W b t (f s)) := fun s X Y row hs hg hrow =>
  hs.kept hg (fun e' => by obtain ⟨o, ho, hc⟩ := hrow b e'.symm; rw [show X.heap[b]? = _ from hs] at ho; cases ho; cases hc)

def pcells (p : Plc) : Array Value := #[.int .i64 p.back, .int .i64 p.coords, .int .i64 p.x, .int .i64 p.y]

/-- The place of a number, if there is one. -/
def atZ (f d n : Int) : Option Plc := if 0 ≤ n then (plcs f d)[n.toNat]? else none
def atV (f d n : Int) : Value := .tuple #[.agg (pcells ((atZ f d n).getD zp)), .bool (atZ f d n).isSome]

theorem ownFrom_hasC {β : Type} {B : Nat} (b : Nat) (t : TypeId) (f : β → Array Value) : OwnFrom B (fun s W => HasC W b t (f s)) := Own.from (hasC_own b t f) B

theorem stores5 (W : World) (b : Nat) (v0 v1 v2 v3 v4 : Value) : KeepsOthers W (((((W.setCell ⟨b, 0, none⟩ v0).setCell ⟨b, 1, none⟩ v1).setCell ⟨b, 2, none⟩ v2).setCell ⟨b, 3, none⟩ v3).setCell ⟨b + 1, 0, none⟩ v4) :=
  ((((KeepsOthers.setCell _ _ _).trans (KeepsOthers.setCell _ _ _)).trans (KeepsOthers.setCell _ _ _)).trans (KeepsOthers.setCell _ _ _)).trans (KeepsOthers.setCell _ _ _)
theorem below5 {w W : World} (h : Below w.heap.size w W) (v0 v1 v2 v3 v4 : Value) : Below w.heap.size w (((((W.setCell ⟨w.heap.size + 1 + 1, 0, none⟩ v0).setCell ⟨w.heap.size + 1 + 1, 1, none⟩ v1).setCell ⟨w.heap.size + 1 + 1, 2, none⟩ v2).setCell ⟨w.heap.size + 1 + 1, 3, none⟩ v3).setCell ⟨w.heap.size + 1 + 1 + 1, 0, none⟩ v4) :=
  ((((h.setCell (p := ⟨w.heap.size + 1 + 1, 0, none⟩) (by simp; omega) v0).setCell (p := ⟨w.heap.size + 1 + 1, 1, none⟩) (by simp; omega) v1).setCell (p := ⟨w.heap.size + 1 + 1, 2, none⟩) (by simp; omega) v2).setCell (p := ⟨w.heap.size + 1 + 1, 3, none⟩) (by simp; omega) v3).setCell (p := ⟨w.heap.size + 1 + 1 + 1, 0, none⟩) (by simp; omega) v4

set_option maxRecDepth 100000 in
set_option maxHeartbeats 4000000 in
theorem at_in (m : Nat) (hm : 6 ≤ m) (f d n : Int) (w : World) :
    CallsIn Fence.wide m Try.prog 22 #[.agg #[.int .i64 f, .int .i64 d], .int .i64 n] w fun e w' => e = .returned (atV f d n) ∧ Below w.heap.size w w' := by
  have h1 : 1 ≤ m := by omega
  have hro : Fence.wide.round = none := rfl
  refine callsIn_of_wp_marks Try.func22 rfl trivial ?_ hro
  simp only [Try.ntmps22, List.size_toArray, List.length_cons, List.length_nil, Nat.reduceAdd, Nat.reduceSub, Array.replicate_succ, Array.replicate_zero, List.push_toArray, List.append_toArray, List.nil_append, List.cons_append]
  gi_wp2_with (refine ⟨trivial, ?_⟩; gi_at_call 30; refine (callsIn_wide.2 (all_any f d _)).mono ?_; rintro e w2 ⟨rfl, rfl⟩)
  have hN := ((((HasC.new (w.alloc (.cells #[.int .i64 f, .int .i64 d] 23)) 3 #[.int .i64 n]).alloc (.cells (pcells zp) 30)).alloc (.cells #[.bool false] 4)).alloc (.cells #[.int .i64 f, .int .i64 d] 23))
  have hR := (((HasC.new ((w.alloc (.cells #[.int .i64 f, .int .i64 d] 23)).alloc (.cells #[.int .i64 n] 3)) 30 (pcells zp)).alloc (.cells #[.bool false] 4)).alloc (.cells #[.int .i64 f, .int .i64 d] 23))
  have hO := ((HasC.new (((w.alloc (.cells #[.int .i64 f, .int .i64 d] 23)).alloc (.cells #[.int .i64 n] 3)).alloc (.cells (pcells zp) 30)) 4 #[.bool false]).alloc (.cells #[.int .i64 f, .int .i64 d] 23))
  have hKd := HasC.new ((((w.alloc (.cells #[.int .i64 f, .int .i64 d] 23)).alloc (.cells #[.int .i64 n] 3)).alloc (.cells (pcells zp) 30)).alloc (.cells #[.bool false] 4)) 23 #[.int .i64 f, .int .i64 d]
  have hsz : (((((w.alloc (.cells #[.int .i64 f, .int .i64 d] 23)).alloc (.cells #[.int .i64 n] 3)).alloc (.cells (pcells zp) 30)).alloc (.cells #[.bool false] 4)).alloc (.cells #[.int .i64 f, .int .i64 d] 23)).heap.size = w.heap.size + 5 := by simp
  have hB0 : Below w.heap.size w (((((w.alloc (.cells #[.int .i64 f, .int .i64 d] 23)).alloc (.cells #[.int .i64 n] 3)).alloc (.cells (pcells zp) 30)).alloc (.cells #[.bool false] 4)).alloc (.cells #[.int .i64 f, .int .i64 d] 23)) :=
    (((((Below.refl _ w).alloc (Nat.le_refl _) _).alloc (by simp) _).alloc (by simp; omega) _).alloc (by simp; omega) _).alloc (by simp; omega) _
  simp only [World.size_alloc] at hN hR hO hKd
  obtain ⟨W0, hW0⟩ : ∃ W0, (((((w.alloc (.cells #[.int .i64 f, .int .i64 d] 23)).alloc (.cells #[.int .i64 n] 3)).alloc (.cells (pcells zp) 30)).alloc (.cells #[.bool false] 4)).alloc (.cells #[.int .i64 f, .int .i64 d] 23)) = W0 := ⟨_, rfl⟩
  rw [hW0] at hN hR hO hKd hsz hB0
  have hW0' := hW0
  simp only [pcells, zp] at hW0'
  rw [hW0']
  clear hW0 hW0'
  obtain ⟨L, hL⟩ : ∃ L, L = plcs f d := ⟨_, rfl⟩
  have HL := hide hL
  have hseq := all_stops (m - 1) (by omega) (w.heap.size + 1 + 1 + 1 + 1) W0.heap.size f d W0 (by omega) (Nat.le_refl _) (hKd.cell 0 rfl) (hKd.cell 1 rfl)
  rw [← hL] at hseq
  clear hL
  refine wpIn_rangeFunc_ownH hro h1 (gf := 40) (lb := #[.pointer (some ⟨w.heap.size + 1 + 1 + 1 + 1, 0, none⟩)]) rfl trivial (enters_of Try.func40 (by kernel_rfl) rfl)
    hseq (fun h k => h.trans k) keepsIn_b (Below.refl _ _) (fun _ => rfl)
    (fun pre W => ((∀ i ∈ pre, ((i.val : Nat) : Int) ≠ n) ∧ HasC W (w.heap.size + 1) 3 #[.int .i64 n]) ∧ HasC W (w.heap.size + 1 + 1) 30 (pcells zp) ∧ HasC W (w.heap.size + 1 + 1 + 1) 4 #[.bool false] ∧ Below w.heap.size w W)
    (fun c pre W => (c = .ret ∧ ∃ ini last, pre = ini ++ [last] ∧ ((last.val : Nat) : Int) = n ∧ HasC W (w.heap.size + 1 + 1) 30 (pcells (L.getD last.val zp)) ∧ HasC W (w.heap.size + 1 + 1 + 1) 4 #[.bool true]) ∧ Below w.heap.size w W)
    (OwnFrom.and (OwnFrom.and (ownFrom_pure _ _) (ownFrom_hasC _ _ _)) (OwnFrom.and (ownFrom_hasC _ _ _) (OwnFrom.and (ownFrom_hasC _ _ _) (ownFrom_below (Nat.le_refl _) (by omega)))))
    (fun c => OwnFrom.and (fun s X Y row hs hg hr => by
      obtain ⟨hc, ini, last, e1, e2, e3, e4⟩ := hs
      exact ⟨hc, ini, last, e1, e2, hasC_own _ 30 (fun (_ : Unit) => pcells (L.getD last.val zp)) () X Y row e3 hg (fun r e => (hr r e).2), hasC_own _ 4 (fun (_ : Unit) => #[.bool true]) () X Y row e4 hg (fun r e => (hr r e).2)⟩) (ownFrom_below (Nat.le_refl _) (by omega)))
    ⟨⟨by simp, hN⟩, hR, hO, hB0⟩
    (fun x a' W => ∃ Bx, w.heap.size + 1 + 1 + 1 < Bx ∧ HasC W Bx 30 (pcells (L.getD x.val zp)) ∧ a' = { tmps := #[.agg #[.int .i64 f, .int .i64 d], .int .i64 n, .pointer (some ⟨w.heap.size, 0, none⟩), .pointer (some ⟨w.heap.size + 1, 0, none⟩), .pointer (some ⟨w.heap.size + 1 + 1, 0, none⟩), .pointer (some ⟨w.heap.size + 1 + 1 + 1, 0, none⟩), .int .i64 (x.val : Int), .pointer (some ⟨Bx, 0, none⟩), .agg #[.int .i64 f, .int .i64 d], .func (.func 40) #[] #[.pointer (some ⟨w.heap.size + 1 + 1 + 1 + 1, 0, none⟩)], .int .i64 (x.val : Int), .agg (pcells (L.getD x.val zp)), undef, undef, undef, undef, undef], defers := [] })
    (fun x a' _ X Y row hs hg hr => by obtain ⟨Bx, h1, h2, h3⟩ := hs; exact ⟨Bx, h1, hasC_own Bx 30 (fun (_ : Unit) => pcells (L.getD x.val zp)) () X Y row h2 hg (fun r e => (hr r e).2), h3⟩)
    ?assign ?body ?done ?stop
  case assign =>
    rintro l pre x W K ⟨⟨hp, hN1⟩, hR1, hO1, hB1⟩ hK
    simp only [encs]
    gi_wp2
    exact hK _ _ ((KeepsOthers.alloc _ _).from _) (KeepsIn.of_below (bel1 _ _)) ⟨⟨hp, hN1.alloc _⟩, hR1.alloc _, hO1.alloc _, hB1.alloc hB1.size _⟩ ⟨W.heap.size, hO1.lt, HasC.new W 30 _, rfl⟩
  case body =>
    rintro l pre x a' W hl ⟨r, hr⟩ ⟨⟨hp, hN1⟩, hR1, hO1, hB1⟩ ⟨Bx, hBx, hX, rfl⟩ hlt
    have cN := hN1.cell 0 rfl
    obtain ⟨p, hp0⟩ : ∃ p, p = L.getD x.val zp := ⟨_, rfl⟩
    rw [← hp0] at hX ⊢
    have HP := hide hp0
    clear hp0
    have cx0 : W.cell? ⟨Bx, 0, none⟩ = some (.int .i64 p.back) := hX.cell 0 rfl
    have cx1 : W.cell? ⟨Bx, 1, none⟩ = some (.int .i64 p.coords) := hX.cell 1 rfl
    have cx2 : W.cell? ⟨Bx, 2, none⟩ = some (.int .i64 p.x) := hX.cell 2 rfl
    have cx3 : W.cell? ⟨Bx, 3, none⟩ = some (.int .i64 p.y) := hX.cell 3 rfl
    have r0 : W.cell? ⟨w.heap.size + 1 + 1, 0, none⟩ = some (.int .i64 0) := hR1.cell 0 rfl
    have r1 : W.cell? ⟨w.heap.size + 1 + 1, 1, none⟩ = some (.int .i64 0) := hR1.cell 1 rfl
    have r2 : W.cell? ⟨w.heap.size + 1 + 1, 2, none⟩ = some (.int .i64 0) := hR1.cell 2 rfl
    have r3 : W.cell? ⟨w.heap.size + 1 + 1, 3, none⟩ = some (.int .i64 0) := hR1.cell 3 rfl
    have g0 := hR1.frozen 0
    have g1 := hR1.frozen 1
    have g2 := hR1.frozen 2
    have g3 := hR1.frozen 3
    have o0 : W.cell? ⟨w.heap.size + 1 + 1 + 1, 0, none⟩ = some (.bool false) := hO1.cell 0 rfl
    have o1 := hO1.frozen 0
    by_cases hxn : ((x.val : Nat) : Int) = n
    · gi_wp2
      refine ⟨(stores5 W _ _ _ _ _ _).from _, ⟨rfl, pre, x, rfl, hxn, ?_, ?_⟩, below5 hB1 _ _ _ _ _⟩
      · have h4 : HasC _ _ 30 (pcells p) := (((((hR1.set 0 (.int .i64 p.back)).set 1 (.int .i64 p.coords)).set 2 (.int .i64 p.x)).set 3 (.int .i64 p.y))).other (p := ⟨w.heap.size + 1 + 1 + 1, 0, none⟩) (by simp) (.bool true)
        rw [← HP.out]; exact h4
      · exact (((((hO1.other (p := ⟨w.heap.size + 1 + 1, 0, none⟩) (by simp) (.int .i64 p.back)).other (p := ⟨w.heap.size + 1 + 1, 1, none⟩) (by simp) (.int .i64 p.coords)).other (p := ⟨w.heap.size + 1 + 1, 2, none⟩) (by simp) (.int .i64 p.x)).other (p := ⟨w.heap.size + 1 + 1, 3, none⟩) (by simp) (.int .i64 p.y))).set 0 (.bool true)
    · gi_wp2
      exact ⟨KeepsFrom.refl _ _, KeepsIn.refl _ _, ⟨fun i hi => (List.mem_append.1 hi).elim (hp i) (fun e => by simp at e; subst e; exact hxn), hN1⟩, hR1, hO1, hB1⟩
  case done =>
    rintro D xs W hD rfl ⟨⟨hp, hN1⟩, hR1, hO1, hB1⟩ hK
    have r0 : W.cell? ⟨w.heap.size + 1 + 1, 0, none⟩ = some (.int .i64 0) := hR1.cell 0 rfl
    have r1 : W.cell? ⟨w.heap.size + 1 + 1, 1, none⟩ = some (.int .i64 0) := hR1.cell 1 rfl
    have r2 : W.cell? ⟨w.heap.size + 1 + 1, 2, none⟩ = some (.int .i64 0) := hR1.cell 2 rfl
    have r3 : W.cell? ⟨w.heap.size + 1 + 1, 3, none⟩ = some (.int .i64 0) := hR1.cell 3 rfl
    have g0 := hR1.frozen 0
    have g1 := hR1.frozen 1
    have g2 := hR1.frozen 2
    have g3 := hR1.frozen 3
    have o0 : W.cell? ⟨w.heap.size + 1 + 1 + 1, 0, none⟩ = some (.bool false) := hO1.cell 0 rfl
    have o1 := hO1.frozen 0
    have hnone : atZ f d n = none := by
      unfold atZ
      split
      · rename_i hn0
        rw [← HL.out]
        rw [List.getElem?_eq_none_iff]
        have hle := (blks_bound f d).1
        rw [← HL.out] at hle
        by_cases hc : n.toNat < L.length
        · exact absurd (by simp; omega) (hp ⟨n.toNat, by omega⟩ ((upto_mem _ _).2 hc))
        · omega
      · rfl
    gi_wp2
    have hK' := (stores5 W (w.heap.size + 1 + 1) (.int .i64 0) (.int .i64 0) (.int .i64 0) (.int .i64 0) (.bool false)).same D _ hK rfl
    refine ⟨by simp, .inl ⟨_, _, rfl, run_takeDeferred hK', ?_⟩⟩
    have h4 : HasC _ _ 30 (pcells zp) := (((((hR1.set 0 (.int .i64 0)).set 1 (.int .i64 0)).set 2 (.int .i64 0)).set 3 (.int .i64 0))).other (p := ⟨w.heap.size + 1 + 1 + 1, 0, none⟩) (by simp) (.bool false)
    have h5 : HasC _ _ 4 #[.bool false] := (((((hO1.other (p := ⟨w.heap.size + 1 + 1, 0, none⟩) (by simp) (.int .i64 0)).other (p := ⟨w.heap.size + 1 + 1, 1, none⟩) (by simp) (.int .i64 0)).other (p := ⟨w.heap.size + 1 + 1, 2, none⟩) (by simp) (.int .i64 0)).other (p := ⟨w.heap.size + 1 + 1, 3, none⟩) (by simp) (.int .i64 0))).set 0 (.bool false)
    have hb5 := below5 hB1 (.int .i64 0) (.int .i64 0) (.int .i64 0) (.int .i64 0) (.bool false)
    clear r0 r1 r2 r3 g0 g1 g2 g3 o0 o1
    generalize (((((W.setCell ⟨w.heap.size + 1 + 1, 0, none⟩ (.int .i64 0)).setCell ⟨w.heap.size + 1 + 1, 1, none⟩ (.int .i64 0)).setCell ⟨w.heap.size + 1 + 1, 2, none⟩ (.int .i64 0)).setCell ⟨w.heap.size + 1 + 1, 3, none⟩ (.int .i64 0)).setCell ⟨w.heap.size + 1 + 1 + 1, 0, none⟩ (.bool false)) = Wf at hK' h4 h5 hb5 ⊢
    have k0 := hasC_own _ 30 (fun (_ : Unit) => pcells zp) () _ _ _ h4 (grownBy_putObj' Wf D (.deferred none)) (fun r e => by cases e; exact ⟨_, hK', rfl⟩)
    have k1 := hasC_own _ 4 (fun (_ : Unit) => #[.bool false]) () _ _ _ h5 (grownBy_putObj' Wf D (.deferred none)) (fun r e => by cases e; exact ⟨_, hK', rfl⟩)
    refine ⟨atV f d n, ?_, rfl, hb5.trans (belowK_b (w := w) (Nat.le_refl _) _ D _ _ (by omega) hK' rfl rfl)⟩
    have c0 := k0.cell 0 rfl
    have c1 := k0.cell 1 rfl
    have c2 := k0.cell 2 rfl
    have c3 := k0.cell 3 rfl
    have c4 := k1.cell 0 rfl
    simp [pcells, zp] at c0 c1 c2 c3 c4
    simp [results, Try.f22, go_sem, c0, c1, c2, c3, c4, atV, hnone, pcells, zp]
  case stop =>
    rintro D c pre W hD ⟨k, hk, rfl⟩ ⟨⟨rfl, ini, last, e1, e2, hR1, hO1⟩, hB1⟩ hK
    gi_wp2
    refine ⟨by simp, .inl ⟨_, _, rfl, run_takeDeferred hK, ?_⟩⟩
    have hle := (blks_bound f d).1
    rw [← HL.out] at hle
    obtain ⟨k', rfl⟩ : ∃ k', k = k' + 1 := by
      cases k with
      | zero => simp [upto] at e1
      | succ k' => exact ⟨k', rfl⟩
    rw [upto_succ k' (by omega)] at e1
    obtain ⟨rfl, e5⟩ := List.append_inj' e1 rfl
    have e6 : last.val = k' := by
      have : (⟨k', by omega⟩ : Fin 64) = last := by simpa using e5
      rw [← this]
    rw [e6] at e2 hR1
    have hsome : atZ f d n = some (L.getD k' zp) := by
      unfold atZ
      rw [if_pos (by omega), ← HL.out, show n.toNat = k' by omega]
      simp [List.getD, show k' < L.length by omega]
    obtain ⟨p, hp0⟩ : ∃ p, p = L.getD k' zp := ⟨_, rfl⟩
    rw [← hp0] at hsome hR1
    have k0 := hasC_own _ 30 (fun (_ : Unit) => pcells p) () _ _ _ hR1 (grownBy_putObj' W D (.deferred none)) (fun r e => by cases e; exact ⟨_, hK, rfl⟩)
    have k1 := hasC_own _ 4 (fun (_ : Unit) => #[.bool true]) () _ _ _ hO1 (grownBy_putObj' W D (.deferred none)) (fun r e => by cases e; exact ⟨_, hK, rfl⟩)
    refine ⟨atV f d n, ?_, rfl, hB1.trans (belowK_b (w := w) (Nat.le_refl _) _ D _ _ (by omega) hK rfl rfl)⟩
    have c0 := k0.cell 0 rfl
    have c1 := k0.cell 1 rfl
    have c2 := k0.cell 2 rfl
    have c3 := k0.cell 3 rfl
    have c4 := k1.cell 0 rfl
    simp [pcells] at c0 c1 c2 c3 c4
    simp [results, Try.f22, go_sem, c0, c1, c2, c3, c4, atV, hsome, pcells]

theorem at_any (f d n : Int) (w : World) :
    Calls Try.prog 22 #[.agg #[.int .i64 f, .int .i64 d], .int .i64 n] w fun e w' => e = .returned (atV f d n) ∧ Below w.heap.size w w' :=
  callsIn_wide.1 (at_in 6 (Nat.le_refl _) f d n w)

end Go.Proofs.Ytinlknflkgijmaa

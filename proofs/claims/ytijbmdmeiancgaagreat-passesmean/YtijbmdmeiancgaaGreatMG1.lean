/-
  A map whose keys are instructions: what a key reads as, and a table of the first registers of instructions.
-/
import Derived.Test.YtijbmdmeiancgaaGreatMG0
import Derived.Test.YtijbmdmeiancgaaGreatMKnA
import Derived.Maps.OwnIn
import Derived.Maps.OwnSet
import Derived.DeepKeys4
namespace Go.Proofs.Shr
open Go.RowKit Go.Maps YtijbmdmeiancgaaGreat.Knd
open Cde (In i0 ia)
set_option linter.unusedVariables false

theorem laidOut : laidOutB Tryz.prog = true := by kernel_rfl
theorem rowI : (57 : TypeId) < Tryz.prog.types.size := of_decide_eq_true (by kernel_rfl)
theorem wideI : (match Tryz.prog.underlying 57 with | some (.array _ _) | some (.struct _) => true | _ => false) = true := by rw [Tryz.underlying57]
set_option maxRecDepth 100000 in
theorem lawI : Keyed Tryz.prog 57 := Keyed.of_law (deep_law_laid laidOut (m := 2) (by omega) rowI (by kernel_rfl) wideI)
theorem keyTypeI : Tryz.prog.keyType 57 = true := by kernel_rfl
theorem cellsI : Tryz.prog.cellsOf 57 = 6 := by kernel_rfl
theorem cells3 : Tryz.prog.cellsOf 3 = 1 := by kernel_rfl

theorem wf64_lit {n : Int} (h : wf64 n) : (Lit.int .i64 n).wf = true := by
  unfold wf64 at h; simp [Lit.wf, IntKind.min, IntKind.max, IntKind.bits, IntKind.signed]; omega
theorem lits3 (d : Nat) {n : Int} (h : wf64 n) : Tryz.prog.keyLits (d + 1) 3 [.int .i64 n] = some [.int .i64 n] := by
  unfold Program.keyLits
  rw [Tryz.underlying3]
  simp [wf64_lit h]
theorem litsI (d : Nat) {n : In} (h : inWf n) : Tryz.prog.keyLits (d + 1 + 1) 57 (ia n).toList = some [.int .i64 n.op, .int .i64 n.a, .int .i64 n.b, .int .i64 n.c, .int .i64 n.k, .int .i64 n.s] := by
  obtain ⟨h0, h1, h2, h3, h4, h5⟩ := h
  unfold Program.keyLits
  simp only [Tryz.underlying57]
  simp [cellsI, cells3, lits3 d h0, lits3 d h1, lits3 d h2, lits3 d h3, lits3 d h4, lits3 d h5]

noncomputable def kl (n : In) : Lit := (keyOf Tryz.prog 57 (.agg (ia n))).getD (.bool false)
theorem key_some {n : In} (h : inWf n) : keyOf Tryz.prog 57 (.agg (ia n)) = some (kl n) := by
  have : ∃ l, keyOf Tryz.prog 57 (.agg (ia n)) = some l := by
    have hf : (Value.agg (ia n)).formed Tryz.prog 57 = true := by
      simp only [Value.formed, Tryz.underlying57, cellsI]
      rfl
    obtain ⟨k, hk⟩ : ∃ k, Tryz.prog.types.size + 1 = k + 1 + 1 := ⟨Tryz.prog.types.size - 1, by have h : (57 : Nat) < Tryz.prog.types.size := rowI; omega⟩
    have hl := litsI k h
    rw [← hk] at hl
    refine ⟨.string (keyBytes [.int .i64 n.op, .int .i64 n.a, .int .i64 n.b, .int .i64 n.c, .int .i64 n.k, .int .i64 n.s]), ?_⟩
    unfold keyOf
    rw [Tryz.underlying57]
    simp only [keyTypeI, hf, Bool.and_self, if_true, Value.cells, hl, Option.map_some]
  obtain ⟨l, hl⟩ := this
  unfold kl
  rw [hl]; rfl
theorem kl_inj {p q : In} (hp : inWf p) (hq : inWf q) (h : kl p = kl q) : p = q := by
  have h1 := key_some hp
  have h2 := key_some hq
  rw [← h] at h2
  have := lawI.inj h1 h2
  simp at this
  cases p; cases q
  simp_all
set_option maxRecDepth 100000 in
theorem kl_key {p : In} (hp : inWf p) : WideAt.IsKeyLit (kl p) := lawI.key (key_some hp)

/-- The map D tells of each instruction of M the first register that has it. -/
def Tab (M : List In) (D : DataW Unit) : Prop :=
  IsMap D ∧ ∀ p : In, inWf p → has D (kl p) = decide (p ∈ M) ∧ D.atKey (kl p) (.lit (.int .i64 0)) = .lit (.int .i64 (if p ∈ M then ((M.idxOf p : Nat) : Int) else 0))
theorem Tab.nil : Tab [] (.map []) := ⟨⟨_, rfl⟩, fun p _ => ⟨rfl, rfl⟩⟩
theorem Tab.old {M : List In} {D : DataW Unit} (h : Tab M D) {n : In} (hn : n ∈ M) : Tab (M ++ [n]) D := by
  refine ⟨h.1, fun p hp => ?_⟩
  obtain ⟨h1, h2⟩ := h.2 p hp
  rw [h1, h2]
  by_cases e : p ∈ M
  · have e2 : p ∈ M ++ [n] := by simp [e]
    rw [if_pos e, if_pos e2, List.idxOf_append, if_pos e]
    simp [e]
  · have e2 : p ∉ M ++ [n] := by
      simp only [List.mem_append, List.mem_cons, List.not_mem_nil, or_false, not_or]
      exact ⟨e, fun he => e (by rw [he]; exact hn)⟩
    rw [if_neg e, if_neg e2]
    simp [e, e2]
set_option maxRecDepth 100000 in
theorem Tab.new {M : List In} {D : DataW Unit} (h : Tab M D) {n : In} (hw : inWf n) (hn : n ∉ M) : Tab (M ++ [n]) (D.put (kl n) (.lit (.int .i64 ((M.length : Nat) : Int)))) := by
  refine ⟨h.1.put _ _, fun p hp => ?_⟩
  by_cases e : p = n
  · subst e
    rw [has_put_same h.1 (kl_key hp), atKey_put_same h.1 (kl_key hp), if_pos (by simp), List.idxOf_append, if_neg hn]
    simp
  · have hne : kl p ≠ kl n := fun h' => e (kl_inj hp hw h')
    rw [has_put_other hne, atKey_put_other hne]
    obtain ⟨h1, h2⟩ := h.2 p hp
    rw [h1, h2]
    by_cases e2 : p ∈ M
    · rw [if_pos e2, if_pos (by simp [e2]), List.idxOf_append, if_pos e2]
      simp [e2]
    · have e3 : p ∉ M ++ [n] := by simp [e2, e]
      rw [if_neg e2, if_neg e3]
      simp [e2, e]

/-- The table in memory: the block b, at most m keys. -/
def Own (W : World) (b m : Nat) (M : List In) : Prop := ∃ D, W.ownsMap Tryz.prog 57 (plainElem (H := Unit) Tryz.prog 3) b m D ∧ Tab M D
theorem run_make (c : Int) (w : World) : (Instr.makeMap 143 (some (.int .i64 c))).run Tryz.prog w = .ok (.map (some w.heap.size)) (w.alloc (.map #[] 0)) := by
  simp [Instr.makeMap, run_underlying Tryz.underlying143, go_sem]
/-- A look at the table. -/
theorem look_in {n : In} (hn : inWf n) {W : World} {b m : Nat} {M : List In} (h : Own W b m M) :
    (Instr.lookup 143 (.map (some b)) (.agg (ia n)) true).run Tryz.prog W = .ok (.tuple #[.int .i64 (if n ∈ M then ((M.idxOf n : Nat) : Int) else 0), .bool (decide (n ∈ M))]) W := by
  obtain ⟨D, hM, hT⟩ := h
  obtain ⟨v, ps, hrun, hv⟩ := hM.look_ok lawI Tryz.underlying143 (Tryz.zeroValue3 W) (plainElem_int Tryz.underlying3 (wf64_lit (n := 0) (by unfold wf64; omega))) (key_some hn)
  obtain ⟨c, rfl, hc, hwc⟩ := plainElem_int_inv Tryz.underlying3 hv
  obtain ⟨t1, t2⟩ := hT.2 n hn
  have hc1 : D.atKey (kl n) (.lit (.int .i64 0)) = .lit (.int .i64 c) := congrArg Prod.fst hc
  rw [t2] at hc1
  simp only [DataW.lit.injEq, Lit.int.injEq, true_and] at hc1
  rw [hrun, t1, ← hc1]
theorem wp_look {V : World} {b m : Nat} {M : List In} {n : In} {ops : Array Oper} {rest : List Oper} {o : Oper} {a : Act} {Q : Exit → Act → World → Prop}
    (hgd : o.guard = none) (x y : Operand) (ho : o.op = .lookup 143 x y true) (hx : a.eval x = .map (some b)) (hy : a.eval y = .agg (ia n)) (h : Own V b m M) (hw : inWf n)
    (hk : wpList Tryz.prog ops Q rest (a.put o.dst (.tuple #[.int .i64 (if n ∈ M then ((M.idxOf n : Nat) : Int) else 0), .bool (decide (n ∈ M))])) V) :
    wpList Tryz.prog ops Q (o :: rest) a V := by
  have hrun := look_in hw h
  refine wpList_plain hgd fun K' hK' => ?_
  unfold Oper.wp
  simp [execOp, ho, hx, hy, hrun, Result.andThen]
  exact hK' _ _ (by simpa using hk)
/-- An instruction that is not there yet is put in. -/
theorem wp_put {V : World} {b m : Nat} {M : List In} {n : In} {ops : Array Oper} {rest : List Oper} {o : Oper} {a : Act} {Q : Exit → Act → World → Prop}
    (hgd : o.guard = none) (x y z : Operand) (ho : o.op = .mapUpdate 143 x y z) (hx : a.eval x = .map (some b)) (hy : a.eval y = .agg (ia n)) (k : Nat) (hz : a.eval z = .int .i64 (k : Int)) (hkM : M.length = k)
    (h : Own V b m M) (hw : inWf n) (hn : n ∉ M) (hm : m ≤ 1000) (hl : k ≤ 1000)
    (hk : ∀ w', Own w' b (m + 1) (M ++ [n]) → V.grownBy w' (some b) → wpList Tryz.prog ops Q rest (a.put o.dst undef) w') :
    wpList Tryz.prog ops Q (o :: rest) a V := by
  obtain ⟨D, hM, hT⟩ := h
  refine wpList_mapUpdate_own _ hgd _ _ _ 143 ho 57 3 lawI Tryz.underlying143 (plainElem (H := Unit) Tryz.prog 3) b m D hx hM (by unfold maxLen; omega) _ _ (kl n) hy hz (key_some hw) _ [] (plainElem_int Tryz.underlying3 (wf64_lit (n := (k : Int)) (by unfold wf64; omega))) ?_
  intro w' h1 h2
  exact hk w' ⟨_, h1, by rw [← hkM]; exact hT.new hw hn⟩ h2
theorem Own.made (W : World) : Own (W.alloc (.map #[] 0)) W.heap.size 0 [] := ⟨_, World.ownsMap_made W _ _ _, Tab.nil⟩
theorem Own.mono {W : World} {b m m' : Nat} {M : List In} (h : Own W b m M) (hm : m ≤ m') : Own W b m' M := by
  obtain ⟨D, h1, h2⟩ := h
  exact ⟨D, h1.mono hm, h2⟩
theorem Own.old {W : World} {b m : Nat} {M : List In} {n : In} (h : Own W b m M) (hn : n ∈ M) : Own W b m (M ++ [n]) := by
  obtain ⟨D, h1, h2⟩ := h
  exact ⟨D, h1, h2.old hn⟩
theorem Own.below {W V : World} {b m : Nat} {M : List In} (h : Own W b m M) (hb : Below W.heap.size W V) : Own V b m M := by
  obtain ⟨D, h1, h2⟩ := h
  have hlt := h1.lt
  obtain ⟨es, c, h3, h4⟩ := h1
  exact ⟨D, ⟨es, c, (hb.block b hlt).trans h3, h4⟩, h2⟩
theorem Own.kept {W V : World} {b m : Nat} {M : List In} {row : Option Nat} (h : Own W b m M) (hg : W.grownBy V row) (hne : row ≠ some b) : Own V b m M := by
  obtain ⟨D, h1, h2⟩ := h
  exact ⟨D, h1.kept hg hne.symm, h2⟩
theorem Own.set {W : World} {b m : Nat} {M : List In} (h : Own W b m M) {a : Addr} (ha : b ≠ a.block) (u : Value) : Own (W.setCell a u) b m M := by
  obtain ⟨D, h1, h2⟩ := h
  exact ⟨D, h1.setCell ha u, h2⟩
theorem Own.ne_has {W : World} {b m q : Nat} {M : List In} {t : TypeId} {cs : Array Value} (h : Own W b m M) (hc : HasC W q t cs) : b ≠ q := by
  obtain ⟨D, ⟨es, c, h3, h4⟩, h2⟩ := h
  rintro rfl
  rw [hc] at h3
  cases h3
theorem Own.ne_row {W : World} {b m base size n : Nat} {M : List In} {e : TypeId} {v : Value} {xs : List Value} (h : Own W b m M) (hr : W.ownsRow base e size v n xs) : v.ownBlock ≠ some b := by
  obtain ⟨D, ⟨es, c, h3, h4⟩, h2⟩ := h
  intro hk
  obtain ⟨-, cs', fr, h5⟩ := Cde.owns_block hr b hk
  rw [h5] at h3
  cases h3

end Go.Proofs.Shr

/-
  Growing lists of bytes.
-/
import Derived.Test.YtphmamhchkolkaaMM3
namespace Go.Proofs.Pck
open Ytphmamhchkolkaa
open Go.RowKit Go.IntWalk Ytphmamhchkolkaa.Knd
open Ytphmamhchkolkaa.Ocm (Part joined u8s)
open Cde (In i0 ia cd is6 i6 Ins agL arN okI okT okT_at mcB mc_parts ccE below_drew)
set_option linter.unusedVariables false

/-- A growing list of bytes of the call's own. -/
structure Bl (W V : World) (v : Value) (zs : List Int) : Prop where
  s : V.ownsRow W.heap.size 5 1 v zs.length (u8s zs)
  lo : Below W.heap.size W V
theorem Bl.below {W V V' : World} {v : Value} {zs : List Int} (h : Bl W V v zs) (hb : Below V.heap.size V V') : Bl W V' v zs := ⟨Cde.own_later h.s hb, bel h.lo hb⟩
theorem info5' : (Try.prog.info? 5).map (fun i => (i.zero, i.size, i.bytes)) = some (some (.int .u8 0), 1, 1) := by kernel_rfl
theorem u8s_app (a b : List Int) : u8s (a ++ b) = u8s a ++ u8s b := List.map_append ..
theorem Bl.grown {W V w' : World} {v v' : Value} {zs us : List Int} {row : Option Nat} (h : Bl W V v zs) (ho : w'.ownsRow W.heap.size 5 1 v' us.length (u8s us)) (hg : V.grownBy w' row) (hr : ∀ k, row = some k → v.ownBlock = some k) :
    Bl W w' v' us ∧ (∀ g t cs, HasC V g t cs → t ≠ 5 → HasC w' g t cs) ∧ Below W.heap.size W w' := by
  have hb : Below W.heap.size W w' := h.lo.grown hg h.lo.size fun k hk => (Cde.owns_block h.s k (hr k hk)).1
  exact ⟨⟨ho, hb⟩, fun g t cs hc ht => hc.kept hg fun e => own_ne h.s hc ht (hr _ e.symm), hb⟩
/-- An append of bytes. -/
theorem app_list {W V : World} {v : Value} {zs ys : List Int} {ao : Option Addr} {m c : Nat} (h : Bl W V v zs) (hy : Ocm.Bytes V ao m c ys) (hf : zs.length + m ≤ 140737488355328) {ops : Array Oper} {rest : List Oper} {o : Oper} {a : Act} {Q : Exit → Act → World → Prop}
    (hgd : o.guard = none) (s x : Operand) (ho : o.op = .call { callee := .builtin .append, args := #[s, x], argTypes := #[28, 28] })
    (hs : a.eval s = v) (hx : a.eval x = .slice ao m c)
    (hK : ∀ a' n' c' w', Bl W w' (.slice a' n' c') (zs ++ ys) → n' = zs.length + m → (∀ g t cs, HasC V g t cs → t ≠ 5 → HasC w' g t cs) → wpList Try.prog ops Q rest (a.put o.dst (.slice a' n' c')) w') : wpList Try.prog ops Q (o :: rest) a V := by
  obtain ⟨i0', hi0, hz0, hz1, hz2⟩ := info_parts info5'
  refine Ocm.wpList_append_kept V hgd s x 28 ho W.heap.size 5 i0' (.int .u8 0) 1 Try.underlying28 hi0 hz0 hz1 hz2 rfl v zs.length (u8s zs) hs h.s ao m c (u8s ys) hx (by simp [hy.len]) (fun e => by have h1 := hy.nil e; have h2 := hy.le; omega)
    hy.news (ints_oneCell _ _) (by unfold maxLen; omega) (by omega) h.lo.size ?_
  intro v' w' hown hgr
  obtain ⟨a', c', rfl⟩ := own_slice hown
  rw [← u8s_app, show zs.length + m = (zs ++ ys).length by rw [List.length_append, hy.len]] at hown
  rcases hgr with ⟨g, cap, e1, e2, h1⟩ | ⟨h1, -⟩
  · obtain ⟨k1, k2, -⟩ := h.grown hown h1 (fun k hk => by cases hk; rw [e1]; rfl)
    rw [List.length_append, hy.len] at k1
    exact hK _ _ _ _ k1 rfl k2
  · obtain ⟨k1, k2, -⟩ := h.grown hown h1 (fun k hk => by cases hk)
    rw [List.length_append, hy.len] at k1
    exact hK _ _ _ _ k1 rfl k2
/-- .. as one operation of a region. -/
theorem app_step {W V : World} {v : Value} {zs ys : List Int} {ad : Addr} {m c : Nat} (h : Bl W V v zs) (hy : Ocm.Bytes V (some ad) m c ys) (hm : 0 < m) (hf : zs.length + m ≤ 140737488355328) {ops : Array Oper} {o : Oper} {a : Act} {K : Act → World → Prop} {Q : Exit → Act → World → Prop} {E : Prop}
    (hgd : o.guard = none) (s x : Operand) (ho : o.op = .call { callee := .builtin .append, args := #[s, x], argTypes := #[28, 28] })
    (hs : a.eval s = v) (hx : a.eval x = .slice (some ad) m c)
    (hK : ∀ a' n' c' w', Bl W w' (.slice a' n' c') (zs ++ ys) → n' = zs.length + m → (∀ g t cs, HasC V g t cs → t ≠ 5 → HasC w' g t cs) → K (a.put o.dst (.slice a' n' c')) w') : if Region.wanted o (yielded ops a.tmps) = true then Oper.wp Try.prog o a V K Q else E := by
  obtain ⟨i0', hi0, hz0, hz1, hz2⟩ := info_parts info5'
  refine step_append_lies V hgd s x 28 ho W.heap.size 5 i0' _ 1 1 Try.underlying28 hi0 hz0 hz1 hz2 rfl (by omega) v zs.length (u8s zs) hs h.s ad m c (u8s ys) hx (by simp [hy.len]) (hy.news ad rfl) (ints_oneCell _ _) hm (by unfold maxLen; omega) (by omega) h.lo.size V.heap.size rfl ?_
  intro g cap w' hown hgrow hat hlt
  rw [← u8s_app, show zs.length + m = (zs ++ ys).length by rw [List.length_append, hy.len]] at hown
  obtain ⟨k1, k2, -⟩ := h.grown hown hgrow (fun k hk => hk)
  rw [List.length_append, hy.len] at k1
  exact hK _ _ _ _ k1 rfl k2

end Go.Proofs.Pck

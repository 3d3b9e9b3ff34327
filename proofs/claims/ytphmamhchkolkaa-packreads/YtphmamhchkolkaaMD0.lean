/-
  The document's Encode: small functions.
-/
import Derived.Test.YtphmamhchkolkaaMM5
import Derived.Test.YtphmamhchkolkaaMM4
import Derived.Test.YtphmamhchkolkaaMCdX1
import Derived.Test.YtphmamhchkolkaaMCdM
namespace Go.Proofs.Pck
open Ytphmamhchkolkaa
open Go.RowKit Go.IntWalk Ytphmamhchkolkaa.Knd
open Ytphmamhchkolkaa.Ocm (Part joined u8s)
open Cde (In i0 ia cd is6 i6 Ins agL arN okI okT okT_at mcB mc_parts ccE below_drew)
set_option linter.unusedVariables false

/-- .. as one operation of a region. -/
theorem app_step2 {W V : World} {v : Value} {zs ys : List Int} {ad : Addr} {m c : Nat} (h : Bl W V v zs) (hy : Ocm.Bytes V (some ad) m c ys) (hm : 0 < m) (hf : zs.length + m ≤ 140737488355328) {ops : Array Oper} {o : Oper} {a : Act} {K : Act → World → Prop} {Q : Exit → Act → World → Prop} {E : Prop}
    (hgd : o.guard = none) (s x : Operand) (ho : o.op = .call { callee := .builtin .append, args := #[s, x], argTypes := #[28, 28] })
    (hs : a.eval s = v) (hx : a.eval x = .slice (some ad) m c)
    (hK : ∀ a' n' c' w', Bl W w' (.slice a' n' c') (zs ++ ys) → n' = zs.length + m → (∀ g t cs, HasC V g t cs → v.ownBlock ≠ some g → HasC w' g t cs) → K (a.put o.dst (.slice a' n' c')) w') : if Region.wanted o (yielded ops a.tmps) = true then Oper.wp Try.prog o a V K Q else E := by
  obtain ⟨i0', hi0, hz0, hz1, hz2⟩ := info_parts info5'
  refine step_append_lies V hgd s x 28 ho W.heap.size 5 i0' _ 1 1 Try.underlying28 hi0 hz0 hz1 hz2 rfl (by omega) v zs.length (u8s zs) hs h.s ad m c (u8s ys) hx (by simp [hy.len]) (hy.news ad rfl) (ints_oneCell _ _) hm (by unfold maxLen; omega) (by omega) h.lo.size V.heap.size rfl ?_
  intro g cap w' hown hgrow hat hlt
  rw [← u8s_app, show zs.length + m = (zs ++ ys).length by rw [List.length_append, hy.len]] at hown
  obtain ⟨k1, -, -⟩ := h.grown hown hgrow (fun k hk => hk)
  rw [List.length_append, hy.len] at k1
  exact hK _ _ _ _ k1 rfl fun g t cs hc ht => hc.kept hgrow fun e => ht e.symm

set_option maxRecDepth 100000 in
set_option maxHeartbeats 1000000 in
theorem how_any (op : Int) (W : World) : Calls Try.prog 30 #[.int .i64 op] W fun e W' => e = .returned (.int .i64 (hwZ op)) ∧ W' = W := by
  rcases hw_five op with h | h | h | h | h
  · rw [h]
    rcases hw_one h with rfl | rfl
    all_goals
      go_enter Try.func30, Try.ntmps30
      go_wp2_with fail
      go_ret
      exact ⟨rfl, rfl⟩
  · rw [h]
    rcases hw_two h with rfl | rfl | rfl | rfl
    all_goals
      go_enter Try.func30, Try.ntmps30
      go_wp2_with fail
      go_ret
      exact ⟨rfl, rfl⟩
  · rw [h]
    obtain rfl := hw_thr h
    go_enter Try.func30, Try.ntmps30
    go_wp2_with fail
    go_ret
    exact ⟨rfl, rfl⟩
  · rw [h]
    obtain rfl := hw_fou h
    go_enter Try.func30, Try.ntmps30
    go_wp2_with fail
    go_ret
    exact ⟨rfl, rfl⟩
  · rw [h]
    obtain ⟨t1, t2, t3, t4, t5, t6, t7, t8⟩ := hw_zero h
    clear h
    go_enter Try.func30, Try.ntmps30
    go_wp2_with fail
    go_ret
    exact ⟨rfl, rfl⟩

end Go.Proofs.Pck

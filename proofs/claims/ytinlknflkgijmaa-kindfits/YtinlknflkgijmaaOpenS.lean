/-
  An argument that is a window: its reading, and how long its list can be.
-/
import Derived.Test.YtinlknflkgijmaaOpenW
namespace Go.Proofs.Ytinlknflkgijmaa
open Go.ChangeShapes Go.WideShapes Go.ChangeAt Go.RowKit
set_option linter.unusedVariables false

theorem obytes3 : Try.prog.bytesOf 3 = 8 := by kernel_rfl

theorem open_windowS {H : Type} {enc : TypeId × Value → H} {W : World} {r : Reach} {b0 : Nat} {v : Value} {d : DataW H} {ps : List MemPlace}
    (hval : Value.okWide Try.prog W r b0 43 v) (h : DataW.Trod enc Try.prog W 0 (fun _ => true) true 43 v d ps) :
    ∃ x0 x1 x2 a n c zs, v = .agg #[.int .i64 x0, .int .i64 x1, .int .i64 x2, .slice a n c] ∧ Ints W a n c zs ∧
      ∃ e0 e1 e2 e3, d = .agg [e0, e1, e2, e3] ∧ ((e3 = .nil ∧ n = 0) ∨ ∃ els spare, e3 = .slice els spare ∧ els.length = n) := by
  unfold Value.okWide at hval
  rw [Try.underlying43] at hval
  obtain ⟨cs, rfl, hsz, _⟩ := hval
  rw [ocells43] at hsz
  obtain ⟨fuel, hf⟩ := h
  obtain ⟨xs, n, _, hx, hl, hxs, hall⟩ := DataW.trod_struct Try.underlying43 hf
  obtain ⟨c0, c1, c2, c3, rfl⟩ : ∃ c0 c1 c2 c3, cs = #[c0, c1, c2, c3] := by
    obtain ⟨l⟩ := cs
    match l, hsz with
    | [a, b, c, d], _ => exact ⟨a, b, c, d, rfl⟩
  have hlen : xs.length = 4 := hxs
  have f0 := hall 0 _ rfl
  have f1 := hall 1 _ rfl
  have f2 := hall 2 _ rfl
  have f3 := hall 3 _ rfl
  simp only [Value.cells] at f0 f1 f2 f3
  obtain ⟨x0, rfl, _, w0⟩ := field_int f0 (by simp [hlen])
  obtain ⟨x1, rfl, _, w1⟩ := field_int f1 (by simp [hlen])
  obtain ⟨x2, rfl, _, w2⟩ := field_int f2 (by simp [hlen])
  match xs, hlen with
  | [y0, y1, y2, y3], _ =>
    simp only [List.getElem?_cons_succ, List.getElem?_cons_zero] at f3
    obtain ⟨a, n', c, zs, rfl, hI, hd⟩ := open_nums f3
    simp only [Prod.mk.injEq] at hx
    refine ⟨x0, x1, x2, a, n', c, zs, rfl, hI, y0.1, y1.1, y2.1, y3.1, by rw [hx.1]; rfl, ?_⟩
    rcases hd with ⟨h1, h2⟩ | ⟨spare, h1, _⟩
    · exact .inl ⟨h1, h2⟩
    · exact .inr ⟨_, _, h1, by simp [lits, hI.len]⟩

theorem window_reach {H : Type} {n : Nat} {d : DataW H} {ts : List TypeId} {ds : List (DataW H)} {e0 e1 e2 e3 : DataW H} (hd : d = .agg [e0, e1, e2, e3]) (he : (e3 = .nil ∧ n = 0) ∨ ∃ els spare, e3 = .slice els spare ∧ els.length = n)
    (hsz : (DataW.weightsEach Try.prog ts ds).all (· ≤ reachBytes) = true) (j : Nat) (ht : ts[j]? = some 43) (hj : ds[j]? = some d) : n ≤ 17592186044000 := by
  rcases he with ⟨_, rfl⟩ | ⟨els, spare, rfl, rfl⟩
  · omega
  · subst hd
    have hmem : (els.length + spare.length) * Try.prog.bytesOf 3 ∈ (DataW.agg [e0, e1, e2, DataW.slice els spare]).weights Try.prog 43 := by
      simp [DataW.weights, Try.underlying43, DataW.weightsEach, Try.underlying41]
    have := of_decide_eq_true (List.all_eq_true.1 hsz _ (DataW.weights_mem_each ht hj _ hmem))
    rw [obytes3] at this
    simp only [reachBytes] at this
    omega

end Go.Proofs.Ytinlknflkgijmaa

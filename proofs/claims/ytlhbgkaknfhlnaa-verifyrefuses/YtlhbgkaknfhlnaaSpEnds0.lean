/-
  Two lists that a call makes side by side: an append to each, in a region that draws its order.
-/
import Derived.Test.YtlhbgkaknfhlnaaSpPairs
import Derived.Deep.RegionHeld3
import Derived.Deep.AppendLies
namespace Go.Proofs.Ytlhbgkaknfhlnaa.Spn
open Go.RowKit Go.IntWalk Go.Sort
set_option linter.unusedVariables false

/-- The two lists: each in memory of its own. -/
structure En (w wr : World) (v1 v2 : Value) (n1 n2 : Nat) (xs ys : List Int) : Prop where
  a : wr.ownsRow w.heap.size 3 1 v1 n1 (i64s xs)
  b : wr.ownsRow w.heap.size 3 1 v2 n2 (i64s ys)
  ap : ∀ g, v1.ownBlock = some g → v2.ownBlock ≠ some g
  bel : Below w.heap.size w wr

theorem En.alloc {w W : World} {v1 v2 : Value} {n1 n2 : Nat} {xs ys : List Int} (h : En w W v1 v2 n1 n2 xs ys) (o : Obj) : En w (W.alloc o) v1 v2 n1 n2 xs ys :=
  ⟨h.a.alloc o, h.b.alloc o, h.ap, h.bel.alloc h.bel.size o⟩
theorem En.drew {w W : World} {v1 v2 : Value} {n1 n2 : Nat} {xs ys : List Int} (h : En w W v1 v2 n1 n2 xs ys) : En w W.drew v1 v2 n1 n2 xs ys :=
  ⟨h.a.drew, h.b.drew, h.ap, h.bel.trans ⟨rfl, rfl, rfl, Nat.le_refl _, fun _ _ => rfl⟩⟩
theorem En.swap {w W : World} {v1 v2 : Value} {n1 n2 : Nat} {xs ys : List Int} (h : En w W v1 v2 n1 n2 xs ys) : En w W v2 v1 n2 n1 ys xs :=
  ⟨h.b, h.a, fun g hg hg' => h.ap g hg' hg, h.bel⟩

theorem En.grow {w W w' : World} {v1 v2 : Value} {n1 n2 : Nat} {xs ys : List Int} (h : En w W v1 v2 n1 n2 xs ys) {g cap m : Nat} {zs : List Int}
    (hown : w'.ownsRow w.heap.size 3 1 (.slice (some ⟨g, 0, none⟩) m cap) m (i64s zs)) (hgrow : W.grownBy w' v1.ownBlock) (hat : v1.ownBlock = some g ∨ g = W.heap.size) :
    En w w' (.slice (some ⟨g, 0, none⟩) m cap) v2 m n2 zs ys := by
  have l2 := h.b.lt
  refine ⟨hown, h.b.kept hgrow ?_, ?_, h.bel.grown hgrow h.bel.size (fun k hk => (h.a.lt k hk).1)⟩
  · cases hv : v2.ownBlock with
    | none => exact .inl rfl
    | some q => exact .inr fun e => h.ap q e.symm hv
  · intro g' hg' hv
    have e : g = g' := by simpa [Value.ownBlock] using hg'
    subst e
    rcases hat with hat | hat
    · exact h.ap g hat hv
    · have := (l2 g hv).2
      omega

/-- An append to the first of the two, at a step of a region that draws. -/
theorem step_a {w W : World} {v1 v2 : Value} {n1 n2 : Nat} {xs ys : List Int} {ops : Array Oper} {o : Oper} {a : Act} {K : Act → World → Prop} {Q : Exit → Act → World → Prop} {E : Prop}
    (hgd : o.guard = none) (s x : Operand) (ho : o.op = .call { callee := .builtin .append, args := #[s, x], argTypes := #[27, 27] })
    (hs : a.eval s = v1) (hen : En w W v1 v2 n1 n2 xs ys) (ad : Addr) (z : Int) (hx : a.eval x = .slice (some ad) 1 1) (hc : W.cell? ad = some (.int .i64 z)) (h3 : n1 ≤ 140737488355327 / 8)
    (h : ∀ g cap w', En w w' (.slice (some ⟨g, 0, none⟩) (n1 + 1) cap) v2 (n1 + 1) n2 (xs ++ [z]) ys → (∀ p : Addr, p.block < W.heap.size → v1.ownBlock ≠ some p.block → w'.cell? p = W.cell? p) → W.heap.size ≤ w'.heap.size → K (a.put o.dst (.slice (some ⟨g, 0, none⟩) (n1 + 1) cap)) w') :
    if Region.wanted o (yielded ops a.tmps) = true then Oper.wp Try.prog o a W K Q else E := by
  obtain ⟨i0, hi0, hz0, hz1, hz2⟩ := info_parts info3
  refine step_append_lies W hgd s x 27 ho w.heap.size 3 i0 _ 1 8 Try.underlying27 hi0 hz0 hz1 hz2 rfl (by omega) v1 n1 (i64s xs) hs hen.a ad 1 1 [.int .i64 z] hx rfl ?_ (by simp [Value.oneCell']) (by omega) (by unfold maxLen; omega) (by omega) hen.bel.size W.heap.size rfl ?_
  · intro j u hu
    cases j with
    | zero =>
      simp at hu
      subst hu
      have : ad.add 0 = ad := by cases ad; simp [Addr.add]
      rw [this]
      exact hc
    | succ j => simp at hu
  · intro g cap w' hown hgrow hat hlt
    have hown' : w'.ownsRow w.heap.size 3 1 (.slice (some ⟨g, 0, none⟩) (n1 + 1) cap) (n1 + 1) (i64s (xs ++ [z])) := by simpa [i64s] using hown
    exact h g cap w' (hen.grow hown' hgrow hat) (fun p hp hne => hgrow.cell_far p hp (fun e => hne e.symm)) hgrow.size

/-- .. to the second. -/
theorem step_b {w W : World} {v1 v2 : Value} {n1 n2 : Nat} {xs ys : List Int} {ops : Array Oper} {o : Oper} {a : Act} {K : Act → World → Prop} {Q : Exit → Act → World → Prop} {E : Prop}
    (hgd : o.guard = none) (s x : Operand) (ho : o.op = .call { callee := .builtin .append, args := #[s, x], argTypes := #[27, 27] })
    (hs : a.eval s = v2) (hen : En w W v1 v2 n1 n2 xs ys) (ad : Addr) (z : Int) (hx : a.eval x = .slice (some ad) 1 1) (hc : W.cell? ad = some (.int .i64 z)) (h3 : n2 ≤ 140737488355327 / 8)
    (h : ∀ g cap w', En w w' v1 (.slice (some ⟨g, 0, none⟩) (n2 + 1) cap) n1 (n2 + 1) xs (ys ++ [z]) → (∀ p : Addr, p.block < W.heap.size → v2.ownBlock ≠ some p.block → w'.cell? p = W.cell? p) → W.heap.size ≤ w'.heap.size → K (a.put o.dst (.slice (some ⟨g, 0, none⟩) (n2 + 1) cap)) w') :
    if Region.wanted o (yielded ops a.tmps) = true then Oper.wp Try.prog o a W K Q else E :=
  step_a hgd s x ho hs hen.swap ad z hx hc h3 fun g cap w' he hk hl => h g cap w' he.swap hk hl

end Go.Proofs.Ytlhbgkaknfhlnaa.Spn

/-
  Two laws on memory: an append to a list that the call owns, whatever is appended: it stays where it is or moves to new memory; and what is kept of memory when some blocks are written.
-/
import Derived.Test.YtphmamhchkolkaaMOcZ
import Derived.ArgAppend
import Derived.Laws.AppendOwnNone
namespace Go.Proofs.Ytphmamhchkolkaa.Ocm
open Go.RowKit Oct
set_option linter.unusedVariables false

theorem wpList_append_kept {P : Program} (w : World) {ops : Array Oper} {rest : List Oper} {o : Oper} {a : Act} {Q : Exit → Act → World → Prop}
    (hg : o.guard = none) (s x : Operand) (t : TypeId) (hop : o.op = Op.call { callee := Callee.builtin Builtin.append, args := #[s, x], argTypes := #[t, t] })
    (base : Nat) (e : TypeId) (i : TypeInfo) (z : Value) (bytes : Nat) (h1 : P.underlying t = some (.slice e)) (h2 : P.info? e = some i) (h3 : i.zero = some z) (h4 : i.size = 1) (h5 : i.bytes = bytes) (h6 : z.cells.size = 1)
    (v : Value) (n : Nat) (xs : List Value) (hs : a.eval s = v) (hown : w.ownsRow base e 1 v n xs) (ao : Option Addr) (m c : Nat) (news : List Value) (hx : a.eval x = .slice ao m c) (hn : news.length = m * 1)
    (hnone : ao = none → m = 0 ∧ c = 0) (hc : ∀ ad, ao = some ad → ∀ j u, news[j]? = some u → w.cell? (ad.add j) = some u) (h1c : ∀ u ∈ news, u.oneCell' = true)
    (b1 : n + m ≤ maxLen) (b2 : (n + m) * bytes ≤ 140737488355328) (hbase : base ≤ w.heap.size)
    (hK : ∀ v' w', w'.ownsRow base e 1 v' (n + m) (xs ++ news) → ((∃ g cap, v = .slice (some ⟨g, 0, none⟩) n cap ∧ v' = .slice (some ⟨g, 0, none⟩) (n + m) cap ∧ w.grownBy w' (some g)) ∨ (w.grownBy w' none ∧ ∀ g, v'.ownBlock = some g → w.heap.size ≤ g)) → wpList P ops Q rest (a.put o.dst v') w') :
    wpList P ops Q (o :: rest) a w := by
  have hlen : xs.length = n := by simpa using hown.1
  cases ao with
  | none =>
    obtain ⟨rfl, rfl⟩ := hnone rfl
    have hnews : news = [] := List.eq_nil_of_length_eq_zero (by simpa using hn)
    subst hnews
    refine wpList_append_own_none hg s x t hop base e i 1 h1 h2 v n xs hs hown hx (hK v w (by simpa using hown) ?_)
    rcases hown.2 with ⟨rfl, _⟩ | ⟨g, cap, cur, rfl, _⟩
    · exact .inr ⟨World.grownBy.refl _ _, fun g hg => by simp [Value.ownBlock] at hg⟩
    · exact .inl ⟨g, cap, rfl, by simp, World.grownBy.refl _ _⟩
  | some ad =>
    have hcs := fun g hg => hown.cells (g := g) hg
    rcases hown.2 with ⟨rfl, rfl⟩ | ⟨g, cap, cur, rfl, hb, hh, hnc, hcm, hsz, htk⟩
    · have hxs : xs = [] := List.eq_nil_of_length_eq_zero hlen
      subst hxs
      by_cases hm : m = 0
      · subst hm
        have hnews : news = [] := List.eq_nil_of_length_eq_zero (by simpa using hn)
        subst hnews
        refine wpList_append_own _ hg s x t hop base e i z 1 bytes h1 h2 h3 h4 h5 h6 (by decide) _ 0 [] hs hown ad 0 c [] hx rfl (hc ad rfl) h1c b1 b2 hbase ?_
        intro v' w' ho hgr hiff
        have hv : v' = .slice none 0 0 := hiff.2 ⟨rfl, rfl⟩
        subst hv
        exact hK _ _ ho (.inr ⟨hgr, fun g hg => by simp [Value.ownBlock] at hg⟩)
      · refine wpList_append_grows w hg s x t hop e i z 1 bytes h1 h2 h3 h4 h5 h6 (by decide) none 0 0 [] hs (fun _ => ⟨rfl, rfl⟩) rfl (fun b hb => by cases hb) ad m c news hx hn (hc ad rfl) h1c (by omega) b1 b2 ?_
        intro v' w' ho hgr
        refine hK v' w' ⟨ho.1, ?_⟩ (.inr ⟨hgr, fun g hg => (ho.lt g hg).1⟩)
        rcases ho.2 with h | ⟨g, cap, cur, hv, hb, r⟩
        · exact .inl h
        · exact .inr ⟨g, cap, cur, hv, by omega, r⟩
    · by_cases hroom : n + m ≤ cap
      · refine wpList_append_fits w hg s x t hop base e i 1 h1 h2 h4 g n cap xs hs hown ad m c news hx hn (hc ad rfl) h1c hroom ?_
        intro w' ho hgr
        exact hK _ w' ho (.inl ⟨g, cap, rfl, rfl, hgr⟩)
      · refine wpList_append_grows w hg s x t hop e i z 1 bytes h1 h2 h3 h4 h5 h6 (by decide) (some ⟨g, 0, none⟩) n cap xs hs (fun h => by cases h) hown.1 (fun b hb => by cases hb; exact hcs g rfl) ad m c news hx hn (hc ad rfl) h1c (by omega) b1 b2 ?_
        intro v' w' ho hgr
        refine hK v' w' ⟨ho.1, ?_⟩ (.inr ⟨hgr, fun g hg => (ho.lt g hg).1⟩)
        rcases ho.2 with h | ⟨g, cap, cur, hv, hb, r⟩
        · exact .inl h
        · exact .inr ⟨g, cap, cur, hv, by omega, r⟩

/-- Of what was there nothing is written but the blocks of S. -/
structure Keeps (w w' : World) (S : Nat → Prop) : Prop where
  os : w'.os = w.os
  tape : w'.tape = w.tape
  output : w'.output = w.output
  size : w.heap.size ≤ w'.heap.size
  block : ∀ k, k < w.heap.size → ¬ S k → w'.heap[k]? = w.heap[k]?

theorem Keeps.refl (w : World) (S : Nat → Prop) : Keeps w w S := ⟨rfl, rfl, rfl, Nat.le_refl _, fun _ _ _ => rfl⟩
theorem Keeps.grown {w w1 w2 : World} {S : Nat → Prop} {row : Option Nat} (h : Keeps w w1 S) (hg : w1.grownBy w2 row) (hr : ∀ k, row = some k → S k ∨ w.heap.size ≤ k) : Keeps w w2 S :=
  ⟨hg.os.trans h.os, hg.tape.trans h.tape, hg.output.trans h.output, Nat.le_trans h.size hg.size, fun k hk hS => (hg.block k (Nat.lt_of_lt_of_le hk h.size) (fun e => by
    rcases hr k e.symm with h' | h'
    · exact hS h'
    · omega)).trans (h.block k hk hS)⟩
theorem Keeps.below {B : Nat} {w w' : World} {S : Nat → Prop} (h : Keeps w w' S) (hB : B ≤ w.heap.size) (hS : ∀ k, S k → B ≤ k) : Below B w w' :=
  ⟨h.os, h.tape, h.output, h.size, fun k hk => h.block k (by omega) (fun hs => by have := hS k hs; omega)⟩
theorem Keeps.cell {w w' : World} {S : Nat → Prop} (h : Keeps w w' S) {p : Addr} (hp : p.block < w.heap.size) (hS : ¬ S p.block) : w'.cell? p = w.cell? p := World.cell?_of_block (w := w) (h.block p.block hp hS)

/-- What is owned of one row does not lie in a block of another kind. -/
theorem owns_apart {w : World} {b1 b2 e1 e2 s1 s2 n1 n2 : Nat} {v1 v2 : Value} {x1 x2 : List Value} (h1 : w.ownsRow b1 e1 s1 v1 n1 x1) (h2 : w.ownsRow b2 e2 s2 v2 n2 x2) (he : e1 ≠ e2) : v1.ownBlock = none ∨ v1.ownBlock ≠ v2.ownBlock := by
  rcases h1.2 with ⟨rfl, _⟩ | ⟨g, cap, cur, rfl, _, hg, _⟩
  · exact .inl rfl
  · right
    rcases h2.2 with ⟨rfl, _⟩ | ⟨g', cap', cur', rfl, _, hg', _⟩
    · simp [Value.ownBlock]
    · intro e
      simp only [Value.ownBlock, Option.some.injEq] at e
      subst e
      rw [hg] at hg'
      simp only [Option.some.injEq, Obj.cells.injEq] at hg'
      exact he hg'.2.1

/-- The head of a row that is owned. -/
theorem owns_head {w : World} {base g n m cap : Nat} {xs ys : List Value} (h : w.ownsRow base 5 1 (.slice (some ⟨g, 0, none⟩) (n + m) cap) (n + m) (xs ++ ys)) (hx : xs.length = n) : w.ownsRow base 5 1 (.slice (some ⟨g, 0, none⟩) n cap) n xs := by
  rcases h.2 with ⟨h', _⟩ | ⟨g', cap', cur, hv, hb, hh, hnc, hcm, hsz, htk⟩
  · simp at h'
  · simp only [Value.slice.injEq, Option.some.injEq, Addr.mk.injEq, and_true, true_and] at hv
    obtain ⟨rfl, rfl⟩ := hv
    refine ⟨by omega, .inr ⟨g, cap, cur, rfl, hb, hh, by omega, hcm, hsz, ?_⟩⟩
    have h2 := congrArg (List.take n) htk
    have h3 : (xs ++ ys).take n = xs := by rw [← hx]; exact List.take_left
    rw [List.take_take, Nat.min_eq_left (by omega), h3] at h2
    rw [Nat.mul_one]
    exact h2

end Go.Proofs.Ytphmamhchkolkaa.Ocm

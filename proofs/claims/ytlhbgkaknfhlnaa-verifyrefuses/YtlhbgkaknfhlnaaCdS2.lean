/-
  The document's Roomy: a code in memory of its own, with a mark behind its instructions.
-/
import Derived.Test.YtlhbgkaknfhlnaaCdRegIF
import Derived.Test.YtlhbgkaknfhlnaaCdB3
import Derived.Laws.AppendOwnNone
namespace Go.Proofs.Cde
open Go.RowKit Go.IntWalk Ytlhbgkaknfhlnaa.Knd
set_option linter.unusedVariables false

theorem or_t {a b : Bool} (h : b = true) : (a || b) = true := by rw [h]; simp
theorem infoN : (Try.prog.info? 47).map (fun i => (i.zero, i.size, i.bytes)) = some (some (.agg (ia i0)), 6, 48) := by kernel_rfl
def mk7 : In := ⟨7777, 0, 0, 0, 0, 0⟩
abbrev cz : Array Value := #[.int .i64 0, .int .i64 0, .slice none 0 0, .int .i64 0]

theorem has_own {w w' : World} {b base size n : Nat} {t e : TypeId} {cs : Array Value} {v : Value} {xs : List Value} (h : HasC w b t cs) (hO : w.ownsRow base e size v n xs) (hg : w.grownBy w' v.ownBlock) (ht : t ≠ e) : HasC w' b t cs := by
  refine h.kept hg fun he => ?_
  obtain ⟨_, cs', fr, hk⟩ := owns_block hO b he.symm
  rw [show w.heap[b]? = _ from h] at hk
  cases hk
  exact ht rfl
theorem owns_other {w : World} {b i base size n : Nat} {t e : TypeId} {cs : Array Value} {v : Value} {xs : List Value} (hO : w.ownsRow base e size v n xs) (h : HasC w b t cs) (ht : t ≠ e) (u : Value) : (w.setCell ⟨b, i, none⟩ u).ownsRow base e size v n xs := by
  refine ⟨hO.1, ?_⟩
  rcases hO.2 with hn | ⟨g, cap, cur, rfl, hb, hgg, rest⟩
  · exact .inl hn
  · refine .inr ⟨g, cap, cur, rfl, hb, ?_, rest⟩
    rw [Below.heap_setCell w ⟨b, i, none⟩ u g fun e' => ?_]
    · exact hgg
    · have e2 : g = b := e'
      subst e2
      rw [show w.heap[g]? = _ from h] at hgg
      cases hgg
      exact ht rfl
theorem own_caps {w : World} {base : Nat} {e : TypeId} {size g n cap : Nat} {xs : List Value} (h : w.ownsRow base e size (.slice (some ⟨g, 0, none⟩) n cap) n xs) : n ≤ cap ∧ cap ≤ maxLen := by
  rcases h.2 with ⟨h1, -⟩ | ⟨g', cap', cur, hv, -, -, h3, h4, -⟩
  · cases h1
  · cases hv
    exact ⟨h3, h4⟩
/-- An append of any list to a list of the call's own that is empty. -/
theorem append_row {P : Program} (w : World) {ops : Array Oper} {rest : List Oper} {o : Oper} {a : Act} {Q : Exit → Act → World → Prop}
    (hg : o.guard = none) (s x : Operand) (t : TypeId) (hop : o.op = Op.call { callee := Callee.builtin Builtin.append, args := #[s, x], argTypes := #[t, t] })
    (base : Nat) (e : TypeId) (i : TypeInfo) (z : Value) (size bytes : Nat) (h1 : P.underlying t = some (.slice e)) (h2 : P.info? e = some i) (h3 : i.zero = some z) (h4 : i.size = size) (h5 : i.bytes = bytes) (h6 : z.cells.size = size) (h7 : 0 < size)
    (v : Value) (hs : a.eval s = v) (hown : w.ownsRow base e size v 0 []) (ao : Option Addr) (m c : Nat) (news : List Value) (hx : a.eval x = .slice ao m c) (hn : news.length = m * size)
    (hnone : ao = none → m = 0 ∧ c = 0) (hc : ∀ ad, ao = some ad → ∀ j u, news[j]? = some u → w.cell? (ad.add j) = some u) (h1c : ∀ u ∈ news, u.oneCell' = true)
    (b1 : m ≤ maxLen) (b2 : m * bytes ≤ 140737488355328) (hbase : base ≤ w.heap.size)
    (hK : ∀ v' w', w'.ownsRow base e size v' m news → w.grownBy w' v.ownBlock → wpList P ops Q rest (a.put o.dst v') w') :
    wpList P ops Q (o :: rest) a w := by
  cases ao with
  | none =>
    obtain ⟨rfl, rfl⟩ := hnone rfl
    have hnews : news = [] := List.eq_nil_of_length_eq_zero (by simpa using hn)
    subst hnews
    exact wpList_append_own_none hg s x t hop base e i size h1 h2 _ 0 [] hs hown hx (hK _ w hown (World.grownBy.refl _ _))
  | some ad =>
    refine wpList_append_own w hg s x t hop base e i z size bytes h1 h2 h3 h4 h5 h6 h7 _ 0 [] hs hown ad m c news hx hn (hc ad rfl) h1c (by omega) (by rw [Nat.zero_add]; exact b2) hbase ?_
    intro v' w' ho hgr hiff
    exact hK v' w' (by simpa using ho) hgr
/-- One more element at the end of an own row. -/
theorem append_one {P : Program} (w : World) {ops : Array Oper} {rest : List Oper} {o : Oper} {a : Act} {Q : Exit → Act → World → Prop}
    (hg : o.guard = none) (s x : Operand) (t : TypeId) (hop : o.op = Op.call { callee := Callee.builtin Builtin.append, args := #[s, x], argTypes := #[t, t] })
    (base : Nat) (e : TypeId) (i : TypeInfo) (z : Value) (size bytes : Nat) (h1 : P.underlying t = some (.slice e)) (h2 : P.info? e = some i) (h3 : i.zero = some z) (h4 : i.size = size) (h5 : i.bytes = bytes) (h6 : z.cells.size = size) (h7 : 0 < size)
    (v : Value) (n : Nat) (xs : List Value) (hs : a.eval s = v) (hown : w.ownsRow base e size v n xs) (q : Nat) (new : Array Value) (hx : a.eval x = .slice (some ⟨q, 0, none⟩) 1 1) (hn : new.size = size) (hc : HasC w q e new)
    (h1c : ∀ u ∈ new.toList, u.oneCell' = true) (b1 : n + 1 ≤ maxLen) (b2 : (n + 1) * bytes ≤ 140737488355328) (hbase : base ≤ w.heap.size)
    (hK : ∀ g cap w', w'.ownsRow base e size (.slice (some ⟨g, 0, none⟩) (n + 1) cap) (n + 1) (xs ++ new.toList) → w.grownBy w' v.ownBlock → wpList P ops Q rest (a.put o.dst (.slice (some ⟨g, 0, none⟩) (n + 1) cap)) w') :
    wpList P ops Q (o :: rest) a w := by
  refine wpList_append_lies w hg s x t hop base e i z size bytes h1 h2 h3 h4 h5 h6 h7 v n xs hs hown ⟨q, 0, none⟩ 1 1 new.toList hx (by simp [hn]) ?_ h1c (by omega) b1 b2 hbase w.heap.size rfl ?_
  · intro j u hu
    rw [Addr.add_lit, Nat.zero_add]
    exact hc.cell j (by simpa using hu)
  · intro g cap w' ho hgr _ _
    exact hK g cap w' ho hgr

/-- The drawn region of Roomy, by which of its operations are done. -/
structure Rg (W : World) (f d : Int) (a : Option Addr) (n cap : Nat) (o : Int) (L : List In) (q : Nat → Bool) (y0 y1 y2 y3 y4 y5 y6 y7 y8 y9 y10 y11 : Value) (w : World) : Prop where
  bel : Below W.heap.size W w
  b0 : HasC w W.heap.size 26 (cd f d a n cap o)
  b1 : HasC w (W.heap.size + 1) 26 cz
  ba : q 12 = false → HasC w (W.heap.size + 2) 26 (cd f d a n cap o)
  bb : q 12 = true → HasC w (W.heap.size + 2) 26 #[.int .i64 f, .int .i64 d, y10, .int .i64 o]
  f0 : q 0 = true → q 3 = false → ∃ g, y0 = .slice (some ⟨g, 0, none⟩) 0 0 ∧ HasC w g 47 #[] ∧ W.heap.size ≤ g
  f1 : q 1 = true → y1 = .pointer (some ⟨W.heap.size, 2, none⟩)
  f2 : q 2 = true → y2 = .slice a n cap
  f3 : q 3 = true → q 6 = false → w.ownsRow W.heap.size 47 6 y3 n (is6 L)
  f4 : q 4 = true → y4 = .agg (ia mk7)
  f5 : q 5 = true → q 6 = false → ∃ g, y5 = .slice (some ⟨g, 0, none⟩) 1 1 ∧ HasC w g 47 (ia mk7)
  f6 : q 6 = true → q 3 = true ∧ ∃ g c, y6 = .slice (some ⟨g, 0, none⟩) (n + 1) c ∧ w.ownsRow W.heap.size 47 6 (.slice (some ⟨g, 0, none⟩) (n + 1) c) (n + 1) (is6 L ++ i6 mk7)
  f7 : q 7 = true → y7 = .pointer (some ⟨W.heap.size, 2, none⟩)
  f8 : q 8 = true → y8 = .slice a n cap
  f9 : q 9 = true → y9 = .int .i64 (n : Int)
  f10 : q 10 = true → q 6 = true ∧ ∃ g c, y6 = .slice (some ⟨g, 0, none⟩) (n + 1) c ∧ y10 = .slice (some ⟨g, 0, none⟩) n c
  f11 : q 11 = true → y11 = .pointer (some ⟨W.heap.size + 2, 2, none⟩)
  ph : q 12 = true → q 10 = true ∧ q 6 = true ∧ q 3 = true
theorem own_empty {w : World} {g base : Nat} (h : HasC w g 47 #[]) (hb : base ≤ g) : w.ownsRow base 47 6 (.slice (some ⟨g, 0, none⟩) 0 0) 0 [] := ⟨rfl, .inr ⟨g, 0, #[], rfl, hb, h, Nat.le_refl _, Nat.zero_le _, rfl, rfl⟩⟩
theorem has_ne {w : World} {b c : Nat} {t : TypeId} {cs ds : Array Value} (h : HasC w b t cs) (k : HasC w c t ds) (hne : cs.size ≠ ds.size) : some b ≠ some c := by
  rintro he
  cases he
  have k2 : w.heap[b]? = some (.cells ds t (0, 0)) := k
  rw [show w.heap[b]? = _ from h] at k2
  cases k2
  exact hne rfl

/-- What Roomy answers. -/
def RoP (W : World) (f d o : Int) (n : Nat) (L : List In) (e : Ending) (W' : World) : Prop :=
  ∃ g c, e = .returned (.agg (cd f d (some ⟨g, 0, none⟩) n c o)) ∧ W'.ownsRow W.heap.size 47 6 (.slice (some ⟨g, 0, none⟩) (n + 1) c) (n + 1) (is6 (L ++ [mk7])) ∧ Below W.heap.size W W'
end Go.Proofs.Cde

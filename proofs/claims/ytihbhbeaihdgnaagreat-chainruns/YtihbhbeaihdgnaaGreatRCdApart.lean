/-
  ref03.Apart: lists of numbers, each nil or in a block of its own, don't share memory, spare room included.
-/
import Derived.Test.YtihbhbeaihdgnaaGreatRGX
import Derived.Test.YtihbhbeaihdgnaaGreatRVa0
import Derived.ArgAppend
import Derived.Laws.AppendOwnNone
import Derived.Laws.OwnMore
namespace Go.Proofs.Cde
open YtihbhbeaihdgnaaGreat (Wd wdA Fits inpV fitE_cases)
open Go.RowKit Go.IntWalk YtihbhbeaihdgnaaGreat.Knd
set_option linter.unusedVariables false
namespace Ap

structure Keeps (w w' : World) (S : Nat → Prop) : Prop where
  os : w'.os = w.os
  tape : w'.tape = w.tape
  output : w'.output = w.output
  size : w.heap.size ≤ w'.heap.size
  block : ∀ k, k < w.heap.size → ¬ S k → w'.heap[k]? = w.heap[k]?

theorem Keeps.refl (w : World) (S : Nat → Prop) : Keeps w w S := ⟨rfl, rfl, rfl, Nat.le_refl _, fun _ _ _ => rfl⟩
theorem Keeps.grown {w w1 w2 : World} {S : Nat → Prop} {row : Option Nat} (h : Keeps w w1 S) (hg : w1.grownBy w2 row) (hr : ∀ k, row = some k → S k ∨ w.heap.size ≤ k) : Keeps w w2 S :=
  ⟨hg.os.trans h.os, hg.tape.trans h.tape, hg.output.trans h.output, Nat.le_trans h.size hg.size, fun k hk hS => (hg.block k (Nat.lt_of_lt_of_le hk h.size) (fun e => by
    rcases hr k e.symm with h' | h'
    · exact hS h'
    · omega)).trans (h.block k hk hS)⟩
theorem Keeps.trans {w w1 w2 : World} {S S1 : Nat → Prop} (h : Keeps w w1 S) (h1 : Keeps w1 w2 S1) (hr : ∀ k, S1 k → S k ∨ w.heap.size ≤ k) : Keeps w w2 S :=
  ⟨h1.os.trans h.os, h1.tape.trans h.tape, h1.output.trans h.output, Nat.le_trans h.size h1.size, fun k hk hS => (h1.block k (Nat.lt_of_lt_of_le hk h.size) (fun e => by
    rcases hr k e with h' | h'
    · exact hS h'
    · omega)).trans (h.block k hk hS)⟩
theorem Keeps.mono {w w' : World} {S S1 : Nat → Prop} (h : Keeps w w' S) (hr : ∀ k, k < w.heap.size → S k → S1 k) : Keeps w w' S1 :=
  ⟨h.os, h.tape, h.output, h.size, fun k hk hS => h.block k hk (fun e => hS (hr k hk e))⟩
theorem Keeps.below {B : Nat} {w w' : World} {S : Nat → Prop} (h : Keeps w w' S) (hB : B ≤ w.heap.size) (hS : ∀ k, S k → B ≤ k) : Below B w w' :=
  ⟨h.os, h.tape, h.output, h.size, fun k hk => h.block k (by omega) (fun hs => by have := hS k hs; omega)⟩
theorem Keeps.of_below {B : Nat} {w w' : World} {S : Nat → Prop} (h : Below B w w') (hS : ∀ k, k < w.heap.size → B ≤ k → S k) : Keeps w w' S :=
  ⟨h.os, h.tape, h.output, h.size, fun k hk hs => h.block k (by
    rcases Nat.lt_or_ge k B with h' | h'
    · exact h'
    · exact absurd (hS k hk h') hs)⟩
theorem Keeps.later {w w1 w2 : World} {S : Nat → Prop} (h : Keeps w w1 S) (hb : Below w1.heap.size w1 w2) : Keeps w w2 S :=
  h.trans (Keeps.of_below (S := fun _ => False) hb (fun k hk h' => by omega)) (fun k hk => hk.elim)
theorem Keeps.cell {w w' : World} {S : Nat → Prop} (h : Keeps w w' S) {p : Addr} (hp : p.block < w.heap.size) (hS : ¬ S p.block) : w'.cell? p = w.cell? p := World.cell?_of_block (w := w) (h.block p.block hp hS)
theorem Keeps.owns {w w' : World} {S : Nat → Prop} {base : Nat} {e : TypeId} {size : Nat} {v : Value} {n : Nat} {xs : List Value} (hk : Keeps w w' S) (h : w.ownsRow base e size v n xs) (hS : ∀ g, v.ownBlock = some g → ¬ S g) : w'.ownsRow base e size v n xs := by
  have hlt := h.lt
  obtain ⟨h1, h2⟩ := h
  refine ⟨h1, ?_⟩
  rcases h2 with h2 | ⟨g, cap, cur, hv, hg, hh, r⟩
  · exact .inl h2
  · subst hv
    exact .inr ⟨g, cap, cur, rfl, hg, by rw [hk.block g (hlt g rfl).2 (hS g rfl)]; exact hh, r⟩
theorem owns_apart {w : World} {b1 b2 e1 e2 s1 s2 n1 n2 : Nat} {v1 v2 : Value} {x1 x2 : List Value} (h1 : w.ownsRow b1 e1 s1 v1 n1 x1) (h2 : w.ownsRow b2 e2 s2 v2 n2 x2) (he : e1 ≠ e2) : v1.ownBlock = none ∨ v1.ownBlock ≠ v2.ownBlock := by
  rcases h1.2 with ⟨rfl, _⟩ | ⟨g, cap, cur, rfl, _, hg, _⟩
  · exact .inl rfl
  · right
    rcases h2.2 with ⟨rfl, _⟩ | ⟨g', cap', cur', rfl, _, hg', _⟩
    · simp [Value.ownBlock]
    · intro e
      simp only [Value.ownBlock, Option.some.injEq] at e
      subst e
      rw [hg] at hg'
      simp only [Option.some.injEq, Obj.cells.injEq] at hg'
      exact he hg'.2.1

theorem wpList_append_kept {P : Program} (w : World) {ops : Array Oper} {rest : List Oper} {o : Oper} {a : Act} {Q : Exit → Act → World → Prop}
    (hg : o.guard = none) (s x : Operand) (t : TypeId) (hop : o.op = Op.call { callee := Callee.builtin Builtin.append, args := #[s, x], argTypes := #[t, t] })
    (base : Nat) (e : TypeId) (i : TypeInfo) (z : Value) (bytes : Nat) (h1 : P.underlying t = some (.slice e)) (h2 : P.info? e = some i) (h3 : i.zero = some z) (h4 : i.size = 1) (h5 : i.bytes = bytes) (h6 : z.cells.size = 1)
    (v : Value) (n : Nat) (xs : List Value) (hs : a.eval s = v) (hown : w.ownsRow base e 1 v n xs) (ao : Option Addr) (m c : Nat) (news : List Value) (hx : a.eval x = .slice ao m c) (hn : news.length = m * 1)
    (hnone : ao = none → m = 0 ∧ c = 0) (hc : ∀ ad, ao = some ad → ∀ j u, news[j]? = some u → w.cell? (ad.add j) = some u) (h1c : ∀ u ∈ news, u.oneCell' = true)
    (b1 : n + m ≤ maxLen) (b2 : (n + m) * bytes ≤ 140737488355328) (hbase : base ≤ w.heap.size)
    (hK : ∀ v' w', w'.ownsRow base e 1 v' (n + m) (xs ++ news) → ((∃ g cap, v = .slice (some ⟨g, 0, none⟩) n cap ∧ v' = .slice (some ⟨g, 0, none⟩) (n + m) cap ∧ w.grownBy w' (some g)) ∨ (w.grownBy w' none ∧ ∀ g, v'.ownBlock = some g → w.heap.size ≤ g)) → wpList P ops Q rest (a.put o.dst v') w') :
    wpList P ops Q (o :: rest) a w := by
  have hlen : xs.length = n := by simpa using hown.1
  cases ao with
  | none =>
    obtain ⟨rfl, rfl⟩ := hnone rfl
    have hnews : news = [] := List.eq_nil_of_length_eq_zero (by simpa using hn)
    subst hnews
    refine wpList_append_own_none hg s x t hop base e i 1 h1 h2 v n xs hs hown hx (hK v w (by simpa using hown) ?_)
    rcases hown.2 with ⟨rfl, _⟩ | ⟨g, cap, cur, rfl, _⟩
    · exact .inr ⟨World.grownBy.refl _ _, fun g hg => by simp [Value.ownBlock] at hg⟩
    · exact .inl ⟨g, cap, rfl, by simp, World.grownBy.refl _ _⟩
  | some ad =>
    have hcs := fun g hg => hown.cells (g := g) hg
    rcases hown.2 with ⟨rfl, rfl⟩ | ⟨g, cap, cur, rfl, hb, hh, hnc, hcm, hsz, htk⟩
    · have hxs : xs = [] := List.eq_nil_of_length_eq_zero hlen
      subst hxs
      by_cases hm : m = 0
      · subst hm
        have hnews : news = [] := List.eq_nil_of_length_eq_zero (by simpa using hn)
        subst hnews
        refine wpList_append_own _ hg s x t hop base e i z 1 bytes h1 h2 h3 h4 h5 h6 (by decide) _ 0 [] hs hown ad 0 c [] hx rfl (hc ad rfl) h1c b1 b2 hbase ?_
        intro v' w' ho hgr hiff
        have hv : v' = .slice none 0 0 := hiff.2 ⟨rfl, rfl⟩
        subst hv
        exact hK _ _ ho (.inr ⟨hgr, fun g hg => by simp [Value.ownBlock] at hg⟩)
      · refine wpList_append_grows w hg s x t hop e i z 1 bytes h1 h2 h3 h4 h5 h6 (by decide) none 0 0 [] hs (fun _ => ⟨rfl, rfl⟩) rfl (fun b hb => by cases hb) ad m c news hx hn (hc ad rfl) h1c (by omega) b1 b2 ?_
        intro v' w' ho hgr
        refine hK v' w' ⟨ho.1, ?_⟩ (.inr ⟨hgr, fun g hg => (ho.lt g hg).1⟩)
        rcases ho.2 with h | ⟨g, cap, cur, hv, hb, r⟩
        · exact .inl h
        · exact .inr ⟨g, cap, cur, hv, by omega, r⟩
    · by_cases hroom : n + m ≤ cap
      · refine wpList_append_fits w hg s x t hop base e i 1 h1 h2 h4 g n cap xs hs hown ad m c news hx hn (hc ad rfl) h1c hroom ?_
        intro w' ho hgr
        exact hK _ w' ho (.inl ⟨g, cap, rfl, rfl, hgr⟩)
      · refine wpList_append_grows w hg s x t hop e i z 1 bytes h1 h2 h3 h4 h5 h6 (by decide) (some ⟨g, 0, none⟩) n cap xs hs (fun h => by cases h) hown.1 (fun b hb => by cases hb; exact hcs g rfl) ad m c news hx hn (hc ad rfl) h1c (by omega) b1 b2 ?_
        intro v' w' ho hgr
        refine hK v' w' ⟨ho.1, ?_⟩ (.inr ⟨hgr, fun g hg => (ho.lt g hg).1⟩)
        rcases ho.2 with h | ⟨g, cap, cur, hv, hb, r⟩
        · exact .inl h
        · exact .inr ⟨g, cap, cur, hv, by omega, r⟩

theorem owns_head {w : World} {base g n m cap : Nat} {xs ys : List Value} (h : w.ownsRow base 3 1 (.slice (some ⟨g, 0, none⟩) (n + m) cap) (n + m) (xs ++ ys)) (hx : xs.length = n) : w.ownsRow base 3 1 (.slice (some ⟨g, 0, none⟩) n cap) n xs := by
  rcases h.2 with ⟨h', _⟩ | ⟨g', cap', cur, hv, hb, hh, hnc, hcm, hsz, htk⟩
  · simp at h'
  · simp only [Value.slice.injEq, Option.some.injEq, Addr.mk.injEq, and_true, true_and] at hv
    obtain ⟨rfl, rfl⟩ := hv
    refine ⟨by omega, .inr ⟨g, cap, cur, rfl, hb, hh, by omega, hcm, hsz, ?_⟩⟩
    have h2 := congrArg (List.take n) htk
    have h3 : (xs ++ ys).take n = xs := by rw [← hx]; exact List.take_left
    rw [List.take_take, Nat.min_eq_left (by omega), h3] at h2
    rw [Nat.mul_one]
    exact h2

theorem ownsRow_slice {w : World} {base e n : Nat} {v : Value} {xs : List Value} (h : w.ownsRow base e 1 v n xs) (hn : n ≠ 0) : ∃ g cap, v = .slice (some ⟨g, 0, none⟩) n cap := by
  rcases h.2 with ⟨rfl, h0⟩ | ⟨g, cap, cur, rfl, _⟩
  · exact absurd h0 hn
  · exact ⟨g, cap, rfl⟩

def mk1 (j : Nat) : Value := .int .i64 (100000 + (j : Int))
def mk2 (j : Nat) : Value := .int .i64 (200000 + (j : Int))

/-- Lists of bytes, each nil or in a block of its own; their slice lies in block L. -/
structure Lists (w : World) (L M : Nat) (v : Nat → Value) (n : Nat → Nat) : Prop where
  lt : L < w.heap.size
  cell : ∀ i, i < M → w.cell? ⟨L, i, none⟩ = some (v i)
  row : ∀ i, i < M → ∃ xs, w.ownsRow 0 3 1 (v i) (n i) xs
  dist : ∀ i j, i < M → j < M → i ≠ j → ∀ k, (v i).ownBlock = some k → (v j).ownBlock ≠ some k
  ne : ∀ i, i < M → (v i).ownBlock ≠ some L
  small : ∀ i, i < M → n i ≤ 17592186044000
  few : M ≤ 3000000000000

def Of (M : Nat) (v : Nat → Value) (k : Nat) : Prop := ∃ i, i < M ∧ (v i).ownBlock = some k

theorem Lists.glt {w : World} {L M : Nat} {v : Nat → Value} {n : Nat → Nat} (h : Lists w L M v n) (i : Nat) (hi : i < M) {k : Nat} (hk : (v i).ownBlock = some k) : k < w.heap.size := by
  obtain ⟨xs, hx⟩ := h.row i hi
  exact (hx.lt k hk).2
theorem Lists.notL {w : World} {L M : Nat} {v : Nat → Value} {n : Nat → Nat} (h : Lists w L M v n) : ¬ Of M v L := fun ⟨i, hi, e⟩ => h.ne i hi e

abbrev Full (w : World) (v : Nat → Value) (n : Nat → Nat) (j : Nat) : Prop := w.ownsRow 0 3 1 (v j) (n j) (List.replicate (n j) (mk1 j))

/-- Behind the first i lists and k bytes of the next one. -/
structure MarkA (w wr : World) (M : Nat) (v : Nat → Value) (n : Nat → Nat) (i k : Nat) : Prop where
  past : ∀ j, j < M → j < i → Full wr v n j
  here : i < M → ∃ xs, wr.ownsRow 0 3 1 (v i) (n i) xs ∧ ∀ t, t < k → xs[t]? = some (mk1 i)
  next : ∀ j, j < M → i < j → ∃ xs, wr.ownsRow 0 3 1 (v j) (n j) xs
  keeps : Keeps w wr (Of M v)

theorem MarkA.start {w : World} {L M : Nat} {v : Nat → Value} {n : Nat → Nat} (h : Lists w L M v n) : MarkA w w M v n 0 0 :=
  ⟨fun j _ hj => by omega, fun hi => by obtain ⟨xs, hx⟩ := h.row 0 hi; exact ⟨xs, hx, fun t ht => by omega⟩, fun j hj _ => h.row j hj, Keeps.refl _ _⟩

theorem ne_of_dist {a b : Option Nat} (h : ∀ k, a = some k → b ≠ some k) {k : Nat} (hk : b = some k) : a = none ∨ a ≠ some k := by
  cases a with
  | none => exact .inl rfl
  | some x => exact .inr (fun e => h x rfl (by rw [hk]; exact e.symm))

theorem MarkA.store {w wr : World} {L M : Nat} {v : Nat → Value} {n : Nat → Nat} {i k g cap : Nat} (hl : Lists w L M v n) (h : MarkA w wr M v n i k) (hi : i < M) (hk : k < n i) (hv : v i = .slice (some ⟨g, 0, none⟩) (n i) cap) : MarkA w (wr.setCell ⟨g, k, none⟩ (mk1 i)) M v n i (k + 1) := by
  obtain ⟨xs, hx, ht⟩ := h.here hi
  have hb : (v i).ownBlock = some g := by rw [hv]; rfl
  rw [hv] at hx
  have hst := hx.stored k (mk1 i)
  have hne : ∀ j, j < M → j ≠ i → (v j).ownBlock = none ∨ (v j).ownBlock ≠ some g := fun j hj hji => ne_of_dist (hl.dist j i hj hi hji) hb
  have hxl : xs.length = n i := by simpa using hx.1
  refine ⟨fun j hj hji => (h.past j hj hji).kept hst.2 (hne j hj (by omega)), fun _ => ⟨_, by rw [hv]; exact hst.1, fun t htk => ?_⟩, fun j hj hij => ?_, h.keeps.grown hst.2 (fun k e => by cases e; exact .inl ⟨i, hi, hb⟩)⟩
  · by_cases e : t = k
    · subst e; simp [hxl, hk]
    · rw [List.getElem?_set_ne (by omega)]; exact ht t (by omega)
  · obtain ⟨ys, hy⟩ := h.next j hj hij
    exact ⟨ys, hy.kept hst.2 (hne j hj (by omega))⟩

theorem MarkA.done {w wr : World} {M : Nat} {v : Nat → Value} {n : Nat → Nat} {i : Nat} (h : MarkA w wr M v n i (n i)) (hi : i < M) : MarkA w wr M v n (i + 1) 0 := by
  obtain ⟨xs, hx, ht⟩ := h.here hi
  have hxl : xs.length = n i := by simpa using hx.1
  have e : xs = List.replicate (n i) (mk1 i) := by
    refine List.ext_getElem? fun t => ?_
    by_cases htn : t < n i
    · rw [ht t htn]; simp [htn]
    · rw [List.getElem?_eq_none (by omega), List.getElem?_eq_none (by simp; omega)]
  subst e
  refine ⟨fun j hj hji => ?_, fun hi' => ?_, fun j hj hij => h.next j hj (by omega), h.keeps⟩
  · by_cases e : j = i
    · subst e; exact hx
    · exact h.past j hj (by omega)
  · obtain ⟨ys, hy⟩ := h.next (i + 1) hi' (by omega)
    exact ⟨ys, hy, fun t ht => by omega⟩

abbrev lng (h n d : Nat → Nat) (j : Nat) : Value := .slice (some ⟨h j, 0, none⟩) (n j + 20) (d j)
abbrev Cells (n : Nat → Nat) (j k : Nat) : List Value := List.replicate (n j) (mk1 j) ++ List.replicate k (mk2 j)

/-- Behind i lists that were grown. -/
structure Longer (w wr : World) (M : Nat) (v : Nat → Value) (n h d : Nat → Nat) (i : Nat) (vl : Value) : Prop where
  full : ∀ j, j < M → Full wr v n j
  long : ∀ j, j < i → wr.ownsRow 0 3 1 (lng h n d j) (n j + 20) (Cells n j 20)
  blk : ∀ j, j < i → h j < wr.heap.size ∧ ((v j).ownBlock = some (h j) ∨ w.heap.size ≤ h j)
  own : wr.ownsRow 0 42 1 vl i ((List.range i).map (lng h n d))
  vlb : ∀ k, vl.ownBlock = some k → w.heap.size ≤ k
  keeps : Keeps w wr (Of M v)

/-- The next list, grown by k bytes. -/
structure Grow (w wr : World) (M : Nat) (v : Nat → Value) (n h d : Nat → Nat) (i : Nat) (vl : Value) (k : Nat) (vx : Value) : Prop where
  all : Longer w wr M v n h d i vl
  x : wr.ownsRow 0 3 1 vx (n i + k) (Cells n i k)
  xb : (∃ g cap, v i = .slice (some ⟨g, 0, none⟩) (n i) cap ∧ vx = .slice (some ⟨g, 0, none⟩) (n i + k) cap) ∨ (vx = .slice none 0 0) ∨ (∀ b, vx.ownBlock = some b → w.heap.size ≤ b ∧ ∀ j, j < i → b ≠ h j)

theorem Longer.start {w wr : World} {M : Nat} {v : Nat → Value} {n : Nat → Nat} (hA : MarkA w wr M v n M 0) : Longer w wr M v n (fun _ => 0) (fun _ => 0) 0 (.slice none 0 0) :=
  ⟨fun j hj => hA.past j hj hj, fun j hj => by omega, fun j hj => by omega, World.ownsRow_nil _ _ _ _, fun k hk => by simp [Value.ownBlock] at hk, hA.keeps⟩

theorem Longer.alloc {w wr : World} {M : Nat} {v : Nat → Value} {n h d : Nat → Nat} {i : Nat} {vl : Value} (H : Longer w wr M v n h d i vl) (o : Obj) : Longer w (wr.alloc o) M v n h d i vl :=
  ⟨fun j hj => (H.full j hj).alloc o, fun j hj => (H.long j hj).alloc o, fun j hj => ⟨by have := (H.blk j hj).1; simp; omega, (H.blk j hj).2⟩, H.own.alloc o, H.vlb, H.keeps.grown (World.grownBy_alloc wr o none) (fun k e => by cases e)⟩

theorem Grow.start {w wr : World} {M : Nat} {v : Nat → Value} {n h d : Nat → Nat} {i : Nat} {vl : Value} (H : Longer w wr M v n h d i vl) (hi : i < M) : Grow w wr M v n h d i vl 0 (v i) := by
  have hf := H.full i hi
  refine ⟨H, by simpa [Cells] using hf, ?_⟩
  rcases hf.2 with ⟨hv, _⟩ | ⟨g, cap, cur, hv, _⟩
  · exact .inr (.inl hv)
  · exact .inl ⟨g, cap, hv, hv⟩

theorem own_ne {b x : Nat} {n c : Nat} (h : b ≠ x) : (Value.slice (some ⟨b, 0, none⟩) n c).ownBlock = none ∨ (Value.slice (some ⟨b, 0, none⟩) n c).ownBlock ≠ some x := .inr (by simp [Value.ownBlock]; exact h)

theorem Longer.calm {w wr w2 : World} {M : Nat} {v : Nat → Value} {n h d : Nat → Nat} {i : Nat} {vl : Value} (H : Longer w wr M v n h d i vl) (hg : wr.grownBy w2 none) : Longer w w2 M v n h d i vl :=
  ⟨fun j hj => (H.full j hj).kept hg (Decidable.em _), fun j hj => (H.long j hj).kept hg (by simp [Value.ownBlock]), fun j hj => ⟨Nat.lt_of_lt_of_le (H.blk j hj).1 hg.size, (H.blk j hj).2⟩,
    H.own.kept hg (Decidable.em _), H.vlb, H.keeps.grown hg (fun k e => by cases e)⟩

/-- One byte more behind the next list, in its place. -/
theorem Grow.same {w w1 w2 : World} {L M : Nat} {v : Nat → Value} {n h d : Nat → Nat} {i : Nat} {vl : Value} {k b cx : Nat} (hl : Lists w L M v n) (hi : i < M) (H : Grow w w1 M v n h d i vl k (.slice (some ⟨b, 0, none⟩) (n i + k) cx))
    (ho : w2.ownsRow 0 3 1 (.slice (some ⟨b, 0, none⟩) (n i + (k + 1)) cx) (n i + (k + 1)) (Cells n i (k + 1))) (hg : w1.grownBy w2 (some b)) : Grow w w2 M v n h d i vl (k + 1) (.slice (some ⟨b, 0, none⟩) (n i + (k + 1)) cx) := by
  have hx : (v i = .slice (some ⟨b, 0, none⟩) (n i) cx) ∨ (w.heap.size ≤ b ∧ ∀ j, j < i → b ≠ h j) := by
    rcases H.xb with ⟨g', cap', h1, h2⟩ | h1 | h1
    · simp only [Value.slice.injEq, Option.some.injEq, Addr.mk.injEq, and_true, true_and] at h2
      obtain ⟨rfl, rfl⟩ := h2
      exact .inl h1
    · simp at h1
    · exact .inr (h1 b rfl)
  have hb : ∀ j, j < M → j ≠ i → (v j).ownBlock = none ∨ (v j).ownBlock ≠ some b := fun j hj hji => by
    rcases hx with h1 | ⟨h1, _⟩
    · exact ne_of_dist (hl.dist j i hj hi hji) (by rw [h1]; rfl)
    · refine .inr (fun e => ?_)
      have := hl.glt j hj e
      omega
  have hh : ∀ j, j < i → h j ≠ b := fun j hj => by
    rcases hx with h1 | ⟨_, h2⟩
    · have hib : (v i).ownBlock = some b := by rw [h1]; rfl
      rcases (H.all.blk j hj).2 with e | e
      · intro e'
        rw [e'] at e
        exact hl.dist j i (by omega) hi (by omega) b e hib
      · have := hl.glt i hi hib
        omega
    · exact fun e => h2 j hj e.symm
  refine ⟨⟨fun j hj => ?_, fun j hj => (H.all.long j hj).kept hg (own_ne (hh j hj)), fun j hj => ⟨Nat.lt_of_lt_of_le (H.all.blk j hj).1 hg.size, (H.all.blk j hj).2⟩, H.all.own.kept hg ?_, H.all.vlb, H.all.keeps.grown hg (fun k e => by
    cases e
    rcases hx with h1 | ⟨h1, _⟩
    · exact .inl ⟨i, hi, by rw [h1]; rfl⟩
    · exact .inr h1)⟩, ho, ?_⟩
  · by_cases e : j = i
    · subst e
      rcases hx with h1 | ⟨h1, _⟩
      · have := owns_head ho (by simp)
        unfold Full
        rw [h1]
        exact this
      · refine (H.all.full j hj).kept hg (.inr (fun e => ?_))
        have := hl.glt j hj e
        omega
    · exact (H.all.full j hj).kept hg (hb j hj e)
  · exact owns_apart H.all.own H.x (by decide)
  · rcases hx with h1 | h1
    · exact .inl ⟨b, cx, h1, rfl⟩
    · exact .inr (.inr (fun b' hb' => by
        simp only [Value.ownBlock, Option.some.injEq] at hb'
        subst hb'
        exact h1))

theorem Grow.new {w w1 w2 : World} {M : Nat} {v : Nat → Value} {n h d : Nat → Nat} {i : Nat} {vl vx v' : Value} {k : Nat} (H : Grow w w1 M v n h d i vl k vx)
    (ho : w2.ownsRow 0 3 1 v' (n i + (k + 1)) (Cells n i (k + 1))) (hg : w1.grownBy w2 none) (hb : ∀ b, v'.ownBlock = some b → w1.heap.size ≤ b) : Grow w w2 M v n h d i vl (k + 1) v' :=
  ⟨H.all.calm hg, ho, .inr (.inr (fun b e => ⟨by have := H.all.keeps.size; have := hb b e; omega, fun j hj => by have := (H.all.blk j hj).1; have := hb b e; omega⟩))⟩

theorem Grow.alloc {w wr : World} {M : Nat} {v : Nat → Value} {n h d : Nat → Nat} {i : Nat} {vl vx : Value} {k : Nat} (H : Grow w wr M v n h d i vl k vx) (o : Obj) : Grow w (wr.alloc o) M v n h d i vl k vx :=
  ⟨H.all.alloc o, H.x.alloc o, H.xb⟩

theorem Grow.step {w w1 w2 : World} {L M : Nat} {v : Nat → Value} {n h d : Nat → Nat} {i : Nat} {vl vx v' : Value} {k : Nat} (hl : Lists w L M v n) (hi : i < M) (H : Grow w w1 M v n h d i vl k vx)
    (ho : w2.ownsRow 0 3 1 v' (n i + k + 1) (Cells n i k ++ [mk2 i]))
    (hg : (∃ g' cap, vx = .slice (some ⟨g', 0, none⟩) (n i + k) cap ∧ v' = .slice (some ⟨g', 0, none⟩) (n i + k + 1) cap ∧ w1.grownBy w2 (some g')) ∨ (w1.grownBy w2 none ∧ ∀ g', v'.ownBlock = some g' → w1.heap.size ≤ g')) :
    Grow w w2 M v n h d i vl (k + 1) v' := by
  have ec : Cells n i k ++ [mk2 i] = Cells n i (k + 1) := by simp [Cells, List.replicate_succ']
  rw [ec, Nat.add_assoc] at ho
  rcases hg with ⟨g', cap, rfl, rfl, hgr⟩ | ⟨hgr, hnew⟩
  · exact H.same hl hi ho hgr
  · exact H.new ho hgr hnew

def upd (f : Nat → Nat) (i x : Nat) : Nat → Nat := fun j => if j = i then x else f j
theorem upd_at (f : Nat → Nat) (i x : Nat) : upd f i x i = x := by simp [upd]
theorem upd_ne (f : Nat → Nat) (i x j : Nat) (h : j ≠ i) : upd f i x j = f j := by simp [upd, h]

theorem lng_upd (h n d : Nat → Nat) (i b cx : Nat) : (List.range (i + 1)).map (lng (upd h i b) n (upd d i cx)) = (List.range i).map (lng h n d) ++ [.slice (some ⟨b, 0, none⟩) (n i + 20) cx] := by
  rw [List.range_succ, List.map_append]
  congr 1
  · refine List.map_congr_left fun j hj => ?_
    have := List.mem_range.1 hj
    simp only [lng, upd_ne _ _ _ _ (show j ≠ i by omega)]
  · simp [lng, upd_at]

/-- The list that was grown is laid down behind the others. -/
theorem Grow.lay {w w1 w2 : World} {M : Nat} {v : Nat → Value} {n h d : Nat → Nat} {i : Nat} {vl v' : Value} {b cx : Nat} (H : Grow w w1 M v n h d i vl 20 (.slice (some ⟨b, 0, none⟩) (n i + 20) cx))
    (ho : w2.ownsRow 0 42 1 v' (i + 1) ((List.range i).map (lng h n d) ++ [.slice (some ⟨b, 0, none⟩) (n i + 20) cx]))
    (hg : (∃ g' cap, vl = .slice (some ⟨g', 0, none⟩) i cap ∧ v' = .slice (some ⟨g', 0, none⟩) (i + 1) cap ∧ w1.grownBy w2 (some g')) ∨ (w1.grownBy w2 none ∧ ∀ g', v'.ownBlock = some g' → w1.heap.size ≤ g')) :
    Longer w w2 M v n (upd h i b) (upd d i cx) (i + 1) v' := by
  have key : ∀ (row : Option Nat), w1.grownBy w2 row → (∀ k, row = some k → vl.ownBlock = some k) → (∀ k, v'.ownBlock = some k → w.heap.size ≤ k) → Longer w w2 M v n (upd h i b) (upd d i cx) (i + 1) v' := by
    intro row hgr hrow hvlb
    have five : ∀ {u : Value} {m : Nat} {xs : List Value}, w1.ownsRow 0 3 1 u m xs → w2.ownsRow 0 3 1 u m xs := fun {v m xs} hv => hv.kept hgr (by
      cases hb : v.ownBlock with
      | none => exact .inl rfl
      | some x =>
        refine .inr fun e => ?_
        rcases owns_apart hv H.all.own (by decide) with h1 | h1
        · rw [hb] at h1; cases h1
        · rw [hb] at h1; exact h1 (hrow x e.symm).symm)
    refine ⟨fun j hj => five (H.all.full j hj), fun j hj => ?_, fun j hj => ?_, by rw [lng_upd]; exact ho, hvlb, H.all.keeps.grown hgr (fun k e => .inr (H.all.vlb k (hrow k e)))⟩
    · by_cases e : j = i
      · subst e
        have := five H.x
        simpa [lng, upd_at] using this
      · have := five (H.all.long j (by omega))
        simpa [lng, upd_ne _ _ _ _ e] using this
    · by_cases e : j = i
      · subst e
        rw [upd_at]
        refine ⟨Nat.lt_of_lt_of_le (H.x.lt b rfl).2 hgr.size, ?_⟩
        rcases H.xb with ⟨g', cap', h1, h2⟩ | h1 | h1
        · simp only [Value.slice.injEq, Option.some.injEq, Addr.mk.injEq, and_true, true_and] at h2
          exact .inl (by rw [h1, h2.1]; rfl)
        · simp at h1
        · exact .inr (h1 b rfl).1
      · rw [upd_ne _ _ _ _ e]
        exact ⟨Nat.lt_of_lt_of_le (H.all.blk j (by omega)).1 hgr.size, (H.all.blk j (by omega)).2⟩
  rcases hg with ⟨g', cap, rfl, rfl, hgr⟩ | ⟨hgr, hnew⟩
  · exact key (some g') hgr (fun k e => by cases e; rfl) (fun k e => H.all.vlb k e)
  · exact key none hgr (fun k e => by cases e) (fun k e => by have := hnew k e; have := H.all.keeps.size; omega)

theorem Longer.reads {w wr : World} {L M : Nat} {v : Nat → Value} {n h d : Nat → Nat} {vl : Value} (hl : Lists w L M v n) (H : Longer w wr M v n h d M vl) (hM : M ≠ 0) :
    ∃ lb cap, vl = .slice (some ⟨lb, 0, none⟩) M cap ∧ ∀ t, t < M → wr.cell? ⟨lb, t, none⟩ = some (lng h n d t) ∧ wr.cell? ⟨L, t, none⟩ = some (v t) ∧
      (∀ u, u < n t → wr.cell? ⟨h t, u, none⟩ = some (mk1 t) ∧ ∀ g cap, v t = .slice (some ⟨g, 0, none⟩) (n t) cap → wr.cell? ⟨g, u, none⟩ = some (mk1 t)) ∧ (∀ u, n t ≤ u → u < n t + 20 → wr.cell? ⟨h t, u, none⟩ = some (mk2 t)) := by
  have ho := H.own
  rcases ho.2 with ⟨_, h0⟩ | ⟨lb, cap, cur, rfl, _⟩
  · exact absurd h0 hM
  · refine ⟨lb, cap, rfl, fun t ht => ⟨?_, (H.keeps.cell (p := ⟨L, t, none⟩) hl.lt hl.notL).trans (hl.cell t ht), fun u hu => ⟨?_, ?_⟩, fun u hu hu2 => ?_⟩⟩
    · rw [ho.cellAt t (by omega)]
      simp [ht]
    · rw [(H.long t ht).cellAt u (by omega), List.getElem?_append_left (by simpa using hu)]
      simp [hu]
    · intro g cap' hv
      have hf := H.full t ht
      unfold Full at hf
      rw [hv] at hf
      rw [hf.cellAt u (by omega)]
      simp [hu]
    · rw [(H.long t ht).cellAt u (by omega), List.getElem?_append_right (by simpa using hu), List.length_replicate, List.getElem?_replicate, if_pos (by omega)]

theorem infoSl : (Tryz.prog.info? 42).map (fun i => (i.zero, i.size, i.bytes)) = some (some (.slice none 0 0), 1, 24) := by kernel_rfl

theorem owns_slice' {base e size n : Nat} {w : World} {v : Value} {xs : List Value} (h : w.ownsRow base e size v n xs) : ∃ a cap, v = .slice a n cap ∧ (n ≠ 0 → ∃ g, a = some ⟨g, 0, none⟩) := by
  rcases h.2 with ⟨rfl, rfl⟩ | ⟨g, cap, cur, rfl, _⟩
  · exact ⟨none, 0, rfl, fun h => absurd rfl h⟩
  · exact ⟨some ⟨g, 0, none⟩, cap, rfl, fun _ => ⟨g, rfl⟩⟩

theorem one_newsV (w : World) (t : TypeId) (x : Value) : ∀ ad, some (⟨w.heap.size, 0, none⟩ : Addr) = some ad → ∀ j u, [x][j]? = some u → (w.alloc (.cells #[x] t)).cell? (ad.add j) = some u := by
  intro ad hh j u hu
  cases hh
  have hj : j = 0 := by
    by_cases hj : j = 0
    · exact hj
    · simp [hj] at hu
  subst hj
  simp at hu
  subst hu
  simp [Addr.add]

end Ap
end Go.Proofs.Cde

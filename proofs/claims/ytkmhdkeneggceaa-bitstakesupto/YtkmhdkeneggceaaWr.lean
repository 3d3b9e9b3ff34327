/-
  Writers in memory: a block of two cells, the bytes that it owns; what is kept of memory when a writer is written on.
-/
import Derived.Test.YtkmhdkeneggceaaProg
import Derived.Test.YtkmhdkeneggceaaPure
import Derived.Test.YtkmhdkeneggceaaMem
import Derived.WalkKit
import Derived.WalkSpells
import Derived.WalkLawsBesides
import Derived.Laws.BitsLemmas
import Derived.Laws.BitsAllLaws
import Derived.Deep.QuietTactic
import Derived.BigQuiet
import Derived.BigRegion
import Derived.OneCell
namespace Go.Proofs.Ytkmhdkeneggceaa
open Go.RowKit Bt
set_option linter.unusedVariables false

theorem info5 : (Try.prog.info? 5).map (fun i => (i.zero, i.size, i.bytes)) = some (some (.int .u8 0), 1, 1) := by kernel_rfl

theorem two_cell0 {w : World} {b : Nat} {x y : Value} {t : TypeId} (h : w.heap[b]? = some (.cells #[x, y] t (0, 0))) : w.cell? ⟨b, 0, none⟩ = some x := by simp [World.cell?, h]
theorem two_cell1 {w : World} {b : Nat} {x y : Value} {t : TypeId} (h : w.heap[b]? = some (.cells #[x, y] t (0, 0))) : w.cell? ⟨b, 1, none⟩ = some y := by simp [World.cell?, h]
theorem two_free (k : Nat) {w : World} {b : Nat} {x y : Value} {t : TypeId} (h : w.heap[b]? = some (.cells #[x, y] t (0, 0))) : w.frozen? ⟨b, k, none⟩ = false := by simp [World.frozen?, h]
theorem two_set0 {w : World} {b : Nat} {x y u : Value} {t : TypeId} (h : w.heap[b]? = some (.cells #[x, y] t (0, 0))) : (w.setCell ⟨b, 0, none⟩ u).heap[b]? = some (.cells #[u, y] t (0, 0)) := by
  have hlt := lt_of_block h
  have h' : w.heap[b] = .cells #[x, y] t (0, 0) := by simpa [Array.getElem?_eq_getElem hlt] using h
  show (w.heap.modify b _)[b]? = _
  rw [Array.getElem?_eq_getElem (by simpa using hlt), Array.getElem_modify_self, h']
  rfl
theorem two_set1 {w : World} {b : Nat} {x y u : Value} {t : TypeId} (h : w.heap[b]? = some (.cells #[x, y] t (0, 0))) : (w.setCell ⟨b, 1, none⟩ u).heap[b]? = some (.cells #[x, u] t (0, 0)) := by
  have hlt := lt_of_block h
  have h' : w.heap[b] = .cells #[x, y] t (0, 0) := by simpa [Array.getElem?_eq_getElem hlt] using h
  show (w.heap.modify b _)[b]? = _
  rw [Array.getElem?_eq_getElem (by simpa using hlt), Array.getElem_modify_self, h']
  rfl

theorem grownBy_setCell (w : World) (a : Addr) (u : Value) : w.grownBy (w.setCell a u) (some a.block) :=
  ⟨rfl, rfl, rfl, by simp [World.setCell], fun k _ hk => Below.heap_setCell _ _ _ _ (fun e => hk (by rw [e]))⟩

/-- Of what was there nothing is written but the blocks of S. -/
structure Keeps (w w' : World) (S : Nat → Prop) : Prop where
  os : w'.os = w.os
  tape : w'.tape = w.tape
  output : w'.output = w.output
  size : w.heap.size ≤ w'.heap.size
  block : ∀ k, k < w.heap.size → ¬ S k → w'.heap[k]? = w.heap[k]?

theorem Keeps.refl (w : World) (S : Nat → Prop) : Keeps w w S := ⟨rfl, rfl, rfl, Nat.le_refl _, fun _ _ _ => rfl⟩
theorem Keeps.grown {w w1 w2 : World} {S : Nat → Prop} {row : Option Nat} (h : Keeps w w1 S) (hg : w1.grownBy w2 row) (hr : ∀ k, row = some k → S k ∨ w.heap.size ≤ k) : Keeps w w2 S :=
  ⟨hg.os.trans h.os, hg.tape.trans h.tape, hg.output.trans h.output, Nat.le_trans h.size hg.size, fun k hk hS => (hg.block k (Nat.lt_of_lt_of_le hk h.size) (fun e => by
    rcases hr k e.symm with h' | h'
    · exact hS h'
    · omega)).trans (h.block k hk hS)⟩
theorem Keeps.trans {w w1 w2 : World} {S S1 : Nat → Prop} (h : Keeps w w1 S) (h1 : Keeps w1 w2 S1) (hr : ∀ k, S1 k → S k ∨ w.heap.size ≤ k) : Keeps w w2 S :=
  ⟨h1.os.trans h.os, h1.tape.trans h.tape, h1.output.trans h.output, Nat.le_trans h.size h1.size, fun k hk hS => (h1.block k (Nat.lt_of_lt_of_le hk h.size) (fun e => by
    rcases hr k e with h' | h'
    · exact hS h'
    · omega)).trans (h.block k hk hS)⟩
theorem Keeps.mono {w w' : World} {S S1 : Nat → Prop} (h : Keeps w w' S) (hr : ∀ k, k < w.heap.size → S k → S1 k) : Keeps w w' S1 :=
  ⟨h.os, h.tape, h.output, h.size, fun k hk hS => h.block k hk (fun e => hS (hr k hk e))⟩
theorem Keeps.below {B : Nat} {w w' : World} {S : Nat → Prop} (h : Keeps w w' S) (hB : B ≤ w.heap.size) (hS : ∀ k, S k → B ≤ k) : Below B w w' :=
  ⟨h.os, h.tape, h.output, h.size, fun k hk => h.block k (by omega) (fun hs => by have := hS k hs; omega)⟩
theorem Keeps.of_below {B : Nat} {w w' : World} {S : Nat → Prop} (h : Below B w w') (hS : ∀ k, k < w.heap.size → B ≤ k → S k) : Keeps w w' S :=
  ⟨h.os, h.tape, h.output, h.size, fun k hk hs => h.block k (by
    rcases Nat.lt_or_ge k B with h' | h'
    · exact h'
    · exact absurd (hS k hk h') hs)⟩
theorem Keeps.later {w w1 w2 : World} {S : Nat → Prop} (h : Keeps w w1 S) (hb : Below w1.heap.size w1 w2) : Keeps w w2 S :=
  h.trans (Keeps.of_below (S := fun _ => False) hb (fun k hk h' => by omega)) (fun k hk => hk.elim)
theorem Keeps.cell {w w' : World} {S : Nat → Prop} (h : Keeps w w' S) {p : Addr} (hp : p.block < w.heap.size) (hS : ¬ S p.block) : w'.cell? p = w.cell? p := World.cell?_of_block (w := w) (h.block p.block hp hS)

theorem Keeps.owns {w w' : World} {S : Nat → Prop} {base : Nat} {e : TypeId} {size : Nat} {v : Value} {n : Nat} {xs : List Value} (hk : Keeps w w' S) (h : w.ownsRow base e size v n xs) (hS : ∀ g, v.ownBlock = some g → ¬ S g) : w'.ownsRow base e size v n xs := by
  have hlt := h.lt
  obtain ⟨h1, h2⟩ := h
  refine ⟨h1, ?_⟩
  rcases h2 with h2 | ⟨g, cap, cur, hv, hg, hh, r⟩
  · exact .inl h2
  · subst hv
    exact .inr ⟨g, cap, cur, rfl, hg, by rw [hk.block g (hlt g rfl).2 (hS g rfl)]; exact hh, r⟩
theorem Keeps.bytes {w w' : World} {S : Nat → Prop} {a : Option Addr} {n c : Nat} {zs : List Int} (hk : Keeps w w' S) (h : Bytes w a n c zs) (hS : ∀ x, a = some x → n ≠ 0 → ¬ S x.block) : Bytes w' a n c zs := by
  refine h.of_cells fun b off ha hn i hi => ?_
  obtain ⟨b', off', ha', hlt, _⟩ := h.at hn
  rw [ha] at ha'
  cases ha'
  exact hk.cell (p := ⟨b, off + i, none⟩) hlt (hS ⟨b, off, none⟩ ha hn)

/-- What is owned of one row does not lie in a block of another kind. -/
theorem owns_apart {w : World} {b1 b2 e1 e2 s1 s2 n1 n2 : Nat} {v1 v2 : Value} {x1 x2 : List Value} (h1 : w.ownsRow b1 e1 s1 v1 n1 x1) (h2 : w.ownsRow b2 e2 s2 v2 n2 x2) (he : e1 ≠ e2) : v1.ownBlock = none ∨ v1.ownBlock ≠ v2.ownBlock := by
  rcases h1.2 with ⟨rfl, _⟩ | ⟨g, cap, cur, rfl, _, hg, _⟩
  · exact .inl rfl
  · right
    rcases h2.2 with ⟨rfl, _⟩ | ⟨g', cap', cur', rfl, _, hg', _⟩
    · simp [Value.ownBlock]
    · intro e
      simp only [Value.ownBlock, Option.some.injEq] at e
      subst e
      rw [hg] at hg'
      simp only [Option.some.injEq, Obj.cells.injEq] at hg'
      exact he hg'.2.1

theorem owns_not {w : World} {b e s n r t : Nat} {v x y : Value} {xs : List Value} (h : w.ownsRow b e s v n xs) (hr : w.heap[r]? = some (.cells #[x, y] t (0, 0))) (he : e ≠ t) : v.ownBlock ≠ some r := by
  rcases h.2 with ⟨rfl, _⟩ | ⟨g, cap, cur, rfl, _, hg, _⟩
  · simp [Value.ownBlock]
  · intro e'
    simp only [Value.ownBlock, Option.some.injEq] at e'
    subst e'
    rw [hg] at hr
    simp only [Option.some.injEq, Obj.cells.injEq] at hr
    exact he hr.2.1

/-- The writer in block r: it holds the bits bs; v is the slice of its bytes. -/
structure Wr (base : Nat) (w : World) (r : Nat) (v : Value) (bs : List Int) : Prop where
  heap : w.heap[r]? = some (.cells #[v, .int .i64 (bs.length : Nat)] 59 (0, 0))
  own : w.ownsRow base 5 1 v ((bs.length + 7) / 8) (u8s (pack bs))
  base : base ≤ r
  bin : Bin bs

theorem Wr.lt {base : Nat} {w : World} {r : Nat} {v : Value} {bs : List Int} (h : Wr base w r v bs) : r < w.heap.size := lt_of_block h.heap
theorem Wr.ne {base : Nat} {w : World} {r : Nat} {v : Value} {bs : List Int} (h : Wr base w r v bs) : v.ownBlock ≠ some r := owns_not h.own h.heap (by decide)

/-- The blocks of a writer. -/
abbrev Its (r : Nat) (v : Value) (k : Nat) : Prop := k = r ∨ v.ownBlock = some k

/-- The writer alone was written on; its bytes lie where they lay, or in new memory. -/
structure Goes (w w' : World) (r : Nat) (v v' : Value) : Prop where
  keeps : Keeps w w' (Its r v)
  own : ∀ g, v'.ownBlock = some g → v.ownBlock = some g ∨ w.heap.size ≤ g

theorem Goes.refl (w : World) (r : Nat) (v : Value) : Goes w w r v v := ⟨Keeps.refl _ _, fun g h => .inl h⟩
theorem Goes.trans {w w1 w2 : World} {r : Nat} {v v1 v2 : Value} (h : Goes w w1 r v v1) (h1 : Goes w1 w2 r v1 v2) : Goes w w2 r v v2 :=
  ⟨h.keeps.trans h1.keeps (fun k hk => by
    rcases hk with rfl | hk
    · exact .inl (.inl rfl)
    · rcases h.own k hk with h' | h'
      · exact .inl (.inr h')
      · exact .inr h'),
   fun g hg => by
    rcases h1.own g hg with h' | h'
    · exact h.own g h'
    · exact .inr (Nat.le_trans h.keeps.size h')⟩

theorem Goes.below {B : Nat} {w w' : World} {r : Nat} {v v' : Value} {bs : List Int} (h : Goes w w' r v v') (hW : Wr B w r v bs) : Below B w w' :=
  h.keeps.below (Nat.le_trans hW.base (Nat.le_of_lt hW.lt)) (fun k hk => by
    rcases hk with rfl | hk
    · exact hW.base
    · exact (hW.own.lt k hk).1)

/-- Another writer. -/
theorem Keeps.wr {w w' : World} {S : Nat → Prop} {base r : Nat} {v : Value} {bs : List Int} (hk : Keeps w w' S) (h : Wr base w r v bs) (hS : ∀ k, Its r v k → ¬ S k) : Wr base w' r v bs :=
  ⟨by rw [hk.block r h.lt (hS r (.inl rfl))]; exact h.heap, hk.owns h.own (fun g hg => hS g (.inr hg)), h.base, h.bin⟩

theorem Wr.later {base : Nat} {w w' : World} {r : Nat} {v : Value} {bs : List Int} (h : Wr base w r v bs) (hb : Below w.heap.size w w') : Wr base w' r v bs :=
  (Keeps.of_below (S := fun _ => False) hb (fun k hk h' => by omega)).wr h (fun _ _ hf => hf)

end Go.Proofs.Ytkmhdkeneggceaa

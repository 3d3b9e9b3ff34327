/-
  Spans in memory, for verify's walks.
-/
import Derived.Test.YtlhbgkaknfhlnaaY0
import Derived.Test.YtlhbgkaknfhlnaaSpEs
import Derived.Laws.MakeOwn
namespace Go.Proofs.Vfy
open Go.RowKit Go.IntWalk Ytlhbgkaknfhlnaa.Knd
open Ytlhbgkaknfhlnaa (Spn.Spans)
set_option linter.unusedVariables false

abbrev sp2 (p : Int × Int) : Array Value := #[.int .i64 p.1, .int .i64 p.2]
abbrev rep0 : Array Value := #[.slice none 0 0, .int .i64 0, .int .i64 0]
abbrev spA (L : Sps) : Array Value := (Ytlhbgkaknfhlnaa.Spn.sp64 L).toArray
theorem spA_get (L : Sps) (i : Nat) (h : i < L.length) : (spA L)[i * 2]? = some (.int .i64 (L.getD i (0, 0)).1) ∧ (spA L)[i * 2 + 1]? = some (.int .i64 (L.getD i (0, 0)).2) := by
  unfold spA
  rw [List.getElem?_toArray, List.getElem?_toArray]
  exact Ytlhbgkaknfhlnaa.Spn.sp64_get L i h
theorem made_sp (n : Nat) : madeCells #[.int .i64 0, .int .i64 0] (n * 2) = spA (List.replicate n (0, 0)) := by
  apply Array.ext_getElem?
  intro i
  by_cases hi : i < n * 2
  · have h1 : (madeCells #[.int .i64 0, .int .i64 0] (n * 2))[i]? = some (.int .i64 0) := by
      unfold madeCells
      rw [Array.getElem?_map, Array.getElem?_eq_getElem (by simpa using hi)]
      simp only [Array.getElem_range, Option.map_some]
      rcases (show i % 2 = 0 ∨ i % 2 = 1 by omega) with h | h <;> (show some ((#[Value.int .i64 0, .int .i64 0])[i % 2]!) = _; rw [h]; rfl)
    rw [h1]
    obtain ⟨a, b⟩ := spA_get (List.replicate n (0, 0)) (i / 2) (by simp; omega)
    have hz : (List.replicate n ((0 : Int), (0 : Int))).getD (i / 2) (0, 0) = (0, 0) := by
      rw [List.getD_eq_getElem?_getD, List.getElem?_replicate]; split <;> rfl
    rw [hz] at a b
    rcases (show i % 2 = 0 ∨ i % 2 = 1 by omega) with h | h
    · rw [show i = i / 2 * 2 by omega]; exact a.symm
    · rw [show i = i / 2 * 2 + 1 by omega]; exact b.symm
  · rw [Array.getElem?_eq_none (by rw [size_madeCells]; omega), Array.getElem?_eq_none (by simp [Ytlhbgkaknfhlnaa.Spn.sp64_len]; omega)]
theorem make_sp (n : Nat) (h : n ≤ 1024) (w : World) : (Instr.makeSlice 30 (.int .i64 n) (.int .i64 n)).run Try.prog w = .ok (.slice (some ⟨w.heap.size, 0, none⟩) n n) (w.alloc (.cells (spA (List.replicate n (0, 0))) 42)) := by
  obtain ⟨i0, hi, hz0, hz1, hz2⟩ := Ytlhbgkaknfhlnaa.Spn.info_parts Ytlhbgkaknfhlnaa.Spn.info26
  have := run_make w 30 42 i0 _ Try.underlying30 hi hz0 .i64 .i64 n n (by omega) (Int.le_refl _) (by rw [hz2]; omega) (by omega)
  rw [hz1] at this
  simp only [Int.toNat_natCast] at this
  have e : madeCells (Value.agg #[.int .i64 0, .int .i64 0]).cells (n * 2) = spA (List.replicate n (0, 0)) := made_sp n
  rw [e] at this
  exact this
theorem set_sp (S Z : Sps) (p q : Int × Int) : ((spA (S ++ q :: Z)).setIfInBounds (S.length * 2) (.int .i64 p.1)).setIfInBounds (S.length * 2 + 1) (.int .i64 p.2) = spA (S ++ p :: Z) := by
  apply Array.toList_inj.1
  simp only [Array.toList_setIfInBounds]
  have e : ∀ r : Int × Int, Ytlhbgkaknfhlnaa.Spn.sp64 (S ++ r :: Z) = Ytlhbgkaknfhlnaa.Spn.sp64 S ++ (.int .i64 r.1 :: .int .i64 r.2 :: Ytlhbgkaknfhlnaa.Spn.sp64 Z) := fun r => by simp [Ytlhbgkaknfhlnaa.Spn.sp64]
  rw [e, e, List.set_append_right _ _ (by rw [Ytlhbgkaknfhlnaa.Spn.sp64_len]; omega), List.set_append_right _ _ (by rw [Ytlhbgkaknfhlnaa.Spn.sp64_len]; omega), Ytlhbgkaknfhlnaa.Spn.sp64_len]
  simp
theorem spans_has {W : World} {g : Nat} {L : Sps} (h : HasC W g 42 (spA L)) (hl : L.length ≤ 1024) : Ytlhbgkaknfhlnaa.Spn.Spans W (some ⟨g, 0, none⟩) L.length L.length L := by
  refine ⟨rfl, Nat.le_refl _, by unfold maxLen; omega, (fun e => by cases e), .inr ⟨g, 0, rfl, fun i hi => ?_⟩⟩
  obtain ⟨a, b⟩ := spA_get L i hi
  rw [Nat.zero_add]
  exact ⟨h.cell (i * 2) a, h.cell (i * 2 + 1) b⟩
theorem put_sp {W : World} {g k : Nat} {S Z : Sps} {q : Int × Int} (h : HasC W g 42 (spA (S ++ q :: Z))) (hk : S.length = k) (x y : Int) : HasC ((W.setCell ⟨g, k * 2, none⟩ (.int .i64 x)).setCell ⟨g, k * 2 + 1, none⟩ (.int .i64 y)) g 42 (spA (S ++ (x, y) :: Z)) := by
  subst hk
  have := (h.set (S.length * 2) (.int .i64 x)).set (S.length * 2 + 1) (.int .i64 y)
  rwa [show ((spA (S ++ q :: Z)).setIfInBounds (S.length * 2) (.int .i64 x)).setIfInBounds (S.length * 2 + 1) (.int .i64 y) = spA (S ++ (x, y) :: Z) from set_sp S Z (x, y) q] at this
theorem rep_succ {n k : Nat} (h : k < n) : List.replicate (n - k) ((0 : Int), (0 : Int)) = (0, 0) :: List.replicate (n - (k + 1)) (0, 0) := by
  rw [show n - k = (n - (k + 1)) + 1 by omega, List.replicate_succ]
theorem oth2' {W : World} {b r k : Nat} {t : TypeId} {cs : Array Value} (h : HasC W b t cs) (hr : b ≠ r) (x y : Value) : HasC ((W.setCell ⟨r, k * 2, none⟩ x).setCell ⟨r, k * 2 + 1, none⟩ y) b t cs := (h.other (p := ⟨r, k * 2, none⟩) hr x).other (p := ⟨r, k * 2 + 1, none⟩) hr y
theorem two_of {W : World} {b : Nat} {t : TypeId} {x y : Value} (h : HasC W b t #[x, y]) : W.cell? ⟨b, 0, none⟩ = some x ∧ W.cell? ⟨b, 1, none⟩ = some y ∧ W.frozen? ⟨b, 0, none⟩ = false ∧ W.frozen? ⟨b, 1, none⟩ = false :=
  ⟨h.cell 0 rfl, h.cell 1 rfl, h.frozen 0, h.frozen 1⟩
theorem put_two {w w2 : World} {b : Nat} {t : TypeId} {p q : Value} (h : HasC w2 b t #[p, q]) (hB : Below w.heap.size w w2) (hb : w.heap.size ≤ b) (x y : Int) :
    ((w2.setCell ⟨b, 0, none⟩ (.int .i64 x)).setCell ⟨b, 1, none⟩ (.int .i64 y)).cell? ⟨b, 0, none⟩ = some (.int .i64 x) ∧ ((w2.setCell ⟨b, 0, none⟩ (.int .i64 x)).setCell ⟨b, 1, none⟩ (.int .i64 y)).cell? ⟨b, 1, none⟩ = some (.int .i64 y) ∧
    Below w.heap.size w ((w2.setCell ⟨b, 0, none⟩ (.int .i64 x)).setCell ⟨b, 1, none⟩ (.int .i64 y)) :=
  Ytlhbgkaknfhlnaa.Spn.stored2 h hB hb x y
theorem oth2 {W : World} {b r : Nat} {t : TypeId} {cs : Array Value} (h : HasC W b t cs) (hr : b ≠ r) (x y : Value) : HasC ((W.setCell ⟨r, 0, none⟩ x).setCell ⟨r, 1, none⟩ y) b t cs := (h.other (p := ⟨r, 0, none⟩) hr x).other (p := ⟨r, 1, none⟩) hr y
theorem set2 {W : World} {b : Nat} {t : TypeId} {p q : Value} (h : HasC W b t #[p, q]) (x y : Value) : HasC ((W.setCell ⟨b, 0, none⟩ x).setCell ⟨b, 1, none⟩ y) b t #[x, y] := (h.set 0 x).set 1 y
theorem three_of {W : World} {b : Nat} {t : TypeId} {x y z : Value} (h : HasC W b t #[x, y, z]) : W.cell? ⟨b, 0, none⟩ = some x ∧ W.cell? ⟨b, 1, none⟩ = some y ∧ W.cell? ⟨b, 2, none⟩ = some z ∧ W.frozen? ⟨b, 0, none⟩ = false ∧ W.frozen? ⟨b, 1, none⟩ = false ∧ W.frozen? ⟨b, 2, none⟩ = false :=
  ⟨h.cell 0 rfl, h.cell 1 rfl, h.cell 2 rfl, h.frozen 0, h.frozen 1, h.frozen 2⟩
theorem put_three {w w2 : World} {b : Nat} {t : TypeId} {p q r : Value} (h : HasC w2 b t #[p, q, r]) (hB : Below w.heap.size w w2) (hb : w.heap.size ≤ b) (x y z : Value) :
    HasC (((w2.setCell ⟨b, 0, none⟩ x).setCell ⟨b, 1, none⟩ y).setCell ⟨b, 2, none⟩ z) b t #[x, y, z] ∧
    Below w.heap.size w (((w2.setCell ⟨b, 0, none⟩ x).setCell ⟨b, 1, none⟩ y).setCell ⟨b, 2, none⟩ z) :=
  ⟨((h.set 0 x).set 1 y).set 2 z, ((hB.setCell (p := ⟨b, 0, none⟩) hb _).setCell (p := ⟨b, 1, none⟩) hb _).setCell (p := ⟨b, 2, none⟩) hb _⟩
theorem other_three {W : World} {b r : Nat} {t : TypeId} {cs : Array Value} (h : HasC W b t cs) (hr : b ≠ r) (x y z : Value) : HasC (((W.setCell ⟨r, 0, none⟩ x).setCell ⟨r, 1, none⟩ y).setCell ⟨r, 2, none⟩ z) b t cs :=
  ((h.other (p := ⟨r, 0, none⟩) hr x).other (p := ⟨r, 1, none⟩) hr y).other (p := ⟨r, 2, none⟩) hr z
theorem spans_none (W : World) : Ytlhbgkaknfhlnaa.Spn.Spans W none 0 0 [] := ⟨rfl, Nat.le_refl _, by unfold maxLen; omega, fun _ => rfl, .inl rfl⟩

/-- The report's own spans: none, or a block of their own. -/
def Own (z n : Nat) (a : Option Addr) (V : World) : Prop := n = 0 ∨ ∃ g cs, a = some ⟨g, 0, none⟩ ∧ z ≤ g ∧ HasC V g 42 cs ∧ cs.size = 2 * n
theorem Own.later {z n : Nat} {a : Option Addr} {V V' : World} (h : Own z n a V) (hb : Below V.heap.size V V') : Own z n a V' := by
  rcases h with h | ⟨g, cs, h1, h2, h3, h4⟩
  · exact .inl h
  · exact .inr ⟨g, cs, h1, h2, h3.below hb, h4⟩
/-- A report in one form: how many spans, the cost, the error, the spans. -/
def RpP (own : Bool) (w : World) (n : Nat) (co er : Int) (S : Sps) (e : Ending) (W' : World) : Prop :=
  ∃ a cap, e = .returned (.tuple #[.agg #[.slice a n cap, .int .i64 co, .int .i64 0], .int .i64 er]) ∧ Ytlhbgkaknfhlnaa.Spn.Spans W' a n cap S ∧ Below w.heap.size w W' ∧ (∀ b off, a = some ⟨b, off, none⟩ → w.heap.size ≤ b) ∧ (own = true → Own w.heap.size n a W')
theorem RpP.no {own : Bool} {w W' : World} {er : Int} (hb : Below w.heap.size w W') : RpP own w 0 0 er [] (.returned (.tuple #[.agg rep0, .int .i64 er])) W' :=
  ⟨none, 0, rfl, spans_none _, hb, fun b off h => by simp at h, fun _ => .inl rfl⟩
theorem RpP.row {w W' : World} {S : Sps} {g n : Nat} {co : Int} (hg : HasC W' g 42 (spA S)) (hn : S.length = n) (h0 : w.heap.size ≤ g) (hl : n ≤ 1024) (hb : Below w.heap.size w W') : RpP true w n co 0 S (.returned (.tuple #[.agg #[.slice (some ⟨g, 0, none⟩) n n, .int .i64 co, .int .i64 0], .int .i64 0])) W' := by
  subst hn
  exact ⟨_, _, rfl, spans_has hg hl, hb, fun b off h => by cases h; exact h0, fun _ => .inr ⟨g, _, rfl, h0, hg, by simp [Ytlhbgkaknfhlnaa.Spn.sp64_len]; omega⟩⟩

end Go.Proofs.Vfy

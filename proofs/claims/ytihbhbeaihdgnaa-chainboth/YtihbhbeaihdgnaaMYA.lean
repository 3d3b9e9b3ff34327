/-
  Verify, plainly: the registers' spans, the report or the refusal.
-/
import Derived.Test.YtihbhbeaihdgnaaMCdC
import Derived.Test.YtihbhbeaihdgnaaMSpH
import Derived.Test.YtihbhbeaihdgnaaMKnInp
import Derived.Laws.MakeOwn
import Derived.Deep.RegionHeld3
namespace Go.Proofs.Vfy
open Go.RowKit Go.IntWalk Ytihbhbeaihdgnaa.Knd
open Cde (In i0 agL arN okI okT mcB coL coZ)
set_option linter.unusedVariables false

abbrev Sps := List (Int × Int)
/-- The spans that an instruction reads. -/
def asS (S : Sps) (n : In) : Sps := (agL n).map fun r => S.getD r.toNat (0, 0)
/-- A register's span, by those ahead of it; the error beside it. -/
def sgI (f d : Int) (S : Sps) (n : In) : (Int × Int) × Int :=
  if n.op = 1 then ((n.k, n.k), 0) else if n.op = 2 then ((inZ f d n.k).getD (0, 0), 0) else if n.op = 3 then ((lowZ f d, highZ f d), 0) else Ytihbhbeaihdgnaa.Spn.ofZ n.op n.k n.s (asS S n)
/-- One step, and all of them: the error, and what came out ahead of it. -/
def sgS (f d : Int) (s : Int × Sps) (n : In) : Int × Sps :=
  if s.1 = 0 then (if (sgI f d s.2 n).2 = 0 then (0, s.2 ++ [(sgI f d s.2 n).1]) else ((sgI f d s.2 n).2, [])) else s
def sgF (f d : Int) (L : List In) : Int × Sps := L.foldl (sgS f d) (0, [])
theorem sgF_snoc (f d : Int) (L : List In) (n : In) : sgF f d (L ++ [n]) = sgS f d (sgF f d L) n := by simp [sgF]
theorem sgF_stuck (f d : Int) : ∀ (L : List In) (s : Int × Sps), s.1 ≠ 0 → L.foldl (sgS f d) s = s
  | [], s, h => rfl
  | n :: L, s, h => by
    rw [List.foldl_cons, show sgS f d s n = s by rw [sgS, if_neg h]]
    exact sgF_stuck f d L s h
theorem sgF_app (f d : Int) (A B : List In) : sgF f d (A ++ B) = B.foldl (sgS f d) (sgF f d A) := by rw [sgF, List.foldl_append]; rfl
theorem sgF_bad {f d : Int} {L : List In} {k : Nat} {e : Int × Sps} (h : sgF f d (L.take k) = e) (he : e.1 ≠ 0) : sgF f d L = e := by
  have : sgF f d L = (L.drop k).foldl (sgS f d) (sgF f d (L.take k)) := by
    rw [← sgF_app, List.take_append_drop]
  rw [this, h, sgF_stuck f d _ _ he]
theorem sgF_len (f d : Int) (L : List In) : ∀ k, k ≤ L.length → (sgF f d (L.take k)).1 = 0 → (sgF f d (L.take k)).2.length = k
  | 0, _, _ => by simp [sgF]
  | k + 1, h, he => by
    have ih := sgF_len f d L k (by omega)
    rw [Cde.take_snoc i0 (by omega), sgF_snoc] at he ⊢
    unfold sgS at he ⊢
    split at he
    · rename_i h0
      rw [if_pos h0]
      split at he
      · rename_i h1
        rw [if_pos h1]
        simp [ih h0]
      · rename_i h1
        exact absurd he h1
    · rename_i h0
      exact absurd he h0
theorem sgF_all {f d : Int} {L : List In} {S : Sps} (h : sgF f d L = (0, S)) : S.length = L.length := by
  have := sgF_len f d L L.length (Nat.le_refl _)
  rw [List.take_length, h] at this
  exact this rfl
theorem getS_pre {S Z : Sps} {i : Nat} (h : i < S.length) : (S ++ Z).getD i (0, 0) = S.getD i (0, 0) := by
  rw [List.getD_eq_getElem?_getD, List.getElem?_append_left h, ← List.getD_eq_getElem?_getD]
theorem ag_reg {n : In} {i : Nat} (h : okI n i = true) {r : Int} (hr : r ∈ agL n) : 0 ≤ r ∧ r.toNat < i := by
  obtain ⟨j, hj, rfl⟩ := List.getElem_of_mem hr
  rw [Cde.agL_len] at hj
  have := Cde.ok_reg h hj
  rw [← Cde.agL_at n j hj, List.getD_eq_getElem?_getD, List.getElem?_eq_getElem (by rw [Cde.agL_len]; exact hj)] at this
  exact this
theorem asS_pre {S Z : Sps} {n : In} (h : okI n S.length = true) : asS (S ++ Z) n = asS S n := by
  unfold asS
  apply List.map_congr_left
  intro r hr
  exact getS_pre (ag_reg h hr).2
theorem sgI_pre {f d : Int} {S Z : Sps} {n : In} (h : okI n S.length = true) : sgI f d (S ++ Z) n = sgI f d S n := by
  rw [sgI, sgI, asS_pre h]

/-- An instruction that looks at a place that the kind hasn't. -/
def ahI (f d : Int) (n : In) : Bool := n.op == 3 && decide (countZ f d ≤ n.k)
theorem ah_snoc {f d : Int} {L : List In} {k : Nat} (hk : k < L.length) (h : (L.take k).any (ahI f d) = false) (h2 : ahI f d (L.getD k i0) = false) : (L.take (k + 1)).any (ahI f d) = false := by
  rw [Cde.take_snoc i0 hk, List.any_append, h, List.any_cons, h2]; rfl
theorem ah_of {f d : Int} {L : List In} {k : Nat} (hk : k < L.length) (h2 : ahI f d (L.getD k i0) = true) : L.any (ahI f d) = true := by
  rw [List.any_eq_true]
  exact ⟨L.getD k i0, Cde.getD_mem i0 hk, h2⟩
/-- Why the code may not be looked at: it may not be, or it looks ahead. -/
def myE (f d : Int) (L : List In) (out : Int) : Int := if mcB f d L out = true then (if L.any (ahI f d) = true then 11 else 0) else 15
/-- What Verify answers: the error. -/
def vfE (f d : Int) (L : List In) (out : Int) : Int :=
  if myE f d L out ≠ 0 then myE f d L out else if (sgF f d L).1 ≠ 0 then (sgF f d L).1 else if 200 < coL L then 14 else 0
def vfN (f d : Int) (L : List In) (out : Int) : Nat := if vfE f d L out = 0 then L.length else 0
def vfC (f d : Int) (L : List In) (out : Int) : Int := if vfE f d L out = 0 then coL L else 0
def vfS (f d : Int) (L : List In) (out : Int) : Sps := if vfE f d L out = 0 then (sgF f d L).2 else []
theorem my_zero {f d : Int} {L : List In} {out : Int} : myE f d L out = 0 ↔ mcB f d L out = true ∧ L.any (ahI f d) = false := by
  unfold myE
  constructor
  · intro h
    split at h
    · rename_i h1
      split at h
      · omega
      · rename_i h2
        exact ⟨h1, by simpa using h2⟩
    · omega
  · rintro ⟨h1, h2⟩
    rw [if_pos h1, if_neg (by simp [h2])]
theorem vf_zero {f d : Int} {L : List In} {out : Int} : vfE f d L out = 0 ↔ myE f d L out = 0 ∧ (sgF f d L).1 = 0 ∧ coL L ≤ 200 := by
  unfold vfE
  constructor
  · intro h
    split at h
    · rename_i h1; exact absurd h h1
    · rename_i h1
      split at h
      · rename_i h2; exact absurd h h2
      · rename_i h2
        split at h
        · omega
        · exact ⟨by simpa using h1, by simpa using h2, by omega⟩
  · rintro ⟨h1, h2, h3⟩
    rw [if_neg (by simpa using h1), if_neg (by simpa using h2), if_neg (by omega)]
theorem vf_parts {f d : Int} {L : List In} {out : Int} (h : vfE f d L out = 0) : mcB f d L out = true ∧ L.any (ahI f d) = false ∧ (∃ S, sgF f d L = (0, S) ∧ S.length = L.length ∧ vfS f d L out = S) ∧ coL L ≤ 200 ∧ vfN f d L out = L.length ∧ vfC f d L out = coL L := by
  obtain ⟨h1, h2, h3⟩ := vf_zero.1 h
  obtain ⟨h4, h5⟩ := my_zero.1 h1
  have e : sgF f d L = (0, (sgF f d L).2) := Prod.ext h2 rfl
  exact ⟨h4, h5, ⟨_, e, sgF_all e, by rw [vfS, if_pos h]⟩, h3, by rw [vfN, if_pos h], by rw [vfC, if_pos h]⟩
theorem vf_none {f d : Int} {L : List In} {out : Int} (h : vfE f d L out ≠ 0) : vfN f d L out = 0 ∧ vfC f d L out = 0 ∧ vfS f d L out = [] := by
  refine ⟨by rw [vfN, if_neg h], by rw [vfC, if_neg h], by rw [vfS, if_neg h]⟩
theorem vfS_len (f d : Int) (L : List In) (out : Int) : (vfS f d L out).length = vfN f d L out := by
  by_cases h : vfE f d L out = 0
  · obtain ⟨-, -, ⟨S, -, hl, hs⟩, -, hn, -⟩ := vf_parts h
    rw [hs, hn, hl]
  · obtain ⟨h1, -, h3⟩ := vf_none h
    rw [h1, h3]; rfl
theorem vfN_few (f d : Int) (L : List In) (out : Int) : vfN f d L out ≤ 200 := by
  by_cases h : vfE f d L out = 0
  · obtain ⟨h1, -, -, -, hn, -⟩ := vf_parts h
    obtain ⟨-, -, h2, -⟩ := Cde.mc_parts h1
    rw [hn]; exact h2
  · rw [(vf_none h).1]; omega

end Go.Proofs.Vfy

/-
  Spans in memory, for verify's walks.
-/
namespace Go.Proofs.Vfy
open Go.RowKit Go.IntWalk Ytihbhbeaihdgnaa.Knd
open Ytihbhbeaihdgnaa (Spn.Spans)
set_option linter.unusedVariables false

abbrev sp2 (p : Int × Int) : Array Value := #[.int .i64 p.1, .int .i64 p.2]
abbrev rep0 : Array Value := #[.slice none 0 0, .int .i64 0, .int .i64 0]
abbrev spA (L : Sps) : Array Value := (Ytihbhbeaihdgnaa.Spn.sp64 L).toArray
theorem spA_get (L : Sps) (i : Nat) (h : i < L.length) : (spA L)[i * 2]? = some (.int .i64 (L.getD i (0, 0)).1) ∧ (spA L)[i * 2 + 1]? = some (.int .i64 (L.getD i (0, 0)).2) := by
  unfold spA
  rw [List.getElem?_toArray, List.getElem?_toArray]
  exact Ytihbhbeaihdgnaa.Spn.sp64_get L i h
theorem made_sp (n : Nat) : madeCells #[.int .i64 0, .int .i64 0] (n * 2) = spA (List.replicate n (0, 0)) := by
  apply Array.ext_getElem?
  intro i
  by_cases hi : i < n * 2
  · have h1 : (madeCells #[.int .i64 0, .int .i64 0] (n * 2))[i]? = some (.int .i64 0) := by
      unfold madeCells
      rw [Array.getElem?_map, Array.getElem?_eq_getElem (by simpa using hi)]
      simp only [Array.getElem_range, Option.map_some]
      rcases (show i % 2 = 0 ∨ i % 2 = 1 by omega) with h | h <;> (show some ((#[Value.int .i64 0, .int .i64 0])[i % 2]!) = _; rw [h]; rfl)
    rw [h1]
    obtain ⟨a, b⟩ := spA_get (List.replicate n (0, 0)) (i / 2) (by simp; omega)
    have hz : (List.replicate n ((0 : Int), (0 : Int))).getD (i / 2) (0, 0) = (0, 0) := by
      rw [List.getD_eq_getElem?_getD, List.getElem?_replicate]; split <;> rfl
    rw [hz] at a b
    rcases (show i % 2 = 0 ∨ i % 2 = 1 by omega) with h | h
    · rw [show i = i / 2 * 2 by omega]; exact a.symm
    · rw [show i = i / 2 * 2 + 1 by omega]; exact b.symm
  · rw [Array.getElem?_eq_none (by rw [size_madeCells]; omega), Array.getElem?_eq_none (by simp [Ytihbhbeaihdgnaa.Spn.sp64_len]; omega)]
theorem make_sp (n : Nat) (h : n ≤ 1024) (w : World) : (Instr.makeSlice 37 (.int .i64 n) (.int .i64 n)).run Try.prog w = .ok (.slice (some ⟨w.heap.size, 0, none⟩) n n) (w.alloc (.cells (spA (List.replicate n (0, 0))) 73)) := by
  obtain ⟨i0, hi, hz0, hz1, hz2⟩ := Ytihbhbeaihdgnaa.Spn.info_parts Ytihbhbeaihdgnaa.Spn.info26
  have := run_make w 37 73 i0 _ Try.underlying37 hi hz0 .i64 .i64 n n (by omega) (Int.le_refl _) (by rw [hz2]; omega) (by omega)
  rw [hz1] at this
  simp only [Int.toNat_natCast] at this
  have e : madeCells (Value.agg #[.int .i64 0, .int .i64 0]).cells (n * 2) = spA (List.replicate n (0, 0)) := made_sp n
  rw [e] at this
  exact this
theorem set_sp (S Z : Sps) (p q : Int × Int) : ((spA (S ++ q :: Z)).setIfInBounds (S.length * 2) (.int .i64 p.1)).setIfInBounds (S.length * 2 + 1) (.int .i64 p.2) = spA (S ++ p :: Z) := by
  apply Array.toList_inj.1
  simp only [Array.toList_setIfInBounds]
  have e : ∀ r : Int × Int, Ytihbhbeaihdgnaa.Spn.sp64 (S ++ r :: Z) = Ytihbhbeaihdgnaa.Spn.sp64 S ++ (.int .i64 r.1 :: .int .i64 r.2 :: Ytihbhbeaihdgnaa.Spn.sp64 Z) := fun r => by simp [Ytihbhbeaihdgnaa.Spn.sp64]
  rw [e, e, List.set_append_right _ _ (by rw [Ytihbhbeaihdgnaa.Spn.sp64_len]; omega), List.set_append_right _ _ (by rw [Ytihbhbeaihdgnaa.Spn.sp64_len]; omega), Ytihbhbeaihdgnaa.Spn.sp64_len]
  simp
theorem spans_has {W : World} {g : Nat} {L : Sps} (h : HasC W g 73 (spA L)) (hl : L.length ≤ 1024) : Ytihbhbeaihdgnaa.Spn.Spans W (some ⟨g, 0, none⟩) L.length L.length L := by
  refine ⟨rfl, Nat.le_refl _, by unfold maxLen; omega, (fun e => by cases e), .inr ⟨g, 0, rfl, fun i hi => ?_⟩⟩
  obtain ⟨a, b⟩ := spA_get L i hi
  rw [Nat.zero_add]
  exact ⟨h.cell (i * 2) a, h.cell (i * 2 + 1) b⟩
theorem put_sp {W : World} {g k : Nat} {S Z : Sps} {q : Int × Int} (h : HasC W g 73 (spA (S ++ q :: Z))) (hk : S.length = k) (x y : Int) : HasC ((W.setCell ⟨g, k * 2, none⟩ (.int .i64 x)).setCell ⟨g, k * 2 + 1, none⟩ (.int .i64 y)) g 73 (spA (S ++ (x, y) :: Z)) := by
  subst hk
  have := (h.set (S.length * 2) (.int .i64 x)).set (S.length * 2 + 1) (.int .i64 y)
  rwa [show ((spA (S ++ q :: Z)).setIfInBounds (S.length * 2) (.int .i64 x)).setIfInBounds (S.length * 2 + 1) (.int .i64 y) = spA (S ++ (x, y) :: Z) from set_sp S Z (x, y) q] at this
theorem rep_succ {n k : Nat} (h : k < n) : List.replicate (n - k) ((0 : Int), (0 : Int)) = (0, 0) :: List.replicate (n - (k + 1)) (0, 0) := by
  rw [show n - k = (n - (k + 1)) + 1 by omega, List.replicate_succ]
theorem oth2' {W : World} {b r k : Nat} {t : TypeId} {cs : Array Value} (h : HasC W b t cs) (hr : b ≠ r) (x y : Value) : HasC ((W.setCell ⟨r, k * 2, none⟩ x).setCell ⟨r, k * 2 + 1, none⟩ y) b t cs := (h.other (p := ⟨r, k * 2, none⟩) hr x).other (p := ⟨r, k * 2 + 1, none⟩) hr y
theorem two_of {W : World} {b : Nat} {t : TypeId} {x y : Value} (h : HasC W b t #[x, y]) : W.cell? ⟨b, 0, none⟩ = some x ∧ W.cell? ⟨b, 1, none⟩ = some y ∧ W.frozen? ⟨b, 0, none⟩ = false ∧ W.frozen? ⟨b, 1, none⟩ = false :=
  ⟨h.cell 0 rfl, h.cell 1 rfl, h.frozen 0, h.frozen 1⟩
theorem put_two {w w2 : World} {b : Nat} {t : TypeId} {p q : Value} (h : HasC w2 b t #[p, q]) (hB : Below w.heap.size w w2) (hb : w.heap.size ≤ b) (x y : Int) :
    ((w2.setCell ⟨b, 0, none⟩ (.int .i64 x)).setCell ⟨b, 1, none⟩ (.int .i64 y)).cell? ⟨b, 0, none⟩ = some (.int .i64 x) ∧ ((w2.setCell ⟨b, 0, none⟩ (.int .i64 x)).setCell ⟨b, 1, none⟩ (.int .i64 y)).cell? ⟨b, 1, none⟩ = some (.int .i64 y) ∧
    Below w.heap.size w ((w2.setCell ⟨b, 0, none⟩ (.int .i64 x)).setCell ⟨b, 1, none⟩ (.int .i64 y)) :=
  Ytihbhbeaihdgnaa.Spn.stored2 h hB hb x y
theorem oth2 {W : World} {b r : Nat} {t : TypeId} {cs : Array Value} (h : HasC W b t cs) (hr : b ≠ r) (x y : Value) : HasC ((W.setCell ⟨r, 0, none⟩ x).setCell ⟨r, 1, none⟩ y) b t cs := (h.other (p := ⟨r, 0, none⟩) hr x).other (p := ⟨r, 1, none⟩) hr y
theorem set2 {W : World} {b : Nat} {t : TypeId} {p q : Value} (h : HasC W b t #[p, q]) (x y : Value) : HasC ((W.setCell ⟨b, 0, none⟩ x).setCell ⟨b, 1, none⟩ y) b t #[x, y] := (h.set 0 x).set 1 y
theorem three_of {W : World} {b : Nat} {t : TypeId} {x y z : Value} (h : HasC W b t #[x, y, z]) : W.cell? ⟨b, 0, none⟩ = some x ∧ W.cell? ⟨b, 1, none⟩ = some y ∧ W.cell? ⟨b, 2, none⟩ = some z ∧ W.frozen? ⟨b, 0, none⟩ = false ∧ W.frozen? ⟨b, 1, none⟩ = false ∧ W.frozen? ⟨b, 2, none⟩ = false :=
  ⟨h.cell 0 rfl, h.cell 1 rfl, h.cell 2 rfl, h.frozen 0, h.frozen 1, h.frozen 2⟩
theorem put_three {w w2 : World} {b : Nat} {t : TypeId} {p q r : Value} (h : HasC w2 b t #[p, q, r]) (hB : Below w.heap.size w w2) (hb : w.heap.size ≤ b) (x y z : Value) :
    HasC (((w2.setCell ⟨b, 0, none⟩ x).setCell ⟨b, 1, none⟩ y).setCell ⟨b, 2, none⟩ z) b t #[x, y, z] ∧
    Below w.heap.size w (((w2.setCell ⟨b, 0, none⟩ x).setCell ⟨b, 1, none⟩ y).setCell ⟨b, 2, none⟩ z) :=
  ⟨((h.set 0 x).set 1 y).set 2 z, ((hB.setCell (p := ⟨b, 0, none⟩) hb _).setCell (p := ⟨b, 1, none⟩) hb _).setCell (p := ⟨b, 2, none⟩) hb _⟩
theorem other_three {W : World} {b r : Nat} {t : TypeId} {cs : Array Value} (h : HasC W b t cs) (hr : b ≠ r) (x y z : Value) : HasC (((W.setCell ⟨r, 0, none⟩ x).setCell ⟨r, 1, none⟩ y).setCell ⟨r, 2, none⟩ z) b t cs :=
  ((h.other (p := ⟨r, 0, none⟩) hr x).other (p := ⟨r, 1, none⟩) hr y).other (p := ⟨r, 2, none⟩) hr z
theorem spans_none (W : World) : Ytihbhbeaihdgnaa.Spn.Spans W none 0 0 [] := ⟨rfl, Nat.le_refl _, by unfold maxLen; omega, fun _ => rfl, .inl rfl⟩

/-- The report's own spans: none, or a block of their own. -/
def Own (z n : Nat) (a : Option Addr) (V : World) : Prop := n = 0 ∨ ∃ g cs, a = some ⟨g, 0, none⟩ ∧ z ≤ g ∧ HasC V g 73 cs ∧ cs.size = 2 * n
theorem Own.later {z n : Nat} {a : Option Addr} {V V' : World} (h : Own z n a V) (hb : Below V.heap.size V V') : Own z n a V' := by
  rcases h with h | ⟨g, cs, h1, h2, h3, h4⟩
  · exact .inl h
  · exact .inr ⟨g, cs, h1, h2, h3.below hb, h4⟩
/-- A report in one form: how many spans, the cost, the error, the spans. -/
def RpP (own : Bool) (w : World) (n : Nat) (co er : Int) (S : Sps) (e : Ending) (W' : World) : Prop :=
  ∃ a cap, e = .returned (.tuple #[.agg #[.slice a n cap, .int .i64 co, .int .i64 0], .int .i64 er]) ∧ Ytihbhbeaihdgnaa.Spn.Spans W' a n cap S ∧ Below w.heap.size w W' ∧ (∀ b off, a = some ⟨b, off, none⟩ → w.heap.size ≤ b) ∧ (own = true → Own w.heap.size n a W')
theorem RpP.no {own : Bool} {w W' : World} {er : Int} (hb : Below w.heap.size w W') : RpP own w 0 0 er [] (.returned (.tuple #[.agg rep0, .int .i64 er])) W' :=
  ⟨none, 0, rfl, spans_none _, hb, fun b off h => by simp at h, fun _ => .inl rfl⟩
theorem RpP.row {w W' : World} {S : Sps} {g n : Nat} {co : Int} (hg : HasC W' g 73 (spA S)) (hn : S.length = n) (h0 : w.heap.size ≤ g) (hl : n ≤ 1024) (hb : Below w.heap.size w W') : RpP true w n co 0 S (.returned (.tuple #[.agg #[.slice (some ⟨g, 0, none⟩) n n, .int .i64 co, .int .i64 0], .int .i64 0])) W' := by
  subst hn
  exact ⟨_, _, rfl, spans_has hg hl, hb, fun b off h => by cases h; exact h0, fun _ => .inr ⟨g, _, rfl, h0, hg, by simp [Ytihbhbeaihdgnaa.Spn.sp64_len]; omega⟩⟩

end Go.Proofs.Vfy

/-
  verify.spanOf: the span of one register.
-/
namespace Go.Proofs.Vfy
open Go.RowKit Go.IntWalk Ytihbhbeaihdgnaa.Knd
open Cde (In i0 ia kd agL arN okI zA abc at6 six_of has_new1)
set_option linter.unusedVariables false

theorem asS_len (S : Sps) (n : In) : (asS S n).length = arN n := by rw [asS, List.length_map, Cde.agL_len]
theorem asS_snoc {S : Sps} {n : In} {k : Nat} (hk : k < arN n) : (asS S n).take (k + 1) = (asS S n).take k ++ [S.getD (Cde.rgN n k).toNat (0, 0)] := by
  rw [Cde.take_snoc (0, 0) (by rw [asS_len]; exact hk), ← Cde.agL_at n k hk]
  congr 2
  simp [asS, List.getD_eq_getElem?_getD, List.getElem?_map, List.getElem?_eq_getElem (show k < (agL n).length by rw [Cde.agL_len]; exact hk)]

set_option maxRecDepth 100000 in
set_option maxHeartbeats 4000000 in
/-- A number, an input, a place. -/
theorem yleaf (f d : Int) (n : In) (a : Option Addr) (sl sc : Nat) (h : n.op = 1 ∨ n.op = 2 ∨ n.op = 3) (S : Sps) (W : World) :
    Calls Try.prog 24 #[.agg (kd f d), .agg (ia n), .slice a sl sc] W fun e W' => e = .returned (Ytihbhbeaihdgnaa.Spn.spV (sgI f d S n)) ∧ Below W.heap.size W W' := by
  obtain ⟨o, pa, pb, pc, pk, ps⟩ := n
  simp only at h
  have hb1 := bel1 W (.cells (kd f d) 23)
  have hb2 := bel hb1 (bel1 (W.alloc (.cells (kd f d) 23)) (.cells (ia ⟨o, pa, pb, pc, pk, ps⟩) 51))
  have hb3 := bel hb2 (bel1 ((W.alloc (.cells (kd f d) 23)).alloc (.cells (ia ⟨o, pa, pb, pc, pk, ps⟩) 51)) (.cells #[.int .i64 0, .int .i64 0] 73))
  have HB0 := hide hb3
  have HBk := hide hb2
  have HK0 := hide (((HasC.new W 23 (kd f d)).alloc (.cells (ia ⟨o, pa, pb, pc, pk, ps⟩) 51)).alloc (.cells #[.int .i64 0, .int .i64 0] 73))
  have HR0 : Hid (HasC (((W.alloc (.cells (kd f d) 23)).alloc (.cells (ia ⟨o, pa, pb, pc, pk, ps⟩) 51)).alloc (.cells #[.int .i64 0, .int .i64 0] 73)) (W.heap.size + 1 + 1) 73 #[.int .i64 0, .int .i64 0]) := by
    have := HasC.new ((W.alloc (.cells (kd f d) 23)).alloc (.cells (ia ⟨o, pa, pb, pc, pk, ps⟩) 51)) 73 #[.int .i64 0, .int .i64 0]
    simp only [World.size_alloc] at this
    exact hide this
  clear hb1 hb2 hb3
  rcases h with rfl | rfl | rfl
  · rw [show sgI f d S ⟨1, pa, pb, pc, pk, ps⟩ = ((pk, pk), 0) from rfl]
    go_enter Try.func24, Try.ntmps24
    go_wp2
    exact bodyPost_ret (v := .tuple #[.agg #[.int .i64 pk, .int .i64 pk], .int .i64 0]) (by simp [results, Try.results24, go_sem]) rfl ⟨rfl, bel HBk.out (bel1 _ _)⟩
  · rw [show sgI f d S ⟨2, pa, pb, pc, pk, ps⟩ = ((inZ f d pk).getD (0, 0), 0) from rfl]
    have HI := hide fun w => input_any f d pk w
    unfold inV at HI
    obtain ⟨⟨lo, hi⟩, hp⟩ : ∃ p, (inZ f d pk).getD (0, 0) = p := ⟨_, rfl⟩
    rw [hp] at HI ⊢
    generalize (inZ f d pk).isSome = q at HI
    clear hp
    go_enter Try.func24, Try.ntmps24
    go_wp2_with fail
    refine (HI.out _).mono ?_
    rintro e V1 ⟨rfl, hb⟩
    have HB1 := hide (bel HB0.out hb)
    have hz := (HR0.out.below hb).lt
    obtain ⟨-, -, hB⟩ := put_two (HR0.out.below hb) HB1.out (by omega) lo hi
    have h3 := (set2 (HR0.out.below hb) (.int .i64 lo) (.int .i64 hi)).alloc (.cells #[.int .i64 lo, .int .i64 hi] 73)
    have r0 := h3.cell 0 rfl
    have r1 := h3.cell 1 rfl
    have HB2 := hide (bel hB (bel1 _ (.cells #[.int .i64 lo, .int .i64 hi] 73)))
    have HR2 := hide r0
    have HR3 := hide r1
    clear r0 r1 h3 hB
    obtain ⟨c0, c1, c2, c3⟩ := two_of (HR0.out.below hb)
    clear hb
    go_wp2_with fail
    have r0 := HR2.out
    have r1 := HR3.out
    exact bodyPost_ret (v := .tuple #[.agg #[.int .i64 lo, .int .i64 hi], .int .i64 0]) (by simp only [results, Try.results24]; simp [go_sem, r0, r1]) rfl ⟨rfl, HB2.out⟩
  · rw [show sgI f d S ⟨3, pa, pb, pc, pk, ps⟩ = ((lowZ f d, highZ f d), 0) from rfl]
    have HLo := hide fun w => low_any f d w
    have HHi := hide fun w => high_any f d w
    generalize lowZ f d = lo at *
    generalize highZ f d = hi at *
    have x0 := HK0.out.cell 0 rfl
    have y0 := HK0.out.cell 1 rfl
    go_enter Try.func24, Try.ntmps24
    go_wp2_with fail
    obtain ⟨W0, hW0⟩ : ∃ W0, (((W.alloc (.cells (kd f d) 23)).alloc (.cells (ia ⟨3, pa, pb, pc, pk, ps⟩) 51)).alloc (.cells #[.int .i64 0, .int .i64 0] 73)) = W0 := ⟨_, rfl⟩
    rw [hW0] at HR0 HK0 HB0 x0 y0 ⊢
    clear hW0
    have HRd : Hid (HasC W0.drew (W.heap.size + 1 + 1) 73 #[.int .i64 0, .int .i64 0]) := HR0.out
    have HKd : Hid (HasC W0.drew W.heap.size 23 (kd f d)) := HK0.out
    have HBd := hide HB0.out.drew
    go_region_held3 (fun w' => w'.cell? ⟨W.heap.size, 0, none⟩ = some (.int .i64 f) ∧ w'.cell? ⟨W.heap.size, 1, none⟩ = some (.int .i64 d))
      (first | exact ⟨x0, y0⟩ | exact ⟨x3, y3⟩ | exact ⟨x4, y4⟩ | exact ⟨(oth2 HK4.out (by omega) _ _).cell 0 rfl, (oth2 HK4.out (by omega) _ _).cell 1 rfl⟩ | go_keep)
      ((first
        | (go_at_call 27; refine (HLo.out _).mono ?_; rintro e w3 ⟨rfl, hb3⟩; have HR3 := hide (HRd.out.below hb3); have HK3 := hide (HKd.out.below hb3); have HB3 := hide (bel HBd.out hb3); clear hb3; obtain ⟨x3, y3, -, -⟩ := two_of HK3.out)
        | (go_at_call 28; refine (HHi.out _).mono ?_; rintro e w4 ⟨rfl, hb4⟩; have HR4 := hide (HR3.out.below hb4); have HK4 := hide (HK3.out.below hb4); have HB4 := hide (bel HB3.out hb4); clear hb4; obtain ⟨x4, y4, -, -⟩ := two_of HK4.out; obtain ⟨g0, g1, g2, g3⟩ := two_of HR4.out)))
    all_goals
      obtain ⟨r0, r1, hB⟩ := put_two HR4.out HB4.out (by omega) lo hi
      go_wp2
      exact bodyPost_ret (v := .tuple #[.agg #[.int .i64 lo, .int .i64 hi], .int .i64 0]) (by simp [results, Try.results24, go_sem, r0, r1]) rfl ⟨rfl, hB⟩

set_option maxRecDepth 100000 in
set_option maxHeartbeats 4000000 in
/-- An operator's span. -/
theorem yin (f d : Int) (n : In) {i sl sc : Nat} {a : Option Addr} {S : Sps} {W : World} (ho : okI n i = true) (h1 : n.op ≠ 1) (h2 : n.op ≠ 2) (h3 : n.op ≠ 3) (hS : Ytihbhbeaihdgnaa.Spn.Spans W a sl sc S) (hi : i ≤ sl) :
    Calls Try.prog 24 #[.agg (kd f d), .agg (ia n), .slice a sl sc] W fun e W' => e = .returned (Ytihbhbeaihdgnaa.Spn.spV (sgI f d S n)) ∧ Below W.heap.size W W' := by
  have hsl : sl ≤ 9223372036854775807 := by have := hS.le; have := hS.max; unfold maxLen at *; omega
  rw [show sgI f d S n = Ytihbhbeaihdgnaa.Spn.ofZ n.op n.k n.s (asS S n) by unfold sgI; rw [if_neg h1, if_neg h2, if_neg h3]]
  have HRg := hide fun j hj => Cde.ok_reg ho (j := j) hj
  have HSg := hide fun j hj => asS_snoc (S := S) (n := n) (k := j) hj
  have HA3 := hide (Cde.arN_le n)
  have HAb := hide fun j (h : j < 3) => Cde.abc_at n j h
  have HLl := hide (asS_len S n)
  have HPO := hide fun w => Cde.cargs_ex n w
  have q1 : (n.op == 1) = false := by simpa using h1
  have q2 : (n.op == 2) = false := by simpa using h2
  have q3 : (n.op == 3) = false := by simpa using h3
  generalize asS S n = L at *
  generalize arN n = k at *
  have hb1 := bel1 W (.cells (kd f d) 23)
  have hb2 := bel hb1 (bel1 (W.alloc (.cells (kd f d) 23)) (.cells (ia n) 51))
  have hb3 := bel hb2 (bel1 ((W.alloc (.cells (kd f d) 23)).alloc (.cells (ia n) 51)) (.cells #[.int .i64 0, .int .i64 0] 73))
  have HB0 := hide hb3
  have HN0 : Hid (HasC (((W.alloc (.cells (kd f d) 23)).alloc (.cells (ia n) 51)).alloc (.cells #[.int .i64 0, .int .i64 0] 73)) (W.heap.size + 1) 51 (ia n)) := by
    have := (HasC.new (W.alloc (.cells (kd f d) 23)) 51 (ia n)).alloc (.cells #[.int .i64 0, .int .i64 0] 73)
    simp only [World.size_alloc] at this
    exact hide this
  have HR0 : Hid (HasC (((W.alloc (.cells (kd f d) 23)).alloc (.cells (ia n) 51)).alloc (.cells #[.int .i64 0, .int .i64 0] 73)) (W.heap.size + 1 + 1) 73 #[.int .i64 0, .int .i64 0]) := by
    have := HasC.new ((W.alloc (.cells (kd f d) 23)).alloc (.cells (ia n) 51)) 73 #[.int .i64 0, .int .i64 0]
    simp only [World.size_alloc] at this
    exact hide this
  have HS0 := hide (hS.later hb3)
  clear hb1 hb2 hb3 hS ho h1 h2 h3
  go_enter Try.func24, Try.ntmps24
  go_wp2_with fail
  refine (HPO.out _).mono ?_
  rintro e V1 ⟨g, rfl, -, hG, hb⟩
  have HG := hide hG
  have HR1 := hide (HR0.out.below hb)
  have HN1 := hide (HN0.out.below hb)
  have HB1 := hide (bel HB0.out hb)
  have HS1 := hide (HS0.out.later hb)
  have hgl := hG.lt
  clear hG hb HR0 HN0 HB0 HS0 HPO
  go_wp2_with fail
  go_loopw [10, 42] (fun v i wr => ∃ j : Nat, j ≤ k ∧ i = .int .i64 j ∧ Hid (Ytihbhbeaihdgnaa.Spn.Es V1 wr v j (L.take j))) (fun _ i _ => k - (intOf i).toNat)
  case atStart => exact ⟨0, Nat.zero_le _, rfl, hide (Ytihbhbeaihdgnaa.Spn.Es.start V1)⟩
  case round =>
    obtain ⟨j, hj, rfl, HE⟩ := hrel
    rename World => V
    by_cases hlt : j < k
    · have h33 : j < 3 := by have := HA3.out; omega
      have cp := (HG.out.below HE.out.bel).cell j (Cde.zA_get (abc n) j (by simp [abc]; omega))
      rw [HAb.out j h33] at cp
      obtain ⟨p0, p1⟩ := HRg.out j hlt
      have HT := hide (HSg.out j hlt)
      obtain ⟨q, hq⟩ : ∃ q : Nat, Cde.rgN n j = (q : Int) := ⟨(Cde.rgN n j).toNat, by omega⟩
      rw [hq] at cp p1 HT
      simp only [Int.toNat_natCast] at p1 HT
      obtain ⟨b, off, rfl, -, hcs⟩ := (HS1.out.later HE.out.bel).at (by omega)
      obtain ⟨s0, s1⟩ := hcs q (by omega)
      generalize S.getD q (0, 0) = sv at *
      obtain ⟨lo, hi2⟩ := sv
      simp only at s0 s1
      have j0 : (0 : Int) ≤ j := by omega
      have j1 : (j : Int) < k := by omega
      have j2 : (j : Int) < 3 := by omega
      have i0 : (0 : Int) ≤ q := by omega
      have i1 : (q : Int) < sl := by omega
      clear hcs p0 p1 hq
      go_wp2_with (at_builtin; refine Ytihbhbeaihdgnaa.Spn.list_span (w := V1) (L := L.take j) rfl _ _ rfl rfl (HE.out.alloc _) _ lo hi2 rfl (Ytihbhbeaihdgnaa.Spn.HasC.new _ _ _) (by omega) ?_; intro g2 cap2 w2 HE2 hsz)
      go_roundw
      case rel => exact ⟨j + 1, by omega, by go_num, hide (by rw [HT.out]; exact HE2)⟩
      case measure => simp [intOf]; omega
    · obtain rfl : j = k := by omega
      have e : L.take j = L := List.take_of_length_le (by rw [HLl.out]; exact Nat.le_refl _)
      have HE1 := HE.out
      rw [e] at HE1
      obtain ⟨va, vc, rfl, hA⟩ := Ytihbhbeaihdgnaa.Spn.Spans.of_owns HE1.a HLl.out
      have HOf := hide (Ytihbhbeaihdgnaa.Spn.of_any n.op n.k n.s _ _ _ _ _ hA)
      have HR2 := hide (HR1.out.below HE1.bel)
      have HB2 := hide (bel HB1.out HE1.bel)
      obtain ⟨x0, -, -, -, x4, x5⟩ := six_of (HN1.out.below HE1.bel)
      obtain ⟨⟨⟨lo, hi2⟩, er⟩, hZ⟩ : ∃ Z, Ytihbhbeaihdgnaa.Spn.ofZ n.op n.k n.s L = Z := ⟨_, rfl⟩
      rw [hZ] at HOf
      have HZ := hide hZ
      clear hZ hA e HE HE1
      go_wp2_with fail
      refine HOf.out.mono ?_
      rintro e V2 ⟨rfl, hb⟩
      have HR3 := hide (HR2.out.below hb)
      have HB3 := hide (bel HB2.out hb)
      obtain ⟨g0, g1, g2, g3⟩ := two_of HR3.out
      clear hb
      go_wp2_with fail
      obtain ⟨r0, r1, hB⟩ := put_two HR3.out HB3.out (by omega) lo hi2
      exact bodyPost_ret (v := .tuple #[.agg #[.int .i64 lo, .int .i64 hi2], .int .i64 er]) (by simp [results, Try.results24, go_sem, r0, r1]) rfl ⟨by rw [HZ.out], hB⟩

/-- spanOf, whatever the instruction. -/
theorem yspan_any (f d : Int) {n : In} {i sl sc : Nat} {a : Option Addr} {S : Sps} {W : World} (ho : okI n i = true) (hS : Ytihbhbeaihdgnaa.Spn.Spans W a sl sc S) (hi : i ≤ sl) :
    Calls Try.prog 24 #[.agg (kd f d), .agg (ia n), .slice a sl sc] W fun e W' => e = .returned (Ytihbhbeaihdgnaa.Spn.spV (sgI f d S n)) ∧ Below W.heap.size W W' := by
  by_cases h : n.op = 1 ∨ n.op = 2 ∨ n.op = 3
  · exact yleaf f d n a sl sc h S W
  · exact yin f d n ho (by omega) (by omega) (by omega) hS hi

end Go.Proofs.Vfy

/-
  verify.may, verify.spansOf and verify.Verify.
-/
namespace Go.Proofs.Vfy
open Go.RowKit Go.IntWalk Ytihbhbeaihdgnaa.Knd
open Cde (In i0 ia kd cd Ins agL arN okI okT mcB coL six_of four_of has_new1 take_snoc)
set_option linter.unusedVariables false

def ahE (b : Bool) : Int := if b = true then 11 else 0
theorem my_cases (f d : Int) (L : List In) (out : Int) : (mcB f d L out = true ∧ myE f d L out = ahE (L.any (ahI f d))) ∨ (¬ mcB f d L out = true ∧ myE f d L out = 15) := by
  unfold myE ahE
  by_cases h : mcB f d L out = true
  · exact .inl ⟨h, if_pos h⟩
  · exact .inr ⟨h, if_neg h⟩
theorem ret_z {x y : Int} (h : x = y) : Ending.returned (.int .i64 x) = .returned (.int .i64 y) := by rw [h]

set_option maxRecDepth 100000 in
set_option maxHeartbeats 4000000 in
theorem ymay_any (f d out : Int) {a : Option Addr} {n cap : Nat} {L : List In} {W : World} (hL : Ins W a n cap L) :
    Calls Try.prog 13 #[.agg (cd f d a n cap out)] W fun e W' => e = .returned (.int .i64 (myE f d L out)) ∧ Below W.heap.size W W' := by
  have hb1 := bel1 W (.cells (cd f d a n cap out) 26)
  have HB0 := hide hb1
  have HC0 := hide (HasC.new W 26 (cd f d a n cap out))
  have HCk := hide (Cde.ccheck_any f d out (hL.later hb1))
  have HLI := hide hL
  have HLn := hide hL.len
  clear hb1 hL
  rcases my_cases f d L out with ⟨hm, h0⟩ | ⟨hm, h0⟩
  · obtain ⟨-, m1, m2, -, -, -⟩ := Cde.mc_parts hm
    rw [HLn.out] at m1 m2
    rw [show Cde.ccE f d L out = 0 by rw [Cde.ccE, if_pos hm]] at HCk
    rw [h0]
    have HCo := hide fun w => count_any f d w
    have HA2 := hide fun k => ah_snoc (f := f) (d := d) (L := L) (k := k)
    have HA3 := hide fun k => ah_of (f := f) (d := d) (L := L) (k := k)
    unfold ahI at HA2 HA3
    unfold ahI
    generalize countZ f d = cz at *
    obtain ⟨R, hR⟩ : ∃ R : Bool, (L.any fun n => n.op == 3 && decide (cz ≤ n.k)) = R := ⟨_, rfl⟩
    rw [hR] at HA3 ⊢
    have HR := hide hR
    obtain ⟨E, hE⟩ : ∃ E : Int, ahE R = E := ⟨_, rfl⟩
    rw [hE]
    have HE := hide hE
    clear hm h0 hR hE
    go_enter Try.func13, Try.ntmps13
    go_wp2_with fail
    refine HCk.out.mono ?_
    rintro e V1 ⟨rfl, hb⟩
    have HC1 := hide (HC0.out.below hb)
    have HB1 := hide (bel HB0.out hb)
    obtain ⟨c0, c1, c2, c3⟩ := four_of HC1.out
    clear hb HC0 HB0 HCk
    go_wp2_with fail
    refine (HCo.out _).mono ?_
    rintro e V2 ⟨rfl, hb⟩
    have HC2 := hide (HC1.out.below hb)
    have HB2 := hide (bel HB1.out hb)
    clear hb HC1 HB1 c0 c1 c2 c3
    obtain ⟨c0, c1, c2, c3⟩ := four_of HC2.out
    go_wp2_with fail
    clear c0 c1 c2 c3
    go_loopw [18] (fun i wr => ∃ k : Nat, k ≤ n ∧ i = .int .i64 k ∧ Hid ((L.take k).any (fun n => n.op == 3 && decide (cz ≤ n.k)) = false) ∧ Hid (Below W.heap.size W wr)) (fun i _ => n - (intOf i).toNat)
    case atStart => exact ⟨0, Nat.zero_le _, rfl, hide rfl, HB2⟩
    case round =>
      obtain ⟨k, hk, rfl, HA, HB⟩ := hrel
      rename World => V
      clear HB2
      by_cases hlt : k < n
      · obtain ⟨g, off, rfl, -, hat⟩ := (HLI.out.later HB.out).at (by omega)
        obtain ⟨e0, e1, e2, e3, e4, e5⟩ := hat k hlt
        clear hat
        have hi0 : (0 : Int) ≤ k := by omega
        have hi1 : (k : Int) < n := by omega
        have HS2 := hide (HA2.out k (by rw [HLn.out]; exact hlt) HA.out)
        have HS3 := hide (HA3.out k (by rw [HLn.out]; exact hlt))
        generalize L.getD k i0 = m at *
        have HB3 := hide (bel HB.out (bel1 V (.cells (ia m) 51)))
        clear HA2 HA3
        by_cases ho : m.op = 3
        · have ho1 : (m.op == 3) = true := by simpa using ho
          by_cases hc : cz ≤ m.k
          · have hc1 : decide (cz ≤ m.k) = true := by simpa using hc
            have HT := hide (HS3.out (by rw [ho1, hc1]; rfl))
            clear HS2 HS3 ho hc
            go_wp2_with fail
            go_ret
            exact ⟨ret_z (by rw [← HE.out, HT.out]; rfl), HB3.out⟩
          · have hc1 : decide (cz ≤ m.k) = false := by simpa using hc
            have HT := hide (HS2.out (by rw [hc1]; simp))
            clear HS2 HS3 ho hc
            go_wp2_with fail
            go_roundw
            case rel => exact ⟨k + 1, by omega, by go_num, hide HT.out, HB3⟩
            case measure => simp [intOf]; omega
        · have ho1 : (m.op == 3) = false := by simpa using ho
          have HT := hide (HS2.out (by rw [ho1]; rfl))
          clear HS2 HS3 ho
          go_wp2_with fail
          go_roundw
          case rel => exact ⟨k + 1, by omega, by go_num, hide HT.out, HB3⟩
          case measure => simp [intOf]; omega
      · obtain rfl : k = n := by omega
        have hT := HA.out
        rw [List.take_of_length_le (by rw [HLn.out]; exact Nat.le_refl _), HR.out] at hT
        have HT := hide hT
        clear hT
        go_wp2_with fail
        go_ret
        exact ⟨ret_z (by rw [← HE.out, HT.out]; rfl), HB.out⟩
  · rw [show Cde.ccE f d L out = 15 by rw [Cde.ccE, if_neg hm]] at HCk
    rw [h0]
    clear hm h0
    go_enter Try.func13, Try.ntmps13
    go_wp2_with fail
    refine HCk.out.mono ?_
    rintro e V1 ⟨rfl, hb⟩
    have HB1 := hide (bel HB0.out hb)
    clear hb
    go_wp2_with fail
    go_ret
    exact ⟨rfl, HB1.out⟩

/-- What spansOf answers. -/
def SpP (w : World) (Z : Int × Sps) (e : Ending) (W' : World) : Prop :=
  (Z.1 ≠ 0 ∧ e = .returned (.tuple #[.slice none 0 0, .int .i64 Z.1]) ∧ Below w.heap.size w W') ∨
  (Z.1 = 0 ∧ ∃ g, e = .returned (.tuple #[.slice (some ⟨g, 0, none⟩) Z.2.length Z.2.length, .int .i64 0]) ∧ w.heap.size ≤ g ∧ HasC W' g 73 (spA Z.2) ∧ Below w.heap.size w W')

set_option maxRecDepth 100000 in
set_option maxHeartbeats 4000000 in
theorem yspans_any (f d out : Int) {a : Option Addr} {n cap : Nat} {L : List In} {W : World} (hL : Ins W a n cap L) (hok : okT L L.length = true) (hn : n ≤ 1024) :
    Calls Try.prog 14 #[.agg (cd f d a n cap out)] W (SpP W (sgF f d L)) := by
  have hmk := make_sp n hn
  have hb1 := bel1 W (.cells (cd f d a n cap out) 26)
  have HB0 := hide (bel hb1 (bel1 (W.alloc (.cells (cd f d a n cap out) 26)) (.cells (spA (List.replicate n (0, 0))) 73)))
  have HC0 := hide ((HasC.new W 26 (cd f d a n cap out)).alloc (.cells (spA (List.replicate n (0, 0))) 73))
  have HG0 := hide (has_new1 W (.cells (cd f d a n cap out) 26) 73 (spA (List.replicate n (0, 0))))
  have HLI := hide hL
  have HLn := hide hL.len
  rw [hL.len] at hok
  have HOk := hide hok
  clear hb1 hL hok
  go_enter Try.func14, Try.ntmps14
  go_wp2_with fail
  clear hmk
  go_loopw [16] (fun i wr => ∃ (k : Nat) (S : Sps), k ≤ n ∧ i = .int .i64 k ∧ Hid (sgF f d (L.take k) = (0, S)) ∧ Hid (S.length = k) ∧ Hid (HasC wr (W.heap.size + 1) 73 (spA (S ++ List.replicate (n - k) (0, 0)))) ∧ Hid (HasC wr W.heap.size 26 (cd f d a n cap out)) ∧ Hid (Below W.heap.size W wr)) (fun i _ => n - (intOf i).toNat)
  case atStart => exact ⟨0, [], Nat.zero_le _, rfl, hide rfl, hide rfl, HG0, HC0, HB0⟩
  case round =>
    obtain ⟨k, S, hk, rfl, HS, HSl, HG, HC, HB⟩ := hrel
    rename World => V
    clear HG0 HC0 HB0
    by_cases hlt : k < n
    · obtain ⟨b, off, rfl, -, hat⟩ := (HLI.out.later HB.out).at (by omega)
      obtain ⟨e0, e1, e2, e3, e4, e5⟩ := hat k hlt
      clear hat
      have hi0 : (0 : Int) ≤ k := by omega
      have hi1 : (k : Int) < n := by omega
      have hOk := Cde.okT_at HOk.out hlt
      have hS2 := sgF_snoc f d (L.take k) (L.getD k i0)
      rw [← take_snoc i0 (by rw [HLn.out]; exact hlt), HS.out] at hS2
      have HS2 := hide hS2
      have HSt := hide fun e h he => sgF_bad (f := f) (d := d) (L := L) (k := k + 1) (e := e) h he
      clear hS2
      generalize L.getD k i0 = m at *
      have hb := bel1 V (.cells (ia m) 51)
      have HG2 := hide (HG.out.below hb)
      have HC2 := hide (HC.out.below hb)
      have HB2 := hide (bel HB.out hb)
      have hl : (S ++ List.replicate (n - k) ((0 : Int), (0 : Int))).length = n := by simp [HSl.out]; omega
      have hV := spans_has HG2.out (by rw [hl]; omega)
      rw [hl] at hV
      have HV := hide (yspan_any f d hOk hV (by omega))
      rw [sgI_pre (by rw [HSl.out]; exact hOk)] at HV
      obtain ⟨c0, c1, c2, c3⟩ := four_of HC.out
      have hz0 := HC.out.lt
      have hz1 := HG.out.lt
      clear hb hV hl hOk
      unfold sgS at HS2
      generalize sgI f d S m = X at *
      obtain ⟨⟨lo, hi⟩, er⟩ := X
      simp only [if_true] at HS2
      go_wp2_with fail
      refine HV.out.mono ?_
      rintro e V3 ⟨rfl, hb⟩
      have HG3 := hide (HG2.out.below hb)
      have HC3 := hide (HC2.out.below hb)
      have HB3 := hide (bel HB2.out hb)
      clear hb HV HG2 HC2 HB2 c0 c1 c2 c3 e0 e1 e2 e3 e4 e5
      by_cases he : er = 0
      · subst he
        rw [if_pos rfl] at HS2
        have HX := HG3.out
        rw [rep_succ hlt] at HX
        have ya := HX.frozen (k * 2)
        have yb := HX.frozen (k * 2 + 1)
        have hza := HX.lt
        obtain ⟨ca, hca⟩ := spA_get (S ++ (0, 0) :: List.replicate (n - (k + 1)) (0, 0)) k (by simp [HSl.out])
        have da := HX.cell (k * 2) ca
        have db := HX.cell (k * 2 + 1) hca
        have HG4 := hide ((put_sp HX HSl.out lo hi).alloc (.cells #[.int .i64 lo, .int .i64 hi] 73))
        have HC4 := hide ((oth2' HC3.out (r := W.heap.size + 1) (k := k) (by omega) (.int .i64 lo) (.int .i64 hi)).alloc (.cells #[.int .i64 lo, .int .i64 hi] 73))
        have HB4 := hide (bel ((HB3.out.setCell (p := ⟨W.heap.size + 1, k * 2, none⟩) (by simp) (.int .i64 lo)).setCell (p := ⟨W.heap.size + 1, k * 2 + 1, none⟩) (by simp) (.int .i64 hi)) (bel1 _ (.cells #[.int .i64 lo, .int .i64 hi] 73)))
        clear HX ca hca HG3 HC3 HB3 HSt HG HC HB hz0 hz1
        go_wp2_with fail
        go_roundw
        case rel => exact ⟨k + 1, S ++ [(lo, hi)], by omega, by go_num, hide HS2.out, hide (by simp [HSl.out]), hide (by rw [List.append_assoc]; exact HG4.out), hide HC4.out, hide HB4.out⟩
        case measure => simp [intOf]; omega
      · rw [if_neg he] at HS2
        have HE := hide (HSt.out _ HS2.out he)
        have HN := hide he
        have he2 : (er != 0) = true := by simpa using he
        clear HS2 HSt he
        go_wp2_with fail
        exact bodyPost_ret (v := .tuple #[.slice none 0 0, .int .i64 er]) (by simp [results, Try.results14, go_sem]) rfl (.inl (by rw [HE.out]; exact ⟨HN.out, rfl, bel HB3.out (bel1 _ _)⟩))
    · obtain rfl : k = n := by omega
      have hD := HS.out
      rw [List.take_of_length_le (by rw [HLn.out]; exact Nat.le_refl _)] at hD
      have HE := hide hD
      have HX := HG.out
      rw [Nat.sub_self, List.replicate_zero, List.append_nil] at HX
      have HX2 := hide HX
      clear hD HX
      go_wp2_with fail
      exact bodyPost_ret (v := .tuple #[.slice (some ⟨W.heap.size + 1, 0, none⟩) k k, .int .i64 0]) (by simp [results, Try.results14, go_sem]) rfl (.inr (by rw [HE.out]; exact ⟨rfl, _, by rw [HSl.out], by omega, HX2.out, HB.out⟩))

theorem vf_may {f d : Int} {L : List In} {out : Int} (h : myE f d L out ≠ 0) : vfE f d L out = myE f d L out := by unfold vfE; rw [if_pos h]
theorem vf_span {f d : Int} {L : List In} {out : Int} (h : myE f d L out = 0) (h2 : (sgF f d L).1 ≠ 0) : vfE f d L out = (sgF f d L).1 := by unfold vfE; rw [if_neg (by simpa using h), if_pos h2]
theorem vf_cost {f d : Int} {L : List In} {out : Int} (h : myE f d L out = 0) (h2 : (sgF f d L).1 = 0) (h3 : 200 < coL L) : vfE f d L out = 14 := by unfold vfE; rw [if_neg (by simpa using h), if_neg (by simpa using h2), if_pos h3]
theorem vf_ok {f d : Int} {L : List In} {out : Int} (h : myE f d L out = 0) (h2 : (sgF f d L).1 = 0) (h3 : ¬ 200 < coL L) : vfE f d L out = 0 := by unfold vfE; rw [if_neg (by simpa using h), if_neg (by simpa using h2), if_neg h3]
/-- What Verify answers. -/
abbrev VfP (own : Bool) (w : World) (f d : Int) (L : List In) (out : Int) : Ending → World → Prop := RpP own w (vfN f d L out) (vfC f d L out) (vfE f d L out) (vfS f d L out)
theorem VfP.no {own : Bool} {w W' : World} {f d : Int} {L : List In} {out er : Int} (h : vfE f d L out = er) (h0 : er ≠ 0) (hb : Below w.heap.size w W') : VfP own w f d L out (.returned (.tuple #[.agg rep0, .int .i64 er])) W' := by
  subst h
  obtain ⟨e1, e2, e3⟩ := vf_none h0
  unfold VfP
  rw [e1, e2, e3]
  exact RpP.no hb
theorem VfP.row {w W' : World} {f d : Int} {L : List In} {out : Int} {S : Sps} {g n : Nat} {co : Int} (h : vfE f d L out = 0) (hS : sgF f d L = (0, S)) (hl : L.length = n) (hco : coL L = co) (hg : HasC W' g 73 (spA S)) (h0 : w.heap.size ≤ g) (hb : Below w.heap.size w W') : VfP true w f d L out (.returned (.tuple #[.agg #[.slice (some ⟨g, 0, none⟩) n n, .int .i64 co, .int .i64 0], .int .i64 0])) W' := by
  obtain ⟨m, -, ⟨S', h1, h2, h3⟩, -, h4, h5⟩ := vf_parts h
  obtain ⟨-, -, hf, -⟩ := Cde.mc_parts m
  rw [hS] at h1
  cases h1
  unfold VfP
  rw [h3, h4, h5, h, hl, hco]
  exact RpP.row hg (by rw [h2, hl]) h0 (by omega) hb

set_option maxRecDepth 100000 in
set_option maxHeartbeats 4000000 in
theorem yverify_any (f d out : Int) {a : Option Addr} {n cap : Nat} {L : List In} {W : World} (hL : Ins W a n cap L) :
    Calls Try.prog 7 #[.agg (cd f d a n cap out)] W (VfP true W f d L out) := by
  have hb1 := bel1 W (.cells (cd f d a n cap out) 26)
  have hb2 := bel hb1 (bel1 (W.alloc (.cells (cd f d a n cap out) 26)) (.cells rep0 39))
  have HB0 := hide hb2
  have HC0 := hide ((HasC.new W 26 (cd f d a n cap out)).alloc (.cells rep0 39))
  have HR0 := hide (has_new1 W (.cells (cd f d a n cap out) 26) 39 rep0)
  have HM := hide (ymay_any f d out (hL.later hb2))
  have HLI := hide hL
  have HLn := hide hL.len
  clear hb1 hb2 hL
  by_cases h0 : myE f d L out = 0
  · obtain ⟨hm, -⟩ := my_zero.1 h0
    obtain ⟨-, m1, m2, -, -, hok⟩ := Cde.mc_parts hm
    rw [h0] at HM
    rw [HLn.out] at m1 m2
    have HSp := hide fun (V : World) (h : Ins V a n cap L) => yspans_any f d out h hok (by omega)
    have HCo := hide fun (V : World) (h : Ins V a n cap L) => Cde.ccost_any f d out h (by omega)
    have HZ := hide h0
    clear hm hok h0
    obtain ⟨⟨er, S⟩, hX⟩ : ∃ X, sgF f d L = X := ⟨_, rfl⟩
    have HX := hide hX
    rw [hX] at HSp
    clear hX
    go_enter Try.func7, Try.ntmps7
    go_wp2_with fail
    refine HM.out.mono ?_
    rintro e V1 ⟨rfl, hb⟩
    have HC1 := hide (HC0.out.below hb)
    have HR1 := hide (HR0.out.below hb)
    have HB1 := hide (bel HB0.out hb)
    obtain ⟨c0, c1, c2, c3⟩ := four_of HC1.out
    clear hb HC0 HR0 HB0 HM
    go_wp2_with fail
    refine (HSp.out _ (HLI.out.later HB1.out)).mono ?_
    rintro e V2 (⟨he, rfl, hb⟩ | ⟨he, g, rfl, hg, hG, hb⟩)
    · have he' : er ≠ 0 := he
      have HE := hide (vf_span HZ.out (by rw [HX.out]; exact he))
      rw [HX.out] at HE
      have HN := hide he'
      have hne : (er != 0) = true := by simpa using he'
      have HR2 := hide (HR1.out.below hb)
      have HB2 := hide (bel HB1.out hb)
      obtain ⟨r0, r1, r2, r3, r4, r5⟩ := three_of HR2.out
      clear hb he he' c0 c1 c2 c3
      go_wp2_with fail
      obtain ⟨hp, hpb⟩ := put_three HR2.out HB2.out (by omega) (.slice none 0 0) (.int .i64 0) (.int .i64 0)
      have p0 := hp.cell 0 rfl
      have p1 := hp.cell 1 rfl
      have p2 := hp.cell 2 rfl
      exact bodyPost_ret (v := .tuple #[.agg rep0, .int .i64 er]) (by simp [results, Try.results7, go_sem, p0, p1, p2]) rfl (VfP.no HE.out HN.out hpb)
    · have he' : er = 0 := he
      subst he'
      have hSl : S.length = n := by rw [sgF_all HX.out, HLn.out]
      simp only at hG ⊢
      rw [hSl]
      have HR2 := hide (HR1.out.below hb)
      have HC2 := hide (HC1.out.below hb)
      have HB2 := hide (bel HB1.out hb)
      have HG2 := hide hG
      have HSl := hide hSl
      have hgl := HB1.out.size
      have hg1 : W.heap.size + 1 ≠ g := by have := HR1.out.lt; omega
      clear hb he hG hSl c0 c1 c2 c3 HC1 HR1
      obtain ⟨c0, c1, c2, c3⟩ := four_of HC2.out
      go_wp2_with fail
      refine (HCo.out _ (HLI.out.later HB2.out)).mono ?_
      rintro e V3 ⟨rfl, hb⟩
      obtain ⟨co, hco⟩ : ∃ co, coL L = co := ⟨_, rfl⟩
      rw [hco]
      have HK := hide hco
      have HR3 := hide (HR2.out.below hb)
      have HG3 := hide (HG2.out.below hb)
      have HB3 := hide (bel HB2.out hb)
      clear hb HR2 HC2 HB2 HG2 c0 c1 c2 c3 hco
      have hlt := HR3.out.lt
      obtain ⟨r0, r1, r2, r3, r4, r5⟩ := three_of HR3.out
      have h00 : (sgF f d L).1 = 0 := by rw [HX.out]
      by_cases hc : 200 < co
      · have HE := hide (vf_cost HZ.out h00 (by rw [HK.out]; exact hc))
        have hc2 : decide (200 < co) = true := by simpa using hc
        obtain ⟨hp, hpb⟩ := put_three HR3.out HB3.out (by omega) (.slice none 0 0) (.int .i64 0) (.int .i64 0)
        have P0 := hide (hp.alloc (.cells #[.slice (some ⟨g, 0, none⟩) n n, .int .i64 co, .int .i64 0] 39))
        have PB := hide (bel hpb (bel1 _ (.cells #[.slice (some ⟨g, 0, none⟩) n n, .int .i64 co, .int .i64 0] 39)))
        clear hp hpb h00 hc
        go_wp2_with fail
        have p0 := P0.out.cell 0 rfl
        have p1 := P0.out.cell 1 rfl
        have p2 := P0.out.cell 2 rfl
        exact bodyPost_ret (v := .tuple #[.agg rep0, .int .i64 14]) (by simp [results, Try.results7, go_sem, p0, p1, p2]) rfl (VfP.no HE.out (by decide) PB.out)
      · have HE := hide (vf_ok HZ.out h00 (by rw [HK.out]; exact hc))
        have hc2 : decide (200 < co) = false := by simpa using hc
        obtain ⟨hp, hpb⟩ := put_three HR3.out HB3.out (by omega) (.slice (some ⟨g, 0, none⟩) n n) (.int .i64 co) (.int .i64 0)
        have P0 := hide (hp.alloc (.cells #[.slice (some ⟨g, 0, none⟩) n n, .int .i64 co, .int .i64 0] 39))
        have PB := hide (bel hpb (bel1 _ (.cells #[.slice (some ⟨g, 0, none⟩) n n, .int .i64 co, .int .i64 0] 39)))
        have PG := hide ((other_three HG3.out (r := W.heap.size + 1) (fun e => hg1 e.symm) (.slice (some ⟨g, 0, none⟩) n n) (.int .i64 co) (.int .i64 0)).alloc (.cells #[.slice (some ⟨g, 0, none⟩) n n, .int .i64 co, .int .i64 0] 39))
        clear hp hpb h00 hc
        go_wp2_with fail
        have p0 := P0.out.cell 0 rfl
        have p1 := P0.out.cell 1 rfl
        have p2 := P0.out.cell 2 rfl
        exact bodyPost_ret (v := .tuple #[.agg #[.slice (some ⟨g, 0, none⟩) n n, .int .i64 co, .int .i64 0], .int .i64 0]) (by simp [results, Try.results7, go_sem, p0, p1, p2]) rfl (VfP.row HE.out HX.out HLn.out HK.out PG.out (by omega) PB.out)
  · have HE := hide (vf_may h0)
    have HN := hide h0
    have hne : (myE f d L out != 0) = true := by simpa using h0
    generalize myE f d L out = er at *
    clear h0
    go_enter Try.func7, Try.ntmps7
    go_wp2_with fail
    refine HM.out.mono ?_
    rintro e V1 ⟨rfl, hb⟩
    have HR1 := hide (HR0.out.below hb)
    have HB1 := hide (bel HB0.out hb)
    obtain ⟨r0, r1, r2, r3, r4, r5⟩ := three_of HR1.out
    clear hb
    go_wp2_with fail
    obtain ⟨hp, hpb⟩ := put_three HR1.out HB1.out (by omega) (.slice none 0 0) (.int .i64 0) (.int .i64 0)
    have p0 := hp.cell 0 rfl
    have p1 := hp.cell 1 rfl
    have p2 := hp.cell 2 rfl
    exact bodyPost_ret (v := .tuple #[.agg rep0, .int .i64 er]) (by simp [results, Try.results7, go_sem, p0, p1, p2]) rfl (VfP.no HE.out HN.out hpb)

end Go.Proofs.Vfy

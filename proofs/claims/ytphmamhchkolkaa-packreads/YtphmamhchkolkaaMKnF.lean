/-
  Lists of numbers in memory: what a slice of numbers reads as, and how that is carried from one state of memory to another.
-/
import Derived.Test.YtphmamhchkolkaaMKnInp
import Derived.Lib.QuietBelow
import Derived.BigQuiet
namespace Go.Proofs.Ytphmamhchkolkaa.Knd
open Go.RowKit
set_option linter.unusedVariables false

theorem info3 : (Try.prog.info? 3).map (fun i => (i.zero, i.size, i.bytes)) = some (some (.int .i64 0), 1, 8) := by kernel_rfl

abbrev i64s (xs : List Int) : List Value := xs.map (Value.int .i64)

/-- The slice (a, n, cap) reads as the numbers xs. -/
structure Ints (w : World) (a : Option Addr) (n cap : Nat) (xs : List Int) : Prop where
  len : xs.length = n
  le : n ≤ cap
  max : cap ≤ maxLen
  nil : a = none → cap = 0
  cell : n = 0 ∨ ∃ b off, a = some ⟨b, off, none⟩ ∧ ∀ i, i < n → w.cell? ⟨b, off + i, none⟩ = some (.int .i64 (xs.getD i 0))

theorem Ints.at {w : World} {a : Option Addr} {n cap : Nat} {xs : List Int} (h : Ints w a n cap xs) (hn : n ≠ 0) :
    ∃ b off, a = some ⟨b, off, none⟩ ∧ b < w.heap.size ∧ ∀ i, i < n → w.cell? ⟨b, off + i, none⟩ = some (.int .i64 (xs.getD i 0)) := by
  rcases h.cell with h0 | ⟨b, off, ha, hc⟩
  · exact absurd h0 hn
  · exact ⟨b, off, ha, World.block_lt_of_cell? w _ (hc 0 (by omega)), hc⟩

theorem Ints.of_cells {w w' : World} {a : Option Addr} {n cap : Nat} {xs : List Int} (h : Ints w a n cap xs)
    (hc : ∀ b off, a = some ⟨b, off, none⟩ → n ≠ 0 → ∀ i, i < n → w'.cell? ⟨b, off + i, none⟩ = w.cell? ⟨b, off + i, none⟩) : Ints w' a n cap xs := by
  refine ⟨h.len, h.le, h.max, h.nil, ?_⟩
  by_cases hn : n = 0
  · exact .inl hn
  · obtain ⟨b, off, ha, _, hcell⟩ := h.at hn
    exact .inr ⟨b, off, ha, fun i hi => (hc b off ha hn i hi).trans (hcell i hi)⟩

theorem Ints.later {w w' : World} {a : Option Addr} {n cap : Nat} {xs : List Int} (h : Ints w a n cap xs) (hb : Below w.heap.size w w') : Ints w' a n cap xs := by
  refine h.of_cells fun b off ha hn i hi => ?_
  obtain ⟨b', off', ha', hlt, _⟩ := h.at hn
  rw [ha] at ha'
  cases ha'
  exact hb.cell (p := ⟨b, off + i, none⟩) hlt

theorem Ints.of_owns {w : World} {base : Nat} {v : Value} {n : Nat} {xs : List Int} (h : w.ownsRow base 3 1 v n (i64s xs)) :
    ∃ a cap, v = .slice a n cap ∧ Ints w a n cap xs ∧ (∀ x, a = some x → base ≤ x.block ∧ x.block < w.heap.size) := by
  have hl : xs.length = n := by simpa using h.1
  have hlt := h.lt
  have hcs := fun g hg => h.cells (g := g) hg
  rcases h.2 with ⟨rfl, rfl⟩ | ⟨g, cap, cur, rfl, hb, hg, hnc, hcm, hsz, htake⟩
  · exact ⟨none, 0, rfl, ⟨hl, Nat.le_refl _, Nat.zero_le _, fun _ => rfl, .inl rfl⟩, fun x hx => by cases hx⟩
  · refine ⟨some ⟨g, 0, none⟩, cap, rfl, ⟨hl, hnc, hcm, (fun h => by cases h), .inr ⟨g, 0, rfl, fun i hi => ?_⟩⟩, fun x hx => by cases hx; exact hlt g rfl⟩
    have := hcs g rfl i (.int .i64 (xs.getD i 0)) (by simp [List.getD, hl, hi])
    rw [Addr.add_lit] at this
    exact this

theorem Ints.news {w : World} {a : Option Addr} {n cap : Nat} {xs : List Int} (h : Ints w a n cap xs) : ∀ ad, a = some ad → ∀ j u, (i64s xs)[j]? = some u → w.cell? (ad.add j) = some u := by
  intro ad ha j u hu
  have hj : j < n := by
    have := (List.getElem?_eq_some_iff.1 hu).1
    simpa [h.len] using this
  obtain ⟨b, off, ha', _, hc⟩ := h.at (by omega)
  rw [ha] at ha'
  cases ha'
  rw [Addr.add_lit, hc j hj]
  have hl := h.len
  simp only [i64s, List.getElem?_map] at hu
  rw [List.getElem?_eq_getElem (by omega)] at hu
  simp only [Option.map_some, Option.some.injEq] at hu
  rw [← hu]
  simp [List.getD, hl, hj]

theorem Ints.none {w : World} {n c : Nat} {xs : List Int} (h : Ints w none n c xs) : n = 0 ∧ c = 0 ∧ xs = [] := by
  have h1 := h.nil rfl
  have h2 := h.le
  have h3 := h.len
  exact ⟨by omega, h1, List.eq_nil_of_length_eq_zero (by omega)⟩

theorem one_news (w : World) (k : IntKind) (t : TypeId) (x : Int) : ∀ ad, some (⟨w.heap.size, 0, none⟩ : Addr) = some ad → ∀ j u, [Value.int k x][j]? = some u → (w.alloc (.cells #[.int k x] t)).cell? (ad.add j) = some u := by
  intro ad hh j u hu
  cases hh
  have hj : j = 0 := by
    by_cases hj : j = 0
    · exact hj
    · simp [hj] at hu
  subst hj
  simp at hu
  subst hu
  simp [Addr.add]
theorem one_one (k : IntKind) (x : Int) : ∀ u ∈ [Value.int k x], u.oneCell' = true := by simp [Value.oneCell']

theorem owns_alloc {w : World} {base e size n : Nat} {v : Value} {xs : List Value} (h : w.ownsRow base e size v n xs) (o : Obj) : (w.alloc o).ownsRow base e size v n xs := h.kept (World.grownBy_alloc w o none) (Decidable.em _)

end Go.Proofs.Ytphmamhchkolkaa.Knd

/-
  The walks of kind.lies and kind.Fits: which windows are a kind's.
-/
namespace Go.Proofs.Ytphmamhchkolkaa.Knd
open Go.RowKit Go.Sort
set_option linter.unusedVariables false

def Lies (f d i n : Int) : Prop := ∃ lo hi, inZ f d i = some (lo, hi) ∧ lo ≤ n ∧ n ≤ hi

/-- The window is one of the kind. -/
def Fit (f d x y c : Int) (zs : List Int) : Prop :=
  ((Lies f d 0 x ∧ Lies f d 1 y) ∧ Lies f d 2 c) ∧ (zs.length : Int) = countZ f d ∧ ∀ z ∈ zs, lowZ f d ≤ z ∧ z ≤ highZ f d

open Classical in
noncomputable def fitE (f d x y c : Int) (zs : List Int) : Int := if Fit f d x y c zs then 0 else 1

theorem factsW {W : World} {b : Nat} {t : TypeId} {x y c p : Value} (h : HasC W b t #[x, y, c, p]) : W.cell? ⟨b, 0, none⟩ = some x ∧ W.cell? ⟨b, 1, none⟩ = some y ∧ W.cell? ⟨b, 2, none⟩ = some c ∧ W.cell? ⟨b, 3, none⟩ = some p :=
  ⟨h.cell 0 rfl, h.cell 1 rfl, h.cell 2 rfl, h.cell 3 rfl⟩

theorem mixed' : Try.prog.follows .mixedOrders = true := by kernel_rfl

end Go.Proofs.Ytphmamhchkolkaa.Knd

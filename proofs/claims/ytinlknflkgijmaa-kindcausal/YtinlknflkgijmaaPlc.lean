/-
  The places of a kind, by their numbers: plain lists.
-/
import Derived.Test.YtinlknflkgijmaaBlocks
namespace Go.Proofs.Ytinlknflkgijmaa
open Go.RowKit
set_option linter.unusedVariables false

structure Plc where
  back : Int
  coords : Int
  x : Int
  y : Int
  deriving DecidableEq

def Blk.rows (b : Blk) : Nat := (b.y1 + 1 - b.y0).toNat
def Blk.cols (b : Blk) : Nat := (b.x1 + 1 - b.x0).toNat
def Blk.pls (b : Blk) : List Plc := (List.range b.rows).flatMap fun (t : Nat) => (List.range b.cols).map fun (s : Nat) => (⟨b.back, b.coords, b.x0 + (s : Int), b.y0 + (t : Int)⟩ : Plc)
def plsAll (l : List Blk) : List Plc := l.flatMap Blk.pls
/-- How many places the first j rectangles have. -/
def cnt (l : List Blk) (j : Nat) : Nat := (plsAll (l.take j)).length
/-- The places of a kind. -/
def plcs (f d : Int) : List Plc := plsAll (blks f d)

theorem range_flat_len (n m : Nat) (g : Nat → List Plc) (h : ∀ t, (g t).length = m) : ((List.range n).flatMap g).length = n * m := by
  induction n with
  | zero => simp
  | succ n ih => rw [List.range_succ, List.flatMap_append, List.length_append, ih]; simp [h, Nat.succ_mul]

theorem range_flat_at (n m : Nat) (g : Nat → List Plc) (h : ∀ t, (g t).length = m) (t s : Nat) (ht : t < n) (hs : s < m) : ((List.range n).flatMap g)[t * m + s]? = (g t)[s]? := by
  induction n with
  | zero => omega
  | succ n ih =>
    rw [List.range_succ, List.flatMap_append]
    have hl := range_flat_len n m g h
    by_cases e : t < n
    · have : t * m + s < n * m := by
        have : (t + 1) * m ≤ n * m := Nat.mul_le_mul_right m e
        rw [Nat.succ_mul] at this; omega
      rw [List.getElem?_append_left (by omega)]
      exact ih e
    · obtain rfl : t = n := by omega
      rw [List.getElem?_append_right (by omega), hl]
      simp [Nat.add_sub_cancel_left]

theorem Blk.pls_len (b : Blk) : b.pls.length = b.rows * b.cols := range_flat_len _ _ _ (by simp)
theorem Blk.pls_at (b : Blk) (t s : Nat) (ht : t < b.rows) (hs : s < b.cols) : b.pls[t * b.cols + s]? = some ⟨b.back, b.coords, b.x0 + (s : Int), b.y0 + (t : Int)⟩ := by
  rw [Blk.pls, range_flat_at _ _ _ (by simp) t s ht hs]
  simp [hs]

theorem cnt_succ (l : List Blk) (j : Nat) (h : j < l.length) : cnt l (j + 1) = cnt l j + l[j].rows * l[j].cols := by
  unfold cnt plsAll
  rw [List.take_succ_eq_append_getElem h, List.flatMap_append, List.length_append]
  simp [Blk.pls_len]

theorem cnt_all (l : List Blk) : cnt l l.length = (plsAll l).length := by unfold cnt; rw [List.take_length]

theorem cnt_mono (l : List Blk) (j : Nat) (h : j ≤ l.length) : cnt l j ≤ (plsAll l).length := by
  unfold cnt plsAll
  conv => rhs; rw [← List.take_append_drop j l]
  rw [List.flatMap_append, List.length_append]; omega

theorem plsAll_at (l : List Blk) (j t s : Nat) (h : j < l.length) (ht : t < l[j].rows) (hs : s < l[j].cols) :
    (plsAll l)[cnt l j + (t * l[j].cols + s)]? = some ⟨l[j].back, l[j].coords, l[j].x0 + (s : Int), l[j].y0 + (t : Int)⟩ := by
  have e0 : l = l.take j ++ (l[j] :: l.drop (j + 1)) := by rw [← List.drop_eq_getElem_cons h, List.take_append_drop]
  have e : plsAll l = plsAll (l.take j) ++ (l[j].pls ++ plsAll (l.drop (j + 1))) := (congrArg plsAll e0).trans (by simp only [plsAll, List.flatMap_append, List.flatMap_cons])
  have hlt : t * l[j].cols + s < l[j].pls.length := by
    rw [Blk.pls_len]
    have : (t + 1) * l[j].cols ≤ l[j].rows * l[j].cols := Nat.mul_le_mul_right _ ht
    rw [Nat.succ_mul] at this; omega
  rw [e, List.getElem?_append_right (by unfold cnt; omega)]
  unfold cnt
  rw [Nat.add_sub_cancel_left, List.getElem?_append_left hlt]
  exact Blk.pls_at _ t s ht hs

theorem bcells_at (l : List Blk) (j i : Nat) (h : j < l.length) (hi : i < 6) : (bcells l)[j * 6 + i]? = l[j].cells[i]? := by
  induction l generalizing j with
  | nil => simp at h
  | cons b l ih =>
    have hb : b.cells.length = 6 := rfl
    have e : bcells (b :: l) = b.cells ++ bcells l := by simp [bcells]
    cases j with
    | zero => rw [e, List.getElem?_append_left (by omega)]; simp
    | succ j =>
      rw [e, List.getElem?_append_right (by omega), hb, show (j + 1) * 6 + i - 6 = j * 6 + i by omega]
      exact ih j (by simpa using h)

/-- The first k numbers. -/
def upto (k : Nat) : List (Fin 64) := (List.finRange 64).take k

theorem upto_len (k : Nat) (h : k ≤ 64) : (upto k).length = k := by simp [upto]; omega
theorem upto_succ (k : Nat) (h : k < 64) : upto (k + 1) = upto k ++ [⟨k, h⟩] := by
  unfold upto
  rw [List.take_succ_eq_append_getElem (by simpa using h)]
  simp
theorem upto_mem (k : Nat) (i : Fin 64) : i ∈ upto k ↔ i.val < k := by
  unfold upto
  rw [List.mem_take_iff_getElem]
  constructor
  · rintro ⟨j, hj, rfl⟩
    simp at hj ⊢
    omega
  · intro h
    exact ⟨i.val, by simp; omega, by simp⟩

/-- What the rectangles of every kind keep to. -/
theorem blks_bound (f d : Int) : (plcs f d).length < 64 ∧ (blks f d).length ≤ 5 ∧ ∀ b ∈ blks f d, 0 ≤ b.back ∧ b.back ≤ 3 ∧ -16 ≤ b.x0 ∧ b.x0 ≤ b.x1 ∧ b.x1 ≤ 3 ∧ -2 ≤ b.y0 ∧ b.y0 ≤ b.y1 ∧ b.y1 ≤ 1 := by
  unfold plcs
  rcases kind3 f d with ⟨hm, rfl⟩ | ⟨hm, rfl⟩ | hm
  · have e : blks 0 d = imageB := by simp [blks, hm]
    rw [e]; decide
  · have e : blks 1 d = soundB := by simp [blks, hm]
    rw [e]; decide
  · have e : blks f d = [] := by simp [blks, hm]
    rw [e]; decide

theorem plcs_len (f d : Int) : ((plcs f d).length : Int) = countZ f d := by
  unfold plcs
  rcases kind3 f d with ⟨hm, rfl⟩ | ⟨hm, rfl⟩ | hm
  · have e : blks 0 d = imageB := by simp [blks, hm]
    rw [e, (zs0 hm).2.2.2]; decide
  · have e : blks 1 d = soundB := by simp [blks, hm]
    rw [e, (zs1 hm).2.2.2]; decide
  · have e : blks f d = [] := by simp [blks, hm]
    rw [e, (zs2 hm).2.2.2]; decide

end Go.Proofs.Ytinlknflkgijmaa

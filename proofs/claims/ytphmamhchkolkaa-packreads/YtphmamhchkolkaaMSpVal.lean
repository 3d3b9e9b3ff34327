/-
  arith.Value: what it answers, for every operator, every constants and every list of numbers; memory stays.
-/
import Derived.Test.YtphmamhchkolkaaMSpA
import Derived.LoopTactic
namespace Go.Proofs.Ytphmamhchkolkaa.Spn
open Go.RowKit Go.IntWalk
set_option linter.unusedVariables false

theorem one_cases {op : Int} (h : ar op = 1) : op = 5 ∨ op = 6 ∨ op = 7 ∨ op = 29 ∨ op = 30 ∨ op = 31 ∨ op = 32 ∨ op = 33 := by
  unfold ar at h
  split at h
  · omega
  · split at h
    · rename_i h2
      rw [inB_iff, inB_iff] at h2
      omega
    · split at h
      · omega
      · split at h <;> omega
theorem two_cases {op : Int} (h : ar op = 2) : inB op 8 25 = true := by
  unfold ar at h
  split at h
  · omega
  · split at h
    · omega
    · split at h
      · assumption
      · split at h <;> omega
theorem three_cases {op : Int} (h : ar op = 3) : inB op 26 28 = true := by
  unfold ar at h
  split at h
  · omega
  · split at h
    · omega
    · split at h
      · omega
      · split at h
        · assumption
        · omega
theorem ar_le (op : Int) : ar op ≤ 3 := by
  unfold ar
  split
  · omega
  · split
    · omega
    · split
      · omega
      · split <;> omega

/-- The slice (a, n, cap) reads as the numbers xs. -/
structure Ints (w : World) (a : Option Addr) (n cap : Nat) (xs : List Int) : Prop where
  len : xs.length = n
  le : n ≤ cap
  max : cap ≤ maxLen
  nil : a = none → cap = 0
  cell : n = 0 ∨ ∃ b off, a = some ⟨b, off, none⟩ ∧ ∀ i, i < n → w.cell? ⟨b, off + i, none⟩ = some (.int .i64 (xs.getD i 0))

theorem Ints.at {w : World} {a : Option Addr} {n cap : Nat} {xs : List Int} (h : Ints w a n cap xs) (hn : n ≠ 0) :
    ∃ b off, a = some ⟨b, off, none⟩ ∧ b < w.heap.size ∧ ∀ i, i < n → w.cell? ⟨b, off + i, none⟩ = some (.int .i64 (xs.getD i 0)) := by
  rcases h.cell with h0 | ⟨b, off, ha, hc⟩
  · exact absurd h0 hn
  · exact ⟨b, off, ha, World.block_lt_of_cell? w _ (hc 0 (by omega)), hc⟩

theorem Ints.of_cells {w w' : World} {a : Option Addr} {n cap : Nat} {xs : List Int} (h : Ints w a n cap xs)
    (hc : ∀ b off, a = some ⟨b, off, none⟩ → n ≠ 0 → ∀ i, i < n → w'.cell? ⟨b, off + i, none⟩ = w.cell? ⟨b, off + i, none⟩) : Ints w' a n cap xs := by
  refine ⟨h.len, h.le, h.max, h.nil, ?_⟩
  by_cases hn : n = 0
  · exact .inl hn
  · obtain ⟨b, off, ha, _, hcell⟩ := h.at hn
    exact .inr ⟨b, off, ha, fun i hi => (hc b off ha hn i hi).trans (hcell i hi)⟩

theorem Ints.later {w w' : World} {a : Option Addr} {n cap : Nat} {xs : List Int} (h : Ints w a n cap xs) (hb : Below w.heap.size w w') : Ints w' a n cap xs := by
  refine h.of_cells fun b off ha hn i hi => ?_
  obtain ⟨b', off', ha', hlt, _⟩ := h.at hn
  rw [ha] at ha'
  cases ha'
  exact hb.cell (p := ⟨b, off + i, none⟩) hlt

def mayB (op k s : Int) (xs : List Int) : Bool := decide (1 ≤ ar op) && decide ((xs.length : Int) = ar op) && cons op k s && xs.all wd

theorem all_take_succ {xs : List Int} {k : Nat} (hk : k < xs.length) (h : (xs.take k).all wd = true) (e : wd (xs.getD k 0) = true) : (xs.take (k + 1)).all wd = true := by
  rw [List.take_succ_eq_append_getElem hk, List.all_append, h]
  simp [List.getD, hk] at e
  simp [e]

end Go.Proofs.Ytphmamhchkolkaa.Spn

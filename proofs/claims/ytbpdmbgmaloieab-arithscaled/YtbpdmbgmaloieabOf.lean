/-
  Calls of arith.Value over numbers written out; the law's own helper 'of' (a value that there must be).
-/
import Derived.Test.YtbpdmbgmaloieabValue
namespace Go.Proofs.Ytbpdmbgmaloieab
open Go.RowKit Go.IntWalk
set_option linter.unusedVariables false

theorem may1 {op k s a : Int} (h : ar op = 1) (hc : cons op k s = true) (ha : -2147483648 ≤ a ∧ a ≤ 2147483647) : mayB op k s [a] = true := by
  simp [mayB, h, hc, wd_iff.2 ha]
theorem may2 {op k s a b : Int} (h : ar op = 2) (hc : cons op k s = true) (ha : -2147483648 ≤ a ∧ a ≤ 2147483647) (hb : -2147483648 ≤ b ∧ b ≤ 2147483647) : mayB op k s [a, b] = true := by
  simp [mayB, h, hc, wd_iff.2 ha, wd_iff.2 hb]
theorem may3 {op k s a b c : Int} (h : ar op = 3) (hc : cons op k s = true) (ha : -2147483648 ≤ a ∧ a ≤ 2147483647) (hb : -2147483648 ≤ b ∧ b ≤ 2147483647) (hc' : -2147483648 ≤ c ∧ c ≤ 2147483647) : mayB op k s [a, b, c] = true := by
  simp [mayB, h, hc, wd_iff.2 ha, wd_iff.2 hb, wd_iff.2 hc']

theorem val_ok {op k s : Int} {xs : List Int} {x : Int} (hm : mayB op k s xs = true) (he : ex op k s (xs.getD 0 0) (xs.getD 1 0) (xs.getD 2 0) = (x, 0)) (hx : -2147483648 ≤ x ∧ x ≤ 2147483647) : valZ op k s xs = (x, 0) := by
  unfold valZ
  rw [if_pos hm, he, if_pos rfl, if_pos (wd_iff.2 hx)]
theorem val_big {op k s : Int} {xs : List Int} {x : Int} (hm : mayB op k s xs = true) (he : ex op k s (xs.getD 0 0) (xs.getD 1 0) (xs.getD 2 0) = (x, 0)) (hx : ¬ (-2147483648 ≤ x ∧ x ≤ 2147483647)) : valZ op k s xs = (0, 13) := by
  unfold valZ
  rw [if_pos hm, he, if_pos rfl, if_neg (fun h => hx (wd_iff.1 h))]
theorem val_err {op k s : Int} {xs : List Int} {x e : Int} (hm : mayB op k s xs = true) (he : ex op k s (xs.getD 0 0) (xs.getD 1 0) (xs.getD 2 0) = (x, e)) (hx : e ≠ 0) : valZ op k s xs = (0, e) := by
  unfold valZ
  rw [if_pos hm, he, if_neg hx]

theorem vl1 {op k s a x e : Int} (hv : valZ op k s [a] = (x, e)) (w : World) (t : TypeId) :
    Calls Try.prog 4 #[.int .i64 op, .int .i64 k, .int .i64 s, .slice (some ⟨w.heap.size, 0, none⟩) 1 1] (w.alloc (.cells #[.int .i64 a] t)) fun r w' => r = .returned (.tuple #[.int .i64 x, .int .i64 e]) ∧ Below w.heap.size w w' := by
  have h := value_any op k s _ _ _ _ _ (lit1 w t a)
  rw [hv] at h
  exact h.mono fun r w' ⟨h1, h2⟩ => ⟨h1, bel (bel1 w _) h2⟩
theorem vl2 {op k s a b x e : Int} (hv : valZ op k s [a, b] = (x, e)) (w : World) (t : TypeId) :
    Calls Try.prog 4 #[.int .i64 op, .int .i64 k, .int .i64 s, .slice (some ⟨w.heap.size, 0, none⟩) 2 2] (w.alloc (.cells #[.int .i64 a, .int .i64 b] t)) fun r w' => r = .returned (.tuple #[.int .i64 x, .int .i64 e]) ∧ Below w.heap.size w w' := by
  have h := value_any op k s _ _ _ _ _ (lit2 w t a b)
  rw [hv] at h
  exact h.mono fun r w' ⟨h1, h2⟩ => ⟨h1, bel (bel1 w _) h2⟩

theorem wd16 {a : Int} (h : -32768 ≤ a ∧ a ≤ 32767) : -2147483648 ≤ a ∧ a ≤ 2147483647 := ⟨by omega, by omega⟩

end Go.Proofs.Ytbpdmbgmaloieab

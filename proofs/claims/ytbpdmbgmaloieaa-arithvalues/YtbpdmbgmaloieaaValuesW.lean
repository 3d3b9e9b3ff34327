/-
  The walk of ArithValues.
-/
import Derived.Test.YtbpdmbgmaloieaaRefF
import Derived.Test.YtbpdmbgmaloieaaApp
namespace Go.Proofs.Ytbpdmbgmaloieaa
open Go.RowKit Go.IntWalk
set_option linter.unusedVariables false

set_option maxRecDepth 100000 in
set_option maxHeartbeats 4000000 in
theorem values_walk (op k s : Int) (a : Option Addr) (n c : Nat) (xs : List Int) (w : World) (hI : Ints w a n c xs) (hsum : n * 8 ≤ 140737488355328) :
    Calls Try.prog 4 #[.int .i64 op, .int .i64 k, .int .i64 s, .slice a n c] w fun e w' => e = .returned (.bool true) ∧ Below w.heap.size w w' := by
  obtain ⟨i0, hi, hz0, hz1, hz2⟩ := info_parts info3
  have hbel : Below w.heap.size w (w.alloc (.cells #[] 3)) := bel1 w _
  have HBel := hide hbel
  have HN := hide (hI.later hbel).news
  have hl : (i64s xs).length = n * 1 := by simpa using hI.len
  have hnone : a = none → n = 0 ∧ c = 0 := fun h => by have h1 := hI.nil h; have h2 := hI.le; omega
  have HO : Hid ((w.alloc (.cells #[] 3)).ownsRow w.heap.size 3 1 (.slice (some ⟨w.heap.size, 0, none⟩) 0 0) 0 []) := hide ⟨rfl, .inr ⟨w.heap.size, 0, #[], rfl, Nat.le_refl _, heap_alloc_new w _, Nat.le_refl _, Nat.zero_le _, rfl, rfl⟩⟩
  have HI := hide hI
  have HNO := hide hnone
  have HL := hide hl
  clear hbel hI hnone hl
  go_enter Try.func4, Try.ntmps4
  go_wp2_with (at_builtin; refine wpList_append_kept _ rfl _ _ 26 rfl w.heap.size 3 i0 (.int .i64 0) 8 Try.underlying26 hi hz0 hz1 hz2 rfl (.slice (some ⟨w.heap.size, 0, none⟩) 0 0) 0 [] rfl HO.out a n c (i64s xs) rfl HL.out HNO.out HN.out (ints_oneCell _ _) (by unfold maxLen; omega) (by omega) (by simp) ?_; intro v' w2 hown' hgr0; have hgr := hide hgr0; clear hgr0)
  have hm1 : n ≤ 9223372036854775807 := by omega
  have hO2 : w2.ownsRow w.heap.size 3 1 v' n (i64s xs) := by simpa using hown'
  have HB2 : Hid (Below w.heap.size w w2) := hide (by
    rcases hgr.out with ⟨g, cap, hv, hv', hg⟩ | ⟨hg, _⟩
    · simp only [Value.slice.injEq, Option.some.injEq, Addr.mk.injEq, and_true] at hv
      exact HBel.out.grown hg HBel.out.size (fun k h => by cases h; omega)
    · exact HBel.out.grown hg HBel.out.size (fun k h => by cases h))
  obtain ⟨a', c', rfl, hJ, -⟩ := Ints.of_owns hO2
  have HJ := hide hJ
  have HI2 := hide (HI.out.later HB2.out)
  clear hown' hgr hO2 hJ HBel HN HO HI HNO HL hi hz0 hz1 hz2 hsum
  obtain ⟨⟨zx, zy⟩, hZ⟩ : ∃ Z, valZ op k s xs = Z := ⟨_, rfl⟩
  have HZ := hide hZ
  clear hZ
  have CV := value_any op k s a' n c' xs w2 HJ.out
  rw [HZ.out] at CV
  refine CV.mono ?_
  clear CV
  rintro e w3 ⟨rfl, hb3⟩
  have HJ3 := hide (HJ.out.later hb3)
  have HI3 := hide (HI2.out.later hb3)
  have HB3 := hide (bel HB2.out hb3)
  clear hb3 HJ HI2 HB2
  go_wp2_with fail
  have CR := rvalue_any op k s a n c xs w3 HI3.out
  rw [HZ.out] at CR
  refine CR.mono ?_
  clear CR
  rintro e w4 ⟨rfl, hw4⟩
  subst hw4
  go_wp2_with fail
  refine (awake_any _).mono ?_
  rintro e w5 ⟨rfl, hb5⟩
  have HJ5 := hide (HJ3.out.later hb5)
  have HI5 := hide (HI3.out.later hb5)
  have HB5 := hide (bel HB3.out hb5)
  clear hb5 HJ3 HI3 HB3 HZ
  go_wp2_with fail
  go_loopw [14] (fun i wr => ∃ j q : Nat, j ≤ n ∧ i = .int .i64 j ∧ wr = w5.drewN q) (fun i _ => n - (intOf i).toNat)
  case atStart => exact ⟨0, 0, Nat.zero_le _, rfl, rfl⟩
  case round =>
    obtain ⟨j, q, hj, rfl, rfl⟩ := hrel
    by_cases hlt : j < n
    · obtain ⟨b1, o1, rfl, -, hc1⟩ := HI5.out.at (by omega)
      obtain ⟨b2, o2, rfl, -, hc2⟩ := HJ5.out.at (by omega)
      have g1 := hc1 j hlt
      have g2 := hc2 j hlt
      clear hc1 hc2
      generalize xs.getD j 0 = x at *
      go_wp2_with fail
      go_quiet (fail)
      go_wp2_with fail
      go_roundw
      case rel => exact ⟨j + 1, _, by omega, by go_num, rfl⟩
      case measure => simp [intOf]; omega
    · go_wp2_with fail
      go_ret
      exact ⟨rfl, bdrew HB5.out _⟩

end Go.Proofs.Ytbpdmbgmaloieaa

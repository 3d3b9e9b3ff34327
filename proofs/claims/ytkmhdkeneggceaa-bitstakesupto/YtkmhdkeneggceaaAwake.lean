/-
  The walk of awake: five bits that the document names.
-/
import Derived.Test.YtkmhdkeneggceaaSame
namespace Go.Proofs.Ytkmhdkeneggceaa
open Go.RowKit Bt
set_option linter.unusedVariables false

theorem b0_pack : pack (([] ++ binw 5 3) ++ runs 1 20) = [176] := by decide

theorem one_byte (w : World) (x : Int) (h0 : 0 ≤ x) (h1 : x ≤ 255) : Bytes (w.alloc (.cells #[.int .u8 x] 5)) (some ⟨w.heap.size, 0, none⟩) 1 1 [x] :=
  ⟨rfl, Nat.le_refl _, by decide, (fun h => by cases h), fun z hz => by simp at hz; subst hz; exact ⟨h0, h1⟩, .inr ⟨w.heap.size, 0, rfl, fun i hi => by
    have : i = 0 := by omega
    subst this
    simp⟩⟩

set_option maxHeartbeats 1000000 in
theorem awake_any (w : World) : Calls Try.prog 9 #[] w fun e w' => e = .returned (.bool true) ∧ Below w.heap.size w w' := by
  go_enter Try.func9, Try.ntmps9
  go_wp2_with fail
  refine (new_any w.heap.size w (Nat.le_refl _)).mono ?_
  rintro e w1 ⟨rfl, hW1, hb1⟩
  have HW1 := hide hW1
  have HB1 := hide hb1
  clear hW1 hb1
  go_wp2_with fail
  refine (put_ok w.heap.size _ _ _ 5 3 w1 HW1.out (by decide) (by decide) (by decide) (by decide)).mono ?_
  rintro e w2 ⟨rfl, v2, hW2, hG2⟩
  have HB2 := hide (HB1.out.trans (hG2.below HW1.out))
  have HW2 := hide hW2
  clear hW2 hG2 HB1 HW1
  go_wp2_with fail
  refine (ones_ok w.heap.size _ _ _ 1 20 w2 HW2.out (by decide) (by decide) (by decide)).mono ?_
  rintro e w3 ⟨rfl, v3, hW3, hG3⟩
  have HB3 := hide (HB2.out.trans (hG3.below HW2.out))
  have HW3 := hide hW3
  clear hW3 hG3 HB2 HW2
  go_wp2_with fail
  refine (len_any w.heap.size _ _ _ w3 HW3.out).mono ?_
  rintro e w4 ⟨rfl, rfl⟩
  have hl5 : (([] ++ binw 5 3) ++ runs 1 20).length = 5 := by decide
  rw [hl5]
  go_wp2_with fail
  refine (wbytes_any w.heap.size _ _ _ w4 HW3.out (by decide)).mono ?_
  rintro e w5 ⟨v5, rfl, ho5, hb5⟩
  rw [b0_pack] at ho5
  have HB5 := hide (HB3.out.trans (hb5.mono HB3.out.size))
  obtain ⟨a5, c5, rfl, hy5, _⟩ := Bytes.of_owns ho5 (by decide)
  have HY5 := hide (hy5.later ((Below.refl _ _).alloc (Nat.le_refl _) (.cells #[.int .u8 176] 5)))
  have HY6 := hide (one_byte w5 176 (by decide) (by decide))
  have HB6 := hide (HB5.out.alloc HB5.out.size (.cells #[.int .u8 176] 5))
  clear ho5 hb5 hy5 HB3 HB5
  go_wp2_with fail
  refine (same_self a5 _ _ _ c5 _ _ _ HY5.out HY6.out).mono ?_
  rintro e w7 ⟨rfl, q, rfl⟩
  have HB7 := hide (below_drewN HB6.out q)
  go_wp2_with fail
  go_ret
  exact ⟨rfl, HB7.out⟩

end Go.Proofs.Ytkmhdkeneggceaa

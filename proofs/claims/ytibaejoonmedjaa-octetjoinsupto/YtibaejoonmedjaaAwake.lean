/-
  The walk of damasklaw01.awake: the bytes that the document names.
-/
import Derived.Test.YtibaejoonmedjaaReader
namespace Go.Proofs.Ytibaejoonmedjaa
open Go.RowKit Oct
set_option linter.unusedVariables false

/-- Two bytes that have just been laid in a new block. -/
theorem bytes_lit2 (w : World) (x y : Int) (hx : 0 ≤ x ∧ x ≤ 255) (hy : 0 ≤ y ∧ y ≤ 255) : Bytes (w.alloc (.cells #[.int .u8 x, .int .u8 y] 5)) (some ⟨w.heap.size, 0, none⟩) 2 2 [x, y] := by
  refine ⟨rfl, Nat.le_refl _, by decide, (fun h => by cases h), ?_, .inr ⟨w.heap.size, 0, rfl, fun i hi => ?_⟩⟩
  · intro z hz; simp at hz; rcases hz with rfl | rfl
    · exact hx
    · exact hy
  · match i, hi with
    | 0, _ => simp
    | 1, _ => simp
theorem bytes_lit1 (w : World) (x : Int) (hx : 0 ≤ x ∧ x ≤ 255) : Bytes (w.alloc (.cells #[.int .u8 x] 5)) (some ⟨w.heap.size, 0, none⟩) 1 1 [x] := by
  refine ⟨rfl, Nat.le_refl _, by decide, (fun h => by cases h), ?_, .inr ⟨w.heap.size, 0, rfl, fun i hi => ?_⟩⟩
  · intro z hz; simp at hz; subst hz; exact hx
  · match i, hi with
    | 0, _ => simp

theorem below_alloc (w : World) (o : Obj) : Below w.heap.size w (w.alloc o) := (Below.refl _ _).alloc (Nat.le_refl _) o
theorem below_grown {w w' : World} {B r : Nat} (h : w.grownBy w' (some r)) (hr : B ≤ r) (hB : B ≤ w.heap.size) : Below B w w' := (Below.refl _ _).grown h hB (fun k e => by cases e; exact hr)

theorem fact300 : vint 300 = [172, 2] := by decide
theorem factm1 : vint (zz (-1)) = [1] := by decide
theorem factrd : rdU [172, 2] = (300, 2, 0) := by decide

set_option maxHeartbeats 1000000 in
theorem awake_any (w : World) : Calls Try.prog 11 #[] w fun e w' => e = .returned (.bool true) ∧ Below w.heap.size w w' := by
  go_enter Try.func11, Try.ntmps11
  go_wp2_with fail
  refine (uint_any 300 _ (by decide) (by decide)).mono ?_
  rintro e w1 ⟨v1, rfl, hown1, hb1⟩
  rw [fact300] at hown1
  obtain ⟨a1, c1, rfl, hB1, hA1⟩ := Bytes.of_owns hown1 (by decide)
  have HA1 : Hid (∀ x, a1 = some x → w.heap.size ≤ x.block ∧ x.block < w1.heap.size) := hA1
  clear hA1
  have HB1 : Hid (Below w.heap.size w w1) := hb1
  have HS1 : Hid (Bytes w1 a1 2 c1 [172, 2]) := hB1
  clear hb1 hB1 hown1
  go_wp2_with fail
  refine (new_any (some ⟨w1.heap.size, 0, none⟩) 2 2 [172, 2] _ (bytes_lit2 w1 172 2 (by decide) (by decide)) (by decide)).mono ?_
  rintro e w2 ⟨r, g, rfl, hR, hr, hg, hr2, hb2⟩
  have HB2 : Hid (Below w.heap.size w w2) := (HB1.out.trans ((below_alloc w1 _).trans (hb2.mono (by simp)) |>.mono HB1.out.size))
  have HS2 : Hid (Bytes w2 a1 2 c1 [172, 2]) := (HS1.out.later (below_alloc w1 _)).later hb2
  have hrw : w.heap.size ≤ r := by have := HB1.out.size; simp at hr; omega
  have HR : Hid (Rd w2 r g [172, 2]) := hR
  have HRn : Hid (w1.heap.size + 1 ≤ r) := by show _ ≤ _; simp at hr; omega
  clear hR hb2 hr hg HS1
  go_wp2_with fail
  refine (rUint_any r g [172, 2] _ HR.out).mono ?_
  rw [factrd]
  rintro e w3 ⟨rfl, hR3, hg3⟩
  have hw2 : w.heap.size ≤ w2.heap.size := HB2.out.size
  have HB3 : Hid (Below w.heap.size w w3) := HB2.out.trans (below_grown hg3 hrw hw2)
  have HS3 : Hid (Bytes w3 a1 2 c1 [172, 2]) := HS2.out.kept hg3 (fun x hx _ e => by
    have h1 := (HA1.out x hx).2
    have h2 := HRn.out
    simp at e
    omega)
  have hw3 : w.heap.size ≤ w3.heap.size := HB3.out.size
  clear hR3 hg3 HS2 HR hrw hr2 HRn
  go_wp2_with fail
  refine (same_any a1 (some ⟨w3.heap.size, 0, none⟩) 2 2 c1 2 [172, 2] [172, 2] _ (HS3.out.later (below_alloc w3 _)) (bytes_lit2 w3 172 2 (by decide) (by decide))).mono ?_
  rintro e w4 ⟨rfl, q, rfl⟩
  go_wp2_with fail
  refine (int_any (-1) _ (by decide) (by decide)).mono ?_
  rintro e w5 ⟨v5, rfl, hown5, hb5⟩
  rw [factm1] at hown5
  obtain ⟨a5, c5, rfl, hB5, _⟩ := Bytes.of_owns hown5 (by decide)
  have HB5 : Hid (Below w.heap.size w w5) := (HB3.out.trans ((below_drewN (below_alloc w3 _) q).mono hw3)).trans (hb5.mono (by simp; omega))
  have HS5 : Hid (Bytes w5 a5 1 c5 [1]) := hB5
  have hw5 : w.heap.size ≤ w5.heap.size := HB5.out.size
  clear hown5 hb5 hB5 HS3
  go_wp2_with fail
  refine (same_any a5 (some ⟨w5.heap.size, 0, none⟩) 1 1 c5 1 [1] [1] _ (HS5.out.later (below_alloc w5 _)) (bytes_lit1 w5 1 (by decide))).mono ?_
  rintro e w6 ⟨rfl, q2, rfl⟩
  go_wp2_with fail
  go_ret
  exact ⟨rfl, below_drewN (HB5.out.alloc hw5 _) q2⟩

end Go.Proofs.Ytibaejoonmedjaa

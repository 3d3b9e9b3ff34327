/-
  The walks of the document's own Ints, Roomy and Held: two lists of numbers alike; a list in memory of its own with marks in the room behind it, and whether it is as it was.
-/
import Derived.Test.YtbingoelpeoimaaGreatMKnF
import Derived.Deep.QuietTactic
import Derived.BigQuiet
import Derived.OwnWalk
import Derived.Maps.AppendAt
namespace Go.Proofs.YtbingoelpeoimaaGreat.Knd
open Go.RowKit
set_option linter.unusedVariables false

theorem take_succ_iff {z1 z2 : List Int} {k : Nat} (h1 : k < z1.length) (h2 : k < z2.length) (h : z1.take k = z2.take k) (e : z1.getD k 0 = z2.getD k 0) : z1.take (k + 1) = z2.take (k + 1) := by
  rw [List.take_succ_eq_append_getElem h1, List.take_succ_eq_append_getElem h2, h]
  simp [List.getD, h1, h2] at e
  rw [e]

set_option maxRecDepth 100000 in
set_option maxHeartbeats 800000 in
theorem sameI_any (a1 a2 : Option Addr) (n1 n2 c1 c2 : Nat) (z1 z2 : List Int) (w : World) (h1 : Ints w a1 n1 c1 z1) (h2 : Ints w a2 n2 c2 z2) :
    Calls Tryz.prog 9 #[.slice a1 n1 c1, .slice a2 n2 c2] w fun e w' => e = .returned (.bool (decide (z1 = z2))) ∧ ∃ q, w' = w.drewN q := by
  have hm1 : n1 ≤ 9223372036854775807 := by have := h1.le; have := h1.max; unfold maxLen at this; omega
  have hl1 := h1.len
  have hl2 := h2.len
  have HL1 : Hid (z1.length = n1) := hl1
  have HL2 : Hid (z2.length = n2) := hl2
  by_cases hne : n1 = n2
  · subst hne
    clear hl1 hl2
    go_enter Tryz.func9, Tryz.ntmps9
    go_wp2_with fail
    go_loopw [5] (fun i wr => ∃ k q : Nat, k ≤ n1 ∧ i = .int .i64 k ∧ z1.take k = z2.take k ∧ wr = w.drewN q) (fun i _ => n1 - (intOf i).toNat)
    case atStart => exact ⟨0, 0, Nat.zero_le _, rfl, by simp, rfl⟩
    case round =>
      obtain ⟨k, q, hk, rfl, htk, rfl⟩ := hrel
      have HT : Hid (z1.take k = z2.take k) := htk
      clear htk
      by_cases hlt : k < n1
      · obtain ⟨b1, o1, rfl, _, hc1⟩ := h1.at (by omega)
        obtain ⟨b2, o2, rfl, _, hc2⟩ := h2.at (by omega)
        have g1 := hc1 k hlt
        have g2 := hc2 k hlt
        clear hc1 hc2
        generalize ea : z1.getD k 0 = x at g1
        generalize eb : z2.getD k 0 = y at g2
        have EA : Hid (z1.getD k 0 = x) := ea
        have EB : Hid (z2.getD k 0 = y) := eb
        clear ea eb
        go_wp2_with fail
        go_quiet (fail)
        go_wp2_with fail
        · have hxy : x ≠ y := by simpa using (show (x != y) = true by assumption)
          go_ret
          refine ⟨?_, _, World.drewN_drewN ..⟩
          have hz : ¬ z1 = z2 := fun e => hxy (by rw [← EA.out, ← EB.out, e])
          simp [hz]
        · have hxy : x = y := by simpa using (show (x != y) = false by assumption)
          go_roundw
          case rel => exact ⟨k + 1, _, by omega, by go_num, take_succ_iff (by rw [HL1.out]; exact hlt) (by rw [HL2.out]; exact hlt) HT.out (by rw [EA.out, EB.out, hxy]), rfl⟩
          case measure => simp [intOf]; omega
      · go_wp2_with fail
        go_ret
        refine ⟨?_, _, rfl⟩
        have hz : z1 = z2 := by
          have h := HT.out
          rw [List.take_of_length_le (by rw [HL1.out]; omega), List.take_of_length_le (by rw [HL2.out]; omega)] at h
          exact h
        simp [hz]
  · have hne' : ((n1 : Int) != (n2 : Int)) = true := by simp; omega
    go_enter Tryz.func9, Tryz.ntmps9
    go_wp2_with fail
    go_ret
    refine ⟨?_, 0, rfl⟩
    have hz : ¬ z1 = z2 := fun e => hne (by rw [← HL1.out, ← HL2.out, e])
    simp [hz]

theorem sameI_self (a1 a2 : Option Addr) (n1 n2 c1 c2 : Nat) (z : List Int) (w : World) (h1 : Ints w a1 n1 c1 z) (h2 : Ints w a2 n2 c2 z) :
    Calls Tryz.prog 9 #[.slice a1 n1 c1, .slice a2 n2 c2] w fun e w' => e = .returned (.bool true) ∧ ∃ q, w' = w.drewN q := by
  have h := sameI_any a1 a2 n1 n2 c1 c2 z z w h1 h2
  simpa using h

theorem Ints.take {w : World} {a : Option Addr} {n c : Nat} {zs : List Int} (h : Ints w a n c zs) {k : Nat} (hk : k ≤ n) : Ints w a k c (zs.take k) := by
  have hl := h.len
  refine ⟨by rw [List.length_take]; omega, Nat.le_trans hk h.le, h.max, h.nil, ?_⟩
  by_cases h0 : k = 0
  · exact .inl h0
  · obtain ⟨b, off, ha, _, hc⟩ := h.at (by omega)
    refine .inr ⟨b, off, ha, fun i hi => ?_⟩
    rw [hc i (by omega)]
    simp [List.getD, hi]

def marks : List Int := (List.range 40).map (fun i : Nat => (7000 : Int) + (i : Int))
theorem marks_len : marks.length = 40 := by decide
theorem marks_at : ∀ k, k < 40 → marks.getD k 0 = 7000 + (k : Int) := by decide
theorem marks_succ {k : Nat} (h : k < 40) : marks.take (k + 1) = marks.take k ++ [7000 + (k : Int)] := by
  rw [List.take_succ_eq_append_getElem (by rw [marks_len]; exact h)]
  have := marks_at k h
  simp [List.getD, marks_len, h] at this
  simp [this]

end Go.Proofs.YtbingoelpeoimaaGreat.Knd

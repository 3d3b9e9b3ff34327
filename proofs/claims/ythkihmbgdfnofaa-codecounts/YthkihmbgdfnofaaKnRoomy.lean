/-
  The walks of the document's own Ints, Roomy and Held: two lists of numbers alike; a list in memory of its own with marks in the room behind it, and whether it is as it was.
-/
import Derived.Test.YthkihmbgdfnofaaKnInts
import Derived.Deep.QuietTactic
import Derived.BigQuiet
import Derived.OwnWalk
import Derived.Maps.AppendAt
namespace Go.Proofs.Ythkihmbgdfnofaa.Knd
open Go.RowKit
set_option linter.unusedVariables false

theorem take_succ_iff {z1 z2 : List Int} {k : Nat} (h1 : k < z1.length) (h2 : k < z2.length) (h : z1.take k = z2.take k) (e : z1.getD k 0 = z2.getD k 0) : z1.take (k + 1) = z2.take (k + 1) := by
  rw [List.take_succ_eq_append_getElem h1, List.take_succ_eq_append_getElem h2, h]
  simp [List.getD, h1, h2] at e
  rw [e]

set_option maxRecDepth 100000 in
set_option maxHeartbeats 800000 in
theorem sameI_any (a1 a2 : Option Addr) (n1 n2 c1 c2 : Nat) (z1 z2 : List Int) (w : World) (h1 : Ints w a1 n1 c1 z1) (h2 : Ints w a2 n2 c2 z2) :
    Calls Try.prog 16 #[.slice a1 n1 c1, .slice a2 n2 c2] w fun e w' => e = .returned (.bool (decide (z1 = z2))) ∧ ∃ q, w' = w.drewN q := by
  have hm1 : n1 ≤ 9223372036854775807 := by have := h1.le; have := h1.max; unfold maxLen at this; omega
  have hl1 := h1.len
  have hl2 := h2.len
  have HL1 : Hid (z1.length = n1) := hl1
  have HL2 : Hid (z2.length = n2) := hl2
  by_cases hne : n1 = n2
  · subst hne
    clear hl1 hl2
    go_enter Try.func16, Try.ntmps16
    go_wp2_with fail
    go_loopw [5] (fun i wr => ∃ k q : Nat, k ≤ n1 ∧ i = .int .i64 k ∧ z1.take k = z2.take k ∧ wr = w.drewN q) (fun i _ => n1 - (intOf i).toNat)
    case atStart => exact ⟨0, 0, Nat.zero_le _, rfl, by simp, rfl⟩
    case round =>
      obtain ⟨k, q, hk, rfl, htk, rfl⟩ := hrel
      have HT : Hid (z1.take k = z2.take k) := htk
      clear htk
      by_cases hlt : k < n1
      · obtain ⟨b1, o1, rfl, _, hc1⟩ := h1.at (by omega)
        obtain ⟨b2, o2, rfl, _, hc2⟩ := h2.at (by omega)
        have g1 := hc1 k hlt
        have g2 := hc2 k hlt
        clear hc1 hc2
        generalize ea : z1.getD k 0 = x at g1
        generalize eb : z2.getD k 0 = y at g2
        have EA : Hid (z1.getD k 0 = x) := ea
        have EB : Hid (z2.getD k 0 = y) := eb
        clear ea eb
        go_wp2_with fail
        go_quiet (fail)
        go_wp2_with fail
        · have hxy : x ≠ y := by simpa using (show (x != y) = true by assumption)
          go_ret
          refine ⟨?_, _, World.drewN_drewN ..⟩
          have hz : ¬ z1 = z2 := fun e => hxy (by rw [← EA.out, ← EB.out, e])
          simp [hz]
        · have hxy : x = y := by simpa using (show (x != y) = false by assumption)
          go_roundw
          case rel => exact ⟨k + 1, _, by omega, by go_num, take_succ_iff (by rw [HL1.out]; exact hlt) (by rw [HL2.out]; exact hlt) HT.out (by rw [EA.out, EB.out, hxy]), rfl⟩
          case measure => simp [intOf]; omega
      · go_wp2_with fail
        go_ret
        refine ⟨?_, _, rfl⟩
        have hz : z1 = z2 := by
          have h := HT.out
          rw [List.take_of_length_le (by rw [HL1.out]; omega), List.take_of_length_le (by rw [HL2.out]; omega)] at h
          exact h
        simp [hz]
  · have hne' : ((n1 : Int) != (n2 : Int)) = true := by simp; omega
    go_enter Try.func16, Try.ntmps16
    go_wp2_with fail
    go_ret
    refine ⟨?_, 0, rfl⟩
    have hz : ¬ z1 = z2 := fun e => hne (by rw [← HL1.out, ← HL2.out, e])
    simp [hz]

theorem sameI_self (a1 a2 : Option Addr) (n1 n2 c1 c2 : Nat) (z : List Int) (w : World) (h1 : Ints w a1 n1 c1 z) (h2 : Ints w a2 n2 c2 z) :
    Calls Try.prog 16 #[.slice a1 n1 c1, .slice a2 n2 c2] w fun e w' => e = .returned (.bool true) ∧ ∃ q, w' = w.drewN q := by
  have h := sameI_any a1 a2 n1 n2 c1 c2 z z w h1 h2
  simpa using h

theorem Ints.take {w : World} {a : Option Addr} {n c : Nat} {zs : List Int} (h : Ints w a n c zs) {k : Nat} (hk : k ≤ n) : Ints w a k c (zs.take k) := by
  have hl := h.len
  refine ⟨by rw [List.length_take]; omega, Nat.le_trans hk h.le, h.max, h.nil, ?_⟩
  by_cases h0 : k = 0
  · exact .inl h0
  · obtain ⟨b, off, ha, _, hc⟩ := h.at (by omega)
    refine .inr ⟨b, off, ha, fun i hi => ?_⟩
    rw [hc i (by omega)]
    simp [List.getD, hi]

def marks : List Int := (List.range 40).map (fun i : Nat => (7000 : Int) + (i : Int))
theorem marks_len : marks.length = 40 := by decide
theorem marks_at : ∀ k, k < 40 → marks.getD k 0 = 7000 + (k : Int) := by decide
theorem marks_succ {k : Nat} (h : k < 40) : marks.take (k + 1) = marks.take k ++ [7000 + (k : Int)] := by
  rw [List.take_succ_eq_append_getElem (by rw [marks_len]; exact h)]
  have := marks_at k h
  simp [List.getD, marks_len, h] at this
  simp [this]

set_option maxRecDepth 100000 in
set_option maxHeartbeats 1000000 in
theorem roomy_any (a : Option Addr) (n c : Nat) (zs : List Int) (w : World) (hb : Ints w a n c zs) (hsum : n ≤ 17592186044000) :
    Calls Try.prog 22 #[.slice a n c] w fun e w' => e = .returned (.slice (some ⟨w.heap.size, 0, none⟩) n (n + 40)) ∧
      w'.ownsRow w.heap.size 3 1 (.slice (some ⟨w.heap.size, 0, none⟩) (n + 40) (n + 40)) (n + 40) (i64s (zs ++ marks)) ∧ Below w.heap.size w w' := by
  obtain ⟨i0, hi, hz0, hz1, hz2⟩ := info_parts info3
  have HB : Hid (Ints w a n c zs) := hb
  have HL : Hid (zs.length = n) := hb.len
  have hnone : a = none → n = 0 ∧ c = 0 := fun h => by have h1 := hb.nil h; have h2 := hb.le; omega
  have HNO := hide hnone
  clear hb hnone
  go_enter Try.func22, Try.ntmps22
  have hnl : (i64s zs).length = n * 1 := by simp [HL.out]
  go_wp2_with (first
    | (at_make; refine wpList_make_own _ rfl _ _ 33 rfl w.heap.size 3 i0 (.int .i64 0) 1 Try.underlying33 hi hz0 hz1 .i64 .i64 ((n : Int) + 40) (n + 40) rfl rfl (by omega) (by rw [hz2]; omega) (by unfold maxLen; omega) (Nat.le_refl _) ?_; intro w1 hown hgrow; have HB1 : Hid (Below w.heap.size w w1) := hide ((Below.refl _ _).grown hgrow (Nat.le_refl _) (fun k h => by cases h)); have HNW := hide (HB.out.later HB1.out).news; clear hgrow)
    | (at_builtin; refine wpList_append_fits_any _ rfl _ _ 33 rfl w.heap.size 3 i0 1 Try.underlying33 hi hz1 w.heap.size 0 (n + 40) [] rfl hown a n c (i64s zs) rfl hnl HNO.out HNW.out (ints_oneCell _ _) (by omega) ?_; intro w2 hown2 hgrow2))
  have HB2 : Hid (Below w.heap.size w w2) := HB1.out.grown hgrow2 HB1.out.size (fun k h => by cases h; exact Nat.le_refl _)
  have HO2 : Hid (w2.ownsRow w.heap.size 3 1 (.slice (some ⟨w.heap.size, 0, none⟩) n (n + 40)) n (i64s zs)) := hide (by simpa using hown2)
  clear hown hown2 hgrow2 hnl HNW
  go_loopw [3, 4] (fun v i wr => ∃ k : Nat, k ≤ 40 ∧ i = .int .i64 k ∧ v = .slice (some ⟨w.heap.size, 0, none⟩) (n + k) (n + 40) ∧
      wr.ownsRow w.heap.size 3 1 (.slice (some ⟨w.heap.size, 0, none⟩) (n + k) (n + 40)) (n + k) (i64s (zs ++ marks.take k)) ∧ Below w.heap.size w wr)
    (fun _ i _ => 40 - (intOf i).toNat)
  case atStart => exact ⟨0, by omega, rfl, by simp, by simpa using HO2.out, HB2.out⟩
  case round =>
    clear HO2 HB2
    obtain ⟨k, hk, rfl, rfl, hown, hbr⟩ := hrel
    have HO := hide hown
    have HR := hide hbr
    have hsz : w.heap.size ≤ wr.heap.size := hbr.size
    clear hbr
    by_cases hlt : k < 40
    · have HMS := hide (marks_succ hlt)
      have hc1 : ∀ u ∈ [Value.int IntKind.i64 (7000 + (k : Int))], u.oneCell' = true := by intro u hu; simp at hu; subst hu; rfl
      go_wp2_with (at_builtin; refine wpList_append_fits _ rfl _ _ 33 rfl w.heap.size 3 i0 1 Try.underlying33 hi hz1 w.heap.size (n + k) (n + 40) (i64s (zs ++ marks.take k)) rfl (HO.out.alloc _) ⟨wr.heap.size, 0, none⟩ 1 1 [.int .i64 (7000 + (k : Int))] rfl rfl (cell_one_new _ _ _) hc1 (by omega) ?_; intro w2 hown2 hgrow2)
      have hb2 : Below w.heap.size w w2 := (HR.out.alloc hsz _).grown hgrow2 (by simp; omega) (fun k h => by cases h; exact Nat.le_refl _)
      have e2 : i64s (zs ++ marks.take k) ++ [Value.int .i64 (7000 + (k : Int))] = i64s (zs ++ marks.take (k + 1)) := by rw [HMS.out]; simp
      rw [e2, Nat.add_assoc] at hown2
      go_roundw
      case rel => exact ⟨k + 1, by omega, by go_num, by rw [Nat.add_assoc], hown2, hb2⟩
      case measure => simp [intOf]; omega
    · obtain rfl : k = 40 := by omega
      have HF : Hid (wr.ownsRow w.heap.size 3 1 (.slice (some ⟨w.heap.size, 0, none⟩) (n + 40) (n + 40)) (n + 40) (i64s (zs ++ marks))) := by
        have h := HO.out
        rw [List.take_of_length_le (by rw [marks_len]; omega)] at h
        exact h
      clear hown HO
      have hc0 : ¬ n + 40 = 0 := by omega
      go_wp2_with fail
      go_ret
      exact ⟨rfl, HF.out, HR.out⟩

set_option maxRecDepth 100000 in
set_option maxHeartbeats 1000000 in
/-- Held, where the list and its room are as they were. -/
theorem held_any (g off n cap : Nat) (a : Option Addr) (c : Nat) (zs : List Int) (w : World) (h1 : Ints w (some ⟨g, off, none⟩) (n + 40) cap (zs ++ marks)) (h2 : Ints w a n c zs) :
    Calls Try.prog 25 #[.slice (some ⟨g, off, none⟩) n cap, .slice a n c] w fun e w' => e = .returned (.bool true) ∧ ∃ q, w' = w.drewN q := by
  have hle := h1.le
  have hmx : cap ≤ 9223372036854775807 := by have := h1.max; unfold maxLen at this; omega
  have hl2 := h2.len
  have h1t : Ints w (some ⟨g, off, none⟩) n cap zs := by
    have h := h1.take (k := n) (by omega)
    rw [← hl2, List.take_left] at h
    rw [← hl2]; exact h
  obtain ⟨b', off', e, _, hc⟩ := h1.at (by omega)
  cases e
  have HC : Hid (∀ k, k < 40 → w.cell? ⟨g, off + (n + k), none⟩ = some (.int .i64 (7000 + (k : Int)))) := fun k hk => by
    rw [hc (n + k) (by omega)]
    have e : (zs ++ marks).getD (n + k) 0 = 7000 + (k : Int) := by
      rw [← marks_at k hk]
      simp only [List.getD]
      rw [List.getElem?_append_right (by omega), show n + k - zs.length = k by omega]
    rw [e]
  have H1 := hide h1t
  have H2 := hide h2
  clear h1 h2 h1t hc hl2
  go_enter Try.func25, Try.ntmps25
  go_wp2_with fail
  refine (sameI_self (some ⟨g, off, none⟩) a n n cap c zs _ H1.out H2.out).mono ?_
  rintro e w1 ⟨rfl, q, rfl⟩
  go_wp2_with fail
  go_loop [6] (fun i => ∃ k : Nat, k ≤ 40 ∧ i = .int .i64 k) (fun i => 40 - (intOf i).toNat)
  case atStart => exact ⟨0, by omega, rfl⟩
  case round =>
    obtain ⟨k, hk, rfl⟩ := hrel
    by_cases hlt : k < 40
    · have g0 := HC.out k hlt
      go_wp2_with fail
      go_round
      case rel => exact ⟨k + 1, by omega, by go_num⟩
      case measure => simp [intOf]; omega
    · go_wp2_with fail
      go_ret
      exact ⟨rfl, q, rfl⟩

end Go.Proofs.Ythkihmbgdfnofaa.Knd

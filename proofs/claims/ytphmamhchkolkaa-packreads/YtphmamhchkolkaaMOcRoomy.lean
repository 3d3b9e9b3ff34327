/-
  The walks of damaskref01.Roomy and Held: a list in memory of its own with marks in the room behind it, and whether it is as it was.
-/
import Derived.Test.YtphmamhchkolkaaMOcZ
namespace Go.Proofs.Ytphmamhchkolkaa.Ocm
open Go.RowKit Oct
set_option linter.unusedVariables false

def marks : List Int := (List.range 40).map (fun i : Nat => (100 : Int) + (i : Int))
theorem marks_len : marks.length = 40 := by decide
theorem marks_at : ∀ k, k < 40 → marks.getD k 0 = 100 + (k : Int) := by decide
theorem marks_byte : ∀ z ∈ marks, 0 ≤ z ∧ z ≤ 255 := by decide
theorem marks_succ {k : Nat} (h : k < 40) : marks.take (k + 1) = marks.take k ++ [100 + (k : Int)] := by
  rw [List.take_succ_eq_append_getElem (by rw [marks_len]; exact h)]
  have := marks_at k h
  simp [List.getD, marks_len, h] at this
  simp [this]

set_option maxRecDepth 100000 in
set_option maxHeartbeats 1000000 in
theorem roomy_any (a : Option Addr) (n c : Nat) (zs : List Int) (w : World) (hb : Bytes w a n c zs) (hsum : n ≤ 281474976710600) :
    Calls Try.prog 15 #[.slice a n c] w fun e w' => e = .returned (.slice (some ⟨w.heap.size, 0, none⟩) n (n + 40)) ∧
      w'.ownsRow w.heap.size 5 1 (.slice (some ⟨w.heap.size, 0, none⟩) (n + 40) (n + 40)) (n + 40) (u8s (zs ++ marks)) ∧ Below w.heap.size w w' := by
  obtain ⟨i0, hi, hz0, hz1, hz2⟩ := info_parts info5
  have HB : Hid (Bytes w a n c zs) := hb
  have HL : Hid (zs.length = n) := hb.len
  have hnone : a = none → n = 0 ∧ c = 0 := fun h => by have h1 := hb.nil h; have h2 := hb.le; omega
  have HNO := hide hnone
  clear hb hnone
  go_enter Try.func15, Try.ntmps15
  have hnl : (u8s zs).length = n * 1 := by simp [HL.out]
  go_wp2_with (first
    | (at_make; refine wpList_make_own _ rfl _ _ 28 rfl w.heap.size 5 i0 (.int .u8 0) 1 Try.underlying28 hi hz0 hz1 .i64 .i64 ((n : Int) + 40) (n + 40) rfl rfl (by omega) (by rw [hz2]; omega) (by unfold maxLen; omega) (Nat.le_refl _) ?_; intro w1 hown hgrow; have HB1 : Hid (Below w.heap.size w w1) := hide ((Below.refl _ _).grown hgrow (Nat.le_refl _) (fun k h => by cases h)); have HNW := hide (HB.out.later HB1.out).news; clear hgrow)
    | (at_builtin; refine wpList_append_fits_any _ rfl _ _ 28 rfl w.heap.size 5 i0 1 Try.underlying28 hi hz1 w.heap.size 0 (n + 40) [] rfl hown a n c (u8s zs) rfl hnl HNO.out HNW.out (ints_oneCell _ _) (by omega) ?_; intro w2 hown2 hgrow2))
  have HB2 : Hid (Below w.heap.size w w2) := HB1.out.grown hgrow2 HB1.out.size (fun k h => by cases h; exact Nat.le_refl _)
  have HO2 : Hid (w2.ownsRow w.heap.size 5 1 (.slice (some ⟨w.heap.size, 0, none⟩) n (n + 40)) n (u8s zs)) := hide (by simpa using hown2)
  clear hown hown2 hgrow2 hnl HNW
  go_loopw [3, 4] (fun v i wr => ∃ k : Nat, k ≤ 40 ∧ i = .int .i64 k ∧ v = .slice (some ⟨w.heap.size, 0, none⟩) (n + k) (n + 40) ∧
      wr.ownsRow w.heap.size 5 1 (.slice (some ⟨w.heap.size, 0, none⟩) (n + k) (n + 40)) (n + k) (u8s (zs ++ marks.take k)) ∧ Below w.heap.size w wr)
    (fun _ i _ => 40 - (intOf i).toNat)
  case atStart => exact ⟨0, by omega, rfl, by simp, by simpa using HO2.out, HB2.out⟩
  case round =>
    clear HO2 HB2
    obtain ⟨k, hk, rfl, rfl, hown, hbr⟩ := hrel
    have HO := hide hown
    have HR := hide hbr
    have hsz : w.heap.size ≤ wr.heap.size := hbr.size
    clear hbr
    by_cases hlt : k < 40
    · have HMS := hide (marks_succ hlt)
      have hc1 : ∀ u ∈ [Value.int IntKind.u8 (100 + (k : Int))], u.oneCell' = true := by intro u hu; simp at hu; subst hu; rfl
      go_wp2_with (at_builtin; refine wpList_append_fits _ rfl _ _ 28 rfl w.heap.size 5 i0 1 Try.underlying28 hi hz1 w.heap.size (n + k) (n + 40) (u8s (zs ++ marks.take k)) rfl (HO.out.alloc _) ⟨wr.heap.size, 0, none⟩ 1 1 [.int .u8 (100 + (k : Int))] rfl rfl (cell_one_new _ _ _) hc1 (by omega) ?_; intro w2 hown2 hgrow2)
      have hb2 : Below w.heap.size w w2 := (HR.out.alloc hsz _).grown hgrow2 (by simp; omega) (fun k h => by cases h; exact Nat.le_refl _)
      have e2 : u8s (zs ++ marks.take k) ++ [Value.int .u8 (100 + (k : Int))] = u8s (zs ++ marks.take (k + 1)) := by rw [HMS.out]; simp
      rw [e2, Nat.add_assoc] at hown2
      go_roundw
      case rel => exact ⟨k + 1, by omega, by go_num, by rw [Nat.add_assoc], hown2, hb2⟩
      case measure => simp [intOf]; omega
    · obtain rfl : k = 40 := by omega
      have HF : Hid (wr.ownsRow w.heap.size 5 1 (.slice (some ⟨w.heap.size, 0, none⟩) (n + 40) (n + 40)) (n + 40) (u8s (zs ++ marks))) := by
        have h := HO.out
        rw [List.take_of_length_le (by rw [marks_len]; omega)] at h
        exact h
      clear hown HO
      have hc0 : ¬ n + 40 = 0 := by omega
      go_wp2_with fail
      go_ret
      exact ⟨rfl, HF.out, HR.out⟩

/-- The bytes of the whole room. -/
theorem room_bytes {w : World} {g n base : Nat} {zs : List Int} (h : w.ownsRow base 5 1 (.slice (some ⟨g, 0, none⟩) (n + 40) (n + 40)) (n + 40) (u8s (zs ++ marks))) (hz : ∀ z ∈ zs, 0 ≤ z ∧ z ≤ 255) :
    Bytes w (some ⟨g, 0, none⟩) (n + 40) (n + 40) (zs ++ marks) := by
  obtain ⟨a, c, hv, hB, _⟩ := Bytes.of_owns h (fun z hz' => by
    rcases List.mem_append.1 hz' with h' | h'
    · exact hz z h'
    · exact marks_byte z h')
  simp only [Value.slice.injEq] at hv
  obtain ⟨rfl, _, rfl⟩ := hv
  exact hB

set_option maxRecDepth 100000 in
set_option maxHeartbeats 1000000 in
/-- Held, where the list and its room are as they were. -/
theorem held_any (g off n cap : Nat) (a : Option Addr) (c : Nat) (zs : List Int) (w : World) (h1 : Bytes w (some ⟨g, off, none⟩) (n + 40) cap (zs ++ marks)) (h2 : Bytes w a n c zs) :
    Calls Try.prog 19 #[.slice (some ⟨g, off, none⟩) n cap, .slice a n c] w fun e w' => e = .returned (.bool true) ∧ ∃ q, w' = w.drewN q := by
  have hle := h1.le
  have hmx : cap ≤ 9223372036854775807 := by have := h1.max; unfold maxLen at this; omega
  have hl2 := h2.len
  have h1t : Bytes w (some ⟨g, off, none⟩) n cap zs := by
    have h := h1.take (k := n) (by omega)
    rw [← hl2, List.take_left] at h
    rw [← hl2]; exact h
  obtain ⟨b', off', e, _, hc⟩ := h1.at (by omega)
  cases e
  have HC : Hid (∀ k, k < 40 → w.cell? ⟨g, off + (n + k), none⟩ = some (.int .u8 (100 + (k : Int)))) := fun k hk => by
    rw [hc (n + k) (by omega)]
    have e : (zs ++ marks).getD (n + k) 0 = 100 + (k : Int) := by
      rw [← marks_at k hk]
      simp only [List.getD]
      rw [List.getElem?_append_right (by omega), show n + k - zs.length = k by omega]
    rw [e]
  have H1 := hide h1t
  have H2 := hide h2
  clear h1 h2 h1t hc hl2
  go_enter Try.func19, Try.ntmps19
  go_wp2_with fail
  refine (same_self (some ⟨g, off, none⟩) a n n cap c zs _ H1.out H2.out).mono ?_
  rintro e w1 ⟨rfl, q, rfl⟩
  go_wp2_with fail
  go_loop [6] (fun i => ∃ k : Nat, k ≤ 40 ∧ i = .int .i64 k) (fun i => 40 - (intOf i).toNat)
  case atStart => exact ⟨0, by omega, rfl⟩
  case round =>
    obtain ⟨k, hk, rfl⟩ := hrel
    by_cases hlt : k < 40
    · have g0 := HC.out k hlt
      go_wp2_with fail
      go_round
      case rel => exact ⟨k + 1, by omega, by go_num⟩
      case measure => simp [intOf]; omega
    · go_wp2_with fail
      go_ret
      exact ⟨rfl, q, rfl⟩

end Go.Proofs.Ytphmamhchkolkaa.Ocm

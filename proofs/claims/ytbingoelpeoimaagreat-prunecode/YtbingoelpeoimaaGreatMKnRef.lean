/-
  The walks of the document's own small functions: they answer what the program's do.
-/
import Derived.Test.YtbingoelpeoimaaGreatMKnA
namespace Go.Proofs.YtbingoelpeoimaaGreat.Knd
open Go.RowKit
set_option linter.unusedVariables false

set_option maxRecDepth 100000 in
set_option maxHeartbeats 1000000 in
theorem rmay_ok (f d : Int) (w : World) (h : May f d) :
    Calls Tryz.prog 38 #[.agg #[.int .i64 f, .int .i64 d]] w fun e w' => e = .returned (.bool true) ∧ Below w.heap.size w w' := by
  have hb := bel1 w (.cells #[.int .i64 f, .int .i64 d] 23)
  obtain ⟨hf, h1, h2⟩ := h
  rcases hf with rfl | rfl
  · go_enter Tryz.func38, Tryz.ntmps38
    go_wp2
    go_ret
    exact ⟨rfl, hb⟩
  · go_enter Tryz.func38, Tryz.ntmps38
    go_wp2
    go_ret
    exact ⟨rfl, hb⟩

set_option maxRecDepth 100000 in
set_option maxHeartbeats 1000000 in
theorem rmay_bad (f d : Int) (w : World) (h : ¬ May f d) :
    Calls Tryz.prog 38 #[.agg #[.int .i64 f, .int .i64 d]] w fun e w' => e = .returned (.bool false) ∧ Below w.heap.size w w' := by
  have hb := bel1 w (.cells #[.int .i64 f, .int .i64 d] 23)
  by_cases h1 : f = 0
  · subst h1
    by_cases h2 : d < 1
    · have h3 : decide (1 ≤ d) = false := by simp; omega
      go_enter Tryz.func38, Tryz.ntmps38
      go_wp2
      go_ret
      exact ⟨rfl, hb⟩
    · have h3 : 1 ≤ d := by omega
      have h4 : decide (d ≤ 16) = false := by unfold May at h; simp; omega
      go_enter Tryz.func38, Tryz.ntmps38
      go_wp2
      go_ret
      exact ⟨rfl, hb⟩
  · have h5 : (f == 0) = false := by simp [h1]
    by_cases h4 : f = 1
    · subst h4
      by_cases h2 : d < 1
      · have h3 : decide (1 ≤ d) = false := by simp; omega
        go_enter Tryz.func38, Tryz.ntmps38
        go_wp2
        go_ret
        exact ⟨rfl, hb⟩
      · have h3 : 1 ≤ d := by omega
        have h4 : decide (d ≤ 16) = false := by unfold May at h; simp; omega
        go_enter Tryz.func38, Tryz.ntmps38
        go_wp2
        go_ret
        exact ⟨rfl, hb⟩
    · have h6 : (f == 1) = false := by simp [h4]
      go_enter Tryz.func38, Tryz.ntmps38
      go_wp2
      go_ret
      exact ⟨rfl, hb⟩

set_option maxRecDepth 100000 in
set_option maxHeartbeats 1000000 in
theorem power_any (n : Int) (w : World) (h0 : 0 ≤ n) (h1 : n ≤ 16) :
    Calls Tryz.prog 60 #[.int .i64 n] w fun e w' => e = .returned (.int .i64 (pw n)) ∧ w' = w := by
  go_enter Tryz.func60, Tryz.ntmps60
  go_wp2
  go_loop [3, 4] (fun x i => ∃ k X : Int, 0 ≤ k ∧ k ≤ n ∧ i = .int .i64 k ∧ 1 ≤ X ∧ X ≤ 65536 ∧ x = .int .i64 X ∧ Hid (X = pw k)) (fun _ i => (n - intOf i).toNat)
  case atStart => exact ⟨0, 1, by omega, h0, rfl, by omega, by omega, rfl, rfl⟩
  case round =>
    obtain ⟨k, X, hk0, hk1, rfl, hX0, hX1, rfl, HX⟩ := hrel
    by_cases hlt : k < n
    · have hs := pw_succ k hk0
      have hl := pw_le (k + 1) (by omega)
      rw [← HX.out] at hs
      rw [hs] at hl
      have HS := hide hs
      clear hs
      go_wp2
      go_round
      case rel => exact ⟨k + 1, 2 * X, by omega, by omega, rfl, hl.1, hl.2, by go_num, HS.out.symm⟩
      case measure => simp [intOf]; omega
    · obtain rfl : k = n := by omega
      go_wp2
      go_ret
      exact ⟨ret_int HX.out, rfl⟩

set_option maxRecDepth 100000 in
set_option maxHeartbeats 1000000 in
theorem rlow_any (f d : Int) (w : World) :
    Calls Tryz.prog 45 #[.agg #[.int .i64 f, .int .i64 d]] w fun e w' => e = .returned (.int .i64 (lowZ f d)) ∧ Below w.heap.size w w' := by
  rcases kind3 f d with ⟨hm, rfl⟩ | ⟨hm, rfl⟩ | hm
  · rw [(zs0 hm).1]
    have hb := bel1 w (.cells #[.int .i64 0, .int .i64 d] 23)
    obtain ⟨hd1, hd2⟩ : 1 ≤ d ∧ d ≤ 16 := hm.2
    go_enter Tryz.func45, Tryz.ntmps45
    go_wp2_with (go_at_call 38; refine (rmay_ok _ _ _ hm).mono ?_; rintro e w2 ⟨rfl, hb2⟩; obtain ⟨hc2, hf2⟩ := bcell hb2)
    go_ret
    exact ⟨rfl, bel hb hb2⟩
  · rw [(zs1 hm).1]
    have hb := bel1 w (.cells #[.int .i64 1, .int .i64 d] 23)
    obtain ⟨hd1, hd2⟩ : 1 ≤ d ∧ d ≤ 16 := hm.2
    obtain ⟨p1, p2⟩ := pw_le (d - 1) (by omega)
    go_enter Tryz.func45, Tryz.ntmps45
    go_wp2_with (first | (go_at_call 38; refine (rmay_ok _ _ _ hm).mono ?_; rintro e w2 ⟨rfl, hb2⟩; obtain ⟨hc2, hf2⟩ := bcell hb2) | (go_at_call 60; refine (power_any (d - 1) _ (by omega) (by omega)).mono ?_; rintro e w3 ⟨rfl, rfl⟩))
    go_ret
    exact ⟨rfl, bel hb hb2⟩
  · rw [(zs2 hm).1]
    have hb := bel1 w (.cells #[.int .i64 f, .int .i64 d] 23)
    go_enter Tryz.func45, Tryz.ntmps45
    go_wp2_with (go_at_call 38; refine (rmay_bad _ _ _ hm).mono ?_; rintro e w2 ⟨rfl, hb2⟩; obtain ⟨hc2, hf2⟩ := bcell hb2)
    go_ret
    exact ⟨rfl, bel hb hb2⟩

set_option maxRecDepth 100000 in
set_option maxHeartbeats 1000000 in
theorem rhigh_any (f d : Int) (w : World) :
    Calls Tryz.prog 46 #[.agg #[.int .i64 f, .int .i64 d]] w fun e w' => e = .returned (.int .i64 (highZ f d)) ∧ Below w.heap.size w w' := by
  rcases kind3 f d with ⟨hm, rfl⟩ | ⟨hm, rfl⟩ | hm
  · rw [(zs0 hm).2.1]
    have hb := bel1 w (.cells #[.int .i64 0, .int .i64 d] 23)
    obtain ⟨hd1, hd2⟩ : 1 ≤ d ∧ d ≤ 16 := hm.2
    obtain ⟨p1, p2⟩ := pw_le (d) (by omega)
    go_enter Tryz.func46, Tryz.ntmps46
    go_wp2_with (first | (go_at_call 38; refine (rmay_ok _ _ _ hm).mono ?_; rintro e w2 ⟨rfl, hb2⟩; obtain ⟨hc2, hf2⟩ := bcell hb2) | (go_at_call 60; refine (power_any (d) _ (by omega) (by omega)).mono ?_; rintro e w3 ⟨rfl, rfl⟩))
    go_ret
    exact ⟨ret_int (by rw [pw_half d hd1]), bel hb hb2⟩
  · rw [(zs1 hm).2.1]
    have hb := bel1 w (.cells #[.int .i64 1, .int .i64 d] 23)
    obtain ⟨hd1, hd2⟩ : 1 ≤ d ∧ d ≤ 16 := hm.2
    obtain ⟨p1, p2⟩ := pw_le (d - 1) (by omega)
    go_enter Tryz.func46, Tryz.ntmps46
    go_wp2_with (first | (go_at_call 38; refine (rmay_ok _ _ _ hm).mono ?_; rintro e w2 ⟨rfl, hb2⟩; obtain ⟨hc2, hf2⟩ := bcell hb2) | (go_at_call 60; refine (power_any (d - 1) _ (by omega) (by omega)).mono ?_; rintro e w3 ⟨rfl, rfl⟩))
    go_ret
    exact ⟨rfl, bel hb hb2⟩
  · rw [(zs2 hm).2.1]
    have hb := bel1 w (.cells #[.int .i64 f, .int .i64 d] 23)
    go_enter Tryz.func46, Tryz.ntmps46
    go_wp2_with (go_at_call 38; refine (rmay_bad _ _ _ hm).mono ?_; rintro e w2 ⟨rfl, hb2⟩; obtain ⟨hc2, hf2⟩ := bcell hb2)
    go_ret
    exact ⟨rfl, bel hb hb2⟩

set_option maxRecDepth 100000 in
set_option maxHeartbeats 1000000 in
theorem rborder_any (f d : Int) (w : World) :
    Calls Tryz.prog 59 #[.agg #[.int .i64 f, .int .i64 d]] w fun e w' => e = .returned (.int .i64 (borderZ f d)) ∧ Below w.heap.size w w' := by
  rcases kind3 f d with ⟨hm, rfl⟩ | ⟨hm, rfl⟩ | hm
  · rw [(zs0 hm).2.2.1]
    have hb := bel1 w (.cells #[.int .i64 0, .int .i64 d] 23)
    obtain ⟨hd1, hd2⟩ : 1 ≤ d ∧ d ≤ 16 := hm.2
    obtain ⟨p1, p2⟩ := pw_le (d - 1) (by omega)
    go_enter Tryz.func59, Tryz.ntmps59
    go_wp2_with (first | (go_at_call 38; refine (rmay_ok _ _ _ hm).mono ?_; rintro e w2 ⟨rfl, hb2⟩; obtain ⟨hc2, hf2⟩ := bcell hb2) | (go_at_call 60; refine (power_any (d - 1) _ (by omega) (by omega)).mono ?_; rintro e w3 ⟨rfl, rfl⟩))
    go_ret
    exact ⟨rfl, bel hb hb2⟩
  · rw [(zs1 hm).2.2.1]
    have hb := bel1 w (.cells #[.int .i64 1, .int .i64 d] 23)
    obtain ⟨hd1, hd2⟩ : 1 ≤ d ∧ d ≤ 16 := hm.2
    go_enter Tryz.func59, Tryz.ntmps59
    go_wp2_with (go_at_call 38; refine (rmay_ok _ _ _ hm).mono ?_; rintro e w2 ⟨rfl, hb2⟩; obtain ⟨hc2, hf2⟩ := bcell hb2)
    go_ret
    exact ⟨rfl, bel hb hb2⟩
  · rw [(zs2 hm).2.2.1]
    have hb := bel1 w (.cells #[.int .i64 f, .int .i64 d] 23)
    go_enter Tryz.func59, Tryz.ntmps59
    go_wp2_with (go_at_call 38; refine (rmay_bad _ _ _ hm).mono ?_; rintro e w2 ⟨rfl, hb2⟩; obtain ⟨hc2, hf2⟩ := bcell hb2)
    go_ret
    exact ⟨rfl, bel hb hb2⟩

set_option maxRecDepth 100000 in
set_option maxHeartbeats 1000000 in
theorem rcount_any (f d : Int) (w : World) :
    Calls Tryz.prog 28 #[.agg #[.int .i64 f, .int .i64 d]] w fun e w' => e = .returned (.int .i64 (countZ f d)) ∧ Below w.heap.size w w' := by
  rcases kind3 f d with ⟨hm, rfl⟩ | ⟨hm, rfl⟩ | hm
  · rw [(zs0 hm).2.2.2]
    have hb := bel1 w (.cells #[.int .i64 0, .int .i64 d] 23)
    obtain ⟨hd1, hd2⟩ : 1 ≤ d ∧ d ≤ 16 := hm.2
    go_enter Tryz.func28, Tryz.ntmps28
    go_wp2_with (go_at_call 38; refine (rmay_ok _ _ _ hm).mono ?_; rintro e w2 ⟨rfl, hb2⟩; obtain ⟨hc2, hf2⟩ := bcell hb2)
    go_ret
    exact ⟨rfl, bel hb hb2⟩
  · rw [(zs1 hm).2.2.2]
    have hb := bel1 w (.cells #[.int .i64 1, .int .i64 d] 23)
    obtain ⟨hd1, hd2⟩ : 1 ≤ d ∧ d ≤ 16 := hm.2
    go_enter Tryz.func28, Tryz.ntmps28
    go_wp2_with (go_at_call 38; refine (rmay_ok _ _ _ hm).mono ?_; rintro e w2 ⟨rfl, hb2⟩; obtain ⟨hc2, hf2⟩ := bcell hb2)
    go_ret
    exact ⟨rfl, bel hb hb2⟩
  · rw [(zs2 hm).2.2.2]
    have hb := bel1 w (.cells #[.int .i64 f, .int .i64 d] 23)
    go_enter Tryz.func28, Tryz.ntmps28
    go_wp2_with (go_at_call 38; refine (rmay_bad _ _ _ hm).mono ?_; rintro e w2 ⟨rfl, hb2⟩; obtain ⟨hc2, hf2⟩ := bcell hb2)
    go_ret
    exact ⟨rfl, bel hb hb2⟩

end Go.Proofs.YtbingoelpeoimaaGreat.Knd

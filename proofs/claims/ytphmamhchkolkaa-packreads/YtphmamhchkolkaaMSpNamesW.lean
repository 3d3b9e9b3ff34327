/-
  The document's own Arity, Constants and Word, and the walk of ArithNames.
-/
import Derived.Test.YtphmamhchkolkaaMSpValue
namespace Go.Proofs.Ytphmamhchkolkaa.Spn
open Go.RowKit Go.IntWalk
set_option linter.unusedVariables false

theorem rword_any (x : Int) (w : World) :
    Calls Try.prog 67 #[.int .i64 x] w fun e w' => e = .returned (.bool (wd x)) ∧ w' = w := by
  by_cases h1 : -2147483648 ≤ x
  · go_enter Try.func67, Try.ntmps67
    go_wp2
    go_ret
    exact ⟨ret_bool (by simp [wd, inB, h1]), rfl⟩
  · rw [show wd x = false from inB_f (by omega)]
    go_enter Try.func67, Try.ntmps67
    go_wp2
    go_ret
    exact ⟨rfl, rfl⟩

theorem ar_out {op : Int} (h : op < 1 ∨ op = 4 ∨ 33 < op) : ar op = -1 := by
  unfold ar
  rw [if_neg (by omega), if_neg (by rw [inB_iff, inB_iff]; omega), if_neg (by rw [inB_iff]; omega), if_neg (by rw [inB_iff]; omega)]
theorem ar_0 {op : Int} (h : op = 1 ∨ op = 2 ∨ op = 3) : ar op = 0 := by
  unfold ar
  rw [if_pos h]
theorem ar_1 {op : Int} (h : 5 ≤ op ∧ op ≤ 7 ∨ 29 ≤ op ∧ op ≤ 33) : ar op = 1 := by
  unfold ar
  rw [if_neg (by omega), if_pos (by rw [inB_iff, inB_iff]; omega)]
theorem ar_2 {op : Int} (h : 8 ≤ op ∧ op ≤ 25) : ar op = 2 := by
  unfold ar
  rw [if_neg (by omega), if_neg (by rw [inB_iff, inB_iff]; omega), if_pos (by rw [inB_iff]; omega)]
theorem ar_3 {op : Int} (h : 26 ≤ op ∧ op ≤ 28) : ar op = 3 := by
  unfold ar
  rw [if_neg (by omega), if_neg (by rw [inB_iff, inB_iff]; omega), if_neg (by rw [inB_iff]; omega), if_pos (by rw [inB_iff]; omega)]

theorem rarity_any (op : Int) (w : World) :
    Calls Try.prog 38 #[.int .i64 op] w fun e w' => e = .returned (.int .i64 (ar op)) ∧ w' = w := by
  rcases (show op < 1 ∨ 33 < op ∨ op = 4 ∨ (1 ≤ op ∧ op ≤ 3) ∨ (5 ≤ op ∧ op ≤ 7) ∨ (29 ≤ op ∧ op ≤ 33) ∨ (8 ≤ op ∧ op ≤ 25) ∨ (26 ≤ op ∧ op ≤ 28) by omega) with h | h | h | h | h | h | h | h
  · rw [ar_out (by omega)]
    go_enter Try.func38, Try.ntmps38
    go_wp2
    go_ret
    exact ⟨rfl, rfl⟩
  · rw [ar_out (by omega)]
    have h' : (op == 4) = false := by simp; omega
    go_enter Try.func38, Try.ntmps38
    go_wp2
    go_ret
    exact ⟨rfl, rfl⟩
  · subst h
    go_enter Try.func38, Try.ntmps38
    go_wp2
    go_ret
    exact ⟨rfl, rfl⟩
  · rw [ar_0 (by omega)]
    have h' : (op == 4) = false := by simp; omega
    go_enter Try.func38, Try.ntmps38
    go_wp2
    go_ret
    exact ⟨rfl, rfl⟩
  · rw [ar_1 (by omega)]
    have h' : (op == 4) = false := by simp; omega
    go_enter Try.func38, Try.ntmps38
    go_wp2
    go_ret
    exact ⟨rfl, rfl⟩
  · rw [ar_1 (by omega)]
    have h' : (op == 4) = false := by simp; omega
    go_enter Try.func38, Try.ntmps38
    go_wp2
    go_ret
    exact ⟨rfl, rfl⟩
  · rw [ar_2 (by omega)]
    have h' : (op == 4) = false := by simp; omega
    go_enter Try.func38, Try.ntmps38
    go_wp2
    go_ret
    exact ⟨rfl, rfl⟩
  · rw [ar_3 (by omega)]
    have h' : (op == 4) = false := by simp; omega
    go_enter Try.func38, Try.ntmps38
    go_wp2
    go_ret
    exact ⟨rfl, rfl⟩

theorem rconstants_any (op k s : Int) (w : World) :
    Calls Try.prog 68 #[.int .i64 op, .int .i64 k, .int .i64 s] w fun e w' => e = .returned (.bool (cons op k s)) ∧ w' = w := by
  by_cases h1 : op = 29 ∨ op = 30 ∨ op = 31
  · rcases h1 with rfl | rfl | rfl
    · rw [show cons 29 k s = inB k 0 31 from rfl]
      by_cases h : 0 ≤ k
      · by_cases h2 : k < 32
        · rw [inB_t h (by omega)]
          go_enter Try.func68, Try.ntmps68
          go_wp2
          go_ret
          exact ⟨rfl, rfl⟩
        · rw [inB_f (by omega)]
          go_enter Try.func68, Try.ntmps68
          go_wp2
          go_ret
          exact ⟨rfl, rfl⟩
      · rw [inB_f (by omega)]
        go_enter Try.func68, Try.ntmps68
        go_wp2
        go_ret
        exact ⟨rfl, rfl⟩
    · rw [show cons 30 k s = inB k 0 31 from rfl]
      by_cases h : 0 ≤ k
      · by_cases h2 : k < 32
        · rw [inB_t h (by omega)]
          go_enter Try.func68, Try.ntmps68
          go_wp2
          go_ret
          exact ⟨rfl, rfl⟩
        · rw [inB_f (by omega)]
          go_enter Try.func68, Try.ntmps68
          go_wp2
          go_ret
          exact ⟨rfl, rfl⟩
      · rw [inB_f (by omega)]
        go_enter Try.func68, Try.ntmps68
        go_wp2
        go_ret
        exact ⟨rfl, rfl⟩
    · rw [show cons 31 k s = inB k 0 2147483647 from rfl]
      by_cases h : 0 ≤ k
      · by_cases h2 : k ≤ 2147483647
        · rw [inB_t h (by omega)]
          go_enter Try.func68, Try.ntmps68
          go_wp2
          go_ret
          exact ⟨rfl, rfl⟩
        · rw [inB_f (by omega)]
          go_enter Try.func68, Try.ntmps68
          go_wp2
          go_ret
          exact ⟨rfl, rfl⟩
      · rw [inB_f (by omega)]
        go_enter Try.func68, Try.ntmps68
        go_wp2
        go_ret
        exact ⟨rfl, rfl⟩
  · by_cases h2 : op = 32
    · subst h2
      rw [show cons 32 k s = wd k from rfl]
      go_enter Try.func68, Try.ntmps68
      go_wp2_with (go_at_call 67; refine (rword_any _ _).mono ?_; rintro e w' ⟨rfl, rfl⟩)
      go_ret
      exact ⟨rfl, rfl⟩
    · by_cases h3 : op = 33
      · subst h3
        rw [show cons 33 k s = (inB k 1 4611686018427387904 && inB s 0 62) from rfl]
        by_cases h : 0 < k
        · by_cases h2 : k ≤ 4611686018427387904
          · rw [inB_t (x := k) (by omega) (by omega), Bool.true_and]
            by_cases h4 : 0 ≤ s
            · by_cases h5 : s < 63
              · rw [inB_t (by omega) (by omega)]
                go_enter Try.func68, Try.ntmps68
                go_wp2
                go_ret
                exact ⟨rfl, rfl⟩
              · rw [inB_f (by omega)]
                go_enter Try.func68, Try.ntmps68
                go_wp2
                go_ret
                exact ⟨rfl, rfl⟩
            · rw [inB_f (by omega)]
              go_enter Try.func68, Try.ntmps68
              go_wp2
              go_ret
              exact ⟨rfl, rfl⟩
          · rw [inB_f (x := k) (by omega), Bool.false_and]
            go_enter Try.func68, Try.ntmps68
            go_wp2
            go_ret
            exact ⟨rfl, rfl⟩
        · rw [inB_f (x := k) (by omega), Bool.false_and]
          go_enter Try.func68, Try.ntmps68
          go_wp2
          go_ret
          exact ⟨rfl, rfl⟩
      · have e1 : (op == 29) = false := by simp; omega
        have e2 : (op == 30) = false := by simp; omega
        have e3 : (op == 31) = false := by simp; omega
        have e4 : (op == 32) = false := by simp; omega
        have e5 : (op == 33) = false := by simp; omega
        have hc : cons op k s = true := by unfold cons; rw [if_neg (by omega), if_neg (by omega), if_neg (by omega), if_neg (by omega)]
        rw [hc]
        clear h1 h2 h3 hc
        go_enter Try.func68, Try.ntmps68
        go_wp2
        go_ret
        exact ⟨rfl, rfl⟩

end Go.Proofs.Ytphmamhchkolkaa.Spn

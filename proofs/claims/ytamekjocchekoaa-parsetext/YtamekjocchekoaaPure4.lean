/-
  The document's longest piece is the program's.
-/
import Derived.Test.YtamekjocchekoaaPure2
namespace Lx
set_option linter.unusedVariables false

/-- How many bytes the document's scan takes at a token's place. -/
def ez (l : List UInt8) : Nat := max 1 (sz l)

theorem rn_le (p : UInt8 → Bool) (l : List UInt8) : rn p l ≤ l.length := by
  have h := congrArg List.length (takeWhile_split p l)
  rw [List.length_append] at h
  unfold rn
  omega
theorem rn_pos {p : UInt8 → Bool} {c : UInt8} {r : List UInt8} (h : p c = true) : 1 ≤ rn p (c :: r) := by
  unfold rn
  rw [List.takeWhile_cons, if_pos h]
  simp
theorem all_take {p : UInt8 → Bool} {l : List UInt8} {m : Nat} (h : m ≤ rn p l) : (l.take m).all p = true := by
  have h1 := takeWhile_all p l
  have h2 : l.take m = (l.takeWhile p).take m := by
    rw [← takeWhile_eq_take, List.take_take, Nat.min_eq_left h]
  rw [h2]
  rw [List.all_eq_true] at h1 ⊢
  exact fun x hx => h1 x (List.mem_of_mem_take hx)
theorem all_take_not {p : UInt8 → Bool} {l : List UInt8} {m : Nat} (h : rn p l < m) (hm : m ≤ l.length) : (l.take m).all p = false := by
  cases h1 : (l.take m).all p with
  | false => rfl
  | true =>
    exfalso
    have h2 := takeWhile_app p (l.take (rn p l)) (l.drop (rn p l)) (all_take (Nat.le_refl _)) (by
      intro a ha
      rw [rn_drop] at ha
      have := List.head?_dropWhile_not p l
      rw [ha] at this
      simpa using this)
    have h3 : l[rn p l]? = (l.drop (rn p l)).head? := by rw [List.head?_drop]
    obtain ⟨a, ha⟩ : ∃ a, l[rn p l]? = some a := ⟨_, List.getElem?_eq_getElem (by omega)⟩
    have h4 := List.head?_dropWhile_not p l
    rw [← rn_drop, ← h3, ha] at h4
    have h5 : a ∈ l.take m := by
      have h6 : (l.take m)[rn p l]? = some a := by rw [List.getElem?_take_of_lt h]; exact ha
      exact List.mem_of_getElem? h6
    have h7 := List.all_eq_true.1 h1 a h5
    simp [h7] at h4

theorem two_len {x : List UInt8} (h : two.contains x = true) : x.length = 2 := by
  rcases contains_two h with h | h | h | h | h | h <;> rw [h] <;> rfl
theorem two_head {x : List UInt8} (h : two.contains x = true) : D (x.headD 0) = false ∧ A (x.headD 0) = false := by
  rcases contains_two h with h | h | h | h | h | h <;> rw [h] <;> decide
theorem take_head {c : UInt8} {r : List UInt8} {m : Nat} (h : 1 ≤ m) : ((c :: r).take m).headD 0 = c := by
  obtain ⟨k, rfl⟩ : ∃ k, m = k + 1 := ⟨m - 1, by omega⟩
  rfl
theorem aD_head {c : UInt8} {r : List UInt8} {m : Nat} (h : 1 ≤ m) (hc : D c = false) : aD ((c :: r).take m) = false := by
  obtain ⟨k, rfl⟩ : ∃ k, m = k + 1 := ⟨m - 1, by omega⟩
  simp [aD, hc]

/-- The kind of a piece that begins with a digit. -/
theorem rk_digits {c : UInt8} {r : List UInt8} {m : Nat} (hc : D c = true) (h1 : 1 ≤ m) (h : m ≤ rn D (c :: r)) : rk ((c :: r).take m) = 1 := by
  unfold rk
  rw [if_pos (show aD ((c :: r).take m) = true from all_take h)]
theorem rk_digits_no {c : UInt8} {r : List UInt8} {m : Nat} (hc : D c = true) (h : rn D (c :: r) < m) (hm : m ≤ (c :: r).length) : rk ((c :: r).take m) = 0 := by
  have hp := rn_pos (r := r) hc
  have hA : A c = false := by
    cases h : A c with
    | false => rfl
    | true => rw [(A_not h).2.2.1] at hc; cases hc
  have h2 : two.contains ((c :: r).take m) = false := by
    cases h' : two.contains ((c :: r).take m) with
    | false => rfl
    | true => have := (two_head h').1; rw [take_head (by omega), hc] at this; cases this
  unfold rk
  rw [if_neg (by rw [show aD ((c :: r).take m) = false from all_take_not h hm]; simp), take_head (by omega), hA, h2, Bool.false_and, if_neg (by simp), List.length_take, Nat.min_eq_left hm, if_neg (by simp only [Bool.or_false, Bool.and_eq_true, decide_eq_true_eq]; omega)]
theorem rk_word {c : UInt8} {r : List UInt8} {m : Nat} (hc : A c = true) (h1 : 1 ≤ m) (h : m ≤ rn W (c :: r)) : rk ((c :: r).take m) = 2 := by
  unfold rk
  rw [if_neg (by rw [aD_head h1 (A_not hc).2.2.1]; simp), take_head h1, hc, show aW ((c :: r).take m) = true from all_take h]
  rfl
theorem rk_word_no {c : UInt8} {r : List UInt8} {m : Nat} (hc : A c = true) (h : rn W (c :: r) < m) (hm : m ≤ (c :: r).length) : rk ((c :: r).take m) = 0 := by
  have hp := rn_pos (r := r) (A_not hc).2.2.2
  have h2 : two.contains ((c :: r).take m) = false := by
    cases h' : two.contains ((c :: r).take m) with
    | false => rfl
    | true => have := (two_head h').2; rw [take_head (by omega), hc] at this; cases this
  unfold rk
  rw [if_neg (by rw [aD_head (by omega) (A_not hc).2.2.1]; simp), take_head (by omega), show aW ((c :: r).take m) = false from all_take_not h hm, h2, Bool.and_false, if_neg (by simp), List.length_take, Nat.min_eq_left hm, if_neg (by simp only [Bool.or_false, Bool.and_eq_true, decide_eq_true_eq]; omega)]
theorem rk_mark {c : UInt8} {r : List UInt8} {m : Nat} (h1 : 1 ≤ m) (hD : D c = false) (hA : A c = false) :
    rk ((c :: r).take m) = if (decide (((c :: r).take m).length = 1) && sh.contains c) || two.contains ((c :: r).take m) then 3 else 0 := by
  unfold rk
  rw [if_neg (by rw [aD_head h1 hD]; simp), take_head h1, hA, Bool.false_and, if_neg (by simp)]

theorem sz_le' {l : List UInt8} (h : l ≠ []) : sz l ≤ l.length := by
  unfold sz
  split
  · exact rn_le _ _
  · split
    · exact rn_le _ _
    · unfold mk
      split
      · rename_i h2
        have h3 := two_len h2
        rw [List.length_take] at h3
        omega
      · cases l with
        | nil => exact absurd rfl h
        | cons a l => split <;> simp
theorem ez_le {l : List UInt8} (h : l ≠ []) : ez l ≤ l.length := by
  have h1 := sz_le' h
  have h2 : 0 < l.length := List.length_pos_iff.2 h
  unfold ez
  omega
theorem ez_pos (l : List UInt8) : 1 ≤ ez l := by unfold ez; omega

theorem sz_cases (c : UInt8) (r : List UInt8) :
    (D c = true ∧ sz (c :: r) = rn D (c :: r) ∧ kd (c :: r) = 1) ∨ (D c = false ∧ A c = true ∧ sz (c :: r) = rn W (c :: r) ∧ kd (c :: r) = 2) ∨ (D c = false ∧ A c = false ∧ sz (c :: r) = mk (c :: r) ∧ kd (c :: r) = 3) := by
  cases h1 : D c with
  | true => left; simp [sz, kd, h1]
  | false =>
    cases h2 : A c with
    | true => right; left; simp [sz, kd, h1, h2]
    | false => right; right; simp [sz, kd, h1, h2]

theorem ez_mark {c : UInt8} {r : List UInt8} (h1 : D c = false) (h2 : A c = false) : ez (c :: r) = if two.contains ((c :: r).take 2) then 2 else 1 := by
  have h3 : sz (c :: r) = mk (c :: r) := by simp [sz, h1, h2]
  unfold ez
  rw [h3]
  unfold mk
  split
  · rfl
  · split <;> rfl

/-- As long as the document's scan goes on. -/
theorem go_on {c : UInt8} {r : List UInt8} {m : Nat} (h1 : 2 ≤ m) (h : m ≤ ez (c :: r)) : rk ((c :: r).take m) ≠ 0 := by
  rcases sz_cases c r with ⟨hc, hs, -⟩ | ⟨hD, hc, hs, -⟩ | ⟨hD, hA, hs, -⟩
  · have : ez (c :: r) = rn D (c :: r) := by unfold ez; rw [hs]; have := rn_pos (r := r) hc; omega
    rw [rk_digits hc (by omega) (by omega)]; decide
  · have : ez (c :: r) = rn W (c :: r) := by unfold ez; rw [hs]; have := rn_pos (r := r) (A_not hc).2.2.2; omega
    rw [rk_word hc (by omega) (by omega)]; decide
  · rw [ez_mark hD hA] at h
    split at h
    · rename_i h2
      obtain rfl : m = 2 := by omega
      rw [rk_mark (by omega) hD hA, if_pos (by rw [h2]; simp)]; decide
    · omega
/-- .. and where it ends. -/
theorem go_end {c : UInt8} {r : List UInt8} (h : ez (c :: r) < (c :: r).length) : rk ((c :: r).take (ez (c :: r) + 1)) = 0 := by
  rcases sz_cases c r with ⟨hc, hs, -⟩ | ⟨hD, hc, hs, -⟩ | ⟨hD, hA, hs, -⟩
  · have : ez (c :: r) = rn D (c :: r) := by unfold ez; rw [hs]; have := rn_pos (r := r) hc; omega
    exact rk_digits_no hc (by omega) (by omega)
  · have : ez (c :: r) = rn W (c :: r) := by unfold ez; rw [hs]; have := rn_pos (r := r) (A_not hc).2.2.2; omega
    exact rk_word_no hc (by omega) (by omega)
  · have he := ez_mark (r := r) hD hA
    rw [rk_mark (by omega) hD hA]
    have hl : ((c :: r).take (ez (c :: r) + 1)).length = ez (c :: r) + 1 := by rw [List.length_take]; omega
    have hp := ez_pos (c :: r)
    have h2 : two.contains ((c :: r).take (ez (c :: r) + 1)) = false := by
      cases h' : two.contains ((c :: r).take (ez (c :: r) + 1)) with
      | false => rfl
      | true =>
        have h3 := two_len h'
        rw [hl] at h3
        have h4 : ez (c :: r) = 1 := by omega
        rw [h4] at h'
        rw [if_pos h'] at he
        omega
    rw [h2, hl, if_neg (by simp; omega)]

/-- The document's test of a piece. -/
def rgd (x : List UInt8) : Bool := !(rk x == 0 || (rk x == 1 && !num x) || (rk x == 2 && !wrd x))

theorem piece_good {c : UInt8} {r : List UInt8} (h : gd (c :: r) = true) : rk ((c :: r).take (ez (c :: r))) = kd (c :: r) ∧ ez (c :: r) = sz (c :: r) ∧ rgd ((c :: r).take (ez (c :: r))) = true := by
  have hp := gd_pos h
  have he : ez (c :: r) = sz (c :: r) := by unfold ez; omega
  have hk : rk ((c :: r).take (sz (c :: r))) = kd (c :: r) := by
    rcases sz_cases c r with ⟨hc, hs, hk⟩ | ⟨hD, hc, hs, hk⟩ | ⟨hD, hA, hs, hk⟩
    · rw [hk, hs, rk_digits hc (rn_pos hc) (Nat.le_refl _)]
    · rw [hk, hs, rk_word hc (rn_pos (A_not hc).2.2.2) (Nat.le_refl _)]
    · rw [hk, rk_mark (by omega) hD hA, if_pos]
      rw [hs] at hp ⊢
      unfold mk at hp ⊢
      split
      · rename_i h2; rw [h2]; simp
      · split
        · rename_i h2 h3
          have : sh.contains c = true := h3
          rw [this]; simp
        · rename_i h2 h3; rw [if_neg h2, if_neg h3] at hp; omega
  refine ⟨by rw [he, hk], he, ?_⟩
  rw [he]
  unfold rgd
  rw [hk]
  unfold gd at h
  rcases sz_cases c r with ⟨-, -, hk⟩ | ⟨-, -, -, hk⟩ | ⟨-, -, -, hk⟩
  · rw [hk] at h ⊢
    have : num ((c :: r).take (sz (c :: r))) = true := h
    rw [this]; rfl
  · rw [hk] at h ⊢
    have : wrd ((c :: r).take (sz (c :: r))) = true := h
    rw [this]; rfl
  · rw [hk]; rfl

theorem piece_bad {c : UInt8} {r : List UInt8} (h : gd (c :: r) = false) : rgd ((c :: r).take (ez (c :: r))) = false := by
  unfold rgd
  rcases sz_cases c r with ⟨hc, hs, hk⟩ | ⟨hD, hc, hs, hk⟩ | ⟨hD, hA, hs, hk⟩
  · have he : ez (c :: r) = sz (c :: r) := by unfold ez; rw [hs]; have := rn_pos (r := r) hc; omega
    rw [he, show rk ((c :: r).take (sz (c :: r))) = 1 by rw [hs]; exact rk_digits hc (rn_pos hc) (Nat.le_refl _)]
    unfold gd at h
    rw [hk] at h
    have : num ((c :: r).take (sz (c :: r))) = false := h
    rw [this]; rfl
  · have he : ez (c :: r) = sz (c :: r) := by unfold ez; rw [hs]; have := rn_pos (r := r) (A_not hc).2.2.2; omega
    rw [he, show rk ((c :: r).take (sz (c :: r))) = 2 by rw [hs]; exact rk_word hc (rn_pos (A_not hc).2.2.2) (Nat.le_refl _)]
    unfold gd at h
    rw [hk] at h
    have : wrd ((c :: r).take (sz (c :: r))) = false := h
    rw [this]; rfl
  · have h0 : mk (c :: r) = 0 := by
      rcases Nat.eq_zero_or_pos (mk (c :: r)) with h0 | h0
      · exact h0
      · exfalso
        unfold gd at h
        rw [hk, hs] at h
        have h1 : (c :: r).take (mk (c :: r)) ≠ [] := by
          intro e
          have := congrArg List.length e
          simp at this
          omega
        have h2 : (!((c :: r).take (mk (c :: r))).isEmpty) = false := h
        simp only [Bool.not_eq_false', List.isEmpty_iff] at h2
        exact h1 h2
    have h2 : two.contains ((c :: r).take 2) = false := by
      cases h' : two.contains ((c :: r).take 2) with
      | false => rfl
      | true => unfold mk at h0; rw [if_pos h'] at h0; cases h0
    have h3 : sh.contains c = false := by
      cases h' : sh.contains c with
      | false => rfl
      | true => unfold mk at h0; rw [if_neg (by rw [h2]; simp), if_pos (show sh.contains ((c :: r).headD 0) = true from h')] at h0; cases h0
    have he : ez (c :: r) = 1 := by rw [ez_mark hD hA, if_neg (by rw [h2]; simp)]
    have h4 : two.contains ((c :: r).take 1) = false := by simp [two]
    rw [he, rk_mark (by omega) hD hA, h3, h4, if_neg (by simp)]
    rfl

/-- An exclamation mark and an equals sign are one piece. -/
theorem ez_bang (r : List UInt8) : ez (33 :: 61 :: r) = 2 := by
  rw [ez_mark (by decide) (by decide)]
  rfl

end Lx

/-
  Tokens and their texts: which mark, word or number a token is.
-/
import Derived.Test.YtamekjocchekoaaOpr
namespace Go.Proofs.Ytamekjocchekoaa
open Go.RowKit Go.IntWalk Lx Pz
set_option linter.unusedVariables false

/-- The marks that the reader asks for by their text. -/
def mkB (s : Txt) : Bool := (marks.map (·.1)).contains s
theorem wrd_head {s : Txt} (h : wrd s = true) : mkB s = false ∧ s ≠ [] := by
  cases s with
  | nil => simp [wrd] at h
  | cons c r =>
    refine ⟨?_, by simp⟩
    have hA : A c = true := by simp [wrd] at h; exact h.1.2
    have := A_not hA
    have h' : 97 ≤ (c.toNat : Int) ∧ (c.toNat : Int) ≤ 122 := by simpa [A, lt] using hA
    cases hm : mkB (c :: r) with
    | false => rfl
    | true =>
      have : (c :: r) ∈ marks.map (·.1) := by simpa [mkB] using hm
      simp only [marks, List.map_cons, List.map_nil, List.mem_cons, List.not_mem_nil, or_false, List.cons.injEq] at this
      have hc : c = 43 ∨ c = 45 ∨ c = 42 ∨ c = 47 ∨ c = 37 ∨ c = 40 ∨ c = 41 ∨ c = 44 ∨ c = 59 ∨ c = 61 ∨ c = 63 ∨ c = 58 ∨ c = 60 ∨ c = 62 ∨ c = 38 ∨ c = 124 ∨ c = 94 ∨ c = 33 := by
        rcases this with h | h | h | h | h | h | h | h | h | h | h | h | h | h | h | h | h | h | h | h | h | h | h <;> simp [h.1]
      rcases hc with rfl | rfl | rfl | rfl | rfl | rfl | rfl | rfl | rfl | rfl | rfl | rfl | rfl | rfl | rfl | rfl | rfl | rfl <;> simp at h'
theorem num_head {s : Txt} (h : num s = true) : mkB s = false ∧ s ≠ [] := by
  cases s with
  | nil => simp [num] at h
  | cons c r =>
    refine ⟨?_, by simp⟩
    have hA : D c = true := by simp [num] at h; exact h.1.1.1
    have h' : 48 ≤ (c.toNat : Int) ∧ (c.toNat : Int) ≤ 57 := by simpa [D, dg] using hA
    cases hm : mkB (c :: r) with
    | false => rfl
    | true =>
      have : (c :: r) ∈ marks.map (·.1) := by simpa [mkB] using hm
      simp only [marks, List.map_cons, List.map_nil, List.mem_cons, List.not_mem_nil, or_false, List.cons.injEq] at this
      have hc : c = 43 ∨ c = 45 ∨ c = 42 ∨ c = 47 ∨ c = 37 ∨ c = 40 ∨ c = 41 ∨ c = 44 ∨ c = 59 ∨ c = 61 ∨ c = 63 ∨ c = 58 ∨ c = 60 ∨ c = 62 ∨ c = 38 ∨ c = 124 ∨ c = 94 ∨ c = 33 := by
        rcases this with h | h | h | h | h | h | h | h | h | h | h | h | h | h | h | h | h | h | h | h | h | h | h <;> simp [h.1]
      rcases hc with rfl | rfl | rfl | rfl | rfl | rfl | rfl | rfl | rfl | rfl | rfl | rfl | rfl | rfl | rfl | rfl | rfl | rfl <;> simp at h'

theorem ab_num {t : Tok} (h : t.kind = 1) : ab t = .num (vl t.text) := by unfold ab; rw [if_pos h]
theorem ab_word {t : Tok} (h : t.kind = 2) : ab t = .word t.text := by unfold ab; rw [if_neg (by omega), if_pos h]
theorem ab_mark {t : Tok} (h : t.kind = 3) : ab t = mkT t.text := by unfold ab; rw [if_neg (by omega), if_neg (by omega)]
theorem mk_not {s : Txt} (h : s ∈ marks.map (·.1)) : (∀ v, mkT s ≠ .num v) ∧ (∀ w, mkT s ≠ .word w) := by
  simp only [marks, List.map_cons, List.map_nil, List.mem_cons, List.not_mem_nil, or_false] at h
  rcases h with rfl | rfl | rfl | rfl | rfl | rfl | rfl | rfl | rfl | rfl | rfl | rfl | rfl | rfl | rfl | rfl | rfl | rfl | rfl | rfl | rfl | rfl | rfl <;> exact ⟨fun _ => by simp [mkT, marks], fun _ => by simp [mkT, marks]⟩
theorem mk_inj {s t : Txt} (hs : s ∈ marks.map (·.1)) (ht : t ∈ marks.map (·.1)) (h : mkT s = mkT t) : s = t := by
  have key : ∀ a ∈ marks.map (·.1), ∀ b ∈ marks.map (·.1), mkT a = mkT b → a = b := by decide
  exact key s hs t ht h

/-- A token has a mark's text just where it is that mark. -/
theorem text_iff {t : Tok} (h : Wf t) {s : Txt} (hs : s ∈ marks.map (·.1)) : t.text = s ↔ ab t = mkT s := by
  have hb : mkB s = true := by simpa [mkB] using hs
  rcases h with ⟨hk, hn⟩ | ⟨hk, hn⟩ | ⟨hk, hn⟩
  · constructor
    · intro e; rw [e] at hn; rw [(num_head hn).1] at hb; cases hb
    · intro e; rw [ab_num hk] at e; exact absurd e.symm ((mk_not hs).1 _)
  · constructor
    · intro e; rw [e] at hn; rw [(wrd_head hn).1] at hb; cases hb
    · intro e; rw [ab_word hk] at e; exact absurd e.symm ((mk_not hs).2 _)
  · rw [ab_mark hk]
    exact ⟨fun e => by rw [e], fun e => mk_inj hn hs e⟩
/-- A token has a word's text just where it is that word. -/
theorem word_iff {t : Tok} (h : Wf t) {s : Txt} (hs : wrd s = true) : t.text = s ↔ ab t = .word s := by
  rcases h with ⟨hk, hn⟩ | ⟨hk, hn⟩ | ⟨hk, hn⟩
  · constructor
    · intro e
      rw [e] at hn
      cases s with
      | nil => simp [wrd] at hs
      | cons c r =>
        have hA : A c = true := by simp [wrd] at hs; exact hs.1.2
        have hD : D c = true := by simp [num] at hn; exact hn.1.1.1
        rw [(A_not hA).2.2.1] at hD; cases hD
    · intro e; rw [ab_num hk] at e; cases e
  · rw [ab_word hk]; exact ⟨fun e => by rw [e], fun e => by cases e; rfl⟩
  · constructor
    · intro e; rw [e] at hn; have : mkB s = true := by simpa [mkB] using hn
      rw [(wrd_head hs).1] at this; cases this
    · intro e; rw [ab_mark hk] at e; exact absurd e ((mk_not hn).2 _)
theorem kind1 {t : Tok} (h : Wf t) {v : Int} (e : ab t = .num v) : t.kind = 1 ∧ num t.text = true ∧ vl t.text = v := by
  rcases h with ⟨hk, hn⟩ | ⟨hk, hn⟩ | ⟨hk, hn⟩
  · rw [ab_num hk] at e; cases e; exact ⟨hk, hn, rfl⟩
  · rw [ab_word hk] at e; cases e
  · rw [ab_mark hk] at e; exact absurd e ((mk_not hn).1 _)
theorem kind2 {t : Tok} (h : Wf t) {s : Txt} (e : ab t = .word s) : t.kind = 2 ∧ wrd t.text = true ∧ t.text = s := by
  rcases h with ⟨hk, hn⟩ | ⟨hk, hn⟩ | ⟨hk, hn⟩
  · rw [ab_num hk] at e; cases e
  · rw [ab_word hk] at e; cases e; exact ⟨hk, hn, rfl⟩
  · rw [ab_mark hk] at e; exact absurd e ((mk_not hn).2 _)
theorem kind3 {t : Tok} (h : Wf t) (h1 : ∀ v, ab t ≠ .num v) (h2 : ∀ s, ab t ≠ .word s) : t.kind = 3 := by
  rcases h with ⟨hk, hn⟩ | ⟨hk, hn⟩ | ⟨hk, hn⟩
  · exact absurd (ab_num hk) (h1 _)
  · exact absurd (ab_word hk) (h2 _)
  · exact hk
theorem num_no_mark {t : Tok} (h : Wf t) (h1 : ∀ v, ab t ≠ .num v) : num t.text = false := by
  rcases h with ⟨hk, hn⟩ | ⟨hk, hn⟩ | ⟨hk, hn⟩
  · exact absurd (ab_num hk) (h1 _)
  · cases hs : num t.text with
    | false => rfl
    | true =>
      cases ht : t.text with
      | nil => rw [ht] at hs; simp [num] at hs
      | cons c r =>
        rw [ht] at hs hn
        have hA : A c = true := by simp [wrd] at hn; exact hn.1.2
        have hD : D c = true := by simp [num] at hs; exact hs.1.1.1
        rw [(A_not hA).2.2.1] at hD; cases hD
  · cases hs : num t.text with
    | false => rfl
    | true => have : mkB t.text = true := by simpa [mkB] using hn
              rw [(num_head hs).1] at this; cases this

/-- The operator of a token at a level. -/
theorem opL_mark (k : Nat) {s : Txt} (hs : s ∈ marks.map (·.1)) : (opL k s = 0 ∧ ∀ o, mkT s ≠ .op k o) ∨ (opL k s ≠ 0 ∧ mkT s = .op k (opL k s)) := by
  by_cases hk : k < 7
  · rcases (show k = 0 ∨ k = 1 ∨ k = 2 ∨ k = 3 ∨ k = 4 ∨ k = 5 ∨ k = 6 by omega) with rfl | rfl | rfl | rfl | rfl | rfl | rfl <;>
    · simp only [marks, List.map_cons, List.map_nil, List.mem_cons, List.not_mem_nil, or_false] at hs
      rcases hs with rfl | rfl | rfl | rfl | rfl | rfl | rfl | rfl | rfl | rfl | rfl | rfl | rfl | rfl | rfl | rfl | rfl | rfl | rfl | rfl | rfl | rfl | rfl <;> first
      | exact .inl ⟨by decide, fun o => by simp [mkT, marks]⟩
      | exact .inr ⟨by decide, by decide⟩
  · left
    constructor
    · unfold opL
      have : rows.find? (fun r => r.1 == k && r.2.1 == s) = none := by
        rw [List.find?_eq_none]
        intro r hr
        have : r.1 < 7 := by
          have key : ∀ r ∈ rows, r.1 < 7 := by decide
          exact key r hr
        simp
        intro e; omega
      rw [this]; rfl
    · intro o e
      have key : ∀ a ∈ marks.map (·.1), ∀ k o, mkT a = .op k o → k < 7 := by
        intro a ha k o
        simp only [marks, List.map_cons, List.map_nil, List.mem_cons, List.not_mem_nil, or_false] at ha
        rcases ha with rfl | rfl | rfl | rfl | rfl | rfl | rfl | rfl | rfl | rfl | rfl | rfl | rfl | rfl | rfl | rfl | rfl | rfl | rfl | rfl | rfl | rfl | rfl <;> simp [mkT, marks] <;> omega
      have := key s hs k o e
      omega
theorem opL_none {k : Nat} {s : Txt} (h : mkB s = false) : opL k s = 0 := by
  unfold opL
  have : rows.find? (fun r => r.1 == k && r.2.1 == s) = none := by
    rw [List.find?_eq_none]
    intro r hr
    have key : ∀ r ∈ rows, mkB r.2.1 = true := by decide
    simp only [Bool.and_eq_true, beq_iff_eq, not_and]
    intro _ e
    have := key r hr
    rw [e, h] at this; cases this
  rw [this]; rfl
theorem opL_tok (k : Nat) {t : Tok} (h : Wf t) : (opL k t.text = 0 ∧ ∀ o, ab t ≠ .op k o) ∨ (opL k t.text ≠ 0 ∧ ab t = .op k (opL k t.text)) := by
  rcases h with ⟨hk, hn⟩ | ⟨hk, hn⟩ | ⟨hk, hn⟩
  · exact .inl ⟨opL_none (num_head hn).1, fun o => by rw [ab_num hk]; simp⟩
  · exact .inl ⟨opL_none (wrd_head hn).1, fun o => by rw [ab_word hk]; simp⟩
  · rw [ab_mark hk]; exact opL_mark k hn

/- the head of a list of tokens -/
theorem hd_ne {T : List Tok} (hw : ∀ t ∈ T, Wf t) {s : Txt} (hs : s ∈ marks.map (·.1)) (h : (T.map ab).head? ≠ some (mkT s)) : (hd T).text ≠ s := by
  cases T with
  | nil =>
    intro e
    have key : ∀ a ∈ marks.map (·.1), a ≠ [] := by decide
    exact key s hs e.symm
  | cons t T =>
    intro e
    exact h (by simp [(text_iff (hw t (by simp)) hs).1 e])
theorem hd_eq {T : List Tok} (hw : ∀ t ∈ T, Wf t) {s : Txt} (hs : s ∈ marks.map (·.1)) {r : List Tk} (h : T.map ab = mkT s :: r) : ∃ t T', T = t :: T' ∧ t.text = s ∧ T'.map ab = r := by
  cases T with
  | nil => simp at h
  | cons t T =>
    simp only [List.map_cons, List.cons.injEq] at h
    exact ⟨t, T, rfl, (text_iff (hw t (by simp)) hs).2 h.1, h.2⟩

end Go.Proofs.Ytamekjocchekoaa

/-
  What holds of the tokens of a text, as plain lists of bytes.
-/
import Derived.Test.YtodgjjkpbcadoaaGreatDoorPure
namespace Lx
set_option linter.unusedVariables false

/- what stands between tokens -/

/-- The bytes of a gap, read from a state (inside a remark or not); none: a byte that may not stand there. -/
def gp : Bool → List UInt8 → Option Bool
  | r, [] => some r
  | r, c :: t => if ((r || c == 35) && c != 10) = false ∧ bl c = false then none else gp ((r || c == 35) && c != 10) t

theorem gp_append : ∀ (a b : List UInt8) (r : Bool), gp r (a ++ b) = (gp r a).bind fun q => gp q b
  | [], b, r => rfl
  | c :: a, b, r => by
    rw [List.cons_append, gp, gp]
    split
    · rfl
    · exact gp_append a b _
theorem gp_blank {c : UInt8} (h : bl c = true) (t : List UInt8) : gp false (c :: t) = gp false t := by
  have h35 : (c == 35) = false := by
    cases h' : (c == 35)
    · rfl
    · simp only [beq_iff_eq] at h'; subst h'; exact absurd h (by decide)
  rw [gp, if_neg (by simp [h])]
  simp [h35]
theorem gp_rem : ∀ (x : List UInt8), x.all nl = true → gp true x = some true
  | [], _ => rfl
  | c :: x, h => by
    simp only [List.all_cons, Bool.and_eq_true] at h
    have hc : (c != 10) = true := h.1
    rw [gp, if_neg (by simp [hc])]
    simp only [Bool.true_or, Bool.true_and, hc]
    exact gp_rem x h.2
theorem gp_remark {x : List UInt8} (h : x.all nl = true) : gp false (35 :: x) = some true := by
  rw [gp, if_neg (by decide)]
  exact gp_rem x h
theorem gp_line {x : List UInt8} (h : x.all nl = true) : gp false (35 :: (x ++ [10])) = some false := by
  have : gp false ((35 :: x) ++ [10]) = some false := by
    rw [gp_append, gp_remark h]
    rfl
  exact this

/-- Tokens stand in a text at their places, and between them what is passed over. -/
def Cov : List UInt8 → Nat → List Tok → Prop
  | l, p, [] => ∃ r, gp false l = some r
  | l, p, t :: T => ∃ g rest, l = g ++ (t.text ++ rest) ∧ t.pos = p + g.length ∧ gp false g = some false ∧ Fm t.kind t.text ∧ may t.kind t.text = true ∧ Cov rest (t.pos + t.text.length) T

theorem Cov.ahead {g0 r : List UInt8} {p : Nat} {T : List Tok} (h0 : gp false g0 = some false) (h : Cov r (p + g0.length) T) : Cov (g0 ++ r) p T := by
  cases T with
  | nil =>
    obtain ⟨q, hq⟩ := h
    exact ⟨q, by rw [gp_append, h0]; exact hq⟩
  | cons t T =>
    obtain ⟨g, rest, rfl, hp, hg, hf, hm, hc⟩ := h
    exact ⟨g0 ++ g, rest, by simp, by rw [hp, List.length_append]; omega, by rw [gp_append, h0]; exact hg, hf, hm, hc⟩

theorem cov_of : ∀ (n : Nat) (l : List UInt8) (p : Nat) (T : List Tok), l.length ≤ n → sc l p = some T → Cov l p T := by
  intro n
  induction n with
  | zero =>
    intro l p T hl h
    have : l = [] := List.eq_nil_of_length_eq_zero (by omega)
    subst this
    rw [sc_nil] at h
    cases h
    exact ⟨false, rfl⟩
  | succ n ih =>
    intro l p T hl h
    cases l with
    | nil =>
      rw [sc_nil] at h
      cases h
      exact ⟨false, rfl⟩
    | cons c r =>
      have hr : r.length ≤ n := by simpa using hl
      by_cases hb : bl c = true
      · rw [sc_blank hb] at h
        exact Cov.ahead (g0 := [c]) (by rw [gp_blank hb]; rfl) (ih r _ T hr h)
      · simp only [Bool.not_eq_true] at hb
        by_cases h35 : c = 35
        · subst h35
          rw [sc_rem] at h
          have ha := takeWhile_all nl r
          have hs := takeWhile_split nl r
          cases hd : r.dropWhile nl with
          | nil =>
            rw [hd, sc_nil] at h
            cases h
            rw [hd, List.append_nil] at hs
            rw [hs] at ha
            exact ⟨true, gp_remark ha⟩
          | cons d t =>
            have hd10 : d = 10 := by
              have := List.head?_dropWhile_not nl r
              rw [hd] at this
              simpa [nl] using this
            subst hd10
            rw [hd, sc_blank (by decide)] at h
            have hlen : t.length ≤ n := by
              have := dropWhile_le nl r
              rw [hd] at this
              simp at this
              omega
            have hc := ih t _ T hlen h
            have e : 35 :: r = (35 :: (r.takeWhile nl ++ [10])) ++ t := by
              rw [hd] at hs
              simp [hs]
            rw [e]
            refine Cov.ahead (gp_line ha) ?_
            have e2 : p + 1 + rn nl r + 1 = p + (35 :: (r.takeWhile nl ++ [10])).length := by
              simp [rn]; omega
            rw [← e2]
            exact hc
        · cases hg : gd (c :: r) with
          | false => rw [sc_bad hb h35 hg] at h; cases h
          | true =>
            have hp := gd_pos hg
            have hf := form_of_good (by simp) hg
            rw [sc_tok hb h35 hg] at h
            cases h1 : sc ((c :: r).drop (sz (c :: r))) (p + sz (c :: r)) with
            | none => rw [h1] at h; cases h
            | some T' =>
              rw [h1] at h
              simp only [Option.map_some, Option.some.injEq] at h
              subst h
              have hne : (c :: r).take (sz (c :: r)) ≠ [] := hf.1.1
              refine ⟨[], (c :: r).drop (sz (c :: r)), by simp, rfl, rfl, hf.1, hf.2, ?_⟩
              have hcov := ih _ _ T' (by rw [List.length_drop]; simp at hl ⊢; omega) h1
              have hl2 : (List.take (sz (c :: r)) (c :: r)).length = sz (c :: r) ∨ (List.drop (sz (c :: r)) (c :: r)) = [] := by
                rcases Nat.le_total (sz (c :: r)) (c :: r).length with h | h
                · left; rw [List.length_take]; omega
                · right; exact List.drop_of_length_le h
              rcases hl2 with hl2 | hl2
              · show Cov _ (p + (List.take (sz (c :: r)) (c :: r)).length) T'
                rw [hl2]
                exact hcov
              · rw [hl2, sc_nil] at h1
                cases h1
                rw [hl2]
                exact ⟨false, rfl⟩

/- a foreign byte -/

/-- A byte that a token, or what is passed over but remarks, may have. -/
def nat (c : UInt8) : Bool := bl c || W c || sh.contains c || c == 33

theorem form_nat {k : Int} {x : List UInt8} (h : Fm k x) : ∀ b ∈ x, nat b = true := by
  intro b hb
  obtain ⟨-, h⟩ := h
  rcases h with ⟨-, h⟩ | ⟨-, -, h⟩ | ⟨-, h | ⟨c, hc, rfl⟩⟩
  · have h1 := List.all_eq_true.1 h b hb
    have : W b = true := by simp [W, wi, show dg b.toNat = true from h1]
    simp [nat, this]
  · have h1 := List.all_eq_true.1 h b hb
    simp [nat, h1]
  · rcases contains_two h with h | h | h | h | h | h <;> subst h <;> revert b <;> decide
  · simp at hb
    subst hb
    have : sh.contains b = true := hc
    simp only [nat, this, Bool.or_true, Bool.true_or]

theorem gp_nat : ∀ (g : List UInt8) (r : Bool), 35 ∉ g → gp false g = some r → ∀ b ∈ g, bl b = true
  | [], _, _, _ => by simp
  | c :: g, r, h35, h => by
    have hc : (c == 35) = false := by
      simp at h35 ⊢
      exact fun e => h35.1 e.symm
    rw [gp] at h
    simp only [hc, Bool.false_or, Bool.false_and, true_and] at h
    cases hb : bl c with
    | false => rw [if_pos (by simp [hb])] at h; cases h
    | true =>
      rw [if_neg (by simp [hb])] at h
      intro b hb'
      rcases List.mem_cons.1 hb' with rfl | hb'
      · exact hb
      · exact gp_nat g r (fun e => h35 (List.mem_cons_of_mem _ e)) h b hb'

theorem cov_nat : ∀ (T : List Tok) (l : List UInt8) (p : Nat), 35 ∉ l → Cov l p T → ∀ b ∈ l, nat b = true
  | [], l, p, h35, ⟨r, h⟩ => fun b hb => by simp [nat, gp_nat l r h35 h b hb]
  | t :: T, l, p, h35, ⟨g, rest, e, hp, hg, hf, hm, hc⟩ => by
    subst e
    intro b hb
    rcases List.mem_append.1 hb with hb | hb
    · simp [nat, gp_nat g false (fun e => h35 (List.mem_append_left _ e)) hg b hb]
    · rcases List.mem_append.1 hb with hb | hb
      · exact form_nat hf b hb
      · exact cov_nat T rest _ (fun e => h35 (List.mem_append_right _ (List.mem_append_right _ e))) hc b hb

/-- A text with a foreign byte, and without a remark, has no tokens. -/
theorem tks_foreign {l : List UInt8} {c : UInt8} (h35 : 35 ∉ l) (hc : c ∈ l) (hn : nat c = false) : tks l = none := by
  unfold tks
  split
  · rfl
  · cases h : sc l 0 with
    | none => rfl
    | some T =>
      have := cov_nat T l 0 h35 (cov_of _ l 0 T (Nat.le_refl _) h) c hc
      rw [hn] at this
      cases this

/- tokens told again -/

/-- What may be written between tokens. -/
def btw : List UInt8 → Prop := fun b => b = [32] ∨ b = [9, 10, 32] ∨ b = [32, 35, 32, 255, 32, 97, 32, 60, 32, 98, 10]

theorem sc_btw {b : List UInt8} (hb : btw b) (l : List UInt8) (p : Nat) : sc (b ++ l) p = sc l (p + b.length) := by
  rcases hb with rfl | rfl | rfl
  · exact sc_blank (by decide) l p
  · show sc (9 :: 10 :: 32 :: l) p = _
    rw [sc_blank (by decide), sc_blank (by decide), sc_blank (by decide)]
    rfl
  · show sc (32 :: 35 :: 32 :: 255 :: 32 :: 97 :: 32 :: 60 :: 32 :: 98 :: 10 :: l) p = _
    rw [sc_blank (by decide), sc_rem]
    have e1 : (32 :: 255 :: 32 :: 97 :: 32 :: 60 :: 32 :: 98 :: 10 :: l : List UInt8).dropWhile nl = 10 :: l := by
      simp [List.dropWhile_cons, nl]
    have e2 : rn nl (32 :: 255 :: 32 :: 97 :: 32 :: 60 :: 32 :: 98 :: 10 :: l) = 8 := by
      simp [rn, List.takeWhile_cons, nl]
    rw [e1, e2, sc_blank (by decide)]
    rfl

theorem btw_sep {b : List UInt8} (hb : btw b) (l : List UInt8) : Sep (b ++ l) := by
  rcases hb with rfl | rfl | rfl
  · exact .inr ⟨_, .inl rfl⟩
  · exact .inr ⟨_, .inr rfl⟩
  · exact .inr ⟨_, .inl rfl⟩

/-- Tokens told with something between them: pieces (what stands ahead, the token). -/
def glue : List (List UInt8 × Tok) → List UInt8
  | [] => []
  | (b, t) :: r => b ++ (t.text ++ glue r)

theorem glue_sep (L : List (List UInt8 × Tok)) (h : ∀ q ∈ L, btw q.1) : Sep (glue L) := by
  cases L with
  | nil => exact .inl rfl
  | cons q L => exact btw_sep (h q (List.mem_cons_self ..)) _

theorem sc_glue : ∀ (L : List (List UInt8 × Tok)) (p : Nat), (∀ q ∈ L, btw q.1 ∧ Fm q.2.kind q.2.text ∧ may q.2.kind q.2.text = true) →
    ∃ T, sc (glue L) p = some T ∧ T.length = L.length ∧ ∀ i, i < L.length → (T.getD i ⟨0, [], 0⟩).kind = (L.getD i ([], ⟨0, [], 0⟩)).2.kind ∧ (T.getD i ⟨0, [], 0⟩).text = (L.getD i ([], ⟨0, [], 0⟩)).2.text
  | [], p, _ => ⟨[], by rw [glue, sc_nil], rfl, by simp⟩
  | (b, t) :: L, p, h => by
    obtain ⟨hb, hf, hm⟩ := h (b, t) (List.mem_cons_self ..)
    have hL : ∀ q ∈ L, btw q.1 ∧ Fm q.2.kind q.2.text ∧ may q.2.kind q.2.text = true := fun q hq => h q (List.mem_cons_of_mem _ hq)
    obtain ⟨T, hT, hl, hi⟩ := sc_glue L (p + b.length + t.text.length) hL
    obtain ⟨c, x, hx, hbl, h35, hk, hz⟩ := again hf (glue_sep L fun q hq => (hL q hq).1)
    have htake : (t.text ++ glue L).take t.text.length = t.text := List.take_left
    have hdrop : (t.text ++ glue L).drop t.text.length = glue L := List.drop_left
    have hg : gd (t.text ++ glue L) = true := by
      unfold gd
      rw [hk, hz, htake]
      exact hm
    have hs : sc (glue ((b, t) :: L)) p = some (⟨t.kind, t.text, p + b.length⟩ :: T) := by
      rw [glue, sc_btw hb]
      have e : t.text ++ glue L = c :: (x ++ glue L) := by rw [hx]; rfl
      have h1 := sc_tok (c := c) (r := x ++ glue L) hbl h35 (by rw [← e]; exact hg) (p + b.length)
      rw [← e, hz, hk, htake, hdrop, hT] at h1
      rw [h1]
      rfl
    refine ⟨_, hs, by simp [hl], ?_⟩
    intro i hi'
    cases i with
    | zero => exact ⟨rfl, rfl⟩
    | succ i => exact hi i (by simpa using hi')

theorem cov_good : ∀ (T : List Tok) (l : List UInt8) (p : Nat), Cov l p T → ∀ t ∈ T, Fm t.kind t.text ∧ may t.kind t.text = true
  | [], _, _, _ => by simp
  | t :: T, l, p, ⟨g, rest, e, hp, hg, hf, hm, hc⟩ => by
    intro q hq
    rcases List.mem_cons.1 hq with rfl | hq
    · exact ⟨hf, hm⟩
    · exact cov_good T rest _ hc q hq

theorem tks_cov {l : List UInt8} {T : List Tok} (h : tks l = some T) : Cov l 0 T ∧ l.length ≤ 1024 := by
  unfold tks at h
  split at h
  · cases h
  · exact ⟨cov_of _ l 0 T (Nat.le_refl _) h, by omega⟩

end Lx

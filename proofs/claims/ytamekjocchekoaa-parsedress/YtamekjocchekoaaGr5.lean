/-
  Texts put together: their tokens.
-/
import Derived.Test.YtamekjocchekoaaGr4
namespace Pz
open Lx
set_option linter.unusedVariables false

/-- The tokens of a text, wherever it stands. -/
def ak (l : List UInt8) : Option (List Tk) := (sc l 0).map (List.map ab)

theorem ab_pos (k : Int) (x : Txt) (p q : Nat) : ab ⟨k, x, p⟩ = ab ⟨k, x, q⟩ := rfl
theorem sk_pos : ∀ (n : Nat) (l : List UInt8) (p q : Nat), l.length ≤ n → (sc l p).map (List.map ab) = (sc l q).map (List.map ab) := by
  intro n
  induction n with
  | zero =>
    intro l p q h
    have : l = [] := List.length_eq_zero_iff.1 (by omega)
    subst this
    rw [sc_nil, sc_nil]
  | succ n ih =>
    intro l p q h
    cases l with
    | nil => rw [sc_nil, sc_nil]
    | cons c r =>
      simp only [List.length_cons] at h
      cases hb : bl c with
      | true => rw [sc_blank hb, sc_blank hb]; exact ih r _ _ (by omega)
      | false =>
        by_cases h35 : c = 35
        · subst h35
          rw [sc_rem, sc_rem]
          exact ih _ _ _ (by have := dropWhile_le nl r; omega)
        · cases hg : gd (c :: r) with
          | false => rw [sc_bad hb h35 hg, sc_bad hb h35 hg]
          | true =>
            rw [sc_tok hb h35 hg, sc_tok hb h35 hg]
            have hp := gd_pos hg
            have := ih ((c :: r).drop (sz (c :: r))) (p + sz (c :: r)) (q + sz (c :: r)) (by simp; omega)
            cases h1 : sc ((c :: r).drop (sz (c :: r))) (p + sz (c :: r)) with
            | none =>
              rw [h1] at this
              cases h2 : sc ((c :: r).drop (sz (c :: r))) (q + sz (c :: r)) with
              | none => rfl
              | some T => rw [h2] at this; cases this
            | some T =>
              rw [h1] at this
              cases h2 : sc ((c :: r).drop (sz (c :: r))) (q + sz (c :: r)) with
              | none => rw [h2] at this; cases this
              | some T' =>
                rw [h2] at this
                simp only [Option.map_some, Option.some.injEq] at this
                simp only [Option.map_some, List.map_cons, this]
                rfl
theorem sk_ak (l : List UInt8) (p : Nat) : (sc l p).map (List.map ab) = ak l := sk_pos l.length l p 0 (Nat.le_refl _)

theorem ak_nil : ak [] = some [] := by unfold ak; rw [sc_nil]; rfl
theorem ak_blank {c : UInt8} (h : bl c = true) (r : List UInt8) : ak (c :: r) = ak r := by
  show (sc (c :: r) 0).map (List.map ab) = _
  rw [sc_blank h, sk_ak]
theorem ak_rem (r : List UInt8) : ak (35 :: r) = ak (r.dropWhile nl) := by
  show (sc (35 :: r) 0).map (List.map ab) = _
  rw [sc_rem, sk_ak]
theorem ak_tok {c : UInt8} {r : List UInt8} (h1 : bl c = false) (h2 : c ≠ 35) (h : gd (c :: r) = true) :
    ak (c :: r) = (ak ((c :: r).drop (sz (c :: r)))).map (ab ⟨kd (c :: r), (c :: r).take (sz (c :: r)), 0⟩ :: ·) := by
  show (sc (c :: r) 0).map (List.map ab) = _
  rw [sc_tok h1 h2 h, ← sk_ak _ (0 + sz (c :: r)), Option.map_map, Option.map_map]
  rfl
theorem ak_bad {c : UInt8} {r : List UInt8} (h1 : bl c = false) (h2 : c ≠ 35) (h : gd (c :: r) = false) : ak (c :: r) = none := by
  show (sc (c :: r) 0).map (List.map ab) = _
  rw [sc_bad h1 h2 h]; rfl
theorem ak_of {l : List UInt8} {T : List Tok} (h : tks l = some T) : ak l = some (T.map ab) ∧ l.length ≤ 1024 := by
  unfold tks at h
  split at h
  · cases h
  · exact ⟨by unfold ak; rw [h]; rfl, by omega⟩
theorem tks_ak {l : List UInt8} {A : List Tk} (h : ak l = some A) (hl : l.length ≤ 1024) : ∃ T, tks l = some T ∧ T.map ab = A := by
  unfold tks
  rw [if_neg (by omega)]
  unfold ak at h
  cases hs : sc l 0 with
  | none => rw [hs] at h; cases h
  | some T => rw [hs] at h; cases h; exact ⟨T, rfl, rfl⟩

/-- What can't be part of a token that stands ahead of it. -/
def cuts (d : UInt8) : Prop := W d = false ∧ D d = false ∧ d ≠ 61 ∧ d ≠ 60 ∧ d ≠ 62
theorem cuts_nl : cuts 10 := ⟨by decide, by decide, by decide, by decide, by decide⟩
theorem cuts_sp : cuts 32 := ⟨by decide, by decide, by decide, by decide, by decide⟩
theorem cuts_sh : cuts 35 := ⟨by decide, by decide, by decide, by decide, by decide⟩
theorem cuts_lp : cuts 40 := ⟨by decide, by decide, by decide, by decide, by decide⟩

theorem takeWhile_cut (p : UInt8 → Bool) : ∀ (x r : List UInt8) {d : UInt8}, p d = false → (x ++ d :: r).takeWhile p = x.takeWhile p
  | [], r, d, h => by simp [h]
  | a :: x, r, d, h => by
    rw [List.cons_append, List.takeWhile_cons, List.takeWhile_cons, takeWhile_cut p x r h]
theorem dropWhile_nl : ∀ (x r : List UInt8), (x ++ 10 :: r).dropWhile nl = x.dropWhile nl ++ 10 :: r
  | [], r => by rw [List.nil_append, List.dropWhile_cons]; rfl
  | a :: x, r => by
    rw [List.cons_append, List.dropWhile_cons, List.dropWhile_cons, dropWhile_nl x r]
    split <;> rfl
theorem two_cut {c d : UInt8} (hd : cuts d) (x r : List UInt8) : two.contains ((c :: (x ++ d :: r)).take 2) = two.contains ((c :: x).take 2) := by
  cases x with
  | nil =>
    simp only [List.nil_append, List.take_succ_cons, List.take_zero, List.take_nil]
    have : two.contains [c, d] = false := by
      obtain ⟨-, -, h1, h2, h3⟩ := hd
      simp [two, h1, h2, h3]
    rw [this]
    simp [two]
  | cons a x => rfl
theorem sz_cut {c d : UInt8} (hd : cuts d) (x r : List UInt8) : sz (c :: (x ++ d :: r)) = sz (c :: x) := by
  have hmk : mk (c :: (x ++ d :: r)) = mk (c :: x) := by
    unfold mk
    rw [two_cut hd]
    rfl
  have h1 : rn D (c :: (x ++ d :: r)) = rn D (c :: x) := by unfold rn; rw [← List.cons_append, takeWhile_cut D _ _ hd.2.1]
  have h2 : rn W (c :: (x ++ d :: r)) = rn W (c :: x) := by unfold rn; rw [← List.cons_append, takeWhile_cut W _ _ hd.1]
  show (if D c = true then rn D (c :: (x ++ d :: r)) else if A c = true then rn W (c :: (x ++ d :: r)) else mk (c :: (x ++ d :: r))) = if D c = true then rn D (c :: x) else if A c = true then rn W (c :: x) else mk (c :: x)
  rw [hmk, h1, h2]
theorem kd_cut (c : UInt8) (x y : List UInt8) : kd (c :: x) = kd (c :: y) := rfl

theorem takeWhile_le' (p : UInt8 → Bool) (l : List UInt8) : (l.takeWhile p).length ≤ l.length := by
  have := congrArg List.length (takeWhile_split p l)
  rw [List.length_append] at this
  omega
theorem mk_le' (c : UInt8) (x : List UInt8) : mk (c :: x) ≤ (c :: x).length := by
  unfold mk
  split
  · rename_i h
    cases x with
    | nil => simp [two] at h
    | cons a x => simp
  · split
    · simp
    · simp
theorem sz_le' (c : UInt8) (x : List UInt8) : sz (c :: x) ≤ (c :: x).length := by
  unfold sz
  split
  · exact takeWhile_le' _ _
  · split
    · exact takeWhile_le' _ _
    · exact mk_le' c x

/-- A text, a line's end, and what follows. -/
theorem ak_nl : ∀ (n : Nat) (a r : List UInt8), a.length ≤ n → ak (a ++ 10 :: r) = (ak a).bind fun A => (ak r).map (A ++ ·) := by
  intro n
  induction n with
  | zero =>
    intro a r h
    have : a = [] := List.length_eq_zero_iff.1 (by omega)
    subst this
    rw [List.nil_append, ak_blank (by decide), ak_nil]
    simp
  | succ n ih =>
    intro a r h
    cases a with
    | nil =>
      rw [List.nil_append, ak_blank (by decide), ak_nil]
      simp
    | cons c x =>
      simp only [List.length_cons] at h
      rw [List.cons_append]
      cases hb : bl c with
      | true => rw [ak_blank hb, ak_blank hb]; exact ih x r (by omega)
      | false =>
        by_cases h35 : c = 35
        · subst h35
          rw [ak_rem, ak_rem, dropWhile_nl]
          exact ih _ r (by have := dropWhile_le nl x; omega)
        · have hz := sz_cut (c := c) cuts_nl x r
          have hle := sz_le' c x
          have ht : (c :: (x ++ 10 :: r)).take (sz (c :: x)) = (c :: x).take (sz (c :: x)) := by
            rw [← List.cons_append, List.take_append_of_le_length hle]
          have hd : (c :: (x ++ 10 :: r)).drop (sz (c :: x)) = (c :: x).drop (sz (c :: x)) ++ 10 :: r := by
            rw [← List.cons_append, List.drop_append_of_le_length hle]
          have hg : gd (c :: (x ++ 10 :: r)) = gd (c :: x) := by
            unfold gd
            rw [hz, ht]
            rfl
          cases hgd : gd (c :: x) with
          | false => rw [ak_bad hb h35 (hg.trans hgd), ak_bad hb h35 hgd]; rfl
          | true =>
            rw [ak_tok hb h35 (hg.trans hgd), ak_tok hb h35 hgd, hz, ht, hd, kd_cut c (x ++ 10 :: r) x]
            have hp := gd_pos hgd
            rw [ih _ r (by simp; omega)]
            cases ak ((c :: x).drop (sz (c :: x))) with
            | none => rfl
            | some A =>
              cases ak r with
              | none => rfl
              | some B => simp

/-- A token and what follows it, a byte that can't be part of it ahead. -/
theorem ak_app {k : Int} {x r : List UInt8} (hf : Fm k x) (hm : may k x = true) (hr : ∀ d, r.head? = some d → cuts d) : ak (x ++ r) = (ak r).map (ab ⟨k, x, 0⟩ :: ·) := by
  obtain ⟨c, t, hx, h1, h2, h3, h4⟩ := again hf (r := []) (.inl rfl)
  rw [List.append_nil] at h3 h4
  subst hx
  have hz : sz ((c :: t) ++ r) = (c :: t).length := by
    cases r with
    | nil => rw [List.append_nil]; exact h4
    | cons d r => rw [List.cons_append, sz_cut (hr d rfl)]; exact h4
  have hk : kd ((c :: t) ++ r) = k := by rw [List.cons_append, kd_cut c _ t]; exact h3
  have ht : ((c :: t) ++ r).take (c :: t).length = c :: t := List.take_left
  have hd : ((c :: t) ++ r).drop (c :: t).length = r := List.drop_left
  have hg : gd ((c :: t) ++ r) = true := by unfold gd; rw [hk, hz, ht]; exact hm
  rw [List.cons_append] at hg hk hz ht hd ⊢
  rw [ak_tok h1 h2 hg, hz, hk, ht, hd]
/-- A mark of one byte that begins no other. -/
theorem ak_mark {c : UInt8} (hc : sh.contains c = true) (h60 : c ≠ 60) (h61 : c ≠ 61) (h62 : c ≠ 62) (h33 : c ≠ 33) (r : List UInt8) : ak (c :: r) = (ak r).map (mkT [c] :: ·) := by
  obtain ⟨h1, h2, h3, h4⟩ := sh_cases hc
  have hm : mk (c :: r) = 1 := by
    unfold mk
    have : two.contains ((c :: r).take 2) = false := by
      cases r with
      | nil => simp [two]
      | cons d r => simp [two, h60, h61, h62, h33]
    rw [this]
    simp
    simpa using hc
  have hz : sz (c :: r) = 1 := by simp only [sz, List.headD_cons, h1, h2, Bool.false_eq_true, if_false]; exact hm
  have hk : kd (c :: r) = 3 := by simp [kd, h1, h2]
  have hg : gd (c :: r) = true := by unfold gd; rw [hk, hz]; simp [may]
  rw [ak_tok h3 h4 hg, hz, hk]
  rfl

end Pz

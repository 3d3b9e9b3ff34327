/-
  The tokens and the program of a text that binds one name.
-/
import Derived.Test.YtlhbgkaknfhlnaaGreatZGrB
import Derived.Test.YtlhbgkaknfhlnaaGreatZOpA
import Derived.Test.YtlhbgkaknfhlnaaGreatZRpA
import Derived.Deep.CutRange
namespace Pz
open Lx
set_option linter.unusedVariables false

/-- A token at a text's beginning, and what follows it. -/
theorem sc_app {k : Int} {x r : List UInt8} {p : Nat} {T : List Tok} (hm : may k x = true) (hx : ∃ c t, x = c :: t ∧ bl c = false ∧ c ≠ 35) (hk : kd (x ++ r) = k) (hz : sz (x ++ r) = x.length) (h : sc r (p + x.length) = some T) : sc (x ++ r) p = some (⟨k, x, p⟩ :: T) := by
  obtain ⟨c, t, rfl, h1, h2⟩ := hx
  have ht : ((c :: t) ++ r).take (c :: t).length = c :: t := List.take_left
  have hd : ((c :: t) ++ r).drop (c :: t).length = r := List.drop_left
  have hg : gd ((c :: t) ++ r) = true := by unfold gd; rw [hk, hz, ht]; exact hm
  rw [List.cons_append] at hg hk hz ht hd ⊢
  rw [sc_tok h1 h2 hg, hz, hk, ht, hd, h]
  rfl
theorem sc_word {x r : List UInt8} {p : Nat} {T : List Tok} (hw : wrd x = true) (hr : ∀ a, r.head? = some a → W a = false) (h : sc r (p + x.length) = some T) : sc (x ++ r) p = some (⟨2, x, p⟩ :: T) := by
  cases x with
  | nil => simp [wrd] at hw
  | cons c t =>
    have hA : A c = true := by simp [wrd] at hw; exact hw.1.2
    have hall : (c :: t).all W = true := by simp only [wrd, Bool.and_eq_true] at hw; exact hw.2
    have h3 := A_not hA
    refine sc_app (by simpa [may] using hw) ⟨c, t, rfl, h3.1, h3.2.1⟩ ?_ ?_ h
    · simp [kd, hA, h3.2.2.1]
    · simp only [sz, List.cons_append, List.headD_cons, hA, h3.2.2.1, if_true, Bool.false_eq_true, if_false]
      rw [← List.cons_append, rn, takeWhile_app W _ _ hall hr]
theorem sc1 {c : UInt8} {r : List UInt8} {p : Nat} {T : List Tok} {k : Int} (h1 : bl c = false) (h2 : c ≠ 35) (h : gd (c :: r) = true) (hz : sz (c :: r) = 1) (hk : kd (c :: r) = k) (hr : sc r (p + 1) = some T) : sc (c :: r) p = some (⟨k, [c], p⟩ :: T) := by
  rw [sc_tok h1 h2 h, hz, hk]
  simp only [List.drop_succ_cons, List.drop_zero, List.take_succ_cons, List.take_zero, hr, Option.map_some]

theorem names_tks {x : Txt} (hw : wrd x = true) : ∃ T, tks ([108, 101, 116, 32] ++ x ++ [61, 49, 59, 50]) = some T ∧ T.map ab = [.word wLet, .word x, .eq, .num 1, .semi, .num 2] := by
  have hl : x.length ≤ 16 := by simp only [wrd, Bool.and_eq_true, decide_eq_true_eq] at hw; exact hw.1.1.2
  have h1 : ∀ p, sc [61, 49, 59, 50] p = some [⟨3, [61], p⟩, ⟨1, [49], p + 1⟩, ⟨3, [59], p + 1 + 1⟩, ⟨1, [50], p + 1 + 1 + 1⟩] := fun p =>
    sc1 (by decide) (by decide) (by decide) (by decide) (by decide) (sc1 (by decide) (by decide) (by decide) (by decide) (by decide) (sc1 (by decide) (by decide) (by decide) (by decide) (by decide) (sc1 (by decide) (by decide) (by decide) (by decide) (by decide) (sc_nil _))))
  have h2 := fun p => sc_word (p := p) hw (r := [61, 49, 59, 50]) (by intro a ha; simp at ha; subst ha; decide) (h1 _)
  have h3 := sc_word (x := wLet) (p := 0) (r := 32 :: (x ++ [61, 49, 59, 50])) (by decide) (by intro a ha; simp at ha; subst ha; decide) ((sc_blank (by decide) _ _).trans (h2 _))
  have e : [108, 101, 116, 32] ++ x ++ [61, 49, 59, 50] = wLet ++ 32 :: (x ++ [61, 49, 59, 50]) := by simp [wLet]
  have h4 : tks ([108, 101, 116, 32] ++ x ++ [61, 49, 59, 50]) = sc (wLet ++ 32 :: (x ++ [61, 49, 59, 50])) 0 := by
    unfold tks
    rw [if_neg (by simp; omega), e]
  exact ⟨_, h4.trans h3, rfl⟩

theorem names_gp {x : Txt} (h : resv x = false) : GP [] [] [.word wLet, .word x, .eq, .num 1, .semi, .num 2] ([x], [.leaf (lf 1 1 0 0 0 0)], .leaf (lf 1 2 0 0 0 0)) := by
  have g : ∀ nm v, G nm 0 [.num v] (.leaf (lf 1 v 0 0 0 0)) := fun nm v => G.up (by omega) (G.up (by omega) (G.up (by omega) (G.up (by omega) (G.up (by omega) (G.up (by omega) (G.up (by omega) (G.up (by omega) (G.num v))))))))
  exact GP.bind (l1 := [.num 1]) (l2 := [.num 2]) h rfl (g _ 1) (GP.last (g _ 2))
theorem names_no {x : Txt} (h : resv x = true) (o : Out) : ¬ GP [] [] [.word wLet, .word x, .eq, .num 1, .semi, .num 2] o := by
  intro hg
  generalize hl : [Tk.word wLet, .word x, .eq, .num 1, .semi, .num 2] = l at hg
  cases hg with
  | last g =>
    subst hl
    have := (g_plain (by intro s hs; simp at hs) g).1
    simp [plain] at this
  | bind h1 _ _ _ =>
    simp only [List.cons.injEq, Tk.word.injEq] at hl
    rw [← hl.2.1, h] at h1
    cases h1

end Pz

/-
  Texts put together: their tokens.
-/
namespace Pz
open Lx
set_option linter.unusedVariables false

/-- The tokens of a text, wherever it stands. -/
def ak (l : List UInt8) : Option (List Tk) := (sc l 0).map (List.map ab)

theorem ab_pos (k : Int) (x : Txt) (p q : Nat) : ab ⟨k, x, p⟩ = ab ⟨k, x, q⟩ := rfl
theorem sk_pos : ∀ (n : Nat) (l : List UInt8) (p q : Nat), l.length ≤ n → (sc l p).map (List.map ab) = (sc l q).map (List.map ab) := by
  intro n
  induction n with
  | zero =>
    intro l p q h
    have : l = [] := List.length_eq_zero_iff.1 (by omega)
    subst this
    rw [sc_nil, sc_nil]
  | succ n ih =>
    intro l p q h
    cases l with
    | nil => rw [sc_nil, sc_nil]
    | cons c r =>
      simp only [List.length_cons] at h
      cases hb : bl c with
      | true => rw [sc_blank hb, sc_blank hb]; exact ih r _ _ (by omega)
      | false =>
        by_cases h35 : c = 35
        · subst h35
          rw [sc_rem, sc_rem]
          exact ih _ _ _ (by have := dropWhile_le nl r; omega)
        · cases hg : gd (c :: r) with
          | false => rw [sc_bad hb h35 hg, sc_bad hb h35 hg]
          | true =>
            rw [sc_tok hb h35 hg, sc_tok hb h35 hg]
            have hp := gd_pos hg
            have := ih ((c :: r).drop (sz (c :: r))) (p + sz (c :: r)) (q + sz (c :: r)) (by simp; omega)
            cases h1 : sc ((c :: r).drop (sz (c :: r))) (p + sz (c :: r)) with
            | none =>
              rw [h1] at this
              cases h2 : sc ((c :: r).drop (sz (c :: r))) (q + sz (c :: r)) with
              | none => rfl
              | some T => rw [h2] at this; cases this
            | some T =>
              rw [h1] at this
              cases h2 : sc ((c :: r).drop (sz (c :: r))) (q + sz (c :: r)) with
              | none => rw [h2] at this; cases this
              | some T' =>
                rw [h2] at this
                simp only [Option.map_some, Option.some.injEq] at this
                simp only [Option.map_some, List.map_cons, this]
                rfl
theorem sk_ak (l : List UInt8) (p : Nat) : (sc l p).map (List.map ab) = ak l := sk_pos l.length l p 0 (Nat.le_refl _)

theorem ak_nil : ak [] = some [] := by unfold ak; rw [sc_nil]; rfl
theorem ak_blank {c : UInt8} (h : bl c = true) (r : List UInt8) : ak (c :: r) = ak r := by
  show (sc (c :: r) 0).map (List.map ab) = _
  rw [sc_blank h, sk_ak]
theorem ak_rem (r : List UInt8) : ak (35 :: r) = ak (r.dropWhile nl) := by
  show (sc (35 :: r) 0).map (List.map ab) = _
  rw [sc_rem, sk_ak]
theorem ak_tok {c : UInt8} {r : List UInt8} (h1 : bl c = false) (h2 : c ≠ 35) (h : gd (c :: r) = true) :
    ak (c :: r) = (ak ((c :: r).drop (sz (c :: r)))).map (ab ⟨kd (c :: r), (c :: r).take (sz (c :: r)), 0⟩ :: ·) := by
  show (sc (c :: r) 0).map (List.map ab) = _
  rw [sc_tok h1 h2 h, ← sk_ak _ (0 + sz (c :: r)), Option.map_map, Option.map_map]
  rfl
theorem ak_bad {c : UInt8} {r : List UInt8} (h1 : bl c = false) (h2 : c ≠ 35) (h : gd (c :: r) = false) : ak (c :: r) = none := by
  show (sc (c :: r) 0).map (List.map ab) = _
  rw [sc_bad h1 h2 h]; rfl
theorem ak_of {l : List UInt8} {T : List Tok} (h : tks l = some T) : ak l = some (T.map ab) ∧ l.length ≤ 1024 := by
  unfold tks at h
  split at h
  · cases h
  · exact ⟨by unfold ak; rw [h]; rfl, by omega⟩
theorem tks_ak {l : List UInt8} {A : List Tk} (h : ak l = some A) (hl : l.length ≤ 1024) : ∃ T, tks l = some T ∧ T.map ab = A := by
  unfold tks
  rw [if_neg (by omega)]
  unfold ak at h
  cases hs : sc l 0 with
  | none => rw [hs] at h; cases h
  | some T => rw [hs] at h; cases h; exact ⟨T, rfl, rfl⟩

/-- What can't be part of a token that stands ahead of it. -/
def cuts (d : UInt8) : Prop := W d = false ∧ D d = false ∧ d ≠ 61 ∧ d ≠ 60 ∧ d ≠ 62
theorem cuts_nl : cuts 10 := ⟨by decide, by decide, by decide, by decide, by decide⟩
theorem cuts_sp : cuts 32 := ⟨by decide, by decide, by decide, by decide, by decide⟩
theorem cuts_sh : cuts 35 := ⟨by decide, by decide, by decide, by decide, by decide⟩
theorem cuts_lp : cuts 40 := ⟨by decide, by decide, by decide, by decide, by decide⟩

theorem takeWhile_cut (p : UInt8 → Bool) : ∀ (x r : List UInt8) {d : UInt8}, p d = false → (x ++ d :: r).takeWhile p = x.takeWhile p
  | [], r, d, h => by simp [h]
  | a :: x, r, d, h => by
    rw [List.cons_append, List.takeWhile_cons, List.takeWhile_cons, takeWhile_cut p x r h]
theorem dropWhile_nl : ∀ (x r : List UInt8), (x ++ 10 :: r).dropWhile nl = x.dropWhile nl ++ 10 :: r
  | [], r => by rw [List.nil_append, List.dropWhile_cons]; rfl
  | a :: x, r => by
    rw [List.cons_append, List.dropWhile_cons, List.dropWhile_cons, dropWhile_nl x r]
    split <;> rfl
theorem two_cut {c d : UInt8} (hd : cuts d) (x r : List UInt8) : two.contains ((c :: (x ++ d :: r)).take 2) = two.contains ((c :: x).take 2) := by
  cases x with
  | nil =>
    simp only [List.nil_append, List.take_succ_cons, List.take_zero, List.take_nil]
    have : two.contains [c, d] = false := by
      obtain ⟨-, -, h1, h2, h3⟩ := hd
      simp [two, h1, h2, h3]
    rw [this]
    simp [two]
  | cons a x => rfl
theorem sz_cut {c d : UInt8} (hd : cuts d) (x r : List UInt8) : sz (c :: (x ++ d :: r)) = sz (c :: x) := by
  have hmk : mk (c :: (x ++ d :: r)) = mk (c :: x) := by
    unfold mk
    rw [two_cut hd]
    rfl
  have h1 : rn D (c :: (x ++ d :: r)) = rn D (c :: x) := by unfold rn; rw [← List.cons_append, takeWhile_cut D _ _ hd.2.1]
  have h2 : rn W (c :: (x ++ d :: r)) = rn W (c :: x) := by unfold rn; rw [← List.cons_append, takeWhile_cut W _ _ hd.1]
  show (if D c = true then rn D (c :: (x ++ d :: r)) else if A c = true then rn W (c :: (x ++ d :: r)) else mk (c :: (x ++ d :: r))) = if D c = true then rn D (c :: x) else if A c = true then rn W (c :: x) else mk (c :: x)
  rw [hmk, h1, h2]
theorem kd_cut (c : UInt8) (x y : List UInt8) : kd (c :: x) = kd (c :: y) := rfl

theorem takeWhile_le' (p : UInt8 → Bool) (l : List UInt8) : (l.takeWhile p).length ≤ l.length := by
  have := congrArg List.length (takeWhile_split p l)
  rw [List.length_append] at this
  omega
theorem mk_le' (c : UInt8) (x : List UInt8) : mk (c :: x) ≤ (c :: x).length := by
  unfold mk
  split
  · rename_i h
    cases x with
    | nil => simp [two] at h
    | cons a x => simp
  · split
    · simp
    · simp
theorem sz_le' (c : UInt8) (x : List UInt8) : sz (c :: x) ≤ (c :: x).length := by
  unfold sz
  split
  · exact takeWhile_le' _ _
  · split
    · exact takeWhile_le' _ _
    · exact mk_le' c x

/-- A text, a line's end, and what follows. -/
theorem ak_nl : ∀ (n : Nat) (a r : List UInt8), a.length ≤ n → ak (a ++ 10 :: r) = (ak a).bind fun A => (ak r).map (A ++ ·) := by
  intro n
  induction n with
  | zero =>
    intro a r h
    have : a = [] := List.length_eq_zero_iff.1 (by omega)
    subst this
    rw [List.nil_append, ak_blank (by decide), ak_nil]
    simp
  | succ n ih =>
    intro a r h
    cases a with
    | nil =>
      rw [List.nil_append, ak_blank (by decide), ak_nil]
      simp
    | cons c x =>
      simp only [List.length_cons] at h
      rw [List.cons_append]
      cases hb : bl c with
      | true => rw [ak_blank hb, ak_blank hb]; exact ih x r (by omega)
      | false =>
        by_cases h35 : c = 35
        · subst h35
          rw [ak_rem, ak_rem, dropWhile_nl]
          exact ih _ r (by have := dropWhile_le nl x; omega)
        · have hz := sz_cut (c := c) cuts_nl x r
          have hle := sz_le' c x
          have ht : (c :: (x ++ 10 :: r)).take (sz (c :: x)) = (c :: x).take (sz (c :: x)) := by
            rw [← List.cons_append, List.take_append_of_le_length hle]
          have hd : (c :: (x ++ 10 :: r)).drop (sz (c :: x)) = (c :: x).drop (sz (c :: x)) ++ 10 :: r := by
            rw [← List.cons_append, List.drop_append_of_le_length hle]
          have hg : gd (c :: (x ++ 10 :: r)) = gd (c :: x) := by
            unfold gd
            rw [hz, ht]
            rfl
          cases hgd : gd (c :: x) with
          | false => rw [ak_bad hb h35 (hg.trans hgd), ak_bad hb h35 hgd]; rfl
          | true =>
            rw [ak_tok hb h35 (hg.trans hgd), ak_tok hb h35 hgd, hz, ht, hd, kd_cut c (x ++ 10 :: r) x]
            have hp := gd_pos hgd
            rw [ih _ r (by simp; omega)]
            cases ak ((c :: x).drop (sz (c :: x))) with
            | none => rfl
            | some A =>
              cases ak r with
              | none => rfl
              | some B => simp

/-- A token and what follows it, a byte that can't be part of it ahead. -/
theorem ak_app {k : Int} {x r : List UInt8} (hf : Fm k x) (hm : may k x = true) (hr : ∀ d, r.head? = some d → cuts d) : ak (x ++ r) = (ak r).map (ab ⟨k, x, 0⟩ :: ·) := by
  obtain ⟨c, t, hx, h1, h2, h3, h4⟩ := again hf (r := []) (.inl rfl)
  rw [List.append_nil] at h3 h4
  subst hx
  have hz : sz ((c :: t) ++ r) = (c :: t).length := by
    cases r with
    | nil => rw [List.append_nil]; exact h4
    | cons d r => rw [List.cons_append, sz_cut (hr d rfl)]; exact h4
  have hk : kd ((c :: t) ++ r) = k := by rw [List.cons_append, kd_cut c _ t]; exact h3
  have ht : ((c :: t) ++ r).take (c :: t).length = c :: t := List.take_left
  have hd : ((c :: t) ++ r).drop (c :: t).length = r := List.drop_left
  have hg : gd ((c :: t) ++ r) = true := by unfold gd; rw [hk, hz, ht]; exact hm
  rw [List.cons_append] at hg hk hz ht hd ⊢
  rw [ak_tok h1 h2 hg, hz, hk, ht, hd]
/-- A mark of one byte that begins no other. -/
theorem ak_mark {c : UInt8} (hc : sh.contains c = true) (h60 : c ≠ 60) (h61 : c ≠ 61) (h62 : c ≠ 62) (h33 : c ≠ 33) (r : List UInt8) : ak (c :: r) = (ak r).map (mkT [c] :: ·) := by
  obtain ⟨h1, h2, h3, h4⟩ := sh_cases hc
  have hm : mk (c :: r) = 1 := by
    unfold mk
    have : two.contains ((c :: r).take 2) = false := by
      cases r with
      | nil => simp [two]
      | cons d r => simp [two, h60, h61, h62, h33]
    rw [this]
    simp
    simpa using hc
  have hz : sz (c :: r) = 1 := by simp only [sz, List.headD_cons, h1, h2, Bool.false_eq_true, if_false]; exact hm
  have hk : kd (c :: r) = 3 := by simp [kd, h1, h2]
  have hg : gd (c :: r) = true := by unfold gd; rw [hk, hz]; simp [may]
  rw [ak_tok h3 h4 hg, hz, hk]
  rfl

end Pz

/-
  Two texts joined: their program.
-/
namespace Pz
open Lx
open Go.Proofs.YtlhbgkaknfhlnaaGreat (row rows G.ups)
set_option linter.unusedVariables false

theorem row_mark {k : Nat} (h : k < 16) : Fm 3 (row k).2.1 ∧ may 3 (row k).2.1 = true ∧ ab ⟨3, (row k).2.1, 0⟩ = .op (row k).1 (row k).2.2 ∧ (row k).1 < 7 ∧ (row k).2.1.length ≤ 2 ∧ (row k).2.2 ≠ 0 := by
  have key : ∀ k, k < 16 → (((row k).2.1 ≠ [] ∧ (two.contains (row k).2.1 = true ∨ ((row k).2.1.length = 1 ∧ sh.contains ((row k).2.1.headD 0) = true))) ∧ may 3 (row k).2.1 = true ∧ ab ⟨3, (row k).2.1, 0⟩ = .op (row k).1 (row k).2.2 ∧ (row k).1 < 7 ∧ (row k).2.1.length ≤ 2 ∧ (row k).2.2 ≠ 0) := by decide
  obtain ⟨⟨h1, h2⟩, h3⟩ := key k h
  refine ⟨⟨h1, .inr (.inr ⟨rfl, ?_⟩)⟩, h3⟩
  rcases h2 with h2 | ⟨h2, h4⟩
  · exact .inl h2
  · right
    match hx : (row k).2.1, h2, h4 with
    | [c], _, h4 => exact ⟨c, h4, rfl⟩

theorem gp_grows {nm : List Txt} {es : List E} {l : List Tk} {o : Out} (h : GP nm es l o) : nm.length ≤ o.1.length ∧ (o.1.length = nm.length → ∃ e, o = (nm, es, e) ∧ G nm 0 l e) := by
  induction h with
  | last g => exact ⟨Nat.le_refl _, fun _ => ⟨_, rfl, g⟩⟩
  | bind _ _ _ _ ih =>
    rw [List.length_append, List.length_singleton] at ih
    exact ⟨by omega, fun e => by omega⟩
theorem gp_one {l : List Tk} {NM : List Txt} {es : List E} {ex : E} (h : GP [] [] l (NM, es, ex)) (hn : NM.length = es.length) (he : es.length = 0) : NM = [] ∧ es = [] ∧ G [] 0 l ex := by
  obtain ⟨e, h1, h2⟩ := (gp_grows h).2 (by simp; exact List.length_eq_zero_iff.1 (by omega))
  cases h1
  exact ⟨rfl, rfl, h2⟩

theorem tks_join {a b : List UInt8} {A B : List Tk} {k : Nat} (hk : k < 16) (ha : ak a = some A) (hb : ak b = some B) :
    ak (40 :: (a ++ 10 :: 41 :: ((row k).2.1 ++ 40 :: (b ++ 10 :: [41])))) = some (.lp :: (A ++ .rp :: .op (row k).1 (row k).2.2 :: .lp :: (B ++ [.rp]))) := by
  obtain ⟨h1, h2, h3, -⟩ := row_mark hk
  rw [ak_mark (by decide) (by decide) (by decide) (by decide) (by decide), ak_nl a.length a _ (Nat.le_refl _), ha,
    ak_mark (by decide) (by decide) (by decide) (by decide) (by decide), ak_app h1 h2 (by intro d hd; simp at hd; subst hd; exact cuts_lp), h3,
    ak_mark (by decide) (by decide) (by decide) (by decide) (by decide), ak_nl b.length b _ (Nat.le_refl _), hb, ak_mark (by decide) (by decide) (by decide) (by decide) (by decide), ak_nil]
  rfl
theorem tks_neg {a : List UInt8} {A : List Tk} (ha : ak a = some A) : ak (45 :: 40 :: (a ++ 10 :: [41])) = some (.op 5 9 :: .lp :: (A ++ [.rp])) := by
  rw [ak_mark (by decide) (by decide) (by decide) (by decide) (by decide), ak_mark (by decide) (by decide) (by decide) (by decide) (by decide), ak_nl a.length a _ (Nat.le_refl _), ha,
    ak_mark (by decide) (by decide) (by decide) (by decide) (by decide), ak_nil]
  rfl
def wMax : Txt := [109, 97, 120]
theorem tks_max {a b : List UInt8} {A B : List Tk} (ha : ak a = some A) (hb : ak b = some B) :
    ak (wMax ++ 40 :: (a ++ 10 :: 44 :: (b ++ 10 :: [41]))) = some (.word wMax :: .lp :: (A ++ .comma :: (B ++ [.rp]))) := by
  have hf : Fm 2 wMax := ⟨by decide, .inr (.inl ⟨rfl, by decide, by decide⟩)⟩
  rw [ak_app hf (by decide) (by intro d hd; simp at hd; subst hd; exact cuts_lp), ak_mark (by decide) (by decide) (by decide) (by decide) (by decide), ak_nl a.length a _ (Nat.le_refl _), ha,
    ak_mark (by decide) (by decide) (by decide) (by decide) (by decide), ak_nl b.length b _ (Nat.le_refl _), hb, ak_mark (by decide) (by decide) (by decide) (by decide) (by decide), ak_nil]
  rfl
theorem gp_join {A B : List Tk} {ea eb : E} {k : Nat} (hk : k < 16) (ha : G [] 0 A ea) (hb : G [] 0 B eb) : GP [] [] (.lp :: (A ++ .rp :: .op (row k).1 (row k).2.2 :: .lp :: (B ++ [.rp]))) ([], [], .bin (row k).2.2 ea eb) := by
  obtain ⟨-, -, -, h7, -⟩ := row_mark hk
  refine GP.last ?_
  have h1 : G [] 8 (.lp :: (A ++ [.rp])) ea := G.par ha
  have h2 : G [] 8 (.lp :: (B ++ [.rp])) eb := G.par hb
  have h3 := G.bin (o := (row k).2.2) h7 (G.ups h1 (c' := lefts (row k).1) (by unfold lefts; split <;> omega) (by omega)) (G.ups h2 (c' := (row k).1 + 2) (by omega) (by omega))
  have := G.ups h3 (c' := 0) (by omega) (by omega)
  simpa using this
theorem gp_neg {A : List Tk} {ea : E} (ha : G [] 0 A ea) : GP [] [] (.op 5 9 :: .lp :: (A ++ [.rp])) ([], [], .un 5 ea) :=
  GP.last (G.ups (G.neg (G.par ha)) (by omega) (by omega))
theorem gp_max {A B : List Tk} {ea eb : E} (ha : G [] 0 A ea) (hb : G [] 0 B eb) : GP [] [] (.word wMax :: .lp :: (A ++ .comma :: (B ++ [.rp]))) ([], [], .bin 25 ea eb) :=
  GP.last (G.ups (G.call2 (s := wMax) rfl ha hb) (by omega) (by omega))

end Pz

/-
  Two texts behind one another.
-/
namespace Go.Proofs.YtlhbgkaknfhlnaaGreat
open Go.RowKit Go.IntWalk Lx Pz
set_option linter.unusedVariables false

theorem bs_add (a b : ByteArray) : bs (a ++ b) = bs a ++ bs b := by simp [bs]

end Go.Proofs.YtlhbgkaknfhlnaaGreat

/-
  Parse, where the program is known; parts of a tree.
-/
namespace Go.Proofs.YtlhbgkaknfhlnaaGreat
open Go.RowKit Go.IntWalk Lx Pz
set_option linter.unusedVariables false

/-- Parse, where the program is known. -/
theorem parse_of {s : ByteArray} {A : List Tk} {NM : List Txt} {es : List E} {ex : E} (ha : ak (bs s) = some A) (hl : s.size ≤ 1024) (hg : GP [] [] A (NM, es, ex)) (w : World) :
    Calls Tryz.prog 11 #[.string s] w fun e W' => ∃ na nc ba bc da dc,
      e = .returned (.tuple #[.agg (tr4 (.slice na es.length nc) (.slice ba es.length bc) (.slice da (szL es + ex.size) dc) (.int .i64 (((szL es + ex.size : Nat) : Int) - 1))), .int .i64 0]) ∧ Tx W' na es.length nc NM ∧ Iz W' ba es.length bc (bdL es 0) ∧
      Nz W' da (szL es + ex.size) dc (flL es 0 ++ ex.flat (szL es)) ∧ Below w.heap.size w W' := by
  obtain ⟨T0, hT0, hab⟩ := tks_ak ha (by rw [bs_len]; exact hl)
  refine (parse_read s w).mono ?_
  rintro e W1 (⟨-, -, hbad⟩ | ⟨T, NM', es', ex', na, nc, ba, bc, da, dc, hT, hA, h3, h4, rfl, h6, h7, h8, h9⟩)
  · exfalso
    rw [hT0] at hbad
    rcases hbad with h | ⟨T, h, h2⟩
    · cases h
    · cases h
      rw [hab] at h2
      have := (h2 _).2 hg
      cases this
  · rw [hT0] at hT
    cases hT
    rw [hab] at hA
    have := (hA _).2 hg
    cases this
    exact ⟨na, nc, ba, bc, da, dc, rfl, h6, h7, h8, h9⟩

abbrev mkC : Array Value := #[.string ⟨#[124]⟩, .string ⟨#[94]⟩, .string ⟨#[38]⟩, .string ⟨#[60]⟩, .string ⟨#[60, 61]⟩, .string ⟨#[62]⟩, .string ⟨#[62, 61]⟩, .string ⟨#[61, 61]⟩, .string ⟨#[33, 61]⟩, .string ⟨#[60, 60]⟩, .string ⟨#[62, 62]⟩, .string ⟨#[43]⟩, .string ⟨#[45]⟩, .string ⟨#[42]⟩, .string ⟨#[47]⟩, .string ⟨#[37]⟩]
abbrev opC : Array Value := #[.int .i64 16, .int .i64 17, .int .i64 15, .int .i64 18, .int .i64 19, .int .i64 20, .int .i64 21, .int .i64 22, .int .i64 23, .int .i64 13, .int .i64 14, .int .i64 8, .int .i64 9, .int .i64 10, .int .i64 11, .int .i64 12]
theorem mkC_at {k : Nat} (h : k < 16) : mkC[k]? = some (.string (sB (row k).2.1)) := by
  rcases (show k = 0 ∨ k = 1 ∨ k = 2 ∨ k = 3 ∨ k = 4 ∨ k = 5 ∨ k = 6 ∨ k = 7 ∨ k = 8 ∨ k = 9 ∨ k = 10 ∨ k = 11 ∨ k = 12 ∨ k = 13 ∨ k = 14 ∨ k = 15 by omega) with rfl | rfl | rfl | rfl | rfl | rfl | rfl | rfl | rfl | rfl | rfl | rfl | rfl | rfl | rfl | rfl <;> rfl
theorem opC_at {k : Nat} (h : k < 16) : opC[k]? = some (.int .i64 (row k).2.2) := by
  rcases (show k = 0 ∨ k = 1 ∨ k = 2 ∨ k = 3 ∨ k = 4 ∨ k = 5 ∨ k = 6 ∨ k = 7 ∨ k = 8 ∨ k = 9 ∨ k = 10 ∨ k = 11 ∨ k = 12 ∨ k = 13 ∨ k = 14 ∨ k = 15 by omega) with rfl | rfl | rfl | rfl | rfl | rfl | rfl | rfl | rfl | rfl | rfl | rfl | rfl | rfl | rfl | rfl <;> rfl

/-- A node's cells, in the midst of a row. -/
abbrev at9 (W : World) (g o : Nat) (n : Nd) : Prop := W.cell? ⟨g, o, none⟩ = some (.int .i64 n.op) ∧ W.cell? ⟨g, o + 1, none⟩ = some (.int .i64 n.a) ∧ W.cell? ⟨g, o + 2, none⟩ = some (.int .i64 n.b) ∧ W.cell? ⟨g, o + 3, none⟩ = some (.int .i64 n.c) ∧ W.cell? ⟨g, o + 4, none⟩ = some (.int .i64 n.k) ∧ W.cell? ⟨g, o + 5, none⟩ = some (.int .i64 n.back) ∧ W.cell? ⟨g, o + 6, none⟩ = some (.int .i64 n.co) ∧ W.cell? ⟨g, o + 7, none⟩ = some (.int .i64 n.x) ∧ W.cell? ⟨g, o + 8, none⟩ = some (.int .i64 n.y)
theorem Nz.at {W : World} {a : Option Addr} {n cap : Nat} {L : List Nd} (h : Nz W a n cap L) (h0 : 0 < n) : ∃ g off, a = some ⟨g, off, none⟩ ∧ ∀ i, i < n → at9 W g (off + i * 9) (L.getD i n0) := by
  rcases h.cell with h | ⟨g, off, ha, -, hc⟩
  · omega
  · exact ⟨g, off, ha, fun i hi => ⟨hc i hi 0 _ rfl, hc i hi 1 _ rfl, hc i hi 2 _ rfl, hc i hi 3 _ rfl, hc i hi 4 _ rfl, hc i hi 5 _ rfl, hc i hi 6 _ rfl, hc i hi 7 _ rfl, hc i hi 8 _ rfl⟩⟩
theorem tks_len {l : List UInt8} {T : List Tok} (h : tks l = some T) : T.length ≤ 1024 := by
  obtain ⟨h1, h2⟩ := tks_cov h
  have := cov_len T _ 0 h1
  omega
theorem flat_bin (o : Int) (a b : E) : (∀ i, i < a.size → ((E.bin o a b).flat 0).getD i n0 = (a.flat 0).getD i n0) ∧ ((E.bin o a b).flat 0).getD (a.size + b.size) n0 = ⟨o, (a.size : Int) - 1, (a.size : Int) + (b.size : Int) - 1, 0, 0, 0, 0, 0, 0⟩ := by
  constructor
  · intro i hi
    simp only [E.flat, List.getD_eq_getElem?_getD, List.append_assoc]
    rw [List.getElem?_append_left (by rw [E.flat_len]; exact hi)]
  · simp only [E.flat, List.getD_eq_getElem?_getD]
    rw [List.getElem?_append_right (by simp [E.flat_len])]
    simp [E.flat_len]
theorem flat_un (o : Int) (a : E) : (∀ i, i < a.size → ((E.un o a).flat 0).getD i n0 = (a.flat 0).getD i n0) ∧ ((E.un o a).flat 0).getD a.size n0 = ⟨o, (a.size : Int) - 1, 0, 0, 0, 0, 0, 0, 0⟩ := by
  constructor
  · intro i hi
    simp only [E.flat, List.getD_eq_getElem?_getD]
    rw [List.getElem?_append_left (by rw [E.flat_len]; exact hi)]
  · simp only [E.flat, List.getD_eq_getElem?_getD]
    rw [List.getElem?_append_right (by rw [E.flat_len]; omega)]
    simp [E.flat_len]

end Go.Proofs.YtlhbgkaknfhlnaaGreat

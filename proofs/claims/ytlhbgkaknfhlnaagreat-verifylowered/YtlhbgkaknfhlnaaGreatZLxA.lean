/-
  Tokens of a text, as plain lists of bytes: no program, no memory.
-/
import Derived.Test.YtlhbgkaknfhlnaaGreatChecked
import Derived.WalkKit
import Derived.WalkSpells
import Derived.Lib.Bytealg
import Derived.Lib.IndexBytes
import Derived.Shelf.Pu.Clone
import Derived.Lib.QuietBelow
import Derived.Deep.RegionHeld3
import Derived.Deep.AppendLies
import Derived.ArgAppend
import Derived.Deep.LoopGhost
import Derived.WalkMore
import Derived.Deep.QuietTactic
import Derived.BigQuiet
namespace Lx
set_option linter.unusedVariables false

def dg (c : Int) : Bool := decide (48 ≤ c) && decide (c ≤ 57)
def lt (c : Int) : Bool := decide (97 ≤ c) && decide (c ≤ 122)
def wi (c : Int) : Bool := lt c || dg c || c == 95
def D (c : UInt8) : Bool := dg c.toNat
def A (c : UInt8) : Bool := lt c.toNat
def W (c : UInt8) : Bool := wi c.toNat
def bl (c : UInt8) : Bool := c == 32 || c == 9 || c == 10
def sh : List UInt8 := [43, 45, 42, 47, 37, 40, 41, 44, 59, 61, 63, 58, 60, 62, 38, 124, 94]
def two : List (List UInt8) := [[60, 61], [62, 61], [61, 61], [33, 61], [60, 60], [62, 62]]
def rn (p : UInt8 → Bool) (l : List UInt8) : Nat := (l.takeWhile p).length
def mk (l : List UInt8) : Nat := if two.contains (l.take 2) then 2 else if sh.contains (l.headD 0) then 1 else 0
def vl (l : List UInt8) : Int := l.foldl (fun n c => 10 * n + ((c.toNat : Int) - 48)) 0
def num (l : List UInt8) : Bool := !l.isEmpty && l.all D && !(l.headD 0 == 48 && decide (1 < l.length)) && decide (vl l ≤ 2147483647)
def wrd (l : List UInt8) : Bool := !l.isEmpty && decide (l.length ≤ 16) && A (l.headD 0) && l.all W
def kd (l : List UInt8) : Int := if D (l.headD 0) then 1 else if A (l.headD 0) then 2 else 3
def sz (l : List UInt8) : Nat := if D (l.headD 0) then rn D l else if A (l.headD 0) then rn W l else mk l
def may (k : Int) (l : List UInt8) : Bool := if k = 1 then num l else if k = 2 then wrd l else !l.isEmpty
def gd (l : List UInt8) : Bool := may (kd l) (l.take (sz l))
def nl (c : UInt8) : Bool := c != 10

structure Tok where
  kind : Int
  text : List UInt8
  pos : Nat

theorem may_pos {k : Int} {l : List UInt8} (h : may k l = true) : 0 < l.length := by
  cases l with
  | nil => revert h; unfold may; split <;> (try split) <;> simp [num, wrd]
  | cons a l => simp
theorem gd_pos {l : List UInt8} (h : gd l = true) : 0 < sz l := by
  have := may_pos h
  rw [List.length_take] at this
  omega

theorem dropWhile_le (p : UInt8 → Bool) : ∀ l : List UInt8, (l.dropWhile p).length ≤ l.length
  | [] => by simp
  | a :: l => by
    rw [List.dropWhile_cons]
    have := dropWhile_le p l
    split <;> simp <;> omega

def sc : List UInt8 → Nat → Option (List Tok)
  | [], _ => some []
  | c :: r, p =>
    if bl c then sc r (p + 1)
    else if c = 35 then sc (r.dropWhile nl) (p + 1 + rn nl r)
    else if h : gd (c :: r) = true then (sc ((c :: r).drop (sz (c :: r))) (p + sz (c :: r))).map (fun T => ⟨kd (c :: r), (c :: r).take (sz (c :: r)), p⟩ :: T)
    else none
  termination_by l => l.length
  decreasing_by
  · simp
  · have := dropWhile_le nl r; simp; omega
  · have := gd_pos h; simp; omega

theorem sc_nil (p : Nat) : sc [] p = some [] := by rw [sc]
theorem sc_blank {c : UInt8} (h : bl c = true) (r : List UInt8) (p : Nat) : sc (c :: r) p = sc r (p + 1) := by rw [sc, if_pos h]
theorem sc_rem (r : List UInt8) (p : Nat) : sc (35 :: r) p = sc (r.dropWhile nl) (p + 1 + rn nl r) := by
  rw [sc, if_neg (by decide), if_pos rfl]
theorem sc_tok {c : UInt8} {r : List UInt8} (h1 : bl c = false) (h2 : c ≠ 35) (h : gd (c :: r) = true) (p : Nat) :
    sc (c :: r) p = (sc ((c :: r).drop (sz (c :: r))) (p + sz (c :: r))).map (fun T => ⟨kd (c :: r), (c :: r).take (sz (c :: r)), p⟩ :: T) := by
  rw [sc, if_neg (by simp [h1]), if_neg h2, dif_pos h]
theorem sc_bad {c : UInt8} {r : List UInt8} (h1 : bl c = false) (h2 : c ≠ 35) (h : gd (c :: r) = false) (p : Nat) : sc (c :: r) p = none := by
  rw [sc, if_neg (by simp [h1]), if_neg h2, dif_neg (by simp [h])]

/-- What Tokens answers: none is ErrSyntax. -/
def tks (l : List UInt8) : Option (List Tok) := if 1024 < l.length then none else sc l 0

/- the forms of a token -/

/-- A piece that has a token's bytes. -/
def Fm (k : Int) (x : List UInt8) : Prop :=
  x ≠ [] ∧ ((k = 1 ∧ x.all D = true) ∨ (k = 2 ∧ A (x.headD 0) = true ∧ x.all W = true) ∨ (k = 3 ∧ (two.contains x = true ∨ ∃ c, sh.contains c = true ∧ x = [c])))

theorem takeWhile_eq_take (p : UInt8 → Bool) : ∀ l : List UInt8, l.take (rn p l) = l.takeWhile p
  | [] => rfl
  | a :: l => by
    unfold rn
    cases h : p a with
    | true =>
      rw [List.takeWhile_cons, if_pos h]
      have := takeWhile_eq_take p l
      unfold rn at this
      rw [List.length_cons, List.take_succ_cons, this]
    | false => rw [List.takeWhile_cons, if_neg (by simp [h])]; rfl
theorem takeWhile_all (p : UInt8 → Bool) : ∀ l : List UInt8, (l.takeWhile p).all p = true
  | [] => rfl
  | a :: l => by
    rw [List.takeWhile_cons]
    split
    · rename_i h; rw [List.all_cons, h, takeWhile_all p l]; rfl
    · simp
theorem takeWhile_app (p : UInt8 → Bool) : ∀ (x r : List UInt8), x.all p = true → (∀ a, r.head? = some a → p a = false) → (x ++ r).takeWhile p = x
  | [], [], _, _ => rfl
  | [], a :: r, _, h => by simp [h a rfl]
  | b :: x, r, hx, h => by
    simp only [List.all_cons, Bool.and_eq_true] at hx
    rw [List.cons_append, List.takeWhile_cons, if_pos hx.1, takeWhile_app p x r hx.2 h]
theorem takeWhile_split (p : UInt8 → Bool) (l : List UInt8) : l.takeWhile p ++ l.dropWhile p = l := List.takeWhile_append_dropWhile
theorem rn_drop (p : UInt8 → Bool) (l : List UInt8) : l.drop (rn p l) = l.dropWhile p := by
  have h := takeWhile_split p l
  have h2 := List.drop_left (l₁ := l.takeWhile p) (l₂ := l.dropWhile p)
  rw [h] at h2
  exact h2

theorem contains_two {x : List UInt8} (h : two.contains x = true) : x = [60, 61] ∨ x = [62, 61] ∨ x = [61, 61] ∨ x = [33, 61] ∨ x = [60, 60] ∨ x = [62, 62] := by
  simpa [two] using h

theorem form_of_good {l : List UInt8} (hl : l ≠ []) (h : gd l = true) : Fm (kd l) (l.take (sz l)) ∧ may (kd l) (l.take (sz l)) = true := by
  refine ⟨⟨?_, ?_⟩, h⟩
  · have := may_pos h
    intro e
    rw [e] at this
    simp at this
  · obtain ⟨c, r, rfl⟩ : ∃ c r, l = c :: r := by cases l with | nil => exact absurd rfl hl | cons c r => exact ⟨c, r, rfl⟩
    by_cases h1 : D c = true
    · left
      simp only [kd, sz, List.headD_cons, h1, if_true]
      exact ⟨trivial, by rw [takeWhile_eq_take]; exact takeWhile_all _ _⟩
    · simp only [Bool.not_eq_true] at h1
      by_cases h2 : A c = true
      · right; left
        simp only [kd, sz, List.headD_cons, h1, h2, if_true, Bool.false_eq_true, if_false]
        refine ⟨trivial, ?_, by rw [takeWhile_eq_take]; exact takeWhile_all _ _⟩
        rw [takeWhile_eq_take, List.takeWhile_cons, if_pos (by simp [W, wi, show lt c.toNat = true from h2])]
        exact h2
      · simp only [Bool.not_eq_true] at h2
        right; right
        have hp := gd_pos h
        simp only [kd, sz, List.headD_cons, h1, h2, Bool.false_eq_true, if_false] at hp ⊢
        refine ⟨trivial, ?_⟩
        unfold mk at hp ⊢
        split
        · rename_i h3; exact .inl h3
        · split
          · rename_i h3; exact .inr ⟨c, h3, rfl⟩
          · rename_i h3 h4; rw [if_neg h3, if_neg h4] at hp; omega

/-- What separates: a blank or a tab, or the text's end. -/
def Sep (r : List UInt8) : Prop := r = [] ∨ ∃ t, r = 32 :: t ∨ r = 9 :: t

theorem Sep.head {r : List UInt8} (h : Sep r) {p : UInt8 → Bool} (h1 : p 32 = false) (h2 : p 9 = false) : ∀ a, r.head? = some a → p a = false := by
  rcases h with rfl | ⟨t, rfl | rfl⟩
  · simp
  · intro a ha; simp at ha; subst ha; exact h1
  · intro a ha; simp at ha; subst ha; exact h2

theorem sh_cases {c : UInt8} (h : sh.contains c = true) : D c = false ∧ A c = false ∧ bl c = false ∧ c ≠ 35 := by
  have : c ∈ sh := by simpa using h
  revert c
  intro c _ hc
  simp only [sh, List.mem_cons, List.not_mem_nil, or_false] at hc
  rcases hc with rfl | rfl | rfl | rfl | rfl | rfl | rfl | rfl | rfl | rfl | rfl | rfl | rfl | rfl | rfl | rfl | rfl <;> decide

theorem D_not {c : UInt8} (h : D c = true) : bl c = false ∧ c ≠ 35 := by
  have h' : 48 ≤ (c.toNat : Int) ∧ (c.toNat : Int) ≤ 57 := by simpa [D, dg] using h
  refine ⟨?_, fun e => by subst e; simp at h'⟩
  cases hb : bl c with
  | false => rfl
  | true =>
    simp only [bl, Bool.or_eq_true, beq_iff_eq] at hb
    rcases hb with (rfl | rfl) | rfl <;> simp at h'
theorem A_not {c : UInt8} (h : A c = true) : bl c = false ∧ c ≠ 35 ∧ D c = false ∧ W c = true := by
  have h' : 97 ≤ (c.toNat : Int) ∧ (c.toNat : Int) ≤ 122 := by simpa [A, lt] using h
  refine ⟨?_, fun e => by subst e; simp at h', ?_, ?_⟩
  · cases hb : bl c with
    | false => rfl
    | true =>
      simp only [bl, Bool.or_eq_true, beq_iff_eq] at hb
      rcases hb with (rfl | rfl) | rfl <;> simp at h'
  · simp [D, dg]; omega
  · have : lt c.toNat = true := h
    simp [W, wi, this]

/-- A piece with a token's bytes, and what separates behind it: it is found again. -/
theorem again {k : Int} {x r : List UInt8} (hf : Fm k x) (hr : Sep r) : ∃ c t, x = c :: t ∧ bl c = false ∧ c ≠ 35 ∧ kd (x ++ r) = k ∧ sz (x ++ r) = x.length := by
  obtain ⟨hne, hf⟩ := hf
  obtain ⟨c, t, rfl⟩ : ∃ c t, x = c :: t := by cases x with | nil => exact absurd rfl hne | cons c r => exact ⟨c, r, rfl⟩
  refine ⟨c, t, rfl, ?_⟩
  rcases hf with ⟨rfl, h⟩ | ⟨rfl, hA, h⟩ | ⟨rfl, h⟩
  · have hc : D c = true := by simp at h; exact h.1
    have h3 := D_not hc
    refine ⟨h3.1, h3.2, ?_, ?_⟩
    · simp [kd, hc]
    · simp only [sz, List.cons_append, List.headD_cons, hc, if_true]
      rw [← List.cons_append, rn, takeWhile_app D _ _ h (hr.head (by decide) (by decide))]
  · have hc : A c = true := by simpa using hA
    have h3 := A_not hc
    refine ⟨h3.1, h3.2.1, ?_, ?_⟩
    · simp [kd, hc, h3.2.2.1]
    · simp only [sz, List.cons_append, List.headD_cons, hc, h3.2.2.1, if_true, Bool.false_eq_true, if_false]
      rw [← List.cons_append, rn, takeWhile_app W _ _ h (hr.head (by decide) (by decide))]
  · rcases h with h | ⟨d, hd, he⟩
    · rcases contains_two h with h | h | h | h | h | h <;>
      · injection h with h1 h2
        subst h1; subst h2
        refine ⟨by decide, by decide, ?_, ?_⟩
        · simp [kd, D, A, dg, lt]
        · simp [sz, mk, D, A, dg, lt, two]
    · injection he with h1 h2
      subst h1; subst h2
      have h3 := sh_cases hd
      refine ⟨h3.2.2.1, h3.2.2.2, ?_, ?_⟩
      · simp [kd, h3.1, h3.2.1]
      · simp only [sz, List.cons_append, List.headD_cons, h3.1, h3.2.1, Bool.false_eq_true, if_false]
        have hn : two.contains (([c] ++ r).take 2) = false := by
          rcases hr with rfl | ⟨t, rfl | rfl⟩ <;> simp [two]
        have hm : mk ([c] ++ r) = 1 := by
          unfold mk
          rw [if_neg (by intro h; rw [hn] at h; cases h), if_pos (show sh.contains (([c] ++ r).headD 0) = true from hd)]
        exact hm

theorem rn_of {p : UInt8 → Bool} {l : List UInt8} {k : Nat} (h1 : (l.take k).all p = true) (hk : k ≤ l.length) (h2 : ∀ c, l[k]? = some c → p c = false) : rn p l = k := by
  have h := takeWhile_app p (l.take k) (l.drop k) h1 (by intro a ha; rw [List.head?_drop] at ha; exact h2 a ha)
  rw [List.take_append_drop] at h
  unfold rn
  rw [h, List.length_take]
  omega
theorem all_snoc {p : UInt8 → Bool} {l : List UInt8} {k : Nat} {c : UInt8} (h1 : (l.take k).all p = true) (hc : l[k]? = some c) (h : p c = true) : (l.take (k + 1)).all p = true := by
  rw [List.take_add_one, hc, List.all_append, h1]
  simp [h]
theorem all_not {p : UInt8 → Bool} {l : List UInt8} {k : Nat} {c : UInt8} (hc : l[k]? = some c) (h : p c = false) : l.all p = false := by
  rw [List.all_eq_false]
  exact ⟨c, List.mem_of_getElem? hc, by simp [h]⟩

/- the document's words -/

/-- Does a byte stand in a text? -/
def amg (c : Int) (l : List UInt8) : Bool := l.any fun b => (b.toNat : Int) == c
def aD (l : List UInt8) : Bool := l.all D
def aW (l : List UInt8) : Bool := l.all W
def dgs : List UInt8 := [48, 49, 50, 51, 52, 53, 54, 55, 56, 57]
def lts : List UInt8 := [97, 98, 99, 100, 101, 102, 103, 104, 105, 106, 107, 108, 109, 110, 111, 112, 113, 114, 115, 116, 117, 118, 119, 120, 121, 122]
def wis : List UInt8 := lts ++ dgs ++ [95]
theorem amg_dgs (c : Int) : amg c dgs = dg c := by
  rw [Bool.eq_iff_iff]
  simp [amg, dgs, dg]
  omega
theorem amg_lts (c : Int) : amg c lts = lt c := by
  rw [Bool.eq_iff_iff]
  simp [amg, lts, lt]
  omega
theorem amg_wis (c : Int) : amg c wis = wi c := by
  have h : amg c wis = (amg c lts || amg c dgs || amg c [95]) := by simp [amg, wis, Bool.or_assoc]
  rw [h, amg_dgs, amg_lts]
  unfold wi
  congr 1
  rw [Bool.eq_iff_iff]
  simp [amg]
  omega
theorem amg_sh (c : UInt8) : amg c.toNat sh = sh.contains c := by
  rw [Bool.eq_iff_iff]
  simp only [amg, List.any_eq_true, beq_iff_eq, List.contains_iff_mem]
  constructor
  · rintro ⟨b, hb, h⟩
    have : b = c := UInt8.toNat_inj.1 (by omega)
    rw [← this]; exact hb
  · intro h; exact ⟨c, h, rfl⟩
theorem amg_bl (c : UInt8) : amg c.toNat [32, 9, 10] = bl c := by
  rw [Bool.eq_iff_iff]
  simp only [amg, List.any_eq_true, beq_iff_eq, bl, Bool.or_eq_true]
  constructor
  · rintro ⟨b, hb, h⟩
    have : b = c := UInt8.toNat_inj.1 (by omega)
    subst this
    simpa [or_assoc] using hb
  · intro h; exact ⟨c, by simpa [or_assoc] using h, rfl⟩

/- numbers -/

def nv (l : List UInt8) : Int := if num l then vl l else 0
theorem vl_snoc (l : List UInt8) (c : UInt8) : vl (l ++ [c]) = 10 * vl l + ((c.toNat : Int) - 48) := by simp [vl]
theorem vl_take {l : List UInt8} {k : Nat} {c : UInt8} (hc : l[k]? = some c) : vl (l.take (k + 1)) = 10 * vl (l.take k) + ((c.toNat : Int) - 48) := by
  rw [List.take_add_one, hc]; exact vl_snoc _ _
theorem D_iff {c : UInt8} : D c = true ↔ 48 ≤ (c.toNat : Int) ∧ (c.toNat : Int) ≤ 57 := by simp [D, dg]
theorem foldl_ge : ∀ (l : List UInt8) (n : Int), l.all D = true → 0 ≤ n → n ≤ l.foldl (fun n c => 10 * n + ((c.toNat : Int) - 48)) n
  | [], n, _, _ => by simp
  | c :: l, n, h, h0 => by
    simp only [List.all_cons, Bool.and_eq_true] at h
    have hc := D_iff.1 h.1
    have := foldl_ge l (10 * n + ((c.toNat : Int) - 48)) h.2 (by omega)
    simp only [List.foldl_cons]
    omega
theorem vl_nonneg {l : List UInt8} (h : l.all D = true) : 0 ≤ vl l := foldl_ge l 0 h (by omega)
theorem vl_mono {l : List UInt8} (h : l.all D = true) (k : Nat) : vl (l.take k) ≤ vl l := by
  have e : vl l = (l.drop k).foldl (fun n c => 10 * n + ((c.toNat : Int) - 48)) (vl (l.take k)) := by
    unfold vl
    rw [← List.foldl_append, List.take_append_drop]
  rw [e]
  have h' : l.all D = true := h
  rw [← List.take_append_drop k l, List.all_append, Bool.and_eq_true] at h'
  exact foldl_ge _ _ h'.2 (vl_nonneg h'.1)
/-- Not a number: a byte that is no digit. -/
theorem num_no {l : List UInt8} {k : Nat} {c : UInt8} (hc : l[k]? = some c) (h : D c = false) : num l = false := by
  simp [num, all_not hc h]
/-- Not a number: it is too great. -/
theorem num_big {l : List UInt8} {k : Nat} (h : 2147483647 < vl (l.take k)) : num l = false := by
  cases ha : l.all D with
  | false => simp [num, ha]
  | true =>
    have := vl_mono ha k
    simp only [num, Bool.and_eq_false_iff, decide_eq_false_iff_not]
    right; omega
theorem num_yes {l : List UInt8} (h0 : l ≠ []) (h1 : l.all D = true) (h2 : (l.headD 0 == 48 && decide (1 < l.length)) = false) (h3 : vl l ≤ 2147483647) : num l = true := by
  simp only [num, h1, h2, h3, decide_true, Bool.and_true, Bool.not_false]
  cases l with
  | nil => exact absurd rfl h0
  | cons a l => rfl
theorem nv_yes {l : List UInt8} (h : num l = true) : nv l = vl l := by rw [nv, if_pos h]
theorem nv_no {l : List UInt8} (h : num l = false) : nv l = 0 := by rw [nv, if_neg (by simp [h])]

theorem rn_len (p : UInt8 → Bool) (l : List UInt8) : (((rn p l : Nat) : Int) == (l.length : Int)) = l.all p := by
  cases h : l.all p with
  | true =>
    have := takeWhile_app p l [] h (by simp)
    rw [List.append_nil] at this
    simp [rn, this]
  | false =>
    have hne : rn p l ≠ l.length := by
      intro e
      have h1 := takeWhile_eq_take p l
      rw [e, List.take_length] at h1
      have h2 := takeWhile_all p l
      rw [← h1, h] at h2
      cases h2
    simp; omega

/-- The document's kind of a piece. -/
def rk (l : List UInt8) : Int := if aD l then 1 else if A (l.headD 0) && aW l then 2 else if (decide (l.length = 1) && sh.contains (l.headD 0)) || two.contains l then 3 else 0

/- the scan, place by place -/

theorem drop_cons {l : List UInt8} {k : Nat} {c : UInt8} (hc : l[k]? = some c) : l.drop k = c :: l.drop (k + 1) := by
  obtain ⟨h, e⟩ := List.getElem?_eq_some_iff.1 hc
  rw [List.drop_eq_getElem_cons h, e]

/-- Behind k bytes the tokens T are found. -/
def Inv (l : List UInt8) (k : Nat) (T : List Tok) : Prop := sc l 0 = (sc (l.drop k) k).map (T ++ ·)

theorem Inv.start (l : List UInt8) : Inv l 0 [] := by
  unfold Inv
  rw [List.drop_zero]
  cases sc l 0 <;> simp
theorem Inv.blank {l : List UInt8} {k : Nat} {T : List Tok} {c : UInt8} (h : Inv l k T) (hc : l[k]? = some c) (hb : bl c = true) : Inv l (k + 1) T := by
  unfold Inv at *
  rw [h, drop_cons hc, sc_blank hb]
theorem Inv.rem {l : List UInt8} {k j : Nat} {T : List Tok} (h : Inv l k T) (hc : l[k]? = some 35) (hj : k < j) (hjl : j ≤ l.length) (ha : ((l.drop k).take (j - k)).all nl = true) (he : ∀ c, l[j]? = some c → c = 10) : Inv l j T := by
  unfold Inv at *
  have hr : rn nl (l.drop k) = j - k := rn_of ha (by rw [List.length_drop]; omega) (by
    intro c hc'
    rw [List.getElem?_drop, show k + (j - k) = j by omega] at hc'
    rw [he c hc']; rfl)
  have e1 : rn nl (l.drop k) = 1 + rn nl (l.drop (k + 1)) := by
    rw [drop_cons hc]
    unfold rn
    rw [List.takeWhile_cons, if_pos (by decide), List.length_cons]
    omega
  have e2 : (l.drop (k + 1)).dropWhile nl = l.drop j := by
    rw [← rn_drop, List.drop_drop]
    congr 1
    omega
  rw [h, drop_cons hc, sc_rem, e2]
  congr 2
  omega
theorem Inv.tok {l : List UInt8} {k : Nat} {T : List Tok} {c : UInt8} (h : Inv l k T) (hc : l[k]? = some c) (h1 : bl c = false) (h2 : c ≠ 35) (hg : gd (l.drop k) = true) :
    Inv l (k + sz (l.drop k)) (T ++ [⟨kd (l.drop k), (l.drop k).take (sz (l.drop k)), k⟩]) := by
  unfold Inv at *
  have e := drop_cons hc
  have hs := sc_tok (p := k) h1 h2 (by rw [← e]; exact hg)
  rw [← e] at hs
  rw [h, hs, List.drop_drop]
  cases sc (l.drop (k + sz (l.drop k))) (k + sz (l.drop k)) <;> simp
theorem Inv.bad {l : List UInt8} {k : Nat} {T : List Tok} {c : UInt8} (h : Inv l k T) (hc : l[k]? = some c) (h1 : bl c = false) (h2 : c ≠ 35) (hg : gd (l.drop k) = false) : sc l 0 = none := by
  unfold Inv at *
  have e := drop_cons hc
  rw [h, e, sc_bad h1 h2 (by rw [← e]; exact hg)]
  rfl
theorem Inv.ends {l : List UInt8} {k : Nat} {T : List Tok} (h : Inv l k T) (hk : l.length ≤ k) : sc l 0 = some T := by
  unfold Inv at h
  rw [h, List.drop_of_length_le hk, sc_nil]
  simp

end Lx

/-
  The small functions of package lex and of the document: bytes and runs of bytes. Memory untouched.
-/
namespace Go.Proofs.YtlhbgkaknfhlnaaGreat
open Go.RowKit Go.IntWalk Lx
set_option linter.unusedVariables false

theorem hide {p : Prop} (h : p) : Hid p := h
theorem bel {w w1 w2 : World} (h : Below w.heap.size w w1) (k : Below w1.heap.size w1 w2) : Below w.heap.size w w2 := h.trans (k.mono h.size)
theorem bel1 (w : World) (o : Obj) : Below w.heap.size w (w.alloc o) := (Below.refl _ _).alloc (Nat.le_refl _) _
theorem ret_int {k : IntKind} {a b : Int} (h : a = b) : Ending.returned (.int k a) = .returned (.int k b) := by rw [h]
theorem ret_bool {a b : Bool} (h : a = b) : Ending.returned (.bool a) = .returned (.bool b) := by rw [h]

/-- The bytes of a text. -/
abbrev bs (s : ByteArray) : List UInt8 := s.data.toList
theorem bs_len (s : ByteArray) : (bs s).length = s.size := by cases s; rfl
theorem bs_at {s : ByteArray} {k : Nat} (h : k < s.size) : (bs s)[k]? = some s[k] := Lib.data_getElem? s k h
theorem bs_from (s : ByteArray) (k : Nat) : bs (s.extract k s.size) = (bs s).drop k := Lib.extract_to_end s k

theorem digit_any (c : Int) (w : World) :
    Calls Tryz.prog 107 #[.int .u8 c] w fun e w' => e = .returned (.bool (dg c)) ∧ w' = w := by
  by_cases h1 : 48 ≤ c
  · go_enter Tryz.func107, Tryz.ntmps107
    go_wp2
    go_ret
    exact ⟨ret_bool (by simp [dg, h1]), rfl⟩
  · rw [show dg c = false by simp [dg]; omega]
    go_enter Tryz.func107, Tryz.ntmps107
    go_wp2
    go_ret
    exact ⟨rfl, rfl⟩

theorem letter_any (c : Int) (w : World) :
    Calls Tryz.prog 109 #[.int .u8 c] w fun e w' => e = .returned (.bool (lt c)) ∧ w' = w := by
  by_cases h1 : 97 ≤ c
  · go_enter Tryz.func109, Tryz.ntmps109
    go_wp2
    go_ret
    exact ⟨ret_bool (by simp [lt, h1]), rfl⟩
  · rw [show lt c = false by simp [lt]; omega]
    go_enter Tryz.func109, Tryz.ntmps109
    go_wp2
    go_ret
    exact ⟨rfl, rfl⟩

theorem within_any (c : Int) (w : World) :
    Calls Tryz.prog 110 #[.int .u8 c] w fun e w' => e = .returned (.bool (wi c)) ∧ w' = w := by
  cases h1 : lt c with
  | true =>
    rw [show wi c = true by simp [wi, h1]]
    go_enter Tryz.func110, Tryz.ntmps110
    go_wp2_with (go_at_call 109; refine (letter_any _ _).mono ?_; rintro e w' ⟨rfl, rfl⟩)
    go_ret
    exact ⟨rfl, rfl⟩
  | false =>
    cases h2 : dg c with
    | true =>
      rw [show wi c = true by simp [wi, h1, h2]]
      go_enter Tryz.func110, Tryz.ntmps110
      go_wp2_with (first | (go_at_call 109; refine (letter_any _ _).mono ?_; rintro e w' ⟨rfl, rfl⟩) | (go_at_call 107; refine (digit_any _ _).mono ?_; rintro e w' ⟨rfl, rfl⟩))
      go_ret
      exact ⟨rfl, rfl⟩
    | false =>
      go_enter Tryz.func110, Tryz.ntmps110
      go_wp2_with (first | (go_at_call 109; refine (letter_any _ _).mono ?_; rintro e w' ⟨rfl, rfl⟩) | (go_at_call 107; refine (digit_any _ _).mono ?_; rintro e w' ⟨rfl, rfl⟩))
      go_ret
      exact ⟨ret_bool (by simp [wi, h1, h2]), rfl⟩

/-- A function of the program, handed on. -/
abbrev fv (n : Nat) : Value := .func (.func n) #[] #[]

set_option maxHeartbeats 1000000 in
theorem run_digit (s : ByteArray) (w : World) (hs : s.size ≤ maxLen) :
    Calls Tryz.prog 108 #[.string s, fv 107] w fun e w' => e = .returned (.int .i64 (rn D (bs s))) ∧ w' = w := by
  unfold maxLen at hs
  go_enter Tryz.func108, Tryz.ntmps108
  go_wp2
  go_loop [5] (fun i => ∃ k : Nat, k ≤ s.size ∧ i = .int .i64 k ∧ Hid (((bs s).take k).all D = true)) (fun i => s.size - (intOf i).toNat)
  case atStart => exact ⟨0, Nat.zero_le _, rfl, hide (by simp)⟩
  case round =>
    obtain ⟨k, hk, rfl, ha⟩ := hrel
    by_cases hlt : k < s.size
    · have hc := hide (bs_at hlt)
      cases hd : dg (s[k].toNat) with
      | true =>
        go_wp2_with (go_at_call 107; refine (digit_any _ _).mono ?_; rintro e w' ⟨rfl, rfl⟩)
        go_round
        case rel => exact ⟨k + 1, by omega, by go_num, hide (all_snoc ha.out hc.out hd)⟩
        case measure => simp [intOf]; omega
      | false =>
        go_wp2_with (go_at_call 107; refine (digit_any _ _).mono ?_; rintro e w' ⟨rfl, rfl⟩)
        go_ret
        exact ⟨ret_int (by rw [rn_of ha.out (by rw [bs_len]; omega) (by intro c h; rw [hc.out] at h; cases h; exact hd)]), rfl⟩
    · go_wp2
      go_ret
      exact ⟨ret_int (by rw [rn_of ha.out (by rw [bs_len]; omega) (by intro c h; rw [List.getElem?_eq_none (by rw [bs_len]; omega)] at h; cases h)]), rfl⟩

set_option maxHeartbeats 1000000 in
theorem run_within (s : ByteArray) (w : World) (hs : s.size ≤ maxLen) :
    Calls Tryz.prog 108 #[.string s, fv 110] w fun e w' => e = .returned (.int .i64 (rn W (bs s))) ∧ w' = w := by
  unfold maxLen at hs
  go_enter Tryz.func108, Tryz.ntmps108
  go_wp2
  go_loop [5] (fun i => ∃ k : Nat, k ≤ s.size ∧ i = .int .i64 k ∧ Hid (((bs s).take k).all W = true)) (fun i => s.size - (intOf i).toNat)
  case atStart => exact ⟨0, Nat.zero_le _, rfl, hide (by simp)⟩
  case round =>
    obtain ⟨k, hk, rfl, ha⟩ := hrel
    by_cases hlt : k < s.size
    · have hc := hide (bs_at hlt)
      cases hd : wi (s[k].toNat) with
      | true =>
        go_wp2_with (go_at_call 110; refine (within_any _ _).mono ?_; rintro e w' ⟨rfl, rfl⟩)
        go_round
        case rel => exact ⟨k + 1, by omega, by go_num, hide (all_snoc ha.out hc.out hd)⟩
        case measure => simp [intOf]; omega
      | false =>
        go_wp2_with (go_at_call 110; refine (within_any _ _).mono ?_; rintro e w' ⟨rfl, rfl⟩)
        go_ret
        exact ⟨ret_int (by rw [rn_of ha.out (by rw [bs_len]; omega) (by intro c h; rw [hc.out] at h; cases h; exact hd)]), rfl⟩
    · go_wp2
      go_ret
      exact ⟨ret_int (by rw [rn_of ha.out (by rw [bs_len]; omega) (by intro c h; rw [List.getElem?_eq_none (by rw [bs_len]; omega)] at h; cases h)]), rfl⟩

end Go.Proofs.YtlhbgkaknfhlnaaGreat

/-
  Texts: which bytes stand in them, their marks. Memory untouched.
-/
namespace Go.Proofs.YtlhbgkaknfhlnaaGreat
open Go.RowKit Go.IntWalk Lx
set_option linter.unusedVariables false

theorem amg_snoc {c : Int} {l : List UInt8} {k : Nat} {b : UInt8} (h : amg c (l.take k) = false) (hb : l[k]? = some b) (hn : ((b.toNat : Int) == c) = false) : amg c (l.take (k + 1)) = false := by
  rw [List.take_add_one, hb]
  unfold amg at h ⊢
  rw [List.any_append, h]
  simp [hn]
theorem amg_yes {c : Int} {l : List UInt8} {k : Nat} {b : UInt8} (hb : l[k]? = some b) (hn : ((b.toNat : Int) == c) = true) : amg c l = true := by
  unfold amg
  rw [List.any_eq_true]
  exact ⟨b, List.mem_of_getElem? hb, hn⟩

def allOf (l m : List UInt8) : Bool := l.all fun b => amg b.toNat m

abbrev dgS : ByteArray := ⟨#[48, 49, 50, 51, 52, 53, 54, 55, 56, 57]⟩
abbrev ltS : ByteArray := ⟨#[97, 98, 99, 100, 101, 102, 103, 104, 105, 106, 107, 108, 109, 110, 111, 112, 113, 114, 115, 116, 117, 118, 119, 120, 121, 122]⟩
abbrev wiS : ByteArray := ⟨#[97, 98, 99, 100, 101, 102, 103, 104, 105, 106, 107, 108, 109, 110, 111, 112, 113, 114, 115, 116, 117, 118, 119, 120, 121, 122, 48, 49, 50, 51, 52, 53, 54, 55, 56, 57, 95]⟩
abbrev shS : ByteArray := ⟨#[43, 45, 42, 47, 37, 40, 41, 44, 59, 61, 63, 58, 60, 62, 38, 124, 94]⟩
abbrev blS : ByteArray := ⟨#[32, 9, 10]⟩

def inSh (c : Int) : Bool := amg c sh
def inBl (c : Int) : Bool := amg c [32, 9, 10]

set_option maxRecDepth 100000 in
theorem iix_any (s : ByteArray) (c : Int) (w : World) :
    Calls Tryz.prog 153 #[.string s, .int .u8 c] w fun e w' => e = .returned (.int .i64 (Lib.indexByte (bs s) c.toNat.toUInt8)) ∧ w' = w := by
  go_enter Tryz.func153, Tryz.ntmps153
  go_wp2
  rw [run_callFunc_extern Tryz.func163 (by kernel_rfl) (by kernel_rfl) (by kernel_rfl) (e := Extern.BytealgIndexByte.indexByte) (by kernel_rfl), Lib.run_indexByteString]
  simp only [Result.andThen]
  rw [Oper.upon_value]
  go_wp2
  go_ret
  exact ⟨rfl, rfl⟩

theorem six_any (s : ByteArray) (c : Int) (w : World) :
    Calls Tryz.prog 138 #[.string s, .int .u8 c] w fun e w' => e = .returned (.int .i64 (Lib.indexByte (bs s) c.toNat.toUInt8)) ∧ w' = w := by
  go_enter Tryz.func138, Tryz.ntmps138
  go_wp2_with (go_at_call 153; refine (iix_any _ _ _).mono ?_; rintro e w' ⟨rfl, rfl⟩)
  go_ret
  exact ⟨rfl, rfl⟩

end Go.Proofs.YtlhbgkaknfhlnaaGreat

/-
  Marks, numbers and words: what a text is. Memory untouched.
-/
namespace Go.Proofs.YtlhbgkaknfhlnaaGreat
open Go.RowKit Go.IntWalk Lx
set_option linter.unusedVariables false

theorem ret_pair {a b : Int} {c d : Bool} (h : a = b) (h' : c = d) : Ending.returned (.tuple #[.int .i64 a, .bool c]) = .returned (.tuple #[.int .i64 b, .bool d]) := by rw [h, h']

def ixv (c : UInt8) : Int := Lib.indexByte sh c
theorem index_iff : ∀ (l : List UInt8) (c : UInt8), (0 ≤ Lib.indexByte l c ↔ l.contains c = true)
  | [], c => by simp [Lib.indexByte]
  | b :: l, c => by
    have ih := index_iff l c
    have hg := Lib.indexByte_ge l c
    rw [List.contains_cons]
    unfold Lib.indexByte
    by_cases h : b = c
    · subst h; simp
    · have h1 : (b == c) = false := by simp [h]
      have h2 : (c == b) = false := by simp; exact fun e => h e.symm
      rw [h1, h2]
      simp only [Bool.false_eq_true, if_false, Bool.false_or]
      by_cases h3 : Lib.indexByte l c = -1
      · rw [h3] at ih
        simp [h3] at ih ⊢
        exact ih
      · simp only [beq_iff_eq, h3, if_false]
        rw [← ih]
        omega
theorem ixv_yes {c : UInt8} (h : sh.contains c = true) : 0 ≤ ixv c := (index_iff sh c).2 h
theorem ixv_no {c : UInt8} (h : sh.contains c = false) : ixv c < 0 := by
  have := index_iff sh c
  rw [h] at this
  have : ¬ 0 ≤ Lib.indexByte sh c := by simpa using this
  unfold ixv
  omega
theorem six_sh (c : UInt8) (w : World) :
    Calls Tryz.prog 138 #[.string shS, .int .u8 (c.toNat : Nat)] w fun e w' => e = .returned (.int .i64 (ixv c)) ∧ w' = w := by
  have h := six_any shS (c.toNat : Nat) w
  rw [Lib.byte_back] at h
  exact h

theorem bs_cons {s : ByteArray} (h : 0 < s.size) : ∃ t, bs s = s[0] :: t := by
  have h1 := bs_at h
  cases hb : bs s with
  | nil => rw [hb] at h1; simp at h1
  | cons a t => rw [hb] at h1; simp at h1; exact ⟨t, by rw [h1]⟩
theorem bs_head {s : ByteArray} (h : 0 < s.size) : (bs s).headD 0 = s[0] := by
  obtain ⟨t, ht⟩ := bs_cons h
  rw [ht]; rfl
theorem bs_two (s : ByteArray) : (s.extract 0 2).toList = (bs s).take 2 := by
  rw [ByteArray.toList_eq]
  simp [ByteArray.data_extract]
theorem bs_nil {s : ByteArray} (h : s.size = 0) : s = ⟨#[]⟩ := ByteArray.ext (Array.eq_empty_of_size_eq_zero h)

set_option maxHeartbeats 1000000 in
theorem mark_any (s : ByteArray) (w : World) (h0 : 0 < s.size) (hs : s.size ≤ maxLen) :
    Calls Tryz.prog 111 #[.string s] w fun e w' => e = .returned (.int .i64 (mk (bs s))) ∧ w' = w := by
  unfold maxLen at hs
  obtain ⟨t, ht⟩ := bs_cons h0
  have hh := hide (bs_head h0)
  have H2 : 1 < s.size ∨ two.contains ((bs s).take 2) = false := by
    by_cases h : 1 < s.size
    · exact .inl h
    · right
      have hl : (bs s).length = 1 := by rw [bs_len]; omega
      cases t with
      | nil => rw [ht]; simp [two]
      | cons a t => rw [ht] at hl; simp at hl
  clear ht t
  have hT := bs_two s
  cases hm : two.contains ((bs s).take 2) with
  | true =>
    have h1 : 1 < s.size := by
      rcases H2 with h | h
      · exact h
      · rw [h] at hm; cases hm
    have hr : mk (bs s) = 2 := by unfold mk; rw [if_pos hm]
    rw [hr]
    clear H2 hr
    rcases contains_two hm with h | h | h | h | h | h <;>
    · rw [h] at hT
      clear h hm
      go_enter Tryz.func111, Tryz.ntmps111
      go_wp2
      go_ret
      exact ⟨rfl, rfl⟩
  | false =>
    have hr : mk (bs s) = if sh.contains s[0] then 1 else 0 := by unfold mk; rw [if_neg (by rw [hm]; simp), hh.out]
    have hr' := hide hr
    clear hr
    obtain ⟨T, hTT⟩ : ∃ T, (bs s).take 2 = T := ⟨_, rfl⟩
    rw [hTT] at hT hm
    clear hTT
    have hn : (T == [60, 61]) = false ∧ (T == [62, 61]) = false ∧ (T == [61, 61]) = false ∧ (T == [33, 61]) = false ∧ (T == [60, 60]) = false ∧ (T == [62, 62]) = false := by
      simp [two] at hm
      simpa using hm
    obtain ⟨n1, n2, n3, n4, n5, n6⟩ := hn
    clear hm H2
    cases hc : sh.contains s[0] with
    | true =>
      have hx := ixv_yes hc
      by_cases h1 : 1 < s.size <;>
      · go_enter Tryz.func111, Tryz.ntmps111
        go_wp2_with (go_at_call 138; refine (six_sh _ _).mono ?_; rintro e w' ⟨rfl, rfl⟩)
        go_ret
        exact ⟨ret_int (by rw [hr'.out, hc]; rfl), rfl⟩
    | false =>
      have hx := ixv_no hc
      by_cases h1 : 1 < s.size <;>
      · go_enter Tryz.func111, Tryz.ntmps111
        go_wp2_with (go_at_call 138; refine (six_sh _ _).mono ?_; rintro e w' ⟨rfl, rfl⟩)
        go_ret
        exact ⟨ret_int (by rw [hr'.out, hc]; rfl), rfl⟩

set_option maxHeartbeats 1000000 in
theorem word_any (s : ByteArray) (w : World) (hs : s.size ≤ maxLen) :
    Calls Tryz.prog 114 #[.string s] w fun e w' => e = .returned (.bool (wrd (bs s))) ∧ w' = w := by
  by_cases h0 : s.size = 0
  · obtain rfl := bs_nil h0
    go_enter Tryz.func114, Tryz.ntmps114
    go_wp2
    go_ret
    exact ⟨rfl, rfl⟩
  · have h0' : 0 < s.size := by omega
    have hE : (s.toList == []) = false := by
      rw [ByteArray.toList_eq]
      obtain ⟨t, ht⟩ := bs_cons h0'
      rw [show s.data.toList = _ from ht]; rfl
    have hW := hide (show wrd (bs s) = (decide (s.size ≤ 16) && lt s[0].toNat && (bs s).all W) by
      unfold wrd
      rw [bs_len, bs_head h0']
      obtain ⟨t, ht⟩ := bs_cons h0'
      rw [ht]; rfl)
    have hl := hide (rn_len W (bs s))
    rw [bs_len] at hl
    have hs' := hide hs
    unfold maxLen at hs
    by_cases h1 : s.size ≤ 16
    · cases hc : lt s[0].toNat with
      | true =>
        go_enter Tryz.func114, Tryz.ntmps114
        go_wp2_with (first | (go_at_call 109; refine (letter_any _ _).mono ?_; rintro e w' ⟨rfl, rfl⟩) | (go_at_call 108; refine (run_within _ _ hs'.out).mono ?_; rintro e w' ⟨rfl, rfl⟩))
        go_ret
        exact ⟨ret_bool (by rw [hW.out, hc, hl.out]; simp [h1]), rfl⟩
      | false =>
        go_enter Tryz.func114, Tryz.ntmps114
        go_wp2_with (go_at_call 109; refine (letter_any _ _).mono ?_; rintro e w' ⟨rfl, rfl⟩)
        go_ret
        exact ⟨ret_bool (by rw [hW.out, hc]; simp), rfl⟩
    · go_enter Tryz.func114, Tryz.ntmps114
      go_wp2
      go_ret
      exact ⟨ret_bool (by rw [hW.out]; simp [h1]), rfl⟩

end Go.Proofs.YtlhbgkaknfhlnaaGreat

/-
  Numbers, and the document's kind of a piece. Memory untouched.
-/
namespace Go.Proofs.YtlhbgkaknfhlnaaGreat
open Go.RowKit Go.IntWalk Lx
set_option linter.unusedVariables false

theorem toList_ne {s : ByteArray} (h : 0 < s.size) : (s.toList == []) = false := by
  rw [ByteArray.toList_eq]
  obtain ⟨t, ht⟩ := bs_cons h
  rw [show s.data.toList = _ from ht]; rfl

/-- One zero, or it does not begin with one. -/
theorem zero_form {s : ByteArray} (h : 0 < s.size) : ((bs s).headD 0 == 48 && decide (1 < (bs s).length)) = (((s[0].toNat : Int) == 48) && !(s.toList == [48])) := by
  rw [ByteArray.toList_eq, bs_head h]
  obtain ⟨t, ht⟩ := bs_cons h
  rw [show s.data.toList = _ from ht, ht]
  by_cases h48 : s[0] = 48
  · rw [h48]
    cases t with
    | nil => rfl
    | cons a t => simp
  · have h2 : ¬ (s[0].toNat : Int) = 48 := fun e => h48 (UInt8.toNat_inj.1 (by simp; omega))
    rw [beq_eq_false_iff_ne.2 h48, beq_eq_false_iff_ne.2 h2]
    rfl

set_option maxHeartbeats 2000000 in
theorem number_any (s : ByteArray) (w : World) (hs : s.size ≤ maxLen) :
    Calls Tryz.prog 113 #[.string s] w fun e w' => e = .returned (.tuple #[.int .i64 (nv (bs s)), .bool (num (bs s))]) ∧ w' = w := by
  unfold maxLen at hs
  by_cases h0 : s.size = 0
  · obtain rfl := bs_nil h0
    go_enter Tryz.func113, Tryz.ntmps113
    go_wp2
    go_ret2
    exact ⟨rfl, rfl⟩
  · have h0' : 0 < s.size := by omega
    have hE := toList_ne h0'
    have hz := hide (zero_form h0')
    by_cases hb : ((s[0].toNat : Int) == 48) = true ∧ (s.toList == [48]) = false
    · obtain ⟨h1, h2⟩ := hb
      have hn : num (bs s) = false := by unfold num; rw [hz.out, h1, h2]; simp
      rw [nv_no hn, hn]
      clear hn
      go_enter Tryz.func113, Tryz.ntmps113
      go_wp2
      go_ret2
      exact ⟨rfl, rfl⟩
    · have hz2 := hide (show ((bs s).headD 0 == 48 && decide (1 < (bs s).length)) = false by
        rw [hz.out]
        cases h1 : ((s[0].toNat : Int) == 48)
        · rfl
        · cases h2 : (s.toList == [48])
          · exact absurd ⟨h1, h2⟩ hb
          · rfl)
      have hne := hide (show bs s ≠ [] by
        obtain ⟨t, ht⟩ := bs_cons h0'
        rw [ht]; simp)
      have ways : ((s[0].toNat : Int) == 48) = false ∨ (((s[0].toNat : Int) == 48) = true ∧ (s.toList == [48]) = true) := by
        cases h1 : ((s[0].toNat : Int) == 48)
        · exact .inl rfl
        · cases h2 : (s.toList == [48])
          · exact absurd ⟨h1, h2⟩ hb
          · exact .inr ⟨rfl, rfl⟩
      clear hb hz
      rcases ways with h1 | ⟨h1, h2⟩
      all_goals
        go_enter Tryz.func113, Tryz.ntmps113
        go_wp2
        go_loop [4, 19] (fun n i => ∃ k : Nat, ∃ V : Int, k ≤ s.size ∧ i = .int .i64 k ∧ n = .int .i64 V ∧ 0 ≤ V ∧ V ≤ 2147483647 ∧ Hid (V = vl ((bs s).take k)) ∧ Hid (((bs s).take k).all D = true)) (fun _ i => s.size - (intOf i).toNat)
        case atStart => exact ⟨0, 0, Nat.zero_le _, rfl, rfl, by omega, by omega, hide rfl, hide (by simp)⟩
        case round =>
          obtain ⟨k, V, hk, rfl, rfl, hV0, hV1, hV, ha⟩ := hrel
          by_cases hlt : k < s.size
          · have hc := hide (bs_at hlt)
            cases hd : dg (s[k].toNat) with
            | false =>
              go_wp2_with (go_at_call 107; refine (digit_any _ _).mono ?_; rintro e w' ⟨rfl, rfl⟩)
              go_ret2
              have hn := num_no hc.out hd
              exact ⟨ret_pair (nv_no hn).symm hn.symm, rfl⟩
            | true =>
              obtain ⟨b1, b2⟩ := D_iff.1 hd
              have hv := hide (vl_take hc.out)
              rw [← hV.out] at hv
              by_cases hbig : 10 * V + ((s[k].toNat : Int) - 48) ≤ 2147483647
              · go_wp2_with (go_at_call 107; refine (digit_any _ _).mono ?_; rintro e w' ⟨rfl, rfl⟩)
                go_round
                case rel => exact ⟨k + 1, _, by omega, by go_num, rfl, by omega, by omega, hide hv.out.symm, hide (all_snoc ha.out hc.out hd)⟩
                case measure => simp [intOf]; omega
              · have hbig' : 2147483647 < 10 * V + ((s[k].toNat : Int) - 48) := by omega
                clear hbig
                go_wp2_with (go_at_call 107; refine (digit_any _ _).mono ?_; rintro e w' ⟨rfl, rfl⟩)
                go_ret2
                have hn := num_big (l := bs s) (k := k + 1) (by rw [hv.out]; exact hbig')
                exact ⟨ret_pair (nv_no hn).symm hn.symm, rfl⟩
          · go_wp2
            go_ret2
            have he : (bs s).take k = bs s := List.take_of_length_le (by rw [bs_len]; omega)
            rw [he] at hV ha
            have hn := num_yes hne.out ha.out hz2.out (by rw [← hV.out]; omega)
            exact ⟨ret_pair (by rw [nv_yes hn]; exact hV.out) hn.symm, rfl⟩

end Go.Proofs.YtlhbgkaknfhlnaaGreat

/-
  The document's kind of a piece. Memory untouched.
-/
namespace Go.Proofs.YtlhbgkaknfhlnaaGreat
open Go.RowKit Go.IntWalk Lx
set_option linter.unusedVariables false

theorem toList_bs (s : ByteArray) : s.toList = bs s := ByteArray.toList_eq s
theorem inSh_eq (c : UInt8) : inSh c.toNat = sh.contains c := amg_sh c
theorem inBl_eq (c : UInt8) : inBl c.toNat = bl c := amg_bl c

end Go.Proofs.YtlhbgkaknfhlnaaGreat

/-
  strings.Clone: the same bytes; memory that was there stays.
-/
namespace Go.Proofs.YtlhbgkaknfhlnaaGreat
open Go.RowKit Go.IntWalk Lx
set_option linter.unusedVariables false

/-- The numbers of the library's own text, in this program. -/
def numb : Go.Shelf.Ren := ⟨fun n => if n = 25 then 112 else n, fun n => if n = 37 then 153 else if n = 47 then 154 else n, fun n => n⟩

theorem lays : LaysPu.n25 Tryz.prog numb where
  mixed := by kernel_rfl
  f25 := by kernel_rfl
  t0 := Tryz.underlying0
  a0 := Tryz.isAgg0
  z0 := Tryz.sizeOf0
  v0 := Tryz.zeroValue0
  i0 := by kernel_rfl
  t3 := Tryz.underlying3
  a3 := Tryz.isAgg3
  z3 := Tryz.sizeOf3
  v3 := Tryz.zeroValue3
  i3 := by kernel_rfl
  t4 := Tryz.underlying4
  a4 := Tryz.isAgg4
  z4 := Tryz.sizeOf4
  v4 := Tryz.zeroValue4
  i4 := by kernel_rfl
  t5 := Tryz.underlying5
  a5 := Tryz.isAgg5
  z5 := Tryz.sizeOf5
  v5 := Tryz.zeroValue5
  i5 := by kernel_rfl
  t9 := Tryz.underlying9
  a9 := Tryz.isAgg9
  z9 := Tryz.sizeOf9
  v9 := Tryz.zeroValue9
  i9 := by kernel_rfl
  t37 := Tryz.underlying153
  a37 := Tryz.isAgg153
  z37 := Tryz.sizeOf153
  v37 := Tryz.zeroValue153
  i37 := by kernel_rfl
  t47 := Tryz.underlying154
  a47 := Tryz.isAgg154
  z47 := Tryz.sizeOf154
  v47 := Tryz.zeroValue154
  i47 := by kernel_rfl

theorem iclone_any (s : ByteArray) (w : World) (hlim : s.size ≤ 281474976710656) :
    Calls Tryz.prog 112 #[.string s] w fun e w' => e = .returned (.string s) ∧ Below w.heap.size w w' := AnyPu.stringslite_Clone lays s w hlim

theorem clone_any (s : ByteArray) (w : World) (hlim : s.size ≤ 281474976710656) :
    Calls Tryz.prog 79 #[.string s] w fun e w' => e = .returned (.string s) ∧ Below w.heap.size w w' := by
  have hl := hide hlim
  clear hlim
  go_enter Tryz.func79, Tryz.ntmps79
  go_wp2_with fail
  refine (iclone_any _ _ hl.out).mono ?_
  rintro e w' ⟨rfl, hb⟩
  have HB := hide hb
  clear hb
  go_wp2_with fail
  go_ret
  exact ⟨rfl, HB.out⟩

set_option maxHeartbeats 1000000 in
theorem longest_any (s : ByteArray) (w : World) (h0 : 0 < s.size) (hs : s.size ≤ maxLen) :
    Calls Tryz.prog 78 #[.string s] w fun e w' => e = .returned (.tuple #[.int .i64 (kd (bs s)), .int .i64 (sz (bs s))]) ∧ w' = w := by
  have hs' := hide hs
  have h0' := hide h0
  unfold maxLen at hs
  have hD : D ((bs s).headD 0) = dg s[0].toNat := by rw [bs_head h0]; rfl
  have hA : A ((bs s).headD 0) = lt s[0].toNat := by rw [bs_head h0]; rfl
  have HD := fun w => hide (digit_any s[0].toNat w)
  have HA := fun w => hide (letter_any s[0].toNat w)
  cases h1 : dg s[0].toNat with
  | true =>
    rw [show kd (bs s) = 1 by unfold kd; rw [hD, h1]; rfl, show sz (bs s) = rn D (bs s) by unfold sz; rw [hD, h1]; rfl]
    rw [h1] at HD
    clear hD hA HA h1
    go_enter Tryz.func78, Tryz.ntmps78
    go_wp2_with fail
    refine (HD _).out.mono ?_
    rintro e w' ⟨rfl, rfl⟩
    go_wp2_with fail
    refine (run_digit _ _ hs'.out).mono ?_
    rintro e w' ⟨rfl, rfl⟩
    go_wp2_with fail
    go_ret2
    exact ⟨rfl, rfl⟩
  | false =>
    rw [h1] at HD
    cases h2 : lt s[0].toNat with
    | true =>
      rw [show kd (bs s) = 2 by unfold kd; rw [hD, h1, hA, h2]; rfl, show sz (bs s) = rn W (bs s) by unfold sz; rw [hD, h1, hA, h2]; rfl]
      rw [h2] at HA
      clear hD hA h1 h2
      go_enter Tryz.func78, Tryz.ntmps78
      go_wp2_with fail
      refine (HD _).out.mono ?_
      rintro e w' ⟨rfl, rfl⟩
      go_wp2_with fail
      refine (HA _).out.mono ?_
      rintro e w' ⟨rfl, rfl⟩
      go_wp2_with fail
      refine (run_within _ _ hs'.out).mono ?_
      rintro e w' ⟨rfl, rfl⟩
      go_wp2_with fail
      go_ret2
      exact ⟨rfl, rfl⟩
    | false =>
      rw [show kd (bs s) = 3 by unfold kd; rw [hD, h1, hA, h2]; rfl, show sz (bs s) = mk (bs s) by unfold sz; rw [hD, h1, hA, h2]; rfl]
      rw [h2] at HA
      clear hD hA h1 h2
      go_enter Tryz.func78, Tryz.ntmps78
      go_wp2_with fail
      refine (HD _).out.mono ?_
      rintro e w' ⟨rfl, rfl⟩
      go_wp2_with fail
      refine (HA _).out.mono ?_
      rintro e w' ⟨rfl, rfl⟩
      go_wp2_with fail
      refine (mark_any _ _ h0'.out hs'.out).mono ?_
      rintro e w' ⟨rfl, rfl⟩
      go_wp2_with fail
      go_ret2
      exact ⟨rfl, rfl⟩

end Go.Proofs.YtlhbgkaknfhlnaaGreat

/-
  The token at a text's beginning.
-/
namespace Go.Proofs.YtlhbgkaknfhlnaaGreat
open Go.RowKit Go.IntWalk Lx
set_option linter.unusedVariables false

/-- The block b holds just these cells. -/
def HasC (W : World) (b : Nat) (t : TypeId) (cs : Array Value) : Prop := W.heap[b]? = some (.cells cs t (0, 0))
theorem HasC.lt {W : World} {b : Nat} {t : TypeId} {cs : Array Value} (h : HasC W b t cs) : b < W.heap.size := (Array.getElem?_eq_some_iff.1 h).1
theorem HasC.new (W : World) (t : TypeId) (cs : Array Value) : HasC (W.alloc (.cells cs t)) W.heap.size t cs := heap_alloc_new W _
theorem HasC.kept {W W' : World} {row : Option Nat} {b : Nat} {t : TypeId} {cs : Array Value} (h : HasC W b t cs) (hg : W.grownBy W' row) (hne : some b ≠ row) : HasC W' b t cs := (hg.block b h.lt hne).trans h
theorem HasC.alloc {W : World} {b : Nat} {t : TypeId} {cs : Array Value} (h : HasC W b t cs) (o : Obj) : HasC (W.alloc o) b t cs := h.kept (World.grownBy_alloc W o none) (by simp)
theorem HasC.below {W W' : World} {b : Nat} {t : TypeId} {cs : Array Value} (h : HasC W b t cs) (hb : Below W.heap.size W W') : HasC W' b t cs := (hb.block b h.lt).trans h
theorem HasC.cell {W : World} {b : Nat} {t : TypeId} {cs : Array Value} (h : HasC W b t cs) (i : Nat) {v : Value} (hv : cs[i]? = some v) : W.cell? ⟨b, i, none⟩ = some v := (cell_of_row W b i cs t (0, 0) h).trans hv
theorem HasC.frozen {W : World} {b : Nat} {t : TypeId} {cs : Array Value} (h : HasC W b t cs) (i : Nat) : W.frozen? ⟨b, i, none⟩ = false := by
  simp [World.frozen?, show W.heap[b]? = _ from h]
theorem HasC.other {W : World} {b : Nat} {t : TypeId} {cs : Array Value} (h : HasC W b t cs) {p : Addr} (hne : b ≠ p.block) (u : Value) : HasC (W.setCell p u) b t cs := (Below.heap_setCell W p u b hne).trans h
theorem HasC.set {W : World} {b : Nat} {t : TypeId} {cs : Array Value} (h : HasC W b t cs) (i : Nat) (u : Value) : HasC (W.setCell ⟨b, i, none⟩ u) b t (cs.setIfInBounds i u) := by
  obtain ⟨hlt, hk⟩ := Array.getElem?_eq_some_iff.1 h
  show (W.heap.modify b _)[b]? = _
  rw [Array.getElem?_eq_getElem (by rw [Array.size_modify]; exact hlt), Array.getElem_modify_self, hk]
  rfl
theorem facts3 {W : World} {b : Nat} {t : TypeId} {x y z : Value} (h : HasC W b t #[x, y, z]) : W.cell? ⟨b, 0, none⟩ = some x ∧ W.cell? ⟨b, 1, none⟩ = some y ∧ W.cell? ⟨b, 2, none⟩ = some z :=
  ⟨h.cell 0 rfl, h.cell 1 rfl, h.cell 2 rfl⟩
theorem free3 {W : World} {b : Nat} {t : TypeId} {x y z : Value} (h : HasC W b t #[x, y, z]) : W.frozen? ⟨b, 0, none⟩ = false ∧ W.frozen? ⟨b, 1, none⟩ = false ∧ W.frozen? ⟨b, 2, none⟩ = false :=
  ⟨h.frozen 0, h.frozen 1, h.frozen 2⟩
theorem below_drew (W : World) : Below W.heap.size W W.drew := ⟨rfl, rfl, rfl, Nat.le_refl _, fun _ _ => rfl⟩
theorem cell_old {W : World} {o : Obj} {b i : Nat} (h : b < W.heap.size) : (W.alloc o).cell? ⟨b, i, none⟩ = W.cell? ⟨b, i, none⟩ := (bel1 W o).cell (p := ⟨b, i, none⟩) h

theorem far3 {W : World} {g b : Nat} {u v y x0 x1 x2 : Value} (hb : b < g) (h0 : W.cell? ⟨g, 0, none⟩ = some x0) (h1 : W.cell? ⟨g, 1, none⟩ = some x1) (h2 : W.cell? ⟨g, 2, none⟩ = some x2) :
    (((W.setCell ⟨b, 0, none⟩ u).setCell ⟨b, 1, none⟩ v).setCell ⟨b, 2, none⟩ y).cell? ⟨g, 0, none⟩ = some x0 ∧ (((W.setCell ⟨b, 0, none⟩ u).setCell ⟨b, 1, none⟩ v).setCell ⟨b, 2, none⟩ y).cell? ⟨g, 1, none⟩ = some x1 ∧ (((W.setCell ⟨b, 0, none⟩ u).setCell ⟨b, 1, none⟩ v).setCell ⟨b, 2, none⟩ y).cell? ⟨g, 2, none⟩ = some x2 := by
  have h : (((W.setCell ⟨b, 0, none⟩ u).setCell ⟨b, 1, none⟩ v).setCell ⟨b, 2, none⟩ y).heap[g]? = W.heap[g]? :=
    (Below.heap_setCell _ _ _ g (by simp; omega)).trans ((Below.heap_setCell _ _ _ g (by simp; omega)).trans (Below.heap_setCell _ _ _ g (by simp; omega)))
  exact ⟨(World.cell?_of_block (a := ⟨g, 0, none⟩) h).trans h0, (World.cell?_of_block (a := ⟨g, 1, none⟩) h).trans h1, (World.cell?_of_block (a := ⟨g, 2, none⟩) h).trans h2⟩
/-- The end of a walk whose answer lies in a block of its own: three stores. -/
theorem stored3 {w w2 : World} {b : Nat} {t : TypeId} {p q r : Value} (h : HasC w2 b t #[p, q, r]) (hB : Below w.heap.size w w2) (hb : w.heap.size ≤ b) (x : Int) (y : ByteArray) (z : Int) :
    (((w2.setCell ⟨b, 0, none⟩ (.int .i64 x)).setCell ⟨b, 1, none⟩ (.string y)).setCell ⟨b, 2, none⟩ (.int .i64 z)).cell? ⟨b, 0, none⟩ = some (.int .i64 x) ∧
    (((w2.setCell ⟨b, 0, none⟩ (.int .i64 x)).setCell ⟨b, 1, none⟩ (.string y)).setCell ⟨b, 2, none⟩ (.int .i64 z)).cell? ⟨b, 1, none⟩ = some (.string y) ∧
    (((w2.setCell ⟨b, 0, none⟩ (.int .i64 x)).setCell ⟨b, 1, none⟩ (.string y)).setCell ⟨b, 2, none⟩ (.int .i64 z)).cell? ⟨b, 2, none⟩ = some (.int .i64 z) ∧
    Below w.heap.size w (((w2.setCell ⟨b, 0, none⟩ (.int .i64 x)).setCell ⟨b, 1, none⟩ (.string y)).setCell ⟨b, 2, none⟩ (.int .i64 z)) := by
  have h3 := ((h.set 0 (.int .i64 x)).set 1 (.string y)).set 2 (.int .i64 z)
  exact ⟨h3.cell 0 rfl, h3.cell 1 rfl, h3.cell 2 rfl, ((hB.setCell (by exact hb) _).setCell (by exact hb) _).setCell (by exact hb) _⟩

/-- A token's cells. -/
abbrev tc (k : Int) (s : ByteArray) (p : Int) : Array Value := #[.int .i64 k, .string s, .int .i64 p]

set_option maxHeartbeats 1000000 in
theorem may_any (k : Int) (s : ByteArray) (p : Int) (w : World) (hs : s.size ≤ maxLen) :
    Calls Tryz.prog 80 #[.agg (tc k s p)] w fun e w' => e = .returned (.bool (may k (bs s))) ∧ Below w.heap.size w w' := by
  have HB := hide (bel1 w (.cells (tc k s p) 89))
  have hs' := hide hs
  clear hs
  by_cases h1 : k = 1
  · subst h1
    rw [show may 1 (bs s) = num (bs s) from rfl]
    go_enter Tryz.func80, Tryz.ntmps80
    go_wp2_with fail
    refine (number_any _ _ hs'.out).mono ?_
    rintro e w' ⟨rfl, rfl⟩
    go_wp2_with fail
    go_ret
    exact ⟨rfl, HB.out⟩
  · by_cases h2 : k = 2
    · subst h2
      rw [show may 2 (bs s) = wrd (bs s) from rfl]
      clear h1
      go_enter Tryz.func80, Tryz.ntmps80
      go_wp2_with fail
      refine (word_any _ _ hs'.out).mono ?_
      rintro e w' ⟨rfl, rfl⟩
      go_wp2_with fail
      go_ret
      exact ⟨rfl, HB.out⟩
    · have e1 : (k == 1) = false := by simp [h1]
      have e2 : (k == 2) = false := by simp [h2]
      have hm := hide (show may k (bs s) = !s.toList.isEmpty by
        unfold may
        rw [if_neg h1, if_neg h2, toList_bs])
      clear h1 h2
      go_enter Tryz.func80, Tryz.ntmps80
      go_wp2_with fail
      go_ret
      exact ⟨ret_bool hm.out.symm, HB.out⟩

theorem bs_to (s : ByteArray) (k : Nat) : bs (s.extract 0 k) = (bs s).take k := by
  show (s.extract 0 k).data.toList = _
  rw [ByteArray.data_extract]
  simp
theorem takeWhile_le (p : UInt8 → Bool) (l : List UInt8) : rn p l ≤ l.length := by
  have h := congrArg List.length (takeWhile_split p l)
  rw [List.length_append] at h
  unfold rn
  omega
theorem mk_le {l : List UInt8} (h : l ≠ []) : mk l ≤ l.length := by
  unfold mk
  split
  · rename_i h2
    have h3 : (l.take 2).length = 2 := by rcases contains_two h2 with h | h | h | h | h | h <;> rw [h] <;> rfl
    rw [List.length_take] at h3
    omega
  · cases l with
    | nil => exact absurd rfl h
    | cons a l => split <;> simp
theorem sz_le {l : List UInt8} (h : l ≠ []) : sz l ≤ l.length := by
  unfold sz
  split
  · exact takeWhile_le _ _
  · split
    · exact takeWhile_le _ _
    · exact mk_le h

set_option maxHeartbeats 2000000 in
theorem begun_any (s : ByteArray) (w : World) (h0 : 0 < s.size) (hs : s.size ≤ 1024) :
    Calls Tryz.prog 47 #[.string s] w fun e w' => e = .returned (.tuple #[.agg (tc (kd (bs s)) (s.extract 0 (sz (bs s))) 0), .bool (gd (bs s))]) ∧ Below w.heap.size w w' := by
  have HL := hide fun w => longest_any s w h0 (by unfold maxLen; omega)
  have hz1 : sz (bs s) ≤ s.size := by
    rw [← bs_len]
    refine sz_le ?_
    obtain ⟨t, ht⟩ := bs_cons h0
    rw [ht]; simp
  have hg := hide (show gd (bs s) = may (kd (bs s)) (bs (s.extract 0 (sz (bs s)))) by rw [bs_to]; rfl)
  obtain ⟨k, hk⟩ : ∃ k, kd (bs s) = k := ⟨_, rfl⟩
  obtain ⟨n, hn⟩ : ∃ n, sz (bs s) = n := ⟨_, rfl⟩
  rw [hk, hn] at HL hg ⊢
  rw [hn] at hz1
  clear hk hn
  obtain ⟨T, hT⟩ : ∃ T, s.extract 0 n = T := ⟨_, rfl⟩
  have hTs : T.size ≤ 1024 := by
    rw [← hT]; simp; omega
  have HC := hide fun w => clone_any T w (by omega)
  have HM := hide fun w => may_any k T 0 w (by unfold maxLen; omega)
  rw [hT] at hg ⊢
  rw [hg.out]
  clear hg hTs
  have H0 := hide (bel1 w (.cells (tc 0 ⟨#[]⟩ 0) 89))
  go_enter Tryz.func47, Tryz.ntmps47
  go_wp2_with fail
  refine (HL.out _).mono ?_
  rintro e w1 ⟨rfl, rfl⟩
  go_wp2_with fail
  refine (HC.out _).mono ?_
  rintro e w2 ⟨rfl, hb2⟩
  have HR := hide ((HasC.new w 89 (tc 0 ⟨#[]⟩ 0)).below hb2)
  have HB := hide (bel H0.out hb2)
  clear hb2 HC H0 HL
  go_wp2_with fail
  have HW := hide (HasC.new w2 89 (tc k T 0))
  have HR2 := hide (HR.out.alloc (.cells (tc k T 0) 89))
  have HB2 := hide (bel HB.out (bel1 w2 (.cells (tc k T 0) 89)))
  have hl := HR.out.lt
  obtain ⟨W, hW⟩ : ∃ W, w2.alloc (.cells #[.int .i64 k, .string T, .int .i64 0] 89) = W := ⟨_, rfl⟩
  obtain ⟨g, hg⟩ : ∃ g, w2.heap.size = g := ⟨_, rfl⟩
  rw [hW, hg] at HW
  rw [hW] at HR2 HB2 ⊢
  rw [hg] at hl ⊢
  clear hW hg HR HB hT h0 hs hz1
  obtain ⟨d0, d1, d2⟩ := facts3 HW.out
  go_region_held3 (fun w' => w'.cell? ⟨g, 0, none⟩ = some (.int .i64 k) ∧ w'.cell? ⟨g, 1, none⟩ = some (.string T) ∧ w'.cell? ⟨g, 2, none⟩ = some (.int .i64 0))
    (first | exact ⟨d0, d1, d2⟩ | exact ⟨t0, t1, t2⟩ | exact far3 hl t0 t1 t2 | go_keep)
    ((first
      | (go_at_call 80; refine (HM.out _).mono ?_; rintro e' w3 ⟨rfl, hb3⟩; have hb4 := bel (below_drew W) hb3; obtain ⟨t0, t1, t2⟩ := facts3 (HW.out.below hb4); have HR3 := hide (HR2.out.below hb4); have HB3 := hide (bel HB2.out hb4); obtain ⟨s0, s1, s2⟩ := facts3 HR3.out; obtain ⟨z0, z1, z2⟩ := free3 HR3.out)))
  go_wp2_with fail
  obtain ⟨e0, e1, e2, hB4⟩ := stored3 HR3.out HB3.out (Nat.le_refl _) k T 0
  exact bodyPost_ret (v := .tuple #[.agg (tc k T 0), .bool (may k (bs T))]) (by simp [results, Tryz.results47, go_sem, e0, e1, e2]) rfl ⟨rfl, hB4⟩

end Go.Proofs.YtlhbgkaknfhlnaaGreat

/-
  Lists of tokens in memory: an append of one token.
-/
namespace Go.Proofs.YtlhbgkaknfhlnaaGreat
open Go.RowKit Go.IntWalk Lx
set_option linter.unusedVariables false

theorem infoT : (Tryz.prog.info? 89).map (fun i => (i.zero, i.size, i.bytes)) = some (some (.agg #[.int .i64 0, .string ⟨#[]⟩, .int .i64 0]), 3, 32) := by kernel_rfl

/-- A token's text, as a string. -/
abbrev sB (l : List UInt8) : ByteArray := ⟨l.toArray⟩
theorem sB_bs (s : ByteArray) : sB (bs s) = s := by cases s; rfl
theorem bs_sB (l : List UInt8) : bs (sB l) = l := rfl

def tk64 (T : List Tok) : List Value := T.flatMap fun t => [.int .i64 t.kind, .string (sB t.text), .int .i64 (t.pos : Int)]
theorem tk64_len (T : List Tok) : (tk64 T).length = T.length * 3 := by
  induction T with
  | nil => rfl
  | cons p L ih => simp [tk64] at *; omega
theorem tk64_snoc (T : List Tok) (t : Tok) : tk64 (T ++ [t]) = tk64 T ++ [.int .i64 t.kind, .string (sB t.text), .int .i64 (t.pos : Int)] := by simp [tk64]
def t0 : Tok := ⟨0, [], 0⟩
theorem tk64_get : ∀ (T : List Tok) (i : Nat), i < T.length → (tk64 T)[i * 3]? = some (.int .i64 (T.getD i t0).kind) ∧ (tk64 T)[i * 3 + 1]? = some (.string (sB (T.getD i t0).text)) ∧ (tk64 T)[i * 3 + 2]? = some (.int .i64 ((T.getD i t0).pos : Int))
  | [], i, h => by simp at h
  | p :: L, 0, h => by simp [tk64]
  | p :: L, i + 1, h => by
    have h' := tk64_get L i (by simpa using h)
    have e : tk64 (p :: L) = .int .i64 p.kind :: .string (sB p.text) :: .int .i64 (p.pos : Int) :: tk64 L := by simp [tk64]
    rw [e, show (i + 1) * 3 = i * 3 + 1 + 1 + 1 by omega, show i * 3 + 1 + 1 + 1 + 1 = (i * 3 + 1) + 1 + 1 + 1 by omega, show i * 3 + 1 + 1 + 1 + 2 = (i * 3 + 2) + 1 + 1 + 1 by omega]
    simp only [List.getElem?_cons_succ]
    simpa using h'

/-- The slice (a, n, cap) reads as the tokens T. -/
structure Toks (w : World) (a : Option Addr) (n cap : Nat) (T : List Tok) : Prop where
  len : T.length = n
  le : n ≤ cap
  max : cap ≤ maxLen
  nil : a = none → cap = 0
  cell : n = 0 ∨ ∃ b off, a = some ⟨b, off, none⟩ ∧ ∀ i, i < n → w.cell? ⟨b, off + i * 3, none⟩ = some (.int .i64 (T.getD i t0).kind) ∧ w.cell? ⟨b, off + i * 3 + 1, none⟩ = some (.string (sB (T.getD i t0).text)) ∧ w.cell? ⟨b, off + i * 3 + 2, none⟩ = some (.int .i64 ((T.getD i t0).pos : Int))

/-- A list of tokens in memory of the call's own. -/
structure Es (w W : World) (v : Value) (n : Nat) (T : List Tok) : Prop where
  a : W.ownsRow w.heap.size 89 3 v n (tk64 T)
  bel : Below w.heap.size w W
theorem Es.alloc {w W : World} {v : Value} {n : Nat} {T : List Tok} (h : Es w W v n T) (o : Obj) : Es w (W.alloc o) v n T := ⟨h.a.alloc o, h.bel.alloc h.bel.size o⟩
theorem Es.start (W : World) : Es W W (.slice none 0 0) 0 [] := ⟨⟨rfl, .inl ⟨rfl, rfl⟩⟩, Below.refl _ _⟩
theorem Es.len {w W : World} {v : Value} {n : Nat} {T : List Tok} (h : Es w W v n T) : T.length = n := by
  have := h.a.1
  rw [tk64_len] at this
  omega
theorem Es.later {w W W' : World} {v : Value} {n : Nat} {T : List Tok} (h : Es w W v n T) (hb : Below W.heap.size W W') : Es w W' v n T := by
  have hg : W.grownBy W' none := ⟨hb.os, hb.tape, hb.output, hb.size, fun k hk _ => hb.block k hk⟩
  refine ⟨h.a.kept hg ?_, h.bel.trans (hb.mono h.bel.size)⟩
  cases hv : v.ownBlock with
  | none => exact .inl rfl
  | some q => exact .inr (by simp)

theorem Toks.of_owns {w : World} {base : Nat} {v : Value} {n : Nat} {T : List Tok} (h : w.ownsRow base 89 3 v n (tk64 T)) : ∃ a cap, v = .slice a n cap ∧ Toks w a n cap T ∧ (∀ x, a = some x → base ≤ x.block ∧ x.block < w.heap.size) := by
  have hl : T.length = n := by
    have := h.1
    rw [tk64_len] at this
    omega
  have hlt := h.lt
  have hcs := fun g hg => h.cells (g := g) hg
  rcases h.2 with ⟨rfl, rfl⟩ | ⟨g, cap, cur, rfl, hb, hg, hnc, hcm, hsz, htake⟩
  · exact ⟨none, 0, rfl, ⟨hl, Nat.le_refl _, Nat.zero_le _, fun _ => rfl, .inl rfl⟩, fun x hx => by cases hx⟩
  · refine ⟨some ⟨g, 0, none⟩, cap, rfl, ⟨hl, hnc, hcm, (fun h => by cases h), .inr ⟨g, 0, rfl, fun i hi => ?_⟩⟩, fun x hx => by cases hx; exact hlt g rfl⟩
    obtain ⟨e1, e2, e3⟩ := tk64_get T i (by omega)
    have h1 := hcs g rfl _ _ e1
    have h2 := hcs g rfl _ _ e2
    have h3 := hcs g rfl _ _ e3
    rw [Addr.add_lit] at h1 h2 h3
    exact ⟨h1, by rw [Nat.add_assoc]; exact h2, by rw [Nat.add_assoc]; exact h3⟩

theorem news_tok {W : World} {b : Nat} {k p : Int} {s : ByteArray} (h : HasC W b 89 (tc k s p)) : ∀ j u, [Value.int .i64 k, .string s, .int .i64 p][j]? = some u → W.cell? ((⟨b, 0, none⟩ : Addr).add j) = some u := by
  intro j u hu
  rw [Addr.add_lit]
  match j, hu with
  | 0, hu => simp at hu; subst hu; exact h.cell 0 rfl
  | 1, hu => simp at hu; subst hu; exact h.cell 1 rfl
  | 2, hu => simp at hu; subst hu; exact h.cell 2 rfl
  | _ + 3, hu => simp at hu

/-- An append of one token, at a step of a plain region. -/
theorem list_tok {w W : World} {v : Value} {n : Nat} {T : List Tok} {ops : Array Oper} {rest : List Oper} {o : Oper} {a : Act} {Q : Exit → Act → World → Prop}
    (hgd : o.guard = none) (s x : Operand) (ho : o.op = .call { callee := .builtin .append, args := #[s, x], argTypes := #[65, 65] })
    (hs : a.eval s = v) (hen : Es w W v n T) (b : Nat) (t : Tok) (hx : a.eval x = .slice (some ⟨b, 0, none⟩) 1 1) (hc : HasC W b 89 (tc t.kind (sB t.text) t.pos)) (h3 : n ≤ 2000000)
    (h : ∀ g cap w', Es w w' (.slice (some ⟨g, 0, none⟩) (n + 1) cap) (n + 1) (T ++ [t]) → W.heap.size ≤ w'.heap.size → wpList Tryz.prog ops Q rest (a.put o.dst (.slice (some ⟨g, 0, none⟩) (n + 1) cap)) w') :
    wpList Tryz.prog ops Q (o :: rest) a W := by
  obtain ⟨i0, hi0, hz0, hz1, hz2⟩ := info_parts infoT
  refine wpList_append_lies W hgd s x 65 ho w.heap.size 89 i0 _ 3 32 Tryz.underlying65 hi0 hz0 hz1 hz2 rfl (by omega) v n (tk64 T) hs hen.a ⟨b, 0, none⟩ 1 1 [.int .i64 t.kind, .string (sB t.text), .int .i64 (t.pos : Int)] hx rfl (news_tok hc) (by simp [Value.oneCell']) (by omega) (by unfold maxLen; omega) (by omega) hen.bel.size W.heap.size rfl ?_
  intro g cap w' hown hgrow hat hlt
  exact h g cap w' ⟨by rw [tk64_snoc]; exact hown, hen.bel.grown hgrow hen.bel.size (fun k hk => (hen.a.lt k hk).1)⟩ hgrow.size

/-- What Tokens answers. -/
def TP (w : World) (l : List UInt8) (e : Ending) (w' : World) : Prop :=
  (tks l = none ∧ e = .returned (.tuple #[.slice none 0 0, .int .i64 10]) ∧ Below w.heap.size w w') ∨
  (∃ T v, tks l = some T ∧ e = .returned (.tuple #[v, .int .i64 0]) ∧ w'.ownsRow w.heap.size 89 3 v T.length (tk64 T) ∧ Below w.heap.size w w')

end Go.Proofs.YtlhbgkaknfhlnaaGreat

/-
  lex.Tokens: the tokens of a text.
-/
namespace Go.Proofs.YtlhbgkaknfhlnaaGreat
open Go.RowKit Go.IntWalk Lx
set_option linter.unusedVariables false

theorem ne_of_nat {c : UInt8} {n : Nat} (h : ((c.toNat : Int) == (n : Int)) = false) (m : UInt8) (hm : m.toNat = n) : c ≠ m := by
  intro e
  subst e
  rw [hm] at h
  simp at h
theorem eq_of_nat {c : UInt8} {n : Nat} (h : ((c.toNat : Int) == (n : Int)) = true) (m : UInt8) (hm : m.toNat = n) : c = m := by
  simp only [beq_iff_eq] at h
  exact UInt8.toNat_inj.1 (by omega)
theorem text_at (s : ByteArray) (k n : Nat) : (s.extract k s.size).extract 0 n = sB (((bs s).drop k).take n) := by
  rw [← sB_bs ((s.extract k s.size).extract 0 n), bs_to, bs_from]

theorem nl_of {c : UInt8} (h : ((c.toNat : Int) == 10) = false) : nl c = true := by
  have := ne_of_nat (n := 10) h 10 rfl
  simp [nl, this]

set_option maxHeartbeats 4000000 in
set_option maxRecDepth 100000 in
theorem tokens_any (s : ByteArray) (w : World) : Calls Tryz.prog 24 #[.string s] w fun e w' => TP w (bs s) e w' := by
  by_cases hbig : 1024 < s.size
  · have hn : tks (bs s) = none := by unfold tks; rw [bs_len, if_pos hbig]
    have hn' := hide hn
    clear hn
    go_enter Tryz.func24, Tryz.ntmps24
    go_wp2
    go_step3
    go_wp2
    try rw [Exit.noGoto_ret]
    go_ret2
    exact .inl ⟨hn'.out, rfl, Below.refl _ _⟩
  · have hs : s.size ≤ 1024 := by omega
    have htk := hide (show tks (bs s) = sc (bs s) 0 by unfold tks; rw [bs_len, if_neg hbig])
    clear hbig
    go_enter Tryz.func24, Tryz.ntmps24
    go_wp2
    go_step3
    go_wp2
    go_step3
    go_wp2
    go_loopg [4, 5] s.size (fun g v i W => ∃ k n : Nat, ∃ T : List Tok, k + g = s.size ∧ n ≤ k ∧ i = .int .i64 k ∧ Hid (Es w W v n T) ∧ Hid (Inv (bs s) k T))
    case atStart => exact ⟨0, 0, [], by omega, Nat.le_refl _, rfl, hide (Es.start w), hide (Inv.start _)⟩
    case round =>
      obtain ⟨k, n, T, hk, hnk, rfl, HE, HI⟩ := hrel
      by_cases hlt : k < s.size
      · have hc := hide (bs_at hlt)
        by_cases hb : bl s[k] = true
        · have HI2 := hide (HI.out.blank hc.out hb)
          have hw : ((s[k].toNat : Int) == 32) = true ∨ (((s[k].toNat : Int) == 32) = false ∧ ((s[k].toNat : Int) == 9) = true) ∨ (((s[k].toNat : Int) == 32) = false ∧ ((s[k].toNat : Int) == 9) = false ∧ ((s[k].toNat : Int) == 10) = true) := by
            simp only [bl, Bool.or_eq_true, beq_iff_eq] at hb
            rcases hb with (h | h) | h <;> rw [h] <;> simp
          clear hb
          rcases hw with h1 | ⟨h1, h2⟩ | ⟨h1, h2, h3⟩
          all_goals
            go_wp2
            go_roundg (gk - 1)
            case measure => omega
            case rel => exact ⟨k + 1, n, T, by omega, by omega, by go_num, HE, HI2⟩
        · have hb' : bl s[k] = false := by simpa using hb
          have h1 : ((s[k].toNat : Int) == 32) = false := by
            cases h : ((s[k].toNat : Int) == 32)
            · rfl
            · rw [eq_of_nat (n := 32) h 32 rfl] at hb'; exact absurd hb' (by decide)
          have h2 : ((s[k].toNat : Int) == 9) = false := by
            cases h : ((s[k].toNat : Int) == 9)
            · rfl
            · rw [eq_of_nat (n := 9) h 9 rfl] at hb'; exact absurd hb' (by decide)
          have h3 : ((s[k].toNat : Int) == 10) = false := by
            cases h : ((s[k].toNat : Int) == 10)
            · rfl
            · rw [eq_of_nat (n := 10) h 10 rfl] at hb'; exact absurd hb' (by decide)
          have HB' := hide hb'
          clear hb hb'
          cases h4 : ((s[k].toNat : Int) == 35) with
          | true =>
            have H35 := hide (show (bs s)[k]? = some 35 by rw [hc.out, eq_of_nat (n := 35) h4 35 rfl])
            go_wp2
            go_loopg [5] (s.size - k) (fun g2 i wy => ∃ j : Nat, j + g2 = s.size ∧ k ≤ j ∧ i = .int .i64 j ∧ Hid ((((bs s).drop k).take (j - k)).all nl = true) ∧ wy = wr)
            case atStart => exact ⟨k, by omega, Nat.le_refl _, rfl, hide (by simp), rfl⟩
            case round =>
              obtain ⟨j, hj, hkj, rfl, HA, rfl⟩ := hrel
              by_cases hjl : j < s.size
              · have hcj := hide (bs_at hjl)
                cases h10 : ((s[j].toNat : Int) == 10) with
                | true =>
                  have hne : k < j := by
                    rcases Nat.lt_or_ge k j with h | h
                    · exact h
                    · obtain rfl : j = k := by omega
                      rw [h10] at h3; cases h3
                  have HI2 := hide (HI.out.rem H35.out hne (by rw [bs_len]; omega) HA.out (by intro c h; rw [hcj.out] at h; cases h; exact eq_of_nat (n := 10) h10 10 rfl))
                  go_wp2
                  go_roundg (s.size - j)
                  case measure => omega
                  case rel => exact ⟨j, n, T, by omega, by omega, rfl, HE, HI2⟩
                | false =>
                  have HA2 := hide (all_snoc (l := (bs s).drop k) (k := j - k) (c := s[j]) HA.out (by rw [List.getElem?_drop, show k + (j - k) = j by omega]; exact hcj.out) (nl_of h10))
                  rw [show j - k + 1 = j + 1 - k by omega] at HA2
                  go_wp2
                  go_roundg (s.size - (j + 1))
                  case measure => omega
                  case rel => exact ⟨j + 1, by omega, by omega, by go_num, HA2, rfl⟩
              · have HI2 := hide (HI.out.rem H35.out (j := j) (by omega) (by rw [bs_len]; omega) HA.out (by intro c h; rw [List.getElem?_eq_none (by rw [bs_len]; omega)] at h; cases h))
                go_wp2
                try rw [Exit.noGoto_ret]
                go_ret2
                have hT := HI2.out.ends (by rw [bs_len]; omega)
                have hE := HE.out
                exact .inr ⟨T, _, htk.out.trans hT, rfl, by rw [hE.len]; exact hE.a, hE.bel⟩
          | false =>
            have h35 := hide (ne_of_nat (n := 35) h4 35 rfl)
            have HG := fun w => begun_any (s.extract k s.size) w (by simp; omega) (by simp; omega)
            simp only [text_at, bs_from] at HG
            have hzl : sz ((bs s).drop k) ≤ s.size - k := by
              have := sz_le (l := (bs s).drop k) (by rw [drop_cons hc.out]; simp)
              rw [List.length_drop, bs_len] at this
              exact this
            cases hg : gd ((bs s).drop k) with
            | false =>
              have hN := hide (HI.out.bad hc.out HB'.out h35.out hg)
              rw [hg] at HG
              have HG' := hide HG
              clear HG hg
              go_wp2_with fail
              refine (HG'.out _).mono ?_
              rintro e w1 ⟨rfl, hb1⟩
              have HBl := hide (bel HE.out.bel (bel hb1 (bel1 w1 (.cells (tc (kd ((bs s).drop k)) (sB (((bs s).drop k).take (sz ((bs s).drop k)))) 0) 89))))
              clear hb1
              go_wp2_with fail
              try rw [Exit.noGoto_ret]
              go_ret2
              exact .inl ⟨htk.out.trans hN.out, rfl, HBl.out⟩
            | true =>
              have hpos := gd_pos hg
              have HI2 := hide (HI.out.tok hc.out HB'.out h35.out hg)
              have hXl : (((bs s).drop k).take (sz ((bs s).drop k))).length = sz ((bs s).drop k) := by rw [List.length_take, List.length_drop, bs_len]; omega
              rw [hg] at HG
              obtain ⟨K, hK⟩ : ∃ K, kd ((bs s).drop k) = K := ⟨_, rfl⟩
              obtain ⟨X, hX⟩ : ∃ X, ((bs s).drop k).take (sz ((bs s).drop k)) = X := ⟨_, rfl⟩
              rw [hX] at hXl
              rw [hK, hX, ← hXl] at HI2
              rw [hK, hX] at HG
              rw [← hXl] at hpos hzl
              have HG' := hide HG
              clear HG hg hK hX hXl
              have hsz : (sB X).size = X.length := by simp [ByteArray.size]
              go_wp2_with fail
              refine (HG'.out _).mono ?_
              rintro e w1 ⟨rfl, hb1⟩
              have HE1 := hide (HE.out.later hb1)
              have HN := hide (HasC.new (w1.alloc (.cells (tc K (sB X) k) 89)) 89 (tc K (sB X) k))
              simp only [World.size_alloc] at HN
              clear hb1 HE
              go_wp2_with (at_builtin; refine list_tok rfl _ _ rfl rfl ((HE1.out.alloc _).alloc _) (w1.heap.size + 1) ⟨K, X, k⟩ rfl HN.out (by omega) ?_; intro g cap w2 hE2 hsz2)
              go_roundg (s.size - (k + X.length))
              case measure => omega
              case rel => exact ⟨k + X.length, n + 1, _, by omega, by omega, by go_num, hide hE2, HI2⟩
      · go_wp2
        try rw [Exit.noGoto_ret]
        go_ret2
        have hT := HI.out.ends (by rw [bs_len]; omega)
        have hE := HE.out
        exact .inr ⟨T, _, htk.out.trans hT, rfl, by rw [hE.len]; exact hE.a, hE.bel⟩

end Go.Proofs.YtlhbgkaknfhlnaaGreat

/-
  The document's Same: two lists that read as the same tokens are alike.
-/
namespace Go.Proofs.YtlhbgkaknfhlnaaGreat
open Go.RowKit Go.IntWalk Lx
set_option linter.unusedVariables false

theorem below_drewN (w : World) (q : Nat) : Below w.heap.size w (w.drewN q) := ⟨rfl, rfl, rfl, Nat.le_refl _, fun _ _ => rfl⟩

theorem Toks.at {w : World} {a : Option Addr} {n cap : Nat} {T : List Tok} (h : Toks w a n cap T) (hn : n ≠ 0) :
    ∃ b off, a = some ⟨b, off, none⟩ ∧ b < w.heap.size ∧ ∀ i, i < n → w.cell? ⟨b, off + i * 3, none⟩ = some (.int .i64 (T.getD i t0).kind) ∧ w.cell? ⟨b, off + i * 3 + 1, none⟩ = some (.string (sB (T.getD i t0).text)) ∧ w.cell? ⟨b, off + i * 3 + 2, none⟩ = some (.int .i64 ((T.getD i t0).pos : Int)) := by
  rcases h.cell with h0 | ⟨b, off, ha, hc⟩
  · exact absurd h0 hn
  · exact ⟨b, off, ha, World.block_lt_of_cell? w _ (hc 0 (by omega)).1, hc⟩
theorem Toks.of_cells {w w' : World} {a : Option Addr} {n cap : Nat} {T : List Tok} (h : Toks w a n cap T)
    (hc : ∀ b off, a = some ⟨b, off, none⟩ → n ≠ 0 → ∀ i, w'.cell? ⟨b, i, none⟩ = w.cell? ⟨b, i, none⟩) : Toks w' a n cap T := by
  refine ⟨h.len, h.le, h.max, h.nil, ?_⟩
  by_cases hn : n = 0
  · exact .inl hn
  · obtain ⟨b, off, ha, _, hcell⟩ := h.at hn
    refine .inr ⟨b, off, ha, fun i hi => ?_⟩
    obtain ⟨c1, c2, c3⟩ := hcell i hi
    exact ⟨(hc b off ha hn _).trans c1, (hc b off ha hn _).trans c2, (hc b off ha hn _).trans c3⟩
theorem Toks.later {w w' : World} {a : Option Addr} {n cap : Nat} {T : List Tok} (h : Toks w a n cap T) (hb : Below w.heap.size w w') : Toks w' a n cap T := by
  refine h.of_cells fun b off ha hn i => ?_
  obtain ⟨b', off', ha', hlt, _⟩ := h.at hn
  rw [ha] at ha'
  cases ha'
  exact hb.cell (p := ⟨b, i, none⟩) hlt

end Go.Proofs.YtlhbgkaknfhlnaaGreat

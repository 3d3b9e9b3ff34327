/-
 The tokens and the program of a text that binds one name.
-/
import Derived.Test.YtbgmljmpmemfcaaGreatYGrB
import Derived.Test.YtbgmljmpmemfcaaGreatYOpA
import Derived.Test.YtbgmljmpmemfcaaGreatYRpA
import Derived.Deep.CutRange
namespace Pz
open Lx
set_option linter.unusedVariables false

end Pz

/-
 Texts put together: their tokens.
-/
namespace Pz
open Lx
set_option linter.unusedVariables false

/-- The tokens of a text, wherever it stands. -/
def ak (l : List UInt8) : Option (List Tk) := (sc l 0).map (List.map ab)

theorem sk_pos : ∀ (n : Nat) (l : List UInt8) (p q : Nat), l.length ≤ n → (sc l p).map (List.map ab) = (sc l q).map (List.map ab) := by
 intro n
 induction n with
 | zero =>
  intro l p q h
  have : l = [] := List.length_eq_zero_iff.1 (by omega)
  subst this
  rw [sc_nil, sc_nil]
 | succ n ih =>
  intro l p q h
  cases l with
  | nil => rw [sc_nil, sc_nil]
  | cons c r =>
   simp only [List.length_cons] at h
   cases hb : bl c with
   | true => rw [sc_blank hb, sc_blank hb]; exact ih r _ _ (by omega)
   | false =>
    by_cases h35 : c = 35
    ·subst h35
     rw [sc_rem, sc_rem]
     exact ih _ _ _ (by have := dropWhile_le nl r; omega)
    ·cases hg : gd (c :: r) with
     | false => rw [sc_bad hb h35 hg, sc_bad hb h35 hg]
     | true =>
      rw [sc_tok hb h35 hg, sc_tok hb h35 hg]
      have hp := gd_pos hg
      have := ih ((c :: r).drop (sz (c :: r))) (p + sz (c :: r)) (q + sz (c :: r)) (by simp; omega)
      cases h1 : sc ((c :: r).drop (sz (c :: r))) (p + sz (c :: r)) with
      | none =>
       rw [h1] at this
       cases h2 : sc ((c :: r).drop (sz (c :: r))) (q + sz (c :: r)) with
       | none => rfl
       | some T => rw [h2] at this; cases this
      | some T =>
       rw [h1] at this
       cases h2 : sc ((c :: r).drop (sz (c :: r))) (q + sz (c :: r)) with
       | none => rw [h2] at this; cases this
       | some T' =>
        rw [h2] at this
        simp only [Option.map_some, Option.some.injEq] at this
        simp only [Option.map_some, List.map_cons, this]
        rfl
theorem sk_ak (l : List UInt8) (p : Nat) : (sc l p).map (List.map ab) = ak l := sk_pos l.length l p 0 (Nat.le_refl _)

theorem ak_nil : ak [] = some [] := by unfold ak; rw [sc_nil]; rfl
theorem ak_tok {c : UInt8} {r : List UInt8} (h1 : bl c = false) (h2 : c ≠ 35) (h : gd (c :: r) = true) :
  ak (c :: r) = (ak ((c :: r).drop (sz (c :: r)))).map (ab ⟨kd (c :: r), (c :: r).take (sz (c :: r)), 0⟩ :: ·) := by
 show (sc (c :: r) 0).map (List.map ab) = _
 rw [sc_tok h1 h2 h, ← sk_ak _ (0 + sz (c :: r)), Option.map_map, Option.map_map]
 rfl
theorem tks_ak {l : List UInt8} {A : List Tk} (h : ak l = some A) (hl : l.length ≤ 1024) : ∃ T, tks l = some T ∧ T.map ab = A := by
 unfold tks
 rw [if_neg (by omega)]
 unfold ak at h
 cases hs : sc l 0 with
 | none => rw [hs] at h; cases h
 | some T => rw [hs] at h; cases h; exact ⟨T, rfl, rfl⟩

/-- What can't be part of a token that stands ahead of it. -/
def cuts (d : UInt8) : Prop := W d = false ∧ D d = false ∧ d ≠ 61 ∧ d ≠ 60 ∧ d ≠ 62
/-- A mark of one byte that begins no other. -/
theorem ak_mark {c : UInt8} (hc : sh.contains c = true) (h60 : c ≠ 60) (h61 : c ≠ 61) (h62 : c ≠ 62) (h33 : c ≠ 33) (r : List UInt8) : ak (c :: r) = (ak r).map (mkT [c] :: ·) := by
 obtain ⟨h1, h2, h3, h4⟩ := sh_cases hc
 have hm : mk (c :: r) = 1 := by
  unfold mk
  have : two.contains ((c :: r).take 2) = false := by
   cases r with
   | nil => simp [two]
   | cons d r => simp [two, h60, h61, h62, h33]
  rw [this]
  simp
  simpa using hc
 have hz : sz (c :: r) = 1 := by simp only [sz, List.headD_cons, h1, h2, Bool.false_eq_true, if_false]; exact hm
 have hk : kd (c :: r) = 3 := by simp [kd, h1, h2]
 have hg : gd (c :: r) = true := by unfold gd; rw [hk, hz]; simp [may]
 rw [ak_tok h3 h4 hg, hz, hk]
 rfl

end Pz

/-
 Two texts joined: their program.
-/
namespace Pz
open Lx
open Go.Proofs.YtbgmljmpmemfcaaGreat (row rows G.ups)
set_option linter.unusedVariables false

def wMax : Txt := [109, 97, 120]
end Pz

/-
 Two texts behind one another.
-/
namespace Go.Proofs.YtbgmljmpmemfcaaGreat
open Go.RowKit Go.IntWalk Lx Pz
set_option linter.unusedVariables false

end Go.Proofs.YtbgmljmpmemfcaaGreat

/-
 Parse, where the program is known; parts of a tree.
-/
namespace Go.Proofs.YtbgmljmpmemfcaaGreat
open Go.RowKit Go.IntWalk Lx Pz
set_option linter.unusedVariables false

abbrev mkC : Array Value := #[.string ⟨#[124]⟩, .string ⟨#[94]⟩, .string ⟨#[38]⟩, .string ⟨#[60]⟩, .string ⟨#[60, 61]⟩, .string ⟨#[62]⟩, .string ⟨#[62, 61]⟩, .string ⟨#[61, 61]⟩, .string ⟨#[33, 61]⟩, .string ⟨#[60, 60]⟩, .string ⟨#[62, 62]⟩, .string ⟨#[43]⟩, .string ⟨#[45]⟩, .string ⟨#[42]⟩, .string ⟨#[47]⟩, .string ⟨#[37]⟩]
abbrev opC : Array Value := #[.int .i64 16, .int .i64 17, .int .i64 15, .int .i64 18, .int .i64 19, .int .i64 20, .int .i64 21, .int .i64 22, .int .i64 23, .int .i64 13, .int .i64 14, .int .i64 8, .int .i64 9, .int .i64 10, .int .i64 11, .int .i64 12]
/-- A node's cells, in the midst of a row. -/
abbrev at9 (W : World) (g o : Nat) (n : Nd) : Prop := W.cell? ⟨g, o, none⟩ = some (.int .i64 n.op) ∧ W.cell? ⟨g, o + 1, none⟩ = some (.int .i64 n.a) ∧ W.cell? ⟨g, o + 2, none⟩ = some (.int .i64 n.b) ∧ W.cell? ⟨g, o + 3, none⟩ = some (.int .i64 n.c) ∧ W.cell? ⟨g, o + 4, none⟩ = some (.int .i64 n.k) ∧ W.cell? ⟨g, o + 5, none⟩ = some (.int .i64 n.back) ∧ W.cell? ⟨g, o + 6, none⟩ = some (.int .i64 n.co) ∧ W.cell? ⟨g, o + 7, none⟩ = some (.int .i64 n.x) ∧ W.cell? ⟨g, o + 8, none⟩ = some (.int .i64 n.y)
theorem Nz.at {W : World} {a : Option Addr} {n cap : Nat} {L : List Nd} (h : Nz W a n cap L) (h0 : 0 < n) : ∃ g off, a = some ⟨g, off, none⟩ ∧ ∀ i, i < n → at9 W g (off + i * 9) (L.getD i n0) := by
 rcases h.cell with h | ⟨g, off, ha, -, hc⟩
 ·omega
 ·exact ⟨g, off, ha, fun i hi => ⟨hc i hi 0 _ rfl, hc i hi 1 _ rfl, hc i hi 2 _ rfl, hc i hi 3 _ rfl, hc i hi 4 _ rfl, hc i hi 5 _ rfl, hc i hi 6 _ rfl, hc i hi 7 _ rfl, hc i hi 8 _ rfl⟩⟩
theorem tks_len {l : List UInt8} {T : List Tok} (h : tks l = some T) : T.length ≤ 1024 := by
 obtain ⟨h1, h2⟩ := tks_cov h
 have := cov_len T _ 0 h1
 omega
end Go.Proofs.YtbgmljmpmemfcaaGreat

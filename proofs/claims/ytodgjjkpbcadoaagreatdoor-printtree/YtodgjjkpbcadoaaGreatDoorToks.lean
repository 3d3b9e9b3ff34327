/-
  Lists of tokens in memory: an append of one token.
-/
import Derived.Test.YtodgjjkpbcadoaaGreatDoorBegun
import Derived.Deep.AppendLies
import Derived.ArgAppend
namespace Go.Proofs.YtodgjjkpbcadoaaGreatDoor
open Go.RowKit Go.IntWalk Lx
set_option linter.unusedVariables false

theorem infoT : (Tryz.prog.info? 89).map (fun i => (i.zero, i.size, i.bytes)) = some (some (.agg #[.int .i64 0, .string ⟨#[]⟩, .int .i64 0]), 3, 32) := by kernel_rfl

/-- A token's text, as a string. -/
abbrev sB (l : List UInt8) : ByteArray := ⟨l.toArray⟩
theorem sB_bs (s : ByteArray) : sB (bs s) = s := by cases s; rfl
theorem bs_sB (l : List UInt8) : bs (sB l) = l := rfl

def tk64 (T : List Tok) : List Value := T.flatMap fun t => [.int .i64 t.kind, .string (sB t.text), .int .i64 (t.pos : Int)]
theorem tk64_len (T : List Tok) : (tk64 T).length = T.length * 3 := by
  induction T with
  | nil => rfl
  | cons p L ih => simp [tk64] at *; omega
theorem tk64_snoc (T : List Tok) (t : Tok) : tk64 (T ++ [t]) = tk64 T ++ [.int .i64 t.kind, .string (sB t.text), .int .i64 (t.pos : Int)] := by simp [tk64]
def t0 : Tok := ⟨0, [], 0⟩
theorem tk64_get : ∀ (T : List Tok) (i : Nat), i < T.length → (tk64 T)[i * 3]? = some (.int .i64 (T.getD i t0).kind) ∧ (tk64 T)[i * 3 + 1]? = some (.string (sB (T.getD i t0).text)) ∧ (tk64 T)[i * 3 + 2]? = some (.int .i64 ((T.getD i t0).pos : Int))
  | [], i, h => by simp at h
  | p :: L, 0, h => by simp [tk64]
  | p :: L, i + 1, h => by
    have h' := tk64_get L i (by simpa using h)
    have e : tk64 (p :: L) = .int .i64 p.kind :: .string (sB p.text) :: .int .i64 (p.pos : Int) :: tk64 L := by simp [tk64]
    rw [e, show (i + 1) * 3 = i * 3 + 1 + 1 + 1 by omega, show i * 3 + 1 + 1 + 1 + 1 = (i * 3 + 1) + 1 + 1 + 1 by omega, show i * 3 + 1 + 1 + 1 + 2 = (i * 3 + 2) + 1 + 1 + 1 by omega]
    simp only [List.getElem?_cons_succ]
    simpa using h'

/-- The slice (a, n, cap) reads as the tokens T. -/
structure Toks (w : World) (a : Option Addr) (n cap : Nat) (T : List Tok) : Prop where
  len : T.length = n
  le : n ≤ cap
  max : cap ≤ maxLen
  nil : a = none → cap = 0
  cell : n = 0 ∨ ∃ b off, a = some ⟨b, off, none⟩ ∧ ∀ i, i < n → w.cell? ⟨b, off + i * 3, none⟩ = some (.int .i64 (T.getD i t0).kind) ∧ w.cell? ⟨b, off + i * 3 + 1, none⟩ = some (.string (sB (T.getD i t0).text)) ∧ w.cell? ⟨b, off + i * 3 + 2, none⟩ = some (.int .i64 ((T.getD i t0).pos : Int))

/-- A list of tokens in memory of the call's own. -/
structure Es (w W : World) (v : Value) (n : Nat) (T : List Tok) : Prop where
  a : W.ownsRow w.heap.size 89 3 v n (tk64 T)
  bel : Below w.heap.size w W
theorem Es.alloc {w W : World} {v : Value} {n : Nat} {T : List Tok} (h : Es w W v n T) (o : Obj) : Es w (W.alloc o) v n T := ⟨h.a.alloc o, h.bel.alloc h.bel.size o⟩
theorem Es.start (W : World) : Es W W (.slice none 0 0) 0 [] := ⟨⟨rfl, .inl ⟨rfl, rfl⟩⟩, Below.refl _ _⟩
theorem Es.len {w W : World} {v : Value} {n : Nat} {T : List Tok} (h : Es w W v n T) : T.length = n := by
  have := h.a.1
  rw [tk64_len] at this
  omega
theorem Es.later {w W W' : World} {v : Value} {n : Nat} {T : List Tok} (h : Es w W v n T) (hb : Below W.heap.size W W') : Es w W' v n T := by
  have hg : W.grownBy W' none := ⟨hb.os, hb.tape, hb.output, hb.size, fun k hk _ => hb.block k hk⟩
  refine ⟨h.a.kept hg ?_, h.bel.trans (hb.mono h.bel.size)⟩
  cases hv : v.ownBlock with
  | none => exact .inl rfl
  | some q => exact .inr (by simp)

theorem Toks.of_owns {w : World} {base : Nat} {v : Value} {n : Nat} {T : List Tok} (h : w.ownsRow base 89 3 v n (tk64 T)) : ∃ a cap, v = .slice a n cap ∧ Toks w a n cap T ∧ (∀ x, a = some x → base ≤ x.block ∧ x.block < w.heap.size) := by
  have hl : T.length = n := by
    have := h.1
    rw [tk64_len] at this
    omega
  have hlt := h.lt
  have hcs := fun g hg => h.cells (g := g) hg
  rcases h.2 with ⟨rfl, rfl⟩ | ⟨g, cap, cur, rfl, hb, hg, hnc, hcm, hsz, htake⟩
  · exact ⟨none, 0, rfl, ⟨hl, Nat.le_refl _, Nat.zero_le _, fun _ => rfl, .inl rfl⟩, fun x hx => by cases hx⟩
  · refine ⟨some ⟨g, 0, none⟩, cap, rfl, ⟨hl, hnc, hcm, (fun h => by cases h), .inr ⟨g, 0, rfl, fun i hi => ?_⟩⟩, fun x hx => by cases hx; exact hlt g rfl⟩
    obtain ⟨e1, e2, e3⟩ := tk64_get T i (by omega)
    have h1 := hcs g rfl _ _ e1
    have h2 := hcs g rfl _ _ e2
    have h3 := hcs g rfl _ _ e3
    rw [Addr.add_lit] at h1 h2 h3
    exact ⟨h1, by rw [Nat.add_assoc]; exact h2, by rw [Nat.add_assoc]; exact h3⟩

theorem news_tok {W : World} {b : Nat} {k p : Int} {s : ByteArray} (h : HasC W b 89 (tc k s p)) : ∀ j u, [Value.int .i64 k, .string s, .int .i64 p][j]? = some u → W.cell? ((⟨b, 0, none⟩ : Addr).add j) = some u := by
  intro j u hu
  rw [Addr.add_lit]
  match j, hu with
  | 0, hu => simp at hu; subst hu; exact h.cell 0 rfl
  | 1, hu => simp at hu; subst hu; exact h.cell 1 rfl
  | 2, hu => simp at hu; subst hu; exact h.cell 2 rfl
  | _ + 3, hu => simp at hu

/-- An append of one token, at a step of a plain region. -/
theorem list_tok {w W : World} {v : Value} {n : Nat} {T : List Tok} {ops : Array Oper} {rest : List Oper} {o : Oper} {a : Act} {Q : Exit → Act → World → Prop}
    (hgd : o.guard = none) (s x : Operand) (ho : o.op = .call { callee := .builtin .append, args := #[s, x], argTypes := #[69, 69] })
    (hs : a.eval s = v) (hen : Es w W v n T) (b : Nat) (t : Tok) (hx : a.eval x = .slice (some ⟨b, 0, none⟩) 1 1) (hc : HasC W b 89 (tc t.kind (sB t.text) t.pos)) (h3 : n ≤ 2000000)
    (h : ∀ g cap w', Es w w' (.slice (some ⟨g, 0, none⟩) (n + 1) cap) (n + 1) (T ++ [t]) → W.heap.size ≤ w'.heap.size → wpList Tryz.prog ops Q rest (a.put o.dst (.slice (some ⟨g, 0, none⟩) (n + 1) cap)) w') :
    wpList Tryz.prog ops Q (o :: rest) a W := by
  obtain ⟨i0, hi0, hz0, hz1, hz2⟩ := info_parts infoT
  refine wpList_append_lies W hgd s x 69 ho w.heap.size 89 i0 _ 3 32 Tryz.underlying69 hi0 hz0 hz1 hz2 rfl (by omega) v n (tk64 T) hs hen.a ⟨b, 0, none⟩ 1 1 [.int .i64 t.kind, .string (sB t.text), .int .i64 (t.pos : Int)] hx rfl (news_tok hc) (by simp [Value.oneCell']) (by omega) (by unfold maxLen; omega) (by omega) hen.bel.size W.heap.size rfl ?_
  intro g cap w' hown hgrow hat hlt
  exact h g cap w' ⟨by rw [tk64_snoc]; exact hown, hen.bel.grown hgrow hen.bel.size (fun k hk => (hen.a.lt k hk).1)⟩ hgrow.size

/-- What Tokens answers. -/
def TP (w : World) (l : List UInt8) (e : Ending) (w' : World) : Prop :=
  (tks l = none ∧ e = .returned (.tuple #[.slice none 0 0, .int .i64 10]) ∧ Below w.heap.size w w') ∨
  (∃ T v, tks l = some T ∧ e = .returned (.tuple #[v, .int .i64 0]) ∧ w'.ownsRow w.heap.size 89 3 v T.length (tk64 T) ∧ Below w.heap.size w w')

end Go.Proofs.YtodgjjkpbcadoaaGreatDoor

/-
  A list of spans that a call makes: an append of one span.
-/
import Derived.Test.YtlhbgkaknfhlnaaSpHoldR
namespace Go.Proofs.Ytlhbgkaknfhlnaa.Spn
open Go.RowKit Go.IntWalk Go.Sort
set_option linter.unusedVariables false

theorem info26 : (Try.prog.info? 42).map (fun i => (i.zero, i.size, i.bytes)) = some (some (.agg #[.int .i64 0, .int .i64 0]), 2, 16) := by kernel_rfl

def sp64 (L : List (Int × Int)) : List Value := L.flatMap fun p => [.int .i64 p.1, .int .i64 p.2]
theorem sp64_len (L : List (Int × Int)) : (sp64 L).length = L.length * 2 := by
  induction L with
  | nil => rfl
  | cons p L ih => simp [sp64] at *; omega
theorem sp64_snoc (L : List (Int × Int)) (x y : Int) : sp64 (L ++ [(x, y)]) = sp64 L ++ [.int .i64 x, .int .i64 y] := by simp [sp64]
theorem sp64_get : ∀ (L : List (Int × Int)) (i : Nat), i < L.length → (sp64 L)[i * 2]? = some (.int .i64 (L.getD i (0, 0)).1) ∧ (sp64 L)[i * 2 + 1]? = some (.int .i64 (L.getD i (0, 0)).2)
  | [], i, h => by simp at h
  | p :: L, 0, h => by simp [sp64]
  | p :: L, i + 1, h => by
    have h' := sp64_get L i (by simpa using h)
    have e : sp64 (p :: L) = .int .i64 p.1 :: .int .i64 p.2 :: sp64 L := by simp [sp64]
    rw [e, show (i + 1) * 2 = i * 2 + 1 + 1 by omega, show i * 2 + 1 + 1 + 1 = (i * 2 + 1) + 1 + 1 by omega]
    simp only [List.getElem?_cons_succ]
    simpa using h'
theorem sp64_one (L : List (Int × Int)) : ∀ u ∈ sp64 L, u.oneCell' = true := by
  intro u hu
  simp only [sp64, List.mem_flatMap] at hu
  obtain ⟨p, -, hp⟩ := hu
  simp at hp
  rcases hp with rfl | rfl <;> simp [Value.oneCell']

/-- A list of spans in memory of the call's own. -/
structure Es (w W : World) (v : Value) (n : Nat) (L : List (Int × Int)) : Prop where
  a : W.ownsRow w.heap.size 42 2 v n (sp64 L)
  bel : Below w.heap.size w W
theorem Es.alloc {w W : World} {v : Value} {n : Nat} {L : List (Int × Int)} (h : Es w W v n L) (o : Obj) : Es w (W.alloc o) v n L := ⟨h.a.alloc o, h.bel.alloc h.bel.size o⟩
theorem Es.drew {w W : World} {v : Value} {n : Nat} {L : List (Int × Int)} (h : Es w W v n L) : Es w W.drew v n L := ⟨h.a.drew, h.bel.trans ⟨rfl, rfl, rfl, Nat.le_refl _, fun _ _ => rfl⟩⟩
theorem Es.start (W : World) : Es W W (.slice none 0 0) 0 [] := ⟨⟨rfl, .inl ⟨rfl, rfl⟩⟩, Below.refl _ _⟩
theorem Es.later {w W W' : World} {v : Value} {n : Nat} {L : List (Int × Int)} (h : Es w W v n L) (hb : Below W.heap.size W W') : Es w W' v n L := by
  have hg : W.grownBy W' none := ⟨hb.os, hb.tape, hb.output, hb.size, fun k hk _ => hb.block k hk⟩
  refine ⟨h.a.kept hg ?_, h.bel.trans (hb.mono h.bel.size)⟩
  cases hv : v.ownBlock with
  | none => exact .inl rfl
  | some q => exact .inr (by simp)

theorem Spans.of_owns {w : World} {base : Nat} {v : Value} {n : Nat} {L : List (Int × Int)} (h : w.ownsRow base 42 2 v n (sp64 L)) (hl : L.length = n) : ∃ a cap, v = .slice a n cap ∧ Spans w a n cap L := by
  have hcs := fun g hg => h.cells (g := g) hg
  rcases h.2 with ⟨rfl, rfl⟩ | ⟨g, cap, cur, rfl, hb, hg, hnc, hcm, hsz, htake⟩
  · exact ⟨none, 0, rfl, ⟨hl, Nat.le_refl _, Nat.zero_le _, fun _ => rfl, .inl rfl⟩⟩
  · refine ⟨some ⟨g, 0, none⟩, cap, rfl, ⟨hl, hnc, hcm, (fun h => by cases h), .inr ⟨g, 0, rfl, fun i hi => ?_⟩⟩⟩
    obtain ⟨e1, e2⟩ := sp64_get L i (by omega)
    have h1 := hcs g rfl _ _ e1
    have h2 := hcs g rfl _ _ e2
    rw [Addr.add_lit] at h1 h2
    exact ⟨h1, by rw [Nat.add_assoc]; exact h2⟩

theorem news_two {W : World} {b : Nat} {x y : Int} (h : HasC W b 42 #[.int .i64 x, .int .i64 y]) : ∀ j u, [Value.int .i64 x, .int .i64 y][j]? = some u → W.cell? ((⟨b, 0, none⟩ : Addr).add j) = some u := by
  intro j u hu
  rw [Addr.add_lit]
  match j, hu with
  | 0, hu => simp at hu; subst hu; exact h.cell 0 rfl
  | 1, hu => simp at hu; subst hu; exact h.cell 1 rfl
  | _ + 2, hu => simp at hu

theorem Es.grow {w W w' : World} {v : Value} {n : Nat} {L : List (Int × Int)} (h : Es w W v n L) {g cap : Nat} {x y : Int} (hl : L.length = n)
    (hown : w'.ownsRow w.heap.size 42 2 (.slice (some ⟨g, 0, none⟩) (n + 1) cap) (n + 1) (sp64 L ++ [.int .i64 x, .int .i64 y])) (hgrow : W.grownBy w' v.ownBlock) :
    Es w w' (.slice (some ⟨g, 0, none⟩) (n + 1) cap) (n + 1) (L ++ [(x, y)]) :=
  ⟨by rw [sp64_snoc]; exact hown, h.bel.grown hgrow h.bel.size (fun k hk => (h.a.lt k hk).1)⟩

/-- An append of one span, at a step of a plain region. -/
theorem list_span {w W : World} {v : Value} {n : Nat} {L : List (Int × Int)} {ops : Array Oper} {rest : List Oper} {o : Oper} {a : Act} {Q : Exit → Act → World → Prop}
    (hgd : o.guard = none) (s x : Operand) (ho : o.op = .call { callee := .builtin .append, args := #[s, x], argTypes := #[30, 30] })
    (hs : a.eval s = v) (hen : Es w W v n L) (b : Nat) (p q : Int) (hx : a.eval x = .slice (some ⟨b, 0, none⟩) 1 1) (hc : HasC W b 42 #[.int .i64 p, .int .i64 q]) (h3 : n ≤ 8796093022001)
    (h : ∀ g cap w', Es w w' (.slice (some ⟨g, 0, none⟩) (n + 1) cap) (n + 1) (L ++ [(p, q)]) → W.heap.size ≤ w'.heap.size → wpList Try.prog ops Q rest (a.put o.dst (.slice (some ⟨g, 0, none⟩) (n + 1) cap)) w') :
    wpList Try.prog ops Q (o :: rest) a W := by
  obtain ⟨i0, hi0, hz0, hz1, hz2⟩ := info_parts info26
  have hl : L.length = n := by
    have := hen.a.1
    rw [sp64_len] at this
    omega
  refine wpList_append_lies W hgd s x 30 ho w.heap.size 42 i0 _ 2 16 Try.underlying30 hi0 hz0 hz1 hz2 rfl (by omega) v n (sp64 L) hs hen.a ⟨b, 0, none⟩ 1 1 [.int .i64 p, .int .i64 q] hx rfl (news_two hc) (by simp [Value.oneCell']) (by omega) (by unfold maxLen; omega) (by omega) hen.bel.size W.heap.size rfl ?_
  intro g cap w' hown hgrow hat hlt
  exact h g cap w' (hen.grow hl hown hgrow) hgrow.size

/-- .. at a step of a region that draws. -/
theorem step_span {w W : World} {v : Value} {n : Nat} {L : List (Int × Int)} {ops : Array Oper} {o : Oper} {a : Act} {K : Act → World → Prop} {Q : Exit → Act → World → Prop} {E : Prop}
    (hgd : o.guard = none) (s x : Operand) (ho : o.op = .call { callee := .builtin .append, args := #[s, x], argTypes := #[30, 30] })
    (hs : a.eval s = v) (hen : Es w W v n L) (b : Nat) (p q : Int) (hx : a.eval x = .slice (some ⟨b, 0, none⟩) 1 1) (hc : HasC W b 42 #[.int .i64 p, .int .i64 q]) (h3 : n ≤ 8796093022001)
    (h : ∀ g cap w', Es w w' (.slice (some ⟨g, 0, none⟩) (n + 1) cap) (n + 1) (L ++ [(p, q)]) → W.grownBy w' v.ownBlock → (v.ownBlock = some g ∨ g = W.heap.size) → K (a.put o.dst (.slice (some ⟨g, 0, none⟩) (n + 1) cap)) w') :
    if Region.wanted o (yielded ops a.tmps) = true then Oper.wp Try.prog o a W K Q else E := by
  obtain ⟨i0, hi0, hz0, hz1, hz2⟩ := info_parts info26
  have hl : L.length = n := by
    have := hen.a.1
    rw [sp64_len] at this
    omega
  refine step_append_lies W hgd s x 30 ho w.heap.size 42 i0 _ 2 16 Try.underlying30 hi0 hz0 hz1 hz2 rfl (by omega) v n (sp64 L) hs hen.a ⟨b, 0, none⟩ 1 1 [.int .i64 p, .int .i64 q] hx rfl (news_two hc) (by simp [Value.oneCell']) (by omega) (by unfold maxLen; omega) (by omega) hen.bel.size W.heap.size rfl ?_
  intro g cap w' hown hgrow hat hlt
  exact h g cap w' (hen.grow hl hown hgrow) hgrow hat

/-- An append of one number, at a step of a plain region. -/
theorem list_int {w W : World} {v1 v2 : Value} {n1 n2 : Nat} {xs ys : List Int} {ops : Array Oper} {rest : List Oper} {o : Oper} {a : Act} {Q : Exit → Act → World → Prop}
    (hgd : o.guard = none) (s x : Operand) (ho : o.op = .call { callee := .builtin .append, args := #[s, x], argTypes := #[27, 27] })
    (hs : a.eval s = v1) (hen : En w W v1 v2 n1 n2 xs ys) (b : Nat) (z : Int) (hx : a.eval x = .slice (some ⟨b, 0, none⟩) 1 1) (hc : HasC W b 3 #[.int .i64 z]) (h3 : n1 ≤ 140737488355327 / 8)
    (h : ∀ g cap w', En w w' (.slice (some ⟨g, 0, none⟩) (n1 + 1) cap) v2 (n1 + 1) n2 (xs ++ [z]) ys → W.grownBy w' v1.ownBlock → (v1.ownBlock = some g ∨ g = W.heap.size) → wpList Try.prog ops Q rest (a.put o.dst (.slice (some ⟨g, 0, none⟩) (n1 + 1) cap)) w') :
    wpList Try.prog ops Q (o :: rest) a W := by
  obtain ⟨i0, hi0, hz0, hz1, hz2⟩ := info_parts info3
  refine wpList_append_lies W hgd s x 27 ho w.heap.size 3 i0 _ 1 8 Try.underlying27 hi0 hz0 hz1 hz2 rfl (by omega) v1 n1 (i64s xs) hs hen.a ⟨b, 0, none⟩ 1 1 [.int .i64 z] hx rfl ?_ (by simp [Value.oneCell']) (by omega) (by unfold maxLen; omega) (by omega) hen.bel.size W.heap.size rfl ?_
  · intro j u hu
    rw [Addr.add_lit]
    match j, hu with
    | 0, hu => simp at hu; subst hu; exact hc.cell 0 rfl
    | _ + 1, hu => simp at hu
  · intro g cap w' hown hgrow hat hlt
    have hown' : w'.ownsRow w.heap.size 3 1 (.slice (some ⟨g, 0, none⟩) (n1 + 1) cap) (n1 + 1) (i64s (xs ++ [z])) := by simpa [i64s] using hown
    exact h g cap w' (hen.grow hown' hgrow hat) hgrow hat

end Go.Proofs.Ytlhbgkaknfhlnaa.Spn

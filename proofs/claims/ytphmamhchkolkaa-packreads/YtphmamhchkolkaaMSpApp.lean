/-
  Laws on memory: an append to a list that the call owns; a list of numbers in memory of its own.
-/
import Derived.Test.YtphmamhchkolkaaMSpVal
import Derived.ArgAppend
import Derived.Laws.AppendOwnNone
import Derived.Lib.SliceRun
namespace Go.Proofs.Ytphmamhchkolkaa.Spn
open Go.RowKit
set_option linter.unusedVariables false

theorem info3 : (Try.prog.info? 3).map (fun i => (i.zero, i.size, i.bytes)) = some (some (.int .i64 0), 1, 8) := by kernel_rfl

abbrev i64s (xs : List Int) : List Value := xs.map (Value.int .i64)

theorem info_parts {P : Program} {e : TypeId} {z : Value} {s b : Nat} (h : (P.info? e).map (fun i => (i.zero, i.size, i.bytes)) = some (some z, s, b)) :
    ∃ i, P.info? e = some i ∧ i.zero = some z ∧ i.size = s ∧ i.bytes = b := by
  cases hi : P.info? e with
  | none => rw [hi] at h; cases h
  | some i => rw [hi] at h; simp at h; exact ⟨i, rfl, h.1, h.2.1, h.2.2⟩

theorem wpList_append_kept {P : Program} (w : World) {ops : Array Oper} {rest : List Oper} {o : Oper} {a : Act} {Q : Exit → Act → World → Prop}
    (hg : o.guard = none) (s x : Operand) (t : TypeId) (hop : o.op = Op.call { callee := Callee.builtin Builtin.append, args := #[s, x], argTypes := #[t, t] })
    (base : Nat) (e : TypeId) (i : TypeInfo) (z : Value) (bytes : Nat) (h1 : P.underlying t = some (.slice e)) (h2 : P.info? e = some i) (h3 : i.zero = some z) (h4 : i.size = 1) (h5 : i.bytes = bytes) (h6 : z.cells.size = 1)
    (v : Value) (n : Nat) (xs : List Value) (hs : a.eval s = v) (hown : w.ownsRow base e 1 v n xs) (ao : Option Addr) (m c : Nat) (news : List Value) (hx : a.eval x = .slice ao m c) (hn : news.length = m * 1)
    (hnone : ao = none → m = 0 ∧ c = 0) (hc : ∀ ad, ao = some ad → ∀ j u, news[j]? = some u → w.cell? (ad.add j) = some u) (h1c : ∀ u ∈ news, u.oneCell' = true)
    (b1 : n + m ≤ maxLen) (b2 : (n + m) * bytes ≤ 140737488355328) (hbase : base ≤ w.heap.size)
    (hK : ∀ v' w', w'.ownsRow base e 1 v' (n + m) (xs ++ news) → ((∃ g cap, v = .slice (some ⟨g, 0, none⟩) n cap ∧ v' = .slice (some ⟨g, 0, none⟩) (n + m) cap ∧ w.grownBy w' (some g)) ∨ (w.grownBy w' none ∧ ∀ g, v'.ownBlock = some g → w.heap.size ≤ g)) → wpList P ops Q rest (a.put o.dst v') w') :
    wpList P ops Q (o :: rest) a w := by
  have hlen : xs.length = n := by simpa using hown.1
  cases ao with
  | none =>
    obtain ⟨rfl, rfl⟩ := hnone rfl
    have hnews : news = [] := List.eq_nil_of_length_eq_zero (by simpa using hn)
    subst hnews
    refine wpList_append_own_none hg s x t hop base e i 1 h1 h2 v n xs hs hown hx (hK v w (by simpa using hown) ?_)
    rcases hown.2 with ⟨rfl, _⟩ | ⟨g, cap, cur, rfl, _⟩
    · exact .inr ⟨World.grownBy.refl _ _, fun g hg => by simp [Value.ownBlock] at hg⟩
    · exact .inl ⟨g, cap, rfl, by simp, World.grownBy.refl _ _⟩
  | some ad =>
    have hcs := fun g hg => hown.cells (g := g) hg
    rcases hown.2 with ⟨rfl, rfl⟩ | ⟨g, cap, cur, rfl, hb, hh, hnc, hcm, hsz, htk⟩
    · have hxs : xs = [] := List.eq_nil_of_length_eq_zero hlen
      subst hxs
      by_cases hm : m = 0
      · subst hm
        have hnews : news = [] := List.eq_nil_of_length_eq_zero (by simpa using hn)
        subst hnews
        refine wpList_append_own _ hg s x t hop base e i z 1 bytes h1 h2 h3 h4 h5 h6 (by decide) _ 0 [] hs hown ad 0 c [] hx rfl (hc ad rfl) h1c b1 b2 hbase ?_
        intro v' w' ho hgr hiff
        have hv : v' = .slice none 0 0 := hiff.2 ⟨rfl, rfl⟩
        subst hv
        exact hK _ _ ho (.inr ⟨hgr, fun g hg => by simp [Value.ownBlock] at hg⟩)
      · refine wpList_append_grows w hg s x t hop e i z 1 bytes h1 h2 h3 h4 h5 h6 (by decide) none 0 0 [] hs (fun _ => ⟨rfl, rfl⟩) rfl (fun b hb => by cases hb) ad m c news hx hn (hc ad rfl) h1c (by omega) b1 b2 ?_
        intro v' w' ho hgr
        refine hK v' w' ⟨ho.1, ?_⟩ (.inr ⟨hgr, fun g hg => (ho.lt g hg).1⟩)
        rcases ho.2 with h | ⟨g, cap, cur, hv, hb, r⟩
        · exact .inl h
        · exact .inr ⟨g, cap, cur, hv, by omega, r⟩
    · by_cases hroom : n + m ≤ cap
      · refine wpList_append_fits w hg s x t hop base e i 1 h1 h2 h4 g n cap xs hs hown ad m c news hx hn (hc ad rfl) h1c hroom ?_
        intro w' ho hgr
        exact hK _ w' ho (.inl ⟨g, cap, rfl, rfl, hgr⟩)
      · refine wpList_append_grows w hg s x t hop e i z 1 bytes h1 h2 h3 h4 h5 h6 (by decide) (some ⟨g, 0, none⟩) n cap xs hs (fun h => by cases h) hown.1 (fun b hb => by cases hb; exact hcs g rfl) ad m c news hx hn (hc ad rfl) h1c (by omega) b1 b2 ?_
        intro v' w' ho hgr
        refine hK v' w' ⟨ho.1, ?_⟩ (.inr ⟨hgr, fun g hg => (ho.lt g hg).1⟩)
        rcases ho.2 with h | ⟨g, cap, cur, hv, hb, r⟩
        · exact .inl h
        · exact .inr ⟨g, cap, cur, hv, by omega, r⟩

theorem Ints.of_owns {w : World} {base : Nat} {v : Value} {n : Nat} {xs : List Int} (h : w.ownsRow base 3 1 v n (i64s xs)) :
    ∃ a cap, v = .slice a n cap ∧ Ints w a n cap xs ∧ (∀ x, a = some x → base ≤ x.block ∧ x.block < w.heap.size) := by
  have hl : xs.length = n := by simpa using h.1
  have hlt := h.lt
  have hcs := fun g hg => h.cells (g := g) hg
  rcases h.2 with ⟨rfl, rfl⟩ | ⟨g, cap, cur, rfl, hb, hg, hnc, hcm, hsz, htake⟩
  · exact ⟨none, 0, rfl, ⟨hl, Nat.le_refl _, Nat.zero_le _, fun _ => rfl, .inl rfl⟩, fun x hx => by cases hx⟩
  · refine ⟨some ⟨g, 0, none⟩, cap, rfl, ⟨hl, hnc, hcm, (fun h => by cases h), .inr ⟨g, 0, rfl, fun i hi => ?_⟩⟩, fun x hx => by cases hx; exact hlt g rfl⟩
    have := hcs g rfl i (.int .i64 (xs.getD i 0)) (by simp [List.getD, hl, hi])
    rw [Addr.add_lit] at this
    exact this

theorem Ints.news {w : World} {a : Option Addr} {n cap : Nat} {xs : List Int} (h : Ints w a n cap xs) : ∀ ad, a = some ad → ∀ j u, (i64s xs)[j]? = some u → w.cell? (ad.add j) = some u := by
  intro ad ha j u hu
  have hj : j < n := by
    have := (List.getElem?_eq_some_iff.1 hu).1
    simpa [h.len] using this
  obtain ⟨b, off, ha', _, hc⟩ := h.at (by omega)
  rw [ha] at ha'
  cases ha'
  rw [Addr.add_lit, hc j hj]
  have hl := h.len
  simp only [i64s, List.getElem?_map] at hu
  rw [List.getElem?_eq_getElem (by omega)] at hu
  simp only [Option.map_some, Option.some.injEq] at hu
  rw [← hu]
  simp [List.getD, hl, hj]

theorem Ints.none {w : World} {n c : Nat} {xs : List Int} (h : Ints w none n c xs) : n = 0 ∧ c = 0 ∧ xs = [] := by
  have h1 := h.nil rfl
  have h2 := h.le
  have h3 := h.len
  exact ⟨by omega, h1, List.eq_nil_of_length_eq_zero (by omega)⟩

end Go.Proofs.Ytphmamhchkolkaa.Spn

/-
  Trees in memory: nodes, binds, names; awake.
-/
import Derived.Test.YtodgjjkpbcadoaaGreatDoorRparse
namespace Go.Proofs.YtodgjjkpbcadoaaGreatDoor
open Go.RowKit Go.IntWalk Lx Pz
set_option linter.unusedVariables false

def n0 : Nd := ⟨0, 0, 0, 0, 0, 0, 0, 0, 0⟩
theorem nd64_get : ∀ (L : List Nd) (i : Nat), i < L.length → ∀ j v, (nd9 (L.getD i n0))[j]? = some v → (nd64 L)[i * 9 + j]? = some v
  | [], i, h => by simp at h
  | p :: L, 0, h => fun j v hv => by
    have hj : j < 9 := by
      rcases Nat.lt_or_ge j 9 with h | h
      · exact h
      · rw [List.getElem?_eq_none (by simpa [nd9] using h)] at hv; cases hv
    simp only [nd64, List.flatMap_cons, Nat.zero_mul, Nat.zero_add]
    rw [List.getElem?_append_left (by simpa [nd9] using hj)]
    simpa using hv
  | p :: L, i + 1, h => fun j v hv => by
    have := nd64_get L i (by simpa using h) j v (by simpa using hv)
    simp only [nd64, List.flatMap_cons] at this ⊢
    rw [List.getElem?_append_right (by simp [nd9]; omega)]
    rw [show (i + 1) * 9 + j - (nd9 p).length = i * 9 + j by simp [nd9]; omega]
    exact this

/-- The slice reads as these nodes. -/
structure Nz (W : World) (a : Option Addr) (n cap : Nat) (L : List Nd) : Prop where
  len : L.length = n
  le : n ≤ cap
  max : cap ≤ maxLen
  cell : n = 0 ∨ ∃ b off, a = some ⟨b, off, none⟩ ∧ b < W.heap.size ∧ ∀ i, i < n → ∀ j v, (nd9 (L.getD i n0))[j]? = some v → W.cell? ⟨b, off + i * 9 + j, none⟩ = some v
/-- The slice reads as these numbers. -/
structure Iz (W : World) (a : Option Addr) (n cap : Nat) (L : List Int) : Prop where
  len : L.length = n
  le : n ≤ cap
  max : cap ≤ maxLen
  cell : n = 0 ∨ ∃ b off, a = some ⟨b, off, none⟩ ∧ b < W.heap.size ∧ ∀ i, i < n → W.cell? ⟨b, off + i, none⟩ = some (.int .i64 (L.getD i 0))
theorem Nz.of_owns {W : World} {base : Nat} {v : Value} {n : Nat} {L : List Nd} (h : W.ownsRow base 39 9 v n (nd64 L)) : ∃ a cap, v = .slice a n cap ∧ Nz W a n cap L := by
  have hl : L.length = n := by have := h.1; rw [nd64_len] at this; omega
  have hcs := fun g hg => h.cells (g := g) hg
  have hlt := h.lt
  rcases h.2 with ⟨rfl, rfl⟩ | ⟨g, cap, cur, rfl, hb, hg, hnc, hcm, hsz, htake⟩
  · exact ⟨none, 0, rfl, ⟨hl, Nat.le_refl _, Nat.zero_le _, .inl rfl⟩⟩
  · refine ⟨some ⟨g, 0, none⟩, cap, rfl, ⟨hl, hnc, hcm, .inr ⟨g, 0, rfl, (hlt g rfl).2, fun i hi j u hu => ?_⟩⟩⟩
    have := hcs g rfl _ _ (nd64_get L i (by omega) j u hu)
    rw [Addr.add_lit] at this
    rw [Nat.add_assoc]
    exact this
theorem Iz.of_owns {W : World} {base : Nat} {v : Value} {n : Nat} {L : List Int} (h : W.ownsRow base 3 1 v n (in64 L)) : ∃ a cap, v = .slice a n cap ∧ Iz W a n cap L := by
  have hl : L.length = n := by have := h.1; simpa using this
  have hcs := fun g hg => h.cells (g := g) hg
  have hlt := h.lt
  rcases h.2 with ⟨rfl, rfl⟩ | ⟨g, cap, cur, rfl, hb, hg, hnc, hcm, hsz, htake⟩
  · exact ⟨none, 0, rfl, ⟨hl, Nat.le_refl _, Nat.zero_le _, .inl rfl⟩⟩
  · refine ⟨some ⟨g, 0, none⟩, cap, rfl, ⟨hl, hnc, hcm, .inr ⟨g, 0, rfl, (hlt g rfl).2, fun i hi => ?_⟩⟩⟩
    have := hcs g rfl i (.int .i64 (L.getD i 0)) (by rw [List.getElem?_map, List.getD_eq_getElem?_getD, List.getElem?_eq_getElem (by omega)]; rfl)
    rwa [Addr.add_lit] at this
theorem Nz.later {W W' : World} {a : Option Addr} {n cap : Nat} {L : List Nd} (h : Nz W a n cap L) (hb : Below W.heap.size W W') : Nz W' a n cap L := by
  refine ⟨h.len, h.le, h.max, ?_⟩
  rcases h.cell with h0 | ⟨b, off, ha, hlt, hc⟩
  · exact .inl h0
  · exact .inr ⟨b, off, ha, Nat.lt_of_lt_of_le hlt hb.size, fun i hi j v hv => (hb.cell (p := ⟨b, off + i * 9 + j, none⟩) hlt).trans (hc i hi j v hv)⟩
theorem Iz.later {W W' : World} {a : Option Addr} {n cap : Nat} {L : List Int} (h : Iz W a n cap L) (hb : Below W.heap.size W W') : Iz W' a n cap L := by
  refine ⟨h.len, h.le, h.max, ?_⟩
  rcases h.cell with h0 | ⟨b, off, ha, hlt, hc⟩
  · exact .inl h0
  · exact .inr ⟨b, off, ha, Nat.lt_of_lt_of_le hlt hb.size, fun i hi => (hb.cell (p := ⟨b, off + i, none⟩) hlt).trans (hc i hi)⟩
theorem Tx.later {W W' : World} {a : Option Addr} {n cap : Nat} {L : List Txt} (h : Tx W a n cap L) (hb : Below W.heap.size W W') : Tx W' a n cap L := by
  refine ⟨h.len, h.le, h.max, ?_⟩
  rcases h.cell with h0 | ⟨b, off, ha, hc⟩
  · exact .inl h0
  · by_cases hn : n = 0
    · exact .inl hn
    · have hlt := World.block_lt_of_cell? W _ (hc 0 (by omega))
      exact .inr ⟨b, off, ha, fun i hi => (hb.cell (p := ⟨b, off + i, none⟩) hlt).trans (hc i hi)⟩

/-- What Parse answers, read. -/
def ParR (w : World) (l : List UInt8) (e : Ending) (W' : World) : Prop :=
  (e = .returned (.tuple #[.agg nil4, .int .i64 10]) ∧ Below w.heap.size w W' ∧ (tks l = none ∨ ∃ T, tks l = some T ∧ Ans (T.map ab) none)) ∨
  (∃ T NM es ex na nc ba bc da dc, tks l = some T ∧ Ans (T.map ab) (some (NM, es, ex)) ∧ NM.length = es.length ∧ szL es + ex.size ≤ T.length ∧
    e = .returned (.tuple #[.agg (tr4 (.slice na es.length nc) (.slice ba es.length bc) (.slice da (szL es + ex.size) dc) (.int .i64 (((szL es + ex.size : Nat) : Int) - 1))), .int .i64 0]) ∧ Tx W' na es.length nc NM ∧ Iz W' ba es.length bc (bdL es 0) ∧
    Nz W' da (szL es + ex.size) dc (flL es 0 ++ ex.flat (szL es)) ∧ Below w.heap.size w W')
theorem parse_read (s : ByteArray) (w : World) : Calls Tryz.prog 16 #[.string s] w fun e W' => ParR w (bs s) e W' := by
  refine (parse_any s w).mono ?_
  rintro e W' (h | ⟨T, NM, es, ex, nv, bv, dv, h1, h2, h3, h4, h5, h6, h7, h8, h9⟩)
  · exact .inl h
  · obtain ⟨na, nc, rfl, hx⟩ := Tx.of_owns h6
    obtain ⟨ba, bc, rfl, hi⟩ := Iz.of_owns h7
    obtain ⟨da, dc, rfl, hn⟩ := Nz.of_owns h8
    rw [h3] at hx h5
    exact .inr ⟨T, NM, es, ex, na, nc, ba, bc, da, dc, h1, h2, h3, h4, h5, hx, hi, hn, h9⟩

/- awake -/
theorem sc1 {c : UInt8} {r : List UInt8} {p : Nat} {T : List Tok} {k : Int} (h1 : bl c = false) (h2 : c ≠ 35) (h : gd (c :: r) = true) (hz : sz (c :: r) = 1) (hk : kd (c :: r) = k) (hr : sc r (p + 1) = some T) : sc (c :: r) p = some (⟨k, [c], p⟩ :: T) := by
  rw [sc_tok h1 h2 h, hz, hk]
  simp only [List.drop_succ_cons, List.drop_zero, List.take_succ_cons, List.take_zero, hr, Option.map_some]
theorem G.ups {nm : List Txt} {l : List Tk} {e : E} {c : Nat} (h : G nm c l e) : ∀ {c' : Nat}, c' ≤ c → c ≤ 8 → G nm c' l e := by
  induction c with
  | zero => intro c' h1 h2; obtain rfl : c' = 0 := by omega
            exact h
  | succ c ih =>
    intro c' h1 h2
    by_cases e : c' = c + 1
    · subst e; exact h
    · exact ih (G.up (by omega) h) (by omega) (by omega)

end Go.Proofs.YtodgjjkpbcadoaaGreatDoor

/-
  The walk of LexGlue.
-/
import Derived.Test.YtamekjocchekoaaSame
import Derived.Test.YtamekjocchekoaaPure3
namespace Go.Proofs.Ytamekjocchekoaa
open Go.RowKit Go.IntWalk Lx
set_option linter.unusedVariables false

/-- The slice (a, n, cap) reads as the bytes zs. -/
structure Bytes (w : World) (a : Option Addr) (n cap : Nat) (zs : List Int) : Prop where
  len : zs.length = n
  le : n ≤ cap
  max : cap ≤ maxLen
  nil : a = none → cap = 0
  byte : ∀ z ∈ zs, 0 ≤ z ∧ z ≤ 255
  cell : n = 0 ∨ ∃ b off, a = some ⟨b, off, none⟩ ∧ ∀ i, i < n → w.cell? ⟨b, off + i, none⟩ = some (.int .u8 (zs.getD i 0))
theorem Bytes.at {w : World} {a : Option Addr} {n cap : Nat} {zs : List Int} (h : Bytes w a n cap zs) (hn : n ≠ 0) :
    ∃ b off, a = some ⟨b, off, none⟩ ∧ b < w.heap.size ∧ ∀ i, i < n → w.cell? ⟨b, off + i, none⟩ = some (.int .u8 (zs.getD i 0)) := by
  rcases h.cell with h0 | ⟨b, off, ha, hc⟩
  · exact absurd h0 hn
  · exact ⟨b, off, ha, World.block_lt_of_cell? w _ (hc 0 (by omega)), hc⟩
theorem Bytes.later {w w' : World} {a : Option Addr} {n cap : Nat} {zs : List Int} (h : Bytes w a n cap zs) (hb : Below w.heap.size w w') : Bytes w' a n cap zs := by
  refine ⟨h.len, h.le, h.max, h.nil, h.byte, ?_⟩
  by_cases hn : n = 0
  · exact .inl hn
  · obtain ⟨b, off, ha, hlt, hcell⟩ := h.at hn
    exact .inr ⟨b, off, ha, fun i hi => (hb.cell (p := ⟨b, off + i, none⟩) hlt).trans (hcell i hi)⟩
theorem getD_byte {zs : List Int} (h : ∀ z ∈ zs, 0 ≤ z ∧ z ≤ 255) (i : Nat) : 0 ≤ zs.getD i 0 ∧ zs.getD i 0 ≤ 255 := by
  by_cases hi : i < zs.length
  · have e : zs.getD i 0 = zs[i] := by simp [List.getD, hi]
    rw [e]; exact h _ (List.getElem_mem hi)
  · simp [List.getD, hi]

/-- What is written ahead of token j. -/
def bw (zs : List Int) (j : Nat) : List UInt8 :=
  if j < zs.length ∧ zs.getD j 0 % 3 = 2 then [32, 35, 32, 255, 32, 97, 32, 60, 32, 98, 10] else if j < zs.length ∧ zs.getD j 0 % 3 = 1 then [9, 10, 32] else [32]
theorem bw_btw (zs : List Int) (j : Nat) : btw (bw zs j) := by
  unfold bw
  split
  · exact .inr (.inr rfl)
  · split
    · exact .inr (.inl rfl)
    · exact .inl rfl
theorem bw_len (zs : List Int) (j : Nat) : (bw zs j).length ≤ 11 := by
  rcases bw_btw zs j with h | h | h <;> rw [h] <;> decide

/-- The tokens with what is written ahead of each. -/
def gl (zs : List Int) (T : List Tok) (k : Nat) : List (List UInt8 × Tok) := (List.range k).map fun j => (bw zs j, T.getD j t0)
theorem gl_succ (zs : List Int) (T : List Tok) (k : Nat) : gl zs T (k + 1) = gl zs T k ++ [(bw zs k, T.getD k t0)] := by
  simp [gl, List.range_succ]
theorem glue_snoc : ∀ (L : List (List UInt8 × Tok)) (b : List UInt8) (t : Tok), glue (L ++ [(b, t)]) = glue L ++ b ++ t.text
  | [], b, t => by simp [glue]
  | (b', t') :: L, b, t => by
    rw [List.cons_append, glue, glue_snoc L b t, glue]
    simp
theorem glue_succ (zs : List Int) (T : List Tok) (k : Nat) : glue (gl zs T (k + 1)) = glue (gl zs T k) ++ bw zs k ++ (T.getD k t0).text := by
  rw [gl_succ, glue_snoc]
theorem gl_getD {zs : List Int} {T : List Tok} {n i : Nat} (h : i < n) : (gl zs T n).getD i ([], ⟨0, [], 0⟩) = (bw zs i, T.getD i t0) := by
  simp [gl, List.getD, h]
theorem cov_text : ∀ (T : List Tok) (l : List UInt8) (p : Nat), Cov l p T → ∀ t ∈ T, t.text.length ≤ l.length
  | [], _, _, _ => by simp
  | t :: T, l, p, ⟨g, rest, e, hp, hg, hf, hm, hc⟩ => by
    intro q hq
    subst e
    rcases List.mem_cons.1 hq with rfl | hq
    · simp; omega
    · have := cov_text T rest _ hc q hq
      simp; omega
theorem getD_mem {T : List Tok} {i : Nat} (h : i < T.length) : T.getD i t0 ∈ T := by
  have e : T.getD i t0 = T[i] := by simp [List.getD, h]
  rw [e]; exact List.getElem_mem h

/-- The tokens told again. -/
theorem tks_glue {l : List UInt8} {T : List Tok} (zs : List Int) (h : tks l = some T) (hl : (glue (gl zs T T.length)).length ≤ 1024) :
    ∃ T', tks (glue (gl zs T T.length)) = some T' ∧ T'.length = T.length ∧ ∀ i, i < T.length → (T'.getD i t0).kind = (T.getD i t0).kind ∧ (T'.getD i t0).text = (T.getD i t0).text := by
  obtain ⟨hc, -⟩ := tks_cov h
  have hg := cov_good T l 0 hc
  obtain ⟨T', h1, h2, h3⟩ := sc_glue (gl zs T T.length) 0 (by
    intro q hq
    simp only [gl, List.mem_map, List.mem_range] at hq
    obtain ⟨j, hj, rfl⟩ := hq
    exact ⟨bw_btw zs j, hg _ (getD_mem hj)⟩)
  have hlen : (gl zs T T.length).length = T.length := by simp [gl]
  rw [hlen] at h2 h3
  refine ⟨T', by unfold tks; rw [if_neg (by omega), h1], h2, fun i hi => ?_⟩
  have := h3 i hi
  rw [gl_getD hi] at this
  exact this

theorem add_sB (G b : List UInt8) (W : World) (h : G.length + b.length ≤ 9223372036854775807) : (Op.stringOp .add (sB G) (sB b)).run Try.prog W = .ok (.string (sB (G ++ b))) W := by
  rw [run_string_add_sum W _ _ (by rw [← bs_len, ← bs_len]; exact h), ByteArray.mk_append_mk]

end Go.Proofs.Ytamekjocchekoaa

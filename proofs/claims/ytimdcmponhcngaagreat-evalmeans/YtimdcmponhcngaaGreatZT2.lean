/-
  Texts: what Parse answers, with what is counted; texts joined; a tree by the grammar.
-/
import Derived.Test.YtimdcmponhcngaaGreatZTaA
import Derived.Test.YtimdcmponhcngaaGreatZCb
namespace Go.Proofs.YtimdcmponhcngaaGreat
open Go.RowKit Go.IntWalk Lx Pz
set_option linter.unusedVariables false

theorem szL_le : ∀ es : List E, es.length ≤ szL es
  | [] => Nat.le_refl _
  | a :: es => by
    have := szL_le es
    have := a.size_pos
    simp only [List.length_cons, szL]
    omega
theorem add_sB (G b : List UInt8) (W : World) (h : G.length + b.length ≤ 9223372036854775807) : (Op.stringOp .add (sB G) (sB b)).run Tryz.prog W = .ok (.string (sB (G ++ b))) W := by
  rw [run_string_add_sum W _ _ (by rw [← bs_len, ← bs_len]; exact h), ByteArray.mk_append_mk]
theorem cat {A B : ByteArray} {a b : Txt} (hA : A = sB a) (hB : B = sB b) (h : a.length + b.length ≤ 9223372036854775807) : ∃ C, C = sB (a ++ b) ∧ ∀ W, (Op.stringOp .add A B).run Tryz.prog W = .ok (.string C) W :=
  ⟨_, rfl, fun W => by subst hA hB; exact add_sB a b W h⟩

theorem dec_gp {A : List Tk} {NM : List Txt} {es : List E} {ex : E} (hok : A.all okT = true) (hg : GP [] [] A (NM, es, ex)) (hl : NM.length = es.length) (hz : szL es + ex.size ≤ 1024) :
    chkP NM (bdL es 0) (nodesOf es ex) (rootOf es ex) = true := by
  obtain ⟨h1, h2, h3⟩ := gp_gd hg hok rfl (by intro j e h; simp at h) rfl
  exact chk_dec.2 ⟨es, ex, rfl, rfl, hl, h1, h2, h3, by rw [List.length_append, flL_len, E.flat_len], by rw [List.length_append, flL_len, E.flat_len]; exact hz⟩

/-- What Parse answers, of every text. -/
theorem parse_full2 (s : ByteArray) (w : World) : Calls Tryz.prog 19 #[.string s] w fun e W' =>
    (e = .returned (.tuple #[.agg nil4, .int .i64 10]) ∧ Below w.heap.size w W') ∨
    (∃ A NM es ex na nc ba bc da dc, ak (bs s) = some A ∧ GP [] [] A (NM, es, ex) ∧ A.all okT = true ∧ NM.length = es.length ∧ nmB NM = true ∧ szL es + ex.size ≤ s.size ∧ s.size ≤ 1024 ∧
      e = .returned (.tuple #[.agg (tr4 (.slice na es.length nc) (.slice ba es.length bc) (.slice da (szL es + ex.size) dc) (.int .i64 (rootOf es ex))), .int .i64 0]) ∧ Tx W' na es.length nc NM ∧ Iz W' ba es.length bc (bdL es 0) ∧
      Nz W' da (szL es + ex.size) dc (nodesOf es ex) ∧ Below w.heap.size w W') := by
  refine (parse_read s w).mono ?_
  rintro e W1 (⟨h1, h2, -⟩ | ⟨T, NM, es, ex, na, nc, ba, bc, da, dc, hT, hA, h3, h4, rfl, h6, h7, h8, h9⟩)
  · exact .inl ⟨h1, h2⟩
  · have hg := (hA (NM, es, ex)).1 rfl
    have hok : (T.map ab).all okT = true := by
      rw [List.all_map, List.all_eq_true]
      intro t ht
      exact okT_ab (tks_wf hT t ht)
    obtain ⟨c1, c2⟩ := tks_cov hT
    have c3 := cov_len T _ 0 c1
    rw [bs_len] at c2 c3
    exact .inr ⟨T.map ab, NM, es, ex, na, nc, ba, bc, da, dc, (ak_of hT).1, hg, hok, h3, (dec_parse hT hg h3 h4).ok, by omega, c2, rfl, h6, h7, h8, h9⟩

end Go.Proofs.YtimdcmponhcngaaGreat

/-
  Two texts behind one another.
-/
import Derived.Test.YtodgjjkpbcadoaaDoorGr46
import Derived.Deep.CutRange
namespace Go.Proofs.YtodgjjkpbcadoaaDoor
open Go.RowKit Go.IntWalk Lx Pz
set_option linter.unusedVariables false

theorem bs_add (a b : ByteArray) : bs (a ++ b) = bs a ++ bs b := by simp [bs]

end Go.Proofs.YtodgjjkpbcadoaaDoor

/-
  Parse, where the program is known; parts of a tree.
-/
namespace Go.Proofs.YtodgjjkpbcadoaaDoor
open Go.RowKit Go.IntWalk Lx Pz
set_option linter.unusedVariables false

/-- Parse, where the program is known. -/
theorem parse_of {s : ByteArray} {A : List Tk} {NM : List Txt} {es : List E} {ex : E} (ha : ak (bs s) = some A) (hl : s.size ≤ 1024) (hg : GP [] [] A (NM, es, ex)) (w : World) :
    Calls Tryd.prog 9 #[.string s] w fun e W' => ∃ na nc ba bc da dc,
      e = .returned (.tuple #[.agg (tr4 (.slice na es.length nc) (.slice ba es.length bc) (.slice da (szL es + ex.size) dc) (.int .i64 (((szL es + ex.size : Nat) : Int) - 1))), .int .i64 0]) ∧ Tx W' na es.length nc NM ∧ Iz W' ba es.length bc (bdL es 0) ∧
      Nz W' da (szL es + ex.size) dc (flL es 0 ++ ex.flat (szL es)) ∧ Below w.heap.size w W' := by
  obtain ⟨T0, hT0, hab⟩ := tks_ak ha (by rw [bs_len]; exact hl)
  refine (parse_read s w).mono ?_
  rintro e W1 (⟨-, -, hbad⟩ | ⟨T, NM', es', ex', na, nc, ba, bc, da, dc, hT, hA, h3, h4, rfl, h6, h7, h8, h9⟩)
  · exfalso
    rw [hT0] at hbad
    rcases hbad with h | ⟨T, h, h2⟩
    · cases h
    · cases h
      rw [hab] at h2
      have := (h2 _).2 hg
      cases this
  · rw [hT0] at hT
    cases hT
    rw [hab] at hA
    have := (hA _).2 hg
    cases this
    exact ⟨na, nc, ba, bc, da, dc, rfl, h6, h7, h8, h9⟩

abbrev mkC : Array Value := #[.string ⟨#[124]⟩, .string ⟨#[94]⟩, .string ⟨#[38]⟩, .string ⟨#[60]⟩, .string ⟨#[60, 61]⟩, .string ⟨#[62]⟩, .string ⟨#[62, 61]⟩, .string ⟨#[61, 61]⟩, .string ⟨#[33, 61]⟩, .string ⟨#[60, 60]⟩, .string ⟨#[62, 62]⟩, .string ⟨#[43]⟩, .string ⟨#[45]⟩, .string ⟨#[42]⟩, .string ⟨#[47]⟩, .string ⟨#[37]⟩]
abbrev opC : Array Value := #[.int .i64 16, .int .i64 17, .int .i64 15, .int .i64 18, .int .i64 19, .int .i64 20, .int .i64 21, .int .i64 22, .int .i64 23, .int .i64 13, .int .i64 14, .int .i64 8, .int .i64 9, .int .i64 10, .int .i64 11, .int .i64 12]
theorem mkC_at {k : Nat} (h : k < 16) : mkC[k]? = some (.string (sB (row k).2.1)) := by
  rcases (show k = 0 ∨ k = 1 ∨ k = 2 ∨ k = 3 ∨ k = 4 ∨ k = 5 ∨ k = 6 ∨ k = 7 ∨ k = 8 ∨ k = 9 ∨ k = 10 ∨ k = 11 ∨ k = 12 ∨ k = 13 ∨ k = 14 ∨ k = 15 by omega) with rfl | rfl | rfl | rfl | rfl | rfl | rfl | rfl | rfl | rfl | rfl | rfl | rfl | rfl | rfl | rfl <;> rfl
theorem opC_at {k : Nat} (h : k < 16) : opC[k]? = some (.int .i64 (row k).2.2) := by
  rcases (show k = 0 ∨ k = 1 ∨ k = 2 ∨ k = 3 ∨ k = 4 ∨ k = 5 ∨ k = 6 ∨ k = 7 ∨ k = 8 ∨ k = 9 ∨ k = 10 ∨ k = 11 ∨ k = 12 ∨ k = 13 ∨ k = 14 ∨ k = 15 by omega) with rfl | rfl | rfl | rfl | rfl | rfl | rfl | rfl | rfl | rfl | rfl | rfl | rfl | rfl | rfl | rfl <;> rfl

/-- A node's cells, in the midst of a row. -/
abbrev at9 (W : World) (g o : Nat) (n : Nd) : Prop := W.cell? ⟨g, o, none⟩ = some (.int .i64 n.op) ∧ W.cell? ⟨g, o + 1, none⟩ = some (.int .i64 n.a) ∧ W.cell? ⟨g, o + 2, none⟩ = some (.int .i64 n.b) ∧ W.cell? ⟨g, o + 3, none⟩ = some (.int .i64 n.c) ∧ W.cell? ⟨g, o + 4, none⟩ = some (.int .i64 n.k) ∧ W.cell? ⟨g, o + 5, none⟩ = some (.int .i64 n.back) ∧ W.cell? ⟨g, o + 6, none⟩ = some (.int .i64 n.co) ∧ W.cell? ⟨g, o + 7, none⟩ = some (.int .i64 n.x) ∧ W.cell? ⟨g, o + 8, none⟩ = some (.int .i64 n.y)
theorem Nz.at {W : World} {a : Option Addr} {n cap : Nat} {L : List Nd} (h : Nz W a n cap L) (h0 : 0 < n) : ∃ g off, a = some ⟨g, off, none⟩ ∧ ∀ i, i < n → at9 W g (off + i * 9) (L.getD i n0) := by
  rcases h.cell with h | ⟨g, off, ha, -, hc⟩
  · omega
  · exact ⟨g, off, ha, fun i hi => ⟨hc i hi 0 _ rfl, hc i hi 1 _ rfl, hc i hi 2 _ rfl, hc i hi 3 _ rfl, hc i hi 4 _ rfl, hc i hi 5 _ rfl, hc i hi 6 _ rfl, hc i hi 7 _ rfl, hc i hi 8 _ rfl⟩⟩
theorem tks_len {l : List UInt8} {T : List Tok} (h : tks l = some T) : T.length ≤ 1024 := by
  obtain ⟨h1, h2⟩ := tks_cov h
  have := cov_len T _ 0 h1
  omega
theorem flat_bin (o : Int) (a b : E) : (∀ i, i < a.size → ((E.bin o a b).flat 0).getD i n0 = (a.flat 0).getD i n0) ∧ ((E.bin o a b).flat 0).getD (a.size + b.size) n0 = ⟨o, (a.size : Int) - 1, (a.size : Int) + (b.size : Int) - 1, 0, 0, 0, 0, 0, 0⟩ := by
  constructor
  · intro i hi
    simp only [E.flat, List.getD_eq_getElem?_getD, List.append_assoc]
    rw [List.getElem?_append_left (by rw [E.flat_len]; exact hi)]
  · simp only [E.flat, List.getD_eq_getElem?_getD]
    rw [List.getElem?_append_right (by simp [E.flat_len])]
    simp [E.flat_len]
theorem flat_un (o : Int) (a : E) : (∀ i, i < a.size → ((E.un o a).flat 0).getD i n0 = (a.flat 0).getD i n0) ∧ ((E.un o a).flat 0).getD a.size n0 = ⟨o, (a.size : Int) - 1, 0, 0, 0, 0, 0, 0, 0⟩ := by
  constructor
  · intro i hi
    simp only [E.flat, List.getD_eq_getElem?_getD]
    rw [List.getElem?_append_left (by rw [E.flat_len]; exact hi)]
  · simp only [E.flat, List.getD_eq_getElem?_getD]
    rw [List.getElem?_append_right (by rw [E.flat_len]; omega)]
    simp [E.flat_len]

end Go.Proofs.YtodgjjkpbcadoaaDoor

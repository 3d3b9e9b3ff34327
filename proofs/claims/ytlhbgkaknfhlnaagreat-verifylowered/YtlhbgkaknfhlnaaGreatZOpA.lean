/-
  operator: the operator that a mark is at a level.
-/
import Derived.Test.YtlhbgkaknfhlnaaGreatZRdA
import Derived.Deep.CutRange
import Derived.Great.Walk
import Derived.Deep.RegionLaw
namespace Go.Proofs.YtlhbgkaknfhlnaaGreat
open Go.RowKit Go.IntWalk Lx Pz
set_option linter.unusedVariables false

def rows : List (Nat × Txt × Int) := [(0, [124], 16), (1, [94], 17), (2, [38], 15), (3, [60], 18), (3, [60, 61], 19), (3, [62], 20), (3, [62, 61], 21), (3, [61, 61], 22), (3, [33, 61], 23), (4, [60, 60], 13), (4, [62, 62], 14), (5, [43], 8), (5, [45], 9), (6, [42], 10), (6, [47], 11), (6, [37], 12)]
def opL (k : Nat) (s : Txt) : Int := ((rows.find? fun r => r.1 == k && r.2.1 == s).map (·.2.2)).getD 0
def row (i : Nat) : Nat × Txt × Int := rows.getD i (0, [], 0)
def tab : Array Value := #[.int .i64 0, .string ⟨#[124]⟩, .int .i64 16, .int .i64 1, .string ⟨#[94]⟩, .int .i64 17, .int .i64 2, .string ⟨#[38]⟩, .int .i64 15, .int .i64 3, .string ⟨#[60]⟩, .int .i64 18, .int .i64 3, .string ⟨#[60, 61]⟩, .int .i64 19, .int .i64 3, .string ⟨#[62]⟩, .int .i64 20, .int .i64 3, .string ⟨#[62, 61]⟩, .int .i64 21, .int .i64 3, .string ⟨#[61, 61]⟩, .int .i64 22, .int .i64 3, .string ⟨#[33, 61]⟩, .int .i64 23, .int .i64 4, .string ⟨#[60, 60]⟩, .int .i64 13, .int .i64 4, .string ⟨#[62, 62]⟩, .int .i64 14, .int .i64 5, .string ⟨#[43]⟩, .int .i64 8, .int .i64 5, .string ⟨#[45]⟩, .int .i64 9, .int .i64 6, .string ⟨#[42]⟩, .int .i64 10, .int .i64 6, .string ⟨#[47]⟩, .int .i64 11, .int .i64 6, .string ⟨#[37]⟩, .int .i64 12]
abbrev zer : Array Value := #[.int .i64 0, .string ⟨#[]⟩, .int .i64 0, .int .i64 0, .string ⟨#[]⟩, .int .i64 0, .int .i64 0, .string ⟨#[]⟩, .int .i64 0, .int .i64 0, .string ⟨#[]⟩, .int .i64 0, .int .i64 0, .string ⟨#[]⟩, .int .i64 0, .int .i64 0, .string ⟨#[]⟩, .int .i64 0, .int .i64 0, .string ⟨#[]⟩, .int .i64 0, .int .i64 0, .string ⟨#[]⟩, .int .i64 0, .int .i64 0, .string ⟨#[]⟩, .int .i64 0, .int .i64 0, .string ⟨#[]⟩, .int .i64 0, .int .i64 0, .string ⟨#[]⟩, .int .i64 0, .int .i64 0, .string ⟨#[]⟩, .int .i64 0, .int .i64 0, .string ⟨#[]⟩, .int .i64 0, .int .i64 0, .string ⟨#[]⟩, .int .i64 0, .int .i64 0, .string ⟨#[]⟩, .int .i64 0, .int .i64 0, .string ⟨#[]⟩, .int .i64 0]
theorem idx_tab (i : Nat) (hi : i < 16) (w : World) : (Instr.index 156 (.agg tab) (.int .i64 i)).run Tryz.prog w = .ok (.agg #[.int .i64 (row i).1, .string (sB (row i).2.1), .int .i64 (row i).2.2]) w := by
  rcases (show i = 0 ∨ i = 1 ∨ i = 2 ∨ i = 3 ∨ i = 4 ∨ i = 5 ∨ i = 6 ∨ i = 7 ∨ i = 8 ∨ i = 9 ∨ i = 10 ∨ i = 11 ∨ i = 12 ∨ i = 13 ∨ i = 14 ∨ i = 15 by omega) with rfl | rfl | rfl | rfl | rfl | rfl | rfl | rfl | rfl | rfl | rfl | rfl | rfl | rfl | rfl | rfl <;> simp [Instr.index, go_sem, row, rows, tab]

theorem opL_yes {k : Nat} {s : Txt} {i : Nat} (h : ∀ j, j < i → ((row j).1 == k && (row j).2.1 == s) = false) (hi : i < 16) (he : ((row i).1 == k && (row i).2.1 == s) = true) : opL k s = (row i).2.2 := by
  have hlen : rows.length = 16 := rfl
  have hr : ∀ j (hj : j < 16), row j = rows[j]'(by rw [hlen]; exact hj) := fun j hj => by unfold row; rw [List.getD_eq_getElem?_getD, List.getElem?_eq_getElem (by rw [hlen]; exact hj)]; rfl
  have : rows.find? (fun r => r.1 == k && r.2.1 == s) = some (row i) := by
    rw [List.find?_eq_some_iff_getElem]
    refine ⟨he, i, by rw [hlen]; exact hi, (hr i hi).symm, fun j hj => ?_⟩
    have := h j hj
    rw [hr j (by omega)] at this
    rw [this]
    rfl
  unfold opL
  rw [this]
  rfl
theorem opL_no {k : Nat} {s : Txt} (h : ∀ j, j < 16 → ((row j).1 == k && (row j).2.1 == s) = false) : opL k s = 0 := by
  have hlen : rows.length = 16 := rfl
  have : rows.find? (fun r => r.1 == k && r.2.1 == s) = none := by
    rw [List.find?_eq_none]
    intro r hr
    obtain ⟨j, hj, rfl⟩ := List.getElem_of_mem hr
    have := h j (by rw [hlen] at hj; exact hj)
    unfold row at this
    rw [List.getD_eq_getElem?_getD, List.getElem?_eq_getElem hj] at this
    simpa using this
  unfold opL
  rw [this]
  rfl
theorem all_no {k : Nat} {s : Txt} {i : Nat} (h : ∀ j, j < i → ((row j).1 == k && (row j).2.1 == s) = false) (he : ((row i).1 == k && (row i).2.1 == s) = false) : ∀ j, j < i + 1 → ((row j).1 == k && (row j).2.1 == s) = false := by
  intro j hj
  rcases Nat.lt_succ_iff_lt_or_eq.1 hj with h1 | rfl
  · exact h j h1
  · exact he

theorem bel_row {B g : Nat} {w0 w : World} (hb : Below B w0 w) (h : B ≤ g) (cs : Array Value) : Below B w0 (w.setRow g cs) :=
  ⟨hb.os, hb.tape, hb.output, by rw [size_setRow]; exact hb.size, fun k hk => (setRow_other w g k cs (by omega)).trans (hb.block k hk)⟩

set_option maxRecDepth 100000 in
set_option maxHeartbeats 4000000 in
theorem operator_any (k : Nat) (s : ByteArray) (W : World) :
    Calls Tryz.prog 119 #[.int .i64 k, .string s] W fun e W' => e = .returned (.int .i64 (opL k (bs s))) ∧ Below W.heap.size W W' := by
  go_enter Tryz.func119, Tryz.ntmps119
  go_upto_region 1 with fail
  go_cut [5] from 8 to 24 (fun p wc => p = .pointer (some ⟨W.heap.size, 0, none⟩) ∧ Hid (HasC wc W.heap.size 156 tab) ∧ Hid (Below W.heap.size W wc))
  case first =>
    refine wp_region_lit ?_
    iterate 16 refine wpList_build (by rfl) 155 _ (by rfl) (by kernel_rfl) ?_
    refine wpList_build (by rfl) 156 _ (by rfl) (by kernel_rfl) ?_
    refine Go.Great.wpList_allocTo (by rfl) (some 5) (by rfl) (.pointer (some ⟨W.heap.size, 0, none⟩)) (.cells zer 156) (by kernel_rfl) ?_
    refine wpList_store_row (by rfl) 156 _ _ (by rfl) W.heap.size tab (by kernel_rfl) (by kernel_rfl) 156 zer (heap_alloc_new W _) (by kernel_rfl) (by kernel_rfl) (by kernel_rfl) ?_
    refine wpList_nil ?_
    rename_i J K' hJ hK
    refine hK _ _ (hJ _ _ ?_)
    simp only [Act.put, List.setIfInBounds_toArray, List.set_cons_zero, List.set_cons_succ]
    exact ⟨_, _, _, _, _, _, _, _, _, _, _, _, _, _, _, _, _, _, ⟨rfl, hide (setRow_heap _ _ zer tab 156 (0, 0) (heap_alloc_new W _)), hide (bel_row (bel1 W _) (Nat.le_refl _) tab)⟩, rfl⟩
  case rest =>
    obtain ⟨rfl, HT, HB⟩ := hcut
    go_upto_region 2 with fail
    refine wp_region_lit ?_
    refine wpList_load_row (by rfl) 156 _ (by rfl) W.heap.size (by rfl) 156 tab (0, 0) _ HT.out Tryz.underlying156 (by rfl) (by kernel_rfl) ?_
    have hix := idx_tab
    generalize Value.agg tab = TV at hix ⊢
    clear HT
    go_wp2_with fail
    go_loopw [26] (fun i wr => ∃ j : Nat, j ≤ 16 ∧ i = .int .i64 j ∧ Hid (∀ j', j' < j → ((row j').1 == k && (row j').2.1 == bs s) = false) ∧ Hid (Below W.heap.size W wr)) (fun i _ => 16 - (intOf i).toNat)
    case atStart => exact ⟨0, by omega, rfl, hide (fun j' hj => by omega), HB⟩
    case round =>
      obtain ⟨j, hj, rfl, HA, HB⟩ := hrel
      by_cases hlt : j < 16
      · have hx := hix j hlt
        clear hix
        obtain ⟨⟨r1, r2, r3⟩, hr⟩ : ∃ r, row j = r := ⟨_, rfl⟩
        have HY := hide (opL_yes (k := k) (s := bs s) HA.out hlt)
        have HN := hide (all_no (k := k) (s := bs s) HA.out)
        rw [hr] at hx HY HN
        simp only at hx HY HN
        clear hr HA
        cases h1 : ((r1 : Int) == (k : Int)) with
        | false =>
          have h0 : (r1 == k) = false := by simp at h1 ⊢; omega
          rw [h0] at HN
          rename_i wr
          have HB2 := hide (bel HB.out (bel1 wr (.cells #[.int .i64 r1, .string (sB r2), .int .i64 r3] 155)))
          go_wp2_with fail
          go_roundw
          case rel => exact ⟨j + 1, by omega, by go_num, hide (HN.out rfl), HB2⟩
          case measure => simp [intOf]; omega
        | true =>
          have h0 : (r1 == k) = true := by simp at h1 ⊢; omega
          rw [h0] at HN HY
          rename_i wr
          have HB2 := hide (bel HB.out (bel1 wr (.cells #[.int .i64 r1, .string (sB r2), .int .i64 r3] 155)))
          by_cases h2 : r2 = bs s
          · have HY2 := hide (HY.out (by simp [h2]))
            rw [h2, sB_bs] at hx HB2
            clear HN HY h2
            go_wp2_with fail
            go_ret
            exact ⟨ret_int HY2.out.symm, HB2.out⟩
          · have HN2 := hide (HN.out (by simpa using h2))
            have hq : ((sB r2).toList == s.toList) = false := text_ne (s := sB r2) (t := s) h2
            generalize sB r2 = u at hx HB2 hq
            clear HN HY h2
            go_wp2_with fail
            go_roundw
            case rel => exact ⟨j + 1, by omega, by go_num, HN2, HB2⟩
            case measure => simp [intOf]; omega
      · obtain rfl : j = 16 := by omega
        clear hix
        go_wp2_with fail
        go_ret
        exact ⟨ret_int (by rw [opL_no HA.out]), HB.out⟩

end Go.Proofs.YtlhbgkaknfhlnaaGreat

/-
  Tokens and their texts: which mark, word or number a token is.
-/
namespace Go.Proofs.YtlhbgkaknfhlnaaGreat
open Go.RowKit Go.IntWalk Lx Pz
set_option linter.unusedVariables false

/-- The marks that the reader asks for by their text. -/
def mkB (s : Txt) : Bool := (marks.map (·.1)).contains s
theorem wrd_head {s : Txt} (h : wrd s = true) : mkB s = false ∧ s ≠ [] := by
  cases s with
  | nil => simp [wrd] at h
  | cons c r =>
    refine ⟨?_, by simp⟩
    have hA : A c = true := by simp [wrd] at h; exact h.1.2
    have := A_not hA
    have h' : 97 ≤ (c.toNat : Int) ∧ (c.toNat : Int) ≤ 122 := by simpa [A, lt] using hA
    cases hm : mkB (c :: r) with
    | false => rfl
    | true =>
      have : (c :: r) ∈ marks.map (·.1) := by simpa [mkB] using hm
      simp only [marks, List.map_cons, List.map_nil, List.mem_cons, List.not_mem_nil, or_false, List.cons.injEq] at this
      have hc : c = 43 ∨ c = 45 ∨ c = 42 ∨ c = 47 ∨ c = 37 ∨ c = 40 ∨ c = 41 ∨ c = 44 ∨ c = 59 ∨ c = 61 ∨ c = 63 ∨ c = 58 ∨ c = 60 ∨ c = 62 ∨ c = 38 ∨ c = 124 ∨ c = 94 ∨ c = 33 := by
        rcases this with h | h | h | h | h | h | h | h | h | h | h | h | h | h | h | h | h | h | h | h | h | h | h <;> simp [h.1]
      rcases hc with rfl | rfl | rfl | rfl | rfl | rfl | rfl | rfl | rfl | rfl | rfl | rfl | rfl | rfl | rfl | rfl | rfl | rfl <;> simp at h'
theorem num_head {s : Txt} (h : num s = true) : mkB s = false ∧ s ≠ [] := by
  cases s with
  | nil => simp [num] at h
  | cons c r =>
    refine ⟨?_, by simp⟩
    have hA : D c = true := by simp [num] at h; exact h.1.1.1
    have h' : 48 ≤ (c.toNat : Int) ∧ (c.toNat : Int) ≤ 57 := by simpa [D, dg] using hA
    cases hm : mkB (c :: r) with
    | false => rfl
    | true =>
      have : (c :: r) ∈ marks.map (·.1) := by simpa [mkB] using hm
      simp only [marks, List.map_cons, List.map_nil, List.mem_cons, List.not_mem_nil, or_false, List.cons.injEq] at this
      have hc : c = 43 ∨ c = 45 ∨ c = 42 ∨ c = 47 ∨ c = 37 ∨ c = 40 ∨ c = 41 ∨ c = 44 ∨ c = 59 ∨ c = 61 ∨ c = 63 ∨ c = 58 ∨ c = 60 ∨ c = 62 ∨ c = 38 ∨ c = 124 ∨ c = 94 ∨ c = 33 := by
        rcases this with h | h | h | h | h | h | h | h | h | h | h | h | h | h | h | h | h | h | h | h | h | h | h <;> simp [h.1]
      rcases hc with rfl | rfl | rfl | rfl | rfl | rfl | rfl | rfl | rfl | rfl | rfl | rfl | rfl | rfl | rfl | rfl | rfl | rfl <;> simp at h'

theorem ab_num {t : Tok} (h : t.kind = 1) : ab t = .num (vl t.text) := by unfold ab; rw [if_pos h]
theorem ab_word {t : Tok} (h : t.kind = 2) : ab t = .word t.text := by unfold ab; rw [if_neg (by omega), if_pos h]
theorem ab_mark {t : Tok} (h : t.kind = 3) : ab t = mkT t.text := by unfold ab; rw [if_neg (by omega), if_neg (by omega)]
theorem mk_not {s : Txt} (h : s ∈ marks.map (·.1)) : (∀ v, mkT s ≠ .num v) ∧ (∀ w, mkT s ≠ .word w) := by
  simp only [marks, List.map_cons, List.map_nil, List.mem_cons, List.not_mem_nil, or_false] at h
  rcases h with rfl | rfl | rfl | rfl | rfl | rfl | rfl | rfl | rfl | rfl | rfl | rfl | rfl | rfl | rfl | rfl | rfl | rfl | rfl | rfl | rfl | rfl | rfl <;> exact ⟨fun _ => by simp [mkT, marks], fun _ => by simp [mkT, marks]⟩
theorem mk_inj {s t : Txt} (hs : s ∈ marks.map (·.1)) (ht : t ∈ marks.map (·.1)) (h : mkT s = mkT t) : s = t := by
  have key : ∀ a ∈ marks.map (·.1), ∀ b ∈ marks.map (·.1), mkT a = mkT b → a = b := by decide
  exact key s hs t ht h

/-- A token has a mark's text just where it is that mark. -/
theorem text_iff {t : Tok} (h : Wf t) {s : Txt} (hs : s ∈ marks.map (·.1)) : t.text = s ↔ ab t = mkT s := by
  have hb : mkB s = true := by simpa [mkB] using hs
  rcases h with ⟨hk, hn⟩ | ⟨hk, hn⟩ | ⟨hk, hn⟩
  · constructor
    · intro e; rw [e] at hn; rw [(num_head hn).1] at hb; cases hb
    · intro e; rw [ab_num hk] at e; exact absurd e.symm ((mk_not hs).1 _)
  · constructor
    · intro e; rw [e] at hn; rw [(wrd_head hn).1] at hb; cases hb
    · intro e; rw [ab_word hk] at e; exact absurd e.symm ((mk_not hs).2 _)
  · rw [ab_mark hk]
    exact ⟨fun e => by rw [e], fun e => mk_inj hn hs e⟩
/-- A token has a word's text just where it is that word. -/
theorem word_iff {t : Tok} (h : Wf t) {s : Txt} (hs : wrd s = true) : t.text = s ↔ ab t = .word s := by
  rcases h with ⟨hk, hn⟩ | ⟨hk, hn⟩ | ⟨hk, hn⟩
  · constructor
    · intro e
      rw [e] at hn
      cases s with
      | nil => simp [wrd] at hs
      | cons c r =>
        have hA : A c = true := by simp [wrd] at hs; exact hs.1.2
        have hD : D c = true := by simp [num] at hn; exact hn.1.1.1
        rw [(A_not hA).2.2.1] at hD; cases hD
    · intro e; rw [ab_num hk] at e; cases e
  · rw [ab_word hk]; exact ⟨fun e => by rw [e], fun e => by cases e; rfl⟩
  · constructor
    · intro e; rw [e] at hn; have : mkB s = true := by simpa [mkB] using hn
      rw [(wrd_head hs).1] at this; cases this
    · intro e; rw [ab_mark hk] at e; exact absurd e ((mk_not hn).2 _)
theorem kind1 {t : Tok} (h : Wf t) {v : Int} (e : ab t = .num v) : t.kind = 1 ∧ num t.text = true ∧ vl t.text = v := by
  rcases h with ⟨hk, hn⟩ | ⟨hk, hn⟩ | ⟨hk, hn⟩
  · rw [ab_num hk] at e; cases e; exact ⟨hk, hn, rfl⟩
  · rw [ab_word hk] at e; cases e
  · rw [ab_mark hk] at e; exact absurd e ((mk_not hn).1 _)
theorem kind2 {t : Tok} (h : Wf t) {s : Txt} (e : ab t = .word s) : t.kind = 2 ∧ wrd t.text = true ∧ t.text = s := by
  rcases h with ⟨hk, hn⟩ | ⟨hk, hn⟩ | ⟨hk, hn⟩
  · rw [ab_num hk] at e; cases e
  · rw [ab_word hk] at e; cases e; exact ⟨hk, hn, rfl⟩
  · rw [ab_mark hk] at e; exact absurd e ((mk_not hn).2 _)
theorem kind3 {t : Tok} (h : Wf t) (h1 : ∀ v, ab t ≠ .num v) (h2 : ∀ s, ab t ≠ .word s) : t.kind = 3 := by
  rcases h with ⟨hk, hn⟩ | ⟨hk, hn⟩ | ⟨hk, hn⟩
  · exact absurd (ab_num hk) (h1 _)
  · exact absurd (ab_word hk) (h2 _)
  · exact hk
theorem num_no_mark {t : Tok} (h : Wf t) (h1 : ∀ v, ab t ≠ .num v) : num t.text = false := by
  rcases h with ⟨hk, hn⟩ | ⟨hk, hn⟩ | ⟨hk, hn⟩
  · exact absurd (ab_num hk) (h1 _)
  · cases hs : num t.text with
    | false => rfl
    | true =>
      cases ht : t.text with
      | nil => rw [ht] at hs; simp [num] at hs
      | cons c r =>
        rw [ht] at hs hn
        have hA : A c = true := by simp [wrd] at hn; exact hn.1.2
        have hD : D c = true := by simp [num] at hs; exact hs.1.1.1
        rw [(A_not hA).2.2.1] at hD; cases hD
  · cases hs : num t.text with
    | false => rfl
    | true => have : mkB t.text = true := by simpa [mkB] using hn
              rw [(num_head hs).1] at this; cases this

/-- The operator of a token at a level. -/
theorem opL_mark (k : Nat) {s : Txt} (hs : s ∈ marks.map (·.1)) : (opL k s = 0 ∧ ∀ o, mkT s ≠ .op k o) ∨ (opL k s ≠ 0 ∧ mkT s = .op k (opL k s)) := by
  by_cases hk : k < 7
  · rcases (show k = 0 ∨ k = 1 ∨ k = 2 ∨ k = 3 ∨ k = 4 ∨ k = 5 ∨ k = 6 by omega) with rfl | rfl | rfl | rfl | rfl | rfl | rfl <;>
    · simp only [marks, List.map_cons, List.map_nil, List.mem_cons, List.not_mem_nil, or_false] at hs
      rcases hs with rfl | rfl | rfl | rfl | rfl | rfl | rfl | rfl | rfl | rfl | rfl | rfl | rfl | rfl | rfl | rfl | rfl | rfl | rfl | rfl | rfl | rfl | rfl <;> first
      | exact .inl ⟨by decide, fun o => by simp [mkT, marks]⟩
      | exact .inr ⟨by decide, by decide⟩
  · left
    constructor
    · unfold opL
      have : rows.find? (fun r => r.1 == k && r.2.1 == s) = none := by
        rw [List.find?_eq_none]
        intro r hr
        have : r.1 < 7 := by
          have key : ∀ r ∈ rows, r.1 < 7 := by decide
          exact key r hr
        simp
        intro e; omega
      rw [this]; rfl
    · intro o e
      have key : ∀ a ∈ marks.map (·.1), ∀ k o, mkT a = .op k o → k < 7 := by
        intro a ha k o
        simp only [marks, List.map_cons, List.map_nil, List.mem_cons, List.not_mem_nil, or_false] at ha
        rcases ha with rfl | rfl | rfl | rfl | rfl | rfl | rfl | rfl | rfl | rfl | rfl | rfl | rfl | rfl | rfl | rfl | rfl | rfl | rfl | rfl | rfl | rfl | rfl <;> simp [mkT, marks] <;> omega
      have := key s hs k o e
      omega
theorem opL_none {k : Nat} {s : Txt} (h : mkB s = false) : opL k s = 0 := by
  unfold opL
  have : rows.find? (fun r => r.1 == k && r.2.1 == s) = none := by
    rw [List.find?_eq_none]
    intro r hr
    have key : ∀ r ∈ rows, mkB r.2.1 = true := by decide
    simp only [Bool.and_eq_true, beq_iff_eq, not_and]
    intro _ e
    have := key r hr
    rw [e, h] at this; cases this
  rw [this]; rfl
theorem opL_tok (k : Nat) {t : Tok} (h : Wf t) : (opL k t.text = 0 ∧ ∀ o, ab t ≠ .op k o) ∨ (opL k t.text ≠ 0 ∧ ab t = .op k (opL k t.text)) := by
  rcases h with ⟨hk, hn⟩ | ⟨hk, hn⟩ | ⟨hk, hn⟩
  · exact .inl ⟨opL_none (num_head hn).1, fun o => by rw [ab_num hk]; simp⟩
  · exact .inl ⟨opL_none (wrd_head hn).1, fun o => by rw [ab_word hk]; simp⟩
  · rw [ab_mark hk]; exact opL_mark k hn

/- the head of a list of tokens -/
theorem hd_ne {T : List Tok} (hw : ∀ t ∈ T, Wf t) {s : Txt} (hs : s ∈ marks.map (·.1)) (h : (T.map ab).head? ≠ some (mkT s)) : (hd T).text ≠ s := by
  cases T with
  | nil =>
    intro e
    have key : ∀ a ∈ marks.map (·.1), a ≠ [] := by decide
    exact key s hs e.symm
  | cons t T =>
    intro e
    exact h (by simp [(text_iff (hw t (by simp)) hs).1 e])
theorem hd_eq {T : List Tok} (hw : ∀ t ∈ T, Wf t) {s : Txt} (hs : s ∈ marks.map (·.1)) {r : List Tk} (h : T.map ab = mkT s :: r) : ∃ t T', T = t :: T' ∧ t.text = s ∧ T'.map ab = r := by
  cases T with
  | nil => simp at h
  | cons t T =>
    simp only [List.map_cons, List.cons.injEq] at h
    exact ⟨t, T, rfl, (text_iff (hw t (by simp)) hs).2 h.1, h.2⟩

end Go.Proofs.YtlhbgkaknfhlnaaGreat

/-
  The reader of package parse: node.
-/
namespace Go.Proofs.YtlhbgkaknfhlnaaGreat
open Go.RowKit Go.IntWalk Lx Pz
set_option linter.unusedVariables false

theorem infoN : (Tryz.prog.info? 78).map (fun i => (i.zero, i.size, i.bytes)) = some (some (.agg #[.int .i64 0, .int .i64 0, .int .i64 0, .int .i64 0, .int .i64 0, .int .i64 0, .int .i64 0, .int .i64 0, .int .i64 0]), 9, 72) := by kernel_rfl

abbrev ndA (n : Nd) : Array Value := #[.int .i64 n.op, .int .i64 n.a, .int .i64 n.b, .int .i64 n.c, .int .i64 n.k, .int .i64 n.back, .int .i64 n.co, .int .i64 n.x, .int .i64 n.y]
theorem news_nd {W : World} {b : Nat} {n : Nd} (h : HasC W b 78 (ndA n)) : ∀ j u, (nd9 n)[j]? = some u → W.cell? ((⟨b, 0, none⟩ : Addr).add j) = some u := by
  intro j u hu
  rw [Addr.add_lit]
  rw [Nat.zero_add]
  exact h.cell j (by rw [← hu]; simp [ndA, nd9])

/-- An append of one node, at a step of a region that draws. -/
theorem step_nd {w W : World} {b : Nat} {m : Mm} {T : List Tok} {NM : List Txt} {BS : List Int} {NS : List Nd} {ops : Array Oper} {o : Oper} {a : Act} {K : Act → World → Prop} {Q : Exit → Act → World → Prop} {E : Prop}
    (hgd : o.guard = none) (s x : Operand) (ho : o.op = .call { callee := .builtin .append, args := #[s, x], argTypes := #[44, 44] })
    (hs : a.eval s = m.dv) (hR : Rd w W b m T NM BS NS) (q : Nat) (n : Nd) (hx : a.eval x = .slice (some ⟨q, 0, none⟩) 1 1) (hc : HasC W q 78 (ndA n)) (h3 : NS.length ≤ 2000000)
    (h : ∀ g cap w', w'.ownsRow w.heap.size 78 9 (.slice (some ⟨g, 0, none⟩) (NS.length + 1) cap) (NS ++ [n]).length (nd64 (NS ++ [n])) → HasC w' b 69 m.cs → Kp [78] W w' → Below w.heap.size w w' → W.grownBy w' m.dv.ownBlock → K (a.put o.dst (.slice (some ⟨g, 0, none⟩) (NS.length + 1) cap)) w') :
    if Region.wanted o (yielded ops a.tmps) = true then Oper.wp Tryz.prog o a W K Q else E := by
  obtain ⟨i0, hi0, hz0, hz1, hz2⟩ := info_parts infoN
  refine step_append_lies W hgd s x 44 ho w.heap.size 78 i0 _ 9 72 Tryz.underlying44 hi0 hz0 hz1 hz2 rfl (by omega) m.dv NS.length (nd64 NS) hs hR.nodes ⟨q, 0, none⟩ 1 1 (nd9 n) hx rfl (news_nd hc) (by simp [nd9, Value.oneCell']) (by omega) (by unfold maxLen; omega) (by omega) hR.old.size W.heap.size rfl ?_
  intro g cap w' hown hgrow hat hlt
  have hk : Kp [78] W w' := Kp.grown hgrow fun k hk => by
    obtain ⟨_, cs, fr, hb⟩ := owns_block hR.nodes k hk
    exact ⟨cs, _, fr, hb, by simp⟩
  exact h g cap w' (by rw [nd64_snoc, List.length_append]; exact hown) (hR.blk.kp hk (by decide)) hk (hR.old.grown hgrow hR.old.size fun k hk => (owns_block hR.nodes k hk).1) hgrow

/-- A node's cells, at any number of a block. -/
abbrev nine (W : World) (q : Nat) (n : Nd) : Prop := W.cell? ⟨q, 0, none⟩ = some (.int .i64 n.op) ∧ W.cell? ⟨q, 1, none⟩ = some (.int .i64 n.a) ∧ W.cell? ⟨q, 2, none⟩ = some (.int .i64 n.b) ∧ W.cell? ⟨q, 3, none⟩ = some (.int .i64 n.c) ∧ W.cell? ⟨q, 4, none⟩ = some (.int .i64 n.k) ∧ W.cell? ⟨q, 5, none⟩ = some (.int .i64 n.back) ∧ W.cell? ⟨q, 6, none⟩ = some (.int .i64 n.co) ∧ W.cell? ⟨q, 7, none⟩ = some (.int .i64 n.x) ∧ W.cell? ⟨q, 8, none⟩ = some (.int .i64 n.y)
theorem HasC.nine {W : World} {q : Nat} {n : Nd} (h : HasC W q 78 (ndA n)) : nine W q n :=
  ⟨h.cell 0 rfl, h.cell 1 rfl, h.cell 2 rfl, h.cell 3 rfl, h.cell 4 rfl, h.cell 5 rfl, h.cell 6 rfl, h.cell 7 rfl, h.cell 8 rfl⟩

theorem node_end {w V Z w1 : World} {b : Nat} {m : Mm} {T : List Tok} {NM : List Txt} {BS : List Int} {NS NS' : List Nd} {v : Value} (hR : Rd w V b m T NM BS NS) (hVZ : Below V.heap.size V Z)
    (hown : w1.ownsRow w.heap.size 78 9 v NS'.length (nd64 NS')) (hb1 : HasC w1 b 69 m.cs) (hk1 : Kp [78] Z w1) (hold : Below w.heap.size w w1) :
    (∃ m', Rd w (w1.setCell ⟨b, 3, none⟩ v) b m' T NM BS NS') ∧ Kp SX V (w1.setCell ⟨b, 3, none⟩ v) := by
  have ks : Kp [69] w1 (w1.setCell ⟨b, 3, none⟩ v) := Kp.set hb1 (by simp) 3 v
  have hk : Kp SX V (w1.setCell ⟨b, 3, none⟩ v) := ((Kp.of_below SX hVZ).trans (hk1.mono (by decide))).trans (ks.mono (by decide))
  exact ⟨⟨⟨m.la, m.ln, m.lc, m.nv, m.bv, v, m.root⟩, hb1.set 3 v, hR.base, hR.toks.kp hk (by decide), owns_kp hR.names hk (by decide), owns_kp hR.binds hk (by decide), owns_kp hown ks (by decide), hR.wf, hold.setCell hR.base v⟩, hk⟩

set_option maxRecDepth 100000 in
set_option maxHeartbeats 1000000 in
theorem node_any {w W : World} {b : Nat} {m : Mm} {T : List Tok} {NM : List Txt} {BS : List Int} {NS : List Nd} (h : Rd w W b m T NM BS NS) (n : Nd) (h3 : NS.length ≤ 2000000) :
    Calls Tryz.prog 87 #[ptr b, .agg (ndA n)] W fun e W' => e = .returned (.int .i64 NS.length) ∧ (∃ m', Rd w W' b m' T NM BS (NS ++ [n])) ∧ Kp SX W W' := by
  have HR := hide (h.later (bel1 W (.cells (ndA n) 78)))
  have HN := hide (HasC.new W 78 (ndA n))
  have HO := hide (show ∀ k, m.dv.ownBlock = some k → k < W.heap.size from fun k hk => (h.nodes.lt k hk).2)
  have HK := hide (Kp.of_below SX (bel1 W (.cells (ndA n) 78)))
  clear h
  obtain ⟨la, ln, lc, nv, bv, dv, root⟩ := m
  go_enter Tryz.func87, Tryz.ntmps87
  go_wp2_with fail
  generalize hV : W.alloc (.cells (ndA n) 78) = V at *
  generalize hq : W.heap.size = q at *
  have d3 : V.cell? ⟨b, 3, none⟩ = some dv := HR.out.blk.cell 3 rfl
  have hbV : b < V.heap.size := HR.out.blk.lt
  have d3a : ∀ o : Obj, (V.alloc o).cell? ⟨b, 3, none⟩ = some dv := fun o => (cell_old hbV).trans d3
  obtain ⟨e0, e1, e2, e3, e4, e5, e6, e7, e8⟩ := HN.out.nine
  clear hV hq
  go_region_law
    (first
      | (refine step_nd (m := ⟨la, ln, lc, nv, bv, dv, root⟩) (by rfl) _ _ (by rfl) (by rfl) (by first | exact (HR.out.later (bel1 _ _)).later (below_drew _) | exact (HR.out.later (below_drew V)).later (bel1 _ _)) V.heap.size n (by rfl) (by first | exact HasC.new _ _ _ | exact (HasC.new V 78 (ndA n)).below (below_drew _)) h3 ?_; intro g cap w1 hown hb1 hk1 hold hgrow; have t3 := hb1.cell 3 rfl; have y3 := hb1.frozen 3))
  all_goals
    have HE := hide (node_end HR.out (by first | exact bel (bel1 V _) (below_drew _) | exact bel (below_drew V) (bel1 _ _)) hown hb1 hk1 hold)
    have c3 := (hb1.set 3 (.slice (some ⟨g, 0, none⟩) (NS.length + 1) cap)).cell 3 rfl
    clear hown hb1 hk1 hold hgrow t3 y3 e0 e1 e2 e3 e4 e5 e6 e7 e8 d3 d3a HN HO
    generalize w1.setCell ⟨b, 3, none⟩ (.slice (some ⟨g, 0, none⟩) (NS.length + 1) cap) = F at *
    go_wp2_with fail
    go_ret
    exact ⟨ret_int (by omega), HE.out.1, HK.out.trans HE.out.2⟩

end Go.Proofs.YtlhbgkaknfhlnaaGreat

/-
  The reader of package parse: number and offset.
-/
namespace Go.Proofs.YtlhbgkaknfhlnaaGreat
open Go.RowKit Go.IntWalk Lx Pz
set_option linter.unusedVariables false

theorem foldl_pow : ∀ (r : List UInt8) (n : Int), r.all D = true → 1 ≤ n → 10 ^ r.length * n ≤ r.foldl (fun n c => 10 * n + ((c.toNat : Int) - 48)) n
  | [], n, _, _ => by simp
  | c :: r, n, h, hn => by
    simp only [List.all_cons, Bool.and_eq_true] at h
    have hc := D_iff.1 h.1
    have := foldl_pow r (10 * n + ((c.toNat : Int) - 48)) h.2 (by omega)
    simp only [List.foldl_cons, List.length_cons]
    have h2 : (10 : Int) ^ r.length * (10 * n) ≤ 10 ^ r.length * (10 * n + ((c.toNat : Int) - 48)) := Int.mul_le_mul_of_nonneg_left (by omega) (Int.pow_nonneg (by decide))
    rw [Int.pow_succ, Int.mul_assoc]
    omega
theorem num_len {s : Txt} (h : num s = true) : s.length ≤ 10 := by
  cases s with
  | nil => simp
  | cons c r =>
    have hd : (c :: r).all D = true := by simp only [num, Bool.and_eq_true] at h; exact h.1.1.2
    have hv : vl (c :: r) ≤ 2147483647 := by simp only [num, Bool.and_eq_true, decide_eq_true_eq] at h; exact h.2
    have hz : ((c :: r).headD 0 == 48 && decide (1 < (c :: r).length)) = false := by simp only [num, Bool.and_eq_true, Bool.not_eq_true'] at h; exact h.1.2
    cases r with
    | nil => simp
    | cons d r =>
      have h1 : c ≠ 48 := by
        intro e; subst e; simp at hz
      have hc := D_iff.1 (by simp at hd; exact hd.1 : D c = true)
      have h48 : (c.toNat : Int) ≠ 48 := fun e => h1 (UInt8.toNat_inj.1 (by simpa using (by omega : c.toNat = 48)))
      have h2 : 10 ^ (d :: r).length * ((c.toNat : Int) - 48) ≤ vl (c :: d :: r) := by
        have := foldl_pow (d :: r) ((c.toNat : Int) - 48) (by simp at hd ⊢; exact hd.2) (by omega)
        have e : vl (c :: d :: r) = (d :: r).foldl (fun n c => 10 * n + ((c.toNat : Int) - 48)) ((c.toNat : Int) - 48) := by simp [vl]
        rw [e]; exact this
      rcases Nat.lt_or_ge (d :: r).length 10 with hl | hl
      · simp at hl ⊢; omega
      · exfalso
        have h3 : (10 : Int) ^ 10 ≤ 10 ^ (d :: r).length := by
          have := Nat.pow_le_pow_right (n := 10) (by decide) hl
          exact_mod_cast this
        have h4 : (10 : Int) ^ (d :: r).length * 1 ≤ 10 ^ (d :: r).length * ((c.toNat : Int) - 48) := Int.mul_le_mul_of_nonneg_left (by omega) (Int.pow_nonneg (by decide))
        have : (10 : Int) ^ 10 = 10000000000 := by decide
        omega
theorem wf_len {t : Tok} (h : Wf t) : t.text.length ≤ 16 := by
  rcases h with ⟨hk, hn⟩ | ⟨hk, hn⟩ | ⟨hk, hn⟩
  · have := num_len hn; omega
  · simp only [wrd, Bool.and_eq_true, decide_eq_true_eq] at hn; exact hn.1.1.2
  · have key : ∀ a ∈ marks.map (·.1), a.length ≤ 16 := by decide
    exact key _ hn
theorem sB_size (l : List UInt8) : (sB l).size = l.length := by simp [ByteArray.size]

def NumP (w W : World) (b : Nat) (T : List Tok) (NM : List Txt) (BS : List Int) (NS : List Nd) (e : Ending) (W' : World) : Prop :=
  ((∀ v r, T.map ab ≠ .num v :: r) ∧ e = pan ∧ Below w.heap.size w W') ∨ (∃ v t T', T = t :: T' ∧ ab t = .num v ∧ e = .returned (.int .i64 v) ∧ (∃ m', Rd w W' b m' T' NM BS NS) ∧ Kp SX W W')

theorem nv_of {s : Txt} (h : num s = true) : nv s = vl s := by unfold nv; rw [if_pos h]

set_option maxRecDepth 100000 in
set_option maxHeartbeats 1000000 in
theorem number_rd {w W : World} {b : Nat} {m : Mm} {T : List Tok} {NM : List Txt} {BS : List Int} {NS : List Nd} (h : Rd w W b m T NM BS NS) :
    Calls Tryz.prog 154 #[ptr b] W fun e W' => NumP w W b T NM BS NS e W' := by
  have HW := hide h
  have F1 := fldT1
  clear h
  go_enter Tryz.func154, Tryz.ntmps154
  go_wp2_with fail
  refine (next_any HW.out).mono ?_
  rintro e W1 (⟨rfl, rfl, hb⟩ | ⟨t, T', rfl, hwf, rfl, hR, hk⟩)
  · have HB := hide hb
    clear hb
    go_wp2_with fail
    exact ⟨rfl, .inl ⟨fun v r e => by simp at e, rfl, HB.out⟩⟩
  · have HR := hide hR
    have HK := hide hk
    have HWf := hide hwf
    have hn := fun w => number_any (sB t.text) w (by rw [sB_size]; have := wf_len hwf; unfold maxLen; omega)
    rw [bs_sB] at hn
    have HN := hide hn
    clear hR hk hwf hn
    by_cases hv : ∃ v, ab t = .num v
    · obtain ⟨v, hv⟩ := hv
      obtain ⟨h1, h2, h3⟩ := kind1 HWf.out hv
      rw [nv_of h2, h2, h3] at HN
      have HV := hide hv
      clear h1 h2 h3 hv
      go_wp2_with fail
      refine (HN.out _).mono ?_
      rintro e W2 ⟨rfl, rfl⟩
      go_wp2_with fail
      go_ret
      exact .inr ⟨v, t, T', rfl, HV.out, rfl, HR.out, HK.out⟩
    · have hv' : ∀ v, ab t ≠ .num v := fun v e => hv ⟨v, e⟩
      rw [num_no_mark HWf.out hv'] at HN
      have HV := hide hv'
      clear hv hv'
      go_wp2_with fail
      refine (HN.out _).mono ?_
      rintro e W2 ⟨rfl, rfl⟩
      go_wp2_with fail
      obtain ⟨m', hm'⟩ := HR.out
      exact ⟨rfl, .inl ⟨fun v r e => by simp at e; exact HV.out v e.1, rfl, hm'.old⟩⟩

def OffP (w W : World) (b : Nat) (T : List Tok) (NM : List Txt) (BS : List Int) (NS : List Nd) (e : Ending) (W' : World) : Prop :=
  (off (T.map ab) = none ∧ e = pan ∧ Below w.heap.size w W') ∨ (∃ x P T', off (T.map ab) = some (x, T'.map ab) ∧ T = P ++ T' ∧ e = .returned (.int .i64 x) ∧ (∃ m', Rd w W' b m' T' NM BS NS) ∧ Kp SX W W')

theorem off_none {l : List Tk} (h1 : ∀ v r, l ≠ .num v :: r) (h2 : l.head? ≠ some (.op 5 9)) : off l = none := by
  unfold off
  split
  · exact absurd rfl (h1 _ _)
  · rename_i k o v r
    split
    · rename_i hk
      obtain ⟨rfl, rfl⟩ := hk
      exact absurd rfl h2
    · rfl
  · rfl
theorem off_minus {l : List Tk} (h : ∀ v r, l ≠ .num v :: r) : off (.op 5 9 :: l) = none := by
  unfold off
  split
  · rename_i heq; cases heq
  · rename_i heq; cases heq; exact absurd rfl (h _ _)
  · rfl

set_option maxRecDepth 100000 in
set_option maxHeartbeats 1000000 in
theorem offset_rd {w W : World} {b : Nat} {m : Mm} {T : List Tok} {NM : List Txt} {BS : List Int} {NS : List Nd} (h : Rd w W b m T NM BS NS) :
    Calls Tryz.prog 173 #[ptr b] W fun e W' => OffP w W b T NM BS NS e W' := by
  have HW := hide h
  have hw := h.wf
  clear h
  by_cases hm : (T.map ab).head? = some (.op 5 9)
  · obtain ⟨r, hr⟩ : ∃ r, T.map ab = .op 5 9 :: r := by
      cases hT : T.map ab with
      | nil => rw [hT] at hm; cases hm
      | cons a r => rw [hT] at hm; simp at hm; exact ⟨r, by rw [hm]⟩
    obtain ⟨t, T1, rfl, ht, hr1⟩ := hd_eq (s := [45]) hw (by decide) (r := r) hr
    have HH := hide (show ab t = .op 5 9 from (text_iff (hw t (by simp)) (s := [45]) (by decide)).1 ht)
    have ht := hide ht
    clear hm hr hr1 hw
    go_enter Tryz.func173, Tryz.ntmps173
    go_wp2_with fail
    refine (pass_yes HW.out _ ht.out).mono ?_
    rintro e W1 ⟨rfl, ⟨m1, hR⟩, hk⟩
    have HR := hide hR
    have HK := hide hk
    clear hR hk
    go_wp2_with fail
    refine (number_rd HR.out).mono ?_
    rintro e W2 (⟨hn, rfl, hb⟩ | ⟨v, t2, T2, rfl, hv, rfl, hR, hk⟩)
    · have HB := hide hb
      have hn := hide hn
      clear hb
      go_wp2_with fail
      exact ⟨rfl, .inl ⟨by rw [List.map_cons, HH.out]; exact off_minus hn.out, rfl, HB.out⟩⟩
    · have HR2 := hide hR
      have HK2 := hide (HK.out.trans hk)
      have hv := hide hv
      have hb := hide (show 0 ≤ v ∧ v ≤ 2147483647 by
        obtain ⟨-, h2, h3⟩ := kind1 (HR.out.wf t2 (by simp)) hv.out
        simp only [num, Bool.and_eq_true, decide_eq_true_eq] at h2
        rw [← h3]
        exact ⟨vl_nonneg h2.1.1.2, h2.2⟩)
      obtain ⟨v0, v1⟩ := hb.out
      clear hR hk
      go_wp2_with fail
      go_ret
      exact .inr ⟨-v, [t, t2], T2, by simp [HH.out, hv.out, off], rfl, rfl, HR2.out, HK2.out⟩
  · have hs := hide (hd_ne (s := [45]) hw (by decide) hm)
    have hm := hide hm
    clear hw
    go_enter Tryz.func173, Tryz.ntmps173
    go_wp2_with fail
    refine (pass_no HW.out _ hs.out).mono ?_
    rintro e W1 ⟨rfl, hb⟩
    have HR := hide (HW.out.later hb)
    have HK := hide (Kp.of_below SX hb)
    clear hb
    go_wp2_with fail
    refine (number_rd HR.out).mono ?_
    rintro e W2 (⟨hn, rfl, hb⟩ | ⟨v, t2, T2, rfl, hv, rfl, hR, hk⟩)
    · have HB := hide hb
      have hn := hide hn
      clear hb
      go_wp2_with fail
      exact ⟨rfl, .inl ⟨off_none hn.out hm.out, rfl, HB.out⟩⟩
    · have HR2 := hide hR
      have HK2 := hide (HK.out.trans hk)
      have hv := hide hv
      clear hR hk
      go_wp2_with fail
      go_ret
      exact .inr ⟨v, [t2], T2, by simp [hv.out, off], rfl, rfl, HR2.out, HK2.out⟩

end Go.Proofs.YtlhbgkaknfhlnaaGreat

/-
  The reader of package parse: what an expression's function comes to; a variable beside the reader.
-/
namespace Go.Proofs.YtlhbgkaknfhlnaaGreat
open Go.RowKit Go.IntWalk Lx Pz
set_option linter.unusedVariables false

theorem Kp.store_new {S : List TypeId} {W V : World} (h : Kp S W V) {p : Addr} (hp : W.heap.size ≤ p.block) (u : Value) : Kp S W (V.setCell p u) :=
  ⟨by have := h.size; simp [World.setCell]; omega, fun k cs t fr hk ht => (Below.heap_setCell V p u k (by have := (Array.getElem?_eq_some_iff.1 hk).1; omega)).trans (h.block k cs t fr hk ht)⟩
theorem Rd.kp {w W W' : World} {b : Nat} {m : Mm} {T : List Tok} {NM : List Txt} {BS : List Int} {NS : List Nd} (h : Rd w W b m T NM BS NS) {t : TypeId} (hk : Kp [t] W W') (ht : t ≠ 69 ∧ t ≠ 89 ∧ t ≠ 9 ∧ t ≠ 3 ∧ t ≠ 78) (hb : Below w.heap.size w W') : Rd w W' b m T NM BS NS := by
  obtain ⟨h1, h2, h3, h4, h5⟩ := ht
  exact ⟨h.blk.kp hk (by simpa using Ne.symm h1), h.base, h.toks.kp hk (by simpa using Ne.symm h2), owns_kp h.names hk (by simpa using Ne.symm h3), owns_kp h.binds hk (by simpa using Ne.symm h4), owns_kp h.nodes hk (by simpa using Ne.symm h5), h.wf, hb⟩

/-- A variable of the call's own beside the reader. -/
structure Pl (w W V : World) (b : Nat) (T : List Tok) (NM : List Txt) (BS : List Int) (NS : List Nd) (q : Nat) (ty : TypeId) (cs : Array Value) : Prop where
  rd : ∃ m, Rd w V b m T NM BS NS
  kp : Kp SX W V
  va : HasC V q ty cs
  q0 : W.heap.size ≤ q
  w0 : w.heap.size ≤ W.heap.size
theorem Pl.store {w W V : World} {b : Nat} {T : List Tok} {NM : List Txt} {BS : List Int} {NS : List Nd} {q : Nat} {ty : TypeId} {cs : Array Value} (h : Pl w W V b T NM BS NS q ty cs) (ht : ty ≠ 69 ∧ ty ≠ 89 ∧ ty ≠ 9 ∧ ty ≠ 3 ∧ ty ≠ 78) (i : Nat) (u : Value) :
    Pl w W (V.setCell ⟨q, i, none⟩ u) b T NM BS NS q ty (cs.setIfInBounds i u) := by
  obtain ⟨m, hm⟩ := h.rd
  exact ⟨⟨m, hm.kp (Kp.set h.va (by simp) i u) ht (hm.old.setCell (by have := h.q0; have := h.w0; show w.heap.size ≤ q; omega) u)⟩, h.kp.store_new h.q0 u, h.va.set i u, h.q0, h.w0⟩
theorem Pl.step {w W V V' : World} {b : Nat} {T T' : List Tok} {NM : List Txt} {BS : List Int} {NS NS' : List Nd} {q : Nat} {ty : TypeId} {cs : Array Value} (h : Pl w W V b T NM BS NS q ty cs) (ht : ty ≠ 69 ∧ ty ≠ 89 ∧ ty ≠ 9 ∧ ty ≠ 3 ∧ ty ≠ 78)
    (hr : ∃ m, Rd w V' b m T' NM BS NS') (hk : Kp SX V V') : Pl w W V' b T' NM BS NS' q ty cs :=
  ⟨hr, h.kp.trans hk, h.va.kp hk (by obtain ⟨h1, h2, h3, h4, h5⟩ := ht; simp [h1, h5]), h.q0, h.w0⟩
theorem Pl.later {w W V V' : World} {b : Nat} {T : List Tok} {NM : List Txt} {BS : List Int} {NS : List Nd} {q : Nat} {ty : TypeId} {cs : Array Value} (h : Pl w W V b T NM BS NS q ty cs) (hb : Below V.heap.size V V') : Pl w W V' b T NM BS NS q ty cs := by
  obtain ⟨m, hm⟩ := h.rd
  exact ⟨⟨m, hm.later hb⟩, h.kp.trans (Kp.of_below SX hb), h.va.below hb, h.q0, h.w0⟩
theorem Pl.begin {w W : World} {b : Nat} {m : Mm} {T : List Tok} {NM : List Txt} {BS : List Int} {NS : List Nd} (h : Rd w W b m T NM BS NS) (ty : TypeId) (cs : Array Value) : Pl w W (W.alloc (.cells cs ty)) b T NM BS NS W.heap.size ty cs :=
  ⟨⟨m, h.later (bel1 _ _)⟩, Kp.of_below SX (bel1 _ _), HasC.new _ _ _, Nat.le_refl _, h.old.size⟩

/-- What an expression's function comes to. -/
def Ok (w W : World) (b : Nat) (T : List Tok) (NM : List Txt) (BS : List Int) (NS : List Nd) (res : Option (E × List Tk)) (e : Ending) (W' : World) : Prop :=
  (res = none ∧ e = pan ∧ Below w.heap.size w W') ∨
  (∃ ex P T', res = some (ex, T'.map ab) ∧ T = P ++ T' ∧ e = .returned (.int .i64 ((NS.length + ex.size : Nat) - 1 : Int)) ∧ (∃ m', Rd w W' b m' T' NM BS (NS ++ ex.flat NS.length)) ∧ Kp SX W W')

theorem ret_size {n : Nat} (e : E) (h : e.size = 1) : Ending.returned (.int .i64 n) = .returned (.int .i64 ((n + e.size : Nat) - 1 : Int)) := ret_int (by omega)

theorem hd_cons {T : List Tok} {x : Tk} (h : (T.map ab).head? = some x) : ∃ t T', T = t :: T' ∧ ab t = x := by
  cases T with
  | nil => simp at h
  | cons t T => simp at h; exact ⟨t, T, rfl, h⟩

end Go.Proofs.YtlhbgkaknfhlnaaGreat

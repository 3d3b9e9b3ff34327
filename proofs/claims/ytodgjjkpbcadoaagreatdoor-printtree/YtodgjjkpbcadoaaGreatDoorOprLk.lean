/-
  operator: the operator that a mark is at a level.
-/
import Derived.Test.YtodgjjkpbcadoaaGreatDoorSm
import Derived.Deep.CutRange
import Derived.Great.Walk
namespace Go.Proofs.YtodgjjkpbcadoaaGreatDoor
open Go.RowKit Go.IntWalk Lx Pz
set_option linter.unusedVariables false

def rows : List (Nat × Txt × Int) := [(0, [124], 16), (1, [94], 17), (2, [38], 15), (3, [60], 18), (3, [60, 61], 19), (3, [62], 20), (3, [62, 61], 21), (3, [61, 61], 22), (3, [33, 61], 23), (4, [60, 60], 13), (4, [62, 62], 14), (5, [43], 8), (5, [45], 9), (6, [42], 10), (6, [47], 11), (6, [37], 12)]
def opL (k : Nat) (s : Txt) : Int := ((rows.find? fun r => r.1 == k && r.2.1 == s).map (·.2.2)).getD 0
def row (i : Nat) : Nat × Txt × Int := rows.getD i (0, [], 0)
def tab : Array Value := #[.int .i64 0, .string ⟨#[124]⟩, .int .i64 16, .int .i64 1, .string ⟨#[94]⟩, .int .i64 17, .int .i64 2, .string ⟨#[38]⟩, .int .i64 15, .int .i64 3, .string ⟨#[60]⟩, .int .i64 18, .int .i64 3, .string ⟨#[60, 61]⟩, .int .i64 19, .int .i64 3, .string ⟨#[62]⟩, .int .i64 20, .int .i64 3, .string ⟨#[62, 61]⟩, .int .i64 21, .int .i64 3, .string ⟨#[61, 61]⟩, .int .i64 22, .int .i64 3, .string ⟨#[33, 61]⟩, .int .i64 23, .int .i64 4, .string ⟨#[60, 60]⟩, .int .i64 13, .int .i64 4, .string ⟨#[62, 62]⟩, .int .i64 14, .int .i64 5, .string ⟨#[43]⟩, .int .i64 8, .int .i64 5, .string ⟨#[45]⟩, .int .i64 9, .int .i64 6, .string ⟨#[42]⟩, .int .i64 10, .int .i64 6, .string ⟨#[47]⟩, .int .i64 11, .int .i64 6, .string ⟨#[37]⟩, .int .i64 12]
abbrev zer : Array Value := #[.int .i64 0, .string ⟨#[]⟩, .int .i64 0, .int .i64 0, .string ⟨#[]⟩, .int .i64 0, .int .i64 0, .string ⟨#[]⟩, .int .i64 0, .int .i64 0, .string ⟨#[]⟩, .int .i64 0, .int .i64 0, .string ⟨#[]⟩, .int .i64 0, .int .i64 0, .string ⟨#[]⟩, .int .i64 0, .int .i64 0, .string ⟨#[]⟩, .int .i64 0, .int .i64 0, .string ⟨#[]⟩, .int .i64 0, .int .i64 0, .string ⟨#[]⟩, .int .i64 0, .int .i64 0, .string ⟨#[]⟩, .int .i64 0, .int .i64 0, .string ⟨#[]⟩, .int .i64 0, .int .i64 0, .string ⟨#[]⟩, .int .i64 0, .int .i64 0, .string ⟨#[]⟩, .int .i64 0, .int .i64 0, .string ⟨#[]⟩, .int .i64 0, .int .i64 0, .string ⟨#[]⟩, .int .i64 0, .int .i64 0, .string ⟨#[]⟩, .int .i64 0]
theorem idx_tab (i : Nat) (hi : i < 16) (w : World) : (Instr.index 116 (.agg tab) (.int .i64 i)).run Tryz.prog w = .ok (.agg #[.int .i64 (row i).1, .string (sB (row i).2.1), .int .i64 (row i).2.2]) w := by
  rcases (show i = 0 ∨ i = 1 ∨ i = 2 ∨ i = 3 ∨ i = 4 ∨ i = 5 ∨ i = 6 ∨ i = 7 ∨ i = 8 ∨ i = 9 ∨ i = 10 ∨ i = 11 ∨ i = 12 ∨ i = 13 ∨ i = 14 ∨ i = 15 by omega) with rfl | rfl | rfl | rfl | rfl | rfl | rfl | rfl | rfl | rfl | rfl | rfl | rfl | rfl | rfl | rfl <;> simp [Instr.index, go_sem, row, rows, tab]

theorem opL_yes {k : Nat} {s : Txt} {i : Nat} (h : ∀ j, j < i → ((row j).1 == k && (row j).2.1 == s) = false) (hi : i < 16) (he : ((row i).1 == k && (row i).2.1 == s) = true) : opL k s = (row i).2.2 := by
  have hlen : rows.length = 16 := rfl
  have hr : ∀ j (hj : j < 16), row j = rows[j]'(by rw [hlen]; exact hj) := fun j hj => by unfold row; rw [List.getD_eq_getElem?_getD, List.getElem?_eq_getElem (by rw [hlen]; exact hj)]; rfl
  have : rows.find? (fun r => r.1 == k && r.2.1 == s) = some (row i) := by
    rw [List.find?_eq_some_iff_getElem]
    refine ⟨he, i, by rw [hlen]; exact hi, (hr i hi).symm, fun j hj => ?_⟩
    have := h j hj
    rw [hr j (by omega)] at this
    rw [this]
    rfl
  unfold opL
  rw [this]
  rfl
theorem opL_no {k : Nat} {s : Txt} (h : ∀ j, j < 16 → ((row j).1 == k && (row j).2.1 == s) = false) : opL k s = 0 := by
  have hlen : rows.length = 16 := rfl
  have : rows.find? (fun r => r.1 == k && r.2.1 == s) = none := by
    rw [List.find?_eq_none]
    intro r hr
    obtain ⟨j, hj, rfl⟩ := List.getElem_of_mem hr
    have := h j (by rw [hlen] at hj; exact hj)
    unfold row at this
    rw [List.getD_eq_getElem?_getD, List.getElem?_eq_getElem hj] at this
    simpa using this
  unfold opL
  rw [this]
  rfl
theorem all_no {k : Nat} {s : Txt} {i : Nat} (h : ∀ j, j < i → ((row j).1 == k && (row j).2.1 == s) = false) (he : ((row i).1 == k && (row i).2.1 == s) = false) : ∀ j, j < i + 1 → ((row j).1 == k && (row j).2.1 == s) = false := by
  intro j hj
  rcases Nat.lt_succ_iff_lt_or_eq.1 hj with h1 | rfl
  · exact h j h1
  · exact he

theorem bel_row {B g : Nat} {w0 w : World} (hb : Below B w0 w) (h : B ≤ g) (cs : Array Value) : Below B w0 (w.setRow g cs) :=
  ⟨hb.os, hb.tape, hb.output, by rw [size_setRow]; exact hb.size, fun k hk => (setRow_other w g k cs (by omega)).trans (hb.block k hk)⟩

set_option maxRecDepth 100000 in
set_option maxHeartbeats 4000000 in
theorem operator_any (k : Nat) (s : ByteArray) (W : World) :
    Calls Tryz.prog 86 #[.int .i64 k, .string s] W fun e W' => e = .returned (.int .i64 (opL k (bs s))) ∧ Below W.heap.size W W' := by
  go_enter Tryz.func86, Tryz.ntmps86
  go_upto_region 1 with fail
  go_cut [5] from 8 to 24 (fun p wc => p = .pointer (some ⟨W.heap.size, 0, none⟩) ∧ Hid (HasC wc W.heap.size 116 tab) ∧ Hid (Below W.heap.size W wc))
  case first =>
    refine wp_region_lit ?_
    iterate 16 refine wpList_build (by rfl) 115 _ (by rfl) (by kernel_rfl) ?_
    refine wpList_build (by rfl) 116 _ (by rfl) (by kernel_rfl) ?_
    refine Go.Great.wpList_allocTo (by rfl) (some 5) (by rfl) (.pointer (some ⟨W.heap.size, 0, none⟩)) (.cells zer 116) (by kernel_rfl) ?_
    refine wpList_store_row (by rfl) 116 _ _ (by rfl) W.heap.size tab (by kernel_rfl) (by kernel_rfl) 116 zer (heap_alloc_new W _) (by kernel_rfl) (by kernel_rfl) (by kernel_rfl) ?_
    refine wpList_nil ?_
    rename_i J K' hJ hK
    refine hK _ _ (hJ _ _ ?_)
    simp only [Act.put, List.setIfInBounds_toArray, List.set_cons_zero, List.set_cons_succ]
    exact ⟨_, _, _, _, _, _, _, _, _, _, _, _, _, _, _, _, _, _, ⟨rfl, hide (setRow_heap _ _ zer tab 116 (0, 0) (heap_alloc_new W _)), hide (bel_row (bel1 W _) (Nat.le_refl _) tab)⟩, rfl⟩
  case rest =>
    obtain ⟨rfl, HT, HB⟩ := hcut
    go_upto_region 2 with fail
    refine wp_region_lit ?_
    refine wpList_load_row (by rfl) 116 _ (by rfl) W.heap.size (by rfl) 116 tab (0, 0) _ HT.out Tryz.underlying116 (by rfl) (by kernel_rfl) ?_
    have hix := idx_tab
    generalize Value.agg tab = TV at hix ⊢
    clear HT
    go_wp2_with fail
    go_loopw [26] (fun i wr => ∃ j : Nat, j ≤ 16 ∧ i = .int .i64 j ∧ Hid (∀ j', j' < j → ((row j').1 == k && (row j').2.1 == bs s) = false) ∧ Hid (Below W.heap.size W wr)) (fun i _ => 16 - (intOf i).toNat)
    case atStart => exact ⟨0, by omega, rfl, hide (fun j' hj => by omega), HB⟩
    case round =>
      obtain ⟨j, hj, rfl, HA, HB⟩ := hrel
      by_cases hlt : j < 16
      · have hx := hix j hlt
        clear hix
        obtain ⟨⟨r1, r2, r3⟩, hr⟩ : ∃ r, row j = r := ⟨_, rfl⟩
        have HY := hide (opL_yes (k := k) (s := bs s) HA.out hlt)
        have HN := hide (all_no (k := k) (s := bs s) HA.out)
        rw [hr] at hx HY HN
        simp only at hx HY HN
        clear hr HA
        cases h1 : ((r1 : Int) == (k : Int)) with
        | false =>
          have h0 : (r1 == k) = false := by simp at h1 ⊢; omega
          rw [h0] at HN
          rename_i wr
          have HB2 := hide (bel HB.out (bel1 wr (.cells #[.int .i64 r1, .string (sB r2), .int .i64 r3] 115)))
          go_wp2_with fail
          go_roundw
          case rel => exact ⟨j + 1, by omega, by go_num, hide (HN.out rfl), HB2⟩
          case measure => simp [intOf]; omega
        | true =>
          have h0 : (r1 == k) = true := by simp at h1 ⊢; omega
          rw [h0] at HN HY
          rename_i wr
          have HB2 := hide (bel HB.out (bel1 wr (.cells #[.int .i64 r1, .string (sB r2), .int .i64 r3] 115)))
          by_cases h2 : r2 = bs s
          · have HY2 := hide (HY.out (by simp [h2]))
            rw [h2, sB_bs] at hx HB2
            clear HN HY h2
            go_wp2_with fail
            go_ret
            exact ⟨ret_int HY2.out.symm, HB2.out⟩
          · have HN2 := hide (HN.out (by simpa using h2))
            have hq : ((sB r2).toList == s.toList) = false := text_ne (s := sB r2) (t := s) h2
            generalize sB r2 = u at hx HB2 hq
            clear HN HY h2
            go_wp2_with fail
            go_roundw
            case rel => exact ⟨j + 1, by omega, by go_num, HN2, HB2⟩
            case measure => simp [intOf]; omega
      · obtain rfl : j = 16 := by omega
        clear hix
        go_wp2_with fail
        go_ret
        exact ⟨ret_int (by rw [opL_no HA.out]), HB.out⟩

end Go.Proofs.YtodgjjkpbcadoaaGreatDoor

/-
  Tokens and their texts: which mark, word or number a token is.
-/
namespace Go.Proofs.YtodgjjkpbcadoaaGreatDoor
open Go.RowKit Go.IntWalk Lx Pz
set_option linter.unusedVariables false

/-- The marks that the reader asks for by their text. -/
def mkB (s : Txt) : Bool := (marks.map (·.1)).contains s
theorem wrd_head {s : Txt} (h : wrd s = true) : mkB s = false ∧ s ≠ [] := by
  cases s with
  | nil => simp [wrd] at h
  | cons c r =>
    refine ⟨?_, by simp⟩
    have hA : A c = true := by simp [wrd] at h; exact h.1.2
    have := A_not hA
    have h' : 97 ≤ (c.toNat : Int) ∧ (c.toNat : Int) ≤ 122 := by simpa [A, lt] using hA
    cases hm : mkB (c :: r) with
    | false => rfl
    | true =>
      have : (c :: r) ∈ marks.map (·.1) := by simpa [mkB] using hm
      simp only [marks, List.map_cons, List.map_nil, List.mem_cons, List.not_mem_nil, or_false, List.cons.injEq] at this
      have hc : c = 43 ∨ c = 45 ∨ c = 42 ∨ c = 47 ∨ c = 37 ∨ c = 40 ∨ c = 41 ∨ c = 44 ∨ c = 59 ∨ c = 61 ∨ c = 63 ∨ c = 58 ∨ c = 60 ∨ c = 62 ∨ c = 38 ∨ c = 124 ∨ c = 94 ∨ c = 33 := by
        rcases this with h | h | h | h | h | h | h | h | h | h | h | h | h | h | h | h | h | h | h | h | h | h | h <;> simp [h.1]
      rcases hc with rfl | rfl | rfl | rfl | rfl | rfl | rfl | rfl | rfl | rfl | rfl | rfl | rfl | rfl | rfl | rfl | rfl | rfl <;> simp at h'
theorem num_head {s : Txt} (h : num s = true) : mkB s = false ∧ s ≠ [] := by
  cases s with
  | nil => simp [num] at h
  | cons c r =>
    refine ⟨?_, by simp⟩
    have hA : D c = true := by simp [num] at h; exact h.1.1.1
    have h' : 48 ≤ (c.toNat : Int) ∧ (c.toNat : Int) ≤ 57 := by simpa [D, dg] using hA
    cases hm : mkB (c :: r) with
    | false => rfl
    | true =>
      have : (c :: r) ∈ marks.map (·.1) := by simpa [mkB] using hm
      simp only [marks, List.map_cons, List.map_nil, List.mem_cons, List.not_mem_nil, or_false, List.cons.injEq] at this
      have hc : c = 43 ∨ c = 45 ∨ c = 42 ∨ c = 47 ∨ c = 37 ∨ c = 40 ∨ c = 41 ∨ c = 44 ∨ c = 59 ∨ c = 61 ∨ c = 63 ∨ c = 58 ∨ c = 60 ∨ c = 62 ∨ c = 38 ∨ c = 124 ∨ c = 94 ∨ c = 33 := by
        rcases this with h | h | h | h | h | h | h | h | h | h | h | h | h | h | h | h | h | h | h | h | h | h | h <;> simp [h.1]
      rcases hc with rfl | rfl | rfl | rfl | rfl | rfl | rfl | rfl | rfl | rfl | rfl | rfl | rfl | rfl | rfl | rfl | rfl | rfl <;> simp at h'

theorem ab_num {t : Tok} (h : t.kind = 1) : ab t = .num (vl t.text) := by unfold ab; rw [if_pos h]
theorem ab_word {t : Tok} (h : t.kind = 2) : ab t = .word t.text := by unfold ab; rw [if_neg (by omega), if_pos h]
theorem ab_mark {t : Tok} (h : t.kind = 3) : ab t = mkT t.text := by unfold ab; rw [if_neg (by omega), if_neg (by omega)]
theorem mk_not {s : Txt} (h : s ∈ marks.map (·.1)) : (∀ v, mkT s ≠ .num v) ∧ (∀ w, mkT s ≠ .word w) := by
  simp only [marks, List.map_cons, List.map_nil, List.mem_cons, List.not_mem_nil, or_false] at h
  rcases h with rfl | rfl | rfl | rfl | rfl | rfl | rfl | rfl | rfl | rfl | rfl | rfl | rfl | rfl | rfl | rfl | rfl | rfl | rfl | rfl | rfl | rfl | rfl <;> exact ⟨fun _ => by simp [mkT, marks], fun _ => by simp [mkT, marks]⟩
theorem mk_inj {s t : Txt} (hs : s ∈ marks.map (·.1)) (ht : t ∈ marks.map (·.1)) (h : mkT s = mkT t) : s = t := by
  have key : ∀ a ∈ marks.map (·.1), ∀ b ∈ marks.map (·.1), mkT a = mkT b → a = b := by decide
  exact key s hs t ht h

/-- A token has a mark's text just where it is that mark. -/
theorem text_iff {t : Tok} (h : Wf t) {s : Txt} (hs : s ∈ marks.map (·.1)) : t.text = s ↔ ab t = mkT s := by
  have hb : mkB s = true := by simpa [mkB] using hs
  rcases h with ⟨hk, hn⟩ | ⟨hk, hn⟩ | ⟨hk, hn⟩
  · constructor
    · intro e; rw [e] at hn; rw [(num_head hn).1] at hb; cases hb
    · intro e; rw [ab_num hk] at e; exact absurd e.symm ((mk_not hs).1 _)
  · constructor
    · intro e; rw [e] at hn; rw [(wrd_head hn).1] at hb; cases hb
    · intro e; rw [ab_word hk] at e; exact absurd e.symm ((mk_not hs).2 _)
  · rw [ab_mark hk]
    exact ⟨fun e => by rw [e], fun e => mk_inj hn hs e⟩
/-- A token has a word's text just where it is that word. -/
theorem word_iff {t : Tok} (h : Wf t) {s : Txt} (hs : wrd s = true) : t.text = s ↔ ab t = .word s := by
  rcases h with ⟨hk, hn⟩ | ⟨hk, hn⟩ | ⟨hk, hn⟩
  · constructor
    · intro e
      rw [e] at hn
      cases s with
      | nil => simp [wrd] at hs
      | cons c r =>
        have hA : A c = true := by simp [wrd] at hs; exact hs.1.2
        have hD : D c = true := by simp [num] at hn; exact hn.1.1.1
        rw [(A_not hA).2.2.1] at hD; cases hD
    · intro e; rw [ab_num hk] at e; cases e
  · rw [ab_word hk]; exact ⟨fun e => by rw [e], fun e => by cases e; rfl⟩
  · constructor
    · intro e; rw [e] at hn; have : mkB s = true := by simpa [mkB] using hn
      rw [(wrd_head hs).1] at this; cases this
    · intro e; rw [ab_mark hk] at e; exact absurd e ((mk_not hn).2 _)
theorem kind1 {t : Tok} (h : Wf t) {v : Int} (e : ab t = .num v) : t.kind = 1 ∧ num t.text = true ∧ vl t.text = v := by
  rcases h with ⟨hk, hn⟩ | ⟨hk, hn⟩ | ⟨hk, hn⟩
  · rw [ab_num hk] at e; cases e; exact ⟨hk, hn, rfl⟩
  · rw [ab_word hk] at e; cases e
  · rw [ab_mark hk] at e; exact absurd e ((mk_not hn).1 _)
theorem kind2 {t : Tok} (h : Wf t) {s : Txt} (e : ab t = .word s) : t.kind = 2 ∧ wrd t.text = true ∧ t.text = s := by
  rcases h with ⟨hk, hn⟩ | ⟨hk, hn⟩ | ⟨hk, hn⟩
  · rw [ab_num hk] at e; cases e
  · rw [ab_word hk] at e; cases e; exact ⟨hk, hn, rfl⟩
  · rw [ab_mark hk] at e; exact absurd e ((mk_not hn).2 _)
theorem kind3 {t : Tok} (h : Wf t) (h1 : ∀ v, ab t ≠ .num v) (h2 : ∀ s, ab t ≠ .word s) : t.kind = 3 := by
  rcases h with ⟨hk, hn⟩ | ⟨hk, hn⟩ | ⟨hk, hn⟩
  · exact absurd (ab_num hk) (h1 _)
  · exact absurd (ab_word hk) (h2 _)
  · exact hk
theorem num_no_mark {t : Tok} (h : Wf t) (h1 : ∀ v, ab t ≠ .num v) : num t.text = false := by
  rcases h with ⟨hk, hn⟩ | ⟨hk, hn⟩ | ⟨hk, hn⟩
  · exact absurd (ab_num hk) (h1 _)
  · cases hs : num t.text with
    | false => rfl
    | true =>
      cases ht : t.text with
      | nil => rw [ht] at hs; simp [num] at hs
      | cons c r =>
        rw [ht] at hs hn
        have hA : A c = true := by simp [wrd] at hn; exact hn.1.2
        have hD : D c = true := by simp [num] at hs; exact hs.1.1.1
        rw [(A_not hA).2.2.1] at hD; cases hD
  · cases hs : num t.text with
    | false => rfl
    | true => have : mkB t.text = true := by simpa [mkB] using hn
              rw [(num_head hs).1] at this; cases this

/-- The operator of a token at a level. -/
theorem opL_mark (k : Nat) {s : Txt} (hs : s ∈ marks.map (·.1)) : (opL k s = 0 ∧ ∀ o, mkT s ≠ .op k o) ∨ (opL k s ≠ 0 ∧ mkT s = .op k (opL k s)) := by
  by_cases hk : k < 7
  · rcases (show k = 0 ∨ k = 1 ∨ k = 2 ∨ k = 3 ∨ k = 4 ∨ k = 5 ∨ k = 6 by omega) with rfl | rfl | rfl | rfl | rfl | rfl | rfl <;>
    · simp only [marks, List.map_cons, List.map_nil, List.mem_cons, List.not_mem_nil, or_false] at hs
      rcases hs with rfl | rfl | rfl | rfl | rfl | rfl | rfl | rfl | rfl | rfl | rfl | rfl | rfl | rfl | rfl | rfl | rfl | rfl | rfl | rfl | rfl | rfl | rfl <;> first
      | exact .inl ⟨by decide, fun o => by simp [mkT, marks]⟩
      | exact .inr ⟨by decide, by decide⟩
  · left
    constructor
    · unfold opL
      have : rows.find? (fun r => r.1 == k && r.2.1 == s) = none := by
        rw [List.find?_eq_none]
        intro r hr
        have : r.1 < 7 := by
          have key : ∀ r ∈ rows, r.1 < 7 := by decide
          exact key r hr
        simp
        intro e; omega
      rw [this]; rfl
    · intro o e
      have key : ∀ a ∈ marks.map (·.1), ∀ k o, mkT a = .op k o → k < 7 := by
        intro a ha k o
        simp only [marks, List.map_cons, List.map_nil, List.mem_cons, List.not_mem_nil, or_false] at ha
        rcases ha with rfl | rfl | rfl | rfl | rfl | rfl | rfl | rfl | rfl | rfl | rfl | rfl | rfl | rfl | rfl | rfl | rfl | rfl | rfl | rfl | rfl | rfl | rfl <;> simp [mkT, marks] <;> omega
      have := key s hs k o e
      omega
theorem opL_none {k : Nat} {s : Txt} (h : mkB s = false) : opL k s = 0 := by
  unfold opL
  have : rows.find? (fun r => r.1 == k && r.2.1 == s) = none := by
    rw [List.find?_eq_none]
    intro r hr
    have key : ∀ r ∈ rows, mkB r.2.1 = true := by decide
    simp only [Bool.and_eq_true, beq_iff_eq, not_and]
    intro _ e
    have := key r hr
    rw [e, h] at this; cases this
  rw [this]; rfl
theorem opL_tok (k : Nat) {t : Tok} (h : Wf t) : (opL k t.text = 0 ∧ ∀ o, ab t ≠ .op k o) ∨ (opL k t.text ≠ 0 ∧ ab t = .op k (opL k t.text)) := by
  rcases h with ⟨hk, hn⟩ | ⟨hk, hn⟩ | ⟨hk, hn⟩
  · exact .inl ⟨opL_none (num_head hn).1, fun o => by rw [ab_num hk]; simp⟩
  · exact .inl ⟨opL_none (wrd_head hn).1, fun o => by rw [ab_word hk]; simp⟩
  · rw [ab_mark hk]; exact opL_mark k hn

/- the head of a list of tokens -/
theorem hd_ne {T : List Tok} (hw : ∀ t ∈ T, Wf t) {s : Txt} (hs : s ∈ marks.map (·.1)) (h : (T.map ab).head? ≠ some (mkT s)) : (hd T).text ≠ s := by
  cases T with
  | nil =>
    intro e
    have key : ∀ a ∈ marks.map (·.1), a ≠ [] := by decide
    exact key s hs e.symm
  | cons t T =>
    intro e
    exact h (by simp [(text_iff (hw t (by simp)) hs).1 e])
theorem hd_eq {T : List Tok} (hw : ∀ t ∈ T, Wf t) {s : Txt} (hs : s ∈ marks.map (·.1)) {r : List Tk} (h : T.map ab = mkT s :: r) : ∃ t T', T = t :: T' ∧ t.text = s ∧ T'.map ab = r := by
  cases T with
  | nil => simp at h
  | cons t T =>
    simp only [List.map_cons, List.cons.injEq] at h
    exact ⟨t, T, rfl, (text_iff (hw t (by simp)) hs).2 h.1, h.2⟩

end Go.Proofs.YtodgjjkpbcadoaaGreatDoor

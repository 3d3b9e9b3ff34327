/-
  operator: the operator that a mark is at a level.
-/
import Derived.Test.YtamekjocchekoaaSm
import Derived.Deep.CutRange
import Derived.Great.Walk
namespace Go.Proofs.Ytamekjocchekoaa
open Go.RowKit Go.IntWalk Lx Pz
set_option linter.unusedVariables false

def rows : List (Nat × Txt × Int) := [(0, [124], 16), (1, [94], 17), (2, [38], 15), (3, [60], 18), (3, [60, 61], 19), (3, [62], 20), (3, [62, 61], 21), (3, [61, 61], 22), (3, [33, 61], 23), (4, [60, 60], 13), (4, [62, 62], 14), (5, [43], 8), (5, [45], 9), (6, [42], 10), (6, [47], 11), (6, [37], 12)]
def opL (k : Nat) (s : Txt) : Int := ((rows.find? fun r => r.1 == k && r.2.1 == s).map (·.2.2)).getD 0
def row (i : Nat) : Nat × Txt × Int := rows.getD i (0, [], 0)
def tab : Array Value := #[.int .i64 0, .string ⟨#[124]⟩, .int .i64 16, .int .i64 1, .string ⟨#[94]⟩, .int .i64 17, .int .i64 2, .string ⟨#[38]⟩, .int .i64 15, .int .i64 3, .string ⟨#[60]⟩, .int .i64 18, .int .i64 3, .string ⟨#[60, 61]⟩, .int .i64 19, .int .i64 3, .string ⟨#[62]⟩, .int .i64 20, .int .i64 3, .string ⟨#[62, 61]⟩, .int .i64 21, .int .i64 3, .string ⟨#[61, 61]⟩, .int .i64 22, .int .i64 3, .string ⟨#[33, 61]⟩, .int .i64 23, .int .i64 4, .string ⟨#[60, 60]⟩, .int .i64 13, .int .i64 4, .string ⟨#[62, 62]⟩, .int .i64 14, .int .i64 5, .string ⟨#[43]⟩, .int .i64 8, .int .i64 5, .string ⟨#[45]⟩, .int .i64 9, .int .i64 6, .string ⟨#[42]⟩, .int .i64 10, .int .i64 6, .string ⟨#[47]⟩, .int .i64 11, .int .i64 6, .string ⟨#[37]⟩, .int .i64 12]
abbrev zer : Array Value := #[.int .i64 0, .string ⟨#[]⟩, .int .i64 0, .int .i64 0, .string ⟨#[]⟩, .int .i64 0, .int .i64 0, .string ⟨#[]⟩, .int .i64 0, .int .i64 0, .string ⟨#[]⟩, .int .i64 0, .int .i64 0, .string ⟨#[]⟩, .int .i64 0, .int .i64 0, .string ⟨#[]⟩, .int .i64 0, .int .i64 0, .string ⟨#[]⟩, .int .i64 0, .int .i64 0, .string ⟨#[]⟩, .int .i64 0, .int .i64 0, .string ⟨#[]⟩, .int .i64 0, .int .i64 0, .string ⟨#[]⟩, .int .i64 0, .int .i64 0, .string ⟨#[]⟩, .int .i64 0, .int .i64 0, .string ⟨#[]⟩, .int .i64 0, .int .i64 0, .string ⟨#[]⟩, .int .i64 0, .int .i64 0, .string ⟨#[]⟩, .int .i64 0, .int .i64 0, .string ⟨#[]⟩, .int .i64 0, .int .i64 0, .string ⟨#[]⟩, .int .i64 0]
theorem idx_tab (i : Nat) (hi : i < 16) (w : World) : (Instr.index 107 (.agg tab) (.int .i64 i)).run Try.prog w = .ok (.agg #[.int .i64 (row i).1, .string (sB (row i).2.1), .int .i64 (row i).2.2]) w := by
  rcases (show i = 0 ∨ i = 1 ∨ i = 2 ∨ i = 3 ∨ i = 4 ∨ i = 5 ∨ i = 6 ∨ i = 7 ∨ i = 8 ∨ i = 9 ∨ i = 10 ∨ i = 11 ∨ i = 12 ∨ i = 13 ∨ i = 14 ∨ i = 15 by omega) with rfl | rfl | rfl | rfl | rfl | rfl | rfl | rfl | rfl | rfl | rfl | rfl | rfl | rfl | rfl | rfl <;> simp [Instr.index, go_sem, row, rows, tab]

theorem opL_yes {k : Nat} {s : Txt} {i : Nat} (h : ∀ j, j < i → ((row j).1 == k && (row j).2.1 == s) = false) (hi : i < 16) (he : ((row i).1 == k && (row i).2.1 == s) = true) : opL k s = (row i).2.2 := by
  have hlen : rows.length = 16 := rfl
  have hr : ∀ j (hj : j < 16), row j = rows[j]'(by rw [hlen]; exact hj) := fun j hj => by unfold row; rw [List.getD_eq_getElem?_getD, List.getElem?_eq_getElem (by rw [hlen]; exact hj)]; rfl
  have : rows.find? (fun r => r.1 == k && r.2.1 == s) = some (row i) := by
    rw [List.find?_eq_some_iff_getElem]
    refine ⟨he, i, by rw [hlen]; exact hi, (hr i hi).symm, fun j hj => ?_⟩
    have := h j hj
    rw [hr j (by omega)] at this
    rw [this]
    rfl
  unfold opL
  rw [this]
  rfl
theorem opL_no {k : Nat} {s : Txt} (h : ∀ j, j < 16 → ((row j).1 == k && (row j).2.1 == s) = false) : opL k s = 0 := by
  have hlen : rows.length = 16 := rfl
  have : rows.find? (fun r => r.1 == k && r.2.1 == s) = none := by
    rw [List.find?_eq_none]
    intro r hr
    obtain ⟨j, hj, rfl⟩ := List.getElem_of_mem hr
    have := h j (by rw [hlen] at hj; exact hj)
    unfold row at this
    rw [List.getD_eq_getElem?_getD, List.getElem?_eq_getElem hj] at this
    simpa using this
  unfold opL
  rw [this]
  rfl
theorem all_no {k : Nat} {s : Txt} {i : Nat} (h : ∀ j, j < i → ((row j).1 == k && (row j).2.1 == s) = false) (he : ((row i).1 == k && (row i).2.1 == s) = false) : ∀ j, j < i + 1 → ((row j).1 == k && (row j).2.1 == s) = false := by
  intro j hj
  rcases Nat.lt_succ_iff_lt_or_eq.1 hj with h1 | rfl
  · exact h j h1
  · exact he

theorem bel_row {B g : Nat} {w0 w : World} (hb : Below B w0 w) (h : B ≤ g) (cs : Array Value) : Below B w0 (w.setRow g cs) :=
  ⟨hb.os, hb.tape, hb.output, by rw [size_setRow]; exact hb.size, fun k hk => (setRow_other w g k cs (by omega)).trans (hb.block k hk)⟩

set_option maxRecDepth 100000 in
set_option maxHeartbeats 4000000 in
theorem operator_any (k : Nat) (s : ByteArray) (W : World) :
    Calls Try.prog 79 #[.int .i64 k, .string s] W fun e W' => e = .returned (.int .i64 (opL k (bs s))) ∧ Below W.heap.size W W' := by
  go_enter Try.func79, Try.ntmps79
  go_upto_region 1 with fail
  go_cut [5] from 8 to 24 (fun p wc => p = .pointer (some ⟨W.heap.size, 0, none⟩) ∧ Hid (HasC wc W.heap.size 107 tab) ∧ Hid (Below W.heap.size W wc))
  case first =>
    refine wp_region_lit ?_
    iterate 16 refine wpList_build (by rfl) 106 _ (by rfl) (by kernel_rfl) ?_
    refine wpList_build (by rfl) 107 _ (by rfl) (by kernel_rfl) ?_
    refine Go.Great.wpList_allocTo (by rfl) (some 5) (by rfl) (.pointer (some ⟨W.heap.size, 0, none⟩)) (.cells zer 107) (by kernel_rfl) ?_
    refine wpList_store_row (by rfl) 107 _ _ (by rfl) W.heap.size tab (by kernel_rfl) (by kernel_rfl) 107 zer (heap_alloc_new W _) (by kernel_rfl) (by kernel_rfl) (by kernel_rfl) ?_
    refine wpList_nil ?_
    rename_i J K' hJ hK
    refine hK _ _ (hJ _ _ ?_)
    simp only [Act.put, List.setIfInBounds_toArray, List.set_cons_zero, List.set_cons_succ]
    exact ⟨_, _, _, _, _, _, _, _, _, _, _, _, _, _, _, _, _, _, ⟨rfl, hide (setRow_heap _ _ zer tab 107 (0, 0) (heap_alloc_new W _)), hide (bel_row (bel1 W _) (Nat.le_refl _) tab)⟩, rfl⟩
  case rest =>
    obtain ⟨rfl, HT, HB⟩ := hcut
    go_upto_region 2 with fail
    refine wp_region_lit ?_
    refine wpList_load_row (by rfl) 107 _ (by rfl) W.heap.size (by rfl) 107 tab (0, 0) _ HT.out Try.underlying107 (by rfl) (by kernel_rfl) ?_
    have hix := idx_tab
    generalize Value.agg tab = TV at hix ⊢
    clear HT
    go_wp2_with fail
    go_loopw [26] (fun i wr => ∃ j : Nat, j ≤ 16 ∧ i = .int .i64 j ∧ Hid (∀ j', j' < j → ((row j').1 == k && (row j').2.1 == bs s) = false) ∧ Hid (Below W.heap.size W wr)) (fun i _ => 16 - (intOf i).toNat)
    case atStart => exact ⟨0, by omega, rfl, hide (fun j' hj => by omega), HB⟩
    case round =>
      obtain ⟨j, hj, rfl, HA, HB⟩ := hrel
      by_cases hlt : j < 16
      · have hx := hix j hlt
        clear hix
        obtain ⟨⟨r1, r2, r3⟩, hr⟩ : ∃ r, row j = r := ⟨_, rfl⟩
        have HY := hide (opL_yes (k := k) (s := bs s) HA.out hlt)
        have HN := hide (all_no (k := k) (s := bs s) HA.out)
        rw [hr] at hx HY HN
        simp only at hx HY HN
        clear hr HA
        cases h1 : ((r1 : Int) == (k : Int)) with
        | false =>
          have h0 : (r1 == k) = false := by simp at h1 ⊢; omega
          rw [h0] at HN
          rename_i wr
          have HB2 := hide (bel HB.out (bel1 wr (.cells #[.int .i64 r1, .string (sB r2), .int .i64 r3] 106)))
          go_wp2_with fail
          go_roundw
          case rel => exact ⟨j + 1, by omega, by go_num, hide (HN.out rfl), HB2⟩
          case measure => simp [intOf]; omega
        | true =>
          have h0 : (r1 == k) = true := by simp at h1 ⊢; omega
          rw [h0] at HN HY
          rename_i wr
          have HB2 := hide (bel HB.out (bel1 wr (.cells #[.int .i64 r1, .string (sB r2), .int .i64 r3] 106)))
          by_cases h2 : r2 = bs s
          · have HY2 := hide (HY.out (by simp [h2]))
            rw [h2, sB_bs] at hx HB2
            clear HN HY h2
            go_wp2_with fail
            go_ret
            exact ⟨ret_int HY2.out.symm, HB2.out⟩
          · have HN2 := hide (HN.out (by simpa using h2))
            have hq : ((sB r2).toList == s.toList) = false := text_ne (s := sB r2) (t := s) h2
            generalize sB r2 = u at hx HB2 hq
            clear HN HY h2
            go_wp2_with fail
            go_roundw
            case rel => exact ⟨j + 1, by omega, by go_num, HN2, HB2⟩
            case measure => simp [intOf]; omega
      · obtain rfl : j = 16 := by omega
        clear hix
        go_wp2_with fail
        go_ret
        exact ⟨ret_int (by rw [opL_no HA.out]), HB.out⟩

end Go.Proofs.Ytamekjocchekoaa

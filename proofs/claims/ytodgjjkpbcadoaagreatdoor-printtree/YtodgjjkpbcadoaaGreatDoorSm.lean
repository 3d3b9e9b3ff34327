/-
  Small functions of package parse and of what it calls: words, operators, places in a list of texts.
-/
import Derived.Test.YtodgjjkpbcadoaaGreatDoorRdRn
import Derived.Deep.QuietTactic
import Derived.BigQuiet
namespace Go.Proofs.YtodgjjkpbcadoaaGreatDoor
open Go.RowKit Go.IntWalk Lx Pz
set_option linter.unusedVariables false

theorem eq_of_bs {s : ByteArray} {l : List UInt8} (h : bs s = l) : s = sB l := by rw [← h, sB_bs]
theorem ne_bs {s : ByteArray} {l : List UInt8} (h : ¬ bs s = l) : (s.toList == l) = false := by rw [toList_bs]; simpa using h

set_option maxRecDepth 100000 in
set_option maxHeartbeats 2000000 in
theorem called_any (s : ByteArray) (W : World) : Calls Tryz.prog 64 #[.string s] W fun e W' => e = .returned (.int .i64 (calO (bs s))) ∧ W' = W := by
  by_cases h0 : bs s = [97, 98, 115]
  · obtain rfl := eq_of_bs h0
    rw [show calO (bs (sB [97, 98, 115])) = 6 by decide]
    go_enter Tryz.func64, Tryz.ntmps64
    go_wp2
    go_ret
    exact ⟨rfl, rfl⟩
  by_cases h1 : bs s = [115, 103, 110]
  · obtain rfl := eq_of_bs h1
    rw [show calO (bs (sB [115, 103, 110])) = 7 by decide]
    go_enter Tryz.func64, Tryz.ntmps64
    go_wp2
    go_ret
    exact ⟨rfl, rfl⟩
  by_cases h2 : bs s = [109, 105, 110]
  · obtain rfl := eq_of_bs h2
    rw [show calO (bs (sB [109, 105, 110])) = 24 by decide]
    go_enter Tryz.func64, Tryz.ntmps64
    go_wp2
    go_ret
    exact ⟨rfl, rfl⟩
  by_cases h3 : bs s = [109, 97, 120]
  · obtain rfl := eq_of_bs h3
    rw [show calO (bs (sB [109, 97, 120])) = 25 by decide]
    go_enter Tryz.func64, Tryz.ntmps64
    go_wp2
    go_ret
    exact ⟨rfl, rfl⟩
  by_cases h4 : bs s = [99, 108, 97, 109, 112]
  · obtain rfl := eq_of_bs h4
    rw [show calO (bs (sB [99, 108, 97, 109, 112])) = 26 by decide]
    go_enter Tryz.func64, Tryz.ntmps64
    go_wp2
    go_ret
    exact ⟨rfl, rfl⟩
  by_cases h5 : bs s = [109, 101, 100]
  · obtain rfl := eq_of_bs h5
    rw [show calO (bs (sB [109, 101, 100])) = 27 by decide]
    go_enter Tryz.func64, Tryz.ntmps64
    go_wp2
    go_ret
    exact ⟨rfl, rfl⟩
  rw [show calO (bs s) = 0 by unfold calO; rw [if_neg h0, if_neg h1, if_neg h2, if_neg h3, if_neg h4, if_neg h5]]
  have k0 := ne_bs h0
  have k1 := ne_bs h1
  have k2 := ne_bs h2
  have k3 := ne_bs h3
  have k4 := ne_bs h4
  have k5 := ne_bs h5
  clear h0 h1 h2 h3 h4 h5
  go_enter Tryz.func64, Tryz.ntmps64
  go_wp2
  go_ret
  exact ⟨rfl, rfl⟩

set_option maxRecDepth 100000 in
set_option maxHeartbeats 2000000 in
theorem input_any (s : ByteArray) (W : World) : Calls Tryz.prog 65 #[.string s] W fun e W' => e = .returned (.int .i64 (inK (bs s))) ∧ W' = W := by
  by_cases h0 : bs s = [120]
  · obtain rfl := eq_of_bs h0
    rw [show inK (bs (sB [120])) = 0 by decide]
    go_enter Tryz.func65, Tryz.ntmps65
    go_wp2
    go_ret
    exact ⟨rfl, rfl⟩
  by_cases h1 : bs s = [121]
  · obtain rfl := eq_of_bs h1
    rw [show inK (bs (sB [121])) = 1 by decide]
    go_enter Tryz.func65, Tryz.ntmps65
    go_wp2
    go_ret
    exact ⟨rfl, rfl⟩
  by_cases h2 : bs s = [99]
  · obtain rfl := eq_of_bs h2
    rw [show inK (bs (sB [99])) = 2 by decide]
    go_enter Tryz.func65, Tryz.ntmps65
    go_wp2
    go_ret
    exact ⟨rfl, rfl⟩
  by_cases h3 : bs s = [108, 111]
  · obtain rfl := eq_of_bs h3
    rw [show inK (bs (sB [108, 111])) = 3 by decide]
    go_enter Tryz.func65, Tryz.ntmps65
    go_wp2
    go_ret
    exact ⟨rfl, rfl⟩
  by_cases h4 : bs s = [104, 105]
  · obtain rfl := eq_of_bs h4
    rw [show inK (bs (sB [104, 105])) = 4 by decide]
    go_enter Tryz.func65, Tryz.ntmps65
    go_wp2
    go_ret
    exact ⟨rfl, rfl⟩
  by_cases h5 : bs s = [109, 105, 100]
  · obtain rfl := eq_of_bs h5
    rw [show inK (bs (sB [109, 105, 100])) = 5 by decide]
    go_enter Tryz.func65, Tryz.ntmps65
    go_wp2
    go_ret
    exact ⟨rfl, rfl⟩
  rw [show inK (bs s) = -1 by unfold inK; rw [if_neg h0, if_neg h1, if_neg h2, if_neg h3, if_neg h4, if_neg h5]]
  have k0 := ne_bs h0
  have k1 := ne_bs h1
  have k2 := ne_bs h2
  have k3 := ne_bs h3
  have k4 := ne_bs h4
  have k5 := ne_bs h5
  clear h0 h1 h2 h3 h4 h5
  go_enter Tryz.func65, Tryz.ntmps65
  go_wp2
  go_ret
  exact ⟨rfl, rfl⟩

set_option maxRecDepth 100000 in
set_option maxHeartbeats 2000000 in
theorem reserved_any (s : ByteArray) (W : World) : Calls Tryz.prog 41 #[.string s] W fun e W' => e = .returned (.bool (resv (bs s))) ∧ W' = W := by
  by_cases h0 : bs s = [108, 101, 116]
  · obtain rfl := eq_of_bs h0
    rw [show resv (bs (sB [108, 101, 116])) = true by decide]
    go_enter Tryz.func41, Tryz.ntmps41
    go_wp2
    go_ret
    exact ⟨rfl, rfl⟩
  by_cases h1 : bs s = [112]
  · obtain rfl := eq_of_bs h1
    rw [show resv (bs (sB [112])) = true by decide]
    go_enter Tryz.func41, Tryz.ntmps41
    go_wp2
    go_ret
    exact ⟨rfl, rfl⟩
  by_cases h2 : bs s = [113]
  · obtain rfl := eq_of_bs h2
    rw [show resv (bs (sB [113])) = true by decide]
    go_enter Tryz.func41, Tryz.ntmps41
    go_wp2
    go_ret
    exact ⟨rfl, rfl⟩
  have k0 := ne_bs h0
  have k1 := ne_bs h1
  have k2 := ne_bs h2
  have hr : resv (bs s) = (calO (bs s) != 0 || decide (0 ≤ inK (bs s))) := by
    unfold resv
    rw [show (bs s == wLet) = false by simpa [wLet] using h0, show (bs s == wP) = false by simpa [wP] using h1, show (bs s == wQ) = false by simpa [wQ] using h2]
    rfl
  have HC := hide fun W => called_any s W
  have HI := hide fun W => input_any s W
  rw [hr]
  generalize calO (bs s) = c at *
  generalize inK (bs s) = i at *
  clear hr h0 h1 h2
  cases h : (c != 0) with
  | true =>
    rw [Bool.true_or]
    go_enter Tryz.func41, Tryz.ntmps41
    go_wp2_with fail
    refine (HC.out _).mono ?_
    rintro e W1 ⟨rfl, rfl⟩
    go_wp2_with fail
    go_ret
    exact ⟨rfl, rfl⟩
  | false =>
    rw [Bool.false_or]
    go_enter Tryz.func41, Tryz.ntmps41
    go_wp2_with fail
    refine (HC.out _).mono ?_
    rintro e W1 ⟨rfl, rfl⟩
    go_wp2_with fail
    refine (HI.out _).mono ?_
    rintro e W1 ⟨rfl, rfl⟩
    go_wp2_with fail
    go_ret
    exact ⟨rfl, rfl⟩

/-- How many parts an operator has; -1: it is none. -/
def arZ (op : Int) : Int :=
  if op = 1 ∨ op = 2 ∨ op = 3 then 0 else if 5 ≤ op ∧ op ≤ 7 then 1 else if 29 ≤ op ∧ op ≤ 33 then 1 else if 8 ≤ op ∧ op ≤ 25 then 2 else if 26 ≤ op ∧ op ≤ 28 then 3 else -1

def wthn (x a b : Int) : Bool := decide (a ≤ x) && decide (x ≤ b)
set_option maxHeartbeats 1000000 in
theorem awithin_any (x a b : Int) (W : World) : Calls Tryz.prog 77 #[.int .i64 x, .int .i64 a, .int .i64 b] W fun e W' => e = .returned (.bool (wthn x a b)) ∧ W' = W := by
  by_cases h : a ≤ x
  · rw [show wthn x a b = decide (x ≤ b) by simp [wthn, h]]
    go_enter Tryz.func77, Tryz.ntmps77
    go_wp2
    go_ret
    exact ⟨rfl, rfl⟩
  · rw [show wthn x a b = false by simp [wthn]; omega]
    go_enter Tryz.func77, Tryz.ntmps77
    go_wp2
    go_ret
    exact ⟨rfl, rfl⟩

theorem arZ_of {op : Int} (h1 : (op == 1) = false) (h2 : (op == 2) = false) (h3 : (op == 3) = false) : arZ op = if wthn op 5 7 then 1 else if wthn op 29 33 then 1 else if wthn op 8 25 then 2 else if wthn op 26 28 then 3 else -1 := by
  have e1 : ¬ op = 1 := by simpa using h1
  have e2 : ¬ op = 2 := by simpa using h2
  have e3 : ¬ op = 3 := by simpa using h3
  unfold arZ wthn
  simp [e1, e2, e3]
set_option maxHeartbeats 2000000 in
theorem arity_any (op : Int) (W : World) : Calls Tryz.prog 58 #[.int .i64 op] W fun e W' => e = .returned (.int .i64 (arZ op)) ∧ W' = W := by
  by_cases h : op = 1 ∨ op = 2 ∨ op = 3
  · rcases h with rfl | rfl | rfl <;>
    · rw [show arZ _ = 0 by decide]
      go_enter Tryz.func58, Tryz.ntmps58
      go_wp2
      go_ret
      exact ⟨rfl, rfl⟩
  · have h1 : (op == 1) = false := by simp; omega
    have h2 : (op == 2) = false := by simp; omega
    have h3 : (op == 3) = false := by simp; omega
    rw [arZ_of h1 h2 h3]
    clear h
    have H1 := hide fun W => awithin_any op 5 7 W
    have H2 := hide fun W => awithin_any op 29 33 W
    have H3 := hide fun W => awithin_any op 8 25 W
    have H4 := hide fun W => awithin_any op 26 28 W
    generalize wthn op 5 7 = b1 at *
    generalize wthn op 29 33 = b2 at *
    generalize wthn op 8 25 = b3 at *
    generalize wthn op 26 28 = b4 at *
    cases b1 with
    | true =>
      rw [if_pos rfl]
      go_enter Tryz.func58, Tryz.ntmps58
      go_wp2_with fail
      refine (H1.out _).mono ?_
      rintro e W1 ⟨rfl, rfl⟩
      go_wp2_with fail
      go_ret
      exact ⟨rfl, rfl⟩
    | false =>
      rw [if_neg (by decide)]
      cases b2 with
      | true =>
        rw [if_pos rfl]
        go_enter Tryz.func58, Tryz.ntmps58
        go_wp2_with fail
        refine (H1.out _).mono ?_
        rintro e W1 ⟨rfl, rfl⟩
        go_wp2_with fail
        refine (H2.out _).mono ?_
        rintro e W1 ⟨rfl, rfl⟩
        go_wp2_with fail
        go_ret
        exact ⟨rfl, rfl⟩
      | false =>
        rw [if_neg (by decide)]
        cases b3 with
        | true =>
          rw [if_pos rfl]
          go_enter Tryz.func58, Tryz.ntmps58
          go_wp2_with fail
          refine (H1.out _).mono ?_
          rintro e W1 ⟨rfl, rfl⟩
          go_wp2_with fail
          refine (H2.out _).mono ?_
          rintro e W1 ⟨rfl, rfl⟩
          go_wp2_with fail
          refine (H3.out _).mono ?_
          rintro e W1 ⟨rfl, rfl⟩
          go_wp2_with fail
          go_ret
          exact ⟨rfl, rfl⟩
        | false =>
          rw [if_neg (by decide)]
          cases b4 with
          | true =>
            rw [if_pos rfl]
            go_enter Tryz.func58, Tryz.ntmps58
            go_wp2_with fail
            refine (H1.out _).mono ?_
            rintro e W1 ⟨rfl, rfl⟩
            go_wp2_with fail
            refine (H2.out _).mono ?_
            rintro e W1 ⟨rfl, rfl⟩
            go_wp2_with fail
            refine (H3.out _).mono ?_
            rintro e W1 ⟨rfl, rfl⟩
            go_wp2_with fail
            refine (H4.out _).mono ?_
            rintro e W1 ⟨rfl, rfl⟩
            go_wp2_with fail
            go_ret
            exact ⟨rfl, rfl⟩
          | false =>
            rw [if_neg (by decide)]
            go_enter Tryz.func58, Tryz.ntmps58
            go_wp2_with fail
            refine (H1.out _).mono ?_
            rintro e W1 ⟨rfl, rfl⟩
            go_wp2_with fail
            refine (H2.out _).mono ?_
            rintro e W1 ⟨rfl, rfl⟩
            go_wp2_with fail
            refine (H3.out _).mono ?_
            rintro e W1 ⟨rfl, rfl⟩
            go_wp2_with fail
            refine (H4.out _).mono ?_
            rintro e W1 ⟨rfl, rfl⟩
            go_wp2_with fail
            go_ret
            exact ⟨rfl, rfl⟩

/-- Where a text stands in a list; -1. -/
def ixZ (L : List Txt) (s : Txt) : Int := if L.contains s then (pos L s : Int) else -1
theorem ixZ_yes {L : List Txt} {s : Txt} {i : Nat} (h : ∀ j, j < i → L.getD j [] ≠ s) (hi : i < L.length) (he : L.getD i [] = s) : ixZ L s = i := by
  have hm : L[i] = s := by rw [List.getD_eq_getElem?_getD, List.getElem?_eq_getElem hi] at he; simpa using he
  unfold ixZ
  rw [if_pos (by simp only [List.contains_iff_mem]; rw [← hm]; exact List.getElem_mem hi)]
  have : pos L s = i := by
    unfold pos
    rw [List.findIdx_eq hi]
    refine ⟨by simpa using hm, fun j hj => ?_⟩
    have := h j hj
    rw [List.getD_eq_getElem?_getD, List.getElem?_eq_getElem (by omega)] at this
    simpa using this
  rw [this]
theorem ixZ_no {L : List Txt} {s : Txt} (h : ∀ j, j < L.length → L.getD j [] ≠ s) : ixZ L s = -1 := by
  unfold ixZ
  rw [if_neg]
  intro hc
  simp only [List.contains_iff_mem] at hc
  obtain ⟨j, hj, he⟩ := List.getElem_of_mem hc
  exact h j hj (by rw [List.getD_eq_getElem?_getD, List.getElem?_eq_getElem hj]; simpa using he)
theorem ixZ_nonneg (L : List Txt) (s : Txt) : decide (0 ≤ ixZ L s) = L.contains s := by
  unfold ixZ
  cases h : L.contains s <;> simp

theorem all_ne {L : List Txt} {s : Txt} {k : Nat} (h : ∀ j, j < k → L.getD j [] ≠ s) (h' : ¬ L.getD k [] = s) : ∀ j, j < k + 1 → L.getD j [] ≠ s := by
  intro j hj
  rcases Nat.lt_succ_iff_lt_or_eq.1 hj with h1 | rfl
  · exact h j h1
  · exact h'

/-- The slice reads as these texts. -/
structure Tx (W : World) (a : Option Addr) (n cap : Nat) (L : List Txt) : Prop where
  len : L.length = n
  le : n ≤ cap
  max : cap ≤ maxLen
  cell : n = 0 ∨ ∃ b off, a = some ⟨b, off, none⟩ ∧ ∀ i, i < n → W.cell? ⟨b, off + i, none⟩ = some (.string (sB (L.getD i [])))
theorem Tx.of_owns {W : World} {base : Nat} {v : Value} {n : Nat} {L : List Txt} (h : W.ownsRow base 9 1 v n (tx64 L)) : ∃ a cap, v = .slice a n cap ∧ Tx W a n cap L := by
  have hl : L.length = n := by have := h.1; simpa using this
  have hcs := fun g hg => h.cells (g := g) hg
  rcases h.2 with ⟨rfl, rfl⟩ | ⟨g, cap, cur, rfl, hb, hg, hnc, hcm, hsz, htake⟩
  · exact ⟨none, 0, rfl, ⟨hl, Nat.le_refl _, Nat.zero_le _, .inl rfl⟩⟩
  · refine ⟨some ⟨g, 0, none⟩, cap, rfl, ⟨hl, hnc, hcm, .inr ⟨g, 0, rfl, fun i hi => ?_⟩⟩⟩
    have := hcs g rfl i (.string (sB (L.getD i []))) (by rw [List.getElem?_map, List.getD_eq_getElem?_getD, List.getElem?_eq_getElem (by omega)]; rfl)
    rwa [Addr.add_lit] at this

set_option maxRecDepth 100000 in
set_option maxHeartbeats 2000000 in
theorem index_any {W : World} {a : Option Addr} {n cap : Nat} {L : List Txt} (h : Tx W a n cap L) (s : ByteArray) :
    Calls Tryz.prog 84 #[.slice a n cap, .string s] W fun e W' => e = .returned (.int .i64 (ixZ L (bs s))) ∧ W' = W := by
  have HT := hide h
  have hn : n ≤ 9223372036854775807 := by have := h.le; have := h.max; unfold maxLen at *; omega
  have hl := hide h.len
  clear h
  go_enter Tryz.func84, Tryz.ntmps84
  go_wp2
  go_loop [5, 8] (fun _ i => ∃ k : Nat, k ≤ n ∧ i = .int .i64 k ∧ Hid (∀ j, j < k → L.getD j [] ≠ bs s)) (fun _ i => n - (intOf i).toNat)
  case atStart => exact ⟨0, Nat.zero_le _, rfl, hide (fun j hj => by omega)⟩
  case round =>
    obtain ⟨k, hk, rfl, HA⟩ := hrel
    by_cases hlt : k < n
    · obtain ⟨b, off, rfl, hc⟩ : ∃ b off, a = some ⟨b, off, none⟩ ∧ W.cell? ⟨b, off + k, none⟩ = some (.string (sB (L.getD k []))) := by
        rcases HT.out.cell with h0 | ⟨b, off, ha, hc⟩
        · omega
        · exact ⟨b, off, ha, hc k hlt⟩
      have hi0 : (0 : Int) ≤ k := by omega
      have hi1 : (k : Int) < n := by omega
      by_cases he : L.getD k [] = bs s
      · rw [he, sB_bs] at hc
        have he := hide he
        go_wp2
        go_ret
        exact ⟨ret_int (by rw [ixZ_yes HA.out (by rw [hl.out]; exact hlt) he.out]), rfl⟩
      · have hq : (s.toList == (sB (L.getD k [])).toList) = false := by
          rw [toList_bs, toList_bs]; simp only [beq_eq_false_iff_ne, ne_eq]; intro e; exact he e.symm
        have he := hide he
        generalize sB (L.getD k []) = u at hc hq
        go_wp2
        go_round
        case rel => exact ⟨k + 1, by omega, by go_num, hide (all_ne HA.out he.out)⟩
        case measure => simp [intOf]; omega
    · go_wp2
      go_ret
      exact ⟨ret_int (by rw [ixZ_no (fun j hj => HA.out j (by rw [hl.out] at hj; omega))]), rfl⟩

set_option maxRecDepth 100000 in
set_option maxHeartbeats 1000000 in
theorem contains_any {W : World} {a : Option Addr} {n cap : Nat} {L : List Txt} (h : Tx W a n cap L) (s : ByteArray) :
    Calls Tryz.prog 73 #[.slice a n cap, .string s] W fun e W' => e = .returned (.bool (L.contains (bs s))) ∧ W' = W := by
  have HI := hide (index_any h s)
  have hz := ixZ_nonneg L (bs s)
  generalize ixZ L (bs s) = z at *
  clear h
  rw [← hz]
  clear hz
  go_enter Tryz.func73, Tryz.ntmps73
  go_wp2_with fail
  refine HI.out.mono ?_
  rintro e W1 ⟨rfl, rfl⟩
  go_wp2_with fail
  go_ret
  exact ⟨rfl, rfl⟩

end Go.Proofs.YtodgjjkpbcadoaaGreatDoor

/-
  The small functions of package fold: exchanged, Through, is, first, bound.
-/
import Derived.Test.YtbingoelpeoimaaGreatMFA
namespace Go.Proofs.Fld
open Go.RowKit Go.IntWalk YtbingoelpeoimaaGreat.Knd
open Cde (In i0 ia kd cd Ins at6 six_of has_new1)
set_option linter.unusedVariables false

set_option maxHeartbeats 2000000 in
theorem fex_any (r : Int) {a : Option Addr} {n cap : Nat} {T : List Int} {W : World} (hT : Ints W a n cap T) :
    Calls Tryz.prog 43 #[.int .i64 r, .slice a n cap] W fun e W' => e = .returned (.int .i64 (exR T r)) ∧ W' = W := by
  have hl := hT.len
  have hs : n ≤ 9223372036854775807 := by have := hT.le; have := hT.max; unfold maxLen at this; omega
  by_cases h0 : r < 0
  · rw [show exR T r = r from if_pos (.inl h0)]
    go_enter Tryz.func43, Tryz.ntmps43
    go_wp2_with fail
    go_ret
    exact ⟨rfl, rfl⟩
  by_cases h1 : (T.length : Int) ≤ r
  · rw [show exR T r = r from if_pos (.inr h1)]
    have q0 : decide (r < 0) = false := by simpa using h0
    have q1 : decide ((n : Int) ≤ r) = true := by simp; omega
    go_enter Tryz.func43, Tryz.ntmps43
    go_wp2_with fail
    go_ret
    exact ⟨rfl, rfl⟩
  · rw [show exR T r = T.getD r.toNat 0 from if_neg (by omega)]
    obtain ⟨k, rfl⟩ : ∃ k : Nat, r = k := ⟨r.toNat, by omega⟩
    have hk : k < n := by omega
    obtain ⟨b, off, rfl, -, hc⟩ := hT.at (by omega)
    have c0 := hc k hk
    have q0 : decide ((k : Int) < 0) = false := by simp
    have q1 : decide ((n : Int) ≤ (k : Int)) = false := by simp; omega
    have q2 : decide (n ≤ k) = false := by simp; omega
    have i0' : (0 : Int) ≤ k := by omega
    have i1' : (k : Int) < n := by omega
    rw [Int.toNat_natCast]
    generalize T.getD k 0 = z at *
    clear hc hl h0 h1
    go_enter Tryz.func43, Tryz.ntmps43
    go_wp2_with fail
    go_ret
    exact ⟨rfl, rfl⟩

/-- Lines of the table in memory. -/
abbrev lnA (L : List (Bool × Int)) : Array Value := (L.flatMap fun p => [Value.bool p.1, .int .i64 p.2]).toArray
theorem lnA_get : ∀ (L : List (Bool × Int)) (i : Nat), i < L.length → (lnA L)[i * 2]? = some (.bool (L.getD i (false, 0)).1) ∧ (lnA L)[i * 2 + 1]? = some (.int .i64 (L.getD i (false, 0)).2)
  | [], i, h => by simp at h
  | p :: L, 0, h => by simp [lnA]
  | p :: L, i + 1, h => by
    have := lnA_get L i (by simpa using h)
    simp only [lnA, List.flatMap_cons, List.getElem?_toArray] at this ⊢
    rw [List.getElem?_append_right (by simp; omega), List.getElem?_append_right (by simp; omega)]
    simp only [List.length_cons, List.length_nil]
    rw [show (i + 1) * 2 - (0 + 1 + 1) = i * 2 by omega, show (i + 1) * 2 + 1 - (0 + 1 + 1) = i * 2 + 1 by omega]
    simpa using this
theorem fs_drop (own : Int) (L : List (Bool × Int)) {k : Nat} (h : k < L.length) : fsZ own (L.drop k) = if (L.getD k (false, 0)).1 = true then (L.getD k (false, 0)).2 else fsZ own (L.drop (k + 1)) := by
  rw [List.drop_eq_getElem_cons h, fsZ, List.getD_eq_getElem?_getD, List.getElem?_eq_getElem h]
  rfl

theorem th_0 {n : In} {T : List Int} (h : ¬ 0 < ar n.op) : thI n T = n := by
  unfold thI
  rw [if_neg h, if_neg (by omega), if_neg (by omega)]
theorem th_1 {n : In} {T : List Int} (h : ar n.op = 1) : thI n T = ⟨n.op, exR T n.a, n.b, n.c, n.k, n.s⟩ := by
  unfold thI
  rw [h]; rfl
theorem th_2 {n : In} {T : List Int} (h : ar n.op = 2) : thI n T = ⟨n.op, exR T n.a, exR T n.b, n.c, n.k, n.s⟩ := by
  unfold thI
  rw [h]; rfl
theorem th_3 {n : In} {T : List Int} (h : ar n.op = 3) : thI n T = ⟨n.op, exR T n.a, exR T n.b, exR T n.c, n.k, n.s⟩ := by
  unfold thI
  rw [h]; rfl

set_option maxRecDepth 100000 in
set_option maxHeartbeats 4000000 in
theorem fthrough_any (n : In) {a : Option Addr} {m cap : Nat} {T : List Int} {W : World} (hT : Ints W a m cap T) :
    Calls Tryz.prog 27 #[.agg (ia n), .slice a m cap] W fun e W' => e = .returned (.agg (ia (thI n T))) ∧ Below W.heap.size W W' := by
  have HA := hide fun W => YtbingoelpeoimaaGreat.Spn.arity_any n.op W
  have hb2 := bel (bel1 W (.cells (ia n) 44)) (bel1 (W.alloc (.cells (ia n) 44)) (.cells (ia i0) 44))
  have HE := hide fun V r (h : Below W.heap.size W V) => fex_any r (hT.later h)
  have HB0 := hide hb2
  rcases Cde.ar_five n.op with h | h | h | h | h
  · rw [th_0 (by rw [ar, h]; decide)]
    rw [h] at HA
    clear h
    go_enter Tryz.func27, Tryz.ntmps27
    go_wp2_with (first
      | (go_at_call 35; refine (HA.out _).mono ?_; rintro e w' ⟨rfl, rfl⟩)
      | (go_at_call 43; refine (HE.out _ _ (by first | exact bel (bel1 W _) (bel1 _ _) | exact bel ((bel1 W _).setCell (by simp) _) (bel1 _ _) | exact bel (((bel1 W _).setCell (by simp) _).setCell (by simp) _) (bel1 _ _))).mono ?_; rintro e w' ⟨rfl, rfl⟩))
    exact bodyPost_ret (v := .agg (ia _)) (by simp [results, Tryz.results27, go_sem]) rfl ⟨rfl, by first | exact bel (bel1 W _) (bel1 _ _) | exact bel ((bel1 W _).setCell (by simp) _) (bel1 _ _) | exact bel (((bel1 W _).setCell (by simp) _).setCell (by simp) _) (bel1 _ _) | exact bel ((((bel1 W _).setCell (by simp) _).setCell (by simp) _).setCell (by simp) _) (bel1 _ _)⟩
  · rw [th_0 (by rw [ar, h]; decide)]
    rw [h] at HA
    clear h
    go_enter Tryz.func27, Tryz.ntmps27
    go_wp2_with (first
      | (go_at_call 35; refine (HA.out _).mono ?_; rintro e w' ⟨rfl, rfl⟩)
      | (go_at_call 43; refine (HE.out _ _ (by first | exact bel (bel1 W _) (bel1 _ _) | exact bel ((bel1 W _).setCell (by simp) _) (bel1 _ _) | exact bel (((bel1 W _).setCell (by simp) _).setCell (by simp) _) (bel1 _ _))).mono ?_; rintro e w' ⟨rfl, rfl⟩))
    exact bodyPost_ret (v := .agg (ia _)) (by simp [results, Tryz.results27, go_sem]) rfl ⟨rfl, by first | exact bel (bel1 W _) (bel1 _ _) | exact bel ((bel1 W _).setCell (by simp) _) (bel1 _ _) | exact bel (((bel1 W _).setCell (by simp) _).setCell (by simp) _) (bel1 _ _) | exact bel ((((bel1 W _).setCell (by simp) _).setCell (by simp) _).setCell (by simp) _) (bel1 _ _)⟩
  · rw [th_1 h]
    rw [h] at HA
    clear h
    go_enter Tryz.func27, Tryz.ntmps27
    go_wp2_with (first
      | (go_at_call 35; refine (HA.out _).mono ?_; rintro e w' ⟨rfl, rfl⟩)
      | (go_at_call 43; refine (HE.out _ _ (by first | exact bel (bel1 W _) (bel1 _ _) | exact bel ((bel1 W _).setCell (by simp) _) (bel1 _ _) | exact bel (((bel1 W _).setCell (by simp) _).setCell (by simp) _) (bel1 _ _))).mono ?_; rintro e w' ⟨rfl, rfl⟩))
    exact bodyPost_ret (v := .agg (ia _)) (by simp [results, Tryz.results27, go_sem]) rfl ⟨rfl, by first | exact bel (bel1 W _) (bel1 _ _) | exact bel ((bel1 W _).setCell (by simp) _) (bel1 _ _) | exact bel (((bel1 W _).setCell (by simp) _).setCell (by simp) _) (bel1 _ _) | exact bel ((((bel1 W _).setCell (by simp) _).setCell (by simp) _).setCell (by simp) _) (bel1 _ _)⟩
  · rw [th_2 h]
    rw [h] at HA
    clear h
    go_enter Tryz.func27, Tryz.ntmps27
    go_wp2_with (first
      | (go_at_call 35; refine (HA.out _).mono ?_; rintro e w' ⟨rfl, rfl⟩)
      | (go_at_call 43; refine (HE.out _ _ (by first | exact bel (bel1 W _) (bel1 _ _) | exact bel ((bel1 W _).setCell (by simp) _) (bel1 _ _) | exact bel (((bel1 W _).setCell (by simp) _).setCell (by simp) _) (bel1 _ _))).mono ?_; rintro e w' ⟨rfl, rfl⟩))
    exact bodyPost_ret (v := .agg (ia _)) (by simp [results, Tryz.results27, go_sem]) rfl ⟨rfl, by first | exact bel (bel1 W _) (bel1 _ _) | exact bel ((bel1 W _).setCell (by simp) _) (bel1 _ _) | exact bel (((bel1 W _).setCell (by simp) _).setCell (by simp) _) (bel1 _ _) | exact bel ((((bel1 W _).setCell (by simp) _).setCell (by simp) _).setCell (by simp) _) (bel1 _ _)⟩
  · rw [th_3 h]
    rw [h] at HA
    clear h
    go_enter Tryz.func27, Tryz.ntmps27
    go_wp2_with (first
      | (go_at_call 35; refine (HA.out _).mono ?_; rintro e w' ⟨rfl, rfl⟩)
      | (go_at_call 43; refine (HE.out _ _ (by first | exact bel (bel1 W _) (bel1 _ _) | exact bel ((bel1 W _).setCell (by simp) _) (bel1 _ _) | exact bel (((bel1 W _).setCell (by simp) _).setCell (by simp) _) (bel1 _ _))).mono ?_; rintro e w' ⟨rfl, rfl⟩))
    exact bodyPost_ret (v := .agg (ia _)) (by simp [results, Tryz.results27, go_sem]) rfl ⟨rfl, by first | exact bel (bel1 W _) (bel1 _ _) | exact bel ((bel1 W _).setCell (by simp) _) (bel1 _ _) | exact bel (((bel1 W _).setCell (by simp) _).setCell (by simp) _) (bel1 _ _) | exact bel ((((bel1 W _).setCell (by simp) _).setCell (by simp) _).setCell (by simp) _) (bel1 _ _)⟩

end Go.Proofs.Fld

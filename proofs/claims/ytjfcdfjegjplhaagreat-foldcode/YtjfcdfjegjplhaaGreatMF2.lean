/-
  The small functions of package fold: exchanged, Through, is, first, bound.
-/
import Derived.Test.YtjfcdfjegjplhaaGreatMFA
namespace Go.Proofs.Fld
open Go.RowKit Go.IntWalk YtjfcdfjegjplhaaGreat.Knd
open Cde (In i0 ia kd cd Ins at6 six_of has_new1)
set_option linter.unusedVariables false

set_option maxHeartbeats 2000000 in
theorem fex_any (r : Int) {a : Option Addr} {n cap : Nat} {T : List Int} {W : World} (hT : Ints W a n cap T) :
    Calls Tryz.prog 50 #[.int .i64 r, .slice a n cap] W fun e W' => e = .returned (.int .i64 (exR T r)) ∧ W' = W := by
  have hl := hT.len
  have hs : n ≤ 9223372036854775807 := by have := hT.le; have := hT.max; unfold maxLen at this; omega
  by_cases h0 : r < 0
  · rw [show exR T r = r from if_pos (.inl h0)]
    go_enter Tryz.func50, Tryz.ntmps50
    go_wp2_with fail
    go_ret
    exact ⟨rfl, rfl⟩
  by_cases h1 : (T.length : Int) ≤ r
  · rw [show exR T r = r from if_pos (.inr h1)]
    have q0 : decide (r < 0) = false := by simpa using h0
    have q1 : decide ((n : Int) ≤ r) = true := by simp; omega
    go_enter Tryz.func50, Tryz.ntmps50
    go_wp2_with fail
    go_ret
    exact ⟨rfl, rfl⟩
  · rw [show exR T r = T.getD r.toNat 0 from if_neg (by omega)]
    obtain ⟨k, rfl⟩ : ∃ k : Nat, r = k := ⟨r.toNat, by omega⟩
    have hk : k < n := by omega
    obtain ⟨b, off, rfl, -, hc⟩ := hT.at (by omega)
    have c0 := hc k hk
    have q0 : decide ((k : Int) < 0) = false := by simp
    have q1 : decide ((n : Int) ≤ (k : Int)) = false := by simp; omega
    have q2 : decide (n ≤ k) = false := by simp; omega
    have i0' : (0 : Int) ≤ k := by omega
    have i1' : (k : Int) < n := by omega
    rw [Int.toNat_natCast]
    generalize T.getD k 0 = z at *
    clear hc hl h0 h1
    go_enter Tryz.func50, Tryz.ntmps50
    go_wp2_with fail
    go_ret
    exact ⟨rfl, rfl⟩

set_option maxRecDepth 100000 in
set_option maxHeartbeats 4000000 in
theorem fis_core (k : Int) {b off n cap j : Nat} {m : In} {W : World} (hj : j < n) (c0 : W.cell? ⟨b, off + j * 6, none⟩ = some (.int .i64 m.op)) (c4 : W.cell? ⟨b, off + j * 6 + 4, none⟩ = some (.int .i64 m.k)) (hs : n ≤ 9223372036854775807) :
    Calls Tryz.prog 55 #[.slice (some ⟨b, off, none⟩) n cap, .int .i64 (j : Int), .int .i64 k] W fun e W' => e = .returned (.bool (m.op == 1 && m.k == k)) ∧ W' = W := by
  have i0' : (0 : Int) ≤ j := by omega
  have i1' : (j : Int) < n := by omega
  by_cases h1 : m.op = 1
  · have q1 : (m.op == 1) = true := by simpa using h1
    rw [q1]
    clear h1
    go_enter Tryz.func55, Tryz.ntmps55
    go_wp2_with fail
    go_ret
    exact ⟨by simp, rfl⟩
  · have q1 : (m.op == 1) = false := by simpa using h1
    rw [q1]
    clear h1
    go_enter Tryz.func55, Tryz.ntmps55
    go_wp2_with fail
    go_ret
    exact ⟨rfl, rfl⟩
theorem fis_any (r k : Int) {a : Option Addr} {n cap : Nat} {M : List In} {W : World} (hM : Ins W a n cap M) (hr : In1 r n) :
    Calls Tryz.prog 55 #[.slice a n cap, .int .i64 r, .int .i64 k] W fun e W' => e = .returned (.bool (isN M r k)) ∧ W' = W := by
  have hs := hM.short
  obtain ⟨j, rfl⟩ : ∃ k : Nat, r = k := ⟨r.toNat, by have := hr.1; omega⟩
  have hj : j < n := by have := hr.2; omega
  obtain ⟨b, off, rfl, -, hc⟩ := hM.at (by omega)
  obtain ⟨c0, -, -, -, c4, -⟩ := hc j hj
  unfold isN rg
  rw [Int.toNat_natCast]
  exact fis_core k hj c0 c4 hs

/-- Lines of the table in memory. -/
abbrev lnA (L : List (Bool × Int)) : Array Value := (L.flatMap fun p => [Value.bool p.1, .int .i64 p.2]).toArray
theorem lnA_get : ∀ (L : List (Bool × Int)) (i : Nat), i < L.length → (lnA L)[i * 2]? = some (.bool (L.getD i (false, 0)).1) ∧ (lnA L)[i * 2 + 1]? = some (.int .i64 (L.getD i (false, 0)).2)
  | [], i, h => by simp at h
  | p :: L, 0, h => by simp [lnA]
  | p :: L, i + 1, h => by
    have := lnA_get L i (by simpa using h)
    simp only [lnA, List.flatMap_cons, List.getElem?_toArray] at this ⊢
    rw [List.getElem?_append_right (by simp; omega), List.getElem?_append_right (by simp; omega)]
    simp only [List.length_cons, List.length_nil]
    rw [show (i + 1) * 2 - (0 + 1 + 1) = i * 2 by omega, show (i + 1) * 2 + 1 - (0 + 1 + 1) = i * 2 + 1 by omega]
    simpa using this
theorem fs_drop (own : Int) (L : List (Bool × Int)) {k : Nat} (h : k < L.length) : fsZ own (L.drop k) = if (L.getD k (false, 0)).1 = true then (L.getD k (false, 0)).2 else fsZ own (L.drop (k + 1)) := by
  rw [List.drop_eq_getElem_cons h, fsZ, List.getD_eq_getElem?_getD, List.getElem?_eq_getElem h]
  rfl

set_option maxRecDepth 100000 in
set_option maxHeartbeats 4000000 in
theorem ffirst_any (own : Int) {g n : Nat} {L : List (Bool × Int)} {W : World} (hL : HasC W g 88 (lnA L)) (hn : L.length = n) (h3 : n ≤ 3) :
    Calls Tryz.prog 54 #[.int .i64 own, .slice (some ⟨g, 0, none⟩) n n] W fun e W' => e = .returned (.int .i64 (fsZ own L)) ∧ Below W.heap.size W W' := by
  have HL := hide hL
  have HN := hide hn
  have HG := hide fun i h => lnA_get L i h
  have HD := hide fun k h => fs_drop own L (k := k) h
  have H0 : Hid (fsZ own (L.drop 0) = fsZ own L) := hide rfl
  generalize fsZ own L = z at *
  clear hL hn
  go_enter Tryz.func54, Tryz.ntmps54
  go_wp2_with fail
  go_loopw [9] (fun i wr => ∃ k : Nat, k ≤ n ∧ i = .int .i64 k ∧ Hid (fsZ own (L.drop k) = z) ∧ Hid (Below W.heap.size W wr)) (fun i _ => n - (intOf i).toNat)
  case atStart => exact ⟨0, Nat.zero_le _, rfl, hide H0.out, hide (Below.refl _ _)⟩
  case round =>
    obtain ⟨k, hk, rfl, HZ, HB⟩ := hrel
    rename World => V
    clear H0
    by_cases hlt : k < n
    · obtain ⟨g0, g1⟩ := HG.out k (by rw [HN.out]; exact hlt)
      have hc := HL.out.below HB.out
      have c0 := hc.cell _ g0
      have c1 := hc.cell _ g1
      have hD := HD.out k (by rw [HN.out]; exact hlt)
      rw [HZ.out] at hD
      generalize L.getD k (false, 0) = p at *
      obtain ⟨pb, pr⟩ := p
      have HD2 := hide hD
      have i0' : (0 : Int) ≤ k := by omega
      have i1' : (k : Int) < n := by omega
      have HB2 := hide (bel HB.out (bel1 V (.cells #[.bool pb, .int .i64 pr] 88)))
      clear hc hD g0 g1
      cases pb
      · go_wp2_with fail
        go_roundw
        case rel => exact ⟨k + 1, by omega, by go_num, hide (by have := HD2.out; simpa using this.symm), HB2⟩
        case measure => simp [intOf]; omega
      · go_wp2_with fail
        go_ret
        exact ⟨ret_int (by have := HD2.out; simpa using this.symm), HB2.out⟩
    · obtain rfl : k = n := by omega
      have hZ := HZ.out
      rw [List.drop_of_length_le (by rw [HN.out]; exact Nat.le_refl _)] at hZ
      have HZ2 : Hid (own = z) := hide hZ
      clear hZ
      go_wp2_with fail
      go_ret
      exact ⟨ret_int HZ2.out, HB.out⟩

set_option maxRecDepth 100000 in
set_option maxHeartbeats 4000000 in
theorem fbound_any (f d : Int) (n : In) (W : World) :
    Calls Tryz.prog 51 #[.agg (kd f d), .agg (ia n)] W fun e W' => e = .returned (.tuple #[.int .i64 (bnZ f d n).1, .bool (bnZ f d n).2]) ∧ Below W.heap.size W W' := by
  have HL := hide fun W => YtjfcdfjegjplhaaGreat.Knd.low_any f d W
  have HH := hide fun W => YtjfcdfjegjplhaaGreat.Knd.high_any f d W
  have HO := hide fun W => YtjfcdfjegjplhaaGreat.Knd.border_any f d W
  have HB := hide (bel (bel1 W (.cells (kd f d) 23)) (bel1 (W.alloc (.cells (kd f d) 23)) (.cells (ia n) 39)))
  obtain ⟨op, a, b, c, k, s⟩ := n
  unfold bnZ
  dsimp only
  by_cases h2 : op = 2
  · subst h2
    rw [if_pos rfl]
    by_cases h3 : k = 3
    · subst h3
      rw [if_pos rfl]
      go_enter Tryz.func51, Tryz.ntmps51
      go_wp2_with fail
      refine (HL.out _).mono ?_
      rintro e V1 ⟨rfl, hb⟩
      go_wp2_with fail
      exact bodyPost_ret (v := .tuple #[.int .i64 (lowZ f d), .bool true]) (by simp [results, Tryz.results51, go_sem]) rfl ⟨rfl, bel HB.out hb⟩
    rw [if_neg h3]
    by_cases h4 : k = 4
    · subst h4
      rw [if_pos rfl]
      clear h3
      go_enter Tryz.func51, Tryz.ntmps51
      go_wp2_with fail
      refine (HH.out _).mono ?_
      rintro e V1 ⟨rfl, hb⟩
      go_wp2_with fail
      exact bodyPost_ret (v := .tuple #[.int .i64 (highZ f d), .bool true]) (by simp [results, Tryz.results51, go_sem]) rfl ⟨rfl, bel HB.out hb⟩
    rw [if_neg h4]
    by_cases h5 : k = 5
    · subst h5
      rw [if_pos rfl]
      clear h3 h4
      go_enter Tryz.func51, Tryz.ntmps51
      go_wp2_with fail
      refine (HO.out _).mono ?_
      rintro e V1 ⟨rfl, hb⟩
      go_wp2_with fail
      exact bodyPost_ret (v := .tuple #[.int .i64 (borderZ f d), .bool true]) (by simp [results, Tryz.results51, go_sem]) rfl ⟨rfl, bel HB.out hb⟩
    rw [if_neg h5]
    have q3 : (k == 3) = false := by simpa using h3
    have q4 : (k == 4) = false := by simpa using h4
    have q5 : (k == 5) = false := by simpa using h5
    clear h3 h4 h5
    go_enter Tryz.func51, Tryz.ntmps51
    go_wp2_with fail
    exact bodyPost_ret (v := .tuple #[.int .i64 0, .bool false]) (by simp [results, Tryz.results51, go_sem]) rfl ⟨rfl, HB.out⟩
  · rw [if_neg h2]
    have q2 : (op != 2) = true := by simpa using h2
    clear h2
    go_enter Tryz.func51, Tryz.ntmps51
    go_wp2_with fail
    exact bodyPost_ret (v := .tuple #[.int .i64 0, .bool false]) (by simp [results, Tryz.results51, go_sem]) rfl ⟨rfl, HB.out⟩

theorem th_0 {n : In} {T : List Int} (h : ¬ 0 < ar n.op) : thI n T = n := by
  unfold thI
  rw [if_neg h, if_neg (by omega), if_neg (by omega)]
theorem th_1 {n : In} {T : List Int} (h : ar n.op = 1) : thI n T = ⟨n.op, exR T n.a, n.b, n.c, n.k, n.s⟩ := by
  unfold thI
  rw [h]; rfl
theorem th_2 {n : In} {T : List Int} (h : ar n.op = 2) : thI n T = ⟨n.op, exR T n.a, exR T n.b, n.c, n.k, n.s⟩ := by
  unfold thI
  rw [h]; rfl
theorem th_3 {n : In} {T : List Int} (h : ar n.op = 3) : thI n T = ⟨n.op, exR T n.a, exR T n.b, exR T n.c, n.k, n.s⟩ := by
  unfold thI
  rw [h]; rfl

set_option maxRecDepth 100000 in
set_option maxHeartbeats 4000000 in
theorem fthrough_any (n : In) {a : Option Addr} {m cap : Nat} {T : List Int} {W : World} (hT : Ints W a m cap T) :
    Calls Tryz.prog 29 #[.agg (ia n), .slice a m cap] W fun e W' => e = .returned (.agg (ia (thI n T))) ∧ Below W.heap.size W W' := by
  have HA := hide fun W => YtjfcdfjegjplhaaGreat.Spn.arity_any n.op W
  have hb2 := bel (bel1 W (.cells (ia n) 39)) (bel1 (W.alloc (.cells (ia n) 39)) (.cells (ia i0) 39))
  have HE := hide fun V r (h : Below W.heap.size W V) => fex_any r (hT.later h)
  have HB0 := hide hb2
  rcases Cde.ar_five n.op with h | h | h | h | h
  · rw [th_0 (by rw [ar, h]; decide)]
    rw [h] at HA
    clear h
    go_enter Tryz.func29, Tryz.ntmps29
    go_wp2_with (first
      | (go_at_call 49; refine (HA.out _).mono ?_; rintro e w' ⟨rfl, rfl⟩)
      | (go_at_call 50; refine (HE.out _ _ (by first | exact bel (bel1 W _) (bel1 _ _) | exact bel ((bel1 W _).setCell (by simp) _) (bel1 _ _) | exact bel (((bel1 W _).setCell (by simp) _).setCell (by simp) _) (bel1 _ _))).mono ?_; rintro e w' ⟨rfl, rfl⟩))
    exact bodyPost_ret (v := .agg (ia _)) (by simp [results, Tryz.results29, go_sem]) rfl ⟨rfl, by first | exact bel (bel1 W _) (bel1 _ _) | exact bel ((bel1 W _).setCell (by simp) _) (bel1 _ _) | exact bel (((bel1 W _).setCell (by simp) _).setCell (by simp) _) (bel1 _ _) | exact bel ((((bel1 W _).setCell (by simp) _).setCell (by simp) _).setCell (by simp) _) (bel1 _ _)⟩
  · rw [th_0 (by rw [ar, h]; decide)]
    rw [h] at HA
    clear h
    go_enter Tryz.func29, Tryz.ntmps29
    go_wp2_with (first
      | (go_at_call 49; refine (HA.out _).mono ?_; rintro e w' ⟨rfl, rfl⟩)
      | (go_at_call 50; refine (HE.out _ _ (by first | exact bel (bel1 W _) (bel1 _ _) | exact bel ((bel1 W _).setCell (by simp) _) (bel1 _ _) | exact bel (((bel1 W _).setCell (by simp) _).setCell (by simp) _) (bel1 _ _))).mono ?_; rintro e w' ⟨rfl, rfl⟩))
    exact bodyPost_ret (v := .agg (ia _)) (by simp [results, Tryz.results29, go_sem]) rfl ⟨rfl, by first | exact bel (bel1 W _) (bel1 _ _) | exact bel ((bel1 W _).setCell (by simp) _) (bel1 _ _) | exact bel (((bel1 W _).setCell (by simp) _).setCell (by simp) _) (bel1 _ _) | exact bel ((((bel1 W _).setCell (by simp) _).setCell (by simp) _).setCell (by simp) _) (bel1 _ _)⟩
  · rw [th_1 h]
    rw [h] at HA
    clear h
    go_enter Tryz.func29, Tryz.ntmps29
    go_wp2_with (first
      | (go_at_call 49; refine (HA.out _).mono ?_; rintro e w' ⟨rfl, rfl⟩)
      | (go_at_call 50; refine (HE.out _ _ (by first | exact bel (bel1 W _) (bel1 _ _) | exact bel ((bel1 W _).setCell (by simp) _) (bel1 _ _) | exact bel (((bel1 W _).setCell (by simp) _).setCell (by simp) _) (bel1 _ _))).mono ?_; rintro e w' ⟨rfl, rfl⟩))
    exact bodyPost_ret (v := .agg (ia _)) (by simp [results, Tryz.results29, go_sem]) rfl ⟨rfl, by first | exact bel (bel1 W _) (bel1 _ _) | exact bel ((bel1 W _).setCell (by simp) _) (bel1 _ _) | exact bel (((bel1 W _).setCell (by simp) _).setCell (by simp) _) (bel1 _ _) | exact bel ((((bel1 W _).setCell (by simp) _).setCell (by simp) _).setCell (by simp) _) (bel1 _ _)⟩
  · rw [th_2 h]
    rw [h] at HA
    clear h
    go_enter Tryz.func29, Tryz.ntmps29
    go_wp2_with (first
      | (go_at_call 49; refine (HA.out _).mono ?_; rintro e w' ⟨rfl, rfl⟩)
      | (go_at_call 50; refine (HE.out _ _ (by first | exact bel (bel1 W _) (bel1 _ _) | exact bel ((bel1 W _).setCell (by simp) _) (bel1 _ _) | exact bel (((bel1 W _).setCell (by simp) _).setCell (by simp) _) (bel1 _ _))).mono ?_; rintro e w' ⟨rfl, rfl⟩))
    exact bodyPost_ret (v := .agg (ia _)) (by simp [results, Tryz.results29, go_sem]) rfl ⟨rfl, by first | exact bel (bel1 W _) (bel1 _ _) | exact bel ((bel1 W _).setCell (by simp) _) (bel1 _ _) | exact bel (((bel1 W _).setCell (by simp) _).setCell (by simp) _) (bel1 _ _) | exact bel ((((bel1 W _).setCell (by simp) _).setCell (by simp) _).setCell (by simp) _) (bel1 _ _)⟩
  · rw [th_3 h]
    rw [h] at HA
    clear h
    go_enter Tryz.func29, Tryz.ntmps29
    go_wp2_with (first
      | (go_at_call 49; refine (HA.out _).mono ?_; rintro e w' ⟨rfl, rfl⟩)
      | (go_at_call 50; refine (HE.out _ _ (by first | exact bel (bel1 W _) (bel1 _ _) | exact bel ((bel1 W _).setCell (by simp) _) (bel1 _ _) | exact bel (((bel1 W _).setCell (by simp) _).setCell (by simp) _) (bel1 _ _))).mono ?_; rintro e w' ⟨rfl, rfl⟩))
    exact bodyPost_ret (v := .agg (ia _)) (by simp [results, Tryz.results29, go_sem]) rfl ⟨rfl, by first | exact bel (bel1 W _) (bel1 _ _) | exact bel ((bel1 W _).setCell (by simp) _) (bel1 _ _) | exact bel (((bel1 W _).setCell (by simp) _).setCell (by simp) _) (bel1 _ _) | exact bel ((((bel1 W _).setCell (by simp) _).setCell (by simp) _).setCell (by simp) _) (bel1 _ _)⟩

end Go.Proofs.Fld

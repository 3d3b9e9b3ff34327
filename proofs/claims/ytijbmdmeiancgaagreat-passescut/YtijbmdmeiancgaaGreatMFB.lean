/-
  The small functions of package fold: exchanged, Through, is, first, bound.
-/
import Derived.Test.YtijbmdmeiancgaaGreatMFA
import Derived.Lib.QuietBelow
import Derived.BigQuiet
namespace Go.Proofs.Fld
open Go.RowKit Go.IntWalk YtijbmdmeiancgaaGreat.Knd
open Cde (In i0 ia kd cd Ins at6 six_of has_new1)
set_option linter.unusedVariables false

set_option maxHeartbeats 2000000 in
theorem fex_any (r : Int) {a : Option Addr} {n cap : Nat} {T : List Int} {W : World} (hT : Ints W a n cap T) :
    Calls Tryz.prog 155 #[.int .i64 r, .slice a n cap] W fun e W' => e = .returned (.int .i64 (exR T r)) ∧ W' = W := by
  have hl := hT.len
  have hs : n ≤ 9223372036854775807 := by have := hT.le; have := hT.max; unfold maxLen at this; omega
  by_cases h0 : r < 0
  · rw [show exR T r = r from if_pos (.inl h0)]
    go_enter Tryz.func155, Tryz.ntmps155
    go_wp2_with fail
    go_ret
    exact ⟨rfl, rfl⟩
  by_cases h1 : (T.length : Int) ≤ r
  · rw [show exR T r = r from if_pos (.inr h1)]
    have q0 : decide (r < 0) = false := by simpa using h0
    have q1 : decide ((n : Int) ≤ r) = true := by simp; omega
    go_enter Tryz.func155, Tryz.ntmps155
    go_wp2_with fail
    go_ret
    exact ⟨rfl, rfl⟩
  · rw [show exR T r = T.getD r.toNat 0 from if_neg (by omega)]
    obtain ⟨k, rfl⟩ : ∃ k : Nat, r = k := ⟨r.toNat, by omega⟩
    have hk : k < n := by omega
    obtain ⟨b, off, rfl, -, hc⟩ := hT.at (by omega)
    have c0 := hc k hk
    have q0 : decide ((k : Int) < 0) = false := by simp
    have q1 : decide ((n : Int) ≤ (k : Int)) = false := by simp; omega
    have q2 : decide (n ≤ k) = false := by simp; omega
    have i0' : (0 : Int) ≤ k := by omega
    have i1' : (k : Int) < n := by omega
    rw [Int.toNat_natCast]
    generalize T.getD k 0 = z at *
    clear hc hl h0 h1
    go_enter Tryz.func155, Tryz.ntmps155
    go_wp2_with fail
    go_ret
    exact ⟨rfl, rfl⟩

set_option maxRecDepth 100000 in
set_option maxHeartbeats 4000000 in
theorem fis_core (k : Int) {b off n cap j : Nat} {m : In} {W : World} (hj : j < n) (c0 : W.cell? ⟨b, off + j * 6, none⟩ = some (.int .i64 m.op)) (c4 : W.cell? ⟨b, off + j * 6 + 4, none⟩ = some (.int .i64 m.k)) (hs : n ≤ 9223372036854775807) :
    Calls Tryz.prog 160 #[.slice (some ⟨b, off, none⟩) n cap, .int .i64 (j : Int), .int .i64 k] W fun e W' => e = .returned (.bool (m.op == 1 && m.k == k)) ∧ W' = W := by
  have i0' : (0 : Int) ≤ j := by omega
  have i1' : (j : Int) < n := by omega
  by_cases h1 : m.op = 1
  · have q1 : (m.op == 1) = true := by simpa using h1
    rw [q1]
    clear h1
    go_enter Tryz.func160, Tryz.ntmps160
    go_wp2_with fail
    go_ret
    exact ⟨by simp, rfl⟩
  · have q1 : (m.op == 1) = false := by simpa using h1
    rw [q1]
    clear h1
    go_enter Tryz.func160, Tryz.ntmps160
    go_wp2_with fail
    go_ret
    exact ⟨rfl, rfl⟩
theorem fis_any (r k : Int) {a : Option Addr} {n cap : Nat} {M : List In} {W : World} (hM : Ins W a n cap M) (hr : In1 r n) :
    Calls Tryz.prog 160 #[.slice a n cap, .int .i64 r, .int .i64 k] W fun e W' => e = .returned (.bool (isN M r k)) ∧ W' = W := by
  have hs := hM.short
  obtain ⟨j, rfl⟩ : ∃ k : Nat, r = k := ⟨r.toNat, by have := hr.1; omega⟩
  have hj : j < n := by have := hr.2; omega
  obtain ⟨b, off, rfl, -, hc⟩ := hM.at (by omega)
  obtain ⟨c0, -, -, -, c4, -⟩ := hc j hj
  unfold isN rg
  rw [Int.toNat_natCast]
  exact fis_core k hj c0 c4 hs

/-- Lines of the table in memory. -/
abbrev lnA (L : List (Bool × Int)) : Array Value := (L.flatMap fun p => [Value.bool p.1, .int .i64 p.2]).toArray
theorem lnA_get : ∀ (L : List (Bool × Int)) (i : Nat), i < L.length → (lnA L)[i * 2]? = some (.bool (L.getD i (false, 0)).1) ∧ (lnA L)[i * 2 + 1]? = some (.int .i64 (L.getD i (false, 0)).2)
  | [], i, h => by simp at h
  | p :: L, 0, h => by simp [lnA]
  | p :: L, i + 1, h => by
    have := lnA_get L i (by simpa using h)
    simp only [lnA, List.flatMap_cons, List.getElem?_toArray] at this ⊢
    rw [List.getElem?_append_right (by simp; omega), List.getElem?_append_right (by simp; omega)]
    simp only [List.length_cons, List.length_nil]
    rw [show (i + 1) * 2 - (0 + 1 + 1) = i * 2 by omega, show (i + 1) * 2 + 1 - (0 + 1 + 1) = i * 2 + 1 by omega]
    simpa using this
theorem fs_drop (own : Int) (L : List (Bool × Int)) {k : Nat} (h : k < L.length) : fsZ own (L.drop k) = if (L.getD k (false, 0)).1 = true then (L.getD k (false, 0)).2 else fsZ own (L.drop (k + 1)) := by
  rw [List.drop_eq_getElem_cons h, fsZ, List.getD_eq_getElem?_getD, List.getElem?_eq_getElem h]
  rfl

set_option maxRecDepth 100000 in
set_option maxHeartbeats 4000000 in
theorem ffirst_any (own : Int) {g n : Nat} {L : List (Bool × Int)} {W : World} (hL : HasC W g 158 (lnA L)) (hn : L.length = n) (h3 : n ≤ 3) :
    Calls Tryz.prog 159 #[.int .i64 own, .slice (some ⟨g, 0, none⟩) n n] W fun e W' => e = .returned (.int .i64 (fsZ own L)) ∧ Below W.heap.size W W' := by
  have HL := hide hL
  have HN := hide hn
  have HG := hide fun i h => lnA_get L i h
  have HD := hide fun k h => fs_drop own L (k := k) h
  have H0 : Hid (fsZ own (L.drop 0) = fsZ own L) := hide rfl
  generalize fsZ own L = z at *
  clear hL hn
  go_enter Tryz.func159, Tryz.ntmps159
  go_wp2_with fail
  go_loopw [9] (fun i wr => ∃ k : Nat, k ≤ n ∧ i = .int .i64 k ∧ Hid (fsZ own (L.drop k) = z) ∧ Hid (Below W.heap.size W wr)) (fun i _ => n - (intOf i).toNat)
  case atStart => exact ⟨0, Nat.zero_le _, rfl, hide H0.out, hide (Below.refl _ _)⟩
  case round =>
    obtain ⟨k, hk, rfl, HZ, HB⟩ := hrel
    rename World => V
    clear H0
    by_cases hlt : k < n
    · obtain ⟨g0, g1⟩ := HG.out k (by rw [HN.out]; exact hlt)
      have hc := HL.out.below HB.out
      have c0 := hc.cell _ g0
      have c1 := hc.cell _ g1
      have hD := HD.out k (by rw [HN.out]; exact hlt)
      rw [HZ.out] at hD
      generalize L.getD k (false, 0) = p at *
      obtain ⟨pb, pr⟩ := p
      have HD2 := hide hD
      have i0' : (0 : Int) ≤ k := by omega
      have i1' : (k : Int) < n := by omega
      have HB2 := hide (bel HB.out (bel1 V (.cells #[.bool pb, .int .i64 pr] 158)))
      clear hc hD g0 g1
      cases pb
      · go_wp2_with fail
        go_roundw
        case rel => exact ⟨k + 1, by omega, by go_num, hide (by have := HD2.out; simpa using this.symm), HB2⟩
        case measure => simp [intOf]; omega
      · go_wp2_with fail
        go_ret
        exact ⟨ret_int (by have := HD2.out; simpa using this.symm), HB2.out⟩
    · obtain rfl : k = n := by omega
      have hZ := HZ.out
      rw [List.drop_of_length_le (by rw [HN.out]; exact Nat.le_refl _)] at hZ
      have HZ2 : Hid (own = z) := hide hZ
      clear hZ
      go_wp2_with fail
      go_ret
      exact ⟨ret_int HZ2.out, HB.out⟩

set_option maxRecDepth 100000 in
set_option maxHeartbeats 4000000 in
theorem fbound_any (f d : Int) (n : In) (W : World) :
    Calls Tryz.prog 156 #[.agg (kd f d), .agg (ia n)] W fun e W' => e = .returned (.tuple #[.int .i64 (bnZ f d n).1, .bool (bnZ f d n).2]) ∧ Below W.heap.size W W' := by
  have HL := hide fun W => YtijbmdmeiancgaaGreat.Knd.low_any f d W
  have HH := hide fun W => YtijbmdmeiancgaaGreat.Knd.high_any f d W
  have HO := hide fun W => YtijbmdmeiancgaaGreat.Knd.border_any f d W
  have HB := hide (bel (bel1 W (.cells (kd f d) 23)) (bel1 (W.alloc (.cells (kd f d) 23)) (.cells (ia n) 57)))
  obtain ⟨op, a, b, c, k, s⟩ := n
  unfold bnZ
  dsimp only
  by_cases h2 : op = 2
  · subst h2
    rw [if_pos rfl]
    by_cases h3 : k = 3
    · subst h3
      rw [if_pos rfl]
      go_enter Tryz.func156, Tryz.ntmps156
      go_wp2_with fail
      refine (HL.out _).mono ?_
      rintro e V1 ⟨rfl, hb⟩
      go_wp2_with fail
      exact bodyPost_ret (v := .tuple #[.int .i64 (lowZ f d), .bool true]) (by simp [results, Tryz.results156, go_sem]) rfl ⟨rfl, bel HB.out hb⟩
    rw [if_neg h3]
    by_cases h4 : k = 4
    · subst h4
      rw [if_pos rfl]
      clear h3
      go_enter Tryz.func156, Tryz.ntmps156
      go_wp2_with fail
      refine (HH.out _).mono ?_
      rintro e V1 ⟨rfl, hb⟩
      go_wp2_with fail
      exact bodyPost_ret (v := .tuple #[.int .i64 (highZ f d), .bool true]) (by simp [results, Tryz.results156, go_sem]) rfl ⟨rfl, bel HB.out hb⟩
    rw [if_neg h4]
    by_cases h5 : k = 5
    · subst h5
      rw [if_pos rfl]
      clear h3 h4
      go_enter Tryz.func156, Tryz.ntmps156
      go_wp2_with fail
      refine (HO.out _).mono ?_
      rintro e V1 ⟨rfl, hb⟩
      go_wp2_with fail
      exact bodyPost_ret (v := .tuple #[.int .i64 (borderZ f d), .bool true]) (by simp [results, Tryz.results156, go_sem]) rfl ⟨rfl, bel HB.out hb⟩
    rw [if_neg h5]
    have q3 : (k == 3) = false := by simpa using h3
    have q4 : (k == 4) = false := by simpa using h4
    have q5 : (k == 5) = false := by simpa using h5
    clear h3 h4 h5
    go_enter Tryz.func156, Tryz.ntmps156
    go_wp2_with fail
    exact bodyPost_ret (v := .tuple #[.int .i64 0, .bool false]) (by simp [results, Tryz.results156, go_sem]) rfl ⟨rfl, HB.out⟩
  · rw [if_neg h2]
    have q2 : (op != 2) = true := by simpa using h2
    clear h2
    go_enter Tryz.func156, Tryz.ntmps156
    go_wp2_with fail
    exact bodyPost_ret (v := .tuple #[.int .i64 0, .bool false]) (by simp [results, Tryz.results156, go_sem]) rfl ⟨rfl, HB.out⟩

theorem th_0 {n : In} {T : List Int} (h : ¬ 0 < ar n.op) : thI n T = n := by
  unfold thI
  rw [if_neg h, if_neg (by omega), if_neg (by omega)]
theorem th_1 {n : In} {T : List Int} (h : ar n.op = 1) : thI n T = ⟨n.op, exR T n.a, n.b, n.c, n.k, n.s⟩ := by
  unfold thI
  rw [h]; rfl
theorem th_2 {n : In} {T : List Int} (h : ar n.op = 2) : thI n T = ⟨n.op, exR T n.a, exR T n.b, n.c, n.k, n.s⟩ := by
  unfold thI
  rw [h]; rfl
theorem th_3 {n : In} {T : List Int} (h : ar n.op = 3) : thI n T = ⟨n.op, exR T n.a, exR T n.b, exR T n.c, n.k, n.s⟩ := by
  unfold thI
  rw [h]; rfl

set_option maxRecDepth 100000 in
set_option maxHeartbeats 4000000 in
theorem fthrough_any (n : In) {a : Option Addr} {m cap : Nat} {T : List Int} {W : World} (hT : Ints W a m cap T) :
    Calls Tryz.prog 132 #[.agg (ia n), .slice a m cap] W fun e W' => e = .returned (.agg (ia (thI n T))) ∧ Below W.heap.size W W' := by
  have HA := hide fun W => YtijbmdmeiancgaaGreat.Spn.arity_any n.op W
  have hb2 := bel (bel1 W (.cells (ia n) 57)) (bel1 (W.alloc (.cells (ia n) 57)) (.cells (ia i0) 57))
  have HE := hide fun V r (h : Below W.heap.size W V) => fex_any r (hT.later h)
  have HB0 := hide hb2
  rcases Cde.ar_five n.op with h | h | h | h | h
  · rw [th_0 (by rw [ar, h]; decide)]
    rw [h] at HA
    clear h
    go_enter Tryz.func132, Tryz.ntmps132
    go_wp2_with (first
      | (go_at_call 66; refine (HA.out _).mono ?_; rintro e w' ⟨rfl, rfl⟩)
      | (go_at_call 155; refine (HE.out _ _ (by first | exact bel (bel1 W _) (bel1 _ _) | exact bel ((bel1 W _).setCell (by simp) _) (bel1 _ _) | exact bel (((bel1 W _).setCell (by simp) _).setCell (by simp) _) (bel1 _ _))).mono ?_; rintro e w' ⟨rfl, rfl⟩))
    exact bodyPost_ret (v := .agg (ia _)) (by simp [results, Tryz.results132, go_sem]) rfl ⟨rfl, by first | exact bel (bel1 W _) (bel1 _ _) | exact bel ((bel1 W _).setCell (by simp) _) (bel1 _ _) | exact bel (((bel1 W _).setCell (by simp) _).setCell (by simp) _) (bel1 _ _) | exact bel ((((bel1 W _).setCell (by simp) _).setCell (by simp) _).setCell (by simp) _) (bel1 _ _)⟩
  · rw [th_0 (by rw [ar, h]; decide)]
    rw [h] at HA
    clear h
    go_enter Tryz.func132, Tryz.ntmps132
    go_wp2_with (first
      | (go_at_call 66; refine (HA.out _).mono ?_; rintro e w' ⟨rfl, rfl⟩)
      | (go_at_call 155; refine (HE.out _ _ (by first | exact bel (bel1 W _) (bel1 _ _) | exact bel ((bel1 W _).setCell (by simp) _) (bel1 _ _) | exact bel (((bel1 W _).setCell (by simp) _).setCell (by simp) _) (bel1 _ _))).mono ?_; rintro e w' ⟨rfl, rfl⟩))
    exact bodyPost_ret (v := .agg (ia _)) (by simp [results, Tryz.results132, go_sem]) rfl ⟨rfl, by first | exact bel (bel1 W _) (bel1 _ _) | exact bel ((bel1 W _).setCell (by simp) _) (bel1 _ _) | exact bel (((bel1 W _).setCell (by simp) _).setCell (by simp) _) (bel1 _ _) | exact bel ((((bel1 W _).setCell (by simp) _).setCell (by simp) _).setCell (by simp) _) (bel1 _ _)⟩
  · rw [th_1 h]
    rw [h] at HA
    clear h
    go_enter Tryz.func132, Tryz.ntmps132
    go_wp2_with (first
      | (go_at_call 66; refine (HA.out _).mono ?_; rintro e w' ⟨rfl, rfl⟩)
      | (go_at_call 155; refine (HE.out _ _ (by first | exact bel (bel1 W _) (bel1 _ _) | exact bel ((bel1 W _).setCell (by simp) _) (bel1 _ _) | exact bel (((bel1 W _).setCell (by simp) _).setCell (by simp) _) (bel1 _ _))).mono ?_; rintro e w' ⟨rfl, rfl⟩))
    exact bodyPost_ret (v := .agg (ia _)) (by simp [results, Tryz.results132, go_sem]) rfl ⟨rfl, by first | exact bel (bel1 W _) (bel1 _ _) | exact bel ((bel1 W _).setCell (by simp) _) (bel1 _ _) | exact bel (((bel1 W _).setCell (by simp) _).setCell (by simp) _) (bel1 _ _) | exact bel ((((bel1 W _).setCell (by simp) _).setCell (by simp) _).setCell (by simp) _) (bel1 _ _)⟩
  · rw [th_2 h]
    rw [h] at HA
    clear h
    go_enter Tryz.func132, Tryz.ntmps132
    go_wp2_with (first
      | (go_at_call 66; refine (HA.out _).mono ?_; rintro e w' ⟨rfl, rfl⟩)
      | (go_at_call 155; refine (HE.out _ _ (by first | exact bel (bel1 W _) (bel1 _ _) | exact bel ((bel1 W _).setCell (by simp) _) (bel1 _ _) | exact bel (((bel1 W _).setCell (by simp) _).setCell (by simp) _) (bel1 _ _))).mono ?_; rintro e w' ⟨rfl, rfl⟩))
    exact bodyPost_ret (v := .agg (ia _)) (by simp [results, Tryz.results132, go_sem]) rfl ⟨rfl, by first | exact bel (bel1 W _) (bel1 _ _) | exact bel ((bel1 W _).setCell (by simp) _) (bel1 _ _) | exact bel (((bel1 W _).setCell (by simp) _).setCell (by simp) _) (bel1 _ _) | exact bel ((((bel1 W _).setCell (by simp) _).setCell (by simp) _).setCell (by simp) _) (bel1 _ _)⟩
  · rw [th_3 h]
    rw [h] at HA
    clear h
    go_enter Tryz.func132, Tryz.ntmps132
    go_wp2_with (first
      | (go_at_call 66; refine (HA.out _).mono ?_; rintro e w' ⟨rfl, rfl⟩)
      | (go_at_call 155; refine (HE.out _ _ (by first | exact bel (bel1 W _) (bel1 _ _) | exact bel ((bel1 W _).setCell (by simp) _) (bel1 _ _) | exact bel (((bel1 W _).setCell (by simp) _).setCell (by simp) _) (bel1 _ _))).mono ?_; rintro e w' ⟨rfl, rfl⟩))
    exact bodyPost_ret (v := .agg (ia _)) (by simp [results, Tryz.results132, go_sem]) rfl ⟨rfl, by first | exact bel (bel1 W _) (bel1 _ _) | exact bel ((bel1 W _).setCell (by simp) _) (bel1 _ _) | exact bel (((bel1 W _).setCell (by simp) _).setCell (by simp) _) (bel1 _ _) | exact bel ((((bel1 W _).setCell (by simp) _).setCell (by simp) _).setCell (by simp) _) (bel1 _ _)⟩

end Go.Proofs.Fld

/-
  fold's reckoned and settled.
-/
namespace Go.Proofs.Fld
open Go.RowKit Go.IntWalk YtijbmdmeiancgaaGreat.Knd
open Cde (In i0 ia kd cd Ins at6 six_of has_new1 okI agL arN arV arM abc rgN zA zA_get put_z spn z_pre)
set_option linter.unusedVariables false

theorem map_k (M : List In) (q : Nat) : (M.map In.k).getD q 0 = (M.getD q i0).k := by
  rw [List.getD_eq_getElem?_getD, List.getElem?_map, List.getD_eq_getElem?_getD]
  cases M[q]? <;> rfl
theorem ka_ar (M : List In) (m : In) : kaL M m = arV (M.map In.k) m := by
  unfold kaL arV
  apply List.map_congr_left
  intro r hr
  rw [map_k]
theorem al_iff (M : List In) (m : In) : alN M m = true ↔ ∀ j, j < arN m → (rg M (rgN m j)).op = 1 := by
  unfold alN
  rw [List.all_eq_true]
  constructor
  · intro h j hj
    have := h ((agL m).getD j 0) (Cde.getD_mem 0 (by rw [Cde.agL_len]; exact hj))
    rw [Cde.agL_at m j hj] at this
    simpa using this
  · intro h r hr
    obtain ⟨j, hj, rfl⟩ := List.getElem_of_mem hr
    rw [Cde.agL_len] at hj
    have := h j hj
    rw [← Cde.agL_at m j hj, List.getD_eq_getElem?_getD, List.getElem?_eq_getElem (by rw [Cde.agL_len]; exact hj)] at this
    simpa using this
theorem rk_no {M : List In} {m : In} {j : Nat} (hj : j < arN m) (h : (rg M (rgN m j)).op ≠ 1) : rkZ M m = (0, false) := by
  unfold rkZ
  rw [if_neg]
  rw [al_iff]
  intro h2
  exact h (h2 j hj)
theorem rk_yes {M : List In} {m : In} (h : ∀ j, j < arN m → (rg M (rgN m j)).op = 1) : rkZ M m = ((vl m.op m.k m.s (arV (M.map In.k) m)).1, (vl m.op m.k m.s (arV (M.map In.k) m)).2 == 0) := by
  unfold rkZ
  rw [if_pos ((al_iff M m).2 h), ka_ar]

set_option maxRecDepth 100000 in
set_option maxHeartbeats 4000000 in
theorem frk_any (n : In) {va : Option Addr} {vn vc : Nat} {M : List In} {W : World} (hM : Ins W va vn vc M) (ho : okI n vn = true) :
    Calls Tryz.prog 157 #[.slice va vn vc, .agg (ia n)] W fun e W' => e = .returned (.tuple #[.int .i64 (rkZ M n).1, .bool (rkZ M n).2]) ∧ Below W.heap.size W W' := by
  have HA := hide fun w => Cde.cargs_ex n w
  have HR := hide fun j hj => Cde.ok_reg ho (j := j) hj
  have HS := hide fun k (h : k < arN n) => Cde.arM_split (M.map In.k) n h
  have HU := hide fun k (h : k < arN n) => Cde.arM_succ (M.map In.k) n h
  have HG0 := hide fun k (h : k < arN n) => Cde.arM_get (M.map In.k) n h
  have HLn := hide fun k (h : k ≤ arN n) => Cde.arM_len (M.map In.k) n h
  have HD := hide (Cde.arM_done (M.map In.k) n)
  have HAl := hide (Cde.arV_len (M.map In.k) n)
  have H00 : Hid (arM (M.map In.k) n 0 = abc n) := hide rfl
  have HNo := hide fun j => rk_no (M := M) (m := n) (j := j)
  have HYes := hide (rk_yes (M := M) (m := n))
  have h3' := Cde.arN_le n
  have hs := hM.short
  have HMk := hide fun q => map_k M q
  have HB0 := hide (bel1 W (.cells (ia n) 57))
  have HN0 := hide (HasC.new W 57 (ia n))
  have HVW := hide hM
  generalize arM (M.map In.k) n = Q at *
  generalize arN n = m at *
  obtain ⟨⟨X, x2⟩, hX⟩ : ∃ X, rkZ M n = X := ⟨_, rfl⟩
  rw [hX] at HNo HYes ⊢
  clear ho hM hX
  go_enter Tryz.func157, Tryz.ntmps157
  go_wp2_with fail
  refine (HA.out _).mono ?_
  rintro e V1 ⟨g, rfl, hg, hG, hb⟩
  have HN1 := hide (HN0.out.below hb)
  have HB1 := hide (bel HB0.out hb)
  have HG1 := hide hG
  have hg2 : W.heap.size + 1 ≤ g := by simpa using hg
  clear hG hb HN0 HB0 HA hg
  go_wp2_with fail
  go_loopw [15] (fun j wr => ∃ k : Nat, k ≤ m ∧ j = .int .i64 k ∧ Hid (∀ i, i < k → (rg M (rgN n i)).op = 1) ∧ Hid (HasC wr g 3 (zA (Q k))) ∧ Hid (HasC wr W.heap.size 57 (ia n)) ∧ Hid (Below W.heap.size W wr)) (fun j _ => m - (intOf j).toNat)
  case atStart => exact ⟨0, Nat.zero_le _, rfl, hide (fun i hi => absurd hi (Nat.not_lt_zero _)), hide (by rw [H00.out]; exact HG1.out), HN1, HB1⟩
  case round =>
    obtain ⟨k, hk, rfl, HF, HG, HN, HB⟩ := hrel
    rename World => V2
    clear HG1 HN1 HB1
    by_cases hlt : k < m
    · obtain ⟨p0, p1⟩ := HR.out k hlt
      have hl3 := HLn.out k hk
      have c0 := HG.out.cell k (zA_get _ k (by rw [hl3]; omega))
      rw [HG0.out k hlt] at c0
      have HX := HG.out
      rw [HS.out k hlt] at HX
      have HX2 := hide fun x => put_z (k := k) HX (by rw [List.length_take, HAl.out]; omega) x
      have HU2 := hide (HU.out k hlt)
      have y0 := HG.out.frozen k
      have HF2 := hide fun (h : (rg M (rgN n k)).op = 1) (i : Nat) (hi : i < k + 1) => show (rg M (rgN n i)).op = 1 from by
        by_cases e : i < k
        · exact HF.out i e
        · obtain rfl : i = k := by omega
          exact h
      have HNo2 := hide (HNo.out k hlt)
      obtain ⟨q, hq⟩ : ∃ q : Nat, rgN n k = (q : Int) := ⟨(rgN n k).toNat, by omega⟩
      rw [hq] at c0 p1 HU2
      unfold rg at HF2 HNo2
      rw [hq] at HF2 HNo2
      simp only [Int.toNat_natCast] at p1 HU2 HF2 HNo2
      rw [HMk.out q] at HU2
      obtain ⟨b, off, rfl, -, hat⟩ := (HVW.out.later HB.out).at (by omega)
      obtain ⟨c1, -, -, -, c5, -⟩ := hat q (by omega)
      generalize M.getD q i0 = z at *
      have HX3 := hide (HX2.out z.k)
      rw [HU2.out] at HX3
      have HN3 := hide (HN.out.other (p := ⟨g, k, none⟩) (by simp; omega) (.int .i64 z.k))
      have HB4 := hide (HB.out.setCell (p := ⟨g, k, none⟩) (by simp; omega) (.int .i64 z.k))
      have i0' : (0 : Int) ≤ q := by omega
      have i1' : (q : Int) < vn := by omega
      have j0 : (0 : Int) ≤ k := by omega
      have j1 : (k : Int) < m := by omega
      clear HX HX2 HU2 hat hq p0 p1 hl3 HF
      by_cases hop : z.op = 1
      · have q1 : (z.op != 1) = false := by simpa using hop
        have HF3 := hide (HF2.out hop)
        clear HF2 hop HNo2
        go_wp2_with fail
        go_roundw
        case rel => exact ⟨k + 1, by omega, by go_num, hide HF3.out, HX3, HN3, HB4⟩
        case measure => simp [intOf]; omega
      · have q1 : (z.op != 1) = true := by simpa using hop
        have HZ := hide (HNo2.out hop)
        clear HF2 hop HNo2
        go_wp2_with fail
        have hz := HZ.out
        cases hz
        exact bodyPost_ret (v := .tuple #[.int .i64 0, .bool false]) (by simp [results, Tryz.results157, go_sem]) rfl ⟨rfl, HB.out⟩
    · obtain rfl : k = m := by omega
      have hI := HG.out
      rw [HD.out] at hI
      have hI2 := z_pre hI (by rw [← HD.out]; exact HLn.out k (Nat.le_refl _))
      rw [HAl.out] at hI2
      have HVa := hide (YtijbmdmeiancgaaGreat.Spn.value_any n.op n.k n.s _ _ _ _ _ (spn hI2))
      have HY := hide (HYes.out HF.out)
      obtain ⟨e0, -, -, -, e4, e5⟩ := six_of HN.out
      clear hI hI2 HYes HNo
      unfold vl at HY
      generalize YtijbmdmeiancgaaGreat.Spn.valZ n.op n.k n.s (arV (M.map In.k) n) = Y at *
      go_wp2_with fail
      refine HVa.out.mono ?_
      rintro e V3 ⟨rfl, hb⟩
      have HB3 := hide (bel HB.out hb)
      clear hb
      go_wp2_with fail
      have hy := HY.out
      cases hy
      exact bodyPost_ret (v := .tuple #[.int .i64 Y.1, .bool (Y.2 == 0)]) (by simp [results, Tryz.results157, go_sem]) rfl ⟨rfl, HB3.out⟩

theorem st_z {M : List In} {m : In} (h : m.op = 9 ∨ m.op = 17 ∨ m.op = 18 ∨ m.op = 20 ∨ m.op = 23) : stZ M m = (0, m.a == m.b) := by unfold stZ; rw [if_pos h]
theorem st_o {M : List In} {m : In} (h : m.op = 19 ∨ m.op = 21 ∨ m.op = 22) : stZ M m = (1, m.a == m.b) := by unfold stZ; rw [if_neg (by omega), if_pos h]
theorem st_m {M : List In} {m : In} (h : m.op = 10 ∨ m.op = 15) : stZ M m = (0, isN M m.a 0 || isN M m.b 0) := by unfold stZ; rw [if_neg (by omega), if_neg (by omega), if_pos h]
theorem st_d {M : List In} {m : In} (h : m.op = 12) : stZ M m = (0, isN M m.b 1) := by unfold stZ; rw [if_neg (by omega), if_neg (by omega), if_neg (by omega), if_pos h]
theorem st_k {M : List In} {m : In} (h : m.op = 32 ∨ m.op = 31) : stZ M m = (0, m.k == 0) := by unfold stZ; rw [if_neg (by omega), if_neg (by omega), if_neg (by omega), if_neg (by omega), if_pos h]

set_option maxRecDepth 100000 in
set_option maxHeartbeats 8000000 in
theorem fse_any (m : In) {va : Option Addr} {vn vc : Nat} {M : List In} {W : World} (hM : Ins W va vn vc M) (ho : okI m vn = true) :
    Calls Tryz.prog 158 #[.slice va vn vc, .agg (ia m)] W fun e W' => e = .returned (.tuple #[.int .i64 (stZ M m).1, .bool (stZ M m).2]) ∧ Below W.heap.size W W' := by
  have hb1 := bel1 W (.cells (ia m) 57)
  have HI := hide fun r k (h : In1 r vn) => fis_any r k (hM.later hb1) h
  have HB := hide hb1
  have hin := fun r => ok_ag ho (r := r)
  have HE := hide (six_of (HasC.new W 57 (ia m)))
  clear hM ho hb1
  by_cases h1 : m.op = 9 ∨ m.op = 17 ∨ m.op = 18 ∨ m.op = 20 ∨ m.op = 23
  · rw [st_z h1]
    obtain ⟨op, a, b, c, k, s⟩ := m
    dsimp only at h1
    obtain ⟨e0, e1, e2, e3, e4, e5⟩ := HE.out
    clear hin HI
    rcases h1 with rfl | rfl | rfl | rfl | rfl
    all_goals
      go_enter Tryz.func158, Tryz.ntmps158
      go_wp2_with fail
      generalize hV : W.alloc (.cells (ia ⟨_, a, b, c, k, s⟩) 57) = V at *
      generalize hq : W.heap.size = q at *
      go_quiet (fail)
      go_wp2_with fail
      exact bodyPost_ret (v := .tuple #[.int .i64 0, .bool (a == b)]) (by simp [results, Tryz.results158, go_sem]) rfl ⟨rfl, by rw [← hq] at *; exact YtijbmdmeiancgaaGreat.Spn.bdrew HB.out _⟩
  by_cases h2 : m.op = 19 ∨ m.op = 21 ∨ m.op = 22
  · rw [st_o h2]
    obtain ⟨op, a, b, c, k, s⟩ := m
    dsimp only at h2
    obtain ⟨e0, e1, e2, e3, e4, e5⟩ := HE.out
    clear hin HI h1
    rcases h2 with rfl | rfl | rfl
    all_goals
      go_enter Tryz.func158, Tryz.ntmps158
      go_wp2_with fail
      generalize hV : W.alloc (.cells (ia ⟨_, a, b, c, k, s⟩) 57) = V at *
      generalize hq : W.heap.size = q at *
      go_quiet (fail)
      go_wp2_with fail
      exact bodyPost_ret (v := .tuple #[.int .i64 1, .bool (a == b)]) (by simp [results, Tryz.results158, go_sem]) rfl ⟨rfl, by rw [← hq] at *; exact YtijbmdmeiancgaaGreat.Spn.bdrew HB.out _⟩
  by_cases h3 : m.op = 10 ∨ m.op = 15
  · rw [st_m h3]
    have ha2 : ar m.op = 2 := by rcases h3 with e | e <;> rw [e] <;> decide
    have HJ1 := hide (HI.out m.a 0 (hin m.a (by rw [ag2 ha2]; simp)))
    have HJ2 := hide (HI.out m.b 0 (hin m.b (by rw [ag2 ha2]; simp)))
    obtain ⟨op, a, b, c, k, s⟩ := m
    dsimp only at h3 HJ1 HJ2 ⊢
    clear hin HI h1 h2 ha2 HE
    generalize isN M a 0 = x at *
    generalize isN M b 0 = y at *
    rcases h3 with rfl | rfl
    all_goals
      cases x
      · go_enter Tryz.func158, Tryz.ntmps158
        go_wp2_with fail
        refine HJ1.out.mono ?_
        rintro e w' ⟨rfl, rfl⟩
        go_wp2_with fail
        refine HJ2.out.mono ?_
        rintro e w' ⟨rfl, rfl⟩
        go_wp2_with fail
        exact bodyPost_ret (v := .tuple #[.int .i64 0, .bool y]) (by simp [results, Tryz.results158, go_sem]) rfl ⟨by simp, HB.out⟩
      · go_enter Tryz.func158, Tryz.ntmps158
        go_wp2_with fail
        refine HJ1.out.mono ?_
        rintro e w' ⟨rfl, rfl⟩
        go_wp2_with fail
        exact bodyPost_ret (v := .tuple #[.int .i64 0, .bool true]) (by simp [results, Tryz.results158, go_sem]) rfl ⟨by simp, HB.out⟩
  by_cases h4 : m.op = 12
  · rw [st_d h4]
    have ha2 : ar m.op = 2 := by rw [h4]; decide
    have HJ2 := hide (HI.out m.b 1 (hin m.b (by rw [ag2 ha2]; simp)))
    obtain ⟨op, a, b, c, k, s⟩ := m
    dsimp only at h4 HJ2 ⊢
    clear hin HI h1 h2 h3 ha2 HE
    generalize isN M b 1 = y at *
    subst h4
    go_enter Tryz.func158, Tryz.ntmps158
    go_wp2_with fail
    refine HJ2.out.mono ?_
    rintro e w' ⟨rfl, rfl⟩
    go_wp2_with fail
    exact bodyPost_ret (v := .tuple #[.int .i64 0, .bool y]) (by simp [results, Tryz.results158, go_sem]) rfl ⟨rfl, HB.out⟩
  by_cases h5 : m.op = 32 ∨ m.op = 31
  · rw [st_k h5]
    obtain ⟨op, a, b, c, k, s⟩ := m
    dsimp only at h5
    obtain ⟨e0, e1, e2, e3, e4, e5⟩ := HE.out
    clear hin HI h1 h2 h3 h4
    rcases h5 with rfl | rfl
    all_goals
      go_enter Tryz.func158, Tryz.ntmps158
      go_wp2_with fail
      generalize hV : W.alloc (.cells (ia ⟨_, a, b, c, k, s⟩) 57) = V at *
      generalize hq : W.heap.size = q at *
      go_quiet (fail)
      go_wp2_with fail
      exact bodyPost_ret (v := .tuple #[.int .i64 0, .bool (k == 0)]) (by simp [results, Tryz.results158, go_sem]) rfl ⟨rfl, by rw [← hq] at *; exact YtijbmdmeiancgaaGreat.Spn.bdrew HB.out _⟩
  · rw [show stZ M m = (0, false) by unfold stZ; rw [if_neg h1, if_neg h2, if_neg h3, if_neg h4, if_neg h5]]
    obtain ⟨op, a, b, c, k, s⟩ := m
    dsimp only at *
    have q9 : (op == 9) = false := by simp; omega
    have q17 : (op == 17) = false := by simp; omega
    have q18 : (op == 18) = false := by simp; omega
    have q20 : (op == 20) = false := by simp; omega
    have q23 : (op == 23) = false := by simp; omega
    have q19 : (op == 19) = false := by simp; omega
    have q21 : (op == 21) = false := by simp; omega
    have q22 : (op == 22) = false := by simp; omega
    have q10 : (op == 10) = false := by simp; omega
    have q15 : (op == 15) = false := by simp; omega
    have q12 : (op == 12) = false := by simp; omega
    have q32 : (op == 32) = false := by simp; omega
    have q31 : (op == 31) = false := by simp; omega
    clear hin HI h1 h2 h3 h4 h5 HE
    go_enter Tryz.func158, Tryz.ntmps158
    go_wp2_with fail
    exact bodyPost_ret (v := .tuple #[.int .i64 0, .bool false]) (by simp [results, Tryz.results158, go_sem]) rfl ⟨rfl, HB.out⟩

end Go.Proofs.Fld

/-
  reduce's writer: shifted, multiplied.
-/
import Derived.Test.YtijbmdmeiancgaaGreatMUB
import Derived.Test.YtijbmdmeiancgaaGreatMRC
namespace Go.Proofs.Rdc
open Go.RowKit Go.IntWalk YtijbmdmeiancgaaGreat.Knd
open Cde (In i0 ia kd cd Ins at6 six_of four_of two_of has_new1 okI okT below_drew is6 i6 zA take_snoc)
open Vfy (vfE vfN vfC Sps)
open Fld (In1 rg gv)
set_option linter.unusedVariables false

theorem uput_z (n : In) {z : Int} {W V : World} {b : Nat} {wv sv mv tv : Value} {M : List In} {T : List Int} (h : Wt W V b wv sv mv tv M T) (hz : (M.length : Int) = z) (hM : M.length ≤ 2000000) :
    Calls Tryz.prog 137 #[.pointer (some ⟨b, 0, none⟩), .agg (ia n)] V fun e V' => e = .returned (.int .i64 z) ∧ (∃ mv', Wt W V' b wv sv mv' tv (M ++ [n]) T) ∧ Below b V V' ∧ Kp V V' := by
  subst hz
  exact uput_all n h hM
theorem QpP.many {W V V' : World} {b : Nat} {wv sv tv : Value} {M : List In} {T : List Int} {o : Option (List In)} {z : Int} (Q : List In) (ho : o = some Q) (hz : ((M.length + Q.length : Nat) : Int) - 1 = z) (h : ∃ mv', Wt W V' b wv sv mv' tv (M ++ Q) T) (hb : Below b V V') : QpP W V b wv sv tv M T o (.returned (.tuple #[.int .i64 z, .bool true])) V' := by
  subst hz
  exact .inl ⟨Q, ho, rfl, h, hb⟩

/-- The quotient by 2 to the n, where it is quick. -/
def shL (lo hi x : Int) (n : Nat) (m : Int) : Option (List In) :=
  if 0 ≤ lo then some [⟨30, x, 0, 0, n, 0⟩] else if hi + (2 ^ n - 1) ≤ 2147483647 then some [⟨30, x, 0, 0, 31, 0⟩, ⟨31, m, 0, 0, 2 ^ n - 1, 0⟩, ⟨8, x, m + 1, 0, 0, 0⟩, ⟨30, m + 2, 0, 0, n, 0⟩] else none
/-- .. by another number. -/
def muL (lo hi x d : Int) (m : Int) : Option (List In) :=
  if (mgZ (max (-lo) hi) d).2.2 = true then
    (if 0 ≤ lo then some [⟨33, x, 0, 0, (mgZ (max (-lo) hi) d).1, (mgZ (max (-lo) hi) d).2.1⟩] else
      some [⟨33, x, 0, 0, (mgZ (max (-lo) hi) d).1, (mgZ (max (-lo) hi) d).2.1⟩, ⟨30, x, 0, 0, 31, 0⟩, ⟨9, m, m + 1, 0, 0, 0⟩])
  else none
theorem dvL_pow {lo hi x d m : Int} {n : Nat} (hn : 0 < pwZ d) (h : pwZ d = n) (hd : d = 2 ^ n) : dvL lo hi x d m = shL lo hi x n m := by
  subst hd
  unfold dvL shL
  rw [if_pos hn, h, show hi + 2 ^ n - 1 = hi + (2 ^ n - 1) by omega]
theorem dvL_oth {lo hi x d m : Int} (hn : ¬ 0 < pwZ d) : dvL lo hi x d m = muL lo hi x d m := by
  unfold dvL muL
  rw [if_neg hn]

set_option maxRecDepth 100000 in
set_option maxHeartbeats 8000000 in
theorem ushifted_any (r : Int) (n : Nat) (hn : n ≤ 30) {W V : World} {b : Nat} {wv : Value} {sa : Option Addr} {sn sc : Nat} {mv tv : Value} {M : List In} {T : List Int} {S : Sps} (h : Wt W V b wv (.slice sa sn sc) mv tv M T) (hS : YtijbmdmeiancgaaGreat.Spn.Spans W sa sn sc S) (hT : T.length ≤ sn) (hM : M.length ≤ 1000000) (hr : In1 r T.length) {lo hi : Int} (hs : S.getD r.toNat (0, 0) = (lo, hi)) (hw : Wh lo hi) :
    Calls Tryz.prog 179 #[.pointer (some ⟨b, 0, none⟩), .int .i64 r, .int .i64 (n : Int)] V (QpP W V b wv (.slice sa sn sc) tv M T (shL lo hi (gv T r) n M.length)) := by
  have HF0 := hide h
  have HLe := hide h.le
  have HM := hide hM
  obtain ⟨m, hm⟩ : ∃ m : Int, (M.length : Int) = m := ⟨_, rfl⟩
  rw [hm]
  have HMl := hide hm
  obtain ⟨w1, w2, w3, w4, w5⟩ := hw
  obtain ⟨j, gt, ct, rfl, hj, htl, rfl, ct0⟩ := h.reg hr
  obtain ⟨x, hx⟩ : ∃ x, gv T (j : Int) = x := ⟨_, rfl⟩
  rw [hx] at ct0 ⊢
  have hg1 := h.w.cell 1 rfl
  have hg3 := h.w.cell 3 rfl
  obtain ⟨gs, off, rfl, hgs, hsc⟩ := (hS.later h.lo).at (by omega)
  obtain ⟨c0, c1⟩ := hsc j (by omega)
  rw [Int.toNat_natCast] at hs
  rw [hs] at c0 c1
  dsimp only at c0 c1
  have hsn := hS.le
  have hsn2 := hS.max
  unfold maxLen at hsn2
  have i0' : (0 : Int) ≤ j := by omega
  have i1' : (j : Int) < sn := by omega
  obtain ⟨tl, htl'⟩ : ∃ tl, T.length = tl := ⟨_, rfl⟩
  rw [htl'] at hg3 htl
  have i2' : (j : Int) < tl := by omega
  have hb0 := h.w.lt
  have hgt : gt < V.heap.size := World.block_lt_of_cell? V _ ct0
  clear hx hm h hS hT hM hr hs hsc hj
  unfold shL
  obtain ⟨p1, p2⟩ := pow_62 (show n ≤ 62 by omega)
  have p3 : (2 : Int) ^ n ≤ 1073741824 := by
    have := pow_le' hn
    have e : (2 : Int) ^ 30 = 1073741824 := by decide
    omega
  obtain ⟨P, hP⟩ : ∃ P : Int, (2 : Int) ^ n = P := ⟨_, rfl⟩
  rw [hP] at p1 p2 p3 ⊢
  have hwP : wrap64 P = P := wrap64_in _ ⟨by omega, by omega⟩
  have hwP2 : IntKind.i64.wrap P = P := by rw [IntKind.wrap_i64]; omega
  have hwP3 : IntKind.i64.wrap (P - 1) = P - 1 := by rw [IntKind.wrap_i64]; omega
  obtain ⟨O, hO⟩ : ∃ O, (if 0 ≤ lo then some [(⟨30, x, 0, 0, n, 0⟩ : In)] else if hi + (P - 1) ≤ 2147483647 then some [⟨30, x, 0, 0, 31, 0⟩, ⟨31, m, 0, 0, P - 1, 0⟩, ⟨8, x, m + 1, 0, 0, 0⟩, ⟨30, m + 2, 0, 0, n, 0⟩] else none) = O := ⟨_, rfl⟩
  rw [hO]
  have HO' := hide hO
  clear hO
  go_enter Tryz.func179, Tryz.ntmps179
  go_upto_region 1 with fail
  go_region_held3 (fun w' => w'.cell? ⟨b, 1, none⟩ = some (.slice (some ⟨gs, off, none⟩) sn sc) ∧ w'.cell? ⟨b, 3, none⟩ = some (.slice (some ⟨gt, 0, none⟩) tl ct) ∧ w'.cell? ⟨gs, off + j * 2, none⟩ = some (.int .i64 lo) ∧ w'.cell? ⟨gs, off + j * 2 + 1, none⟩ = some (.int .i64 hi) ∧ w'.cell? ⟨gt, j, none⟩ = some (.int .i64 x))
    (first | exact ⟨hg1, hg3, c0, c1, ct0⟩ | go_keep) (fail)
  obtain ⟨V1, hV1⟩ : ∃ V1, (V.alloc (.cells #[.int .i64 lo, .int .i64 hi] 81)).drew = V1 := ⟨_, rfl⟩
  rw [hV1]
  have HF1 := hide (HF0.out.below (bel (bel1 V (.cells #[.int .i64 lo, .int .i64 hi] 81)) (below_drew _)))
  have HC1 := hide ((HasC.new V 81 #[.int .i64 lo, .int .i64 hi]).below (below_drew _))
  have HB1 := hide (bel (bel1 V (.cells #[.int .i64 lo, .int .i64 hi] 81)) (below_drew _))
  rw [hV1] at HF1 HC1 HB1
  have HL1 := hide (low_of HLe.out HB1.out)
  obtain ⟨gb, hgb⟩ : ∃ gb, V.heap.size = gb := ⟨_, rfl⟩
  rw [hgb] at HC1 ⊢
  obtain ⟨s0, s1⟩ := two_of HC1.out
  clear hg1 hg3 c0 c1 ct0 HF0 hV1 hgb htl' hgs hgt hb0
  by_cases h0 : 0 ≤ lo
  · have hO := HO'.out
    rw [if_pos h0] at hO
    have HO := hide hO.symm
    have q0 : decide (lo < 0) = false := by simpa using h0
    clear hO HO' h0
    have HU := hide (uput_z ⟨30, x, 0, 0, n, 0⟩ HF1.out HMl.out (by have := HM.out; omega))
    go_wp2_with fail
    refine HU.out.mono ?_
    clear HU
    rintro e V2 ⟨rfl, ⟨mv2, hw⟩, hb, hk⟩
    have HF2 := hide hw
    have HL2 := hide (HL1.out.trans hb)
    go_wp2_with fail
    exact bodyPost_ret (v := .tuple #[.int .i64 m, .bool true]) (by simp [results, Tryz.results179, go_sem]) rfl (QpP.many _ HO.out (by have := HMl.out; have := HMl.out; simp; simp at *; omega) ⟨_, by simpa using HF2.out⟩ HL2.out)
  · have hO := HO'.out
    rw [if_neg h0] at hO
    have q0 : decide (lo < 0) = true := by simpa using h0
    clear h0
    by_cases h1 : hi + (P - 1) ≤ 2147483647
    · rw [if_pos h1] at hO
      have HO := hide hO.symm
      have q1 : decide (2147483647 < hi + (P - 1)) = false := by simp; omega
      clear hO HO' h1
      obtain ⟨z1, hz1⟩ : ∃ z1 : Int, m + 1 = z1 := ⟨_, rfl⟩
      obtain ⟨z2, hz2⟩ : ∃ z2 : Int, m + 2 = z2 := ⟨_, rfl⟩
      obtain ⟨z3, hz3⟩ : ∃ z3 : Int, m + 3 = z3 := ⟨_, rfl⟩
      rw [hz1, hz2] at HO
      have HZ1 : Hid (((M ++ [(⟨30, x, 0, 0, 31, 0⟩ : In)]).length : Int) = z1) := hide (by have := HMl.out; simp; omega)
      have HZ2 : Hid (((M ++ [(⟨30, x, 0, 0, 31, 0⟩ : In)] ++ [(⟨31, m, 0, 0, P - 1, 0⟩ : In)]).length : Int) = z2) := hide (by have := HMl.out; simp; omega)
      have HZ3 : Hid (((M ++ [(⟨30, x, 0, 0, 31, 0⟩ : In)] ++ [(⟨31, m, 0, 0, P - 1, 0⟩ : In)] ++ [(⟨8, x, z1, 0, 0, 0⟩ : In)]).length : Int) = z3) := hide (by have := HMl.out; simp; omega)
      have HZm := hide hz3
      clear hz1 hz2 hz3
      have HU := hide (uput_z ⟨30, x, 0, 0, 31, 0⟩ HF1.out HMl.out (by have := HM.out; omega))
      go_wp2_with fail
      refine HU.out.mono ?_
      clear HU
      rintro e V2 ⟨rfl, ⟨mv2, hw⟩, hb, hk⟩
      have HF2 := hide hw
      have HL2 := hide (HL1.out.trans hb)
      clear hw hb hk
      have HU := hide (uput_z ⟨31, m, 0, 0, P - 1, 0⟩ HF2.out HZ1.out (by have := HM.out; simp; omega))
      go_wp2_with fail
      refine HU.out.mono ?_
      clear HU
      rintro e V3 ⟨rfl, ⟨mv3, hw⟩, hb, hk⟩
      have HF3 := hide hw
      have HL3 := hide (HL2.out.trans hb)
      clear hw hb hk
      have HU := hide (uput_z ⟨8, x, z1, 0, 0, 0⟩ HF3.out HZ2.out (by have := HM.out; simp; omega))
      go_wp2_with fail
      refine HU.out.mono ?_
      clear HU
      rintro e V4 ⟨rfl, ⟨mv4, hw⟩, hb, hk⟩
      have HF4 := hide hw
      have HL4 := hide (HL3.out.trans hb)
      clear hw hb hk
      have HU := hide (uput_z ⟨30, z2, 0, 0, n, 0⟩ HF4.out HZ3.out (by have := HM.out; simp; omega))
      go_wp2_with fail
      refine HU.out.mono ?_
      clear HU
      rintro e V5 ⟨rfl, ⟨mv5, hw⟩, hb, hk⟩
      have HF5 := hide hw
      have HL5 := hide (HL4.out.trans hb)
      clear hw hb hk
      go_wp2_with fail
      exact bodyPost_ret (v := .tuple #[.int .i64 z3, .bool true]) (by simp [results, Tryz.results179, go_sem]) rfl (QpP.many _ HO.out (by have := HMl.out; have := HZm.out; simp; simp at *; omega) ⟨_, by simpa using HF5.out⟩ HL5.out)
    · rw [if_neg h1] at hO
      have HO := hide hO.symm
      have q1 : decide (2147483647 < hi + (P - 1)) = true := by simp; omega
      clear hO HO' h1
      go_wp2_with fail
      exact bodyPost_ret (v := .tuple #[.int .i64 0, .bool false]) (by simp [results, Tryz.results179, go_sem]) rfl (QpP.no HO.out HB1.out)

set_option maxRecDepth 100000 in
set_option maxHeartbeats 8000000 in
theorem umult_any (r d : Int) {W V : World} {b : Nat} {wv : Value} {sa : Option Addr} {sn sc : Nat} {mv tv : Value} {M : List In} {T : List Int} {S : Sps} (h : Wt W V b wv (.slice sa sn sc) mv tv M T) (hS : YtijbmdmeiancgaaGreat.Spn.Spans W sa sn sc S) (hT : T.length ≤ sn) (hM : M.length ≤ 1000000) (hr : In1 r T.length) {lo hi : Int} (hs : S.getD r.toNat (0, 0) = (lo, hi)) (hw : Wh lo hi) :
    Calls Tryz.prog 180 #[.pointer (some ⟨b, 0, none⟩), .int .i64 r, .int .i64 d] V (QpP W V b wv (.slice sa sn sc) tv M T (muL lo hi (gv T r) d M.length)) := by
  have HF0 := hide h
  have HLe := hide h.le
  have HM := hide hM
  obtain ⟨m, hm⟩ : ∃ m : Int, (M.length : Int) = m := ⟨_, rfl⟩
  rw [hm]
  have HMl := hide hm
  obtain ⟨w1, w2, w3, w4, w5⟩ := hw
  obtain ⟨j, gt, ct, rfl, hj, htl, rfl, ct0⟩ := h.reg hr
  obtain ⟨x, hx⟩ : ∃ x, gv T (j : Int) = x := ⟨_, rfl⟩
  rw [hx] at ct0 ⊢
  have hg1 := h.w.cell 1 rfl
  have hg3 := h.w.cell 3 rfl
  obtain ⟨gs, off, rfl, hgs, hsc⟩ := (hS.later h.lo).at (by omega)
  obtain ⟨c0, c1⟩ := hsc j (by omega)
  rw [Int.toNat_natCast] at hs
  rw [hs] at c0 c1
  dsimp only at c0 c1
  have hsn := hS.le
  have hsn2 := hS.max
  unfold maxLen at hsn2
  have i0' : (0 : Int) ≤ j := by omega
  have i1' : (j : Int) < sn := by omega
  obtain ⟨tl, htl'⟩ : ∃ tl, T.length = tl := ⟨_, rfl⟩
  rw [htl'] at hg3 htl
  have i2' : (j : Int) < tl := by omega
  have hb0 := h.w.lt
  have hgt : gt < V.heap.size := World.block_lt_of_cell? V _ ct0
  clear hx hm h hS hT hM hr hs hsc hj
  have HMg := hide fun (w : World) => umagic_any (max (-lo) hi) d w
  unfold muL
  obtain ⟨⟨k, s, ok⟩, hK⟩ : ∃ Z, mgZ (max (-lo) hi) d = Z := ⟨_, rfl⟩
  rw [hK] at HMg ⊢
  dsimp only [mgV] at HMg ⊢
  clear hK
  obtain ⟨O, hO⟩ : ∃ O, (if ok = true then (if 0 ≤ lo then some [(⟨33, x, 0, 0, k, s⟩ : In)] else some [⟨33, x, 0, 0, k, s⟩, ⟨30, x, 0, 0, 31, 0⟩, ⟨9, m, m + 1, 0, 0, 0⟩]) else none) = O := ⟨_, rfl⟩
  rw [hO]
  have HO' := hide hO
  clear hO
  have hmx : (hi ≤ -lo ∧ max (-lo) hi = -lo) ∨ (-lo < hi ∧ max (-lo) hi = hi) := by omega
  rcases hmx with ⟨hmx, e⟩ | ⟨hmx, e⟩
  all_goals
    rw [e] at HMg
    clear e
    go_enter Tryz.func180, Tryz.ntmps180
    go_upto_region 1 with fail
    go_region_held3 (fun w' => w'.cell? ⟨b, 1, none⟩ = some (.slice (some ⟨gs, off, none⟩) sn sc) ∧ w'.cell? ⟨b, 3, none⟩ = some (.slice (some ⟨gt, 0, none⟩) tl ct) ∧ w'.cell? ⟨gs, off + j * 2, none⟩ = some (.int .i64 lo) ∧ w'.cell? ⟨gs, off + j * 2 + 1, none⟩ = some (.int .i64 hi) ∧ w'.cell? ⟨gt, j, none⟩ = some (.int .i64 x))
      (first | exact ⟨hg1, hg3, c0, c1, ct0⟩ | go_keep) (fail)
    obtain ⟨V1, hV1⟩ : ∃ V1, (V.alloc (.cells #[.int .i64 lo, .int .i64 hi] 81)).drew = V1 := ⟨_, rfl⟩
    rw [hV1]
    have HF1 := hide (HF0.out.below (bel (bel1 V (.cells #[.int .i64 lo, .int .i64 hi] 81)) (below_drew _)))
    have HC1 := hide ((HasC.new V 81 #[.int .i64 lo, .int .i64 hi]).below (below_drew _))
    have HB1 := hide (bel (bel1 V (.cells #[.int .i64 lo, .int .i64 hi] 81)) (below_drew _))
    rw [hV1] at HF1 HC1 HB1
    have HL1 := hide (low_of HLe.out HB1.out)
    obtain ⟨gb, hgb⟩ : ∃ gb, V.heap.size = gb := ⟨_, rfl⟩
    rw [hgb] at HC1 ⊢
    obtain ⟨s0, s1⟩ := two_of HC1.out
    clear hg1 hg3 c0 c1 ct0 HF0 hV1 hgb htl' hgs hgt hb0
    go_wp2_with fail
    refine (HMg.out _).mono ?_
    rintro e w' ⟨rfl, rfl⟩
    clear HMg
    cases ok
    · have HO := hide (HO'.out.symm.trans (if_neg (by simp)))
      clear HO'
      go_wp2_with fail
      exact bodyPost_ret (v := .tuple #[.int .i64 0, .bool false]) (by simp [results, Tryz.results180, go_sem]) rfl (QpP.no HO.out HB1.out)
    · have hO := HO'.out
      rw [if_pos rfl] at hO
      have HU := hide (uput_z ⟨33, x, 0, 0, k, s⟩ HF1.out HMl.out (by have := HM.out; omega))
      go_wp2_with fail
      refine HU.out.mono ?_
      clear HU
      rintro e V2 ⟨rfl, ⟨mv2, hw⟩, hb, hk⟩
      have HF2 := hide hw
      have HL2 := hide (HL1.out.trans hb)
      have HC2 := hide (hk _ _ HC1.out)
      clear hw hb hk s0 s1
      obtain ⟨s0, s1⟩ := two_of HC2.out
      by_cases h0 : 0 ≤ lo
      · rw [if_pos h0] at hO
        have HO := hide hO.symm
        have q0 : decide (lo < 0) = false := by simpa using h0
        clear hO HO' h0
        go_wp2_with fail
        exact bodyPost_ret (v := .tuple #[.int .i64 m, .bool true]) (by simp [results, Tryz.results180, go_sem]) rfl (QpP.many _ HO.out (by have := HMl.out; have := HMl.out; simp; simp at *; omega) ⟨_, by simpa using HF2.out⟩ HL2.out)
      · rw [if_neg h0] at hO
        have HO := hide hO.symm
        have q0 : decide (lo < 0) = true := by simpa using h0
        clear hO HO' h0
        obtain ⟨z1, hz1⟩ : ∃ z1 : Int, m + 1 = z1 := ⟨_, rfl⟩
        obtain ⟨z2, hz2⟩ : ∃ z2 : Int, m + 2 = z2 := ⟨_, rfl⟩
        rw [hz1] at HO
        have HZ1 : Hid (((M ++ [(⟨33, x, 0, 0, k, s⟩ : In)]).length : Int) = z1) := hide (by have := HMl.out; simp; omega)
        have HZ2 : Hid (((M ++ [(⟨33, x, 0, 0, k, s⟩ : In)] ++ [(⟨30, x, 0, 0, 31, 0⟩ : In)]).length : Int) = z2) := hide (by have := HMl.out; simp; omega)
        have HZm := hide hz2
        clear hz1 hz2
        have HU := hide (uput_z ⟨30, x, 0, 0, 31, 0⟩ HF2.out HZ1.out (by have := HM.out; simp; omega))
        go_wp2_with fail
        refine HU.out.mono ?_
        clear HU
        rintro e V3 ⟨rfl, ⟨mv3, hw⟩, hb, hk⟩
        have HF3 := hide hw
        have HL3 := hide (HL2.out.trans hb)
        clear hw hb hk
        have HU := hide (uput_z ⟨9, m, z1, 0, 0, 0⟩ HF3.out HZ2.out (by have := HM.out; simp; omega))
        go_wp2_with fail
        refine HU.out.mono ?_
        clear HU
        rintro e V4 ⟨rfl, ⟨mv4, hw⟩, hb, hk⟩
        have HF4 := hide hw
        have HL4 := hide (HL3.out.trans hb)
        clear hw hb hk
        go_wp2_with fail
        exact bodyPost_ret (v := .tuple #[.int .i64 z2, .bool true]) (by simp [results, Tryz.results180, go_sem]) rfl (QpP.many _ HO.out (by have := HMl.out; have := HZm.out; simp; simp at *; omega) ⟨_, by simpa using HF4.out⟩ HL4.out)

end Go.Proofs.Rdc

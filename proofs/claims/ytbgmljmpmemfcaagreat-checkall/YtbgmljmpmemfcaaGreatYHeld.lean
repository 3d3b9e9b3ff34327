/-
 ref.Held: a tree that Roomy made is as it was, the marks behind its lists too.
-/
import Derived.Test.YtbgmljmpmemfcaaGreatYCoR
import Derived.Test.YtbgmljmpmemfcaaGreatYSq
import Derived.Deep.QuietTactic
import Derived.BigQuiet
namespace Go.Proofs.YtbgmljmpmemfcaaGreat
open Go.RowKit Go.IntWalk Lx Pz
set_option linter.unusedVariables false

theorem below_cell {W W' : World} {p : Addr} {v : Value} (hb : Below W.heap.size W W') (h : W.cell? p = some v) : W'.cell? p = some v := by
 rw [hb.cell (World.block_lt_of_cell? W _ h)]
 exact h
theorem RmR.tx {w : World} {base n : Nat} {v : Value} {NM : List Txt} (h : RmR w base 9 1 v n (tx64 NM ++ [.string (sB spareT)])) : ∃ g cap, v = .slice (some ⟨g, 0, none⟩) n cap ∧ Tx w (some ⟨g, 0, none⟩) n cap NM ∧ n + 1 ≤ cap ∧ cap ≤ 9223372036854775807 ∧ w.cell? ⟨g, n, none⟩ = some (.string (sB spareT)) := by
 obtain ⟨g, cap, rfl, ho⟩ := h
 obtain ⟨h1, h2⟩ := own_caps ho
 have hlen : NM.length = n := by have := ho.1; simp [tx64] at this; omega
 have hcs := fun j u hu => ho.cells (g := g) rfl j u hu
 refine ⟨g, cap, rfl, ⟨hlen, by omega, h2, ?_⟩, h1, by unfold maxLen at h2; exact h2, ?_⟩
 ·by_cases h0 : n = 0
  ·exact .inl h0
  ·refine .inr ⟨g, 0, rfl, fun i hi => ?_⟩
   have := hcs i (.string (sB (NM.getD i []))) (by
    rw [List.getElem?_append_left (by simp [tx64]; omega)]
    simp [tx64, List.getD, hlen, hi])
   rw [Addr.add_lit] at this
   exact this
 ·have := hcs n (.string (sB spareT)) (by
   rw [List.getElem?_append_right (by simp [tx64]; omega)]
   simp [tx64, hlen])
  rw [Addr.add_lit, Nat.zero_add] at this
  exact this
theorem RmR.iz {w : World} {base n : Nat} {v : Value} {BS : List Int} (h : RmR w base 3 1 v n (in64 BS ++ [.int .i64 7777])) : ∃ g cap, v = .slice (some ⟨g, 0, none⟩) n cap ∧ Iz w (some ⟨g, 0, none⟩) n cap BS ∧ n + 1 ≤ cap ∧ cap ≤ 9223372036854775807 ∧ w.cell? ⟨g, n, none⟩ = some (.int .i64 7777) := by
 obtain ⟨g, cap, rfl, ho⟩ := h
 obtain ⟨h1, h2⟩ := own_caps ho
 have hlen : BS.length = n := by have := ho.1; simp [in64] at this; omega
 have hcs := fun j u hu => ho.cells (g := g) rfl j u hu
 have hc : w.cell? ⟨g, n, none⟩ = some (.int .i64 7777) := by
  have := hcs n (.int .i64 7777) (by
   rw [List.getElem?_append_right (by simp [in64]; omega)]
   simp [in64, hlen])
  rw [Addr.add_lit, Nat.zero_add] at this
  exact this
 refine ⟨g, cap, rfl, ⟨hlen, by omega, h2, ?_⟩, h1, by unfold maxLen at h2; exact h2, hc⟩
 ·by_cases h0 : n = 0
  ·exact .inl h0
  ·refine .inr ⟨g, 0, rfl, World.block_lt_of_cell? w _ hc, fun i hi => ?_⟩
   have := hcs i (.int .i64 (BS.getD i 0)) (by
    rw [List.getElem?_append_left (by simp [in64]; omega)]
    simp [in64, List.getD, hlen, hi])
   rw [Addr.add_lit] at this
   exact this
theorem RmR.nz {w : World} {base n : Nat} {v : Value} {NS : List Nd} (h : RmR w base 53 9 v n (nd64 NS ++ nd9 spareN)) : ∃ g cap, v = .slice (some ⟨g, 0, none⟩) n cap ∧ Nz w (some ⟨g, 0, none⟩) n cap NS ∧ n + 1 ≤ cap ∧ cap ≤ 9223372036854775807 ∧ w.cell? ⟨g, n * 9, none⟩ = some (.int .i64 7777) := by
 obtain ⟨g, cap, rfl, ho⟩ := h
 obtain ⟨h1, h2⟩ := own_caps ho
 have hlen : NS.length = n := by have := ho.1; simp [nd64_len, nd9] at this; omega
 have hcs := fun j u hu => ho.cells (g := g) rfl j u hu
 have hc : w.cell? ⟨g, n * 9, none⟩ = some (.int .i64 7777) := by
  have := hcs (n * 9) (.int .i64 7777) (by
   rw [List.getElem?_append_right (by rw [nd64_len]; omega), nd64_len, hlen, Nat.sub_self]
   rfl)
  rw [Addr.add_lit, Nat.zero_add] at this
  exact this
 refine ⟨g, cap, rfl, ⟨hlen, by omega, h2, ?_⟩, h1, by unfold maxLen at h2; exact h2, hc⟩
 ·by_cases h0 : n = 0
  ·exact .inl h0
  ·refine .inr ⟨g, 0, rfl, World.block_lt_of_cell? w _ hc, fun i hi j v hv => ?_⟩
   have hj : j < 9 := by
    have := (List.getElem?_eq_some_iff.1 hv).1
    simpa [nd9] using this
   have := hcs (i * 9 + j) v (by
    rw [List.getElem?_append_left (by rw [nd64_len]; omega)]
    exact nd64_get NS i (by omega) j v hv)
   rw [Addr.add_lit, Nat.zero_add] at this
   rw [Nat.zero_add]
   exact this

set_option maxRecDepth 100000 in
set_option maxHeartbeats 8000000 in
theorem held_any {W : World} {na ba da : Option Addr} {nl nc bl bc dl dc g1 g2 g3 k1 k2 k3 : Nat} {root : Int} {NM : List Txt} {BS : List Int} {NS : List Nd}
  (hX : Tx W (some ⟨g1, 0, none⟩) nl k1 NM) (hB : Iz W (some ⟨g2, 0, none⟩) bl k2 BS) (hN : Nz W (some ⟨g3, 0, none⟩) dl k3 NS) (hX2 : Tx W na nl nc NM) (hB2 : Iz W ba bl bc BS) (hN2 : Nz W da dl dc NS)
  (l1 : nl + 1 ≤ k1) (l2 : bl + 1 ≤ k2) (l3 : dl + 1 ≤ k3) (m1 : k1 ≤ 9223372036854775807) (m2 : k2 ≤ 9223372036854775807) (m3 : k3 ≤ 9223372036854775807)
  (c1 : W.cell? ⟨g1, nl, none⟩ = some (.string (sB spareT))) (c2 : W.cell? ⟨g2, bl, none⟩ = some (.int .i64 7777)) (c3 : W.cell? ⟨g3, dl * 9, none⟩ = some (.int .i64 7777)) :
  Calls Tryz.prog 13 #[.agg #[.slice (some ⟨g1, 0, none⟩) nl k1, .slice (some ⟨g2, 0, none⟩) bl k2, .slice (some ⟨g3, 0, none⟩) dl k3, .int .i64 root], .agg #[.slice na nl nc, .slice ba bl bc, .slice da dl dc, .int .i64 root]] W fun e W' => e = .returned (.bool true) ∧ Below W.heap.size W W' := by
 obtain ⟨U, hU⟩ : ∃ U, (W.alloc (.cells #[.slice (some ⟨g1, 0, none⟩) nl k1, .slice (some ⟨g2, 0, none⟩) bl k2, .slice (some ⟨g3, 0, none⟩) dl k3, .int .i64 root] 28)).alloc (.cells #[.slice na nl nc, .slice ba bl bc, .slice da dl dc, .int .i64 root] 28) = U := ⟨_, rfl⟩
 have hb : Below W.heap.size W U := by rw [← hU]; exact bel (bel1 W _) (bel1 _ _)
 have HA := hide (show HasC U W.heap.size 28 #[.slice (some ⟨g1, 0, none⟩) nl k1, .slice (some ⟨g2, 0, none⟩) bl k2, .slice (some ⟨g3, 0, none⟩) dl k3, .int .i64 root] by rw [← hU]; exact (HasC.new _ _ _).alloc _)
 have HC := hide (show HasC U (W.heap.size + 1) 28 #[.slice na nl nc, .slice ba bl bc, .slice da dl dc, .int .i64 root] by
  rw [← hU]
  have := HasC.new (W.alloc (.cells #[.slice (some ⟨g1, 0, none⟩) nl k1, .slice (some ⟨g2, 0, none⟩) bl k2, .slice (some ⟨g3, 0, none⟩) dl k3, .int .i64 root] 28)) 28 #[.slice na nl nc, .slice ba bl bc, .slice da dl dc, .int .i64 root]
  rw [World.size_alloc] at this
  exact this)
 have HSm := hide (same_self (hX.later hb) (hB.later hb) (hN.later hb) (hX2.later hb) (hB2.later hb) (hN2.later hb) (root := root))
 have HBb := hide hb
 have HU := hide hU
 have HCC := hide (And.intro (below_cell hb c1) (And.intro (below_cell hb c2) (below_cell hb c3)))
 clear hX hB hN hX2 hB2 hN2 c1 c2 c3 hb hU
 obtain ⟨t0, t1, t2, t3⟩ := facts4 HA.out
 obtain ⟨s0, s1, s2, s3⟩ := facts4 HC.out
 go_enter Tryz.func13, Tryz.ntmps13
 go_wp2_with fail
 rw [HU.out]
 go_wp2_with fail
 refine HSm.out.mono ?_
 clear HSm t0 t1 t2 t3 s0 s1 s2 s3
 rintro e V ⟨rfl, hb⟩
 obtain ⟨t0, t1, t2, t3⟩ := facts4 (HA.out.below hb)
 obtain ⟨s0, s1, s2, s3⟩ := facts4 (HC.out.below hb)
 have c1 := below_cell hb HCC.out.1
 have c2 := below_cell hb HCC.out.2.1
 have c3 := below_cell hb HCC.out.2.2
 have HB2 := hide (bel HBb.out hb)
 clear hb HCC HA HC HU HBb
 go_wp2_with fail
 have hw1 : IntKind.i64.wrap ((nl : Int) + 1) = ((nl + 1 : Nat) : Int) := by rw [IntWalk.i64_in _ ⟨by omega, by omega⟩]; rfl
 have ha1 : (0 : Int) ≤ (nl : Int) + 1 := by omega
 have hb1 : (nl : Int) + 1 ≤ (k1 : Int) := by omega
 have hc1 : (nl : Int) < (nl : Int) + 1 := by omega
 have hd1 : ((nl : Int) + 1).toNat = nl + 1 := by omega
 have he1 : ¬ ((nl : Int) + 1 < 0) := by omega
 have hf1 : ¬ ((k1 : Int) < (nl : Int) + 1) := by omega
 have hw2 : IntKind.i64.wrap ((bl : Int) + 1) = ((bl + 1 : Nat) : Int) := by rw [IntWalk.i64_in _ ⟨by omega, by omega⟩]; rfl
 have ha2 : (0 : Int) ≤ (bl : Int) + 1 := by omega
 have hb2 : (bl : Int) + 1 ≤ (k2 : Int) := by omega
 have hc2 : (bl : Int) < (bl : Int) + 1 := by omega
 have hd2 : ((bl : Int) + 1).toNat = bl + 1 := by omega
 have he2 : ¬ ((bl : Int) + 1 < 0) := by omega
 have hf2 : ¬ ((k2 : Int) < (bl : Int) + 1) := by omega
 have hw3 : IntKind.i64.wrap ((dl : Int) + 1) = ((dl + 1 : Nat) : Int) := by rw [IntWalk.i64_in _ ⟨by omega, by omega⟩]; rfl
 have ha3 : (0 : Int) ≤ (dl : Int) + 1 := by omega
 have hb3 : (dl : Int) + 1 ≤ (k3 : Int) := by omega
 have hc3 : (dl : Int) < (dl : Int) + 1 := by omega
 have hd3 : ((dl : Int) + 1).toNat = dl + 1 := by omega
 have he3 : ¬ ((dl : Int) + 1 < 0) := by omega
 have hf3 : ¬ ((k3 : Int) < (dl : Int) + 1) := by omega
 go_quiet (fail)
 go_wp2_with fail
 rw [show (spareT == [115, 112, 97, 114, 101]) = true by decide]
 exact bodyPost_ret (v := .bool true) (by simp [results, Tryz.results13, go_sem]) rfl ⟨rfl, bel HB2.out (below_drewN _ _)⟩

end Go.Proofs.YtbgmljmpmemfcaaGreat

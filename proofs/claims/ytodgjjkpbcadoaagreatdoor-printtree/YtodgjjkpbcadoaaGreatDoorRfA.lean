/-
  What the reference's rank and marks answer, and its Decimal.
-/
import Derived.Test.YtodgjjkpbcadoaaGreatDoorGr5P
import Derived.Test.YtodgjjkpbcadoaaGreatDoorRnode
import Derived.Test.YtodgjjkpbcadoaaGreatDoorQsSn
import Derived.Laws.IdiomStrings
import Derived.Laws.Concat
import Derived.Lib.ItoaLen
import Derived.Test.YtodgjjkpbcadoaaGreatDoorPgPn
namespace Go.Proofs.YtodgjjkpbcadoaaGreatDoor
open Go.RowKit Go.IntWalk Lx Pz
set_option linter.unusedVariables false

set_option maxHeartbeats 8000000 in
set_option maxRecDepth 100000 in
theorem rank_any (k : Nat) (h : 1 ≤ k ∧ k ≤ 28) (W : World) : Calls Tryz.prog 29 #[.int .i64 (k : Int)] W fun e W' => e = .returned (.int .i64 (ork (k : Int) : Nat)) ∧ W' = W := by
  have hk : k = 1 ∨ k = 2 ∨ k = 3 ∨ k = 4 ∨ k = 5 ∨ k = 6 ∨ k = 7 ∨ k = 8 ∨ k = 9 ∨ k = 10 ∨ k = 11 ∨ k = 12 ∨ k = 13 ∨ k = 14 ∨ k = 15 ∨ k = 16 ∨ k = 17 ∨ k = 18 ∨ k = 19 ∨ k = 20 ∨ k = 21 ∨ k = 22 ∨ k = 23 ∨ k = 24 ∨ k = 25 ∨ k = 26 ∨ k = 27 ∨ k = 28 := by omega
  clear h
  rcases hk with rfl | rfl | rfl | rfl | rfl | rfl | rfl | rfl | rfl | rfl | rfl | rfl | rfl | rfl | rfl | rfl | rfl | rfl | rfl | rfl | rfl | rfl | rfl | rfl | rfl | rfl | rfl | rfl
  all_goals
    go_enter Tryz.func29, Tryz.ntmps29
    go_wp2_with fail
    go_ret
    exact ⟨rfl, rfl⟩

def mksL : List Txt := [[43], [45], [42], [47], [37], [60, 60], [62, 62], [38], [124], [94], [60], [60, 61], [62], [62, 61], [61, 61], [33, 61]]
abbrev mksC : Array Value := #[.string ⟨#[43]⟩, .string ⟨#[45]⟩, .string ⟨#[42]⟩, .string ⟨#[47]⟩, .string ⟨#[37]⟩, .string ⟨#[60, 60]⟩, .string ⟨#[62, 62]⟩, .string ⟨#[38]⟩, .string ⟨#[124]⟩, .string ⟨#[94]⟩, .string ⟨#[60]⟩, .string ⟨#[60, 61]⟩, .string ⟨#[62]⟩, .string ⟨#[62, 61]⟩, .string ⟨#[61, 61]⟩, .string ⟨#[33, 61]⟩]
set_option maxHeartbeats 1000000 in
theorem marks_any (W : World) : Calls Tryz.prog 32 #[] W fun e W' => e = .returned (.slice (some ⟨W.heap.size, 0, none⟩) 16 16) ∧ W' = W.alloc (.cells mksC 9) := by
  go_enter Tryz.func32, Tryz.ntmps32
  go_wp2
  go_ret
  exact ⟨rfl, rfl⟩

theorem sB_app (a b : Txt) : sB a ++ sB b = sB (a ++ b) := by
  simp [sB, ByteArray.ext_iff]
theorem add_run {A B C : ByteArray} (hc : A ++ B = C) (h : A.size + B.size ≤ 9223372036854775807) (W : World) : (Op.stringOp .add A B).run Tryz.prog W = .ok (.string C) W := by
  rw [run_string_add_sum W A B h, hc]
theorem conv_digit (W : World) (d : Nat) (hd : d < 10) (z : Int) (hz : z = 48 + d) : (convert 42 9 (.slice (some ⟨W.heap.size, 0, none⟩) 1 1)).run Tryz.prog (W.alloc (.cells #[.int .u8 z] 5)) = .ok (.string (sB [UInt8.ofNat (48 + d)])) (W.alloc (.cells #[.int .u8 z] 5)) := by
  have h : (UInt8.ofNat (48 + d)).toNat = 48 + d := by simp; omega
  refine run_convert_bytes_back (P := Tryz.prog) _ 42 9 5 _ 1 [UInt8.ofNat (48 + d)] Tryz.underlying42 Tryz.underlying5 Tryz.underlying9 ?_
  intro j hj
  obtain rfl : j = 0 := by simpa using hj
  have := (HasC.new W 5 #[.int .u8 z]).cell 0 rfl
  rw [Addr.add_lit]
  simp only [List.getElem_cons_zero, h]
  rw [show ((48 + d : Nat) : Int) = z by omega]
  exact this

set_option maxHeartbeats 4000000 in
set_option maxRecDepth 100000 in
theorem dec_nat : ∀ (n : Nat), n ≤ 9223372036854775807 → ∀ W : World, Calls Tryz.prog 30 #[.int .i64 (n : Int)] W fun e W' => e = .returned (.string (sB (Lib.decDigits n))) ∧ Below W.heap.size W W' := by
  intro n
  induction n using Nat.strongRecOn with
  | _ n ih =>
    intro hn W
    have HC := conv_digit W (n % 10) (by omega) (48 + (n : Int) % 10) (by omega)
    obtain ⟨dgt, hdg⟩ : ∃ c, UInt8.ofNat (48 + n % 10) = c := ⟨_, rfl⟩
    rw [hdg] at HC
    by_cases h : n < 10
    · have HD := hide (show Lib.decDigits n = [dgt] by rw [Lib.decDigits, dif_pos h, ← hdg, Nat.mod_eq_of_lt h])
      clear ih hdg
      go_enter Tryz.func30, Tryz.ntmps30
      go_wp2_with fail
      clear HC
      go_ret
      refine ⟨?_, bel1 _ _⟩
      rw [HD.out]
      rfl
    · have HD := hide (show Lib.decDigits n = Lib.decDigits (n / 10) ++ [dgt] by rw [Lib.decDigits, dif_neg h, hdg])
      have HI := hide (ih (n / 10) (by omega) (by omega) (W.alloc (.cells #[.int .u8 (48 + (n : Int) % 10)] 5)))
      rw [show ((n / 10 : Nat) : Int) = (n : Int) / 10 by omega] at HI
      obtain ⟨C, hC⟩ : ∃ C, sB (Lib.decDigits (n / 10)) ++ sB [dgt] = C := ⟨_, rfl⟩
      have hl : (Lib.decDigits (n / 10)).length ≤ 21 := by
        have := Lib.itoa_length_le ((n / 10 : Nat) : Int) (by omega) (by omega)
        rwa [Lib.itoa, if_neg (by omega), Int.toNat_natCast] at this
      have HA := fun W => add_run hC (by rw [sB_size, sB_size]; simp; omega) W
      rw [sB_app, ← HD.out] at hC
      obtain ⟨A, hA⟩ : ∃ A, sB (Lib.decDigits (n / 10)) = A := ⟨_, rfl⟩
      rw [hA] at HA HI
      clear HD hl hA
      clear ih hdg
      go_enter Tryz.func30, Tryz.ntmps30
      go_wp2_with fail
      clear HC
      refine HI.out.mono ?_
      rintro e W1 ⟨rfl, hb⟩
      have HB := hide (bel (bel1 _ _) hb)
      clear hb
      go_wp2_with fail
      go_ret
      exact ⟨by rw [hC]; rfl, HB.out⟩

set_option maxHeartbeats 4000000 in
set_option maxRecDepth 100000 in
theorem dec_any (n : Int) (h0 : -9223372036854775807 ≤ n) (h1 : n ≤ 9223372036854775807) (W : World) : Calls Tryz.prog 30 #[.int .i64 n] W fun e W' => e = .returned (.string (sB (Lib.itoa n))) ∧ Below W.heap.size W W' := by
  by_cases h : n < 0
  · have HI := hide (dec_nat n.natAbs (by omega) W)
    rw [show ((n.natAbs : Nat) : Int) = -n by omega] at HI
    have hl : (Lib.itoa n).length ≤ 21 := Lib.itoa_length_le n (by omega) h1
    have hT : Lib.itoa n = [45] ++ Lib.decDigits n.natAbs := by rw [Lib.itoa, if_pos h]; rfl
    obtain ⟨C, hC⟩ : ∃ C, (⟨#[45]⟩ : ByteArray) ++ sB (Lib.decDigits n.natAbs) = C := ⟨_, rfl⟩
    rw [hT] at hl
    have HA := fun W => add_run hC (by rw [sB_size]; simp at hl; simp [ByteArray.size]; omega) W
    rw [show (⟨#[45]⟩ : ByteArray) = sB [45] from rfl, sB_app, ← hT] at hC
    obtain ⟨A, hA⟩ : ∃ A, sB (Lib.decDigits n.natAbs) = A := ⟨_, rfl⟩
    rw [hA] at HA HI
    clear hT hl hA
    go_enter Tryz.func30, Tryz.ntmps30
    go_wp2_with fail
    refine HI.out.mono ?_
    rintro e W1 ⟨rfl, hb⟩
    have HB := hide hb
    clear hb
    go_wp2_with fail
    go_ret
    exact ⟨by rw [hC]; rfl, HB.out⟩
  · have := dec_nat n.toNat (by omega) W
    rw [show ((n.toNat : Nat) : Int) = n by omega] at this
    rw [show Lib.itoa n = Lib.decDigits n.toNat by rw [Lib.itoa, if_neg h]]
    exact this

end Go.Proofs.YtodgjjkpbcadoaaGreatDoor

/-
  What the reference's bracketed answers, if its Node answers so.
-/
namespace Go.Proofs.YtodgjjkpbcadoaaGreatDoor
open Go.RowKit Go.IntWalk Lx Pz
set_option linter.unusedVariables false

/-- The tree that the reference was given, in a later world. -/
structure Er (V : World) (t : Tv) (NM : List Txt) (NS : List Nd) : Prop where
  names : ∃ na nl nc, t.nv = .slice na nl nc ∧ Tx V na nl nc NM
  nodes : ∃ da dl dc, t.dv = .slice da dl dc ∧ Nz V da dl dc NS
  few : NS.length ≤ 1024
theorem Er.later {V V' : World} {t : Tv} {NM : List Txt} {NS : List Nd} (h : Er V t NM NS) (hb : Below V.heap.size V V') : Er V' t NM NS := by
  obtain ⟨⟨na, nl, nc, h1, h2⟩, ⟨da, dl, dc, h3, h4⟩, h5⟩ := h
  exact ⟨⟨na, nl, nc, h1, h2.later hb⟩, ⟨da, dl, dc, h3, h4.later hb⟩, h5⟩
theorem Er.node {W : World} {t : Tv} {NM : List Txt} {NS : List Nd} (h : Er W t NM NS) {i : Nat} {n : Nd} (hi : NS[i]? = some n) :
    ∃ g off dl dc, t.dv = .slice (some ⟨g, off, none⟩) dl dc ∧ i < dl ∧ dl ≤ 1024 ∧ dl ≤ dc ∧ at9 W g (off + i * 9) n ∧ g < W.heap.size := by
  obtain ⟨da, dl, dc, h1, h2⟩ := h.nodes
  have hlt : i < NS.length := (List.getElem?_eq_some_iff.1 hi).1
  have hl := h2.len
  have hf := h.few
  obtain ⟨g, off, rfl, hc⟩ := h2.at (by omega)
  refine ⟨g, off, dl, dc, h1, by omega, by omega, h2.le, ?_⟩
  have := hc i (by omega)
  rw [List.getD_eq_getElem?_getD, hi] at this
  exact ⟨this, World.block_lt_of_cell? W _ this.1⟩
theorem Er.name {W : World} {t : Tv} {NM : List Txt} {NS : List Nd} (h : Er W t NM NS) {k : Nat} (hk : k < NM.length) :
    ∃ g off nl nc, t.nv = .slice (some ⟨g, off, none⟩) nl nc ∧ k < nl ∧ nl ≤ 9223372036854775807 ∧ nl ≤ nc ∧ W.cell? ⟨g, off + k, none⟩ = some (.string (sB (NM.getD k []))) := by
  obtain ⟨na, nl, nc, h1, h2⟩ := h.names
  have hl := h2.len
  have hm := h2.max
  have hc := h2.le
  rcases h2.cell with h0 | ⟨g, off, rfl, h3⟩
  · omega
  · exact ⟨g, off, nl, nc, h1, by omega, by unfold maxLen at hm; omega, hc, h3 k (by omega)⟩

theorem cat {A B : ByteArray} {a b : Txt} (hA : A = sB a) (hB : B = sB b) (h : a.length + b.length ≤ 9223372036854775807) : ∃ C, C = sB (a ++ b) ∧ ∀ W, (Op.stringOp .add A B).run Tryz.prog W = .ok (.string C) W :=
  ⟨_, rfl, fun W => add_run (by rw [hA, hB, sB_app]) (by rw [hA, hB, sB_size, sB_size]; exact h) W⟩
theorem some_sB (a : Txt) : ∃ A, A = sB a := ⟨_, rfl⟩

abbrev tvA (t : Tv) : Array Value := #[t.nv, t.bv, t.dv, t.rv]
/-- Node answers the expression's text. -/
def NodeR (t : Tv) (NM : List Txt) (NS : List Nd) (e : E) : Prop :=
  ∀ (V : World) (i : Nat), Er V t NM NS → Lies NS e i → Calls Tryz.prog 15 #[.agg (tvA t), .int .i64 i] V fun r V' => r = .returned (.string (sB (etx NM e))) ∧ Below V.heap.size V V'

set_option maxHeartbeats 4000000 in
set_option maxRecDepth 100000 in
theorem brac_any {t : Tv} {NM : List Txt} {NS : List Nd} {e : E} (hN : NodeR t NM NS e) (ho : 1 ≤ opE e ∧ opE e ≤ 28) (hl : (etx NM e).length ≤ 1048576) (c : Nat) (hc : c ≤ 9) (V : World) (i : Nat) (hE : Er V t NM NS) (hL : Lies NS e i) :
    Calls Tryz.prog 31 #[.agg (tvA t), .int .i64 i, .int .i64 c] V fun r V' => r = .returned (.string (sB (prp NM c e))) ∧ Below V.heap.size V V' := by
  obtain ⟨nv, bv, dv, rv⟩ := t
  obtain ⟨n, hi, hop⟩ := lies_op hL
  obtain ⟨k, hk⟩ : ∃ k : Nat, opE e = k := ⟨(opE e).toNat, by omega⟩
  have hb0 := bel1 V (.cells #[nv, bv, dv, rv] 26)
  have HNd := hide (fun (X : World) (h : Er X ⟨nv, bv, dv, rv⟩ NM NS) => h.node hi)
  have HE := hide (hE.later hb0)
  have HB := hide hb0
  have HH := hide (HasC.new V 26 #[nv, bv, dv, rv])
  have HN := hide (hN _ i HE.out hL)
  have HR := hide (fun X => rank_any k (by omega) X)
  rw [show ork (k : Int) = rkE e by rw [rk_op, hk]] at HR
  obtain ⟨t0, t1, t2, t3⟩ := facts4 HH.out
  rw [hop.symm] at hk
  obtain ⟨S, hS⟩ := some_sB (etx NM e)
  rw [← hS] at HN
  clear hN hE hL hb0 ho hop hi
  by_cases hr : rkE e < c
  · have ht : prp NM c e = 40 :: (etx NM e ++ [41]) := by unfold prp brk; rw [decide_eq_true hr]; rfl
    obtain ⟨A, hA, a1⟩ := cat (A := ⟨#[40]⟩) (a := [40]) rfl hS (by simp only [List.length_cons, List.length_nil]; omega)
    obtain ⟨B, hB, a2⟩ := cat (B := ⟨#[41]⟩) (b := [41]) hA rfl (by simp only [List.length_cons, List.length_append, List.length_nil]; omega)
    rw [show [40] ++ etx NM e ++ [41] = prp NM c e by rw [ht]; simp] at hB
    have HT := hide hB
    clear hA hB hS ht hl
    generalize rkE e = rr at *
    go_enter Tryz.func31, Tryz.ntmps31
    go_wp2_with fail
    refine HN.out.mono ?_
    rintro r W1 ⟨rfl, hb⟩
    have HE1 := hide (HE.out.later hb)
    have HB1 := hide (bel HB.out hb)
    have HH1 := hide (HH.out.below hb)
    obtain ⟨g, off, dl, dc, hdv, hil, hdl, hdc, ⟨c0, -⟩, hg⟩ := HNd.out _ HE1.out
    subst hdv
    rw [hk] at c0
    clear hb HE HB HH HNd t0 t1 t2 t3
    obtain ⟨t0, t1, t2, t3⟩ := facts4 HH1.out
    go_wp2_with fail
    refine (HR.out _).mono ?_
    rintro r W2 ⟨rfl, rfl⟩
    go_wp2_with fail
    go_ret
    exact ⟨by rw [← HT.out]; rfl, HB1.out⟩
  · have ht : prp NM c e = etx NM e := by unfold prp brk; rw [decide_eq_false hr]; rfl
    rw [ht, ← hS]
    clear hS ht hl
    generalize rkE e = rr at *
    go_enter Tryz.func31, Tryz.ntmps31
    go_wp2_with fail
    refine HN.out.mono ?_
    rintro r W1 ⟨rfl, hb⟩
    have HE1 := hide (HE.out.later hb)
    have HB1 := hide (bel HB.out hb)
    have HH1 := hide (HH.out.below hb)
    obtain ⟨g, off, dl, dc, hdv, hil, hdl, hdc, ⟨c0, -⟩, hg⟩ := HNd.out _ HE1.out
    subst hdv
    rw [hk] at c0
    clear hb HE HB HH HNd t0 t1 t2 t3
    obtain ⟨t0, t1, t2, t3⟩ := facts4 HH1.out
    go_wp2_with fail
    refine (HR.out _).mono ?_
    rintro r W2 ⟨rfl, rfl⟩
    go_wp2_with fail
    go_ret
    exact ⟨rfl, HB1.out⟩

/-- Node's frame: the tree, the node, and what lay ahead. -/
structure Nst (V w : World) (nv bv dv rv : Value) (n : Nd) (NM : List Txt) (NS : List Nd) : Prop where
  old : Below V.heap.size V w
  E : Er w ⟨nv, bv, dv, rv⟩ NM NS
  T : HasC w V.heap.size 26 #[nv, bv, dv, rv]
  X : HasC w (V.heap.size + 1) 39 (ndA n)
theorem Nst.later {V w w' : World} {nv bv dv rv : Value} {n : Nd} {NM : List Txt} {NS : List Nd} (h : Nst V w nv bv dv rv n NM NS) (hb : Below w.heap.size w w') : Nst V w' nv bv dv rv n NM NS :=
  ⟨bel h.old hb, h.E.later hb, h.T.below hb, h.X.below hb⟩
abbrev NstS (V w : World) (nv bv dv rv : Value) (n : Nd) (NM : List Txt) (NS : List Nd) : Prop :=
  w.cell? ⟨V.heap.size, 0, none⟩ = some nv ∧ w.cell? ⟨V.heap.size, 1, none⟩ = some bv ∧ w.cell? ⟨V.heap.size, 2, none⟩ = some dv ∧ w.cell? ⟨V.heap.size, 3, none⟩ = some rv ∧
  w.cell? ⟨V.heap.size + 1, 0, none⟩ = some (.int .i64 n.op) ∧ w.cell? ⟨V.heap.size + 1, 1, none⟩ = some (.int .i64 n.a) ∧ w.cell? ⟨V.heap.size + 1, 2, none⟩ = some (.int .i64 n.b) ∧ w.cell? ⟨V.heap.size + 1, 3, none⟩ = some (.int .i64 n.c) ∧ Nst V w nv bv dv rv n NM NS
theorem Nst.all {V w : World} {nv bv dv rv : Value} {n : Nd} {NM : List Txt} {NS : List Nd} (h : Nst V w nv bv dv rv n NM NS) : NstS V w nv bv dv rv n NM NS := by
  obtain ⟨t0, t1, t2, t3⟩ := facts4 h.T
  obtain ⟨c0, c1, c2, c3, -⟩ := h.X.nine
  exact ⟨t0, t1, t2, t3, c0, c1, c2, c3, h⟩

end Go.Proofs.YtodgjjkpbcadoaaGreatDoor

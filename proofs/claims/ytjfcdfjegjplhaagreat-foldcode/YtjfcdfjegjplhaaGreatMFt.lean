/-
  The document's Through; FoldThrough's arguments.
-/
import Derived.Test.YtjfcdfjegjplhaaGreatMFa
import Derived.Test.YtjfcdfjegjplhaaGreatMCdOpenC
import Derived.Test.YtjfcdfjegjplhaaGreatMSpB
namespace Go.Proofs.Fld
open Go.RowKit Go.IntWalk YtjfcdfjegjplhaaGreat.Knd
open Cde (In i0 ia kd cd Ins at6 six_of has_new1 i6)
set_option linter.unusedVariables false

theorem and3 (x : Int) : 0 ≤ bits .and .i64 x 3 ∧ bits .and .i64 x 3 ≤ 3 := by
  have h : bits .and .i64 x 3 = (BitVec.ofInt 64 x &&& BitVec.ofInt 64 3).toInt := YtjfcdfjegjplhaaGreat.Spn.bw_eq .and x 3
  rw [h, show BitVec.ofInt 64 3 = 3#64 from rfl]
  have h1 : (BitVec.ofInt 64 x &&& 3#64).toNat ≤ 3 := by
    rw [BitVec.toNat_and]
    exact Nat.and_le_right
  rw [BitVec.toInt_eq_toNat_cond]
  split <;> omega

/-- What the document's Through asks: the registers that are read stand in the list. -/
def ThOk (n : In) (m : Nat) : Prop := (0 < ar n.op → In1 n.a m) ∧ (1 < ar n.op → In1 n.b m) ∧ (2 < ar n.op → In1 n.c m)
theorem ex_get {T : List Int} {m : Nat} (hl : T.length = m) {r : Int} (h : In1 r m) : exR T r = T.getD r.toNat 0 := by
  unfold exR
  rw [if_neg (by have := h.1; have := h.2; omega)]

set_option maxRecDepth 100000 in
set_option maxHeartbeats 8000000 in
theorem gthrough_any (n : In) {a : Option Addr} {m cap : Nat} {T : List Int} {W : World} (hT : Ints W a m cap T) (hk : ThOk n m) :
    Calls Tryz.prog 15 #[.agg (ia n), .slice a m cap] W fun e W' => e = .returned (.agg (ia (thI n T))) ∧ Below W.heap.size W W' := by
  have HA := hide fun W => YtjfcdfjegjplhaaGreat.Spn.rarity_any n.op W
  have hs : m ≤ 9223372036854775807 := by have := hT.le; have := hT.max; unfold maxLen at this; omega
  have hl := hT.len
  have hbb := bel (bel1 W (.cells (ia n) 39)) (bel1 (W.alloc (.cells (ia n) 39)) (.cells (ia i0) 39))
  have hge := fun (h0 : m ≠ 0) => hT.at h0
  obtain ⟨k1, k2, k3⟩ := hk
  rcases Cde.ar_five n.op with h | h | h | h | h
  · rw [th_0 (by rw [ar, h]; decide)]
    rw [h] at HA
    clear h k1 k2 k3 hge
    go_enter Tryz.func15, Tryz.ntmps15
    go_wp2_with (go_at_call 19; refine (HA.out _).mono ?_; rintro e w' ⟨rfl, rfl⟩)
    exact bodyPost_ret (v := .agg (ia _)) (by simp [results, Tryz.results15, go_sem]) rfl ⟨rfl, bel (bel1 W _) (bel1 _ _)⟩
  · rw [th_0 (by rw [ar, h]; decide)]
    rw [h] at HA
    clear h k1 k2 k3 hge
    go_enter Tryz.func15, Tryz.ntmps15
    go_wp2_with (go_at_call 19; refine (HA.out _).mono ?_; rintro e w' ⟨rfl, rfl⟩)
    exact bodyPost_ret (v := .agg (ia _)) (by simp [results, Tryz.results15, go_sem]) rfl ⟨rfl, bel (bel1 W _) (bel1 _ _)⟩
  · have i1 := k1 (by rw [ar, h]; decide)
    rw [th_1 h, ex_get hl i1]
    rw [h] at HA
    obtain ⟨na, hna⟩ : ∃ q : Nat, n.a = q := ⟨n.a.toNat, by have := i1.1; omega⟩
    have l1 : na < m := by have := i1.2; omega
    obtain ⟨b, off, rfl, hblt, hc⟩ := hge (by omega)
    have c1 := hc na l1
    obtain ⟨op, xa, xb, xc, xk, xs⟩ := n
    dsimp only at *
    subst hna
    simp only [Int.toNat_natCast]
    have pa : (0 : Int) ≤ na := by omega
    have qa : (na : Int) < m := by omega
    generalize T.getD na 0 = z1 at *
    clear h k1 k2 k3 hge hc i1 hT hl
    go_enter Tryz.func15, Tryz.ntmps15
    go_wp2_with (go_at_call 19; refine (HA.out _).mono ?_; rintro e w' ⟨rfl, rfl⟩)
    exact bodyPost_ret (v := .agg (ia _)) (by simp [results, Tryz.results15, go_sem]) rfl ⟨rfl, bel (bel1 W _) (bel1 _ _)⟩
  · have i1 := k1 (by rw [ar, h]; decide)
    have i2 := k2 (by rw [ar, h]; decide)
    rw [th_2 h, ex_get hl i1, ex_get hl i2]
    rw [h] at HA
    obtain ⟨na, hna⟩ : ∃ q : Nat, n.a = q := ⟨n.a.toNat, by have := i1.1; omega⟩
    have l1 : na < m := by have := i1.2; omega
    obtain ⟨nb, hnb⟩ : ∃ q : Nat, n.b = q := ⟨n.b.toNat, by have := i2.1; omega⟩
    have l2 : nb < m := by have := i2.2; omega
    obtain ⟨b, off, rfl, hblt, hc⟩ := hge (by omega)
    have c1 := hc na l1
    have c2 := hc nb l2
    obtain ⟨op, xa, xb, xc, xk, xs⟩ := n
    dsimp only at *
    subst hna hnb
    simp only [Int.toNat_natCast]
    have pa : (0 : Int) ≤ na := by omega
    have qa : (na : Int) < m := by omega
    generalize T.getD na 0 = z1 at *
    have pb : (0 : Int) ≤ nb := by omega
    have qb : (nb : Int) < m := by omega
    generalize T.getD nb 0 = z2 at *
    clear h k1 k2 k3 hge hc i1 i2 hT hl
    go_enter Tryz.func15, Tryz.ntmps15
    go_wp2_with (go_at_call 19; refine (HA.out _).mono ?_; rintro e w' ⟨rfl, rfl⟩)
    exact bodyPost_ret (v := .agg (ia _)) (by simp [results, Tryz.results15, go_sem]) rfl ⟨rfl, bel (bel1 W _) (bel1 _ _)⟩
  · have i1 := k1 (by rw [ar, h]; decide)
    have i2 := k2 (by rw [ar, h]; decide)
    have i3 := k3 (by rw [ar, h]; decide)
    rw [th_3 h, ex_get hl i1, ex_get hl i2, ex_get hl i3]
    rw [h] at HA
    obtain ⟨na, hna⟩ : ∃ q : Nat, n.a = q := ⟨n.a.toNat, by have := i1.1; omega⟩
    have l1 : na < m := by have := i1.2; omega
    obtain ⟨nb, hnb⟩ : ∃ q : Nat, n.b = q := ⟨n.b.toNat, by have := i2.1; omega⟩
    have l2 : nb < m := by have := i2.2; omega
    obtain ⟨nc, hnc⟩ : ∃ q : Nat, n.c = q := ⟨n.c.toNat, by have := i3.1; omega⟩
    have l3 : nc < m := by have := i3.2; omega
    obtain ⟨b, off, rfl, hblt, hc⟩ := hge (by omega)
    have c1 := hc na l1
    have c2 := hc nb l2
    have c3 := hc nc l3
    obtain ⟨op, xa, xb, xc, xk, xs⟩ := n
    dsimp only at *
    subst hna hnb hnc
    simp only [Int.toNat_natCast]
    have pa : (0 : Int) ≤ na := by omega
    have qa : (na : Int) < m := by omega
    generalize T.getD na 0 = z1 at *
    have pb : (0 : Int) ≤ nb := by omega
    have qb : (nb : Int) < m := by omega
    generalize T.getD nb 0 = z2 at *
    have pc : (0 : Int) ≤ nc := by omega
    have qc : (nc : Int) < m := by omega
    generalize T.getD nc 0 = z3 at *
    clear h k1 k2 k3 hge hc i1 i2 i3 hT hl
    go_enter Tryz.func15, Tryz.ntmps15
    go_wp2_with (go_at_call 19; refine (HA.out _).mono ?_; rintro e w' ⟨rfl, rfl⟩)
    exact bodyPost_ret (v := .agg (ia _)) (by simp [results, Tryz.results15, go_sem]) rfl ⟨rfl, bel (bel1 W _) (bel1 _ _)⟩

set_option maxRecDepth 100000 in
/-- An instruction that came in. -/
theorem open_inst {H : Type} {enc : TypeId × Value → H} {W : World} {r : Reach} {b0 : Nat} {v : Value} {d : DataW H} {ps : List MemPlace}
    (hval : Value.okWide Tryz.prog W r b0 39 v) (h : DataW.Trod enc Tryz.prog W 0 (fun _ => true) true 39 v d ps) : ∃ n : In, v = .agg (ia n) := by
  unfold Value.okWide at hval
  rw [Tryz.underlying39] at hval
  obtain ⟨cs, rfl, hsz, _⟩ := hval
  obtain ⟨fuel, hf⟩ := h
  obtain ⟨n, hn⟩ := Cde.open_in hf
  refine ⟨n, ?_⟩
  simp only [Value.cells] at hn
  have : cs = (i6 n).toArray := by rw [← hn]
  rw [this]; rfl
end Go.Proofs.Fld

/-
  The document's Through.
-/
import Derived.Test.YtbingoelpeoimaaGreatMU0
import Derived.Test.YtbingoelpeoimaaGreatMF2
import Derived.Test.YtbingoelpeoimaaGreatMSqA
namespace Go.Proofs.Prn
open Go.RowKit Go.IntWalk YtbingoelpeoimaaGreat.Knd
open Cde (In i0 ia kd cd Ins at6 six_of four_of two_of has_new1 okI okT below_drew is6 i6 rgs rgB)
open Fld (ar In1 exR thI th_0 th_1 th_2 th_3 rg_in)
set_option linter.unusedVariables false

theorem cell_bel {V V' : World} {g o : Nat} {v : Value} (hb : Below V.heap.size V V') (h : V.cell? ⟨g, o, none⟩ = some v) (hg : g < V.heap.size) : V'.cell? ⟨g, o, none⟩ = some v := (hb.cell (p := ⟨g, o, none⟩) hg).trans h
/-- What the document's Through asks: the registers that are read stand in the list. -/
def ThOk (n : In) (m : Nat) : Prop := (0 < ar n.op → In1 n.a m) ∧ (1 < ar n.op → In1 n.b m) ∧ (2 < ar n.op → In1 n.c m)
theorem ex_get {T : List Int} {m : Nat} (hl : T.length = m) {r : Int} (h : In1 r m) : exR T r = T.getD r.toNat 0 := by
  unfold exR
  rw [if_neg (by have := h.1; have := h.2; omega)]

set_option maxRecDepth 100000 in
set_option maxHeartbeats 8000000 in
theorem gthrough_any (n : In) {a : Option Addr} {m cap : Nat} {T : List Int} {W : World} (hT : Ints W a m cap T) (hk : ThOk n m) :
    Calls Tryz.prog 18 #[.agg (ia n), .slice a m cap] W fun e W' => e = .returned (.agg (ia (thI n T))) ∧ Below W.heap.size W W' := by
  have HA := hide fun W => YtbingoelpeoimaaGreat.Spn.rarity_any n.op W
  have hs : m ≤ 9223372036854775807 := by have := hT.le; have := hT.max; unfold maxLen at this; omega
  have hl := hT.len
  have hbb := bel (bel1 W (.cells (ia n) 44)) (bel1 (W.alloc (.cells (ia n) 44)) (.cells (ia i0) 44))
  have hge := fun (h0 : m ≠ 0) => hT.at h0
  obtain ⟨k1, k2, k3⟩ := hk
  rcases Cde.ar_five n.op with h | h | h | h | h
  · rw [th_0 (by rw [ar, h]; decide)]
    rw [h] at HA
    clear h k1 k2 k3 hge
    go_enter Tryz.func18, Tryz.ntmps18
    go_wp2_with (go_at_call 32; refine (HA.out _).mono ?_; rintro e w' ⟨rfl, rfl⟩)
    exact bodyPost_ret (v := .agg (ia _)) (by simp [results, Tryz.results18, go_sem]) rfl ⟨rfl, bel (bel1 W _) (bel1 _ _)⟩
  · rw [th_0 (by rw [ar, h]; decide)]
    rw [h] at HA
    clear h k1 k2 k3 hge
    go_enter Tryz.func18, Tryz.ntmps18
    go_wp2_with (go_at_call 32; refine (HA.out _).mono ?_; rintro e w' ⟨rfl, rfl⟩)
    exact bodyPost_ret (v := .agg (ia _)) (by simp [results, Tryz.results18, go_sem]) rfl ⟨rfl, bel (bel1 W _) (bel1 _ _)⟩
  · have i1 := k1 (by rw [ar, h]; decide)
    rw [th_1 h, ex_get hl i1]
    rw [h] at HA
    obtain ⟨na, hna⟩ : ∃ q : Nat, n.a = q := ⟨n.a.toNat, by have := i1.1; omega⟩
    have l1 : na < m := by have := i1.2; omega
    obtain ⟨b, off, rfl, hblt, hc⟩ := hge (by omega)
    have c1 := hc na l1
    obtain ⟨op, xa, xb, xc, xk, xs⟩ := n
    dsimp only at *
    subst hna
    simp only [Int.toNat_natCast]
    have pa : (0 : Int) ≤ na := by omega
    have qa : (na : Int) < m := by omega
    generalize T.getD na 0 = z1 at *
    clear h k1 k2 k3 hge hc i1 hT hl
    go_enter Tryz.func18, Tryz.ntmps18
    go_wp2_with (go_at_call 32; refine (HA.out _).mono ?_; rintro e w' ⟨rfl, rfl⟩)
    exact bodyPost_ret (v := .agg (ia _)) (by simp [results, Tryz.results18, go_sem]) rfl ⟨rfl, bel (bel1 W _) (bel1 _ _)⟩
  · have i1 := k1 (by rw [ar, h]; decide)
    have i2 := k2 (by rw [ar, h]; decide)
    rw [th_2 h, ex_get hl i1, ex_get hl i2]
    rw [h] at HA
    obtain ⟨na, hna⟩ : ∃ q : Nat, n.a = q := ⟨n.a.toNat, by have := i1.1; omega⟩
    have l1 : na < m := by have := i1.2; omega
    obtain ⟨nb, hnb⟩ : ∃ q : Nat, n.b = q := ⟨n.b.toNat, by have := i2.1; omega⟩
    have l2 : nb < m := by have := i2.2; omega
    obtain ⟨b, off, rfl, hblt, hc⟩ := hge (by omega)
    have c1 := hc na l1
    have c2 := hc nb l2
    obtain ⟨op, xa, xb, xc, xk, xs⟩ := n
    dsimp only at *
    subst hna hnb
    simp only [Int.toNat_natCast]
    have pa : (0 : Int) ≤ na := by omega
    have qa : (na : Int) < m := by omega
    generalize T.getD na 0 = z1 at *
    have pb : (0 : Int) ≤ nb := by omega
    have qb : (nb : Int) < m := by omega
    generalize T.getD nb 0 = z2 at *
    clear h k1 k2 k3 hge hc i1 i2 hT hl
    go_enter Tryz.func18, Tryz.ntmps18
    go_wp2_with (go_at_call 32; refine (HA.out _).mono ?_; rintro e w' ⟨rfl, rfl⟩)
    exact bodyPost_ret (v := .agg (ia _)) (by simp [results, Tryz.results18, go_sem]) rfl ⟨rfl, bel (bel1 W _) (bel1 _ _)⟩
  · have i1 := k1 (by rw [ar, h]; decide)
    have i2 := k2 (by rw [ar, h]; decide)
    have i3 := k3 (by rw [ar, h]; decide)
    rw [th_3 h, ex_get hl i1, ex_get hl i2, ex_get hl i3]
    rw [h] at HA
    obtain ⟨na, hna⟩ : ∃ q : Nat, n.a = q := ⟨n.a.toNat, by have := i1.1; omega⟩
    have l1 : na < m := by have := i1.2; omega
    obtain ⟨nb, hnb⟩ : ∃ q : Nat, n.b = q := ⟨n.b.toNat, by have := i2.1; omega⟩
    have l2 : nb < m := by have := i2.2; omega
    obtain ⟨nc, hnc⟩ : ∃ q : Nat, n.c = q := ⟨n.c.toNat, by have := i3.1; omega⟩
    have l3 : nc < m := by have := i3.2; omega
    obtain ⟨b, off, rfl, hblt, hc⟩ := hge (by omega)
    have c1 := hc na l1
    have c2 := hc nb l2
    have c3 := hc nc l3
    obtain ⟨op, xa, xb, xc, xk, xs⟩ := n
    dsimp only at *
    subst hna hnb hnc
    simp only [Int.toNat_natCast]
    have pa : (0 : Int) ≤ na := by omega
    have qa : (na : Int) < m := by omega
    generalize T.getD na 0 = z1 at *
    have pb : (0 : Int) ≤ nb := by omega
    have qb : (nb : Int) < m := by omega
    generalize T.getD nb 0 = z2 at *
    have pc : (0 : Int) ≤ nc := by omega
    have qc : (nc : Int) < m := by omega
    generalize T.getD nc 0 = z3 at *
    clear h k1 k2 k3 hge hc i1 i2 i3 hT hl
    go_enter Tryz.func18, Tryz.ntmps18
    go_wp2_with (go_at_call 32; refine (HA.out _).mono ?_; rintro e w' ⟨rfl, rfl⟩)
    exact bodyPost_ret (v := .agg (ia _)) (by simp [results, Tryz.results18, go_sem]) rfl ⟨rfl, bel (bel1 W _) (bel1 _ _)⟩


theorem th_need {n : In} {k : Nat} (h : okI n k = true) : ThOk n k := by
  simp only [okI, rgs, Bool.and_eq_true, rg_in, decide_eq_true_eq] at h
  exact ⟨h.1.2.1.1.1, h.1.2.1.2.1, h.1.2.2.1⟩

end Go.Proofs.Prn

/-
  code.Same and the document's Same.
-/
import Derived.Test.YthkihmbgdfnofaaS0
namespace Go.Proofs.Ythkihmbgdfnofaa
open Go.RowKit Go.IntWalk Knd
set_option linter.unusedVariables false

/-- Two codes are alike. -/
def sameB (f d o : Int) (L : List In) (g e p : Int) (M : List In) : Bool := (decide (f = g) && decide (d = e)) && decide (o = p) && decide (L = M)

set_option maxRecDepth 100000 in
set_option maxHeartbeats 4000000 in
theorem csame_any (f d o g e p : Int) {a b : Option Addr} {n m c k : Nat} {L M : List In} {W : World} (h1 : Ins W a n c L) (h2 : Ins W b m k M) :
    Calls Try.prog 26 #[.agg (cd f d a n c o), .agg (cd g e b m k p)] W fun r W' => r = .returned (.bool (sameB f d o L g e p M)) ∧ Below W.heap.size W W' := by
  have hb1 := bel (bel1 W (.cells (cd f d a n c o) 26)) (bel1 (W.alloc (.cells (cd f d a n c o) 26)) (.cells (cd g e b m k p) 26))
  have HB := hide hb1
  have HE := hide (equal_any (h1.later hb1) (h2.later hb1))
  clear hb1 h1 h2
  have hrun := kd_run f d g e
  unfold sameB
  cases hk : decide (f = g) && decide (d = e)
  · rw [hk] at hrun
    go_enter Try.func26, Try.ntmps26
    go_wp2_with fail
    go_ret
    exact ⟨ret_b rfl, HB.out⟩
  · rw [hk] at hrun
    by_cases ho : o = p
    · subst ho
      rw [decide_eq_true rfl]
      generalize decide (L = M) = q at *
      go_enter Try.func26, Try.ntmps26
      go_wp2_with fail
      refine HE.out.mono ?_
      rintro r w1 ⟨rfl, q1, rfl⟩
      have HB2 := hide (bel HB.out (below_dN _ q1))
      go_wp2_with fail
      go_ret
      exact ⟨ret_b (by simp), HB2.out⟩
    · have ho2 : (o == p) = false := by simpa using ho
      rw [decide_eq_false ho]
      clear ho
      go_enter Try.func26, Try.ntmps26
      go_wp2_with fail
      go_ret
      exact ⟨ret_b rfl, HB.out⟩

set_option maxRecDepth 100000 in
set_option maxHeartbeats 4000000 in
theorem xsame_any (f d o g e p : Int) {a b : Option Addr} {n m c k : Nat} {L M : List In} {W : World} (h1 : Ins W a n c L) (h2 : Ins W b m k M) :
    Calls Try.prog 27 #[.agg (cd f d a n c o), .agg (cd g e b m k p)] W fun r W' => r = .returned (.bool (sameB f d o L g e p M)) ∧ Below W.heap.size W W' := by
  have hb1 := bel (bel1 W (.cells (cd f d a n c o) 26)) (bel1 (W.alloc (.cells (cd f d a n c o) 26)) (.cells (cd g e b m k p) 26))
  have HB := hide hb1
  have HC0 := hide ((HasC.new W 26 (cd f d a n c o)).alloc (.cells (cd g e b m k p) 26))
  have HD0 := hide (has_new1 W (.cells (cd f d a n c o) 26) 26 (cd g e b m k p))
  have HL1 := hide h1.len
  have HL2 := hide h2.len
  have hn1 := h1.short
  have hn2 := h2.short
  have H1 := hide (h1.later hb1)
  have H2 := hide (h2.later hb1)
  clear hb1 h1 h2
  have hrun := kd_run f d g e
  unfold sameB
  cases hk : decide (f = g) && decide (d = e)
  · rw [hk] at hrun
    go_enter Try.func27, Try.ntmps27
    go_wp2_with fail
    go_ret
    exact ⟨ret_b rfl, HB.out⟩
  rw [hk] at hrun
  by_cases ho : o = p
  · subst ho
    rw [decide_eq_true rfl]
    by_cases hne : n = m
    · subst hne
      go_enter Try.func27, Try.ntmps27
      go_wp2_with fail
      obtain ⟨V0, hV0⟩ : ∃ V0, (W.alloc (.cells (cd f d a n c o) 26)).alloc (.cells (cd g e b n k o) 26) = V0 := ⟨_, rfl⟩
      rw [hV0] at HB HC0 HD0 H1 H2 ⊢
      clear hV0 hk hrun hn2
      go_loopw [5] (fun i wr => ∃ j q : Nat, j ≤ n ∧ i = .int .i64 j ∧ Hid (∀ q, q < j → L.getD q i0 = M.getD q i0) ∧ wr = V0.drewN q) (fun i _ => n - (intOf i).toNat)
      case atStart => exact ⟨0, 0, Nat.zero_le _, rfl, hide (fun j hj => by omega), rfl⟩
      case round =>
        obtain ⟨j, q, hj, rfl, HT, rfl⟩ := hrel
        obtain ⟨x0, x1, x2, x3⟩ := four_of HC0.out
        obtain ⟨y0, y1, y2, y3⟩ := four_of HD0.out
        by_cases hlt : j < n
        · obtain ⟨b1, o1, rfl, -, hc1⟩ := H1.out.at (by omega)
          obtain ⟨b2, o2, rfl, -, hc2⟩ := H2.out.at (by omega)
          obtain ⟨e0, e1, e2, e3, e4, e5⟩ := hc1 j hlt
          obtain ⟨f0, f1, f2, f3, f4, f5⟩ := hc2 j hlt
          clear hc1 hc2
          have hi0 : (0 : Int) ≤ j := by omega
          have hi1 : (j : Int) < n := by omega
          have HN := hide fun h => all_next HT.out (k := j) h
          have hrun := in_run (L.getD j i0) (M.getD j i0)
          have HG : Hid (L = M → L.getD j i0 = M.getD j i0) := hide fun h => by rw [h]
          generalize L.getD j i0 = x at *
          generalize M.getD j i0 = y at *
          by_cases he : x = y
          · have HE := hide he
            rw [decide_eq_true he] at hrun
            clear he
            go_wp2_with fail
            go_quiet (fail)
            go_wp2_with fail
            go_roundw
            case rel => exact ⟨j + 1, _, by omega, by go_num, hide (HN.out HE.out), rfl⟩
            case measure => simp [intOf]; omega
          · have HE := hide he
            rw [decide_eq_false he] at hrun
            clear he
            go_wp2_with fail
            go_quiet (fail)
            go_wp2_with fail
            go_ret
            refine ⟨ret_b ?_, bel HB.out (by rw [World.drewN_drewN]; exact below_dN _ _)⟩
            rw [decide_eq_false fun h => HE.out (HG.out h)]
            rfl
        · obtain rfl : j = n := by omega
          have HE := hide (all_ext i0 (HL1.out.trans HL2.out.symm) fun j hj => HT.out j (by have := HL1.out; omega))
          go_wp2_with fail
          go_ret
          refine ⟨ret_b ?_, bel HB.out (below_dN _ _)⟩
          rw [decide_eq_true HE.out]
          rfl
    · have hne' : ((n : Int) != (m : Int)) = true := by simp; omega
      have HE : Hid (¬ L = M) := hide fun h => hne (by rw [← HL1.out, ← HL2.out, h])
      go_enter Try.func27, Try.ntmps27
      go_wp2_with fail
      go_ret
      exact ⟨ret_b (by rw [decide_eq_false HE.out]; rfl), HB.out⟩
  · have ho2 : (o != p) = true := by simpa using ho
    rw [decide_eq_false ho]
    clear ho
    go_enter Try.func27, Try.ntmps27
    go_wp2_with fail
    go_ret
    exact ⟨ret_b rfl, HB.out⟩

end Go.Proofs.Ythkihmbgdfnofaa

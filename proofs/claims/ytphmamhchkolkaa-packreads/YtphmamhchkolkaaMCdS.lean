/-
  Codes alike: slices.Equal, code.Same, the document's Same.
-/
import Derived.Test.YtphmamhchkolkaaMCdB3
import Derived.Laws.StructEq
import Derived.Deep.QuietTactic
namespace Go.Proofs.Cde
open Go.RowKit Go.IntWalk Ytphmamhchkolkaa.Knd
set_option linter.unusedVariables false

theorem all_ext {α : Type} {L M : List α} (d : α) (hl : L.length = M.length) (h : ∀ j, j < L.length → L.getD j d = M.getD j d) : L = M := by
  apply List.ext_getElem hl
  intro j h1 h2
  have := h j h1
  rw [List.getD_eq_getElem?_getD, List.getD_eq_getElem?_getD, List.getElem?_eq_getElem h1, List.getElem?_eq_getElem h2] at this
  exact this
theorem all_next {α : Type} {L M : List α} {d : α} {k : Nat} (h : ∀ j, j < k → L.getD j d = M.getD j d) (h2 : L.getD k d = M.getD k d) : ∀ j, j < k + 1 → L.getD j d = M.getD j d := by
  intro j hj
  rcases Nat.lt_succ_iff_lt_or_eq.1 hj with h1 | rfl
  · exact h j h1
  · exact h2

set_option maxRecDepth 100000 in
theorem kd_run (f d g e : Int) (w : World) : (Op.equalIn 10000 23 (.agg (kd f d)) (.agg (kd g e))).run Try.prog w = .ok (decide (f = g) && decide (d = e)) w := by
  have u3 := Try.underlying3
  have a3 := Try.isAgg3
  have z3 := Try.sizeOf3
  have hS : Try.prog.underlying 23 = some (.struct (Try.prog.fieldsOf 23)) := by kernel_rfl
  have hp : Try.prog.stoodInHeld 23 = false := by kernel_rfl
  rw [show (10000 : Nat) = 9999 + 1 from rfl, run_equalIn_agg w 9999 23 _ _ hS hp]
  simp only [Program.fieldsOf, Try.underlying23]
  go_simp
  by_cases h1 : f = g <;> by_cases h2 : d = e <;> simp [h1, h2]
set_option maxRecDepth 100000 in
theorem in_run (n m : In) (w : World) : (Op.equalIn 10000 51 (.agg (ia n)) (.agg (ia m))).run Try.prog w = .ok (decide (n = m)) w := by
  have u3 := Try.underlying3
  have a3 := Try.isAgg3
  have z3 := Try.sizeOf3
  have hS : Try.prog.underlying 51 = some (.struct (Try.prog.fieldsOf 51)) := by kernel_rfl
  have hp : Try.prog.stoodInHeld 51 = false := by kernel_rfl
  rw [show (10000 : Nat) = 9999 + 1 from rfl, run_equalIn_agg w 9999 51 _ _ hS hp]
  simp only [Program.fieldsOf, Try.underlying51]
  obtain ⟨z0, z1, z2, z3, z4, z5⟩ := n
  obtain ⟨y0, y1, y2, y3, y4, y5⟩ := m
  go_simp
  by_cases h0 : z0 = y0
  · by_cases h1 : z1 = y1
    · by_cases h2 : z2 = y2
      · by_cases h3 : z3 = y3
        · by_cases h4 : z4 = y4
          · by_cases h5 : z5 = y5
            · simp [h0, h1, h2, h3, h4, h5]
            · simp [h0, h1, h2, h3, h4, h5]
          · simp [h0, h1, h2, h3, h4]
        · simp [h0, h1, h2, h3]
      · simp [h0, h1, h2]
    · simp [h0, h1]
  · simp [h0]

set_option maxRecDepth 100000 in
set_option maxHeartbeats 4000000 in
theorem equal_any {a b : Option Addr} {n m c e : Nat} {L M : List In} {w : World} (h1 : Ins w a n c L) (h2 : Ins w b m e M) :
    Calls Try.prog 46 #[.slice a n c, .slice b m e] w fun r w' => r = .returned (.bool (decide (L = M))) ∧ ∃ q, w' = w.drewN q := by
  have HL1 := hide h1.len
  have HL2 := hide h2.len
  have hn1 := h1.short
  have hn2 := h2.short
  by_cases hne : n = m
  · subst hne
    have H1 := hide h1
    have H2 := hide h2
    clear h1 h2 hn2
    go_enter Try.func46, Try.ntmps46
    go_wp2_with fail
    go_loopw [13] (fun i wr => ∃ k q : Nat, k ≤ n ∧ i = .int .i64 k ∧ Hid (∀ j, j < k → L.getD j i0 = M.getD j i0) ∧ wr = w.drewN q) (fun i _ => n - (intOf i).toNat)
    case atStart => exact ⟨0, 0, Nat.zero_le _, rfl, hide (fun j hj => by omega), rfl⟩
    case round =>
      obtain ⟨k, q, hk, rfl, HT, rfl⟩ := hrel
      by_cases hlt : k < n
      · obtain ⟨b1, o1, rfl, -, hc1⟩ := H1.out.at (by omega)
        obtain ⟨b2, o2, rfl, -, hc2⟩ := H2.out.at (by omega)
        obtain ⟨e0, e1, e2, e3, e4, e5⟩ := hc1 k hlt
        obtain ⟨f0, f1, f2, f3, f4, f5⟩ := hc2 k hlt
        clear hc1 hc2
        have hi0 : (0 : Int) ≤ k := by omega
        have hi1 : (k : Int) < n := by omega
        have HN := hide fun h => all_next HT.out (k := k) h
        have hrun := in_run (L.getD k i0) (M.getD k i0)
        have HG : Hid (L = M → L.getD k i0 = M.getD k i0) := hide fun h => by rw [h]
        generalize L.getD k i0 = x at *
        generalize M.getD k i0 = y at *
        by_cases he : x = y
        · have HE := hide he
          rw [decide_eq_true he] at hrun
          clear he
          go_wp2_with fail
          go_quiet (fail)
          go_wp2_with fail
          go_roundw
          case rel => exact ⟨k + 1, _, by omega, by go_num, hide (HN.out HE.out), rfl⟩
          case measure => simp [intOf]; omega
        · have HE := hide he
          rw [decide_eq_false he] at hrun
          clear he
          go_wp2_with fail
          go_quiet (fail)
          go_wp2_with fail
          go_ret
          exact ⟨ret_b (by rw [decide_eq_false fun h => HE.out (HG.out h)]), _, World.drewN_drewN ..⟩
      · obtain rfl : k = n := by omega
        have HE := hide (all_ext i0 (HL1.out.trans HL2.out.symm) fun j hj => HT.out j (by have := HL1.out; omega))
        go_wp2_with fail
        go_ret
        exact ⟨ret_b (by rw [decide_eq_true HE.out]), _, rfl⟩
  · have hne' : ((n : Int) != (m : Int)) = true := by simp; omega
    go_enter Try.func46, Try.ntmps46
    go_wp2_with fail
    go_ret
    refine ⟨ret_b ?_, 0, rfl⟩
    rw [decide_eq_false fun h => hne (by rw [← HL1.out, ← HL2.out, h])]

end Go.Proofs.Cde

/-
  code.Same and the document's Same.
-/
namespace Go.Proofs.Cde
open Go.RowKit Go.IntWalk Ytphmamhchkolkaa.Knd
set_option linter.unusedVariables false

/-- Two codes are alike. -/
def sameB (f d o : Int) (L : List In) (g e p : Int) (M : List In) : Bool := (decide (f = g) && decide (d = e)) && decide (o = p) && decide (L = M)

set_option maxRecDepth 100000 in
set_option maxHeartbeats 4000000 in
theorem csame_any (f d o g e p : Int) {a b : Option Addr} {n m c k : Nat} {L M : List In} {W : World} (h1 : Ins W a n c L) (h2 : Ins W b m k M) :
    Calls Try.prog 22 #[.agg (cd f d a n c o), .agg (cd g e b m k p)] W fun r W' => r = .returned (.bool (sameB f d o L g e p M)) ∧ Below W.heap.size W W' := by
  have hb1 := bel (bel1 W (.cells (cd f d a n c o) 26)) (bel1 (W.alloc (.cells (cd f d a n c o) 26)) (.cells (cd g e b m k p) 26))
  have HB := hide hb1
  have HE := hide (equal_any (h1.later hb1) (h2.later hb1))
  clear hb1 h1 h2
  have hrun := kd_run f d g e
  unfold sameB
  cases hk : decide (f = g) && decide (d = e)
  · rw [hk] at hrun
    go_enter Try.func22, Try.ntmps22
    go_wp2_with fail
    go_ret
    exact ⟨ret_b rfl, HB.out⟩
  · rw [hk] at hrun
    by_cases ho : o = p
    · subst ho
      rw [decide_eq_true rfl]
      generalize decide (L = M) = q at *
      go_enter Try.func22, Try.ntmps22
      go_wp2_with fail
      refine HE.out.mono ?_
      rintro r w1 ⟨rfl, q1, rfl⟩
      have HB2 := hide (bel HB.out (below_dN _ q1))
      go_wp2_with fail
      go_ret
      exact ⟨ret_b (by simp), HB2.out⟩
    · have ho2 : (o == p) = false := by simpa using ho
      rw [decide_eq_false ho]
      clear ho
      go_enter Try.func22, Try.ntmps22
      go_wp2_with fail
      go_ret
      exact ⟨ret_b rfl, HB.out⟩

set_option maxRecDepth 100000 in
set_option maxHeartbeats 4000000 in
theorem xsame_any (f d o g e p : Int) {a b : Option Addr} {n m c k : Nat} {L M : List In} {W : World} (h1 : Ins W a n c L) (h2 : Ins W b m k M) :
    Calls Try.prog 18 #[.agg (cd f d a n c o), .agg (cd g e b m k p)] W fun r W' => r = .returned (.bool (sameB f d o L g e p M)) ∧ Below W.heap.size W W' := by
  have hb1 := bel (bel1 W (.cells (cd f d a n c o) 26)) (bel1 (W.alloc (.cells (cd f d a n c o) 26)) (.cells (cd g e b m k p) 26))
  have HB := hide hb1
  have HC0 := hide ((HasC.new W 26 (cd f d a n c o)).alloc (.cells (cd g e b m k p) 26))
  have HD0 := hide (has_new1 W (.cells (cd f d a n c o) 26) 26 (cd g e b m k p))
  have HL1 := hide h1.len
  have HL2 := hide h2.len
  have hn1 := h1.short
  have hn2 := h2.short
  have H1 := hide (h1.later hb1)
  have H2 := hide (h2.later hb1)
  clear hb1 h1 h2
  have hrun := kd_run f d g e
  unfold sameB
  cases hk : decide (f = g) && decide (d = e)
  · rw [hk] at hrun
    go_enter Try.func18, Try.ntmps18
    go_wp2_with fail
    go_ret
    exact ⟨ret_b rfl, HB.out⟩
  rw [hk] at hrun
  by_cases ho : o = p
  · subst ho
    rw [decide_eq_true rfl]
    by_cases hne : n = m
    · subst hne
      go_enter Try.func18, Try.ntmps18
      go_wp2_with fail
      obtain ⟨V0, hV0⟩ : ∃ V0, (W.alloc (.cells (cd f d a n c o) 26)).alloc (.cells (cd g e b n k o) 26) = V0 := ⟨_, rfl⟩
      rw [hV0] at HB HC0 HD0 H1 H2 ⊢
      clear hV0 hk hrun hn2
      go_loopw [5] (fun i wr => ∃ j q : Nat, j ≤ n ∧ i = .int .i64 j ∧ Hid (∀ q, q < j → L.getD q i0 = M.getD q i0) ∧ wr = V0.drewN q) (fun i _ => n - (intOf i).toNat)
      case atStart => exact ⟨0, 0, Nat.zero_le _, rfl, hide (fun j hj => by omega), rfl⟩
      case round =>
        obtain ⟨j, q, hj, rfl, HT, rfl⟩ := hrel
        obtain ⟨x0, x1, x2, x3⟩ := four_of HC0.out
        obtain ⟨y0, y1, y2, y3⟩ := four_of HD0.out
        by_cases hlt : j < n
        · obtain ⟨b1, o1, rfl, -, hc1⟩ := H1.out.at (by omega)
          obtain ⟨b2, o2, rfl, -, hc2⟩ := H2.out.at (by omega)
          obtain ⟨e0, e1, e2, e3, e4, e5⟩ := hc1 j hlt
          obtain ⟨f0, f1, f2, f3, f4, f5⟩ := hc2 j hlt
          clear hc1 hc2
          have hi0 : (0 : Int) ≤ j := by omega
          have hi1 : (j : Int) < n := by omega
          have HN := hide fun h => all_next HT.out (k := j) h
          have hrun := in_run (L.getD j i0) (M.getD j i0)
          have HG : Hid (L = M → L.getD j i0 = M.getD j i0) := hide fun h => by rw [h]
          generalize L.getD j i0 = x at *
          generalize M.getD j i0 = y at *
          by_cases he : x = y
          · have HE := hide he
            rw [decide_eq_true he] at hrun
            clear he
            go_wp2_with fail
            go_quiet (fail)
            go_wp2_with fail
            go_roundw
            case rel => exact ⟨j + 1, _, by omega, by go_num, hide (HN.out HE.out), rfl⟩
            case measure => simp [intOf]; omega
          · have HE := hide he
            rw [decide_eq_false he] at hrun
            clear he
            go_wp2_with fail
            go_quiet (fail)
            go_wp2_with fail
            go_ret
            refine ⟨ret_b ?_, bel HB.out (by rw [World.drewN_drewN]; exact below_dN _ _)⟩
            rw [decide_eq_false fun h => HE.out (HG.out h)]
            rfl
        · obtain rfl : j = n := by omega
          have HE := hide (all_ext i0 (HL1.out.trans HL2.out.symm) fun j hj => HT.out j (by have := HL1.out; omega))
          go_wp2_with fail
          go_ret
          refine ⟨ret_b ?_, bel HB.out (below_dN _ _)⟩
          rw [decide_eq_true HE.out]
          rfl
    · have hne' : ((n : Int) != (m : Int)) = true := by simp; omega
      have HE : Hid (¬ L = M) := hide fun h => hne (by rw [← HL1.out, ← HL2.out, h])
      go_enter Try.func18, Try.ntmps18
      go_wp2_with fail
      go_ret
      exact ⟨ret_b (by rw [decide_eq_false HE.out]; rfl), HB.out⟩
  · have ho2 : (o != p) = true := by simpa using ho
    rw [decide_eq_false ho]
    clear ho
    go_enter Try.func18, Try.ntmps18
    go_wp2_with fail
    go_ret
    exact ⟨ret_b rfl, HB.out⟩

end Go.Proofs.Cde

/-
  The document's Uses and Cost.
-/
import Derived.Test.YtihbhbeaihdgnaaGreatRGZB
import Derived.Test.YtihbhbeaihdgnaaGreatRGC
import Derived.Test.YtihbhbeaihdgnaaGreatRGB
import Derived.Deep.RegionHeld3
import Derived.Test.YtihbhbeaihdgnaaGreatRGR
import Derived.Test.YtihbhbeaihdgnaaGreatRKnRFits
namespace Go.Proofs.Cde
open YtihbhbeaihdgnaaGreat (Wd wdA Fits inpV fitE_cases)
open Go.RowKit Go.IntWalk YtihbhbeaihdgnaaGreat.Knd
set_option linter.unusedVariables false

set_option maxHeartbeats 1000000 in
theorem jcost_any (o : Int) (W : World) : Calls Tryz.prog 54 #[.int .i64 o] W fun e W' => e = .returned (.int .i64 (coZ o)) ∧ W' = W := by
  by_cases h1 : o = 4
  · subst h1
    go_enter Tryz.func54, Tryz.ntmps54
    go_wp2
    go_ret
    exact ⟨rfl, rfl⟩
  by_cases h2 : o = 11
  · subst h2
    go_enter Tryz.func54, Tryz.ntmps54
    go_wp2
    go_ret
    exact ⟨rfl, rfl⟩
  by_cases h3 : o = 12
  · subst h3
    go_enter Tryz.func54, Tryz.ntmps54
    go_wp2
    go_ret
    exact ⟨rfl, rfl⟩
  have e : coZ o = 1 := by unfold coZ; rw [if_neg h1, if_neg h2, if_neg h3]
  rw [e]
  have e1 : (o == 4) = false := by simpa using h1
  have e2 : (o == 11) = false := by simpa using h2
  have e3 : (o == 12) = false := by simpa using h3
  clear h1 h2 h3 e
  go_enter Tryz.func54, Tryz.ntmps54
  go_wp2
  go_ret
  exact ⟨rfl, rfl⟩

set_option maxRecDepth 100000 in
set_option maxHeartbeats 4000000 in
theorem xcost_any (f d out : Int) {a : Option Addr} {n cap : Nat} {L : List In} {W : World} (hL : Ins W a n cap L) (hn : n ≤ 1000000000000000) :
    Calls Tryz.prog 25 #[.agg (cd f d a n cap out)] W fun e W' => e = .returned (.int .i64 (coL L)) ∧ Below W.heap.size W W' := by
  have hb1 := bel1 W (.cells (cd f d a n cap out) 26)
  have HB0 := hide hb1
  have HC0 := hide (HasC.new W 26 (cd f d a n cap out))
  have HLI := hide (hL.later hb1)
  have HLn := hide hL.len
  clear hL hb1
  go_enter Tryz.func25, Tryz.ntmps25
  go_wp2_with fail
  obtain ⟨V, hV⟩ : ∃ V, W.alloc (.cells (cd f d a n cap out) 26) = V := ⟨_, rfl⟩
  rw [hV] at HB0 HC0 HLI ⊢
  clear hV
  go_loop [3, 4] (fun s i => ∃ (k : Nat) (c : Int), k ≤ n ∧ i = .int .i64 k ∧ s = .int .i64 c ∧ 0 ≤ c ∧ c ≤ 6 * k ∧ Hid (c = coL (L.take k))) (fun _ i => n - (intOf i).toNat)
  case atStart => exact ⟨0, 0, Nat.zero_le _, rfl, rfl, Int.le_refl _, Int.le_refl _, hide rfl⟩
  case round =>
    obtain ⟨k, c, hk, rfl, rfl, hc0, hc6, HC⟩ := hrel
    obtain ⟨c0, c1, c2, c3⟩ := four_of HC0.out
    by_cases hlt : k < n
    · obtain ⟨g, off, rfl, -, hat⟩ := HLI.out.at (by omega)
      obtain ⟨e0, -, -, -, -, -⟩ := hat k hlt
      clear hat
      have hi0 : (0 : Int) ≤ k := by omega
      have hi1 : (k : Int) < n := by omega
      have HC2 := hide (show c + coZ (L.getD k i0).op = coL (L.take (k + 1)) by rw [take_snoc i0 (by rw [HLn.out]; exact hlt), coL_snoc, HC.out])
      generalize L.getD k i0 = m at *
      have HCo := hide fun w => jcost_any m.op w
      obtain ⟨z0, z1⟩ := coZ_le m.op
      generalize coZ m.op = z at *
      go_wp2_with (go_at_call 54; refine (HCo.out _).mono ?_; rintro e w' ⟨rfl, rfl⟩)
      go_round
      case rel => exact ⟨k + 1, c + z, by omega, by go_num, rfl, by omega, by omega, HC2⟩
      case measure => simp [intOf]; omega
    · obtain rfl : k = n := by omega
      have hC := HC.out
      rw [List.take_of_length_le (by rw [HLn.out]; exact Nat.le_refl _)] at hC
      have HC2 := hide hC
      clear hC
      go_wp2_with fail
      go_ret
      exact ⟨ret_int HC2.out, HB0.out⟩

theorem ctR_step {k : Nat} {A : List Int} {x : Int} (h0 : 0 ≤ x) : ctR k (A ++ [x]) = ctR k A + if x = (k : Int) then 1 else 0 := by
  rw [ctR_snoc]
  by_cases h : x = (k : Int)
  · rw [if_pos (by omega), if_pos h]
  · rw [if_neg (by omega), if_neg h]

end Go.Proofs.Cde

/-
  The walk of CodeCut.
-/
namespace Go.Proofs.Cde
open YtihbhbeaihdgnaaGreat (Wd wdA Fits inpV fitE_cases)
open Go.RowKit Go.IntWalk YtihbhbeaihdgnaaGreat.Knd
set_option linter.unusedVariables false

theorem vlF_step {f d : Int} {v : Wd} {L : List In} {k : Nat} (hk : k < L.length) {D : List Int} (h : vlF f d v (L.take (k + 1)) = (0, D)) : vlF f d v (L.take k) = (0, D.take k) := by
  have h2 := h
  rw [take_snoc i0 hk, vlF_snoc] at h
  unfold vlS at h
  split at h
  · rename_i h0
    have hl := vlF_len f d v L k (by omega) h0
    split at h
    · simp only [Prod.mk.injEq, true_and] at h
      rw [← h]
      refine Prod.ext h0 ?_
      show _ = List.take k (_ ++ _)
      rw [List.take_append_of_le_length (by omega)]
      exact (List.take_of_length_le (by omega)).symm
    · rename_i h1
      simp only [Prod.mk.injEq] at h
      exact absurd h.1 h1
  · rename_i h0
    rw [h] at h0
    exact absurd rfl h0
theorem vlF_take {f d : Int} {v : Wd} {L : List In} : ∀ (j k : Nat) (D : List Int), k + j ≤ L.length → vlF f d v (L.take (k + j)) = (0, D) → vlF f d v (L.take k) = (0, D.take k)
  | 0, k, D, h, he => by
    have := vlF_len f d v L k (by omega) (by rw [Nat.add_zero] at he; rw [he])
    rw [Nat.add_zero] at he
    rw [he] at this ⊢
    rw [List.take_of_length_le (by simp at this; omega)]
  | j + 1, k, D, h, he => by
    have h1 := vlF_step (show k + j < L.length by omega) he
    have h2 := vlF_take j k _ (by omega) h1
    rw [h2, List.take_take]
    congr 2
    omega
theorem okT_take {L : List In} {m : Nat} (hm : m ≤ L.length) (h : okT L L.length = true) : okT (L.take m) m = true := by
  simp only [okT, List.all_eq_true, List.mem_range]
  intro i hi
  rw [List.getD_eq_getElem?_getD, List.getElem?_take_of_lt hi, ← List.getD_eq_getElem?_getD]
  exact okT_at h (by omega)
theorem va_cut {f d out : Int} {v : Wd} {L : List In} {D : List Int} {m : Nat} (h : vaZ f d v L out = (0, D)) (h1 : 1 ≤ m) (h2 : m ≤ L.length) : vaZ f d v (L.take m) ((m : Int) - 1) = (0, D.take m) ∧ D.length = L.length := by
  unfold vaZ at h ⊢
  split at h
  · rename_i hm
    split at h
    · rename_i hF
      obtain ⟨p1, p2, p3, p4, p5, p6⟩ := mc_parts hm
      have hl : (L.take m).length = m := by rw [List.length_take]; omega
      have hmc : mcB f d (L.take m) ((m : Int) - 1) = true := by
        simp only [mcB, Bool.and_eq_true, decide_eq_true_eq, YtihbhbeaihdgnaaGreat.Spn.inB_iff, hl]
        exact ⟨⟨⟨p1, by omega⟩, by omega⟩, okT_take h2 p6⟩
      rw [if_pos hmc, if_pos hF]
      have hL := vlF_len f d v L L.length (Nat.le_refl _)
      rw [List.take_length, h] at hL
      refine ⟨vlF_take (L.length - m) m D (by omega) (by rw [show m + (L.length - m) = L.length by omega, List.take_length]; exact h), hL rfl⟩
    · simp at h
  · simp at h

end Go.Proofs.Cde

/-
  What every register is, plainly: an operator's answer of those that it reads, or its number, its input, its place; all of 32 bits.
-/
namespace Go.Proofs.Cde
open YtihbhbeaihdgnaaGreat (Wd wdA Fits inpV fitE_cases)
open YtihbhbeaihdgnaaGreat.Knd
set_option linter.unusedVariables false

theorem ar_zero {op : Int} (h : YtihbhbeaihdgnaaGreat.Spn.ar op = 0) : op = 1 ∨ op = 2 ∨ op = 3 := by
  unfold YtihbhbeaihdgnaaGreat.Spn.ar at h
  split at h
  · assumption
  · split at h
    · omega
    · split at h
      · omega
      · split at h <;> omega
theorem vlF_nil {f d : Int} {v : Wd} {L : List In} (h : (vlF f d v L).1 ≠ 0) : (vlF f d v L).2 = [] := by
  have key : ∀ k, k ≤ L.length → (vlF f d v (L.take k)).1 ≠ 0 → (vlF f d v (L.take k)).2 = [] := by
    intro k
    induction k with
    | zero => intro _ h; simp [vlF] at h
    | succ k ih =>
      intro hk h
      rw [take_snoc i0 (by omega), vlF_snoc] at h ⊢
      unfold vlS at h ⊢
      split
      · rename_i h0
        rw [if_pos h0] at h
        split
        · rename_i h1
          rw [if_pos h1] at h
          exact absurd rfl h
        · rfl
      · rename_i h0
        exact ih (by omega) h0
  have := key L.length (Nat.le_refl _)
  rw [List.take_length] at this
  exact this h
theorem va_mc {f d out : Int} {v : Wd} {L : List In} {D : List Int} (h : vaZ f d v L out = (0, D)) : mcB f d L out = true ∧ Fits f d v ∧ vlF f d v L = (0, D) := by
  unfold vaZ at h
  split at h
  · rename_i hm
    split at h
    · rename_i hF
      exact ⟨hm, hF, h⟩
    · simp at h
  · simp at h
theorem va_at {f d out : Int} {v : Wd} {L : List In} {D : List Int} (h : vaZ f d v L out = (0, D)) {k : Nat} (hk : k < L.length) :
    D.length = L.length ∧ okI (L.getD k i0) k = true ∧ vlI f d v D (L.getD k i0) = (D.getD k 0, 0) := by
  obtain ⟨hm, hF, hv⟩ := va_mc h
  obtain ⟨-, -, -, -, -, hok⟩ := mc_parts hm
  have hL := vlF_len f d v L L.length (Nat.le_refl _)
  rw [List.take_length, hv] at hL
  have hl := hL rfl
  simp only at hl
  have ho := okT_at hok hk
  refine ⟨hl, ho, ?_⟩
  have h1 := vlF_take (f := f) (d := d) (v := v) (L := L) (L.length - k) k D (by omega) (by rw [show k + (L.length - k) = L.length by omega, List.take_length]; exact hv)
  have h2 := vlF_take (f := f) (d := d) (v := v) (L := L) (L.length - (k + 1)) (k + 1) D (by omega) (by rw [show k + 1 + (L.length - (k + 1)) = L.length by omega, List.take_length]; exact hv)
  rw [take_snoc i0 hk, vlF_snoc, h1] at h2
  have hlt : (D.take k).length = k := by rw [List.length_take]; omega
  have e : vlI f d v D (L.getD k i0) = vlI f d v (D.take k) (L.getD k i0) := by
    have := vlI_pre (f := f) (d := d) (v := v) (D := D.take k) (Z := D.drop k) (n := L.getD k i0) (by rw [hlt]; exact ho)
    rwa [List.take_append_drop] at this
  rw [e]
  unfold vlS at h2
  rw [if_pos rfl, take_snoc 0 (by omega)] at h2
  split at h2
  · rename_i h3
    simp only [Prod.mk.injEq, true_and] at h2
    have h4 := List.append_inj_right h2 rfl
    simp only [List.cons.injEq, and_true] at h4
    exact Prod.ext h4 h3
  · rename_i h3
    simp only [Prod.mk.injEq] at h2
    exact absurd h2.1 h3

theorem bounds_of {f d : Int} (hm : May f d) : -65536 ≤ lowZ f d ∧ lowZ f d ≤ 65536 ∧ -65536 ≤ highZ f d ∧ highZ f d ≤ 131072 ∧ 0 ≤ borderZ f d ∧ borderZ f d ≤ 65536 := by
  have hd := hm.2
  have hp := pw_le (d - 1) (by omega)
  rcases hm.1 with rfl | rfl
  · obtain ⟨h1, h2, h3, -⟩ := zs0 hm
    rw [h1, h2, h3]
    omega
  · obtain ⟨h1, h2, h3, -⟩ := zs1 hm
    rw [h1, h2, h3]
    omega
theorem fit_may {f d : Int} {v : Wd} (h : Fits f d v) : May f d := by
  obtain ⟨lo, hi, hz, -⟩ := h.1.1.1
  exact Classical.byContradiction fun h' => by simp [inZ, h'] at hz
/-- An input lies where the kind says. -/
theorem inp_lies {f d k : Int} {v : Wd} (h : Fits f d v) (h0 : 0 ≤ k) (h5 : k ≤ 5) : ∃ lo hi, inZ f d k = some (lo, hi) ∧ lo ≤ inpV f d v k ∧ inpV f d v k ≤ hi ∧ -2147483648 ≤ lo ∧ hi ≤ 2147483647 := by
  have hm := fit_may h
  have hb := bounds_of hm
  obtain ⟨⟨⟨⟨l0, u0, z0, b0⟩, ⟨l1, u1, z1, b1⟩⟩, ⟨l2, u2, z2, b2⟩⟩, -⟩ := h
  have hc : colZ f ≤ 1048576 := by unfold colZ; split <;> omega
  have hr : rowZ f ≤ 4096 := by unfold rowZ; split <;> omega
  rcases (show k = 0 ∨ k = 1 ∨ k = 2 ∨ k = 3 ∨ k = 4 ∨ k = 5 by omega) with rfl | rfl | rfl | rfl | rfl | rfl
  · have z := z0
    simp [inZ, hm] at z
    exact ⟨l0, u0, z0, by simp [inpV]; omega, by simp [inpV]; omega, by omega, by omega⟩
  · have z := z1
    simp [inZ, hm] at z
    exact ⟨l1, u1, z1, by simp [inpV]; omega, by simp [inpV]; omega, by omega, by omega⟩
  · have z := z2
    simp [inZ, hm] at z
    exact ⟨l2, u2, z2, by simp [inpV]; omega, by simp [inpV]; omega, by omega, by omega⟩
  · exact ⟨lowZ f d, lowZ f d, by simp [inZ, hm], by simp [inpV], by simp [inpV], by omega, by omega⟩
  · exact ⟨highZ f d, highZ f d, by simp [inZ, hm], by simp [inpV], by simp [inpV], by omega, by omega⟩
  · exact ⟨borderZ f d, borderZ f d, by simp [inZ, hm], by simp [inpV], by simp [inpV], by omega, by omega⟩
theorem cs_num {n : In} (h : csB n = true) (h1 : n.op = 1) : YtihbhbeaihdgnaaGreat.Spn.wd n.k = true := by
  rw [csB, if_pos h1, Bool.and_eq_true] at h
  exact h.1
theorem cs_in {n : In} (h : csB n = true) (h2 : n.op = 2) : 0 ≤ n.k ∧ n.k ≤ 5 := by
  rw [csB, if_neg (by omega), if_pos h2, Bool.and_eq_true, YtihbhbeaihdgnaaGreat.Spn.inB_iff] at h
  exact h.1
theorem cs_place {n : In} (h : csB n = true) (h3 : n.op = 3) : 0 ≤ n.k ∧ n.k ≤ 255 := by
  rw [csB, if_neg (by omega), if_neg (by omega), if_pos h3, Bool.and_eq_true, YtihbhbeaihdgnaaGreat.Spn.inB_iff] at h
  exact h.1
/-- A register comes to a number of 32 bits. -/
theorem vl_word {f d : Int} {v : Wd} {V : List Int} {n : In} {i : Nat} {x : Int} (hF : Fits f d v) (ho : okI n i = true) (h : vlI f d v V n = (x, 0)) : YtihbhbeaihdgnaaGreat.Spn.wd x = true := by
  have hc := ok_con ho
  unfold vlI at h
  split at h
  · rename_i h1
    simp only [Prod.mk.injEq, and_true] at h
    rw [← h]
    exact cs_num hc h1
  · split at h
    · rename_i h2
      simp only [Prod.mk.injEq, and_true] at h
      obtain ⟨k0, k5⟩ := cs_in hc h2
      obtain ⟨lo, hi, -, b1, b2, b3, b4⟩ := inp_lies hF k0 k5
      rw [YtihbhbeaihdgnaaGreat.Spn.wd_iff]
      omega
    · split at h
      · rename_i h3
        obtain ⟨k0, k5⟩ := cs_place hc h3
        split at h
        · simp at h
        · rename_i h4
          simp only [Prod.mk.injEq, and_true] at h
          have hm := bounds_of (fit_may hF)
          have hl := fit_len hF
          have := hF.2.2 _ (getD_mem 0 (L := v.ps) (k := n.k.toNat) (by omega))
          rw [h] at this
          rw [YtihbhbeaihdgnaaGreat.Spn.wd_iff]
          omega
      · unfold YtihbhbeaihdgnaaGreat.Spn.valZ at h
        split at h
        · split at h
          · split at h
            · rename_i h5
              simp only [Prod.mk.injEq, and_true] at h
              rw [← h]
              exact h5
            · simp at h
          · rename_i h6
            simp only [Prod.mk.injEq] at h
            exact absurd h.2 h6
        · simp at h

end Go.Proofs.Cde

/-
  The document's Input.
-/
namespace Go.Proofs.Cde
open YtihbhbeaihdgnaaGreat (Wd wdA Fits inpV fitE_cases)
open Go.RowKit Go.IntWalk YtihbhbeaihdgnaaGreat.Knd
set_option linter.unusedVariables false

/-- More may be held. -/
theorem wpAnyH_less {P : Program} {ops : Array Oper} {Q : Exit → Act → World → Prop} {md : Region.Mode} {S S' : World → Prop} (hS : ∀ w, S' w → S w) : ∀ {fuel : Nat} {listed : Array Bool} {a : Act} {w : World}, wpAnyH P md ops Q S' fuel listed a w → wpAnyH P md ops Q S fuel listed a w
  | 0, _, _, _, h => h
  | _ + 1, _, _, _, h => ⟨h.1, fun i hi => wpOp_mono (fun _ _ h' => ⟨hS _ h'.1, wpAnyH_less hS h'.2⟩) (h.2 i hi)⟩

abbrev wnC (f d : Int) (v : Wd) : Array Value := #[.int .i64 v.x, .int .i64 v.y, .int .i64 v.c, .int .i64 (YtihbhbeaihdgnaaGreat.Knd.lowZ f d), .int .i64 (YtihbhbeaihdgnaaGreat.Knd.highZ f d), .int .i64 (YtihbhbeaihdgnaaGreat.Knd.borderZ f d)]
theorem wnC_at (f d : Int) (v : Wd) : ∀ k, k < 6 → (wnC f d v)[k]? = some (.int .i64 (inpV f d v (k : Int)))
  | 0, _ => rfl
  | 1, _ => rfl
  | 2, _ => rfl
  | 3, _ => rfl
  | 4, _ => rfl
  | 5, _ => rfl
  | k + 6, h => by omega
/-- The boxes of a kind and a window. -/
structure Iq (W V : World) (f d : Int) (v : Wd) (a : Option Addr) (n cap : Nat) : Prop where
  k : HasC V W.heap.size 23 (kd f d)
  w : HasC V (W.heap.size + 1) 44 (wdA v a n cap)
  lo : Below W.heap.size W V
theorem Iq.below {W V V' : World} {f d : Int} {v : Wd} {a : Option Addr} {n cap : Nat} (h : Iq W V f d v a n cap) (hb : Below V.heap.size V V') : Iq W V' f d v a n cap :=
  ⟨h.k.below hb, h.w.below hb, bel h.lo hb⟩
theorem Iq.five {W V : World} {f d : Int} {v : Wd} {a : Option Addr} {n cap : Nat} (h : Iq W V f d v a n cap) : V.cell? ⟨W.heap.size, 0, none⟩ = some (.int .i64 f) ∧ V.cell? ⟨W.heap.size, 1, none⟩ = some (.int .i64 d) ∧ V.cell? ⟨W.heap.size + 1, 0, none⟩ = some (.int .i64 v.x) ∧ V.cell? ⟨W.heap.size + 1, 1, none⟩ = some (.int .i64 v.y) ∧ V.cell? ⟨W.heap.size + 1, 2, none⟩ = some (.int .i64 v.c) :=
  ⟨h.k.cell 0 rfl, h.k.cell 1 rfl, h.w.cell 0 rfl, h.w.cell 1 rfl, h.w.cell 2 rfl⟩

set_option maxRecDepth 100000 in
set_option maxHeartbeats 16000000 in
theorem winput_any (f d k : Int) (v : Wd) (a : Option Addr) (n cap : Nat) (h0 : 0 ≤ k) (h5 : k ≤ 5) (W : World) :
    Calls Tryz.prog 104 #[.agg (kd f d), .agg (wdA v a n cap), .int .i64 k] W fun e W' => e = .returned (.int .i64 (inpV f d v k)) ∧ Below W.heap.size W W' := by
  have HLo := hide fun W => YtihbhbeaihdgnaaGreat.Knd.rlow_any f d W
  have HHi := hide fun W => YtihbhbeaihdgnaaGreat.Knd.rhigh_any f d W
  have HBo := hide fun W => YtihbhbeaihdgnaaGreat.Knd.rborder_any f d W
  obtain ⟨j, rfl⟩ : ∃ j : Nat, k = j := ⟨k.toNat, by omega⟩
  have HAt := hide (wnC_at f d v j (by omega))
  obtain ⟨R, hR⟩ : ∃ R, inpV f d v (j : Int) = R := ⟨_, rfl⟩
  rw [hR] at HAt ⊢
  clear hR
  have i1 : (j : Int) < 6 := by omega
  have hb0 := bel (bel1 W (.cells (kd f d) 23)) (bel1 (W.alloc (.cells (kd f d) 23)) (.cells (wdA v a n cap) 44))
  have HK0 := (HasC.new W 23 (kd f d)).alloc (.cells (wdA v a n cap) 44)
  have HW0 : HasC ((W.alloc (.cells (kd f d) 23)).alloc (.cells (wdA v a n cap) 44)) (W.heap.size + 1) 44 (wdA v a n cap) := by
    have := HasC.new (W.alloc (.cells (kd f d) 23)) 44 (wdA v a n cap)
    simp only [World.size_alloc] at this
    exact this
  have HS1 := hide ((Iq.mk HK0 HW0 hb0).below (below_drew _))
  clear hb0 HK0 HW0 h5
  go_enter Tryz.func104, Tryz.ntmps104
  go_wp2_with fail
  refine wp_region_held_drew (S := fun w => Iq W w f d v a n cap) (by kernel_rfl) HS1.out (fun _ => ?_)
  refine wpAnyH_take (i := 0) (v := .pointer (some ⟨W.heap.size + 1, 0, none⟩)) rfl (by kernel_rfl) (by kernel_rfl) (by kernel_rfl) (fun _ _ _ h => h) (Or.inl ⟨by rfl, fun w hS => by obtain ⟨a0, a1, a2, a3, a4⟩ := hS.five; go_simp⟩) HS1.out ?_
  refine wpAnyH_take (i := 1) (v := .int .i64 v.x) rfl (by kernel_rfl) (by kernel_rfl) (by kernel_rfl) (fun _ _ _ h => h) (Or.inl ⟨by rfl, fun w hS => by obtain ⟨a0, a1, a2, a3, a4⟩ := hS.five; go_simp⟩) HS1.out ?_
  refine wpAnyH_take (i := 2) (v := .pointer (some ⟨W.heap.size + 1, 1, none⟩)) rfl (by kernel_rfl) (by kernel_rfl) (by kernel_rfl) (fun _ _ _ h => h) (Or.inl ⟨by rfl, fun w hS => by obtain ⟨a0, a1, a2, a3, a4⟩ := hS.five; go_simp⟩) HS1.out ?_
  refine wpAnyH_take (i := 3) (v := .int .i64 v.y) rfl (by kernel_rfl) (by kernel_rfl) (by kernel_rfl) (fun _ _ _ h => h) (Or.inl ⟨by rfl, fun w hS => by obtain ⟨a0, a1, a2, a3, a4⟩ := hS.five; go_simp⟩) HS1.out ?_
  refine wpAnyH_take (i := 4) (v := .pointer (some ⟨W.heap.size + 1, 2, none⟩)) rfl (by kernel_rfl) (by kernel_rfl) (by kernel_rfl) (fun _ _ _ h => h) (Or.inl ⟨by rfl, fun w hS => by obtain ⟨a0, a1, a2, a3, a4⟩ := hS.five; go_simp⟩) HS1.out ?_
  refine wpAnyH_take (i := 5) (v := .int .i64 v.c) rfl (by kernel_rfl) (by kernel_rfl) (by kernel_rfl) (fun _ _ _ h => h) (Or.inl ⟨by rfl, fun w hS => by obtain ⟨a0, a1, a2, a3, a4⟩ := hS.five; go_simp⟩) HS1.out ?_
  refine wpAnyH_take (i := 6) (v := .agg #[.int .i64 f, .int .i64 d]) rfl (by kernel_rfl) (by kernel_rfl) (by kernel_rfl) (fun _ _ _ h => h) (Or.inl ⟨by rfl, fun w hS => by obtain ⟨a0, a1, a2, a3, a4⟩ := hS.five; go_simp⟩) HS1.out ?_
  refine wpAnyH_take (i := 8) (v := .agg #[.int .i64 f, .int .i64 d]) rfl (by kernel_rfl) (by kernel_rfl) (by kernel_rfl) (fun _ _ _ h => h) (Or.inl ⟨by rfl, fun w hS => by obtain ⟨a0, a1, a2, a3, a4⟩ := hS.five; go_simp⟩) HS1.out ?_
  refine wpAnyH_take (i := 10) (v := .agg #[.int .i64 f, .int .i64 d]) rfl (by kernel_rfl) (by kernel_rfl) (by kernel_rfl) (fun _ _ _ h => h) (Or.inl ⟨by rfl, fun w hS => by obtain ⟨a0, a1, a2, a3, a4⟩ := hS.five; go_simp⟩) HS1.out ?_
  refine wpAnyH_take (i := 13) (v := .int .i64 (j : Int)) rfl (by kernel_rfl) (by kernel_rfl) (by kernel_rfl) (fun _ _ _ h => h) (Or.inl ⟨by rfl, fun w hS => by obtain ⟨a0, a1, a2, a3, a4⟩ := hS.five; go_simp⟩) HS1.out ?_
  refine wpAnyH_ready (rs := [7]) (by kernel_rfl) (by simp) (AllReadyH.cons rfl (fun K hK => ?_) AllReadyH.nil)
  go_simp
  refine (HLo.out _).mono ?_
  rintro r U1 ⟨rfl, hb⟩
  have HS2 := hide (HS1.out.below hb)
  clear hb HS1 HLo
  refine hK.out _ _ HS2.out (fun _ => ?_)
  clear hK K
  refine wpAnyH_ready (rs := [9]) (by kernel_rfl) (by simp) (AllReadyH.cons rfl (fun K hK => ?_) AllReadyH.nil)
  go_simp
  refine (HHi.out _).mono ?_
  rintro r U2 ⟨rfl, hb⟩
  have HS3 := hide (HS2.out.below hb)
  clear hb HS2 HHi
  refine hK.out _ _ HS3.out (fun _ => ?_)
  clear hK K
  refine wpAnyH_ready (rs := [11]) (by kernel_rfl) (by simp) (AllReadyH.cons rfl (fun K hK => ?_) AllReadyH.nil)
  go_simp
  refine (HBo.out _).mono ?_
  rintro r U3 ⟨rfl, hb⟩
  have HS4 := hide (HS3.out.below hb)
  clear hb HS3 HBo
  refine hK.out _ _ HS4.out (fun _ => ?_)
  clear hK K
  refine wpAnyH_ready (rs := [12]) (by kernel_rfl) (by simp) (AllReadyH.cons rfl (fun K hK => ?_) AllReadyH.nil)
  go_simp
  have HS5 := hide (And.intro (HS4.out.below (bel1 U3 (.cells (wnC f d v) 3))) ((HasC.new U3 3 (wnC f d v)).cell j HAt.out))
  clear HS4 HAt
  refine hK.out _ _ HS5.out.1 (fun _ => ?_)
  clear hK K
  refine wpAnyH_less (S' := fun w => Iq W w f d v a n cap ∧ w.cell? ⟨U3.heap.size, j, none⟩ = some (.int .i64 R)) (fun _ h => h.1) ?_
  refine wpAnyH_take (i := 14) (v := .pointer (some ⟨U3.heap.size, j, none⟩)) rfl (by kernel_rfl) (by kernel_rfl) (by kernel_rfl) (fun _ _ _ h => h) (Or.inl ⟨by rfl, fun w hS => by have hm := hS.2; go_simp⟩) HS5.out ?_
  refine wpAnyH_take (i := 15) (v := .int .i64 R) rfl (by kernel_rfl) (by kernel_rfl) (by kernel_rfl) (fun _ _ _ h => h) (Or.inl ⟨by rfl, fun w hS => by have hm := hS.2; go_simp⟩) HS5.out ?_
  refine wpAnyH_take (i := 16) (v := .int .i64 R) rfl (by kernel_rfl) (by kernel_rfl) (by kernel_rfl) (fun _ _ _ h => h) (Or.inl ⟨by rfl, fun w hS => by have hm := hS.2; go_simp⟩) HS5.out ?_
  refine wpAnyH_done (by kernel_rfl) ?_ _
  go_simp
  go_wp2_with fail
  go_ret
  exact ⟨rfl, HS5.out.1.lo⟩

end Go.Proofs.Cde

/-
  The document's Values.
-/
namespace Go.Proofs.Cde
open YtihbhbeaihdgnaaGreat (Wd wdA Fits inpV fitE_cases)
open Go.RowKit Go.IntWalk YtihbhbeaihdgnaaGreat.Knd Go.Sort
set_option linter.unusedVariables false

theorem Ls.at {w V : World} {vv : Value} {D : List Int} (h : Ls w V vv D) : ∃ a c, vv = .slice a D.length c ∧ Ints V a D.length c D := by
  obtain ⟨a, c, e, hi, -⟩ := Ints.of_owns h.a
  exact ⟨a, c, e, hi⟩
theorem agL_take {n : In} {D : List Int} {q : Nat} (hq : q < arN n) : (arV D n).take (q + 1) = (arV D n).take q ++ [D.getD (rgN n q).toNat 0] := by
  rw [take_snoc 0 (by rw [arV_len]; exact hq), arV_at D n q hq]

set_option maxRecDepth 100000 in
set_option maxHeartbeats 16000000 in
theorem xvalues_any (f d out : Int) (v : Wd) {a pa : Option Addr} {n cap pl pc : Nat} {L : List In} {W : World} (hL : Ins W a n cap L) (hP : Ints W pa pl pc v.ps) :
    Calls Tryz.prog 59 #[.agg (cd f d a n cap out), .agg (wdA v pa pl pc)] W (TwP W (vaZ f d v L out)) := by
  have hb1 := bel1 W (.cells (cd f d a n cap out) 26)
  have hb2 := bel hb1 (bel1 (W.alloc (.cells (cd f d a n cap out) 26)) (.cells (wdA v pa pl pc) 44))
  have HC0 := hide ((HasC.new W 26 (cd f d a n cap out)).alloc (.cells (wdA v pa pl pc) 44))
  have HW0 := hide (has_new1 W (.cells (cd f d a n cap out) 26) 44 (wdA v pa pl pc))
  have HB0 := hide hb2
  have HCk := hide (xMay_any f d out (hL.later hb2))
  have HLI := hide hL
  have HPI := hide hP
  have HLn := hide hL.len
  have hn := hL.short
  clear hb1 hb2 hL hP
  cases hm : mcB f d L out
  · rw [hm] at HCk
    rw [show vaZ f d v L out = (15, []) by rw [vaZ, if_neg (by rw [hm]; decide)]]
    clear hm
    go_enter Tryz.func59, Tryz.ntmps59
    go_wp2_with fail
    refine HCk.out.mono ?_
    rintro e V1 ⟨rfl, hb⟩
    have HB1 := hide (bel HB0.out hb)
    clear hb
    go_wp2_with fail
    exact bodyPost_ret (v := .tuple #[.slice none 0 0, .int .i64 15]) (by simp [results, Tryz.results59, go_sem]) rfl (TwP.no HB1.out)
  rw [hm] at HCk
  obtain ⟨-, m1, m2, -, -, hok⟩ := mc_parts hm
  rw [HLn.out] at m1 m2 hok
  have HF := hide fun w h => rfits_any f d v.x v.y v.c pa pl pc v.ps w h
  by_cases hF : Fits f d v
  · rw [show vaZ f d v L out = vlF f d v L by rw [vaZ, if_pos hm, if_pos hF]]
    have HFt := hide hF
    have HOk := hide hok
    clear hm hF hok
    go_enter Tryz.func59, Tryz.ntmps59
    go_wp2_with fail
    refine HCk.out.mono ?_
    rintro e V1 ⟨rfl, hb⟩
    have HC1 := hide (HC0.out.below hb)
    have HW1 := hide (HW0.out.below hb)
    have HB1 := hide (bel HB0.out hb)
    obtain ⟨c0, c1, c2, c3⟩ := four_of HC1.out
    obtain ⟨y0, y1, y2, y3⟩ := four_of HW1.out
    clear hb HC0 HW0 HB0 HCk
    go_wp2_with fail
    refine (HF.out _ (HPI.out.later HB1.out)).mono ?_
    rintro e V2 ⟨⟨qb, rfl, hqb⟩, hb⟩
    obtain rfl : qb = true := hqb.2 HFt.out
    have HC2 := hide (HC1.out.below hb)
    have HW2 := hide (HW1.out.below hb)
    have HB2 := hide (bel HB1.out hb)
    clear hb hqb HC1 HW1 HB1 c0 c1 c2 c3 y0 y1 y2 y3 HF
    go_wp2_with fail
    go_loopw [6, 7] (fun vv i wr => ∃ (k : Nat) (D : List Int), k ≤ n ∧ i = .int .i64 k ∧ Hid (vlF f d v (L.take k) = (0, D)) ∧ Hid (D.length = k) ∧ Hid (Ls V2 wr vv D)) (fun _ i _ => n - (intOf i).toNat)
    case atStart => exact ⟨0, [], Nat.zero_le _, rfl, hide rfl, hide rfl, hide (Ls.start V2)⟩
    case round =>
      obtain ⟨k, D, hk, rfl, HD, HDl, HE⟩ := hrel
      rename World => V
      have HC := hide (HC2.out.below HE.out.bel)
      have HW := hide (HW2.out.below HE.out.bel)
      have HB := hide (bel HB2.out HE.out.bel)
      obtain ⟨c0, c1, c2, c3⟩ := four_of HC.out
      by_cases hlt : k < n
      · obtain ⟨g, off, rfl, -, hat⟩ := (HLI.out.later HB.out).at (by omega)
        obtain ⟨e0, e1, e2, e3, e4, e5⟩ := hat k hlt
        clear hat
        have hi0 : (0 : Int) ≤ k := by omega
        have hi1 : (k : Int) < n := by omega
        have hOk := okT_at HOk.out hlt
        have hS := vlF_snoc f d v (L.take k) (L.getD k i0)
        rw [← take_snoc i0 (by rw [HLn.out]; exact hlt), HD.out] at hS
        have HSt := hide fun e h he => vlF_bad (f := f) (d := d) (v := v) (L := L) (k := k + 1) (e := e) h he
        generalize L.getD k i0 = m at *
        unfold vlS at hS
        simp only [if_true] at hS
        have HS := hide hS
        have HOm := hide hOk
        clear hS hOk
        have hb := bel1 V (.cells (ia m) 41)
        have HC5 := hide (HC.out.below hb)
        have HW5 := hide (HW.out.below hb)
        have HB5 := hide (bel HB.out hb)
        have HE5 := hide (HE.out.later hb)
        have HN5 := hide (HasC.new V 41 (ia m))
        clear hb
        have hz0 := HC.out.lt
        have hz1 := HW.out.lt
        have HJ : Hid (D.length ≤ 2000000) := hide (by rw [HDl.out]; omega)
        by_cases h1 : m.op = 1
        · have hv : vlI f d v D m = (m.k, 0) := by rw [vlI, if_pos h1]
          rw [hv] at HS
          simp only [if_true] at HS
          have p1 : (m.op == 1) = true := by simpa using h1
          clear h1 hv
          go_wp2_with (at_builtin; refine list_ls (w := V2) (L := D) rfl _ _ rfl rfl (HE5.out.alloc _) _ m.k rfl (by first | exact HasC.new _ _ _ | exact has_new1 _ _ _ _) HJ.out ?_; intro g2 cap2 w2 HE2; rw [HDl.out] at HE2 ⊢)
          go_roundw
          case rel => exact ⟨k + 1, D ++ [m.k], by omega, by go_num, HS, hide (by simp [HDl.out]), hide HE2⟩
          case measure => simp [intOf]; omega
        have p1 : (m.op == 1) = false := by simpa using h1
        by_cases h2 : m.op = 2
        · have hv : vlI f d v D m = (inpV f d v m.k, 0) := by rw [vlI, if_neg h1, if_pos h2]
          rw [hv] at HS
          simp only [if_true] at HS
          obtain ⟨k0, k5⟩ := cs_in (ok_con HOm.out) h2
          have HIn := hide fun w => winput_any f d m.k v pa pl pc k0 k5 w
          generalize inpV f d v m.k = x at *
          have p2 : (m.op == 2) = true := by simpa using h2
          obtain ⟨y0, y1, y2, y3⟩ := four_of HW.out
          clear h1 h2 hv k0 k5
          go_wp2_with fail
          refine (HIn.out _).mono ?_
          rintro e V6 ⟨rfl, hb⟩
          have HE6 := hide (HE5.out.later hb)
          clear hb e0 e1 e2 e3 e4 e5 c0 c1 c2 c3 y0 y1 y2 y3
          go_wp2_with (at_builtin; refine list_ls (w := V2) (L := D) rfl _ _ rfl rfl (HE6.out.alloc _) _ x rfl (HasC.new _ _ _) HJ.out ?_; intro g2 cap2 w2 HE2; rw [HDl.out] at HE2 ⊢)
          go_roundw
          case rel => exact ⟨k + 1, D ++ [x], by omega, by go_num, HS, hide (by simp [HDl.out]), hide HE2⟩
          case measure => simp [intOf]; omega
        have p2 : (m.op == 2) = false := by simpa using h2
        by_cases h3 : m.op = 3
        · have hv : vlI f d v D m = if countZ f d ≤ m.k then (0, 11) else (v.ps.getD m.k.toNat 0, 0) := by rw [vlI, if_neg h1, if_neg h2, if_pos h3]
          rw [hv] at HS
          obtain ⟨k0, k5⟩ := cs_place (ok_con HOm.out) h3
          obtain ⟨q, hq⟩ : ∃ q : Nat, m.k = (q : Int) := ⟨m.k.toNat, by omega⟩
          have hfl := fit_len HFt.out
          rw [HPI.out.len] at hfl
          have HCt := hide fun w => YtihbhbeaihdgnaaGreat.Knd.rcount_any f d w
          have p3 : (m.op == 3) = true := by simpa using h3
          have HQ := hide hq
          rw [hq] at HS
          clear h1 h2 h3 hv k0 k5
          generalize countZ f d = zc at *
          by_cases hk2 : zc ≤ (q : Int)
          · rw [if_pos hk2] at HS
            simp only at HS
            rw [if_neg (by decide)] at HS
            have HE3 := hide (HSt.out _ HS.out (by decide))
            clear hq
            go_wp2_with fail
            obtain ⟨V5, hV5⟩ : ∃ V5, V.alloc (.cells (ia m) 41) = V5 := ⟨_, rfl⟩
            rw [hV5] at HC5 HW5 HB5 HE5 HN5 ⊢
            obtain ⟨-, -, -, -, f4, -⟩ := six_of HN5.out
            rw [HQ.out] at f4
            obtain ⟨x0, x1, -, -⟩ := four_of HC5.out
            have r0 := cell_regrown f4
            have r1 := cell_regrown x0
            have r2 := cell_regrown x1
            clear hV5
            refine wp_region_quiet_below mixed0 (by kernel_rfl) ?_
            repeat (go_big_quiet_step (fail))
            go_big_quiet_step ((go_at_call 21; exact Calls.regrown_of (HCt.out _)))
            repeat (go_big_quiet_step (fail))
            refine wpQuiet_nil ?_
            intro V6 hw'
            obtain ⟨⟨dq, osq⟩, hw''⟩ := hw'
            have hb := below_regrown V5 dq osq
            simp only at hw''
            rw [← hw''] at hb
            clear hw'' r0 r1 r2
            have HB6 := hide (bel HB5.out hb)
            clear hb
            go_wp2_with fail
            exact bodyPost_ret (v := .tuple #[.slice none 0 0, .int .i64 11]) (by simp [results, Tryz.results59, go_sem]) rfl (by rw [HE3.out]; exact TwP.no HB6.out)
          · rw [if_neg hk2, Int.toNat_natCast] at HS
            simp only [if_true] at HS
            have hql : q < pl := by omega
            have hk3 : decide (zc ≤ (q : Int)) = false := by simpa using hk2
            obtain ⟨x, hx⟩ : ∃ x, v.ps.getD q 0 = x := ⟨_, rfl⟩
            rw [hx] at HS
            have HX := hide hx
            clear hq hx
            go_wp2_with fail
            obtain ⟨V5, hV5⟩ : ∃ V5, V.alloc (.cells (ia m) 41) = V5 := ⟨_, rfl⟩
            rw [hV5] at HC5 HW5 HB5 HE5 HN5 ⊢
            obtain ⟨-, -, -, -, f4, -⟩ := six_of HN5.out
            rw [HQ.out] at f4
            obtain ⟨x0, x1, -, -⟩ := four_of HC5.out
            have r0 := cell_regrown f4
            have r1 := cell_regrown x0
            have r2 := cell_regrown x1
            clear hV5
            refine wp_region_quiet_below mixed0 (by kernel_rfl) ?_
            repeat (go_big_quiet_step (fail))
            go_big_quiet_step ((go_at_call 21; exact Calls.regrown_of (HCt.out _)))
            repeat (go_big_quiet_step (fail))
            refine wpQuiet_nil ?_
            intro V6 hw'
            obtain ⟨⟨dq, osq⟩, hw''⟩ := hw'
            have hb := below_regrown V5 dq osq
            simp only at hw''
            rw [← hw''] at hb
            clear hw'' r0 r1 r2 f4 x0 x1
            have HE6 := hide (HE5.out.later hb)
            obtain ⟨-, -, -, -, f4, -⟩ := six_of (HN5.out.below hb)
            rw [HQ.out] at f4
            obtain ⟨-, -, -, y3⟩ := four_of (HW5.out.below hb)
            obtain ⟨pb, po, rfl, -, hpat⟩ := (HPI.out.later (bel HB5.out hb)).at (by omega)
            have px := hpat q hql
            rw [HX.out] at px
            have w0 : (0 : Int) ≤ q := by omega
            have w1 : (q : Int) < pl := by omega
            clear hb hpat hk2 hfl e0 e1 e2 e3 e4 e5 c0 c1 c2 c3
            go_wp2_with (at_builtin; refine list_ls (w := V2) (L := D) rfl _ _ rfl rfl (HE6.out.alloc _) _ x rfl (HasC.new _ _ _) HJ.out ?_; intro g2 cap2 w2 HE2; rw [HDl.out] at HE2 ⊢)
            go_roundw
            case rel => exact ⟨k + 1, D ++ [x], by omega, by go_num, HS, hide (by simp [HDl.out]), hide HE2⟩
            case measure => simp [intOf]; omega
        have p3 : (m.op == 3) = false := by simpa using h3
        have hv : vlI f d v D m = YtihbhbeaihdgnaaGreat.Spn.valZ m.op m.k m.s (arV D m) := by rw [vlI, if_neg h1, if_neg h2, if_neg h3]
        rw [hv] at HS
        have HA := hide fun w => xargs_any m w
        have HR := hide fun j hj => ok_reg HOm.out (j := j) hj
        have HT0 := hide fun q (h : q < arN m) => agL_take (n := m) (D := D) h
        have HAl := hide (arV_len D m)
        have hr3 := arN_le m
        have HRg : Hid (∀ q, q < 3 → (zA (abc m))[q]? = some (.int .i64 (rgN m q))) := hide fun q h => by rw [zA_get _ q (by simp [abc]; omega), abc_at m q h]
        generalize arV D m = A at *
        generalize arN m = r at *
        obtain ⟨va, vc, rfl, hDi⟩ := HE.out.at
        clear h1 h2 h3 hv hDi
        go_wp2_with fail
        refine (HA.out _).mono ?_
        rintro e V6 ⟨ga, rfl, hga, hG, hb⟩
        have HG := hide hG
        have HE6 := hide (HE5.out.later hb)
        have HN6 := hide (HN5.out.below hb)
        have HB6 := hide (bel HB5.out hb)
        clear hb hG hga e0 e1 e2 e3 e4 e5 c0 c1 c2 c3 HE5 HN5 HB5 HA
        go_wp2_with fail
        go_loopw [12, 13] (fun vv j wr => ∃ q : Nat, q ≤ r ∧ j = .int .i64 q ∧ Hid (Ls V6 wr vv (A.take q))) (fun _ j _ => r - (intOf j).toNat)
        case atStart => exact ⟨0, Nat.zero_le _, rfl, hide (Ls.start V6)⟩
        case round =>
          obtain ⟨q, hq, rfl, HE7⟩ := hrel
          rename World => V7
          by_cases hqr : q < r
          · have cp := (HG.out.below HE7.out.bel).cell q (HRg.out q (by omega))
            obtain ⟨p0, p1⟩ := HR.out q hqr
            have HT := hide (HT0.out q hqr)
            obtain ⟨p, hp⟩ : ∃ p : Nat, rgN m q = (p : Int) := ⟨(rgN m q).toNat, by omega⟩
            rw [hp] at cp p1 HT
            simp only [Int.toNat_natCast] at p1 HT
            obtain ⟨_, _, hee, hDi⟩ := (HE6.out.later HE7.out.bel).at
            cases hee
            rw [HDl.out] at hDi
            obtain ⟨db, dof, rfl, -, hat5⟩ := hDi.at (by omega)
            have lp := hat5 p (by omega)
            generalize D.getD p 0 = sv at *
            have s0 : (0 : Int) ≤ q := by omega
            have s1 : (q : Int) < r := by omega
            have s2 : (q : Int) < 3 := by omega
            have t0 : (0 : Int) ≤ p := by omega
            have t1 : (p : Int) < (D.length : Int) := by rw [HDl.out]; omega
            have HJ2 : Hid ((A.take q).length = q) := hide (by rw [List.length_take, HAl.out]; omega)
            clear p0 p1 hp hat5 hDi
            go_wp2_with (at_builtin; refine list_ls (w := V6) (L := A.take q) rfl _ _ rfl rfl (HE7.out.alloc _) _ sv rfl (HasC.new _ _ _) (by rw [HJ2.out]; omega) ?_; intro g2 cap2 w2 HE2; rw [HJ2.out] at HE2 ⊢)
            go_roundw
            case rel => exact ⟨q + 1, by omega, by go_num, hide (by rw [HT.out]; exact HE2)⟩
            case measure => simp [intOf]; omega
          · obtain rfl : q = r := by omega
            have e : A.take q = A := List.take_of_length_le (by rw [HAl.out]; exact Nat.le_refl _)
            have HE1 := HE7.out
            rw [e] at HE1
            obtain ⟨aa, ac, rfl, hAi⟩ := HE1.at
            have HVa := hide (YtihbhbeaihdgnaaGreat.Spn.rvalue_any m.op m.k m.s _ _ _ _ _ (spn hAi))
            have HN7 := hide (HN6.out.below HE1.bel)
            have HB7 := hide (bel HB6.out HE1.bel)
            have HE8 := hide (HE6.out.later HE1.bel)
            obtain ⟨f0, -, -, -, f4, f5⟩ := six_of HN7.out
            generalize YtihbhbeaihdgnaaGreat.Spn.valZ m.op m.k m.s A = X at *
            obtain ⟨x, er⟩ := X
            simp only at HS
            clear hAi HE1 e HE7
            go_wp2_with fail
            refine HVa.out.mono ?_
            rintro e V8 ⟨rfl, rfl⟩
            by_cases he : er = 0
            · subst he
              rw [if_pos rfl] at HS
              go_wp2_with (at_builtin; refine list_ls (w := V2) (L := D) rfl _ _ rfl rfl (HE8.out.alloc _) _ x rfl (HasC.new _ _ _) HJ.out ?_; intro g2 cap2 w2 HE2; rw [HDl.out] at HE2 ⊢)
              go_roundw
              case rel => exact ⟨k + 1, D ++ [x], by omega, by go_num, HS, hide (by simp [HDl.out]), hide HE2⟩
              case measure => simp [intOf]; omega
            · rw [if_neg he] at HS
              have HE3 := hide (HSt.out _ HS.out he)
              have he2 : (er != 0) = true := by simpa using he
              clear he
              go_wp2_with fail
              exact bodyPost_ret (v := .tuple #[.slice none 0 0, .int .i64 er]) (by simp [results, Tryz.results59, go_sem]) rfl (by rw [HE3.out]; exact TwP.no HB7.out)
      · obtain rfl : k = n := by omega
        have hD := HD.out
        rw [List.take_of_length_le (by rw [HLn.out]; exact Nat.le_refl _)] at hD
        have HD2 := hide hD
        obtain ⟨va, vc, rfl, -⟩ := HE.out.at
        clear hD
        go_wp2_with fail
        exact bodyPost_ret (v := .tuple #[.slice va D.length vc, .int .i64 0]) (by simp [results, Tryz.results59, go_sem]) rfl (by rw [HD2.out]; exact ⟨va, vc, rfl, own_mono HE.out.a HB2.out.size, HB.out⟩)
  · rw [show vaZ f d v L out = (1, []) by rw [vaZ, if_pos hm, if_neg hF]]
    have HFt := hide hF
    clear hm hF
    go_enter Tryz.func59, Tryz.ntmps59
    go_wp2_with fail
    refine HCk.out.mono ?_
    rintro e V1 ⟨rfl, hb⟩
    have HC1 := hide (HC0.out.below hb)
    have HW1 := hide (HW0.out.below hb)
    have HB1 := hide (bel HB0.out hb)
    obtain ⟨c0, c1, c2, c3⟩ := four_of HC1.out
    obtain ⟨y0, y1, y2, y3⟩ := four_of HW1.out
    clear hb HC0 HW0 HB0 HCk
    go_wp2_with fail
    refine (HF.out _ (HPI.out.later HB1.out)).mono ?_
    rintro e V2 ⟨⟨qb, rfl, hqb⟩, hb⟩
    obtain rfl : qb = false := by
      cases qb
      · rfl
      · exact absurd (hqb.1 rfl) HFt.out
    have HB2 := hide (bel HB1.out hb)
    clear hb hqb
    go_wp2_with fail
    exact bodyPost_ret (v := .tuple #[.slice none 0 0, .int .i64 1]) (by simp [results, Tryz.results59, go_sem]) rfl (TwP.no HB2.out)

end Go.Proofs.Cde

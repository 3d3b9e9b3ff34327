/-
  code.input and code.value: what an instruction comes to.
-/
import Derived.Test.YtihbhbeaihdgnaaMCdB3
import Derived.Test.YtihbhbeaihdgnaaMVa
import Derived.Deep.RegionWith
namespace Go.Proofs.Cde
open Go.RowKit Go.IntWalk Ytihbhbeaihdgnaa.Knd
set_option linter.unusedVariables false

open Ytihbhbeaihdgnaa (Wd wdA Fits inpV fitE_cases)
/-- What an instruction comes to, by the registers ahead of it; the error beside it. -/
def arV (V : List Int) (n : In) : List Int := (agL n).map fun r => V.getD r.toNat 0
def vlI (f d : Int) (v : Wd) (V : List Int) (n : In) : Int × Int :=
  if n.op = 1 then (n.k, 0) else if n.op = 2 then (inpV f d v n.k, 0) else if n.op = 3 then (if countZ f d ≤ n.k then (0, 11) else (v.ps.getD n.k.toNat 0, 0)) else Ytihbhbeaihdgnaa.Spn.valZ n.op n.k n.s (arV V n)
theorem arV_len (V : List Int) (n : In) : (arV V n).length = arN n := by rw [arV, List.length_map, agL_len]
theorem agL_at (n : In) (k : Nat) (h : k < arN n) : (agL n).getD k 0 = rgN n k := by
  rw [agL, List.getD_eq_getElem?_getD, List.getElem?_take_of_lt h]
  rfl
theorem arV_at (V : List Int) (n : In) (k : Nat) (h : k < arN n) : (arV V n).getD k 0 = V.getD (rgN n k).toNat 0 := by
  rw [← agL_at n k h, arV]
  simp [List.getD_eq_getElem?_getD, List.getElem?_map, List.getElem?_eq_getElem (show k < (agL n).length by rw [agL_len]; exact h)]
/-- What stands in the list of arguments behind k rounds. -/
def arM (V : List Int) (n : In) (k : Nat) : List Int := (arV V n).take k ++ (abc n).drop k
theorem arM_len (V : List Int) (n : In) {k : Nat} (h : k ≤ arN n) : (arM V n k).length = 3 := by
  have := arN_le n
  simp [arM, arV_len, abc]
  omega
theorem arM_split (V : List Int) (n : In) {k : Nat} (h : k < arN n) : arM V n k = (arV V n).take k ++ rgN n k :: (abc n).drop (k + 1) := by
  have := arN_le n
  rw [arM, List.drop_eq_getElem_cons (show k < (abc n).length by simp [abc]; omega)]
  congr 2
  rw [← abc_at n k (by omega), List.getD_eq_getElem?_getD, List.getElem?_eq_getElem (by simp [abc]; omega)]
  rfl
theorem arM_succ (V : List Int) (n : In) {k : Nat} (h : k < arN n) : (arV V n).take k ++ V.getD (rgN n k).toNat 0 :: (abc n).drop (k + 1) = arM V n (k + 1) := by
  rw [arM, take_snoc 0 (by rw [arV_len]; exact h), arV_at V n k h]
  simp
theorem arM_get (V : List Int) (n : In) {k : Nat} (h : k < arN n) : (arM V n k).getD k 0 = rgN n k := by
  rw [arM_split V n h, List.getD_eq_getElem?_getD, List.getElem?_append_right (by rw [List.length_take]; omega)]
  have e : k - ((arV V n).take k).length = 0 := by rw [List.length_take, arV_len]; omega
  rw [e]
  rfl
theorem arM_done (V : List Int) (n : In) : arM V n (arN n) = arV V n ++ (abc n).drop (arN n) := by
  rw [arM, List.take_of_length_le (by rw [arV_len]; exact Nat.le_refl _)]
theorem z_pre {W : World} {g : Nat} {L M : List Int} (h : HasC W g 3 (zA (L ++ M))) (hl : (L ++ M).length = 3) : Ints W (some ⟨g, 0, none⟩) L.length 3 L := by
  have h2 : L.length ≤ 3 := by rw [← hl]; simp
  refine ⟨rfl, h2, by decide, (fun h => by cases h), .inr ⟨g, 0, rfl, fun i hi => ?_⟩⟩
  rw [Nat.zero_add, h.cell i (zA_get _ i (by simp; omega)), getD_pre hi]
theorem fit_len {f d : Int} {v : Wd} (h : Fits f d v) : (v.ps.length : Int) = countZ f d := h.2.1

theorem ok_reg {n : In} {i : Nat} (h : okI n i = true) {j : Nat} (hj : j < arN n) : 0 ≤ rgN n j ∧ (rgN n j).toNat < i := by
  simp only [okI, Bool.and_eq_true] at h
  have h3 := arN_le n
  have hr := h.1.2
  rw [← rgT_three] at hr
  simp only [rgT, List.all_eq_true, List.mem_range] at hr
  have := hr j (by omega)
  rw [rgB, if_pos (by simp [arN] at *; omega), Ytihbhbeaihdgnaa.Spn.inB_iff] at this
  omega
theorem ok_con {n : In} {i : Nat} (h : okI n i = true) : csB n = true := by
  simp only [okI, Bool.and_eq_true] at h
  exact h.2
theorem ok_ar {n : In} {i : Nat} (h : okI n i = true) : 0 ≤ Ytihbhbeaihdgnaa.Spn.ar n.op := by
  simp only [okI, Bool.and_eq_true, decide_eq_true_eq] at h
  exact h.1.1
theorem cargs_ex (n : In) (W : World) :
    Calls Try.prog 35 #[.agg (ia n)] W fun e W' => ∃ g, e = .returned (.slice (some ⟨g, 0, none⟩) (arN n) 3) ∧ W.heap.size ≤ g ∧ HasC W' g 3 (zA (abc n)) ∧ Below W.heap.size W W' :=
  (cargs_any n W).mono fun e W' ⟨h1, h2, h3⟩ => ⟨_, h1, by omega, h2, h3⟩

end Go.Proofs.Cde

/-
  code.Values: what every register comes to.
-/
namespace Go.Proofs.Cde
open Ytihbhbeaihdgnaa (Wd wdA Fits inpV fitE_cases)
open Go.RowKit Go.IntWalk Ytihbhbeaihdgnaa.Knd
set_option linter.unusedVariables false

/-- One step, and all of them: the error, and what came out ahead of it. -/
def vlS (f d : Int) (v : Wd) (s : Int × List Int) (n : In) : Int × List Int :=
  if s.1 = 0 then (if (vlI f d v s.2 n).2 = 0 then (0, s.2 ++ [(vlI f d v s.2 n).1]) else ((vlI f d v s.2 n).2, [])) else s
def vlF (f d : Int) (v : Wd) (L : List In) : Int × List Int := L.foldl (vlS f d v) (0, [])
theorem vlF_snoc (f d : Int) (v : Wd) (L : List In) (n : In) : vlF f d v (L ++ [n]) = vlS f d v (vlF f d v L) n := by simp [vlF]
theorem vlF_stuck (f d : Int) (v : Wd) : ∀ (L : List In) (s : Int × List Int), s.1 ≠ 0 → L.foldl (vlS f d v) s = s
  | [], s, h => rfl
  | n :: L, s, h => by
    rw [List.foldl_cons, show vlS f d v s n = s by rw [vlS, if_neg h]]
    exact vlF_stuck f d v L s h
theorem vlF_bad {f d : Int} {v : Wd} {L : List In} {k : Nat} {e : Int × List Int} (h : vlF f d v (L.take k) = e) (he : e.1 ≠ 0) : vlF f d v L = e := by
  have : vlF f d v L = (L.drop k).foldl (vlS f d v) (vlF f d v (L.take k)) := by
    rw [vlF, vlF, ← List.foldl_append, List.take_append_drop]
  rw [this, h, vlF_stuck f d v _ _ he]
theorem vlF_len (f d : Int) (v : Wd) (L : List In) : ∀ k, k ≤ L.length → (vlF f d v (L.take k)).1 = 0 → (vlF f d v (L.take k)).2.length = k
  | 0, _, _ => by simp [vlF]
  | k + 1, h, he => by
    have ih := vlF_len f d v L k (by omega)
    rw [take_snoc i0 (by omega), vlF_snoc] at he ⊢
    unfold vlS at he ⊢
    split at he
    · rename_i h0
      rw [if_pos h0]
      split at he
      · rename_i h1
        rw [if_pos h1]
        simp [ih h0]
      · rename_i h1
        exact absurd he h1
    · rename_i h0
      exact absurd he h0
open Classical in
/-- What Values answers: the error, and the registers. -/
noncomputable def vaZ (f d : Int) (v : Wd) (L : List In) (out : Int) : Int × List Int := if mcB f d L out = true then (if Fits f d v then vlF f d v L else (1, [])) else (15, [])
/-- An answer of two parts: a list of the call's own, and an error. -/
def TwP (w : World) (Z : Int × List Int) (e : Ending) (W' : World) : Prop :=
  ∃ a c, e = .returned (.tuple #[.slice a Z.2.length c, .int .i64 Z.1]) ∧ W'.ownsRow w.heap.size 3 1 (.slice a Z.2.length c) Z.2.length (i64s Z.2) ∧ Below w.heap.size w W'
theorem TwP.no {w W' : World} {er : Int} (hb : Below w.heap.size w W') : TwP w (er, []) (.returned (.tuple #[.slice none 0 0, .int .i64 er])) W' := ⟨_, _, rfl, ⟨rfl, .inl ⟨rfl, rfl⟩⟩, hb⟩
theorem TwP.row {w W' : World} {D : List Int} {g n : Nat} (hg : HasC W' g 3 (zA D)) (hn : D.length = n) (h0 : w.heap.size ≤ g) (hl : n ≤ 1024) (hb : Below w.heap.size w W') : TwP w (0, D) (.returned (.tuple #[.slice (some ⟨g, 0, none⟩) n n, .int .i64 0])) W' := by
  subst hn
  exact ⟨_, _, rfl, z_owns hg h0 hl, hb⟩
theorem ccE_zero {f d : Int} {L : List In} {out : Int} (h : ccE f d L out = 0) : mcB f d L out = true := by
  unfold ccE at h
  split at h
  · assumption
  · omega
theorem ccE_cases (f d : Int) (L : List In) (out : Int) : (mcB f d L out = true ∧ ccE f d L out = 0) ∨ (¬ mcB f d L out = true ∧ ccE f d L out = 15) := by
  unfold ccE
  by_cases h : mcB f d L out = true
  · exact .inl ⟨h, if_pos h⟩
  · exact .inr ⟨h, if_neg h⟩
theorem mc_parts {f d : Int} {L : List In} {out : Int} (h : mcB f d L out = true) : May f d ∧ 1 ≤ L.length ∧ L.length ≤ 200 ∧ 0 ≤ out ∧ out < L.length ∧ okT L L.length = true := by
  simp only [mcB, Bool.and_eq_true, decide_eq_true_eq, Ytihbhbeaihdgnaa.Spn.inB_iff] at h
  obtain ⟨⟨⟨h1, h2⟩, h3⟩, h4⟩ := h
  exact ⟨h1, by omega, by omega, by omega, by omega, h4⟩
theorem vlI_pre {f d : Int} {v : Wd} {D Z : List Int} {n : In} (h : okI n D.length = true) : vlI f d v (D ++ Z) n = vlI f d v D n := by
  have e : arV (D ++ Z) n = arV D n := by
    unfold arV
    apply List.map_congr_left
    intro r hr
    obtain ⟨j, hj, rfl⟩ := List.getElem_of_mem hr
    rw [agL_len] at hj
    have := ok_reg h hj
    rw [← agL_at n j hj, List.getD_eq_getElem?_getD, List.getElem?_eq_getElem (by rw [agL_len]; exact hj)] at this
    exact getD_pre this.2
  rw [vlI, vlI, e]

end Go.Proofs.Cde

/-
  code.Cost; seven and awake of the statements.
-/
namespace Go.Proofs.Cde
open Ytihbhbeaihdgnaa (Wd wdA Fits inpV fitE_cases)
open Go.RowKit Go.IntWalk Ytihbhbeaihdgnaa.Knd
set_option linter.unusedVariables false

def coL (L : List In) : Int := L.foldl (fun s n => s + coZ n.op) 0
theorem coL_snoc (L : List In) (n : In) : coL (L ++ [n]) = coL L + coZ n.op := by simp [coL]
theorem coL_le (L : List In) : ∀ k, k ≤ L.length → 0 ≤ coL (L.take k) ∧ coL (L.take k) ≤ 6 * k
  | 0, _ => by simp [coL]
  | k + 1, h => by
    have ih := coL_le L k (by omega)
    rw [take_snoc i0 (by omega), coL_snoc]
    have := coZ_le (L.getD k i0).op
    omega

set_option maxRecDepth 100000 in
set_option maxHeartbeats 4000000 in
theorem ccost_any (f d out : Int) {a : Option Addr} {n cap : Nat} {L : List In} {W : World} (hL : Ins W a n cap L) (hn : n ≤ 1000000000000000) :
    Calls Try.prog 15 #[.agg (cd f d a n cap out)] W fun e W' => e = .returned (.int .i64 (coL L)) ∧ Below W.heap.size W W' := by
  have HB0 := hide (bel1 W (.cells (cd f d a n cap out) 26))
  have HLI := hide hL
  have HLn := hide hL.len
  clear hL
  go_enter Try.func15, Try.ntmps15
  go_wp2_with fail
  go_loopw [3, 9] (fun s i wr => ∃ (k : Nat) (c : Int), k ≤ n ∧ i = .int .i64 k ∧ s = .int .i64 c ∧ 0 ≤ c ∧ c ≤ 6 * k ∧ Hid (c = coL (L.take k)) ∧ Hid (Below W.heap.size W wr)) (fun _ i _ => n - (intOf i).toNat)
  case atStart => exact ⟨0, 0, Nat.zero_le _, rfl, rfl, Int.le_refl _, Int.le_refl _, hide rfl, HB0⟩
  case round =>
    obtain ⟨k, c, hk, rfl, rfl, hc0, hc6, HC, HB⟩ := hrel
    rename World => V
    clear HB0
    by_cases hlt : k < n
    · obtain ⟨g, off, rfl, -, hat⟩ := (HLI.out.later HB.out).at (by omega)
      obtain ⟨e0, e1, e2, e3, e4, e5⟩ := hat k hlt
      clear hat
      have hi0 : (0 : Int) ≤ k := by omega
      have hi1 : (k : Int) < n := by omega
      have HC2 := hide (show c + coZ (L.getD k i0).op = coL (L.take (k + 1)) by rw [take_snoc i0 (by rw [HLn.out]; exact hlt), coL_snoc, HC.out])
      generalize L.getD k i0 = m at *
      have HCo := hide fun w => cost_any m.op w
      obtain ⟨z0, z1⟩ := coZ_le m.op
      generalize coZ m.op = z at *
      have HB2 := hide (bel HB.out (bel1 V (.cells (ia m) 51)))
      go_wp2_with (go_at_call 25; refine (HCo.out _).mono ?_; rintro e w' ⟨rfl, rfl⟩)
      go_roundw
      case rel => exact ⟨k + 1, c + z, by omega, by go_num, rfl, by omega, by omega, HC2, HB2⟩
      case measure => simp [intOf]; omega
    · obtain rfl : k = n := by omega
      have hC := HC.out
      rw [List.take_of_length_le (by rw [HLn.out]; exact Nat.le_refl _)] at hC
      have HC2 := hide hC
      clear hC
      go_wp2_with fail
      go_ret
      exact ⟨ret_int HC2.out, HB.out⟩

theorem has_ins {W : World} {g : Nat} {L : List In} (h : HasC W g 51 (is6 L).toArray) (hl : L.length ≤ 1024) : Ins W (some ⟨g, 0, none⟩) L.length L.length L := by
  refine ⟨rfl, Nat.le_refl _, by unfold maxLen; omega, (fun h => by cases h), .inr ⟨g, 0, rfl, h.lt, fun i hi j v hv => ?_⟩⟩
  rw [Nat.add_assoc, Nat.zero_add]
  refine h.cell _ ?_
  rw [List.getElem?_toArray]
  exact is6_get L i hi j v hv

end Go.Proofs.Cde

/-
  How often each register is read, plainly.
-/
import Derived.Test.YtbingoelpeoimaaGreatMCdC
import Derived.Test.YtbingoelpeoimaaGreatMCdM
namespace Go.Proofs.Cde
open YtbingoelpeoimaaGreat (Wd wdA Fits inpV fitE_cases)
open YtbingoelpeoimaaGreat.Knd
set_option linter.unusedVariables false

/-- How often r stands in a list. -/
def ctR (r : Nat) (A : List Int) : Int := ((A.filter fun x => decide (x.toNat = r)).length : Nat)
theorem ctR_snoc (r : Nat) (A : List Int) (x : Int) : ctR r (A ++ [x]) = ctR r A + if x.toNat = r then 1 else 0 := by
  unfold ctR
  rw [List.filter_append, List.length_append]
  by_cases h : x.toNat = r
  · simp [h]
  · simp [h]
theorem ctR_le (r : Nat) (A : List Int) : 0 ≤ ctR r A ∧ ctR r A ≤ A.length := by
  unfold ctR
  have := List.length_filter_le (fun x => decide (x.toNat = r)) A
  omega
def bump (U : List Int) (x : Int) : List Int := U.set x.toNat (U.getD x.toNat 0 + 1)
def usF (n : Nat) (A : List Int) : List Int := A.foldl bump (List.replicate n 0)
theorem usF_snoc (n : Nat) (A : List Int) (x : Int) : usF n (A ++ [x]) = bump (usF n A) x := by simp [usF]
theorem foldl_bump_len : ∀ (A U : List Int), (A.foldl bump U).length = U.length
  | [], U => rfl
  | x :: A, U => by rw [List.foldl_cons, foldl_bump_len A]; simp [bump]
theorem usF_len (n : Nat) (A : List Int) : (usF n A).length = n := by rw [usF, foldl_bump_len]; simp
theorem bump_get {U : List Int} {x : Int} {r : Nat} (hr : r < U.length) : (bump U x).getD r 0 = U.getD r 0 + if x.toNat = r then 1 else 0 := by
  unfold bump
  simp only [List.getD_eq_getElem?_getD]
  rw [List.getElem?_set]
  by_cases h : x.toNat = r
  · subst h
    simp [hr]
  · simp [h]
theorem usF_get (n : Nat) {r : Nat} (hr : r < n) (A : List Int) : ∀ k, k ≤ A.length → (usF n (A.take k)).getD r 0 = ctR r (A.take k)
  | 0, _ => by simp [usF, ctR, List.getD_eq_getElem?_getD, hr]
  | k + 1, h => by
    rw [take_snoc 0 (by omega), usF_snoc, bump_get (by rw [usF_len]; exact hr), ctR_snoc, usF_get n hr A k (by omega)]
theorem usF_at (n : Nat) {r : Nat} (hr : r < n) (A : List Int) : (usF n A).getD r 0 = ctR r A := by
  have := usF_get n hr A A.length (Nat.le_refl _)
  rwa [List.take_length] at this
/-- All registers that are read. -/
def agA (L : List In) : List Int := L.flatMap agL
theorem agA_snoc (L : List In) (n : In) : agA (L ++ [n]) = agA L ++ agL n := by simp [agA]
theorem agA_len (L : List In) : (agA L).length ≤ 3 * L.length := by
  induction L with
  | nil => simp [agA]
  | cons n L ih =>
    have := arN_le n
    simp only [agA, List.flatMap_cons, List.length_append, List.length_cons, agL_len] at *
    omega
/-- What Uses tells. -/
def usU (L : List In) (out : Int) : List Int := (List.range L.length).map fun (r : Nat) => (if out = (r : Int) then 1 else 0) + ctR r (agA L)
theorem usU_len (L : List In) (out : Int) : (usU L out).length = L.length := by simp [usU]
theorem usU_at (L : List In) (out : Int) {r : Nat} (hr : r < L.length) : (usU L out).getD r 0 = (if out = (r : Int) then 1 else 0) + ctR r (agA L) := by
  simp [usU, List.getD_eq_getElem?_getD, hr]
theorem usU_eq {L : List In} {out : Int} (h0 : 0 ≤ out) : bump (usF L.length (agA L)) out = usU L out := by
  have hl : (bump (usF L.length (agA L)) out).length = L.length := by simp [bump, usF_len]
  apply List.ext_getElem (by rw [hl, usU_len])
  intro r h1 h2
  rw [hl] at h1
  have e1 := bump_get (U := usF L.length (agA L)) (x := out) (r := r) (by rw [usF_len]; exact h1)
  rw [usF_at _ h1] at e1
  have e2 := usU_at L out h1
  simp only [List.getD_eq_getElem?_getD] at e1 e2
  rw [List.getElem?_eq_getElem (by rw [hl]; exact h1)] at e1
  rw [List.getElem?_eq_getElem (by rw [usU_len]; exact h1)] at e2
  simp only [Option.getD_some] at e1 e2
  rw [e1, e2]
  by_cases h : out = (r : Int)
  · subst h; simp; omega
  · rw [if_neg h, if_neg (by omega)]; omega
def usZ (f d : Int) (L : List In) (out : Int) : Int × List Int := if mcB f d L out = true then (0, usU L out) else (15, [])
theorem agL_succ (n : In) {q : Nat} (h : q < arN n) : (agL n).take (q + 1) = (agL n).take q ++ [rgN n q] := by
  rw [take_snoc 0 (by rw [agL_len]; exact h), agL_at n q h]
theorem agL_full (n : In) : (agL n).take (arN n) = agL n := List.take_of_length_le (by rw [agL_len]; exact Nat.le_refl _)

end Go.Proofs.Cde

/-
  The document's Args.
-/
namespace Go.Proofs.Cde
open YtbingoelpeoimaaGreat (Wd wdA Fits inpV fitE_cases)
open Go.RowKit Go.IntWalk YtbingoelpeoimaaGreat.Knd
set_option linter.unusedVariables false

set_option maxRecDepth 100000 in
set_option maxHeartbeats 4000000 in
theorem xargs_any (n : In) (W : World) :
    Calls Tryz.prog 23 #[.agg (ia n)] W fun e W' => ∃ g, e = .returned (.slice (some ⟨g, 0, none⟩) (arN n) 3) ∧ W.heap.size ≤ g ∧ HasC W' g 3 (zA (abc n)) ∧ Below W.heap.size W W' := by
  have HA := hide fun W => YtbingoelpeoimaaGreat.Spn.rarity_any n.op W
  have HB := hide (bel (bel1 W (.cells (ia n) 44)) (bel1 (W.alloc (.cells (ia n) 44)) (.cells (zA (abc n)) 3)))
  have HG := hide (has_new1 W (.cells (ia n) 44) 3 (zA (abc n)))
  rcases ar_five n.op with h | h | h | h | h
  all_goals
    first
      | rw [show arN n = 0 by unfold arN; rw [h]; rfl]
      | rw [show arN n = 1 by unfold arN; rw [h]; rfl]
      | rw [show arN n = 2 by unfold arN; rw [h]; rfl]
      | rw [show arN n = 3 by unfold arN; rw [h]; rfl]
    rw [h] at HA
    clear h
    go_enter Tryz.func23, Tryz.ntmps23
    go_wp2_with (go_at_call 32; refine (HA.out _).mono ?_; rintro e w2 ⟨rfl, rfl⟩)
    go_ret
    exact ⟨_, rfl, Nat.le_succ _, HG.out, HB.out⟩

end Go.Proofs.Cde

/-
  The document's Uses and Cost.
-/
namespace Go.Proofs.Cde
open YtbingoelpeoimaaGreat (Wd wdA Fits inpV fitE_cases)
open Go.RowKit Go.IntWalk YtbingoelpeoimaaGreat.Knd
set_option linter.unusedVariables false

set_option maxHeartbeats 1000000 in
theorem jcost_any (o : Int) (W : World) : Calls Tryz.prog 50 #[.int .i64 o] W fun e W' => e = .returned (.int .i64 (coZ o)) ∧ W' = W := by
  by_cases h1 : o = 4
  · subst h1
    go_enter Tryz.func50, Tryz.ntmps50
    go_wp2
    go_ret
    exact ⟨rfl, rfl⟩
  by_cases h2 : o = 11
  · subst h2
    go_enter Tryz.func50, Tryz.ntmps50
    go_wp2
    go_ret
    exact ⟨rfl, rfl⟩
  by_cases h3 : o = 12
  · subst h3
    go_enter Tryz.func50, Tryz.ntmps50
    go_wp2
    go_ret
    exact ⟨rfl, rfl⟩
  have e : coZ o = 1 := by unfold coZ; rw [if_neg h1, if_neg h2, if_neg h3]
  rw [e]
  have e1 : (o == 4) = false := by simpa using h1
  have e2 : (o == 11) = false := by simpa using h2
  have e3 : (o == 12) = false := by simpa using h3
  clear h1 h2 h3 e
  go_enter Tryz.func50, Tryz.ntmps50
  go_wp2
  go_ret
  exact ⟨rfl, rfl⟩

set_option maxRecDepth 100000 in
set_option maxHeartbeats 4000000 in
theorem xcost_any (f d out : Int) {a : Option Addr} {n cap : Nat} {L : List In} {W : World} (hL : Ins W a n cap L) (hn : n ≤ 1000000000000000) :
    Calls Tryz.prog 31 #[.agg (cd f d a n cap out)] W fun e W' => e = .returned (.int .i64 (coL L)) ∧ Below W.heap.size W W' := by
  have hb1 := bel1 W (.cells (cd f d a n cap out) 26)
  have HB0 := hide hb1
  have HC0 := hide (HasC.new W 26 (cd f d a n cap out))
  have HLI := hide (hL.later hb1)
  have HLn := hide hL.len
  clear hL hb1
  go_enter Tryz.func31, Tryz.ntmps31
  go_wp2_with fail
  obtain ⟨V, hV⟩ : ∃ V, W.alloc (.cells (cd f d a n cap out) 26) = V := ⟨_, rfl⟩
  rw [hV] at HB0 HC0 HLI ⊢
  clear hV
  go_loop [3, 4] (fun s i => ∃ (k : Nat) (c : Int), k ≤ n ∧ i = .int .i64 k ∧ s = .int .i64 c ∧ 0 ≤ c ∧ c ≤ 6 * k ∧ Hid (c = coL (L.take k))) (fun _ i => n - (intOf i).toNat)
  case atStart => exact ⟨0, 0, Nat.zero_le _, rfl, rfl, Int.le_refl _, Int.le_refl _, hide rfl⟩
  case round =>
    obtain ⟨k, c, hk, rfl, rfl, hc0, hc6, HC⟩ := hrel
    obtain ⟨c0, c1, c2, c3⟩ := four_of HC0.out
    by_cases hlt : k < n
    · obtain ⟨g, off, rfl, -, hat⟩ := HLI.out.at (by omega)
      obtain ⟨e0, -, -, -, -, -⟩ := hat k hlt
      clear hat
      have hi0 : (0 : Int) ≤ k := by omega
      have hi1 : (k : Int) < n := by omega
      have HC2 := hide (show c + coZ (L.getD k i0).op = coL (L.take (k + 1)) by rw [take_snoc i0 (by rw [HLn.out]; exact hlt), coL_snoc, HC.out])
      generalize L.getD k i0 = m at *
      have HCo := hide fun w => jcost_any m.op w
      obtain ⟨z0, z1⟩ := coZ_le m.op
      generalize coZ m.op = z at *
      go_wp2_with (go_at_call 50; refine (HCo.out _).mono ?_; rintro e w' ⟨rfl, rfl⟩)
      go_round
      case rel => exact ⟨k + 1, c + z, by omega, by go_num, rfl, by omega, by omega, HC2⟩
      case measure => simp [intOf]; omega
    · obtain rfl : k = n := by omega
      have hC := HC.out
      rw [List.take_of_length_le (by rw [HLn.out]; exact Nat.le_refl _)] at hC
      have HC2 := hide hC
      clear hC
      go_wp2_with fail
      go_ret
      exact ⟨ret_int HC2.out, HB0.out⟩

theorem ctR_step {k : Nat} {A : List Int} {x : Int} (h0 : 0 ≤ x) : ctR k (A ++ [x]) = ctR k A + if x = (k : Int) then 1 else 0 := by
  rw [ctR_snoc]
  by_cases h : x = (k : Int)
  · rw [if_pos (by omega), if_pos h]
  · rw [if_neg (by omega), if_neg h]

end Go.Proofs.Cde

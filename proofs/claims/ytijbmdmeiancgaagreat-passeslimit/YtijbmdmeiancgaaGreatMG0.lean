/-
  Share, plainly: the instructions of the new code, and for which register each one stands.
-/
import Derived.Test.YtijbmdmeiancgaaGreatMFA
import Derived.Test.YtijbmdmeiancgaaGreatMCdU0
namespace Go.Proofs.Shr
open Go.RowKit Go.IntWalk YtijbmdmeiancgaaGreat.Knd
open YtijbmdmeiancgaaGreat (Wd wdA Fits inpV)
open Cde (In i0 agL arN okI okT mcB coL coZ vlI vlS vlF vaZ arV csB rgs rgB agA ctR usU)
open Vfy (ahI vfE vf_parts w32 any_take)
open Fld (ar vl thI exR Rv St gv In1 av2 ag1 ag2 ag3 vlI_op th_ok th_vl getL_pre getL_last getZ_last rg_in)
set_option linter.unusedVariables false

/-- The operators whose two registers may stand either way. -/
def ewB (op : Int) : Bool := op == 8 || op == 10 || op == 15 || op == 16 || op == 17 || op == 22 || op == 23 || op == 24 || op == 25
def swI (n : In) : In := ⟨n.op, n.b, n.a, n.c, n.k, n.s⟩
/-- An instruction with its registers in order. -/
def orI (n : In) : In := if ewB n.op = true ∧ n.b < n.a then swI n else n
def shM (n : In) (T : List Int) : In := orI (thI n T)
def shS (s : List In × List Int) (n : In) : List In × List Int := (s.1 ++ [shM n s.2], s.2 ++ [((s.1.idxOf (shM n s.2) : Nat) : Int)])
def shF (L : List In) : List In × List Int := L.foldl shS ([], [])
theorem shF_snoc (L : List In) (n : In) : shF (L ++ [n]) = shS (shF L) n := by simp [shF]
theorem shF_len (L : List In) : ∀ k, k ≤ L.length → (shF (L.take k)).1.length = k ∧ (shF (L.take k)).2.length = k
  | 0, _ => by simp [shF]
  | k + 1, h => by
    have ih := shF_len L k (by omega)
    rw [Cde.take_snoc i0 (by omega), shF_snoc, shS]
    simp [ih.1, ih.2]
theorem shF_succ {L : List In} {k : Nat} (hk : k < L.length) : shF (L.take (k + 1)) = shS (shF (L.take k)) (L.getD k i0) := by rw [Cde.take_snoc i0 hk, shF_snoc]
theorem shF_all (L : List In) : (shF L).1.length = L.length ∧ (shF L).2.length = L.length := by
  have := shF_len L L.length (Nat.le_refl _)
  rwa [List.take_length] at this
/-- The register for which the code's answer stands. -/
def shO (L : List In) (out : Int) : Int := (shF L).2.getD out.toNat 0
/-- The code that Share answers: its instructions, its answer. -/
def sdL (f d : Int) (L : List In) (out : Int) : List In := if vfE f d (shF L).1 (shO L out) = 0 then (shF L).1 else L
def sdO (f d : Int) (L : List In) (out : Int) : Int := if vfE f d (shF L).1 (shO L out) = 0 then shO L out else out

/-! ## Order -/
theorem or_op (n : In) : (orI n).op = n.op := by unfold orI; split <;> rfl
theorem or_k (n : In) : (orI n).k = n.k := by unfold orI; split <;> rfl
theorem or_s (n : In) : (orI n).s = n.s := by unfold orI; split <;> rfl
theorem or_twice (n : In) : orI (orI n) = orI n := by
  by_cases h : ewB n.op = true ∧ n.b < n.a
  · have e : orI n = swI n := if_pos h
    rw [e]
    unfold orI
    rw [if_neg]
    rintro ⟨-, h2⟩
    have h2 : n.a < n.b := h2
    have := h.2
    omega
  · have e : orI n = n := if_neg h
    rw [e, e]
theorem ew_ar {op : Int} (h : ewB op = true) : ar op = 2 := by
  simp only [ewB, Bool.or_eq_true, beq_iff_eq] at h
  rcases h with (((((((h | h) | h) | h) | h) | h) | h) | h) | h <;> subst h <;> decide
theorem or_ok {n : In} {i : Nat} (h : okI n i = true) : okI (orI n) i = true := by
  unfold orI
  split
  · rename_i he
    have h2 := ew_ar he.1
    have e1 : (0 : Int) < YtijbmdmeiancgaaGreat.Spn.ar n.op := by rw [show YtijbmdmeiancgaaGreat.Spn.ar n.op = 2 from h2]; decide
    have e2 : (1 : Int) < YtijbmdmeiancgaaGreat.Spn.ar n.op := by rw [show YtijbmdmeiancgaaGreat.Spn.ar n.op = 2 from h2]; decide
    simp only [okI, rgs, Bool.and_eq_true, swI, e1, e2, decide_true] at h ⊢
    obtain ⟨⟨h1, ⟨h3, h4⟩, h5⟩, h6⟩ := h
    exact ⟨⟨h1, ⟨h4, h3⟩, h5⟩, h6⟩
  · exact h
theorem bit_comm (a b : Int) : bits .and .i64 a b = bits .and .i64 b a ∧ bits .or .i64 a b = bits .or .i64 b a ∧ bits .xor .i64 a b = bits .xor .i64 b a := by
  have h1 := YtijbmdmeiancgaaGreat.Spn.bw_eq .and a b
  have h2 := YtijbmdmeiancgaaGreat.Spn.bw_eq .and b a
  have h3 := YtijbmdmeiancgaaGreat.Spn.bw_eq .or a b
  have h4 := YtijbmdmeiancgaaGreat.Spn.bw_eq .or b a
  have h5 := YtijbmdmeiancgaaGreat.Spn.bw_eq .xor a b
  have h6 := YtijbmdmeiancgaaGreat.Spn.bw_eq .xor b a
  simp only [YtijbmdmeiancgaaGreat.Spn.Bop.bv] at h1 h2 h3 h4 h5 h6
  refine ⟨h1.trans (Eq.trans ?_ h2.symm), h3.trans (Eq.trans ?_ h4.symm), h5.trans (Eq.trans ?_ h6.symm)⟩
  · rw [BitVec.and_comm]
  · rw [BitVec.or_comm]
  · rw [BitVec.xor_comm]
theorem ex_comm {op : Int} (h : ewB op = true) (k s a b c : Int) : YtijbmdmeiancgaaGreat.Spn.ex op k s a b c = YtijbmdmeiancgaaGreat.Spn.ex op k s b a c := by
  simp only [ewB, Bool.or_eq_true, beq_iff_eq] at h
  obtain ⟨b1, b2, b3⟩ := bit_comm a b
  rcases h with (((((((h | h) | h) | h) | h) | h) | h) | h) | h <;> subst h
  · show (a + b, (0 : Int)) = (b + a, 0)
    rw [Int.add_comm]
  · show (a * b, (0 : Int)) = (b * a, 0)
    rw [Int.mul_comm]
  · show (bits .and .i64 a b, (0 : Int)) = (bits .and .i64 b a, 0)
    rw [b1]
  · show (bits .or .i64 a b, (0 : Int)) = (bits .or .i64 b a, 0)
    rw [b2]
  · show (bits .xor .i64 a b, (0 : Int)) = (bits .xor .i64 b a, 0)
    rw [b3]
  · have e : (a = b) = (b = a) := propext eq_comm
    simp [YtijbmdmeiancgaaGreat.Spn.ex, YtijbmdmeiancgaaGreat.Spn.tr, e]
  · have e : (a = b) = (b = a) := propext eq_comm
    simp [YtijbmdmeiancgaaGreat.Spn.ex, YtijbmdmeiancgaaGreat.Spn.tr, e]
  · show (min a b, (0 : Int)) = (min b a, 0)
    rw [Int.min_comm]
  · show (max a b, (0 : Int)) = (max b a, 0)
    rw [Int.max_comm]
theorem vl_comm {op : Int} (h : ewB op = true) (k s x y : Int) : vl op k s [x, y] = vl op k s [y, x] := by
  have hm : YtijbmdmeiancgaaGreat.Spn.mayB op k s [x, y] = YtijbmdmeiancgaaGreat.Spn.mayB op k s [y, x] := by
    simp only [YtijbmdmeiancgaaGreat.Spn.mayB, List.length_cons, List.length_nil, List.all_cons, List.all_nil, Bool.and_true]
    cases YtijbmdmeiancgaaGreat.Spn.wd x <;> cases YtijbmdmeiancgaaGreat.Spn.wd y <;> rfl
  have he := ex_comm h k s x y 0
  unfold vl YtijbmdmeiancgaaGreat.Spn.valZ
  rw [hm]
  simp only [List.getD_cons_zero, List.getD_cons_succ, List.getD_nil, he]
theorem or_vl (f d : Int) (v : Wd) (V : List Int) (n : In) : vlI f d v V (orI n) = vlI f d v V n := by
  unfold orI
  split
  · rename_i he
    have h2 := ew_ar he.1
    have h2' : ar (swI n).op = 2 := h2
    rw [vlI_op (n := n) (by omega), vlI_op (n := swI n) (by omega), av2 h2, av2 h2']
    exact vl_comm he.1 _ _ _ _
  · rfl

/-! ## Each register keeps its value -/
theorem idx_at {M : List In} {m : In} (h : M.idxOf m < M.length) : M.getD (M.idxOf m) i0 = m := by
  rw [List.getD_eq_getElem?_getD, List.getElem?_eq_getElem h]
  simp
/-- Share's state behind k instructions. -/
structure Si (f d : Int) (v : Wd) (L : List In) (k : Nat) (V : List Int) : Prop where
  val : vlF f d v (L.take k) = (0, V)
  rv : Rv f d v (shF (L.take k)).1 V
  st : St V (shF (L.take k)).2 k
  new : vlF f d v (shF (L.take k)).1 = (0, V)
theorem sh_step {f d : Int} {v : Wd} {L : List In} {k : Nat} {V : List Int} (h : Si f d v L k V) (hk : k < L.length) (ho : okI (L.getD k i0) k = true) {x : Int} (hx : vlI f d v V (L.getD k i0) = (x, 0)) : Si f d v L (k + 1) (V ++ [x]) := by
  have hl := (shF_len L k (by omega)).1
  have ho' : okI (shM (L.getD k i0) (shF (L.take k)).2) k = true := or_ok (th_ok h.st ho)
  have hx' : vlI f d v V (shM (L.getD k i0) (shF (L.take k)).2) = (x, 0) := by rw [shM, or_vl, th_vl h.st ho]; exact hx
  have e : shF (L.take (k + 1)) = shS (shF (L.take k)) (L.getD k i0) := shF_succ hk
  refine ⟨?_, ?_, ?_, ?_⟩
  · rw [Cde.take_snoc i0 hk, Cde.vlF_snoc, h.val, vlS, if_pos rfl, hx, if_pos rfl]
  · rw [e]; exact h.rv.snoc (by rw [hl]; exact ho') hx'
  · rw [e]
    refine h.st.snoc ?_
    by_cases hi : (shF (L.take k)).1.idxOf (shM (L.getD k i0) (shF (L.take k)).2) < k
    · right
      refine ⟨⟨by omega, by omega⟩, ?_⟩
      have hr := h.rv.val ((shF (L.take k)).1.idxOf (shM (L.getD k i0) (shF (L.take k)).2)) (by rw [hl]; exact hi)
      rw [idx_at (by rw [hl]; exact hi), hx'] at hr
      rw [gv, Int.toNat_natCast]
      exact (congrArg Prod.fst hr).symm
    · left
      have := List.idxOf_le_length (l := (shF (L.take k)).1) (a := shM (L.getD k i0) (shF (L.take k)).2)
      omega
  · rw [e]
    show vlF f d v ((shF (L.take k)).1 ++ [_]) = _
    rw [Cde.vlF_snoc, h.new, vlS, if_pos rfl, hx', if_pos rfl]
theorem sh_vals {f d : Int} {v : Wd} {L : List In} {out : Int} (h : vfE f d L out = 0) (hF : Fits f d v) : ∀ k, k ≤ L.length → ∃ V, Si f d v L k V
  | 0, _ => ⟨[], rfl, Rv.nil f d v, ⟨rfl, rfl, fun i hi => absurd hi (Nat.not_lt_zero _)⟩, rfl⟩
  | k + 1, hk => by
    obtain ⟨V, hV⟩ := sh_vals h hF k (by omega)
    obtain ⟨m, ha, ⟨S, hS, -, -⟩, -, -, -⟩ := vf_parts h
    obtain ⟨hm, -, -, -, -, hok⟩ := Cde.mc_parts m
    obtain ⟨V2, S2, g1, g2, g3⟩ := Vfy.vlF_in hm hF hok ha (by rw [hS]) (k + 1) hk
    have ho := Cde.okT_at hok (show k < L.length by omega)
    rw [Cde.take_snoc i0 (by omega), Cde.vlF_snoc, hV.val, vlS, if_pos rfl] at g1
    by_cases hz : (vlI f d v V (L.getD k i0)).2 = 0
    · exact ⟨_, sh_step hV (by omega) ho (Prod.ext rfl hz)⟩
    · rw [if_neg hz] at g1
      exact absurd (congrArg Prod.fst g1) hz
/-- What the program needs of it: the registers that are read stand ahead. -/
theorem sh_ok {f d : Int} {L : List In} {out : Int} (h : vfE f d L out = 0) {k : Nat} (hk : k < L.length) : okI (shM (L.getD k i0) (shF (L.take k)).2) k = true := by
  obtain ⟨m, -⟩ := vf_parts h
  obtain ⟨hm, -, -, -, -, hok⟩ := Cde.mc_parts m
  obtain ⟨V, hV⟩ := sh_vals h (Fld.wd0_fits hm) k (by omega)
  exact or_ok (th_ok hV.st (Cde.okT_at hok hk))
theorem sh_cost (L : List In) : ∀ k, k ≤ L.length → coL (shF (L.take k)).1 = coL (L.take k)
  | 0, _ => by simp [shF, coL]
  | k + 1, hk => by
    rw [shF_succ (by omega), Cde.take_snoc i0 (by omega), Cde.coL_snoc, shS, Cde.coL_snoc, sh_cost L k (by omega), shM, or_op]
    rfl

/-! ## Shared again it stays -/
/-- A register that is the first of its instruction. -/
def Fst (M : List In) (r : Int) : Prop := In1 r M.length ∧ M.idxOf (M.getD r.toNat i0) = r.toNat
theorem Fst.pre {M : List In} {r : Int} (h : Fst M r) (n : In) : Fst (M ++ [n]) r := by
  obtain ⟨h1, h2⟩ := h
  refine ⟨⟨h1.1, by have := h1.2; simp; omega⟩, ?_⟩
  rw [getL_pre h1.2]
  rw [List.idxOf_append, if_pos]
  · exact h2
  · rw [← List.idxOf_lt_length_iff, h2]; exact h1.2
/-- The state: each register stands for the first of its instruction, and the registers that are read are such ones. -/
structure Sh (M : List In) (T : List Int) : Prop where
  len : T.length = M.length
  at' : ∀ i, i < M.length → T.getD i 0 = ((M.idxOf (M.getD i i0) : Nat) : Int)
  rd : ∀ i, i < M.length → ∀ r ∈ agL (M.getD i i0), Fst (M.take i) r
  ord : ∀ i, i < M.length → orI (M.getD i i0) = M.getD i i0
theorem idx_first {M : List In} {i : Nat} (h : i < M.length) : Fst M ((M.idxOf (M.getD i i0) : Nat) : Int) := by
  have hm : M.getD i i0 ∈ M := Cde.getD_mem i0 h
  have hl : M.idxOf (M.getD i i0) < M.length := List.idxOf_lt_length_iff.2 hm
  refine ⟨⟨by omega, by simpa using hl⟩, ?_⟩
  rw [Int.toNat_natCast, idx_at hl]
theorem Fst.ex {M : List In} {T : List Int} (h : Sh M T) {r : Int} (hr : Fst M r) : exR T r = r := by
  obtain ⟨h1, h2⟩ := hr
  have hl := h.len
  unfold exR
  rw [if_neg (by have := h1.1; have := h1.2; omega), h.at' _ h1.2, h2]
  have := h1.1
  omega
theorem Sh.to {M : List In} {T : List Int} (h : Sh M T) {r : Int} (hr : In1 r M.length) : Fst M (exR T r) := by
  have hl := h.len
  have e : exR T r = ((M.idxOf (M.getD r.toNat i0) : Nat) : Int) := by
    unfold exR
    rw [if_neg (by have := hr.1; have := hr.2; omega), h.at' _ hr.2]
  rw [e]
  exact idx_first hr.2
theorem th_ag {n : In} {T : List Int} {r : Int} (h : r ∈ agL (thI n T)) : ∃ q ∈ agL n, r = exR T q := by
  have h3 := YtijbmdmeiancgaaGreat.Spn.ar_le n.op
  rcases Cde.ar_five n.op with e | e | e | e | e
  · have e2 : agL (thI n T) = [] := by unfold agL arN; rw [show YtijbmdmeiancgaaGreat.Spn.ar (thI n T).op = -1 from e]; rfl
    rw [e2] at h; cases h
  · have e2 : agL (thI n T) = [] := by unfold agL arN; rw [show YtijbmdmeiancgaaGreat.Spn.ar (thI n T).op = 0 from e]; rfl
    rw [e2] at h; cases h
  · have ea : (thI n T).a = exR T n.a := by show (if 0 < ar n.op then exR T n.a else n.a) = _; rw [if_pos (by rw [ar, e]; decide)]
    rw [ag1 (n := thI n T) e] at h
    rw [ag1 e]
    simp only [List.mem_cons, List.not_mem_nil, or_false] at h
    exact ⟨n.a, by simp, by rw [h, ea]⟩
  · have ea : (thI n T).a = exR T n.a := by show (if 0 < ar n.op then exR T n.a else n.a) = _; rw [if_pos (by rw [ar, e]; decide)]
    have eb : (thI n T).b = exR T n.b := by show (if 1 < ar n.op then exR T n.b else n.b) = _; rw [if_pos (by rw [ar, e]; decide)]
    rw [ag2 (n := thI n T) e] at h
    rw [ag2 e]
    simp only [List.mem_cons, List.not_mem_nil, or_false] at h
    rcases h with h | h
    · exact ⟨n.a, by simp, by rw [h, ea]⟩
    · exact ⟨n.b, by simp, by rw [h, eb]⟩
  · have ea : (thI n T).a = exR T n.a := by show (if 0 < ar n.op then exR T n.a else n.a) = _; rw [if_pos (by rw [ar, e]; decide)]
    have eb : (thI n T).b = exR T n.b := by show (if 1 < ar n.op then exR T n.b else n.b) = _; rw [if_pos (by rw [ar, e]; decide)]
    have ec : (thI n T).c = exR T n.c := by show (if 2 < ar n.op then exR T n.c else n.c) = _; rw [if_pos (by rw [ar, e]; decide)]
    rw [ag3 (n := thI n T) e] at h
    rw [ag3 e]
    simp only [List.mem_cons, List.not_mem_nil, or_false] at h
    rcases h with h | h | h
    · exact ⟨n.a, by simp, by rw [h, ea]⟩
    · exact ⟨n.b, by simp, by rw [h, eb]⟩
    · exact ⟨n.c, by simp, by rw [h, ec]⟩
theorem or_ag {n : In} {r : Int} (h : r ∈ agL (orI n)) : r ∈ agL n := by
  unfold orI at h
  split at h
  · rename_i he
    have h2 := ew_ar he.1
    rw [ag2 (n := swI n) h2] at h
    rw [ag2 h2]
    simp only [swI, List.mem_cons, List.not_mem_nil, or_false] at h ⊢
    exact h.symm
  · exact h
/-- What reads nothing but firsts is as it was. -/
theorem th_same {n : In} {M : List In} {T : List Int} (h : Sh M T) (hr : ∀ r ∈ agL n, Fst M r) : thI n T = n := by
  rcases Cde.ar_five n.op with e | e | e | e | e
  · unfold thI
    rw [if_neg (by rw [ar, e]; decide), if_neg (by rw [ar, e]; decide), if_neg (by rw [ar, e]; decide)]
  · unfold thI
    rw [if_neg (by rw [ar, e]; decide), if_neg (by rw [ar, e]; decide), if_neg (by rw [ar, e]; decide)]
  · rw [ag1 e] at hr
    unfold thI
    rw [if_pos (by rw [ar, e]; decide), if_neg (by rw [ar, e]; decide), if_neg (by rw [ar, e]; decide), Fst.ex h (hr n.a (by simp))]
  · rw [ag2 e] at hr
    unfold thI
    rw [if_pos (by rw [ar, e]; decide), if_pos (by rw [ar, e]; decide), if_neg (by rw [ar, e]; decide), Fst.ex h (hr n.a (by simp)), Fst.ex h (hr n.b (by simp))]
  · rw [ag3 e] at hr
    unfold thI
    rw [if_pos (by rw [ar, e]; decide), if_pos (by rw [ar, e]; decide), if_pos (by rw [ar, e]; decide), Fst.ex h (hr n.a (by simp)), Fst.ex h (hr n.b (by simp)), Fst.ex h (hr n.c (by simp))]
theorem Sh.snoc {M : List In} {T : List Int} (h : Sh M T) {n : In} (ho : okI n M.length = true) : Sh (M ++ [shM n T]) (T ++ [((M.idxOf (shM n T) : Nat) : Int)]) := by
  have hl := h.len
  refine ⟨by simp [hl], fun i hi => ?_, fun i hi r hr => ?_, fun i hi => ?_⟩
  all_goals simp only [List.length_append, List.length_cons, List.length_nil] at hi
  · by_cases e : i < M.length
    · rw [Cde.getD_pre (by omega), getL_pre e, h.at' i e, List.idxOf_append, if_pos (Cde.getD_mem i0 e)]
    · obtain rfl : i = M.length := by omega
      rw [getL_last, ← hl, getZ_last, List.idxOf_append]
      split
      · rfl
      · rename_i hm
        rw [List.idxOf_eq_length hm]
        simp
  · by_cases e : i < M.length
    · rw [getL_pre e] at hr
      rw [List.take_append_of_le_length (by omega)]
      exact h.rd i e r hr
    · obtain rfl : i = M.length := by omega
      rw [getL_last] at hr
      rw [List.take_append_of_le_length (Nat.le_refl _), List.take_length]
      obtain ⟨q, hq, rfl⟩ := th_ag (or_ag hr)
      exact h.to (Fld.ok_ag ho hq)
  · by_cases e : i < M.length
    · rw [getL_pre e]; exact h.ord i e
    · obtain rfl : i = M.length := by omega
      rw [getL_last]; exact or_twice _
theorem sh_all {L : List In} (hok : okT L L.length = true) : ∀ k, k ≤ L.length → Sh (shF (L.take k)).1 (shF (L.take k)).2
  | 0, _ => ⟨rfl, fun i h => absurd h (Nat.not_lt_zero _), fun i h => absurd h (Nat.not_lt_zero _), fun i h => absurd h (Nat.not_lt_zero _)⟩
  | k + 1, hk => by
    have ih := sh_all hok k (by omega)
    have hl := (shF_len L k (by omega)).1
    rw [shF_succ (by omega), shS]
    exact ih.snoc (by rw [hl]; exact Cde.okT_at hok (by omega))
theorem Sh.take {M : List In} {T : List Int} (h : Sh M T) (k : Nat) (hk : k ≤ M.length) : Sh (M.take k) (T.take k) := by
  have hl := h.len
  have hM : ∀ i, i < k → (M.take k).getD i i0 = M.getD i i0 := fun i hi => by simp [List.getD_eq_getElem?_getD, hi]
  have hT : ∀ i, i < k → (T.take k).getD i 0 = T.getD i 0 := fun i hi => by simp [List.getD_eq_getElem?_getD, hi]
  have hlk : (M.take k).length = k := by simp; omega
  refine ⟨by simp [hl], fun i hi => ?_, fun i hi => ?_, fun i hi => ?_⟩
  all_goals rw [hlk] at hi
  · rw [hM i hi, hT i hi, h.at' i (by omega)]
    have : M.getD i i0 ∈ M.take k := by rw [← hM i hi]; exact Cde.getD_mem i0 (by omega)
    conv => lhs; rw [← List.take_append_drop k M, List.idxOf_append]
    rw [List.take_append_drop, if_pos this]
  · rw [hM i hi, List.take_take, Nat.min_eq_left (by omega)]
    exact h.rd i (by omega)
  · rw [hM i hi]; exact h.ord i (by omega)
/-- Sharing what is shared. -/
theorem sh_again {M : List In} {T : List Int} (h : Sh M T) : ∀ k, k ≤ M.length → shF (M.take k) = (M.take k, T.take k)
  | 0, _ => rfl
  | k + 1, hk => by
    have hl := h.len
    have hT := h.take k (by omega)
    have e : shM (M.getD k i0) (T.take k) = M.getD k i0 := by rw [shM, th_same hT (h.rd k (by omega)), h.ord k (by omega)]
    rw [shF_succ (by omega), sh_again h k (by omega), shS]
    dsimp only
    rw [e, ← Cde.take_snoc i0 (by omega), Cde.take_snoc 0 (show k < T.length by omega), h.at' k (by omega)]
    congr 3
    have h2 := (h.take (k + 1) (by omega)).at' k (by simp; omega)
    have h3 : (M.take (k + 1)).getD k i0 = M.getD k i0 := by simp [List.getD_eq_getElem?_getD]
    have h4 : (T.take (k + 1)).getD k 0 = T.getD k 0 := by simp [List.getD_eq_getElem?_getD]
    rw [h3, h4, h.at' k (by omega), Cde.take_snoc i0 (by omega), List.idxOf_append] at h2
    by_cases hm : M.getD k i0 ∈ M.take k
    · rw [if_pos hm] at h2
      exact h2.symm
    · rw [if_neg hm] at h2
      rw [List.idxOf_eq_length hm]
      simp at h2
      simp
      omega
theorem sd_again {f d : Int} {L : List In} {out : Int} (h : vfE f d L out = 0) (hn : sdL f d L out ≠ L ∨ sdO f d L out ≠ out) :
    sdL f d (sdL f d L out) (sdO f d L out) = sdL f d L out ∧ sdO f d (sdL f d L out) (sdO f d L out) = sdO f d L out := by
  obtain ⟨m, -⟩ := vf_parts h
  obtain ⟨-, -, -, ho0, ho1, hok⟩ := Cde.mc_parts m
  by_cases hv : vfE f d (shF L).1 (shO L out) = 0
  · have e1 : sdL f d L out = (shF L).1 := if_pos hv
    have e2 : sdO f d L out = shO L out := if_pos hv
    rw [e1, e2]
    have hS := sh_all hok L.length (Nat.le_refl _)
    rw [List.take_length] at hS
    have ha := sh_again hS (shF L).1.length (Nat.le_refl _)
    rw [List.take_length] at ha
    have hl := hS.len
    rw [← hl, List.take_length] at ha
    have hlen := (shF_all L).1
    have ho : shO (shF L).1 (shO L out) = shO L out := by
      have hF : Fst (shF L).1 (shO L out) := by
        have hi : out.toNat < (shF L).1.length := by omega
        rw [shO, hS.at' _ hi]
        exact idx_first hi
      rw [shO, ha]
      show (shF L).2.getD (shO L out).toNat 0 = _
      rw [hS.at' _ hF.1.2, hF.2]
      have := hF.1.1
      omega
    unfold sdL sdO
    rw [ho, ha]
    exact ⟨if_pos hv, if_pos hv⟩
  · exfalso
    rcases hn with hn | hn
    · exact hn (if_neg hv)
    · exact hn (if_neg hv)

/-- What Share's answer is: taken, of the same length, of the same cost, of the same values. -/
theorem sd_means {f d : Int} {L : List In} {out : Int} (h : vfE f d L out = 0) : vfE f d (sdL f d L out) (sdO f d L out) = 0 ∧ (sdL f d L out).length = L.length ∧ coL (sdL f d L out) = coL L ∧
    ∀ v, Fits f d v → ∃ V, vaZ f d v L out = (0, V) ∧ vaZ f d v (sdL f d L out) (sdO f d L out) = (0, V) ∧ V.length = L.length ∧ 0 ≤ sdO f d L out ∧ (sdO f d L out).toNat < L.length ∧ V.getD (sdO f d L out).toNat 0 = V.getD out.toNat 0 := by
  obtain ⟨m, ha, ⟨S, hS, -, -⟩, -, -, -⟩ := vf_parts h
  obtain ⟨hm, -, -, ho0, ho1, hok⟩ := Cde.mc_parts m
  obtain ⟨-, -, hH⟩ := Vfy.vf_holds h
  have hlen := (shF_all L).1
  unfold sdL sdO
  by_cases hn : vfE f d (shF L).1 (shO L out) = 0
  · rw [if_pos hn, if_pos hn]
    have hc := sh_cost L L.length (Nat.le_refl _)
    rw [List.take_length] at hc
    refine ⟨hn, hlen, hc, fun v hF => ?_⟩
    obtain ⟨V, hV⟩ := sh_vals h hF L.length (Nat.le_refl _)
    have h1 := hV.val
    have h2 := hV.new
    have h3 := hV.st
    rw [List.take_length] at h1 h2 h3
    obtain ⟨m2, -⟩ := vf_parts hn
    obtain ⟨a1, a2, a3⟩ := h3.at' out.toNat (by omega)
    refine ⟨V, by rw [vaZ, if_pos m, if_pos hF]; exact h1, by rw [vaZ, if_pos m2, if_pos hF]; exact h2, h3.vl, a1, by show ((shF L).2.getD out.toNat 0).toNat < _; omega, a3⟩
  · rw [if_neg hn, if_neg hn]
    refine ⟨h, rfl, rfl, fun v hF => ?_⟩
    obtain ⟨V, hV, hI⟩ := hH v hF
    obtain ⟨V', hV'⟩ := sh_vals h hF L.length (Nat.le_refl _)
    have h1 := hV'.val
    have h3 := hV'.st.vl
    rw [List.take_length] at h1
    have hV2 := hV
    rw [vaZ, if_pos m, if_pos hF, h1] at hV
    cases hV
    exact ⟨_, hV2, hV2, h3, ho0, by omega, rfl⟩

/-! ## Nothing is read that is reckoned twice -/
theorem ct_zero {r : Nat} {A : List Int} (h : ∀ x ∈ A, x.toNat ≠ r) : ctR r A = 0 := by
  unfold ctR
  rw [List.filter_eq_nil_iff.2]
  · rfl
  · intro x hx
    simpa using h x hx
theorem Sh.once {M : List In} {T : List Int} (h : Sh M T) {i k : Nat} (hi : i < M.length) (hk : k < i) (he : M.getD i i0 = M.getD k i0) {o : Int} (ho : Fst M o) : (usU M o).getD i 0 = 0 := by
  have hno : ∀ r : Int, Fst M r → r.toNat ≠ i := by
    rintro r ⟨h1, h2⟩ rfl
    rw [he] at h2
    have h5 : M.getD k i0 ∈ M.take (k + 1) := by
      have : (M.take (k + 1)).getD k i0 = M.getD k i0 := by simp [List.getD_eq_getElem?_getD]
      rw [← this]
      exact Cde.getD_mem i0 (by simp; omega)
    have h6 : M.idxOf (M.getD k i0) < k + 1 := by
      have h7 := List.idxOf_lt_length_iff.2 h5
      have h8 : M.idxOf (M.getD k i0) = (M.take (k + 1)).idxOf (M.getD k i0) := by
        conv => lhs; rw [← List.take_append_drop (k + 1) M, List.idxOf_append]
        rw [List.take_append_drop, if_pos h5]
      rw [h8]
      rw [List.length_take] at h7
      omega
    omega
  rw [Cde.usU_at M o hi, ct_zero, if_neg, Int.add_zero]
  · intro e
    exact hno o ho (by rw [e]; simp)
  · intro x hx
    simp only [agA, List.mem_flatMap] at hx
    obtain ⟨n, hn, hxn⟩ := hx
    obtain ⟨j, hj, rfl⟩ := List.mem_iff_getElem.1 hn
    have ej : M.getD j i0 = M[j] := by simp [List.getD_eq_getElem?_getD, hj]
    have hf := h.rd j hj x (by rw [ej]; exact hxn)
    have hf2 : Fst M x := by
      obtain ⟨h1, h2⟩ := hf
      have hlt : x.toNat < (M.take j).length := h1.2
      have hlt2 : x.toNat < j := by simp at hlt; omega
      have e1 : (M.take j).getD x.toNat i0 = M.getD x.toNat i0 := by simp [List.getD_eq_getElem?_getD, hlt2]
      have hm : M.getD x.toNat i0 ∈ M.take j := by rw [← e1]; exact Cde.getD_mem i0 hlt
      refine ⟨⟨h1.1, by omega⟩, ?_⟩
      rw [e1] at h2
      conv => lhs; rw [← List.take_append_drop j M, List.idxOf_append]
      rw [List.take_append_drop, if_pos hm, h2]
    exact hno x hf2
theorem sd_once {f d : Int} {L : List In} {out : Int} (h : vfE f d L out = 0) (hn : sdL f d L out ≠ L ∨ sdO f d L out ≠ out) {i k : Nat} (hi : i < L.length) (hk : k < i) (he : (sdL f d L out).getD i i0 = (sdL f d L out).getD k i0) :
    (usU (sdL f d L out) (sdO f d L out)).getD i 0 = 0 := by
  obtain ⟨m, -⟩ := vf_parts h
  obtain ⟨-, -, -, ho0, ho1, hok⟩ := Cde.mc_parts m
  by_cases hv : vfE f d (shF L).1 (shO L out) = 0
  · have e1 : sdL f d L out = (shF L).1 := if_pos hv
    have e2 : sdO f d L out = shO L out := if_pos hv
    rw [e1] at he
    rw [e1, e2]
    have hS := sh_all hok L.length (Nat.le_refl _)
    rw [List.take_length] at hS
    have hlen := (shF_all L).1
    refine hS.once (by omega) hk he ?_
    have hi' : out.toNat < (shF L).1.length := by omega
    rw [shO, hS.at' _ hi']
    exact idx_first hi'
  · exfalso
    rcases hn with hn | hn
    · exact hn (if_neg hv)
    · exact hn (if_neg hv)

/-! ## The keys of the map -/
def wf64 (n : Int) : Prop := -9223372036854775808 ≤ n ∧ n ≤ 9223372036854775807
def inWf (n : In) : Prop := wf64 n.op ∧ wf64 n.a ∧ wf64 n.b ∧ wf64 n.c ∧ wf64 n.k ∧ wf64 n.s
theorem ok_wf {n : In} {i : Nat} (h : okI n i = true) (hi : i ≤ 1000) : inWf n := by
  have hc := Cde.ok_con h
  have ha := Cde.ok_ar h
  have hop : 1 ≤ n.op ∧ n.op ≤ 33 := by
    rcases (show (n.op < 1 ∨ n.op = 4 ∨ 33 < n.op) ∨ (1 ≤ n.op ∧ n.op ≤ 33) by omega) with h1 | h1
    · rw [YtijbmdmeiancgaaGreat.Spn.ar_out h1] at ha
      omega
    · exact h1
  simp only [okI, rgs, Bool.and_eq_true, rg_in, decide_eq_true_eq, decide_eq_false_iff_not] at h
  obtain ⟨⟨-, ⟨⟨a1, a2⟩, b1, b2⟩, c1, c2⟩, -⟩ := h
  have hr : ∀ r : Int, (∀ p : Prop, (p → In1 r i) → (¬ p → r = 0) → wf64 r) := by
    intro r p h1 h2
    by_cases hp : p
    · have := h1 hp
      unfold In1 at this
      unfold wf64
      omega
    · have := h2 hp
      unfold wf64
      omega
  have hk : wf64 n.k ∧ wf64 n.s := by
    unfold csB YtijbmdmeiancgaaGreat.Spn.cons at hc
    unfold wf64
    repeat' split at hc
    all_goals (try simp only [Bool.and_eq_true, YtijbmdmeiancgaaGreat.Spn.inB_iff, beq_iff_eq] at hc)
    all_goals first | omega | skip
    all_goals
      obtain ⟨h1, h2⟩ := hc
      first
        | (have h3 := YtijbmdmeiancgaaGreat.Spn.wd_iff.1 h1; unfold w32 at h3; omega)
        | (have h3 := YtijbmdmeiancgaaGreat.Spn.wd_iff.1 h1; obtain ⟨h4, h5⟩ := h3; omega)
        | omega
  exact ⟨by unfold wf64; omega, hr n.a _ a1 a2, hr n.b _ b1 b2, hr n.c _ c1 c2, hk.1, hk.2⟩

end Go.Proofs.Shr

/-
  Fold, plainly: the instructions of the new code, and for which register each one stands.
-/
import Derived.Test.YtijbmdmeiancgaaGreatMYR
import Derived.Test.YtijbmdmeiancgaaGreatMSpB
namespace Go.Proofs.Fld
open Go.RowKit Go.IntWalk YtijbmdmeiancgaaGreat.Knd
open YtijbmdmeiancgaaGreat (Wd wdA Fits inpV)
open Cde (In i0 agL arN okI okT mcB coL coZ vlI vlS vlF vaZ arV csB rgs rgB)
open Vfy (ahI vfE vf_parts w32 any_take)
set_option linter.unusedVariables false

abbrev ar := YtijbmdmeiancgaaGreat.Spn.ar
abbrev vl := YtijbmdmeiancgaaGreat.Spn.valZ
/-- The instruction of a register. -/
abbrev rg (M : List In) (r : Int) : In := M.getD r.toNat i0
def isN (M : List In) (r k : Int) : Bool := (rg M r).op == 1 && (rg M r).k == k
/-- The register in the place of another. -/
def exR (T : List Int) (r : Int) : Int := if r < 0 ∨ (T.length : Int) ≤ r then r else T.getD r.toNat 0
def thI (n : In) (T : List Int) : In :=
  ⟨n.op, if 0 < ar n.op then exR T n.a else n.a, if 1 < ar n.op then exR T n.b else n.b, if 2 < ar n.op then exR T n.c else n.c, n.k, n.s⟩
/-- What lo, hi and mid are. -/
def bnZ (f d : Int) (n : In) : Int × Bool :=
  if n.op = 2 then (if n.k = 3 then (lowZ f d, true) else if n.k = 4 then (highZ f d, true) else if n.k = 5 then (borderZ f d, true) else (0, false)) else (0, false)
def kaL (M : List In) (n : In) : List Int := (agL n).map fun r => (rg M r).k
def alN (M : List In) (n : In) : Bool := (agL n).all fun r => (rg M r).op == 1
/-- What an operator makes of numbers alone. -/
def rkZ (M : List In) (n : In) : Int × Bool := if alN M n = true then ((vl n.op n.k n.s (kaL M n)).1, (vl n.op n.k n.s (kaL M n)).2 == 0) else (0, false)
/-- What is settled though not all is a number. -/
def stZ (M : List In) (n : In) : Int × Bool :=
  if n.op = 9 ∨ n.op = 17 ∨ n.op = 18 ∨ n.op = 20 ∨ n.op = 23 then (0, n.a == n.b) else
  if n.op = 19 ∨ n.op = 21 ∨ n.op = 22 then (1, n.a == n.b) else
  if n.op = 10 ∨ n.op = 15 then (0, isN M n.a 0 || isN M n.b 0) else
  if n.op = 12 then (0, isN M n.b 1) else
  if n.op = 32 ∨ n.op = 31 then (0, n.k == 0) else (0, false)
def knZ (f d : Int) (M : List In) (n : In) : Int × Bool := if (bnZ f d n).2 = true then bnZ f d n else if (rkZ M n).2 = true then rkZ M n else stZ M n
/-- The lines of the table: what is asked, and the register. -/
def lnZ (M : List In) (n : In) : List (Bool × Int) :=
  if n.op = 8 ∨ n.op = 17 then [(isN M n.a 0, n.b), (isN M n.b 0, n.a)] else
  if n.op = 10 then [(isN M n.a 1, n.b), (isN M n.b 1, n.a)] else
  if n.op = 16 then [(n.a == n.b, n.a), (isN M n.a 0, n.b), (isN M n.b 0, n.a)] else
  if n.op = 15 then [(n.a == n.b, n.a), (isN M n.a (-1), n.b), (isN M n.b (-1), n.a)] else
  if n.op = 24 ∨ n.op = 25 then [(n.a == n.b, n.a)] else
  if n.op = 9 ∨ n.op = 13 ∨ n.op = 14 then [(isN M n.b 0, n.a)] else
  if n.op = 11 then [(isN M n.b 1, n.a)] else
  if n.op = 29 ∨ n.op = 30 then [(n.k == 0, n.a)] else
  if n.op = 32 then [(n.k == 1, n.a)] else
  if n.op = 5 then [((rg M n.a).op == 5, (rg M n.a).a)] else
  if n.op = 6 then [((rg M n.a).op == 6, n.a)] else
  if n.op = 28 then [(isN M n.a 0, n.c), ((rg M n.a).op == 1, n.b), (n.b == n.c, n.b)] else
  if n.op = 27 then [(n.a == n.b || n.a == n.c, n.a), (n.b == n.c, n.b)] else
  if n.op = 26 then [(n.b == n.c, n.b)] else []
def fsZ (own : Int) : List (Bool × Int) → Int
  | [] => own
  | p :: L => if p.1 = true then p.2 else fsZ own L
/-- A number's instruction. -/
def nuI (x : Int) : In := ⟨1, 0, 0, 0, x, 0⟩
/-- What an instruction becomes, and the register for which its own stands. -/
def nwI (f d : Int) (M : List In) (m : In) : In := if (knZ f d M m).2 = true then nuI (knZ f d M m).1 else m
def nwT (f d : Int) (M : List In) (m : In) (own : Int) : Int := if (knZ f d M m).2 = true then own else fsZ own (lnZ M m)
def foS (f d : Int) (s : List In × List Int) (n : In) : List In × List Int :=
  (s.1 ++ [nwI f d s.1 (thI n s.2)], s.2 ++ [nwT f d s.1 (thI n s.2) s.1.length])
def foF (f d : Int) (L : List In) : List In × List Int := L.foldl (foS f d) ([], [])
theorem foF_snoc (f d : Int) (L : List In) (n : In) : foF f d (L ++ [n]) = foS f d (foF f d L) n := by simp [foF]
theorem foF_len (f d : Int) (L : List In) : ∀ k, k ≤ L.length → (foF f d (L.take k)).1.length = k ∧ (foF f d (L.take k)).2.length = k
  | 0, _ => by simp [foF]
  | k + 1, h => by
    have ih := foF_len f d L k (by omega)
    rw [Cde.take_snoc i0 (by omega), foF_snoc, foS]
    simp [ih.1, ih.2]
/-- The register for which the code's answer stands. -/
def foO (f d : Int) (L : List In) (out : Int) : Int := (foF f d L).2.getD out.toNat 0
/-- The code that Fold answers: its instructions, its answer. -/
def fdL (f d : Int) (L : List In) (out : Int) : List In := if vfE f d (foF f d L).1 (foO f d L out) = 0 then (foF f d L).1 else L
def fdO (f d : Int) (L : List In) (out : Int) : Int := if vfE f d (foF f d L).1 (foO f d L out) = 0 then foO f d L out else out

/-! ## What holds of it -/
theorem getL_pre {M Z : List In} {i : Nat} (h : i < M.length) : (M ++ Z).getD i i0 = M.getD i i0 := by
  rw [List.getD_eq_getElem?_getD, List.getElem?_append_left h, ← List.getD_eq_getElem?_getD]
theorem getL_last (M : List In) (n : In) : (M ++ [n]).getD M.length i0 = n := by simp [List.getD_eq_getElem?_getD]
theorem getZ_last (V : List Int) (x : Int) : (V ++ [x]).getD V.length 0 = x := by simp [List.getD_eq_getElem?_getD]

theorem ofI {a : Int} (ha : w32 a) : (BitVec.ofInt 64 a).toInt = a := by
  obtain ⟨h1, h2⟩ := ha
  rw [BitVec.toInt_ofInt]
  exact Int.bmod_eq_of_le (by omega) (by omega)
theorem and_self' {a : Int} (ha : w32 a) : bits .and .i64 a a = a := by
  have := YtijbmdmeiancgaaGreat.Spn.bw_eq .and a a
  simp only [YtijbmdmeiancgaaGreat.Spn.Bop.bv, BitVec.and_self, ofI ha] at this
  exact this
theorem or_self' {a : Int} (ha : w32 a) : bits .or .i64 a a = a := by
  have := YtijbmdmeiancgaaGreat.Spn.bw_eq .or a a
  simp only [YtijbmdmeiancgaaGreat.Spn.Bop.bv, BitVec.or_self, ofI ha] at this
  exact this
theorem xor_self' (a : Int) : bits .xor .i64 a a = 0 := by
  have := YtijbmdmeiancgaaGreat.Spn.bw_eq .xor a a
  simp only [YtijbmdmeiancgaaGreat.Spn.Bop.bv, BitVec.xor_self] at this
  exact this
theorem and_zero' (a : Int) : bits .and .i64 a 0 = 0 := by
  have := YtijbmdmeiancgaaGreat.Spn.bw_eq .and a 0
  simp only [YtijbmdmeiancgaaGreat.Spn.Bop.bv, show BitVec.ofInt 64 0 = 0#64 from rfl, BitVec.and_zero] at this
  exact this
theorem zero_and' (a : Int) : bits .and .i64 0 a = 0 := by
  have := YtijbmdmeiancgaaGreat.Spn.bw_eq .and 0 a
  simp only [YtijbmdmeiancgaaGreat.Spn.Bop.bv, show BitVec.ofInt 64 0 = 0#64 from rfl, BitVec.zero_and] at this
  exact this
theorem or_zero' {a : Int} (ha : w32 a) : bits .or .i64 a 0 = a := by
  have := YtijbmdmeiancgaaGreat.Spn.bw_eq .or a 0
  simp only [YtijbmdmeiancgaaGreat.Spn.Bop.bv, show BitVec.ofInt 64 0 = 0#64 from rfl, BitVec.or_zero, ofI ha] at this
  exact this
theorem zero_or' {a : Int} (ha : w32 a) : bits .or .i64 0 a = a := by
  have := YtijbmdmeiancgaaGreat.Spn.bw_eq .or 0 a
  simp only [YtijbmdmeiancgaaGreat.Spn.Bop.bv, show BitVec.ofInt 64 0 = 0#64 from rfl, BitVec.zero_or, ofI ha] at this
  exact this
theorem xor_zero' {a : Int} (ha : w32 a) : bits .xor .i64 a 0 = a := by
  have := YtijbmdmeiancgaaGreat.Spn.bw_eq .xor a 0
  simp only [YtijbmdmeiancgaaGreat.Spn.Bop.bv, show BitVec.ofInt 64 0 = 0#64 from rfl, BitVec.xor_zero, ofI ha] at this
  exact this
theorem zero_xor' {a : Int} (ha : w32 a) : bits .xor .i64 0 a = a := by
  have := YtijbmdmeiancgaaGreat.Spn.bw_eq .xor 0 a
  simp only [YtijbmdmeiancgaaGreat.Spn.Bop.bv, show BitVec.ofInt 64 0 = 0#64 from rfl, BitVec.zero_xor, ofI ha] at this
  exact this
theorem and_ones' {a : Int} (ha : w32 a) : bits .and .i64 a (-1) = a := by
  have := YtijbmdmeiancgaaGreat.Spn.bw_eq .and a (-1)
  simp only [YtijbmdmeiancgaaGreat.Spn.Bop.bv, show BitVec.ofInt 64 (-1) = BitVec.allOnes 64 from rfl, BitVec.and_allOnes, ofI ha] at this
  exact this
theorem ones_and' {a : Int} (ha : w32 a) : bits .and .i64 (-1) a = a := by
  have := YtijbmdmeiancgaaGreat.Spn.bw_eq .and (-1) a
  simp only [YtijbmdmeiancgaaGreat.Spn.Bop.bv, show BitVec.ofInt 64 (-1) = BitVec.allOnes 64 from rfl, BitVec.allOnes_and, ofI ha] at this
  exact this

/-- What an answer without error says. -/
theorem vl_inv {op k s x : Int} {xs : List Int} (h : vl op k s xs = (x, 0)) : (∀ z ∈ xs, w32 z) ∧ YtijbmdmeiancgaaGreat.Spn.ex op k s (xs.getD 0 0) (xs.getD 1 0) (xs.getD 2 0) = (x, 0) ∧ w32 x ∧ 1 ≤ ar op := by
  have hw := Vfy.val_w32 h
  unfold vl YtijbmdmeiancgaaGreat.Spn.valZ at h
  split at h
  · rename_i hm
    simp only [YtijbmdmeiancgaaGreat.Spn.mayB, Bool.and_eq_true, decide_eq_true_eq, List.all_eq_true] at hm
    refine ⟨fun z hz => YtijbmdmeiancgaaGreat.Spn.wd_iff.1 (hm.2 z hz), ?_, hw, hm.1.1.1⟩
    split at h
    · rename_i h0
      split at h
      · cases h
        exact Prod.ext rfl h0
      · cases h
    · rename_i h0
      exact absurd (congrArg Prod.snd h) h0
  · cases h

theorem rgB_up {r : Int} {u : Bool} {i j : Int} (h : rgB r u i = true) (hj : i ≤ j) : rgB r u j = true := by
  unfold rgB at *
  cases u
  · exact h
  · simp only [if_true, YtijbmdmeiancgaaGreat.Spn.inB_iff] at *
    omega
theorem okI_up {n : In} {i j : Nat} (h : okI n i = true) (hj : i ≤ j) : okI n j = true := by
  simp only [okI, rgs, Bool.and_eq_true] at *
  obtain ⟨⟨h1, ⟨h2, h3⟩, h4⟩, h5⟩ := h
  have e : (i : Int) ≤ j := by omega
  exact ⟨⟨h1, ⟨rgB_up h2 e, rgB_up h3 e⟩, rgB_up h4 e⟩, h5⟩
/-- The registers' values: of the code M they are V. -/
structure Rv (f d : Int) (v : Wd) (M : List In) (V : List Int) : Prop where
  len : V.length = M.length
  ok : ∀ i, i < M.length → okI (M.getD i i0) i = true
  val : ∀ i, i < M.length → vlI f d v V (M.getD i i0) = (V.getD i 0, 0)
theorem Rv.nil (f d : Int) (v : Wd) : Rv f d v [] [] := ⟨rfl, fun i h => by simp at h, fun i h => by simp at h⟩
theorem Rv.snoc {f d : Int} {v : Wd} {M : List In} {V : List Int} {n : In} {x : Int} (h : Rv f d v M V) (ho : okI n M.length = true) (hx : vlI f d v V n = (x, 0)) : Rv f d v (M ++ [n]) (V ++ [x]) := by
  have hl := h.len
  refine ⟨by simp [hl], fun i hi => ?_, fun i hi => ?_⟩
  · simp only [List.length_append, List.length_cons, List.length_nil] at hi
    by_cases e : i < M.length
    · rw [getL_pre e]; exact h.ok i e
    · obtain rfl : i = M.length := by omega
      rw [getL_last]; exact ho
  · simp only [List.length_append, List.length_cons, List.length_nil] at hi
    by_cases e : i < M.length
    · rw [getL_pre e, Cde.vlI_pre (okI_up (h.ok i e) (by omega)), h.val i e, Cde.getD_pre (by omega)]
    · obtain rfl : i = M.length := by omega
      rw [getL_last, Cde.vlI_pre (by rw [hl]; exact ho), hx, ← hl, getZ_last]

end Go.Proofs.Fld

/-
  Fold keeps every register's value, plainly.
-/
namespace Go.Proofs.Fld
open Go.RowKit Go.IntWalk YtijbmdmeiancgaaGreat.Knd
open YtijbmdmeiancgaaGreat (Wd wdA Fits inpV)
open Cde (In i0 agL arN okI okT mcB coL coZ vlI vlS vlF vaZ arV csB rgs rgB)
open Vfy (ahI vfE vf_parts w32 any_take)
set_option linter.unusedVariables false

def gv (V : List Int) (r : Int) : Int := V.getD r.toNat 0
theorem ag1 {n : In} (h : ar n.op = 1) : agL n = [n.a] := by unfold agL arN; rw [show YtijbmdmeiancgaaGreat.Spn.ar n.op = 1 from h]; rfl
theorem ag2 {n : In} (h : ar n.op = 2) : agL n = [n.a, n.b] := by unfold agL arN; rw [show YtijbmdmeiancgaaGreat.Spn.ar n.op = 2 from h]; rfl
theorem ag3 {n : In} (h : ar n.op = 3) : agL n = [n.a, n.b, n.c] := by unfold agL arN; rw [show YtijbmdmeiancgaaGreat.Spn.ar n.op = 3 from h]; rfl
theorem av1 {n : In} (h : ar n.op = 1) (V : List Int) : arV V n = [gv V n.a] := by unfold arV; rw [ag1 h]; rfl
theorem av2 {n : In} (h : ar n.op = 2) (V : List Int) : arV V n = [gv V n.a, gv V n.b] := by unfold arV; rw [ag2 h]; rfl
theorem av3 {n : In} (h : ar n.op = 3) (V : List Int) : arV V n = [gv V n.a, gv V n.b, gv V n.c] := by unfold arV; rw [ag3 h]; rfl

/-- A register that is read lies ahead. -/
def In1 (r : Int) (i : Nat) : Prop := 0 ≤ r ∧ r.toNat < i
theorem ok_ag {n : In} {i : Nat} (h : okI n i = true) {r : Int} (hr : r ∈ agL n) : In1 r i := Vfy.ag_reg h hr

theorem Rv.reg {f d : Int} {v : Wd} {M : List In} {V : List Int} (h : Rv f d v M V) {r : Int} (hr : In1 r M.length) : okI (rg M r) r.toNat = true ∧ vlI f d v V (rg M r) = (gv V r, 0) := ⟨h.ok _ hr.2, h.val _ hr.2⟩
theorem Rv.num {f d : Int} {v : Wd} {M : List In} {V : List Int} (h : Rv f d v M V) {r : Int} (hr : In1 r M.length) (ho : (rg M r).op = 1) : gv V r = (rg M r).k := by
  have := (h.reg hr).2
  rw [vlI, if_pos ho] at this
  exact (congrArg Prod.fst this).symm
theorem Rv.isN {f d : Int} {v : Wd} {M : List In} {V : List Int} (h : Rv f d v M V) {r k : Int} (hr : In1 r M.length) (ho : isN M r k = true) : gv V r = k := by
  simp only [Fld.isN, Bool.and_eq_true, beq_iff_eq] at ho
  rw [h.num hr ho.1, ho.2]
theorem vlI_op {f d : Int} {v : Wd} {V : List Int} {n : In} (h : 1 ≤ ar n.op) : vlI f d v V n = vl n.op n.k n.s (arV V n) := by
  have h1 : n.op ≠ 1 := fun e => by rw [e] at h; exact absurd h (by decide)
  have h2 : n.op ≠ 2 := fun e => by rw [e] at h; exact absurd h (by decide)
  have h3 : n.op ≠ 3 := fun e => by rw [e] at h; exact absurd h (by decide)
  rw [vlI, if_neg h1, if_neg h2, if_neg h3]
theorem Rv.neg {f d : Int} {v : Wd} {M : List In} {V : List Int} (h : Rv f d v M V) {r : Int} (hr : In1 r M.length) (ho : (rg M r).op = 5) : In1 (rg M r).a M.length ∧ gv V r = - gv V (rg M r).a := by
  obtain ⟨h1, h2⟩ := h.reg hr
  have ha : ar (rg M r).op = 1 := by rw [ho]; decide
  have hin := ok_ag h1 (r := (rg M r).a) (by rw [ag1 ha]; simp)
  refine ⟨⟨hin.1, Nat.lt_trans hin.2 hr.2⟩, ?_⟩
  rw [vlI_op (by omega), av1 ha] at h2
  obtain ⟨-, e, -⟩ := vl_inv h2
  rw [ho] at e
  simp [YtijbmdmeiancgaaGreat.Spn.ex] at e
  exact e.symm
theorem Rv.abs {f d : Int} {v : Wd} {M : List In} {V : List Int} (h : Rv f d v M V) {r : Int} (hr : In1 r M.length) (ho : (rg M r).op = 6) : 0 ≤ gv V r := by
  obtain ⟨h1, h2⟩ := h.reg hr
  have ha : ar (rg M r).op = 1 := by rw [ho]; decide
  rw [vlI_op (by omega), av1 ha] at h2
  obtain ⟨-, e, -⟩ := vl_inv h2
  rw [ho] at e
  simp [YtijbmdmeiancgaaGreat.Spn.ex] at e
  have e' : max (gv V (rg M r).a) (-gv V (rg M r).a) = gv V r := e
  omega

/-- An operator's two or three arguments. -/
theorem two_ex {op k s x y z : Int} (h : vl op k s [x, y] = (z, 0)) : w32 x ∧ w32 y ∧ YtijbmdmeiancgaaGreat.Spn.ex op k s x y 0 = (z, 0) := by
  obtain ⟨h1, h2, -⟩ := vl_inv h
  exact ⟨h1 x (by simp), h1 y (by simp), h2⟩
theorem one_ex {op k s x z : Int} (h : vl op k s [x] = (z, 0)) : w32 x ∧ YtijbmdmeiancgaaGreat.Spn.ex op k s x 0 0 = (z, 0) := by
  obtain ⟨h1, h2, -⟩ := vl_inv h
  exact ⟨h1 x (by simp), h2⟩
theorem three_ex {op k s x y u z : Int} (h : vl op k s [x, y, u] = (z, 0)) : w32 x ∧ w32 y ∧ w32 u ∧ YtijbmdmeiancgaaGreat.Spn.ex op k s x y u = (z, 0) := by
  obtain ⟨h1, h2, -⟩ := vl_inv h
  exact ⟨h1 x (by simp), h1 y (by simp), h1 u (by simp), h2⟩

/-- What is settled is the value. -/
theorem st_val {f d : Int} {v : Wd} {M : List In} {V : List Int} {m : In} {x : Int} (h : Rv f d v M V) (ho : okI m M.length = true) (hx : vlI f d v V m = (x, 0)) (hs : (stZ M m).2 = true) : (stZ M m).1 = x := by
  have hin := fun r => ok_ag ho (r := r)
  unfold stZ at hs ⊢
  split at hs
  · rename_i hop
    rw [if_pos hop]
    have ha : ar m.op = 2 := by rcases hop with e | e | e | e | e <;> rw [e] <;> decide
    rw [vlI_op (by omega), av2 ha] at hx
    obtain ⟨-, -, e⟩ := two_ex hx
    have hab : m.a = m.b := by simpa using hs
    rw [hab] at e
    generalize gv V m.b = y at e
    rcases hop with q | q | q | q | q <;> rw [q] at e <;> simp [YtijbmdmeiancgaaGreat.Spn.ex, YtijbmdmeiancgaaGreat.Spn.tr, xor_self'] at e <;> omega
  rename_i h1
  rw [if_neg h1]
  split at hs
  · rename_i hop
    rw [if_pos hop]
    have ha : ar m.op = 2 := by rcases hop with e | e | e <;> rw [e] <;> decide
    rw [vlI_op (by omega), av2 ha] at hx
    obtain ⟨-, -, e⟩ := two_ex hx
    have hab : m.a = m.b := by simpa using hs
    rw [hab] at e
    generalize gv V m.b = y at e
    rcases hop with q | q | q <;> rw [q] at e <;> simp [YtijbmdmeiancgaaGreat.Spn.ex, YtijbmdmeiancgaaGreat.Spn.tr] at e <;> omega
  rename_i h2
  rw [if_neg h2]
  split at hs
  · rename_i hop
    rw [if_pos hop]
    have ha : ar m.op = 2 := by rcases hop with e | e <;> rw [e] <;> decide
    have ia := hin m.a (by rw [ag2 ha]; simp)
    have ib := hin m.b (by rw [ag2 ha]; simp)
    rw [vlI_op (by omega), av2 ha] at hx
    obtain ⟨-, -, e⟩ := two_ex hx
    simp only [Bool.or_eq_true] at hs
    rcases hs with hs | hs
    · rw [h.isN ia hs] at e
      rcases hop with q | q <;> rw [q] at e <;> simp [YtijbmdmeiancgaaGreat.Spn.ex, zero_and'] at e <;> omega
    · rw [h.isN ib hs] at e
      rcases hop with q | q <;> rw [q] at e <;> simp [YtijbmdmeiancgaaGreat.Spn.ex, and_zero'] at e <;> omega
  rename_i h3
  rw [if_neg h3]
  split at hs
  · rename_i hop
    rw [if_pos hop]
    have ha : ar m.op = 2 := by rw [hop]; decide
    have ib := hin m.b (by rw [ag2 ha]; simp)
    rw [vlI_op (by omega), av2 ha] at hx
    obtain ⟨-, -, e⟩ := two_ex hx
    rw [h.isN ib hs, hop] at e
    simp [YtijbmdmeiancgaaGreat.Spn.ex, Int.tmod_one] at e
    omega
  rename_i h4
  rw [if_neg h4]
  split at hs
  · rename_i hop
    rw [if_pos hop]
    have ha : ar m.op = 1 := by rcases hop with e | e <;> rw [e] <;> decide
    rw [vlI_op (by omega), av1 ha] at hx
    obtain ⟨-, e⟩ := one_ex hx
    have hk : m.k = 0 := by simpa using hs
    rw [hk] at e
    rcases hop with q | q <;> rw [q] at e <;> simp [YtijbmdmeiancgaaGreat.Spn.ex, and_zero'] at e <;> omega
  · cases hs

/-- The lines of the table: a register ahead, of the same value. -/
theorem ln_val {f d : Int} {v : Wd} {M : List In} {V : List Int} {m : In} {x : Int} (h28 : m.op ≠ 28) (h : Rv f d v M V) (ho : okI m M.length = true) (hx : vlI f d v V m = (x, 0)) :
    ∀ p ∈ lnZ M m, p.1 = true → In1 p.2 M.length ∧ gv V p.2 = x := by
  have hin := fun r => ok_ag ho (r := r)
  unfold lnZ
  by_cases hop : m.op = 8 ∨ m.op = 17
  · rw [if_pos hop]
    have ha : ar m.op = 2 := by rcases hop with e | e <;> rw [e] <;> decide
    have ia := hin m.a (by rw [ag2 ha]; simp)
    have ib := hin m.b (by rw [ag2 ha]; simp)
    rw [vlI_op (by omega), av2 ha] at hx
    obtain ⟨w1, w2, e⟩ := two_ex hx
    intro p hp hs
    simp only [List.mem_cons, List.not_mem_nil, or_false] at hp
    rcases hp with rfl | rfl
    · refine ⟨ib, ?_⟩
      rw [h.isN ia hs] at e
      rcases hop with q | q <;> rw [q] at e <;> simp [YtijbmdmeiancgaaGreat.Spn.ex, zero_xor' w2] at e <;> exact e
    · refine ⟨ia, ?_⟩
      rw [h.isN ib hs] at e
      rcases hop with q | q <;> rw [q] at e <;> simp [YtijbmdmeiancgaaGreat.Spn.ex, xor_zero' w1] at e <;> exact e
  rw [if_neg hop]
  clear hop
  by_cases hop : m.op = 10
  · rw [if_pos hop]
    have ha : ar m.op = 2 := by rw [hop]; decide
    have ia := hin m.a (by rw [ag2 ha]; simp)
    have ib := hin m.b (by rw [ag2 ha]; simp)
    rw [vlI_op (by omega), av2 ha] at hx
    obtain ⟨w1, w2, e⟩ := two_ex hx
    intro p hp hs
    simp only [List.mem_cons, List.not_mem_nil, or_false] at hp
    rcases hp with rfl | rfl
    · refine ⟨ib, ?_⟩
      rw [h.isN ia hs, hop] at e
      simp [YtijbmdmeiancgaaGreat.Spn.ex] at e
      exact e
    · refine ⟨ia, ?_⟩
      rw [h.isN ib hs, hop] at e
      simp [YtijbmdmeiancgaaGreat.Spn.ex] at e
      exact e
  rw [if_neg hop]
  clear hop
  by_cases hop : m.op = 16
  · rw [if_pos hop]
    have ha : ar m.op = 2 := by rw [hop]; decide
    have ia := hin m.a (by rw [ag2 ha]; simp)
    have ib := hin m.b (by rw [ag2 ha]; simp)
    rw [vlI_op (by omega), av2 ha, hop] at hx
    obtain ⟨w1, w2, e⟩ := two_ex hx
    intro p hp hs
    simp only [List.mem_cons, List.not_mem_nil, or_false] at hp
    rcases hp with rfl | rfl | rfl
    · refine ⟨ia, ?_⟩
      have hab : m.a = m.b := by simpa using hs
      rw [← hab] at e
      simp [YtijbmdmeiancgaaGreat.Spn.ex, or_self' w1] at e
      exact e
    · refine ⟨ib, ?_⟩
      rw [h.isN ia hs] at e
      simp [YtijbmdmeiancgaaGreat.Spn.ex, zero_or' w2] at e
      exact e
    · refine ⟨ia, ?_⟩
      rw [h.isN ib hs] at e
      simp [YtijbmdmeiancgaaGreat.Spn.ex, or_zero' w1] at e
      exact e
  rw [if_neg hop]
  clear hop
  by_cases hop : m.op = 15
  · rw [if_pos hop]
    have ha : ar m.op = 2 := by rw [hop]; decide
    have ia := hin m.a (by rw [ag2 ha]; simp)
    have ib := hin m.b (by rw [ag2 ha]; simp)
    rw [vlI_op (by omega), av2 ha, hop] at hx
    obtain ⟨w1, w2, e⟩ := two_ex hx
    intro p hp hs
    simp only [List.mem_cons, List.not_mem_nil, or_false] at hp
    rcases hp with rfl | rfl | rfl
    · refine ⟨ia, ?_⟩
      have hab : m.a = m.b := by simpa using hs
      rw [← hab] at e
      simp [YtijbmdmeiancgaaGreat.Spn.ex, and_self' w1] at e
      exact e
    · refine ⟨ib, ?_⟩
      rw [h.isN ia hs] at e
      simp [YtijbmdmeiancgaaGreat.Spn.ex, ones_and' w2] at e
      exact e
    · refine ⟨ia, ?_⟩
      rw [h.isN ib hs] at e
      simp [YtijbmdmeiancgaaGreat.Spn.ex, and_ones' w1] at e
      exact e
  rw [if_neg hop]
  clear hop
  by_cases hop : m.op = 24 ∨ m.op = 25
  · rw [if_pos hop]
    have ha : ar m.op = 2 := by rcases hop with e | e <;> rw [e] <;> decide
    have ia := hin m.a (by rw [ag2 ha]; simp)
    rw [vlI_op (by omega), av2 ha] at hx
    obtain ⟨w1, w2, e⟩ := two_ex hx
    intro p hp hs
    simp only [List.mem_cons, List.not_mem_nil, or_false] at hp
    subst hp
    refine ⟨ia, ?_⟩
    have hab : m.a = m.b := by simpa using hs
    rw [← hab] at e
    rcases hop with q | q <;> rw [q] at e <;> simp [YtijbmdmeiancgaaGreat.Spn.ex] at e <;> exact e
  rw [if_neg hop]
  clear hop
  by_cases hop : m.op = 9 ∨ m.op = 13 ∨ m.op = 14
  · rw [if_pos hop]
    have ha : ar m.op = 2 := by rcases hop with e | e | e <;> rw [e] <;> decide
    have ia := hin m.a (by rw [ag2 ha]; simp)
    have ib := hin m.b (by rw [ag2 ha]; simp)
    rw [vlI_op (by omega), av2 ha] at hx
    obtain ⟨w1, w2, e⟩ := two_ex hx
    intro p hp hs
    simp only [List.mem_cons, List.not_mem_nil, or_false] at hp
    subst hp
    refine ⟨ia, ?_⟩
    rw [h.isN ib hs] at e
    rcases hop with q | q | q <;> rw [q] at e <;> simp [YtijbmdmeiancgaaGreat.Spn.ex, YtijbmdmeiancgaaGreat.Spn.inB] at e <;> exact e
  rw [if_neg hop]
  clear hop
  by_cases hop : m.op = 11
  · rw [if_pos hop]
    have ha : ar m.op = 2 := by rw [hop]; decide
    have ia := hin m.a (by rw [ag2 ha]; simp)
    have ib := hin m.b (by rw [ag2 ha]; simp)
    rw [vlI_op (by omega), av2 ha, hop] at hx
    obtain ⟨w1, w2, e⟩ := two_ex hx
    intro p hp hs
    simp only [List.mem_cons, List.not_mem_nil, or_false] at hp
    subst hp
    refine ⟨ia, ?_⟩
    rw [h.isN ib hs] at e
    simp [YtijbmdmeiancgaaGreat.Spn.ex, Int.tdiv_one] at e
    exact e
  rw [if_neg hop]
  clear hop
  by_cases hop : m.op = 29 ∨ m.op = 30
  · rw [if_pos hop]
    have ha : ar m.op = 1 := by rcases hop with e | e <;> rw [e] <;> decide
    have ia := hin m.a (by rw [ag1 ha]; simp)
    rw [vlI_op (by omega), av1 ha] at hx
    obtain ⟨w1, e⟩ := one_ex hx
    intro p hp hs
    simp only [List.mem_cons, List.not_mem_nil, or_false] at hp
    subst hp
    refine ⟨ia, ?_⟩
    have hk : m.k = 0 := by simpa using hs
    rw [hk] at e
    rcases hop with q | q <;> rw [q] at e <;> simp [YtijbmdmeiancgaaGreat.Spn.ex] at e <;> exact e
  rw [if_neg hop]
  clear hop
  by_cases hop : m.op = 32
  · rw [if_pos hop]
    have ha : ar m.op = 1 := by rw [hop]; decide
    have ia := hin m.a (by rw [ag1 ha]; simp)
    rw [vlI_op (by omega), av1 ha, hop] at hx
    obtain ⟨w1, e⟩ := one_ex hx
    intro p hp hs
    simp only [List.mem_cons, List.not_mem_nil, or_false] at hp
    subst hp
    refine ⟨ia, ?_⟩
    have hk : m.k = 1 := by simpa using hs
    rw [hk] at e
    simp [YtijbmdmeiancgaaGreat.Spn.ex] at e
    exact e
  rw [if_neg hop]
  clear hop
  by_cases hop : m.op = 5
  · rw [if_pos hop]
    have ha : ar m.op = 1 := by rw [hop]; decide
    have ia := hin m.a (by rw [ag1 ha]; simp)
    rw [vlI_op (by omega), av1 ha, hop] at hx
    obtain ⟨w1, e⟩ := one_ex hx
    intro p hp hs
    simp only [List.mem_cons, List.not_mem_nil, or_false] at hp
    subst hp
    obtain ⟨i2, e2⟩ := h.neg ia (by simpa using hs)
    refine ⟨i2, ?_⟩
    rw [e2] at e
    simp [YtijbmdmeiancgaaGreat.Spn.ex] at e
    exact e
  rw [if_neg hop]
  clear hop
  by_cases hop : m.op = 6
  · rw [if_pos hop]
    have ha : ar m.op = 1 := by rw [hop]; decide
    have ia := hin m.a (by rw [ag1 ha]; simp)
    rw [vlI_op (by omega), av1 ha, hop] at hx
    obtain ⟨w1, e⟩ := one_ex hx
    intro p hp hs
    simp only [List.mem_cons, List.not_mem_nil, or_false] at hp
    subst hp
    have e2 := h.abs ia (by simpa using hs)
    refine ⟨ia, ?_⟩
    have e3 := congrArg Prod.fst e
    simp only [YtijbmdmeiancgaaGreat.Spn.ex] at e3
    change max (gv V m.a) (-gv V m.a) = x at e3
    show gv V m.a = x
    omega
  rw [if_neg hop]
  clear hop
  by_cases hop : m.op = 28
  · rw [if_pos hop]
    exact absurd hop h28
  rw [if_neg hop]
  clear hop
  by_cases hop : m.op = 27
  · rw [if_pos hop]
    have ha : ar m.op = 3 := by rw [hop]; decide
    have ia := hin m.a (by rw [ag3 ha]; simp)
    have ib := hin m.b (by rw [ag3 ha]; simp)
    rw [vlI_op (by omega), av3 ha, hop] at hx
    obtain ⟨w1, w2, w3, e⟩ := three_ex hx
    have e3 : max (min (gv V m.a) (gv V m.b)) (min (max (gv V m.a) (gv V m.b)) (gv V m.c)) = x := by
      have := congrArg Prod.fst e
      simpa [YtijbmdmeiancgaaGreat.Spn.ex] using this
    intro p hp hs
    simp only [List.mem_cons, List.not_mem_nil, or_false] at hp
    rcases hp with rfl | rfl
    · refine ⟨ia, ?_⟩
      show gv V m.a = x
      simp only [Bool.or_eq_true, beq_iff_eq] at hs
      rcases hs with hs | hs
      · rw [← hs] at e3; omega
      · rw [← hs] at e3; omega
    · refine ⟨ib, ?_⟩
      show gv V m.b = x
      simp only [beq_iff_eq] at hs
      rw [← hs] at e3; omega
  rw [if_neg hop]
  clear hop
  by_cases hop : m.op = 26
  · rw [if_pos hop]
    have ha : ar m.op = 3 := by rw [hop]; decide
    have ib := hin m.b (by rw [ag3 ha]; simp)
    rw [vlI_op (by omega), av3 ha, hop] at hx
    obtain ⟨w1, w2, w3, e⟩ := three_ex hx
    have e3 : min (gv V m.c) (max (gv V m.a) (gv V m.b)) = x := by
      have := congrArg Prod.fst e
      simpa [YtijbmdmeiancgaaGreat.Spn.ex] using this
    intro p hp hs
    simp only [List.mem_cons, List.not_mem_nil, or_false] at hp
    subst hp
    refine ⟨ib, ?_⟩
    show gv V m.b = x
    simp only [beq_iff_eq] at hs
    rw [← hs] at e3; omega
  · rw [if_neg hop]
    intro p hp
    cases hp

theorem fs_mem (own : Int) : ∀ L : List (Bool × Int), fsZ own L = own ∨ ∃ p ∈ L, p.1 = true ∧ fsZ own L = p.2
  | [] => .inl rfl
  | p :: L => by
    unfold fsZ
    split
    · rename_i hp
      exact .inr ⟨p, by simp, hp, rfl⟩
    · rcases fs_mem own L with h | ⟨q, h1, h2, h3⟩
      · exact .inl h
      · exact .inr ⟨q, by simp [h1], h2, h3⟩
/-- The register for which an instruction's own stands: itself, or one ahead of the same value. -/
theorem fs_val {f d : Int} {v : Wd} {M : List In} {V : List Int} {m : In} {x : Int} (h : Rv f d v M V) (ho : okI m M.length = true) (hx : vlI f d v V m = (x, 0)) (own : Int) :
    fsZ own (lnZ M m) = own ∨ (In1 (fsZ own (lnZ M m)) M.length ∧ gv V (fsZ own (lnZ M m)) = x) := by
  by_cases hop : m.op = 28
  · have hin := fun r => ok_ag ho (r := r)
    have ha : ar m.op = 3 := by rw [hop]; decide
    have ia := hin m.a (by rw [ag3 ha]; simp)
    have ib := hin m.b (by rw [ag3 ha]; simp)
    have ic := hin m.c (by rw [ag3 ha]; simp)
    rw [vlI_op (by omega), av3 ha, hop] at hx
    obtain ⟨w1, w2, w3, e⟩ := three_ex hx
    have e3 : (if gv V m.a = 0 then gv V m.c else gv V m.b) = x := by
      have := congrArg Prod.fst e
      simpa [YtijbmdmeiancgaaGreat.Spn.ex] using this
    have el : lnZ M m = [(isN M m.a 0, m.c), ((rg M m.a).op == 1, m.b), (m.b == m.c, m.b)] := by unfold lnZ; rw [hop]; simp
    rw [el]
    simp only [fsZ]
    by_cases h1 : isN M m.a 0 = true
    · rw [if_pos h1]
      rw [h.isN ia h1, if_pos rfl] at e3
      exact .inr ⟨ic, e3⟩
    rw [if_neg h1]
    by_cases h2 : ((rg M m.a).op == 1) = true
    · rw [if_pos h2]
      refine .inr ⟨ib, ?_⟩
      have hn := h.num ia (by simpa using h2)
      have h0 : gv V m.a ≠ 0 := by
        intro h0
        apply h1
        simp only [Fld.isN, Bool.and_eq_true]
        refine ⟨h2, ?_⟩
        rw [hn] at h0
        simpa using h0
      rw [if_neg h0] at e3
      exact e3
    rw [if_neg h2]
    by_cases h3 : (m.b == m.c) = true
    · rw [if_pos h3]
      refine .inr ⟨ib, ?_⟩
      have hbc : m.b = m.c := by simpa using h3
      rw [← hbc] at e3
      split at e3 <;> exact e3
    · rw [if_neg h3]
      exact .inl rfl
  · rcases fs_mem own (lnZ M m) with e | ⟨p, h1, h2, h3⟩
    · exact .inl e
    · right
      rw [h3]
      exact ln_val hop h ho hx p h1 h2

/-- What becomes of the registers that are read. -/
structure St (V : List Int) (T : List Int) (k : Nat) : Prop where
  len : T.length = k
  vl : V.length = k
  at' : ∀ i, i < k → 0 ≤ T.getD i 0 ∧ (T.getD i 0).toNat ≤ i ∧ gv V (T.getD i 0) = V.getD i 0
theorem St.ex {V T : List Int} {k : Nat} (h : St V T k) {r : Int} (hr : In1 r k) : In1 (exR T r) k ∧ gv V (exR T r) = gv V r := by
  obtain ⟨h1, h2, h3⟩ := h.at' r.toNat hr.2
  have e : exR T r = T.getD r.toNat 0 := by
    unfold exR
    rw [if_neg]
    have := h.len
    have := hr.1
    have := hr.2
    omega
  rw [e]
  exact ⟨⟨h1, by have := hr.2; omega⟩, h3⟩
theorem rg_in {r : Int} {u : Bool} {i : Nat} : rgB r u i = true ↔ (u = true → In1 r i) ∧ (u = false → r = 0) := by
  unfold rgB In1
  cases u
  · simp
  · simp only [if_true, YtijbmdmeiancgaaGreat.Spn.inB_iff]
    constructor
    · intro h; exact ⟨fun _ => by omega, fun h => by cases h⟩
    · intro h; have := h.1 trivial; omega
theorem th_ok {n : In} {V T : List Int} {k : Nat} (h : St V T k) (ho : okI n k = true) : okI (thI n T) k = true := by
  have hc := Cde.ok_con ho
  have ha := Cde.ok_ar ho
  simp only [okI, rgs, Bool.and_eq_true, rg_in] at ho
  obtain ⟨⟨-, ⟨⟨a1, a2⟩, b1, b2⟩, c1, c2⟩, -⟩ := ho
  simp only [decide_eq_true_eq, decide_eq_false_iff_not] at a1 a2 b1 b2 c1 c2
  have hc' : csB (thI n T) = true := hc
  simp only [okI, rgs, Bool.and_eq_true, rg_in, hc', decide_eq_true_eq, decide_eq_false_iff_not]
  refine ⟨⟨ha, ⟨⟨fun u => ?_, fun u => ?_⟩, fun u => ?_, fun u => ?_⟩, fun u => ?_, fun u => ?_⟩, trivial⟩
  · show In1 (if 0 < ar n.op then exR T n.a else n.a) k
    rw [if_pos (show 0 < ar n.op from u)]; exact (h.ex (a1 u)).1
  · show (if 0 < ar n.op then exR T n.a else n.a) = 0
    rw [if_neg (show ¬ 0 < ar n.op from u)]; exact a2 u
  · show In1 (if 1 < ar n.op then exR T n.b else n.b) k
    rw [if_pos (show 1 < ar n.op from u)]; exact (h.ex (b1 u)).1
  · show (if 1 < ar n.op then exR T n.b else n.b) = 0
    rw [if_neg (show ¬ 1 < ar n.op from u)]; exact b2 u
  · show In1 (if 2 < ar n.op then exR T n.c else n.c) k
    rw [if_pos (show 2 < ar n.op from u)]; exact (h.ex (c1 u)).1
  · show (if 2 < ar n.op then exR T n.c else n.c) = 0
    rw [if_neg (show ¬ 2 < ar n.op from u)]; exact c2 u
theorem th_arV {n : In} {V T : List Int} {k : Nat} (h : St V T k) (ho : okI n k = true) : arV V (thI n T) = arV V n := by
  have hin := fun r => ok_ag ho (r := r)
  have ha := Cde.ok_ar ho
  have h3 := YtijbmdmeiancgaaGreat.Spn.ar_le n.op
  rcases (show ar n.op = 0 ∨ ar n.op = 1 ∨ ar n.op = 2 ∨ ar n.op = 3 by unfold ar; omega) with e | e | e | e
  · have e1 : agL n = [] := by unfold agL arN; rw [show YtijbmdmeiancgaaGreat.Spn.ar n.op = 0 from e]; rfl
    have e2 : agL (thI n T) = [] := by unfold agL arN; rw [show YtijbmdmeiancgaaGreat.Spn.ar (thI n T).op = 0 from e]; rfl
    unfold arV; rw [e1, e2]
  · rw [av1 e, av1 (n := thI n T) e]
    have ea : (thI n T).a = exR T n.a := by show (if 0 < ar n.op then exR T n.a else n.a) = _; rw [if_pos (by omega)]
    rw [ea, (h.ex (hin n.a (by rw [ag1 e]; simp))).2]
  · rw [av2 e, av2 (n := thI n T) e]
    have ea : (thI n T).a = exR T n.a := by show (if 0 < ar n.op then exR T n.a else n.a) = _; rw [if_pos (by omega)]
    have eb : (thI n T).b = exR T n.b := by show (if 1 < ar n.op then exR T n.b else n.b) = _; rw [if_pos (by omega)]
    rw [ea, eb, (h.ex (hin n.a (by rw [ag2 e]; simp))).2, (h.ex (hin n.b (by rw [ag2 e]; simp))).2]
  · rw [av3 e, av3 (n := thI n T) e]
    have ea : (thI n T).a = exR T n.a := by show (if 0 < ar n.op then exR T n.a else n.a) = _; rw [if_pos (by omega)]
    have eb : (thI n T).b = exR T n.b := by show (if 1 < ar n.op then exR T n.b else n.b) = _; rw [if_pos (by omega)]
    have ec : (thI n T).c = exR T n.c := by show (if 2 < ar n.op then exR T n.c else n.c) = _; rw [if_pos (by omega)]
    rw [ea, eb, ec, (h.ex (hin n.a (by rw [ag3 e]; simp))).2, (h.ex (hin n.b (by rw [ag3 e]; simp))).2, (h.ex (hin n.c (by rw [ag3 e]; simp))).2]
theorem th_vl {f d : Int} {v : Wd} {n : In} {V T : List Int} {k : Nat} (h : St V T k) (ho : okI n k = true) : vlI f d v V (thI n T) = vlI f d v V n := by
  unfold vlI
  rw [th_arV h ho]
  rfl

/-- Numbers alone: their values are what is read. -/
theorem rk_args {f d : Int} {v : Wd} {M : List In} {V : List Int} {m : In} (h : Rv f d v M V) (ho : okI m M.length = true) (ha : alN M m = true) : kaL M m = arV V m := by
  unfold kaL arV
  apply List.map_congr_left
  intro r hr
  simp only [alN, List.all_eq_true] at ha
  exact (h.num (ok_ag ho hr) (by simpa using ha r hr)).symm
/-- Where all that an operator reads is a number, it is known. -/
theorem rk_all {f d : Int} {v : Wd} {M : List In} {V : List Int} {m : In} {x : Int} (h : Rv f d v M V) (ho : okI m M.length = true) (hx : vlI f d v V m = (x, 0)) (h1 : 1 ≤ ar m.op) (ha : alN M m = true) : rkZ M m = (x, true) ∧ vl m.op m.k m.s (kaL M m) = (x, 0) := by
  rw [vlI_op h1] at hx
  have e : vl m.op m.k m.s (kaL M m) = (x, 0) := by rw [rk_args h ho ha]; exact hx
  refine ⟨?_, e⟩
  rw [rkZ, if_pos ha, e]
  rfl
theorem rk_none {M : List In} {m : In} (h1 : ¬ 1 ≤ ar m.op) : (rkZ M m).2 = false := by
  unfold rkZ
  split
  · have : vl m.op m.k m.s (kaL M m) = (0, 1) := by
      unfold vl YtijbmdmeiancgaaGreat.Spn.valZ
      rw [if_neg]
      simp only [YtijbmdmeiancgaaGreat.Spn.mayB, Bool.and_eq_true, decide_eq_true_eq]
      intro h
      exact h1 h.1.1.1
    rw [this]; rfl
  · rfl
theorem bn_val {f d : Int} {v : Wd} {V : List Int} {m : In} {x : Int} (hx : vlI f d v V m = (x, 0)) (hb : (bnZ f d m).2 = true) : (bnZ f d m).1 = x := by
  unfold bnZ at *
  split at hb
  · rename_i hop
    rw [if_pos hop]
    rw [vlI, if_neg (by omega), if_pos hop] at hx
    have e := congrArg Prod.fst hx
    simp only [inpV] at e
    split at hb
    · rename_i hk; rw [if_pos hk]; rw [hk] at e; simpa using e
    · rename_i hk
      rw [if_neg hk]
      split at hb
      · rename_i hk; rw [if_pos hk]; rw [hk] at e; simpa using e
      · rename_i hk
        rw [if_neg hk]
        split at hb
        · rename_i hk; rw [if_pos hk]; rw [hk] at e; simpa using e
        · cases hb
  · cases hb
/-- What is known is the value. -/
theorem kn_val {f d : Int} {v : Wd} {M : List In} {V : List Int} {m : In} {x : Int} (h : Rv f d v M V) (ho : okI m M.length = true) (hx : vlI f d v V m = (x, 0)) (hk : (knZ f d M m).2 = true) : (knZ f d M m).1 = x := by
  unfold knZ at *
  split at hk
  · rename_i hb
    rw [if_pos hb]
    exact bn_val hx hb
  · rename_i hb
    rw [if_neg hb]
    split at hk
    · rename_i hr
      rw [if_pos hr]
      by_cases h1 : 1 ≤ ar m.op
      · by_cases ha : alN M m = true
        · rw [(rk_all h ho hx h1 ha).1]
        · rw [rkZ, if_neg ha] at hr; cases hr
      · rw [rk_none h1] at hr; cases hr
    · rename_i hr
      rw [if_neg hr]
      exact st_val h ho hx hk

theorem nu_ok {x : Int} (hx : w32 x) (i : Nat) : okI (nuI x) i = true := by
  have e : YtijbmdmeiancgaaGreat.Spn.wd x = true := YtijbmdmeiancgaaGreat.Spn.wd_iff.2 hx
  simp [okI, nuI, rgs, rgB, csB, YtijbmdmeiancgaaGreat.Spn.ar, e]
theorem nu_vl (f d : Int) (v : Wd) (V : List Int) (x : Int) : vlI f d v V (nuI x) = (x, 0) := by simp [vlI, nuI]

/-- One instruction: what it becomes may be, and has its value; and so has the register for which its own stands. -/
theorem nw_step {f d : Int} {v : Wd} {M : List In} {V T : List Int} {n : In} {x : Int} (h : Rv f d v M V) (hT : St V T M.length) (ho : okI n M.length = true) (hx : vlI f d v V n = (x, 0)) (hw : w32 x) :
    okI (nwI f d M (thI n T)) M.length = true ∧ vlI f d v V (nwI f d M (thI n T)) = (x, 0) ∧
    (nwT f d M (thI n T) M.length = M.length ∨ (In1 (nwT f d M (thI n T) M.length) M.length ∧ gv V (nwT f d M (thI n T) M.length) = x)) := by
  have ho' := th_ok hT ho
  have hx' : vlI f d v V (thI n T) = (x, 0) := by rw [th_vl hT ho]; exact hx
  unfold nwI nwT
  by_cases hk : (knZ f d M (thI n T)).2 = true
  · rw [if_pos hk, if_pos hk, kn_val h ho' hx' hk]
    exact ⟨nu_ok hw _, nu_vl .., .inl rfl⟩
  · rw [if_neg hk, if_neg hk]
    exact ⟨ho', hx', fs_val h ho' hx' _⟩
theorem St.snoc {V T : List Int} {k : Nat} (h : St V T k) {x t : Int} (ht : t = k ∨ (In1 t k ∧ gv V t = x)) : St (V ++ [x]) (T ++ [t]) (k + 1) := by
  have hl := h.len
  have hv := h.vl
  refine ⟨by simp [hl], by simp [hv], fun i hi => ?_⟩
  by_cases e : i < k
  · obtain ⟨h1, h2, h3⟩ := h.at' i e
    rw [Cde.getD_pre (by omega)]
    refine ⟨h1, h2, ?_⟩
    rw [gv, Cde.getD_pre (by omega), Cde.getD_pre (by omega)]
    exact h3
  · obtain rfl : i = k := by omega
    rw [show (T ++ [t]).getD i 0 = t by rw [← hl]; exact getZ_last T t, show (V ++ [x]).getD i 0 = x by rw [← hv]; exact getZ_last V x]
    rcases ht with rfl | ⟨h1, h2⟩
    · refine ⟨by omega, by omega, ?_⟩
      rw [gv, Int.toNat_natCast, ← hv]; exact getZ_last V x
    · refine ⟨h1.1, by have := h1.2; omega, ?_⟩
      rw [gv, Cde.getD_pre (by rw [hv]; exact h1.2)]
      exact h2

end Go.Proofs.Fld

/-
  What holds of the folded code, plainly.
-/
namespace Go.Proofs.Fld
open Go.RowKit Go.IntWalk YtijbmdmeiancgaaGreat.Knd
open YtijbmdmeiancgaaGreat (Wd wdA Fits inpV)
open Cde (In i0 agL arN okI okT mcB coL coZ vlI vlS vlF vaZ arV csB rgs rgB rgN)
open Vfy (ahI vfE vf_parts w32 any_take sgF)
set_option linter.unusedVariables false

/-- A window of every kind: all samples are the border. -/
def wd0 (f d : Int) : Wd := ⟨0, 0, 0, List.replicate (countZ f d).toNat (borderZ f d)⟩
theorem wd0_fits {f d : Int} (hm : May f d) : Fits f d (wd0 f d) := by
  have e0 : inZ f d 0 = some (0, colZ f - 1) := by unfold inZ; rw [if_neg (by simpa using hm)]; rfl
  have e1 : inZ f d 1 = some (0, rowZ f - 1) := by unfold inZ; rw [if_neg (by simpa using hm)]; rfl
  have e2 : inZ f d 2 = some (0, 3) := by unfold inZ; rw [if_neg (by simpa using hm)]; rfl
  have hc : 1 ≤ colZ f ∧ 1 ≤ rowZ f := by unfold colZ rowZ; constructor <;> split <;> omega
  have hn : 0 ≤ countZ f d := by unfold countZ; repeat' split
                                 all_goals omega
  have hb : lowZ f d ≤ borderZ f d ∧ borderZ f d ≤ highZ f d := by
    rcases kind3 f d with ⟨h, rfl⟩ | ⟨h, rfl⟩ | h
    · have := pw_le (d - 1) (by have := h.2.2; omega)
      obtain ⟨a, b, c, -⟩ := zs0 h
      rw [a, b, c]; omega
    · have := pw_le (d - 1) (by have := h.2.2; omega)
      obtain ⟨a, b, c, -⟩ := zs1 h
      rw [a, b, c]; omega
    · exact absurd hm h
  refine ⟨⟨⟨⟨0, colZ f - 1, e0, Int.le_refl _, by show (0 : Int) ≤ _; omega⟩, ⟨0, rowZ f - 1, e1, Int.le_refl _, by show (0 : Int) ≤ _; omega⟩⟩, ⟨0, 3, e2, Int.le_refl _, by show (0 : Int) ≤ _; omega⟩⟩, ?_, ?_⟩
  · show ((List.replicate (countZ f d).toNat (borderZ f d)).length : Int) = countZ f d
    rw [List.length_replicate]; omega
  · intro z hz
    rw [List.eq_of_mem_replicate hz]; exact hb

/-- Fold's state behind k instructions. -/
structure Fi (f d : Int) (v : Wd) (L : List In) (k : Nat) (V : List Int) : Prop where
  val : vlF f d v (L.take k) = (0, V)
  rv : Rv f d v (foF f d (L.take k)).1 V
  st : St V (foF f d (L.take k)).2 k
  new : vlF f d v (foF f d (L.take k)).1 = (0, V)
theorem fo_step {f d : Int} {v : Wd} {L : List In} {k : Nat} {V : List Int} (h : Fi f d v L k V) (hk : k < L.length) (ho : okI (L.getD k i0) k = true) {x : Int} (hx : vlI f d v V (L.getD k i0) = (x, 0)) (hw : w32 x) : Fi f d v L (k + 1) (V ++ [x]) := by
  have hl := (foF_len f d L k (by omega)).1
  have hst := h.st
  rw [show k = (foF f d (L.take k)).1.length from hl.symm] at hst
  obtain ⟨h1, h2, h3⟩ := nw_step h.rv (n := L.getD k i0) (by rw [hl]; rw [hl] at hst; exact hst) (by rw [hl]; exact ho) hx hw
  have e : foF f d (L.take (k + 1)) = foS f d (foF f d (L.take k)) (L.getD k i0) := by rw [Cde.take_snoc i0 hk, foF_snoc]
  refine ⟨?_, ?_, ?_, ?_⟩
  · rw [Cde.take_snoc i0 hk, Cde.vlF_snoc, h.val, vlS, if_pos rfl, hx, if_pos rfl]
  · rw [e]; exact h.rv.snoc h1 h2
  · rw [e]
    refine h.st.snoc ?_
    rw [hl] at h3
    show nwT f d (foF f d (L.take k)).1 (thI (L.getD k i0) (foF f d (L.take k)).2) ((foF f d (L.take k)).1.length) = _ ∨ _
    rw [hl]; exact h3
  · rw [e]
    show vlF f d v ((foF f d (L.take k)).1 ++ [_]) = _
    rw [Cde.vlF_snoc, h.new, vlS, if_pos rfl, h2, if_pos rfl]
theorem fo_all {f d : Int} {v : Wd} {L : List In} {out : Int} (h : vfE f d L out = 0) (hF : Fits f d v) : ∀ k, k ≤ L.length → ∃ V, Fi f d v L k V
  | 0, _ => ⟨[], rfl, Rv.nil f d v, ⟨rfl, rfl, fun i hi => absurd hi (Nat.not_lt_zero _)⟩, rfl⟩
  | k + 1, hk => by
    obtain ⟨V, hV⟩ := fo_all h hF k (by omega)
    obtain ⟨m, ha, ⟨S, hS, -, -⟩, -, -, -⟩ := vf_parts h
    obtain ⟨hm, -, -, -, -, hok⟩ := Cde.mc_parts m
    obtain ⟨V2, S2, g1, g2, g3⟩ := Vfy.vlF_in hm hF hok ha (by rw [hS]) (k + 1) hk
    have ho := Cde.okT_at hok (show k < L.length by omega)
    rw [Cde.take_snoc i0 (by omega), Cde.vlF_snoc, hV.val, vlS, if_pos rfl] at g1
    have hlV := hV.st.vl
    by_cases hz : (vlI f d v V (L.getD k i0)).2 = 0
    · rw [if_pos hz] at g1
      cases g1
      have hw : w32 (vlI f d v V (L.getD k i0)).1 := by
        have := (g3.2 k (by rw [← g3.1]; simp [hlV])).2.2
        rw [show (V ++ [(vlI f d v V (L.getD k i0)).1]).getD k 0 = (vlI f d v V (L.getD k i0)).1 by rw [← hlV]; exact getZ_last _ _] at this
        exact this
      exact ⟨_, fo_step hV (by omega) ho (Prod.ext rfl hz) hw⟩
    · rw [if_neg hz] at g1
      exact absurd (congrArg Prod.fst g1) hz
theorem foF_succ (f d : Int) {L : List In} {k : Nat} (hk : k < L.length) : foF f d (L.take (k + 1)) = foS f d (foF f d (L.take k)) (L.getD k i0) := by rw [Cde.take_snoc i0 hk, foF_snoc]

/-- What the program needs of it: the registers that are read stand ahead. -/
theorem fo_ok {f d : Int} {L : List In} {out : Int} (h : vfE f d L out = 0) {k : Nat} (hk : k < L.length) : okI (thI (L.getD k i0) (foF f d (L.take k)).2) k = true := by
  obtain ⟨m, -⟩ := vf_parts h
  obtain ⟨hm, -, -, -, -, hok⟩ := Cde.mc_parts m
  obtain ⟨V, hV⟩ := fo_all h (wd0_fits hm) k (by omega)
  exact th_ok hV.st (Cde.okT_at hok hk)
/-- Where all that an operator reads is a number, it has a value. -/
theorem fo_known {f d : Int} {L : List In} {out : Int} (h : vfE f d L out = 0) {k : Nat} (hk : k < L.length) (h1 : 1 ≤ ar (L.getD k i0).op) (ha : alN (foF f d (L.take k)).1 (thI (L.getD k i0) (foF f d (L.take k)).2) = true) :
    ∃ x, rkZ (foF f d (L.take k)).1 (thI (L.getD k i0) (foF f d (L.take k)).2) = (x, true) ∧ vl (L.getD k i0).op (L.getD k i0).k (L.getD k i0).s (kaL (foF f d (L.take k)).1 (thI (L.getD k i0) (foF f d (L.take k)).2)) = (x, 0) := by
  obtain ⟨m, ha2, ⟨S, hS, -, -⟩, -, -, -⟩ := vf_parts h
  obtain ⟨hm, -, -, -, -, hok⟩ := Cde.mc_parts m
  obtain ⟨V, hV⟩ := fo_all h (wd0_fits hm) k (by omega)
  obtain ⟨V2, hV2⟩ := fo_all h (wd0_fits hm) (k + 1) (by omega)
  have ho := Cde.okT_at hok hk
  have hl := (foF_len f d L k (by omega)).1
  have e := hV2.val
  rw [Cde.take_snoc i0 hk, Cde.vlF_snoc, hV.val, vlS, if_pos rfl] at e
  by_cases hz : (vlI f d (wd0 f d) V (L.getD k i0)).2 = 0
  · have hx : vlI f d (wd0 f d) V (thI (L.getD k i0) (foF f d (L.take k)).2) = ((vlI f d (wd0 f d) V (L.getD k i0)).1, 0) := by
      rw [th_vl hV.st ho]; exact Prod.ext rfl hz
    exact ⟨_, rk_all hV.rv (by rw [hl]; exact th_ok hV.st ho) hx h1 ha⟩
  · rw [if_neg hz] at e
    exact absurd (congrArg Prod.fst e) hz

/-! ## The folded code may be, is no dearer, looks at no place that was not looked at -/
theorem nw_op (f d : Int) (M : List In) (m : In) : (nwI f d M m).op = 1 ∨ nwI f d M m = m := by
  unfold nwI
  split
  · exact .inl rfl
  · exact .inr rfl
theorem fo_cost {f d : Int} {L : List In} (hok : okT L L.length = true) : ∀ k, k ≤ L.length → coL (foF f d (L.take k)).1 ≤ coL (L.take k)
  | 0, _ => by simp [foF, coL]
  | k + 1, hk => by
    have ih := fo_cost (f := f) (d := d) hok k (by omega)
    rw [foF_succ f d (by omega), Cde.take_snoc i0 (by omega), Cde.coL_snoc, foS, Cde.coL_snoc]
    have hp := Vfy.co_pos (Cde.okT_at hok (show k < L.length by omega))
    rcases nw_op f d (foF f d (L.take k)).1 (thI (L.getD k i0) (foF f d (L.take k)).2) with e | e
    · rw [e]
      have : coZ 1 = 1 := rfl
      omega
    · rw [e]
      have : (thI (L.getD k i0) (foF f d (L.take k)).2).op = (L.getD k i0).op := rfl
      rw [this]
      omega

/-- What Fold's answer is: taken, of the same length, no dearer, of the same values. -/
theorem fd_means {f d : Int} {L : List In} {out : Int} (h : vfE f d L out = 0) : vfE f d (fdL f d L out) (fdO f d L out) = 0 ∧ (fdL f d L out).length = L.length ∧ coL (fdL f d L out) ≤ coL L ∧
    ∀ v, Fits f d v → ∃ V, vaZ f d v L out = (0, V) ∧ vaZ f d v (fdL f d L out) (fdO f d L out) = (0, V) ∧ V.length = L.length ∧ 0 ≤ fdO f d L out ∧ (fdO f d L out).toNat < L.length ∧ V.getD (fdO f d L out).toNat 0 = V.getD out.toNat 0 := by
  obtain ⟨m, ha, ⟨S, hS, -, -⟩, -, -, -⟩ := vf_parts h
  obtain ⟨hm, -, -, ho0, ho1, hok⟩ := Cde.mc_parts m
  obtain ⟨-, -, hH⟩ := Vfy.vf_holds h
  have hlen := (foF_len f d L L.length (Nat.le_refl _)).1
  rw [List.take_length] at hlen
  unfold fdL fdO
  by_cases hn : vfE f d (foF f d L).1 (foO f d L out) = 0
  · rw [if_pos hn, if_pos hn]
    have hc := fo_cost (f := f) (d := d) hok L.length (Nat.le_refl _)
    rw [List.take_length] at hc
    refine ⟨hn, hlen, hc, fun v hF => ?_⟩
    obtain ⟨V, hV⟩ := fo_all h hF L.length (Nat.le_refl _)
    have h1 := hV.val
    have h2 := hV.new
    have h3 := hV.st
    rw [List.take_length] at h1 h2 h3
    obtain ⟨m2, -⟩ := vf_parts hn
    obtain ⟨a1, a2, a3⟩ := h3.at' out.toNat (by omega)
    refine ⟨V, by rw [vaZ, if_pos m, if_pos hF]; exact h1, by rw [vaZ, if_pos m2, if_pos hF]; exact h2, h3.vl, a1, by show ((foF f d L).2.getD out.toNat 0).toNat < _; omega, a3⟩
  · rw [if_neg hn, if_neg hn]
    refine ⟨h, rfl, Int.le_refl _, fun v hF => ?_⟩
    obtain ⟨V, hV, hI⟩ := hH v hF
    obtain ⟨V', hV'⟩ := fo_all h hF L.length (Nat.le_refl _)
    have h1 := hV'.val
    have h3 := hV'.st.vl
    rw [List.take_length] at h1
    have hV2 := hV
    rw [vaZ, if_pos m, if_pos hF, h1] at hV
    cases hV
    exact ⟨_, hV2, hV2, h3, ho0, by omega, rfl⟩

end Go.Proofs.Fld

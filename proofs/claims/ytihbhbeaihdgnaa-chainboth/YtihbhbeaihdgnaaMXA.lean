/-
  Rows of numbers of 32 bits; the machine's box; truth and the machine's input.
-/
import Derived.Test.YtihbhbeaihdgnaaMYh
import Derived.Deep.RegionHeld3
import Derived.Deep.AppendLies
import Derived.Lib.SliceRun
import Derived.Deep.CutRange
import Derived.Test.YtihbhbeaihdgnaaMSpB
namespace Go.Proofs.Vmm
open Go.RowKit Go.IntWalk Ytihbhbeaihdgnaa.Knd
open Ytihbhbeaihdgnaa (Wd wdA Fits inpV)
open Cde (In i0 ia kd cd Ins at6 six_of four_of two_of has_new1 okI okT below_drew is6 i6 zA take_snoc vlI vlF vaZ TwP arV)
open Vfy (vfE w32)
set_option linter.unusedVariables false

abbrev i32s (L : List Int) : List Value := L.map (Value.int .i32)
theorem i32s_one (L : List Int) : ∀ u ∈ i32s L, u.oneCell' = true := by
  intro u hu
  simp only [List.mem_map] at hu
  obtain ⟨n, _, rfl⟩ := hu
  rfl
theorem info32 : (Try.prog.info? 21).map (fun i => (i.zero, i.size, i.bytes)) = some (some (.int .i32 0), 1, 4) := by kernel_rfl
/-- The slice (a, n, cap) reads as the numbers V, of 32 bits. -/
structure Regs (W : World) (a : Option Addr) (n cap : Nat) (V : List Int) : Prop where
  len : V.length = n
  le : n ≤ cap
  max : cap ≤ maxLen
  cell : n = 0 ∨ ∃ b off, a = some ⟨b, off, none⟩ ∧ b < W.heap.size ∧ ∀ i, i < n → W.cell? ⟨b, off + i, none⟩ = some (.int .i32 (V.getD i 0))
theorem Regs.later {W W' : World} {a : Option Addr} {n cap : Nat} {V : List Int} (h : Regs W a n cap V) (hb : Below W.heap.size W W') : Regs W' a n cap V := by
  refine ⟨h.len, h.le, h.max, ?_⟩
  rcases h.cell with h0 | ⟨b, off, ha, hlt, hc⟩
  · exact .inl h0
  · exact .inr ⟨b, off, ha, Nat.lt_of_lt_of_le hlt hb.size, fun i hi => (hb.cell (p := ⟨b, off + i, none⟩) hlt).trans (hc i hi)⟩
theorem Regs.at {W : World} {a : Option Addr} {n cap : Nat} {V : List Int} (h : Regs W a n cap V) (h0 : 0 < n) : ∃ b off, a = some ⟨b, off, none⟩ ∧ b < W.heap.size ∧ ∀ i, i < n → W.cell? ⟨b, off + i, none⟩ = some (.int .i32 (V.getD i 0)) := by
  rcases h.cell with h | h
  · omega
  · exact h
theorem Regs.of_owns {W : World} {base : Nat} {v : Value} {n : Nat} {V : List Int} (h : W.ownsRow base 21 1 v n (i32s V)) : ∃ a cap, v = .slice a n cap ∧ Regs W a n cap V ∧ (∀ x, a = some x → base ≤ x.block ∧ x.block < W.heap.size) := by
  have hl : V.length = n := by have := h.1; rw [List.length_map] at this; omega
  have hcs := fun g hg => h.cells (g := g) hg
  have hlt := h.lt
  rcases h.2 with ⟨rfl, rfl⟩ | ⟨g, cap, cur, rfl, hb, hg, hnc, hcm, hsz, htake⟩
  · exact ⟨none, 0, rfl, ⟨hl, Nat.le_refl _, Nat.zero_le _, .inl rfl⟩, fun x hx => by cases hx⟩
  · refine ⟨some ⟨g, 0, none⟩, cap, rfl, ⟨hl, hnc, hcm, .inr ⟨g, 0, rfl, (hlt g rfl).2, fun i hi => ?_⟩⟩, fun x hx => by cases hx; exact hlt g rfl⟩
    have := hcs g rfl i (.int .i32 (V.getD i 0)) (by rw [List.getElem?_map, List.getD_eq_getElem?_getD, List.getElem?_eq_getElem (by omega)]; rfl)
    rw [Addr.add_lit] at this
    exact this

/-- A row of numbers of 32 bits in memory of the call's own. -/
structure L32 (w W : World) (v : Value) (L : List Int) : Prop where
  a : W.ownsRow w.heap.size 21 1 v L.length (i32s L)
  bel : Below w.heap.size w W
theorem L32.later {w W W' : World} {v : Value} {L : List Int} (h : L32 w W v L) (hb : Below W.heap.size W W') : L32 w W' v L := ⟨Cde.own_later h.a hb, h.bel.trans (hb.mono h.bel.size)⟩
theorem L32.regs {w W : World} {v : Value} {L : List Int} (h : L32 w W v L) : ∃ a c, v = .slice a L.length c ∧ Regs W a L.length c L := by
  obtain ⟨a, c, e, hR, -⟩ := Regs.of_owns h.a
  exact ⟨a, c, e, hR⟩
theorem list_32 {w W : World} {v : Value} {L : List Int} {ops : Array Oper} {rest : List Oper} {o : Oper} {a : Act} {Q : Exit → Act → World → Prop}
    (hgd : o.guard = none) (s x : Operand) (ho : o.op = .call { callee := .builtin .append, args := #[s, x], argTypes := #[65, 65] })
    (hs : a.eval s = v) (hen : L32 w W v L) (b : Nat) (p : Int) (hx : a.eval x = .slice (some ⟨b, 0, none⟩) 1 1) (hc : HasC W b 21 #[.int .i32 p]) (h3 : L.length ≤ 2000000)
    (h : ∀ g cap w', L32 w w' (.slice (some ⟨g, 0, none⟩) (L.length + 1) cap) (L ++ [p]) → wpList Try.prog ops Q rest (a.put o.dst (.slice (some ⟨g, 0, none⟩) (L.length + 1) cap)) w') :
    wpList Try.prog ops Q (o :: rest) a W := by
  obtain ⟨i0', hi0, hz0, hz1, hz2⟩ := info_parts info32
  refine wpList_append_lies W hgd s x 65 ho w.heap.size 21 i0' _ 1 4 Try.underlying65 hi0 hz0 hz1 hz2 rfl (by omega) v L.length (i32s L) hs hen.a ⟨b, 0, none⟩ 1 1 [.int .i32 p] hx rfl (Cde.news_one hc) (by simp [Value.oneCell']) (by omega) (by unfold maxLen; omega) (by omega) hen.bel.size W.heap.size rfl ?_
  intro g cap w' hown hgrow hat hlt
  refine h g cap w' ⟨by rw [List.length_append]; simpa using hown, hen.bel.grown hgrow hen.bel.size (fun k hk => (Cde.owns_block hen.a k hk).1)⟩
theorem make_32 (n : Nat) (h : n ≤ 1024) (w : World) : ∃ w', (Instr.makeSlice 65 (.int .i64 0) (.int .i64 n)).run Try.prog w = .ok (.slice (some ⟨w.heap.size, 0, none⟩) 0 n) w' ∧ L32 w w' (.slice (some ⟨w.heap.size, 0, none⟩) 0 n) [] := by
  obtain ⟨i0', hi0, hz0, hz1, hz2⟩ := info_parts info32
  obtain ⟨w', h1, h2, h3⟩ := run_make_own (P := Try.prog) w w.heap.size 65 21 i0' _ 1 Try.underlying65 hi0 hz0 hz1 .i64 .i64 n (by rw [hz2]; omega) (by unfold maxLen; omega) (Nat.le_refl _)
  exact ⟨w', h1, h2, (Below.refl _ _).grown h3 (Nat.le_refl _) (fun k hk => by cases hk)⟩

/-- What run answers. -/
def RwP (w : World) (Z : Int × List Int) (e : Ending) (W' : World) : Prop :=
  ∃ a c, e = .returned (.tuple #[.slice a Z.2.length c, .int .i64 Z.1]) ∧ W'.ownsRow w.heap.size 21 1 (.slice a Z.2.length c) Z.2.length (i32s Z.2) ∧ Below w.heap.size w W'
theorem RwP.no {w W' : World} {er : Int} (hb : Below w.heap.size w W') : RwP w (er, []) (.returned (.tuple #[.slice none 0 0, .int .i64 er])) W' := ⟨_, _, rfl, ⟨rfl, .inl ⟨rfl, rfl⟩⟩, hb⟩

/-- The machine: its box, and its instructions in memory of its own. -/
structure Mc (V : World) (lo g : Nat) (f d : Int) (L : List In) (o : Int) (a : Option Addr) (n c : Nat) : Prop where
  b : HasC V g 59 (cd f d a n c o)
  s : V.ownsRow lo 51 6 (.slice a n c) n (is6 L)
  lo : lo ≤ g
theorem Mc.later {V V' : World} {lo g : Nat} {f d : Int} {L : List In} {o : Int} {a : Option Addr} {n c : Nat} (h : Mc V lo g f d L o a n c) (hb : Below V.heap.size V V') : Mc V' lo g f d L o a n c := ⟨h.b.below hb, Cde.own_later h.s hb, h.lo⟩
theorem Mc.ins {V : World} {lo g : Nat} {f d : Int} {L : List In} {o : Int} {a : Option Addr} {n c : Nat} (h : Mc V lo g f d L o a n c) : Ins V a n c L := by
  obtain ⟨a', c', e1, hI, -⟩ := Ins.of_owns h.s
  cases e1
  exact hI

def tr (b : Bool) : Int := if b = true then 1 else 0
theorem ret_32 {a b : Int} (h : a = b) : Ending.returned (.int .i32 a) = .returned (.int .i32 b) := by rw [h]
theorem truth_any (b : Bool) (w : World) : Calls Try.prog 75 #[.bool b] w fun e w' => e = .returned (.int .i32 (tr b)) ∧ w' = w := by
  cases b
  · go_enter Try.func75, Try.ntmps75
    go_wp2
    go_ret
    exact ⟨rfl, rfl⟩
  · go_enter Try.func75, Try.ntmps75
    go_wp2
    go_ret
    exact ⟨rfl, rfl⟩

set_option maxRecDepth 100000 in
set_option maxHeartbeats 4000000 in
theorem minput_any (f d k : Int) (v : Wd) (a : Option Addr) (n cap : Nat) (W : World) :
    Calls Try.prog 46 #[.agg (kd f d), .int .i64 k, .agg (wdA v a n cap)] W fun e W' => e = .returned (.int .i64 (inpV f d v k)) ∧ Below W.heap.size W W' := by
  have HL := hide fun W => Ytihbhbeaihdgnaa.Knd.low_any f d W
  have HH := hide fun W => Ytihbhbeaihdgnaa.Knd.high_any f d W
  have HO := hide fun W => Ytihbhbeaihdgnaa.Knd.border_any f d W
  have HB := hide (bel (bel1 W (.cells (kd f d) 23)) (bel1 (W.alloc (.cells (kd f d) 23)) (.cells (wdA v a n cap) 29)))
  unfold inpV
  by_cases h0 : k = 0
  · subst h0
    rw [if_pos rfl]
    go_enter Try.func46, Try.ntmps46
    go_wp2_with fail
    go_ret
    exact ⟨rfl, HB.out⟩
  rw [if_neg h0]
  by_cases h1 : k = 1
  · subst h1
    rw [if_pos rfl]
    go_enter Try.func46, Try.ntmps46
    go_wp2_with fail
    go_ret
    exact ⟨rfl, HB.out⟩
  rw [if_neg h1]
  by_cases h2 : k = 2
  · subst h2
    rw [if_pos rfl]
    go_enter Try.func46, Try.ntmps46
    go_wp2_with fail
    go_ret
    exact ⟨rfl, HB.out⟩
  rw [if_neg h2]
  by_cases h3 : k = 3
  · subst h3
    rw [if_pos rfl]
    go_enter Try.func46, Try.ntmps46
    go_wp2_with fail
    refine (HL.out _).mono ?_
    rintro e V1 ⟨rfl, hb⟩
    go_wp2_with fail
    go_ret
    exact ⟨rfl, bel HB.out hb⟩
  rw [if_neg h3]
  by_cases h4 : k = 4
  · subst h4
    rw [if_pos rfl]
    go_enter Try.func46, Try.ntmps46
    go_wp2_with fail
    refine (HH.out _).mono ?_
    rintro e V1 ⟨rfl, hb⟩
    go_wp2_with fail
    go_ret
    exact ⟨rfl, bel HB.out hb⟩
  rw [if_neg h4]
  have q0 : (k == 0) = false := by simpa using h0
  have q1 : (k == 1) = false := by simpa using h1
  have q2 : (k == 2) = false := by simpa using h2
  have q3 : (k == 3) = false := by simpa using h3
  have q4 : (k == 4) = false := by simpa using h4
  clear h0 h1 h2 h3 h4
  go_enter Try.func46, Try.ntmps46
  go_wp2_with fail
  refine (HO.out _).mono ?_
  rintro e V1 ⟨rfl, hb⟩
  go_wp2_with fail
  go_ret
  exact ⟨rfl, bel HB.out hb⟩

end Go.Proofs.Vmm

/-
  The machine's operators, on numbers of 32 bits: where the operator answers, they answer the same.
-/
namespace Go.Proofs.Vmm
open Go.RowKit Go.IntWalk Ytihbhbeaihdgnaa.Knd
open Cde (In i0 ia has_new1)
open Vfy (w32)
open Ytihbhbeaihdgnaa.Spn (valZ ex mayB ar inB inB_iff wd wd_iff cons)
set_option linter.unusedVariables false

theorem se_of {a : Int} (h : w32 a) : BitVec.ofInt 64 a = (BitVec.ofInt 32 a).signExtend 64 := by
  obtain ⟨h1, h2⟩ := h
  apply BitVec.eq_of_toInt_eq
  rw [BitVec.toInt_signExtend_of_le (by decide), BitVec.toInt_ofInt, BitVec.toInt_ofInt]
  simp only [Int.bmod]
  omega
theorem wr_32 (z : BitVec 32) : IntKind.i32.wrap (z.toNat : Int) = z.toInt := by
  have h1 := z.isLt
  rw [BitVec.toInt_eq_toNat_cond]
  simp [IntKind.wrap, IntKind.bits, IntKind.signed]
  split <;> omega
theorem wr_64 (z : BitVec 64) : IntKind.i64.wrap (z.toNat : Int) = z.toInt := by
  have h1 := z.isLt
  rw [BitVec.toInt_eq_toNat_cond]
  simp [IntKind.wrap, IntKind.bits, IntKind.signed]
  split <;> omega
theorem and_32 {a b : Int} (ha : w32 a) (hb : w32 b) : bits .and .i32 a b = bits .and .i64 a b := by
  show IntKind.i32.wrap ((BitVec.ofInt 32 a &&& BitVec.ofInt 32 b).toNat : Int) = IntKind.i64.wrap ((BitVec.ofInt 64 a &&& BitVec.ofInt 64 b).toNat : Int)
  rw [wr_32, wr_64, se_of ha, se_of hb, ← BitVec.signExtend_and, BitVec.toInt_signExtend_of_le (by decide)]
theorem or_32 {a b : Int} (ha : w32 a) (hb : w32 b) : bits .or .i32 a b = bits .or .i64 a b := by
  show IntKind.i32.wrap ((BitVec.ofInt 32 a ||| BitVec.ofInt 32 b).toNat : Int) = IntKind.i64.wrap ((BitVec.ofInt 64 a ||| BitVec.ofInt 64 b).toNat : Int)
  rw [wr_32, wr_64, se_of ha, se_of hb, ← BitVec.signExtend_or, BitVec.toInt_signExtend_of_le (by decide)]
theorem xor_32 {a b : Int} (ha : w32 a) (hb : w32 b) : bits .xor .i32 a b = bits .xor .i64 a b := by
  show IntKind.i32.wrap ((BitVec.ofInt 32 a ^^^ BitVec.ofInt 32 b).toNat : Int) = IntKind.i64.wrap ((BitVec.ofInt 64 a ^^^ BitVec.ofInt 64 b).toNat : Int)
  rw [wr_32, wr_64, se_of ha, se_of hb, ← BitVec.signExtend_xor, BitVec.toInt_signExtend_of_le (by decide)]
theorem val_ex {op k s x : Int} {xs : List Int} (h : valZ op k s xs = (x, 0)) : mayB op k s xs = true ∧ ex op k s (xs.getD 0 0) (xs.getD 1 0) (xs.getD 2 0) = (x, 0) ∧ w32 x := by
  unfold valZ at h
  split at h
  · rename_i hm
    split at h
    · rename_i h1
      split at h
      · rename_i hw
        simp only [Prod.mk.injEq, and_true] at h
        exact ⟨hm, Prod.ext h h1, by rw [← h]; exact wd_iff.1 hw⟩
      · simp at h
    · rename_i h1
      simp only [Prod.mk.injEq] at h
      exact absurd h.2 h1
  · simp at h
theorem may_parts {op k s : Int} {xs : List Int} (h : mayB op k s xs = true) : (xs.length : Int) = ar op ∧ cons op k s = true ∧ ∀ x ∈ xs, w32 x := by
  simp only [mayB, Bool.and_eq_true, decide_eq_true_eq, List.all_eq_true] at h
  exact ⟨h.1.1.2, h.1.2, fun x hx => wd_iff.1 (h.2 x hx)⟩

theorem vcompared_any (op a b : Int) (w : World) (ho : inB op 18 23 = true) :
    Calls Try.prog 63 #[.int .i64 op, .int .i32 a, .int .i32 b] w fun e w' => e = .returned (.int .i32 (ex op 0 0 a b 0).1) ∧ w' = w := by
  have h := inB_iff.1 ho
  clear ho
  rcases (show op = 18 ∨ op = 19 ∨ op = 20 ∨ op = 21 ∨ op = 22 ∨ op = 23 by omega) with rfl | rfl | rfl | rfl | rfl | rfl <;>
  · clear h
    go_enter Try.func63, Try.ntmps63
    go_wp2_with (go_at_call 75; refine (truth_any _ _).mono ?_; rintro e w' ⟨rfl, rfl⟩)
    go_ret
    exact ⟨rfl, rfl⟩

/-- An operator of two arguments. -/
def Two (op : Int) : Prop := ∀ (a b x : Int) (w : World), w32 a → w32 b → w32 x → ex op 0 0 a b 0 = (x, 0) →
    Calls Try.prog 49 #[.int .i64 op, .int .i32 a, .int .i32 b] w fun e w' => e = .returned (.int .i32 x) ∧ w' = w
theorem two_8 : Two 8 := by
  rintro a b x w ⟨a1, a2⟩ ⟨b1, b2⟩ ⟨x1, x2⟩ h
  obtain rfl : a + b = x := congrArg Prod.fst h
  clear h
  go_enter Try.func49, Try.ntmps49
  go_wp2
  go_ret
  exact ⟨rfl, rfl⟩
theorem two_9 : Two 9 := by
  rintro a b x w ⟨a1, a2⟩ ⟨b1, b2⟩ ⟨x1, x2⟩ h
  obtain rfl : a - b = x := congrArg Prod.fst h
  clear h
  go_enter Try.func49, Try.ntmps49
  go_wp2
  go_ret
  exact ⟨rfl, rfl⟩
theorem two_10 : Two 10 := by
  rintro a b x w ⟨a1, a2⟩ ⟨b1, b2⟩ ⟨x1, x2⟩ h
  have hP : a * b = x := congrArg Prod.fst h
  clear h
  go_enter Try.func49, Try.ntmps49
  go_wp2
  go_ret
  exact ⟨rfl, rfl⟩
theorem two_11 : Two 11 := by
  rintro a b x w ⟨a1, a2⟩ ⟨b1, b2⟩ ⟨x1, x2⟩ h
  have h0 : b ≠ 0 := by
    intro h0
    subst h0
    simp [ex] at h
  have hP : a.tdiv b = x := by
    simp [ex, h0] at h
    exact h
  have h1 : (b == 0) = false := by simpa using h0
  clear h
  go_enter Try.func49, Try.ntmps49
  go_wp2
  go_ret
  exact ⟨rfl, rfl⟩
theorem two_12 : Two 12 := by
  rintro a b x w ⟨a1, a2⟩ ⟨b1, b2⟩ ⟨x1, x2⟩ h
  have h0 : b ≠ 0 := by
    intro h0
    subst h0
    simp [ex] at h
  have hP : a.tmod b = x := by
    simp [ex, h0] at h
    exact h
  have h1 : (b == 0) = false := by simpa using h0
  clear h
  go_enter Try.func49, Try.ntmps49
  go_wp2
  go_ret
  exact ⟨rfl, rfl⟩
theorem two_13 : Two 13 := by
  rintro a b x w ⟨a1, a2⟩ ⟨b1, b2⟩ ⟨x1, x2⟩ h
  have h0 : inB b 0 31 = true := by
    cases h0 : inB b 0 31
    · simp [ex, h0] at h
    · rfl
  have hP : a * 2 ^ b.toNat = x := by
    simp [ex, h0] at h
    exact h
  obtain ⟨c1, c2⟩ := inB_iff.1 h0
  clear h h0
  go_enter Try.func49, Try.ntmps49
  go_wp2
  go_ret
  exact ⟨rfl, rfl⟩
theorem two_14 : Two 14 := by
  rintro a b x w ⟨a1, a2⟩ ⟨b1, b2⟩ ⟨x1, x2⟩ h
  have h0 : inB b 0 31 = true := by
    cases h0 : inB b 0 31
    · simp [ex, h0] at h
    · rfl
  have hP : a / 2 ^ b.toNat = x := by
    simp [ex, h0] at h
    exact h
  obtain ⟨c1, c2⟩ := inB_iff.1 h0
  clear h h0
  go_enter Try.func49, Try.ntmps49
  go_wp2
  go_ret
  exact ⟨rfl, rfl⟩
theorem two_15 : Two 15 := by
  rintro a b x w ha hb hx h
  have hP : bits .and .i32 a b = x := (and_32 ha hb).trans (congrArg Prod.fst h)
  clear h ha hb hx
  go_enter Try.func49, Try.ntmps49
  go_wp2
  go_ret
  exact ⟨rfl, rfl⟩
theorem two_16 : Two 16 := by
  rintro a b x w ha hb hx h
  have hP : bits .or .i32 a b = x := (or_32 ha hb).trans (congrArg Prod.fst h)
  clear h ha hb hx
  go_enter Try.func49, Try.ntmps49
  go_wp2
  go_ret
  exact ⟨rfl, rfl⟩
theorem two_17 : Two 17 := by
  rintro a b x w ha hb hx h
  have hP : bits .xor .i32 a b = x := (xor_32 ha hb).trans (congrArg Prod.fst h)
  clear h ha hb hx
  go_enter Try.func49, Try.ntmps49
  go_wp2
  go_ret
  exact ⟨rfl, rfl⟩
theorem two_cmp (op : Int) (ho : op = 18 ∨ op = 19 ∨ op = 20 ∨ op = 21 ∨ op = 22 ∨ op = 23) : Two op := by
  intro a b x w _ _ _ h
  have HC := hide fun w => vcompared_any op a b w (Ytihbhbeaihdgnaa.Spn.inB_t (by omega) (by omega))
  rw [h] at HC
  clear h
  rcases ho with rfl | rfl | rfl | rfl | rfl | rfl <;>
  · go_enter Try.func49, Try.ntmps49
    go_wp2_with (go_at_call 63; refine (HC.out _).mono ?_; rintro e w' ⟨rfl, rfl⟩)
    go_ret
    exact ⟨rfl, rfl⟩
theorem two_24 : Two 24 := by
  rintro a b x w ⟨a1, a2⟩ ⟨b1, b2⟩ ⟨x1, x2⟩ h
  have hP : min a b = x := congrArg Prod.fst h
  clear h
  go_enter Try.func49, Try.ntmps49
  go_wp2
  all_goals go_ret
  all_goals exact ⟨ret_32 (by omega), rfl⟩
theorem two_25 : Two 25 := by
  rintro a b x w ⟨a1, a2⟩ ⟨b1, b2⟩ ⟨x1, x2⟩ h
  have hP : max a b = x := congrArg Prod.fst h
  clear h
  go_enter Try.func49, Try.ntmps49
  go_wp2
  all_goals go_ret
  all_goals exact ⟨ret_32 (by omega), rfl⟩
theorem two_all {op : Int} (h : inB op 8 25 = true) : Two op := by
  have h := inB_iff.1 h
  rcases (show op = 8 ∨ op = 9 ∨ op = 10 ∨ op = 11 ∨ op = 12 ∨ op = 13 ∨ op = 14 ∨ op = 15 ∨ op = 16 ∨ op = 17 ∨ (op = 18 ∨ op = 19 ∨ op = 20 ∨ op = 21 ∨ op = 22 ∨ op = 23) ∨ op = 24 ∨ op = 25 by omega) with
    rfl | rfl | rfl | rfl | rfl | rfl | rfl | rfl | rfl | rfl | h1 | rfl | rfl
  · exact two_8
  · exact two_9
  · exact two_10
  · exact two_11
  · exact two_12
  · exact two_13
  · exact two_14
  · exact two_15
  · exact two_16
  · exact two_17
  · exact two_cmp op h1
  · exact two_24
  · exact two_25

theorem vthree_any (op k s a b c x : Int) (w : World) (ho : inB op 26 28 = true) (ha : w32 a) (hb : w32 b) (hc : w32 c) (hx : ex op k s a b c = (x, 0)) :
    Calls Try.prog 48 #[.int .i64 op, .int .i32 a, .int .i32 b, .int .i32 c] w fun e w' => e = .returned (.int .i32 x) ∧ w' = w := by
  have h := inB_iff.1 ho
  clear ho
  obtain ⟨a1, a2⟩ := ha
  obtain ⟨b1, b2⟩ := hb
  obtain ⟨c1, c2⟩ := hc
  rcases (show op = 26 ∨ op = 27 ∨ op = 28 by omega) with rfl | rfl | rfl
  · clear h
    have hP : min c (max a b) = x := congrArg Prod.fst hx
    clear hx
    go_enter Try.func48, Try.ntmps48
    go_wp2
    all_goals go_ret
    all_goals exact ⟨ret_32 (by omega), rfl⟩
  · clear h
    have hP : max (min a b) (min (max a b) c) = x := congrArg Prod.fst hx
    clear hx
    go_enter Try.func48, Try.ntmps48
    go_wp2
    all_goals go_ret
    all_goals exact ⟨ret_32 (by omega), rfl⟩
  · clear h
    by_cases h0 : a = 0
    · subst h0
      obtain rfl : c = x := by simpa [ex] using hx
      clear hx
      go_enter Try.func48, Try.ntmps48
      go_wp2
      go_ret
      exact ⟨rfl, rfl⟩
    · have h1 : (a != 0) = true := by simp [h0]
      obtain rfl : b = x := by simpa [ex, h0] using hx
      clear hx h0
      go_enter Try.func48, Try.ntmps48
      go_wp2
      go_ret
      exact ⟨rfl, rfl⟩

end Go.Proofs.Vmm

/-
  The machine's operators of one number.
-/
namespace Go.Proofs.Vmm
open Go.RowKit Go.IntWalk Ytihbhbeaihdgnaa.Knd
open Cde (In i0 ia has_new1)
open Vfy (w32)
open Ytihbhbeaihdgnaa.Spn (valZ ex mayB ar inB inB_iff wd wd_iff cons)
set_option linter.unusedVariables false

theorem compare_32 (a b : Int) (w : World) :
    Calls Try.prog 61 #[.int .i32 a, .int .i32 b] w fun e w' => e = .returned (.int .i64 (Ytihbhbeaihdgnaa.Spn.tr (decide (b < a)) - Ytihbhbeaihdgnaa.Spn.tr (decide (a < b)))) ∧ w' = w := by
  go_enter Try.func61, Try.ntmps61
  go_wp2
  all_goals go_ret
  all_goals refine ⟨ret_int ?_, rfl⟩
  all_goals simp [Ytihbhbeaihdgnaa.Spn.tr]
  all_goals omega
theorem vscaled_any (a k s x : Int) (w : World) (ha : w32 a) (hk : 1 ≤ k ∧ k ≤ 4611686018427387904) (hs : 0 ≤ s ∧ s ≤ 62) (hx : w32 x) (h : ex 33 k s a 0 0 = (x, 0)) :
    Calls Try.prog 62 #[.int .i32 a, .int .i64 k, .int .i64 s] w fun e w' => e = .returned (.int .i32 x) ∧ w' = w := by
  have h2 : ¬ 4611686018427387904 < max a (-a) * k := by
    intro h2
    simp [ex, h2] at h
  have h3 : a * k / 2 ^ s.toNat = x := by simpa [ex, h2] using h
  have h4 : a * k ≤ max a (-a) * k := Int.mul_le_mul_of_nonneg_right (by omega) (by omega)
  have h5 : -a * k ≤ max a (-a) * k := Int.mul_le_mul_of_nonneg_right (by omega) (by omega)
  rw [Int.neg_mul] at h5
  obtain ⟨P, hP⟩ : ∃ P, a * k = P := ⟨_, rfl⟩
  rw [hP] at h3 h4 h5
  generalize max a (-a) * k = M at *
  have b1 : -9223372036854775808 ≤ P := by omega
  have b2 : P ≤ 9223372036854775807 := by omega
  obtain ⟨x1, x2⟩ := hx
  obtain ⟨a1, a2⟩ := ha
  obtain ⟨k1, k2⟩ := hk
  obtain ⟨s1, s2⟩ := hs
  clear h h2 h4 h5
  go_enter Try.func62, Try.ntmps62
  go_wp2
  go_ret
  exact ⟨rfl, rfl⟩

set_option maxRecDepth 100000 in
set_option maxHeartbeats 4000000 in
theorem vone_any (n : In) (a x : Int) (w : World) (ho : ar n.op = 1) (hc : cons n.op n.k n.s = true) (ha : w32 a) (hx : w32 x) (h : ex n.op n.k n.s a 0 0 = (x, 0)) :
    Calls Try.prog 47 #[.agg (ia n), .int .i32 a] w fun e w' => e = .returned (.int .i32 x) ∧ Below w.heap.size w w' := by
  obtain ⟨op, na, nb, nc, k, s⟩ := n
  dsimp only at ho hc h
  obtain ⟨a1, a2⟩ := ha
  obtain ⟨x1, x2⟩ := hx
  have HB := hide (bel1 w (.cells (ia ⟨op, na, nb, nc, k, s⟩) 51))
  rcases Ytihbhbeaihdgnaa.Spn.one_cases ho with rfl | rfl | rfl | rfl | rfl | rfl | rfl | rfl <;> clear ho
  · have hP : -a = x := congrArg Prod.fst h
    clear h hc
    go_enter Try.func47, Try.ntmps47
    go_wp2
    go_ret
    exact ⟨ret_32 (by omega), HB.out⟩
  · have hP : max a (-a) = x := congrArg Prod.fst h
    clear h hc
    go_enter Try.func47, Try.ntmps47
    go_wp2
    all_goals go_ret
    all_goals exact ⟨ret_32 (by omega), HB.out⟩
  · have hP : Ytihbhbeaihdgnaa.Spn.tr (decide (0 < a)) - Ytihbhbeaihdgnaa.Spn.tr (decide (a < 0)) = x := congrArg Prod.fst h
    have HC := hide fun w => compare_32 a 0 w
    rw [hP] at HC
    clear h hc hP
    go_enter Try.func47, Try.ntmps47
    go_wp2_with (go_at_call 61; refine (HC.out _).mono ?_; rintro e w' ⟨rfl, rfl⟩)
    go_ret
    exact ⟨rfl, HB.out⟩
  · have hP : a * 2 ^ k.toNat = x := congrArg Prod.fst h
    have hk : inB k 0 31 = true := hc
    obtain ⟨c1, c2⟩ := inB_iff.1 hk
    clear h hc hk
    go_enter Try.func47, Try.ntmps47
    go_wp2
    go_ret
    exact ⟨rfl, HB.out⟩
  · have hP : a / 2 ^ k.toNat = x := congrArg Prod.fst h
    have hk : inB k 0 31 = true := hc
    obtain ⟨c1, c2⟩ := inB_iff.1 hk
    clear h hc hk
    go_enter Try.func47, Try.ntmps47
    go_wp2
    go_ret
    exact ⟨rfl, HB.out⟩
  · have hk : inB k 0 2147483647 = true := hc
    obtain ⟨c1, c2⟩ := inB_iff.1 hk
    have hP : bits .and .i32 a k = x := (and_32 ⟨a1, a2⟩ ⟨by omega, c2⟩).trans (congrArg Prod.fst h)
    clear h hc hk
    go_enter Try.func47, Try.ntmps47
    go_wp2
    go_ret
    exact ⟨rfl, HB.out⟩
  · have hP : a * k = x := congrArg Prod.fst h
    have hk : wd k = true := hc
    obtain ⟨c1, c2⟩ := wd_iff.1 hk
    clear h hc hk
    go_enter Try.func47, Try.ntmps47
    go_wp2
    go_ret
    exact ⟨rfl, HB.out⟩
  · have hk : (inB k 1 4611686018427387904 && inB s 0 62) = true := hc
    rw [Bool.and_eq_true, inB_iff, inB_iff] at hk
    have HC := hide fun w => vscaled_any a k s x w ⟨a1, a2⟩ hk.1 hk.2 ⟨x1, x2⟩ h
    clear h hc hk
    go_enter Try.func47, Try.ntmps47
    go_wp2_with (go_at_call 62; refine (HC.out _).mono ?_; rintro e w' ⟨rfl, rfl⟩)
    go_ret
    exact ⟨rfl, HB.out⟩

end Go.Proofs.Vmm

/-
  Pack, plainly (ahead of the code): the bytes of a code, and the code of bytes: each is read as it was written, and just that is read; cut short it is too short.
-/
import Derived.Test.YtphmamhchkolkaaMT0
namespace Go.Proofs.Pck
open Go.RowKit Go.IntWalk
open Ytphmamhchkolkaa.Oct (vb vint lim scn scan pw rdU rdI zz uz)
open Cde (In i0 agL arN okI okT mcB csB rgN rgs rgB)
set_option linter.unusedVariables false

/-- How a constant is written. -/
def hwZ (op : Int) : Int := if op = 1 ∨ op = 32 then 1 else if op = 2 ∨ op = 3 ∨ op = 29 ∨ op = 30 then 2 else if op = 31 then 3 else if op = 33 then 4 else 0
def enA (b : Bool) (i : Nat) (r : Int) : List Int := if b = true then vint ((i : Int) - 1 - r) else []
def enK (n : In) : List Int := if hwZ n.op = 1 then vint (zz n.k) else if hwZ n.op = 2 then [n.k] else if hwZ n.op = 3 then vint n.k else if hwZ n.op = 4 then vint n.k ++ [n.s] else []
def u0 (n : In) : Bool := decide (0 < Ytphmamhchkolkaa.Spn.ar n.op)
def u1 (n : In) : Bool := decide (1 < Ytphmamhchkolkaa.Spn.ar n.op)
def u2 (n : In) : Bool := decide (2 < Ytphmamhchkolkaa.Spn.ar n.op)
def enI (i : Nat) (n : In) : List Int := [n.op] ++ (enA (u0 n) i n.a ++ (enA (u1 n) i n.b ++ (enA (u2 n) i n.c ++ enK n)))
/-- The bytes of the first k instructions; of a code. -/
def enS (L : List In) (k : Nat) : List Int := (List.range k).flatMap fun i => enI i (L.getD i i0)
def enC (f d : Int) (L : List In) (out : Int) : List Int := [1] ++ ([f] ++ ([d] ++ (vint L.length ++ (enS L L.length ++ vint ((L.length : Int) - 1 - out)))))
theorem enS_succ (L : List In) (k : Nat) : enS L (k + 1) = enS L k ++ enI k (L.getD k i0) := by simp [enS, List.range_succ]

/-! ## Reading -/
def bck (t : Int) : Rd Int := bnd 0 nat fun x => tst 0 (decide (x ≤ t - 1)) 15 (ret (t - 1 - x))
def arg (b : Bool) (i : Nat) : Rd Int := if b = true then bck i else ret 0
def kon (op : Int) : Rd (Int × Int) :=
  if hwZ op = 1 then bnd (0, 0) num (fun k => ret (k, 0)) else if hwZ op = 2 then bnd (0, 0) byt (fun k => ret (k, 0)) else
  if hwZ op = 3 then bnd (0, 0) nat (fun k => ret (k, 0)) else if hwZ op = 4 then bnd (0, 0) nat (fun k => bnd (0, 0) byt fun s => ret (k, s)) else ret (0, 0)
def ins (i : Nat) : Rd In := bnd i0 byt fun op => bnd i0 (arg (decide (0 < Ytphmamhchkolkaa.Spn.ar op)) i) fun a => bnd i0 (arg (decide (1 < Ytphmamhchkolkaa.Spn.ar op)) i) fun b => bnd i0 (arg (decide (2 < Ytphmamhchkolkaa.Spn.ar op)) i) fun c => bnd i0 (kon op) fun ks => ret ⟨op, a, b, c, ks.1, ks.2⟩
def insS : Nat → Rd (List In)
  | 0 => ret []
  | k + 1 => bnd [] (insS k) fun L => bnd [] (ins k) fun n => ret (L ++ [n])
/-- A code: form, depth, instructions, answer. -/
abbrev C4 := Int × Int × List In × Int
def c0 : C4 := (0, 0, [], 0)
def coD : Rd C4 := bnd c0 byt fun v => tst c0 (v == 1) 3 (bnd c0 byt fun f => bnd c0 byt fun d => bnd c0 nat fun m => tst c0 (decide (1 ≤ m ∧ m ≤ 200)) 15 (bnd c0 (insS m.toNat) fun L => bnd c0 (bck m) fun out => ret (f, d, L, out)))
def deC (zs : List Int) : Int × C4 :=
  if 4096 < zs.length then (4, c0) else if (coD zs).1 ≠ 0 then ((coD zs).1, c0) else if (coD zs).2.2 ≠ [] then (5, c0) else
  if mcB (coD zs).2.1.1 (coD zs).2.1.2.1 (coD zs).2.1.2.2.1 (coD zs).2.1.2.2.2 = true then (0, (coD zs).2.1) else (15, c0)

/-! ## What is written is read -/
theorem Wr.cast {α : Type} {p : Rd α} {w w' : List Int} {x : α} (h : Wr p w x) (e : w = w') : Wr p w' x := e ▸ h
theorem Wr.end {α β : Type} {z : β} {p : Rd α} {w : List Int} {x : α} {g : α → β} (h : Wr p w x) : Wr (Pck.bnd z p fun a => Pck.ret (g a)) w (g x) := (h.bnd (Wr.ret (g x))).cast (List.append_nil w)
theorem wr_bck {t r : Int} (h0 : 0 ≤ r) (h1 : r ≤ t - 1) (ht : t ≤ 1000) : Wr (bck t) (vint (t - 1 - r)) r := by
  have hn : Wr nat (vint (t - 1 - r)) (t - 1 - r) := Wr.nat (by omega) (by omega)
  have hq : Wr (Pck.tst 0 (decide (t - 1 - r ≤ t - 1)) 15 (Pck.ret (t - 1 - (t - 1 - r)))) [] r := by
    refine Wr.tst (by simp; omega) ?_
    have := Wr.ret (t - 1 - (t - 1 - r))
    rwa [show t - 1 - (t - 1 - r) = r by omega] at this ⊢
  exact (hn.bnd hq).cast (List.append_nil _)
theorem wr_arg {b : Bool} {i : Nat} {r : Int} (h : rgB r b i = true) (hi : i ≤ 1000) : Wr (arg b i) (enA b i r) r := by
  unfold rgB at h
  unfold arg enA
  cases b with
  | false =>
    simp only [Bool.false_eq_true, if_false, beq_iff_eq] at h ⊢
    subst h
    exact Wr.ret 0
  | true =>
    simp only [if_true, Ytphmamhchkolkaa.Spn.inB_iff] at h ⊢
    exact wr_bck h.1 h.2 (by omega)
theorem hw_cases {n : In} (h : csB n = true) : (hwZ n.op = 1 ∧ -2147483648 ≤ n.k ∧ n.k ≤ 2147483647 ∧ n.s = 0) ∨ (hwZ n.op = 2 ∧ 0 ≤ n.k ∧ n.k ≤ 255 ∧ n.s = 0) ∨ (hwZ n.op = 3 ∧ 0 ≤ n.k ∧ n.k ≤ 2147483647 ∧ n.s = 0) ∨ (hwZ n.op = 4 ∧ 0 ≤ n.k ∧ n.k ≤ 4611686018427387904 ∧ 0 ≤ n.s ∧ n.s ≤ 62) ∨ (hwZ n.op = 0 ∧ n.k = 0 ∧ n.s = 0) := by
  unfold csB at h
  unfold hwZ
  by_cases h1 : n.op = 1
  · rw [if_pos h1] at h
    simp only [Bool.and_eq_true, beq_iff_eq, Ytphmamhchkolkaa.Spn.wd_iff] at h
    exact .inl ⟨by rw [if_pos (.inl h1)], by omega, by omega, h.2⟩
  rw [if_neg h1] at h
  by_cases h2 : n.op = 2
  · rw [if_pos h2] at h
    simp only [Bool.and_eq_true, beq_iff_eq, Ytphmamhchkolkaa.Spn.inB_iff] at h
    exact .inr (.inl ⟨by rw [if_neg (by omega), if_pos (by omega)], by omega, by omega, h.2⟩)
  rw [if_neg h2] at h
  by_cases h3 : n.op = 3
  · rw [if_pos h3] at h
    simp only [Bool.and_eq_true, beq_iff_eq, Ytphmamhchkolkaa.Spn.inB_iff] at h
    exact .inr (.inl ⟨by rw [if_neg (by omega), if_pos (by omega)], by omega, by omega, h.2⟩)
  rw [if_neg h3] at h
  by_cases h4 : n.op = 29 ∨ n.op = 30 ∨ n.op = 31 ∨ n.op = 32
  · rw [if_pos h4] at h
    simp only [Bool.and_eq_true, beq_iff_eq] at h
    obtain ⟨hc, hs⟩ := h
    unfold Ytphmamhchkolkaa.Spn.cons at hc
    rcases h4 with e | e | e | e
    · rw [if_pos (by omega), Ytphmamhchkolkaa.Spn.inB_iff] at hc
      exact .inr (.inl ⟨by rw [if_neg (by omega), if_pos (by omega)], by omega, by omega, hs⟩)
    · rw [if_pos (by omega), Ytphmamhchkolkaa.Spn.inB_iff] at hc
      exact .inr (.inl ⟨by rw [if_neg (by omega), if_pos (by omega)], by omega, by omega, hs⟩)
    · rw [if_neg (by omega), if_pos e, Ytphmamhchkolkaa.Spn.inB_iff] at hc
      exact .inr (.inr (.inl ⟨by rw [if_neg (by omega), if_neg (by omega), if_pos e], by omega, by omega, hs⟩))
    · rw [if_neg (by omega), if_neg (by omega), if_pos e, Ytphmamhchkolkaa.Spn.wd_iff] at hc
      exact .inl ⟨by rw [if_pos (by omega)], by omega, by omega, hs⟩
  rw [if_neg h4] at h
  by_cases h5 : n.op = 33
  · rw [if_pos h5] at h
    unfold Ytphmamhchkolkaa.Spn.cons at h
    rw [if_neg (by omega), if_neg (by omega), if_neg (by omega), if_pos h5] at h
    simp only [Bool.and_eq_true, Ytphmamhchkolkaa.Spn.inB_iff] at h
    exact .inr (.inr (.inr (.inl ⟨by rw [if_neg (by omega), if_neg (by omega), if_neg (by omega), if_pos h5], by omega, by omega, by omega, by omega⟩)))
  rw [if_neg h5] at h
  simp only [Bool.and_eq_true, beq_iff_eq] at h
  exact .inr (.inr (.inr (.inr ⟨by rw [if_neg (by omega), if_neg (by omega), if_neg (by omega), if_neg h5], h.1, h.2⟩)))
theorem wr_kon {n : In} (h : csB n = true) : Wr (kon n.op) (enK n) (n.k, n.s) := by
  rcases hw_cases h with ⟨e, a, b, c⟩ | ⟨e, a, b, c⟩ | ⟨e, a, b, c⟩ | ⟨e, a, b, c, d⟩ | ⟨e, a, b⟩
  · rw [show kon n.op = Pck.bnd (0, 0) num (fun k => Pck.ret (k, 0)) by simp [kon, e], show enK n = vint (zz n.k) by simp [enK, e], c]
    exact (Wr.num (by omega) (by omega)).end
  · rw [show kon n.op = Pck.bnd (0, 0) byt (fun k => Pck.ret (k, 0)) by simp [kon, e], show enK n = [n.k] by simp [enK, e], c]
    exact (Wr.byt n.k).end
  · rw [show kon n.op = Pck.bnd (0, 0) nat (fun k => Pck.ret (k, 0)) by simp [kon, e], show enK n = vint n.k by simp [enK, e], c]
    exact (Wr.nat (by omega) (by omega)).end
  · rw [show kon n.op = Pck.bnd (0, 0) nat (fun k => Pck.bnd (0, 0) byt fun s => Pck.ret (k, s)) by simp [kon, e], show enK n = vint n.k ++ [n.s] by simp [enK, e]]
    exact (Wr.nat (by omega) (by omega)).bnd (Wr.byt n.s).end
  · rw [show kon n.op = Pck.ret (0, 0) by simp [kon, e], show enK n = [] by simp [enK, e], a, b]
    exact Wr.ret (0, 0)
theorem wr_ins {n : In} {i : Nat} (h : okI n i = true) (hi : i ≤ 1000) : Wr (ins i) (enI i n) n := by
  have hc := Cde.ok_con h
  simp only [okI, rgs, Bool.and_eq_true] at h
  obtain ⟨⟨-, ⟨ha, hb⟩, hcc⟩, -⟩ := h
  unfold ins enI
  exact (Wr.byt n.op).bnd ((wr_arg ha hi).bnd ((wr_arg hb hi).bnd ((wr_arg hcc hi).bnd (wr_kon hc).end)))
theorem wr_insS {L : List In} (h : okT L L.length = true) (hl : L.length ≤ 200) : ∀ k, k ≤ L.length → Wr (insS k) (enS L k) (L.take k)
  | 0, _ => by simpa [enS, insS] using Wr.ret ([] : List In)
  | k + 1, hk => by
    have ih := wr_insS h hl k (by omega)
    rw [enS_succ, Cde.take_snoc i0 (by omega)]
    exact ih.bnd (wr_ins (Cde.okT_at h (by omega)) (by omega)).end
theorem wr_code {f d : Int} {L : List In} {out : Int} (h : mcB f d L out = true) : Wr coD (enC f d L out) (f, d, L, out) := by
  obtain ⟨-, h1, h2, h3, h4, ho⟩ := Cde.mc_parts h
  have hS := wr_insS ho (by omega) L.length (Nat.le_refl _)
  rw [List.take_length] at hS
  have hB : Wr (bck (L.length : Int)) (vint ((L.length : Int) - 1 - out)) out := wr_bck h3 (by omega) (by omega)
  unfold coD enC
  refine (Wr.byt 1).bnd (Wr.tst rfl ((Wr.byt f).bnd ((Wr.byt d).bnd ((Wr.nat (x := (L.length : Int)) (by omega) (by omega)).bnd (Wr.tst (by simp; omega) ?_)))))
  rw [Int.toNat_natCast]
  exact hS.bnd hB.end

/-! ## Just that is read -/
theorem bck_one {t r : Int} {zs rs : List Int} (hb : Byts zs) (h : bck t zs = (0, r, rs)) : zs = vint (t - 1 - r) ++ rs ∧ 0 ≤ t - 1 - r ∧ 0 ≤ r ∧ Byts rs := by
  obtain ⟨x, r', h1, h2⟩ := bnd_ok h
  obtain ⟨h3, h4⟩ := tst_ok (by decide) h2
  obtain ⟨e1, e2, e3, e4⟩ := nat_one hb h1
  simp only [ret, Prod.mk.injEq, true_and] at h4
  obtain ⟨rfl, rfl⟩ := h4
  have : x ≤ t - 1 := by simpa using h3
  rw [show t - 1 - (t - 1 - x) = x by omega]
  exact ⟨e1, e2, by omega, e4⟩
theorem arg_one {b : Bool} {i : Nat} {r : Int} {zs rs : List Int} (hb : Byts zs) (h : arg b i zs = (0, r, rs)) : zs = enA b i r ++ rs ∧ Byts rs := by
  unfold arg at h
  unfold enA
  cases b with
  | false =>
    simp only [Bool.false_eq_true, if_false, ret, Prod.mk.injEq, true_and] at h ⊢
    obtain ⟨rfl, rfl⟩ := h
    exact ⟨rfl, hb⟩
  | true =>
    simp only [if_true] at h ⊢
    obtain ⟨e, -, -, e4⟩ := bck_one hb h
    exact ⟨e, e4⟩
theorem hw_five (op : Int) : hwZ op = 1 ∨ hwZ op = 2 ∨ hwZ op = 3 ∨ hwZ op = 4 ∨ hwZ op = 0 := by
  unfold hwZ
  repeat' split
  all_goals simp
theorem kon_one {op a b c k s : Int} {zs rs : List Int} (hb : Byts zs) (h : kon op zs = (0, (k, s), rs)) : zs = enK ⟨op, a, b, c, k, s⟩ ++ rs ∧ Byts rs := by
  unfold kon at h
  unfold enK
  dsimp only
  rcases hw_five op with e | e | e | e | e
  · rw [if_pos e] at h ⊢
    obtain ⟨x, r', h1, h2⟩ := bnd_ok h
    obtain ⟨e1, -, -, e4⟩ := num_one hb h1
    simp only [ret, Prod.mk.injEq, true_and] at h2
    obtain ⟨⟨rfl, -⟩, rfl⟩ := h2
    exact ⟨e1, e4⟩
  · rw [if_neg (by omega), if_pos e] at h ⊢
    obtain ⟨x, r', h1, h2⟩ := bnd_ok h
    obtain ⟨e1, -, -, e4⟩ := byt_one hb h1
    simp only [ret, Prod.mk.injEq, true_and] at h2
    obtain ⟨⟨rfl, -⟩, rfl⟩ := h2
    exact ⟨e1, e4⟩
  · rw [if_neg (by omega), if_neg (by omega), if_pos e] at h ⊢
    obtain ⟨x, r', h1, h2⟩ := bnd_ok h
    obtain ⟨e1, -, -, e4⟩ := nat_one hb h1
    simp only [ret, Prod.mk.injEq, true_and] at h2
    obtain ⟨⟨rfl, -⟩, rfl⟩ := h2
    exact ⟨e1, e4⟩
  · rw [if_neg (by omega), if_neg (by omega), if_neg (by omega), if_pos e] at h ⊢
    obtain ⟨x, r', h1, h2⟩ := bnd_ok h
    obtain ⟨y, r2, h3, h4⟩ := bnd_ok h2
    obtain ⟨e1, -, -, e4⟩ := nat_one hb h1
    obtain ⟨f1, -, -, f4⟩ := byt_one e4 h3
    simp only [ret, Prod.mk.injEq, true_and] at h4
    obtain ⟨⟨rfl, rfl⟩, rfl⟩ := h4
    exact ⟨by rw [e1, f1, List.append_assoc], f4⟩
  · rw [if_neg (by omega), if_neg (by omega), if_neg (by omega), if_neg (by omega)] at h ⊢
    simp only [ret, Prod.mk.injEq, true_and] at h
    obtain ⟨-, rfl⟩ := h
    exact ⟨rfl, hb⟩
theorem ins_one {i : Nat} {n : In} {zs rs : List Int} (hb : Byts zs) (h : ins i zs = (0, n, rs)) : zs = enI i n ++ rs ∧ Byts rs := by
  obtain ⟨op, r1, h1, q1⟩ := bnd_ok h
  obtain ⟨a, r2, h2, q2⟩ := bnd_ok q1
  obtain ⟨b, r3, h3, q3⟩ := bnd_ok q2
  obtain ⟨c, r4, h4, q4⟩ := bnd_ok q3
  obtain ⟨⟨k, s⟩, r5, h5, q5⟩ := bnd_ok q4
  simp only [ret, Prod.mk.injEq, true_and] at q5
  obtain ⟨rfl, rfl⟩ := q5
  obtain ⟨e1, -, -, b1⟩ := byt_one hb h1
  obtain ⟨e2, b2⟩ := arg_one b1 h2
  obtain ⟨e3, b3⟩ := arg_one b2 h3
  obtain ⟨e4, b4⟩ := arg_one b3 h4
  obtain ⟨e5, b5⟩ := kon_one (a := a) (b := b) (c := c) b4 h5
  refine ⟨?_, b5⟩
  rw [e1, e2, e3, e4, e5]
  simp only [enI, u0, u1, u2, List.append_assoc]
theorem insS_one : ∀ (k : Nat) {L : List In} {zs rs : List Int}, Byts zs → insS k zs = (0, L, rs) → L.length = k ∧ zs = enS L k ++ rs ∧ Byts rs
  | 0, L, zs, rs, hb, h => by
    simp only [insS, ret, Prod.mk.injEq, true_and] at h
    obtain ⟨rfl, rfl⟩ := h
    exact ⟨rfl, rfl, hb⟩
  | k + 1, L, zs, rs, hb, h => by
    obtain ⟨M, r1, h1, q1⟩ := bnd_ok h
    obtain ⟨n, r2, h2, q2⟩ := bnd_ok q1
    simp only [ret, Prod.mk.injEq, true_and] at q2
    obtain ⟨rfl, rfl⟩ := q2
    obtain ⟨l1, e1, b1⟩ := insS_one k hb h1
    obtain ⟨e2, b2⟩ := ins_one b1 h2
    refine ⟨by simp [l1], ?_, b2⟩
    have hg : (M ++ [n]).getD k i0 = n := by rw [List.getD_eq_getElem?_getD, ← l1]; simp
    have hs : enS (M ++ [n]) k = enS M k := by
      unfold enS List.flatMap
      congr 1
      apply List.map_congr_left
      intro i hi
      have : i < M.length := by rw [l1]; exact List.mem_range.1 hi
      rw [List.getD_eq_getElem?_getD, List.getElem?_append_left this, ← List.getD_eq_getElem?_getD]
    rw [enS_succ, hs, hg, e1, e2, List.append_assoc]
theorem code_one {f d : Int} {L : List In} {out : Int} {zs rs : List Int} (hb : Byts zs) (h : coD zs = (0, (f, d, L, out), rs)) : zs = enC f d L out ++ rs := by
  obtain ⟨v, r1, h1, q1⟩ := bnd_ok h
  obtain ⟨hv, q1⟩ := tst_ok (by decide) q1
  obtain ⟨f', r2, h2, q2⟩ := bnd_ok q1
  obtain ⟨d', r3, h3, q3⟩ := bnd_ok q2
  obtain ⟨m, r4, h4, q4⟩ := bnd_ok q3
  obtain ⟨hm, q4⟩ := tst_ok (by decide) q4
  obtain ⟨L', r5, h5, q5⟩ := bnd_ok q4
  obtain ⟨o', r6, h6, q6⟩ := bnd_ok q5
  simp only [ret, Prod.mk.injEq, true_and] at q6
  obtain ⟨⟨rfl, rfl, rfl, rfl⟩, rfl⟩ := q6
  obtain ⟨e1, -, -, b1⟩ := byt_one hb h1
  obtain ⟨e2, -, -, b2⟩ := byt_one b1 h2
  obtain ⟨e3, -, -, b3⟩ := byt_one b2 h3
  obtain ⟨e4, m0, -, b4⟩ := nat_one b3 h4
  obtain ⟨l5, e5, b5⟩ := insS_one m.toNat b4 h5
  obtain ⟨e6, -, -, -⟩ := bck_one b5 h6
  have hml : m = (L'.length : Int) := by omega
  have hv1 : v = 1 := by simpa using hv
  subst hv1
  rw [e1, e2, e3, e4, e5, e6, hml, Int.toNat_natCast]
  simp only [enC, List.append_assoc]

end Go.Proofs.Pck

/-
  pack's reader reads an instruction.
-/
import Derived.Test.YtphmamhchkolkaaMN1
import Derived.Test.YtphmamhchkolkaaMCdB3
import Derived.Deep.RegionHeld3
namespace Go.Proofs.Pck
open Ytphmamhchkolkaa
open Go.RowKit Go.IntWalk Ytphmamhchkolkaa.Knd
open Ytphmamhchkolkaa.Oct (vb vint lim scn scan pw rdU rdI zz uz)
open Cde (In i0 ia agL arN okI okT mcB csB rgN rgs rgB abc zA six_of at6 ar_five cargs_any has_new1 below_drew)
set_option linter.unusedVariables false

abbrev iz : Array Value := #[.int .i64 0, .int .i64 0, .int .i64 0, .int .i64 0, .int .i64 0, .int .i64 0]
theorem bnd_ret {α β : Type} (z : β) (x : α) (f : α → Rd β) : bnd z (ret x) f = f x := rfl
theorem bnd_assoc {α β γ : Type} (z : γ) (z' : β) (p : Rd α) (f : α → Rd β) (k : β → Rd γ) : bnd z (bnd z' p f) k = bnd z p fun x => bnd z (f x) k := by
  funext zs
  unfold bnd
  by_cases h : (p zs).1 = 0
  · simp only [if_pos h]
  · simp only [if_neg h]
/-- Registers, read one by one. -/
def regs (i : Int) : Nat → Rd (List Int)
  | 0 => ret []
  | k + 1 => bnd [] (regs i k) fun D => bnd [] (bck i) fun x => ret (D ++ [x])
/-- How many registers an operator reads. -/
def arO (op : Int) : Nat := (Spn.ar op).toNat
def inK (op : Int) (D : List Int) : Rd In := bnd i0 (kon op) fun ks => ret ⟨op, D.getD 0 0, D.getD 1 0, D.getD 2 0, ks.1, ks.2⟩
theorem ins_regs (i : Nat) : ins i = bnd i0 byt fun op => bnd i0 (regs i (arO op)) (inK op) := by
  unfold ins
  congr 1
  funext op
  unfold arg arO inK
  rcases ar_five op with h | h | h | h | h <;> rw [h] <;> simp [regs, bnd_ret, bnd_assoc]

/-- A call of the reader has come so far: what it reads, what it keeps. -/
structure Rs (W V : World) (q r g : Nat) (e : Int) (zs : List Int) : Prop where
  rp : Rp V q r g e zs
  ks : Ocm.Keeps W V (Qr q r)
  lt : q < W.heap.size ∧ r < W.heap.size
theorem Rs.start {W : World} {q r g : Nat} {e : Int} {zs : List Int} (h : Rp W q r g e zs) : Rs W W q r g e zs := ⟨h, Ocm.Keeps.refl _ _, h.box.lt, h.rd.lt.2⟩
theorem Rs.below {W V V' : World} {q r g : Nat} {e : Int} {zs : List Int} (h : Rs W V q r g e zs) (hb : Below V.heap.size V V') : Rs W V' q r g e zs := ⟨h.rp.below hb, Keeps.trans h.ks (Keeps.of_below hb), h.lt⟩
theorem Rs.go {W V V' : World} {q r g : Nat} {e e' : Int} {zs zs' : List Int} (h : Rs W V q r g e zs) (k : Rp V' q r g e' zs') (hk : Ocm.Keeps V V' (Qr q r)) : Rs W V' q r g e' zs' := ⟨k, Keeps.trans h.ks hk, h.lt⟩
theorem Rs.has {W V V' : World} {q r g b : Nat} {e : Int} {zs : List Int} {t : TypeId} {cs : Array Value} (h : Rs W V q r g e zs) (hc : HasC V b t cs) (hb : W.heap.size ≤ b) (hk : Ocm.Keeps V V' (Qr q r)) : HasC V' b t cs :=
  Keeps.has hk hc (by have := h.lt; rintro (h1 | h1) <;> omega)
/-- A store into a block of the call's own. -/
theorem Rs.set {W V : World} {q r g b i : Nat} {e : Int} {zs : List Int} (h : Rs W V q r g e zs) (hb : W.heap.size ≤ b) (hg : g < W.heap.size) (x : Value) : Rs W (V.setCell ⟨b, i, none⟩ x) q r g e zs := by
  have hk : Ocm.Keeps V (V.setCell ⟨b, i, none⟩ x) (fun k => k = b) := (Ocm.Keeps.refl V _).grown (Ocm.grownBy_setCell V ⟨b, i, none⟩ x) fun k hk => by cases hk; exact .inl rfl
  refine ⟨h.rp.keeps hk (by have := h.lt.1; omega) (by have := h.lt.2; omega) (by omega), ?_, h.lt⟩
  exact h.ks.grown (Ocm.grownBy_setCell V ⟨b, i, none⟩ x) fun k hk => by cases hk; exact .inr hb

abbrev pA (B : Nat) : Array Value := #[.pointer (some ⟨B, 1, none⟩), .pointer (some ⟨B, 2, none⟩), .pointer (some ⟨B, 3, none⟩)]
theorem pA_at (B : Nat) : ∀ k, k < 3 → (pA B)[k]? = some (.pointer (some ⟨B, k + 1, none⟩))
  | 0, _ => rfl
  | 1, _ => rfl
  | 2, _ => rfl
  | k + 3, h => by omega
abbrev nD (op : Int) (D : List Int) (k s : Int) : In := ⟨op, D.getD 0 0, D.getD 1 0, D.getD 2 0, k, s⟩
theorem nD_set (op x : Int) : ∀ (D : List Int) (k : Nat), D.length = k → k < 3 → (ia (nD op D 0 0)).setIfInBounds (k + 1) (.int .i64 x) = ia (nD op (D ++ [x]) 0 0)
  | [], k, h, _ => by subst h; rfl
  | [a], k, h, _ => by subst h; rfl
  | [a, b], k, h, _ => by subst h; rfl
  | a :: b :: c :: D, k, h, h3 => by simp at h; omega
theorem nD_get (op : Int) (D : List Int) (k : Nat) (h : k < 3) : (ia (nD op D 0 0))[k + 1]? = some (.int .i64 (D.getD k 0)) := by
  match k, h with
  | 0, _ => rfl
  | 1, _ => rfl
  | 2, _ => rfl

theorem regs_step {i : Int} {k : Nat} {e1 e2 e3 x : Int} {z1 z2 z3 D : List Int} (h : Out (regs i k) e1 z1 D e2 z2) (h' : Out (bck i) e2 z2 x e3 z3) : Out (regs i (k + 1)) e1 z1 (D ++ [x]) e3 z3 :=
  h.bnd (z := []) (f := fun D => bnd [] (bck i) fun x => ret (D ++ [x])) h'.map
theorem ins_out {i : Nat} {e e1 e2 e3 op kk ss : Int} {zs z1 z2 z3 D : List Int} (h0 : Out byt e zs op e1 z1) (h1 : Out (regs i (arO op)) e1 z1 D e2 z2) (h2 : Out (kon op) e2 z2 (kk, ss) e3 z3) : Out (ins i) e zs (nD op D kk ss) e3 z3 := by
  rw [ins_regs]
  exact h0.bnd (f := fun op => bnd i0 (regs i (arO op)) (inK op)) (h1.bnd (f := inK op) (h2.bnd (z := i0) (f := fun (ks : Int × Int) => ret (⟨op, D.getD 0 0, D.getD 1 0, D.getD 2 0, ks.1, ks.2⟩ : In)) (Out.ret _ _ _)))
theorem hw_zero {op : Int} (h : hwZ op = 0) : (op == 1) = false ∧ (op == 32) = false ∧ (op == 2) = false ∧ (op == 3) = false ∧ (op == 29) = false ∧ (op == 30) = false ∧ (op == 31) = false ∧ (op == 33) = false := by
  unfold hwZ at h
  simp only [beq_eq_false_iff_ne]
  refine ⟨?_, ?_, ?_, ?_, ?_, ?_, ?_, ?_⟩ <;> (rintro rfl; simp at h)
theorem hw_one {op : Int} (h : hwZ op = 1) : op = 1 ∨ op = 32 := by unfold hwZ at h; (repeat' split at h); all_goals first | assumption | (exact absurd h (by decide))
theorem hw_two {op : Int} (h : hwZ op = 2) : op = 2 ∨ op = 3 ∨ op = 29 ∨ op = 30 := by unfold hwZ at h; (repeat' split at h); all_goals first | assumption | (exact absurd h (by decide))
theorem hw_thr {op : Int} (h : hwZ op = 3) : op = 31 := by unfold hwZ at h; (repeat' split at h); all_goals first | assumption | (exact absurd h (by decide))
theorem hw_fou {op : Int} (h : hwZ op = 4) : op = 33 := by unfold hwZ at h; (repeat' split at h); all_goals first | assumption | (exact absurd h (by decide))
theorem kon_1 {op e2 e3 x : Int} {z2 z3 : List Int} (h : hwZ op = 1) (k : Out num e2 z2 x e3 z3) : Out (kon op) e2 z2 (x, 0) e3 z3 := by
  rw [show kon op = bnd (0, 0) num (fun k => ret (k, 0)) by simp [kon, h]]
  exact k.map
theorem kon_2 {op e2 e3 x : Int} {z2 z3 : List Int} (h : hwZ op = 2) (k : Out byt e2 z2 x e3 z3) : Out (kon op) e2 z2 (x, 0) e3 z3 := by
  rw [show kon op = bnd (0, 0) byt (fun k => ret (k, 0)) by simp [kon, h]]
  exact k.map
theorem kon_3 {op e2 e3 x : Int} {z2 z3 : List Int} (h : hwZ op = 3) (k : Out nat e2 z2 x e3 z3) : Out (kon op) e2 z2 (x, 0) e3 z3 := by
  rw [show kon op = bnd (0, 0) nat (fun k => ret (k, 0)) by simp [kon, h]]
  exact k.map
theorem kon_4 {op e2 e3 e4 x s : Int} {z2 z3 z4 : List Int} (h : hwZ op = 4) (k : Out nat e2 z2 x e3 z3) (k2 : Out byt e3 z3 s e4 z4) : Out (kon op) e2 z2 (x, s) e4 z4 := by
  rw [show kon op = bnd (0, 0) nat (fun k => bnd (0, 0) byt fun s => ret (k, s)) by simp [kon, h]]
  exact k.bnd (f := fun k => bnd (0, 0) byt fun s => ret (k, s)) k2.map
theorem kon_0 {op e2 : Int} {z2 : List Int} (h : hwZ op = 0) : Out (kon op) e2 z2 (0, 0) e2 z2 := by
  rw [show kon op = ret (0, 0) by simp [kon, h]]
  exact Out.ret _ _ _
/-- The answer is laid into its box. -/
theorem put_six {W V : World} {q r g A : Nat} {e : Int} {zs : List Int} {t : TypeId} (hR : Rs W V q r g e zs) (hA : HasC V A t iz) (hb : W.heap.size ≤ A) (hg : g < W.heap.size) (o a b c k s : Int) :
    HasC ((((((V.setCell ⟨A, 0, none⟩ (.int .i64 o)).setCell ⟨A, 1, none⟩ (.int .i64 a)).setCell ⟨A, 2, none⟩ (.int .i64 b)).setCell ⟨A, 3, none⟩ (.int .i64 c)).setCell ⟨A, 4, none⟩ (.int .i64 k)).setCell ⟨A, 5, none⟩ (.int .i64 s)) A t (ia ⟨o, a, b, c, k, s⟩) ∧
    Rs W ((((((V.setCell ⟨A, 0, none⟩ (.int .i64 o)).setCell ⟨A, 1, none⟩ (.int .i64 a)).setCell ⟨A, 2, none⟩ (.int .i64 b)).setCell ⟨A, 3, none⟩ (.int .i64 c)).setCell ⟨A, 4, none⟩ (.int .i64 k)).setCell ⟨A, 5, none⟩ (.int .i64 s)) q r g e zs :=
  ⟨(((((hA.set 0 (.int .i64 o)).set 1 (.int .i64 a)).set 2 (.int .i64 b)).set 3 (.int .i64 c)).set 4 (.int .i64 k)).set 5 (.int .i64 s),
    (((((hR.set hb hg _).set hb hg _).set hb hg _).set hb hg _).set hb hg _).set hb hg _⟩
theorem six_fr {W : World} {b : Nat} {t : TypeId} {cs : Array Value} (h : HasC W b t cs) : W.frozen? ⟨b, 0, none⟩ = false ∧ W.frozen? ⟨b, 1, none⟩ = false ∧ W.frozen? ⟨b, 2, none⟩ = false ∧ W.frozen? ⟨b, 3, none⟩ = false ∧ W.frozen? ⟨b, 4, none⟩ = false ∧ W.frozen? ⟨b, 5, none⟩ = false :=
  ⟨h.frozen 0, h.frozen 1, h.frozen 2, h.frozen 3, h.frozen 4, h.frozen 5⟩
theorem six_z {W : World} {b : Nat} {t : TypeId} (h : HasC W b t iz) : W.cell? ⟨b, 0, none⟩ = some (.int .i64 0) ∧ W.cell? ⟨b, 1, none⟩ = some (.int .i64 0) ∧ W.cell? ⟨b, 2, none⟩ = some (.int .i64 0) ∧ W.cell? ⟨b, 3, none⟩ = some (.int .i64 0) ∧ W.cell? ⟨b, 4, none⟩ = some (.int .i64 0) ∧ W.cell? ⟨b, 5, none⟩ = some (.int .i64 0) :=
  ⟨h.cell 0 rfl, h.cell 1 rfl, h.cell 2 rfl, h.cell 3 rfl, h.cell 4 rfl, h.cell 5 rfl⟩

/-- What inst answers. -/
def InP (i : Nat) (W : World) (q r g : Nat) (e : Int) (zs : List Int) (en : Ending) (w' : World) : Prop := ∃ n e' zs', en = .returned (.agg (ia n)) ∧ Rp w' q r g e' zs' ∧ Ocm.Keeps W w' (Qr q r) ∧ Out (ins i) e zs n e' zs'
theorem InP.mk {i : Nat} {W w' : World} {q r g : Nat} {e e' : Int} {zs zs' : List Int} {n : In} (h : Rs W w' q r g e' zs') (ho : Out (ins i) e zs n e' zs') : InP i W q r g e zs (.returned (.agg (ia n))) w' := ⟨_, _, _, rfl, h.rp, h.ks, ho⟩
set_option maxRecDepth 100000 in
theorem inst_res {W : World} {tm : Array Value} {A : Nat} {n : In} (h : HasC W A 51 (ia n)) (ht : tm.getD 4 undef = pt A) : (results Try.f58 tm).run Try.prog W = .ok (.agg (ia n)) W := by
  obtain ⟨p0, p1, p2, p3, p4, p5⟩ := six_of h
  simp only [Nat.zero_add] at p1 p2 p3 p4 p5
  have ht' : tm[4]?.getD undef = pt A := by rw [← ht]; simp
  simp [results, Try.results58, go_sem, ht', p0, p1, p2, p3, p4, p5]
set_option maxRecDepth 100000 in
set_option maxHeartbeats 4000000 in
theorem inst_any (i : Nat) (hi : i ≤ 1000) {W : World} {q r g : Nat} {e : Int} {zs : List Int} (h : Rp W q r g e zs) :
    Calls Try.prog 58 #[pt q, .int .i64 i] W (InP i W q r g e zs) := by
  have hmf : ∀ (fn : Fn) (first cap : Array Value) (w : World), (Instr.makeFunc fn first cap).run Try.prog w = .ok (.func fn first cap) w := fun _ _ _ _ => rfl
  have HS := hide (Rs.start h)
  have hgl := h.rd.lt.1
  have HS1 := hide (HS.out.below (bel1 W (.cells iz 51)))
  have HA1 := hide (HasC.new W 51 iz)
  have c0 := HS1.out.rp.box.cell 0 rfl
  have HT := hide ((take_byte HS1.out.rp).mono fun en w' hh => hh.out)
  clear h
  go_enter Try.func58, Try.ntmps58
  go_wp2_with fail
  refine HT.out.mono ?_
  rintro en w1 ⟨op, e1, z1, rfl, hR, hK, hO, -⟩
  have HA := hide (HS1.out.has HA1.out (Nat.le_refl _) hK)
  have HS2 := hide (HS1.out.go hR hK)
  have HO := hide hO
  clear hR hK hO HT c0 HS1 HA1
  go_wp2_with fail
  have HB1 := hide ((HasC.new w1 51 (ia (nD op [] 0 0))).alloc (.cells (pA w1.heap.size) 95))
  have HC1 := hide (has_new1 w1 (.cells (ia (nD op [] 0 0)) 51) 95 (pA w1.heap.size))
  have HAA := hide ((HA.out.alloc (.cells (ia (nD op [] 0 0)) 51)).alloc (.cells (pA w1.heap.size) 95))
  have HS3 := hide ((HS2.out.below (bel1 w1 (.cells (ia (nD op [] 0 0)) 51))).below (bel1 (w1.alloc (.cells (ia (nD op [] 0 0)) 51)) (.cells (pA w1.heap.size) 95)))
  have hAB := HA.out.lt
  obtain ⟨B, hB⟩ : ∃ B, w1.heap.size = B := ⟨_, rfl⟩
  rw [hB] at HB1 HC1 HAA HS3 hAB ⊢
  refine (cargs_any (nD op [] 0 0) _).mono ?_
  rintro en w2 ⟨rfl, -, hb⟩
  have HB2 := hide (HB1.out.below hb)
  have HC2 := hide (HC1.out.below hb)
  have HA2 := hide (HAA.out.below hb)
  have HS4 := hide (HS3.out.below hb)
  rw [show arN (nD op [] 0 0) = arO op from rfl]
  have hm3 : arO op ≤ 3 := by have := Spn.ar_le op; unfold arO; omega
  obtain ⟨m, hm⟩ : ∃ m, arO op = m := ⟨_, rfl⟩
  rw [hm] at hm3 ⊢
  have HM := hide hm
  clear hb HB1 HC1 HAA HS3 HA HS2 hm hB
  go_wp2_with fail
  go_loopw [23] (fun iv wr => ∃ (k : Nat) (D : List Int) (e' : Int) (zs' : List Int), k ≤ m ∧ iv = .int .i64 k ∧ Hid (D.length = k) ∧ Hid (Rs W wr q r g e' zs') ∧ Hid (HasC wr W.heap.size 51 iz) ∧ Hid (HasC wr B 51 (ia (nD op D 0 0))) ∧ Hid (HasC wr (B + 1) 95 (pA B)) ∧ Hid (Out (regs i k) e1 z1 D e' zs')) (fun iv _ => m - (intOf iv).toNat)
  case atStart => exact ⟨0, [], e1, z1, Nat.zero_le _, rfl, hide rfl, HS4, HA2, HB2, HC2, hide (Out.ret _ _ _)⟩
  case round =>
    obtain ⟨k, D, e2, z2, hk, rfl, HD, HR, HA, HB, HC, HOk⟩ := hrel
    rename World => V
    clear HS4 HA2 HB2 HC2
    by_cases hlt : k < m
    · have j0 : (0 : Int) ≤ k := by omega
      have j1 : (k : Int) < m := by omega
      have j2 : (k : Int) < 3 := by omega
      have c0 := HC.out.cell k (pA_at B k (by omega))
      have HRg := hide (register_any i (by omega) (by omega) (HR.out.rp.below (below_drew V)))
      have p0 := (HC.out.below (below_drew V)).cell k (pA_at B k (by omega))
      have HRd := hide (HR.out.below (below_drew V))
      have HAd := hide (HA.out.below (below_drew V))
      have HBd := hide (HB.out.below (below_drew V))
      have HCd := hide (HC.out.below (below_drew V))
      clear HR HA HB HC
      go_wp2_with fail
      go_region_held3 (fun w' => w'.cell? ⟨B + 1, k, none⟩ = some (.pointer (some ⟨B, k + 1, none⟩)))
        (first | exact p0 | exact p3 | exact p4 | go_keep)
        ((first
          | (go_at_call 59; refine HRg.out.mono ?_; rintro en w3 ⟨x, e3, z3, rfl, hR3, hK3, hO3⟩
             have HR3 := hide (HRd.out.go hR3 hK3)
             have HA3 := hide (HRd.out.has HAd.out (Nat.le_refl _) hK3)
             have HB3 := hide (HRd.out.has HBd.out (Nat.le_of_lt hAB) hK3)
             have HC3 := hide (HRd.out.has HCd.out (Nat.le_succ_of_le (Nat.le_of_lt hAB)) hK3)
             have HO3 := hide (regs_step HOk.out hO3)
             have p3 := HC3.out.cell k (pA_at B k (by omega))
             have q3 := HB3.out.cell (k + 1) (nD_get op D k (by omega))
             have y3 := HB3.out.frozen (k + 1)
             have p4 := (HC3.out.other (p := ⟨B, k + 1, none⟩) (by simp) (.int .i64 x)).cell k (pA_at B k (by omega))
             clear hR3 hK3 hO3)))
      have HB4 := hide (HB3.out.set (k + 1) (.int .i64 x))
      rw [nD_set op x D k HD.out (by omega)] at HB4
      have HA4 := hide (HA3.out.other (p := ⟨B, k + 1, none⟩) (by simp; omega) (.int .i64 x))
      have HC4 := hide (HC3.out.other (p := ⟨B, k + 1, none⟩) (by simp) (.int .i64 x))
      have HR4 := hide (HR3.out.set (i := k + 1) (Nat.le_of_lt hAB) hgl (.int .i64 x))
      clear p0 c0 p3 q3 y3 p4 HA3 HB3 HC3 HR3 HRg HRd HAd HBd HCd
      go_wp2_with fail
      go_roundw
      case rel => exact ⟨k + 1, D ++ [x], e3, z3, by omega, by go_num, hide (by rw [List.length_append, HD.out]; rfl), HR4, HA4, HB4, HC4, HO3⟩
      case measure => simp [intOf]; omega
    · obtain rfl : k = m := by omega
      rw [← HM.out] at HOk
      have hne : W.heap.size ≠ B := by omega
      have hne2 : B ≠ W.heap.size := by omega
      have zB := HB.out.lt
      rcases hw_five op with h5 | h5 | h5 | h5 | h5
      · have HKo := hide fun x e3 z3 hh => ins_out HO.out HOk.out (kon_1 h5 (x := x) (e3 := e3) (z3 := z3) hh)
        have HT := hide ((take_int HR.out.rp).mono fun en w' hh => hh.out)
        have c0 := HR.out.rp.box.cell 0 rfl
        have d0 := HB.out.cell 0 rfl
        rcases hw_one h5 with rfl | rfl
        all_goals
          clear h5
          go_wp2_with fail
          refine HT.out.mono ?_
          rintro en w3 ⟨x, e3, z3, rfl, hR3, hK3, hO3, -⟩
          have HR3 := hide (HR.out.go hR3 hK3)
          have HA3 := hide (HR.out.has HA.out (Nat.le_refl _) hK3)
          have HB3 := hide (HR.out.has HB.out (Nat.le_of_lt hAB) hK3)
          have HF := hide (HKo.out _ _ _ hO3)
          clear hR3 hK3 hO3 HT HKo c0 d0 HR HA HB HC
          have f4 := HB3.out.frozen 4
          have HF : Hid (Out (ins i) e zs (⟨_, D.getD 0 0, D.getD 1 0, D.getD 2 0, x, 0⟩ : In) e3 z3) := HF
          have HBX : Hid (HasC w3 B 51 (ia ⟨_, D.getD 0 0, D.getD 1 0, D.getD 2 0, 0, 0⟩)) := HB3
          clear HB3
          generalize D.getD 0 0 = v0 at HF HBX
          generalize D.getD 1 0 = v1 at HF HBX
          generalize D.getD 2 0 = v2 at HF HBX
          obtain ⟨b0, b1, b2, b3, b4, b5⟩ := six_of HBX.out
          obtain ⟨a0, a1, a2, a3, a4, a5⟩ := six_z HA3.out
          obtain ⟨y0, y1, y2, y3, y4, y5⟩ := six_fr HA3.out
          have HR4 := hide (HR3.out.set (i := 4) (Nat.le_of_lt hAB) hgl (.int .i64 x))
          have HA4 := hide (HA3.out.other (p := ⟨B, 4, none⟩) (by simp; omega) (.int .i64 x))
          go_wp2_with fail
          obtain ⟨hA9, hR9⟩ := put_six HR4.out HA4.out (Nat.le_refl _) hgl _ v0 v1 v2 x 0
          exact bodyPost_ret (inst_res hA9 rfl) rfl (InP.mk hR9 HF.out)
      · have HKo := hide fun x e3 z3 hh => ins_out HO.out HOk.out (kon_2 h5 (x := x) (e3 := e3) (z3 := z3) hh)
        have HT := hide ((take_byte HR.out.rp).mono fun en w' hh => hh.out)
        have c0 := HR.out.rp.box.cell 0 rfl
        have d0 := HB.out.cell 0 rfl
        rcases hw_two h5 with rfl | rfl | rfl | rfl
        all_goals
          clear h5
          go_wp2_with fail
          refine HT.out.mono ?_
          rintro en w3 ⟨x, e3, z3, rfl, hR3, hK3, hO3, -⟩
          have HR3 := hide (HR.out.go hR3 hK3)
          have HA3 := hide (HR.out.has HA.out (Nat.le_refl _) hK3)
          have HB3 := hide (HR.out.has HB.out (Nat.le_of_lt hAB) hK3)
          have HF := hide (HKo.out _ _ _ hO3)
          clear hR3 hK3 hO3 HT HKo c0 d0 HR HA HB HC
          have f4 := HB3.out.frozen 4
          have HF : Hid (Out (ins i) e zs (⟨_, D.getD 0 0, D.getD 1 0, D.getD 2 0, x, 0⟩ : In) e3 z3) := HF
          have HBX : Hid (HasC w3 B 51 (ia ⟨_, D.getD 0 0, D.getD 1 0, D.getD 2 0, 0, 0⟩)) := HB3
          clear HB3
          generalize D.getD 0 0 = v0 at HF HBX
          generalize D.getD 1 0 = v1 at HF HBX
          generalize D.getD 2 0 = v2 at HF HBX
          obtain ⟨b0, b1, b2, b3, b4, b5⟩ := six_of HBX.out
          obtain ⟨a0, a1, a2, a3, a4, a5⟩ := six_z HA3.out
          obtain ⟨y0, y1, y2, y3, y4, y5⟩ := six_fr HA3.out
          have HR4 := hide (HR3.out.set (i := 4) (Nat.le_of_lt hAB) hgl (.int .i64 x))
          have HA4 := hide (HA3.out.other (p := ⟨B, 4, none⟩) (by simp; omega) (.int .i64 x))
          go_wp2_with fail
          obtain ⟨hA9, hR9⟩ := put_six HR4.out HA4.out (Nat.le_refl _) hgl _ v0 v1 v2 x 0
          exact bodyPost_ret (inst_res hA9 rfl) rfl (InP.mk hR9 HF.out)
      · have HKo := hide fun x e3 z3 hh => ins_out HO.out HOk.out (kon_3 h5 (x := x) (e3 := e3) (z3 := z3) hh)
        have HT := hide ((take_uint HR.out.rp).mono fun en w' hh => hh.out)
        have c0 := HR.out.rp.box.cell 0 rfl
        have d0 := HB.out.cell 0 rfl
        rcases hw_thr h5 with rfl
        all_goals
          clear h5
          go_wp2_with fail
          refine HT.out.mono ?_
          rintro en w3 ⟨x, e3, z3, rfl, hR3, hK3, hO3, -⟩
          have HR3 := hide (HR.out.go hR3 hK3)
          have HA3 := hide (HR.out.has HA.out (Nat.le_refl _) hK3)
          have HB3 := hide (HR.out.has HB.out (Nat.le_of_lt hAB) hK3)
          have HF := hide (HKo.out _ _ _ hO3)
          clear hR3 hK3 hO3 HT HKo c0 d0 HR HA HB HC
          have f4 := HB3.out.frozen 4
          have HF : Hid (Out (ins i) e zs (⟨_, D.getD 0 0, D.getD 1 0, D.getD 2 0, x, 0⟩ : In) e3 z3) := HF
          have HBX : Hid (HasC w3 B 51 (ia ⟨_, D.getD 0 0, D.getD 1 0, D.getD 2 0, 0, 0⟩)) := HB3
          clear HB3
          generalize D.getD 0 0 = v0 at HF HBX
          generalize D.getD 1 0 = v1 at HF HBX
          generalize D.getD 2 0 = v2 at HF HBX
          obtain ⟨b0, b1, b2, b3, b4, b5⟩ := six_of HBX.out
          obtain ⟨a0, a1, a2, a3, a4, a5⟩ := six_z HA3.out
          obtain ⟨y0, y1, y2, y3, y4, y5⟩ := six_fr HA3.out
          have HR4 := hide (HR3.out.set (i := 4) (Nat.le_of_lt hAB) hgl (.int .i64 x))
          have HA4 := hide (HA3.out.other (p := ⟨B, 4, none⟩) (by simp; omega) (.int .i64 x))
          go_wp2_with fail
          obtain ⟨hA9, hR9⟩ := put_six HR4.out HA4.out (Nat.le_refl _) hgl _ v0 v1 v2 x 0
          exact bodyPost_ret (inst_res hA9 rfl) rfl (InP.mk hR9 HF.out)
      · have HKo := hide fun x e3 z3 s e4 z4 hh hh2 => ins_out HO.out HOk.out (kon_4 h5 (x := x) (e3 := e3) (z3 := z3) (s := s) (e4 := e4) (z4 := z4) hh hh2)
        have HT := hide ((take_uint HR.out.rp).mono fun en w' hh => hh.out)
        have c0 := HR.out.rp.box.cell 0 rfl
        have d0 := HB.out.cell 0 rfl
        obtain rfl := hw_fou h5
        clear h5
        go_wp2_with fail
        refine HT.out.mono ?_
        rintro en w3 ⟨x, e3, z3, rfl, hR3, hK3, hO3, -⟩
        have HR3 := hide (HR.out.go hR3 hK3)
        have HA3 := hide (HR.out.has HA.out (Nat.le_refl _) hK3)
        have HB3 := hide (HR.out.has HB.out (Nat.le_of_lt hAB) hK3)
        have HO3 := hide hO3
        clear hR3 hK3 hO3 HT c0 d0 HR HA HB HC
        have HR4 := hide (HR3.out.set (i := 4) (Nat.le_of_lt hAB) hgl (.int .i64 x))
        have HA4 := hide (HA3.out.other (p := ⟨B, 4, none⟩) (by simp; omega) (.int .i64 x))
        have HB4 := hide (HB3.out.set 4 (.int .i64 x))
        have b4 := HB3.out.cell 4 rfl
        have f4 := HB3.out.frozen 4
        have c3 := HR3.out.rp.box.cell 0 rfl
        have HT := hide ((take_byte HR4.out.rp).mono fun en w' hh => hh.out)
        have hq4 : q ≠ B := by have := HS.out.lt.1; omega
        go_wp2_with fail
        refine HT.out.mono ?_
        rintro en w5 ⟨s, e4, z4, rfl, hR5, hK5, hO5, -⟩
        have HR5 := hide (HR4.out.go hR5 hK5)
        have HA5 := hide (HR4.out.has HA4.out (Nat.le_refl _) hK5)
        have HB5 : Hid (HasC w5 B 51 (ia (nD 33 D x 0))) := hide (HR4.out.has HB4.out (Nat.le_of_lt hAB) hK5)
        have HF := hide (HKo.out _ _ _ _ _ _ HO3.out hO5)
        clear hR5 hK5 hO5 HT HKo b4 f4 c3 HR3 HA3 HB3 HR4 HA4 HB4
        have f5 := HB5.out.frozen 5
        have HF : Hid (Out (ins i) e zs (⟨_, D.getD 0 0, D.getD 1 0, D.getD 2 0, x, s⟩ : In) e4 z4) := HF
        have HBX : Hid (HasC w5 B 51 (ia ⟨_, D.getD 0 0, D.getD 1 0, D.getD 2 0, x, 0⟩)) := HB5
        clear HB5
        generalize D.getD 0 0 = v0 at HF HBX
        generalize D.getD 1 0 = v1 at HF HBX
        generalize D.getD 2 0 = v2 at HF HBX
        obtain ⟨b0, b1, b2, b3, b4, b5⟩ := six_of HBX.out
        obtain ⟨a0, a1, a2, a3, a4, a5⟩ := six_z HA5.out
        obtain ⟨y0, y1, y2, y3, y4, y5⟩ := six_fr HA5.out
        have HR6 := hide (HR5.out.set (i := 5) (Nat.le_of_lt hAB) hgl (.int .i64 s))
        have HA6 := hide (HA5.out.other (p := ⟨B, 5, none⟩) (by simp; omega) (.int .i64 s))
        go_wp2_with fail
        obtain ⟨hA9, hR9⟩ := put_six HR6.out HA6.out (Nat.le_refl _) hgl _ v0 v1 v2 x s
        exact bodyPost_ret (inst_res hA9 rfl) rfl (InP.mk hR9 HF.out)
      · have HF := hide (ins_out HO.out HOk.out (kon_0 h5))
        obtain ⟨t1, t2, t3, t4, t5, t6, t7, t8⟩ := hw_zero h5
        have HF : Hid (Out (ins i) e zs (⟨_, D.getD 0 0, D.getD 1 0, D.getD 2 0, 0, 0⟩ : In) e2 z2) := HF
        have HBX : Hid (HasC V B 51 (ia ⟨_, D.getD 0 0, D.getD 1 0, D.getD 2 0, 0, 0⟩)) := HB
        clear HB
        generalize D.getD 0 0 = v0 at HF HBX
        generalize D.getD 1 0 = v1 at HF HBX
        generalize D.getD 2 0 = v2 at HF HBX
        obtain ⟨b0, b1, b2, b3, b4, b5⟩ := six_of HBX.out
        obtain ⟨a0, a1, a2, a3, a4, a5⟩ := six_z HA.out
        obtain ⟨y0, y1, y2, y3, y4, y5⟩ := six_fr HA.out
        clear h5
        go_wp2_with fail
        obtain ⟨hA9, hR9⟩ := put_six HR.out HA.out (Nat.le_refl _) hgl op v0 v1 v2 0 0
        exact bodyPost_ret (inst_res hA9 rfl) rfl (InP.mk hR9 HF.out)

end Go.Proofs.Pck

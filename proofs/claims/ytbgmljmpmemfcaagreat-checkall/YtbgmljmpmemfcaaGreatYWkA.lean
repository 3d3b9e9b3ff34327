/-
 damaskref07.walk.
-/
import Derived.Test.YtbgmljmpmemfcaaGreatYCkC
import Derived.Lib.SliceRun
namespace Go.Proofs.YtbgmljmpmemfcaaGreat
open Go.RowKit Go.IntWalk Lx Pz
set_option linter.unusedVariables false

set_option maxHeartbeats 2000000 in
theorem varity_any (op : Int) (W : World) : Calls Tryz.prog 30 #[.int .i64 op] W fun e W' => e = .returned (.int .i64 (arZ op)) ∧ W' = W := by
 have key : (op < 1 ∧ arZ op = -1) ∨ (op = 4 ∧ arZ op = -1) ∨ (33 < op ∧ arZ op = -1) ∨ (1 ≤ op ∧ op < 4 ∧ arZ op = 0) ∨ (5 ≤ op ∧ op < 8 ∧ arZ op = 1) ∨ (28 < op ∧ op ≤ 33 ∧ arZ op = 1) ∨ (8 ≤ op ∧ op < 26 ∧ arZ op = 2) ∨ (26 ≤ op ∧ op ≤ 28 ∧ arZ op = 3) := by
  unfold arZ
  repeat' split
  all_goals omega
 rcases key with ⟨h1, h2⟩ | ⟨h1, h2⟩ | ⟨h1, h2⟩ | ⟨h1, h3, h2⟩ | ⟨h1, h3, h2⟩ | ⟨h1, h3, h2⟩ | ⟨h1, h3, h2⟩ | ⟨h1, h3, h2⟩
 all_goals
  rw [h2]
  clear h2
  have h4 : (op == 4) = decide (op = 4) := by rfl
  go_enter Tryz.func30, Tryz.ntmps30
  go_wp2
  all_goals
   go_ret
   exact ⟨rfl, rfl⟩

/-- One part. -/
def wkS (sub : Int → Int → Option (List Int)) (root n ar : Int) (i : Nat) (p : Int) (out : List Int) : Option (List Int) :=
 if ar ≤ i then (if p = 0 then some out else none)
 else if root ≤ p then none
 else match sub p (n - out.length - 1) with
  | none => none
  | some l => if n ≤ ((out ++ l).length : Int) then none else some (out ++ l)
def prW (x : Nd) (i : Nat) : Int := if i = 0 then x.a else if i = 1 then x.b else x.c
def wkI (sub : Int → Int → Option (List Int)) (root n : Int) (x : Nd) : Nat → Option (List Int)
 | 0 => some []
 | i + 1 => (wkI sub root n x i).bind (wkS sub root n (arZ x.op) i (prW x i))
def wk (NS : List Nd) : Nat → Int → Int → Option (List Int)
 | 0, _, _ => none
 | f + 1, root, n => if root < 0 ∨ (NS.length : Int) ≤ root ∨ n < 1 then none else (wkI (wk NS f) root n (NS.getD root.toNat n0) 3).map (· ++ [root])

theorem wkS_lt {sub : Int → Int → Option (List Int)} {root n ar : Int} {i : Nat} {p : Int} {out out' : List Int} (h : wkS sub root n ar i p out = some out') (hl : (out.length : Int) < n) : (out'.length : Int) < n := by
 unfold wkS at h
 split at h
 ·split at h
  ·cases h; exact hl
  ·cases h
 ·split at h
  ·cases h
  ·split at h
   ·cases h
   ·split at h
    ·cases h
    ·rename_i hh; cases h; omega
theorem wkI_lt {sub : Int → Int → Option (List Int)} {root n : Int} {x : Nd} (hn : 1 ≤ n) : ∀ (i : Nat) (l : List Int), wkI sub root n x i = some l → (l.length : Int) < n
 | 0, l, h => by cases h; simp; omega
 | i + 1, l, h => by
  simp only [wkI] at h
  cases hs : wkI sub root n x i with
  | none => rw [hs] at h; cases h
  | some o => rw [hs] at h; exact wkS_lt h (wkI_lt hn i o hs)
theorem wk_len {NS : List Nd} {f : Nat} {root n : Int} {l : List Int} (h : wk NS f root n = some l) : 0 < l.length ∧ (l.length : Int) ≤ n := by
 cases f with
 | zero => cases h
 | succ f =>
  unfold wk at h
  split at h
  ·cases h
  ·rename_i hc
   cases hs : wkI (wk NS f) root n (NS.getD root.toNat n0) 3 with
   | none => rw [hs] at h; cases h
   | some o =>
    rw [hs] at h
    have := wkI_lt (by omega) 3 o hs
    cases h
    rw [List.length_append, List.length_singleton]
    omega

theorem list_ins {W : World} {base : Nat} {A B : List Int} {v : Value} {ops : Array Oper} {rest : List Oper} {o : Oper} {a : Act} {Q : Exit → Act → World → Prop}
  (hgd : o.guard = none) (s x : Operand) (ho : o.op = .call { callee := .builtin .append, args := #[s, x], argTypes := #[25, 25] })
  (hs : a.eval s = v) (hO : W.ownsRow base 3 1 v A.length (in64 A)) (hbase : base ≤ W.heap.size) (q c b2 : Nat) (hx : a.eval x = .slice (some ⟨q, 0, none⟩) B.length c) (hc : W.ownsRow b2 3 1 (.slice (some ⟨q, 0, none⟩) B.length c) B.length (in64 B)) (h3 : A.length ≤ 2000000) (h4 : B.length ≤ 2000000) (h0 : 0 < B.length)
  (h : ∀ g cap w', w'.ownsRow base 3 1 (.slice (some ⟨g, 0, none⟩) (A.length + B.length) cap) (A ++ B).length (in64 (A ++ B)) → (∀ w0, Below base w0 W → Below base w0 w') → wpList Tryz.prog ops Q rest (a.put o.dst (.slice (some ⟨g, 0, none⟩) (A.length + B.length) cap)) w') :
  wpList Tryz.prog ops Q (o :: rest) a W := by
 obtain ⟨i0, hi0, hz0, hz1, hz2⟩ := info_parts infoInt
 refine wpList_append_lies W hgd s x 25 ho base 3 i0 _ 1 8 Tryz.underlying25 hi0 hz0 hz1 hz2 rfl (by omega) v A.length (in64 A) hs hO ⟨q, 0, none⟩ B.length c (in64 B) hx (by simp) (hc.cells rfl) (by simp [Value.oneCell']) (by omega) (by unfold maxLen; omega) (by omega) hbase W.heap.size rfl ?_
 intro g cap w' hown hgrow hat hlt
 exact h g cap w' (by rw [List.length_append, show in64 (A ++ B) = in64 A ++ in64 B from List.map_append]; exact hown) (fun w0 hb => hb.grown hgrow hbase fun k hk => (owns_block hO k hk).1)

theorem own_mono {w : World} {base base' : Nat} {e : TypeId} {size : Nat} {v : Value} {n : Nat} {xs : List Value} (h : w.ownsRow base e size v n xs) (hb : base' ≤ base) : w.ownsRow base' e size v n xs := by
 obtain ⟨h1, h2⟩ := h
 refine ⟨h1, ?_⟩
 rcases h2 with h2 | ⟨g, cap, cur, hv, hg, rest⟩
 ·exact .inl h2
 ·exact .inr ⟨g, cap, cur, hv, Nat.le_trans hb hg, rest⟩

def WkP (NS : List Nd) (f : Nat) (root n : Int) (W : World) (e : Ending) (W' : World) : Prop :=
 (wk NS f root n = none ∧ e = .returned (.slice none 0 0) ∧ Below W.heap.size W W') ∨
 (∃ l g c, wk NS f root n = some l ∧ e = .returned (.slice (some ⟨g, 0, none⟩) l.length c) ∧ W'.ownsRow W.heap.size 3 1 (.slice (some ⟨g, 0, none⟩) l.length c) l.length (in64 l) ∧ Below W.heap.size W W')

set_option maxRecDepth 100000 in
set_option maxHeartbeats 8000000 in
theorem walk_any {NS : List Nd} {da : Option Addr} {dl dc : Nat} (hd : dl ≤ 1024) : ∀ (f : Nat) (root n : Int) (W : World), Nz W da dl dc NS → root < f → 0 ≤ n → n ≤ 1024 →
  Calls Tryz.prog 43 #[.slice da dl dc, .int .i64 root, .int .i64 n] W fun e W' => WkP NS f root n W e W' := by
 intro f
 induction f with
 | zero =>
  intro root n W hN hr h0 h1
  have hr0 : root < 0 := by omega
  have HF : Hid (wk NS 0 root n = none) := hide rfl
  clear hN hr
  go_enter Tryz.func43, Tryz.ntmps43
  go_wp2_with fail
  go_ret
  exact .inl ⟨HF.out, rfl, Below.refl _ _⟩
 | succ f ih =>
  intro root n W hN hr h0 h1
  have HIH := hide ih
  have HNZ := hide hN
  have HL := hide hN.len
  have HR := hide hr
  clear ih hN hr
  by_cases hbad : root < 0 ∨ (dl : Int) ≤ root ∨ n < 1
  ·have HF : Hid (wk NS (f + 1) root n = none) := hide (by unfold wk; rw [if_pos (by rw [HL.out]; exact hbad)])
   rcases (show root < 0 ∨ (0 ≤ root ∧ (dl : Int) ≤ root) ∨ (0 ≤ root ∧ root < dl ∧ n < 1) by omega) with h2 | ⟨h2, h3⟩ | ⟨h2, h3, h4⟩
   all_goals
    go_enter Tryz.func43, Tryz.ntmps43
    go_wp2_with fail
    go_ret
    exact .inl ⟨HF.out, rfl, Below.refl _ _⟩
  ·obtain ⟨r, hr⟩ : ∃ r : Nat, root = r := ⟨root.toNat, by omega⟩
   subst hr
   have hrl : r < dl := by omega
   have hn1 : 1 ≤ n := by omega
   have HF : Hid (wk NS (f + 1) r n = (wkI (wk NS f) r n (NS.getD r n0) 3).map (· ++ [(r : Int)])) := hide (by rw [wk, if_neg (by rw [HL.out]; exact hbad)]; rfl)
   clear hbad
   obtain ⟨g, off, rfl, hat⟩ := HNZ.out.at (by omega)
   obtain ⟨e0, e1, e2, e3, e4, e5, e6, e7, e8⟩ := hat r hrl
   clear hat
   generalize NS.getD r n0 = x at *
   have hi0 : (0 : Int) ≤ r := by omega
   have hi1 : (r : Int) < dl := by omega
   have HC0 := hide ((HasC.new W 53 (ndA x)).alloc (.cells #[.int .i64 x.a, .int .i64 x.b, .int .i64 x.c] 3))
   have HC1 := hide (HasC.new (W.alloc (.cells (ndA x) 53)) 3 #[.int .i64 x.a, .int .i64 x.b, .int .i64 x.c])
   have HB0 := hide (bel (bel1 W (.cells (ndA x) 53)) (bel1 (W.alloc (.cells (ndA x) 53)) (.cells #[.int .i64 x.a, .int .i64 x.b, .int .i64 x.c] 3)))
   have HZ0 : Hid (((W.alloc (.cells (ndA x) 53)).alloc (.cells #[.int .i64 x.a, .int .i64 x.b, .int .i64 x.c] 3)).heap.size = W.heap.size + 2) := hide (by simp)
   rw [World.size_alloc] at HC1
   obtain ⟨W2, hW2⟩ : ∃ W2, W2 = (W.alloc (.cells (ndA x) 53)).alloc (.cells #[.int .i64 x.a, .int .i64 x.b, .int .i64 x.c] 3) := ⟨_, rfl⟩
   rw [← hW2] at HC0 HC1 HB0 HZ0
   have HW2 := hide hW2
   clear hW2
   have heq : ∀ (w : World) (a : Option Addr) (n c : Nat), (binOp .eql 25 (.slice a n c) (.slice none 0 0)).run Tryz.prog w = .ok (.bool a.isNone) w := fun w a n c => Lib.run_eql_slice_nil w 25 3 a n c 0 0 Tryz.underlying25
   go_enter Tryz.func43, Tryz.ntmps43
   go_wp2_with fail
   generalize decide ((r : Int) < 0) = dd1
   generalize decide (dl ≤ r) = dd2
   generalize decide (n < 1) = dd3
   go_loopw [7, 10] (fun v i wr => ∃ (k : Nat) (L : List Int), k ≤ 3 ∧ i = .int .i64 k ∧ Hid (wkI (wk NS f) r n x k = some L) ∧ Hid (wr.ownsRow (W.heap.size + 2) 3 1 v L.length (in64 L)) ∧ Hid (Below W2.heap.size W2 wr)) (fun _ i _ => 3 - (intOf i).toNat)
   case atStart => exact ⟨0, [], by omega, rfl, hide rfl, hide (World.ownsRow_nil _ _ _ _), hide (by rw [HW2.out]; exact Below.refl _ _)⟩
   case round =>
    obtain ⟨k, L, hk, rfl, HI, HO, HB⟩ := hrel
    rename World => V
    obtain ⟨va, vc, rfl, hIz⟩ := Iz.of_owns HO.out
    clear hIz
    have hLn := wkI_lt hn1 k L HI.out
    by_cases hlt : k < 3
    ·obtain ⟨f0, -⟩ := (HC0.out.below HB.out).nine
     have hp : V.cell? ⟨W.heap.size + 1, k, none⟩ = some (.int .i64 (prW x k)) := by
      refine (HC1.out.below HB.out).cell k ?_
      rcases (show k = 0 ∨ k = 1 ∨ k = 2 by omega) with rfl | rfl | rfl <;> rfl
     have HS : Hid (wkI (wk NS f) r n x (k + 1) = wkS (wk NS f) r n (arZ x.op) k (prW x k) L) := hide (by rw [wkI, HI.out]; rfl)
     have HAr := hide fun W => varity_any x.op W
     have hk0 : (0 : Int) ≤ k := by omega
     have hk3 : (k : Int) < 3 := by omega
     have HNone : Hid (wkI (wk NS f) r n x (k + 1) = none → wk NS (f + 1) r n = none) := hide (by
      intro h
      rw [HF.out]
      have : ∀ m, wkI (wk NS f) r n x (k + 1 + m) = none := by
       intro m
       induction m with
       | zero => exact h
       | succ m ih => show (wkI (wk NS f) r n x (k + 1 + m)).bind _ = none; rw [ih]; rfl
      have h3 := this (3 - (k + 1))
      rw [show k + 1 + (3 - (k + 1)) = 3 by omega] at h3
      rw [h3]
      rfl)
     generalize arZ x.op = ar at *
     generalize prW x k = p at *
     unfold wkS at HS
     by_cases har : ar ≤ k
     ·rw [if_pos har] at HS
      by_cases hp0 : p = 0
      ·rw [if_pos hp0] at HS
       subst hp0
       go_wp2_with fail
       refine (HAr.out _).mono ?_
       rintro e V1 ⟨rfl, rfl⟩
       go_wp2_with fail
       go_roundw
       case rel => exact ⟨k + 1, L, by omega, by go_num, hide HS.out, hide HO.out, hide HB.out⟩
       case measure => simp [intOf]; omega
      ·rw [if_neg hp0] at HS
       have HE := hide (HNone.out HS.out)
       have hp1 : (p != 0) = true := by simpa using hp0
       go_wp2_with fail
       refine (HAr.out _).mono ?_
       rintro e V1 ⟨rfl, rfl⟩
       go_wp2_with fail
       go_ret
       exact .inl ⟨HE.out, rfl, HB0.out.trans (HB.out.mono HB0.out.size)⟩
     ·rw [if_neg har] at HS
      by_cases hpr : (r : Int) ≤ p
      ·rw [if_pos hpr] at HS
       have HE := hide (HNone.out HS.out)
       go_wp2_with fail
       refine (HAr.out _).mono ?_
       rintro e V1 ⟨rfl, rfl⟩
       go_wp2_with fail
       go_ret
       exact .inl ⟨HE.out, rfl, HB0.out.trans (HB.out.mono HB0.out.size)⟩
      ·rw [if_neg hpr] at HS
       have HWk := hide (HIH.out p (n - L.length - 1) V (HNZ.out.later (HB0.out.trans (HB.out.mono HB0.out.size))) (by have := HR.out; omega) (by omega) (by omega))
       go_wp2_with fail
       refine (HAr.out _).mono ?_
       rintro e V1 ⟨rfl, rfl⟩
       go_wp2_with fail
       refine (HWk.out).mono ?_
       rintro e V2 (⟨hw, rfl, hb2⟩ | ⟨l, g2, c2, hw, rfl, ho2, hb2⟩)
       ·rw [hw] at HS
        have HE := hide (HNone.out HS.out)
        have HB2 := hide (bel HB.out hb2)
        clear hb2 hw
        go_wp2_with fail
        go_ret
        exact .inl ⟨HE.out, rfl, HB0.out.trans (HB2.out.mono HB0.out.size)⟩
       ·obtain ⟨hl0, hl1⟩ := wk_len hw
        rw [hw] at HS
        have HB2 := hide (bel HB.out hb2)
        have HO2 := hide (owns_kp HO.out (Kp.of_below [] hb2) (by decide))
        have HL2 := hide ho2
        have hs2 : W.heap.size + 2 ≤ V2.heap.size := by have := HB2.out.size; rw [HZ0.out] at this; exact this
        have HSZ := hide hs2
        clear hb2 hw ho2 HO hs2
        by_cases hbig : n ≤ ((L ++ l).length : Int)
        ·rw [List.length_append] at hbig
         omega
        ·have HE := hide (HS.out.trans (if_neg hbig))
         have hbig2 : ¬ n ≤ (L.length : Int) + (l.length : Int) := by rw [List.length_append] at hbig; omega
         clear hbig
         go_wp2_with (at_builtin; refine list_ins (A := L) (B := l) rfl _ _ rfl rfl HO2.out HSZ.out g2 c2 _ rfl HL2.out (by omega) (by omega) hl0 ?_; intro g4 cap4 V4 hown hold; have HB4 := hide (show Below W2.heap.size W2 V4 by have := HB2.out; rw [HZ0.out] at this ⊢; exact hold W2 this); have HO4 := hide hown; clear hown hold)
         go_roundw
         case rel => exact ⟨k + 1, L ++ l, by omega, by go_num, hide HE.out, hide HO4.out, hide HB4.out⟩
         case measure => simp [intOf]; omega
    ·obtain rfl : k = 3 := by omega
     have HE : Hid (wk NS (f + 1) r n = some (L ++ [(r : Int)])) := hide (by rw [HF.out, HI.out]; rfl)
     have HSZ : Hid (W.heap.size + 2 ≤ V.heap.size) := hide (by have := HB.out.size; rw [HZ0.out] at this; exact this)
     go_wp2_with (at_builtin; refine list_in (A := L) rfl _ _ rfl rfl (HO.out.alloc _) (by have := HSZ.out; simp; omega) _ r rfl (HasC.new _ _ _) (by omega) ?_; intro g4 cap4 V4 hown hk4 hold; have HB4 := hide (show Below W2.heap.size W2 V4 by have := bel HB.out (bel1 V (.cells #[.int .i64 (r : Int)] 3)); rw [HZ0.out] at this ⊢; exact hold W2 this HZ0.out); have HO4 := hide hown; clear hown hk4 hold)
     go_ret
     refine .inr ⟨L ++ [(r : Int)], g4, cap4, HE.out, ?_, ?_, HB0.out.trans (HB4.out.mono HB0.out.size)⟩
     ·rw [List.length_append]; rfl
     ·have h4 := HO4.out
      rw [List.length_append] at h4 ⊢
      exact own_mono h4 (by omega)

end Go.Proofs.YtbgmljmpmemfcaaGreat

/-
 Sound, as plain lists: it takes what inOrder takes.
-/
namespace Go.Proofs.YtbgmljmpmemfcaaGreat
open Lx Pz
set_option linter.unusedVariables false

/-- Numbers in a row. -/
def rg (s k : Nat) : List Int := (List.range' s k).map (fun i : Nat => (i : Int))
theorem rg_len (s k : Nat) : (rg s k).length = k := by simp [rg]
theorem rg_add (s a b : Nat) : rg s (a + b) = rg s a ++ rg (s + a) b := by
 unfold rg
 rw [← List.map_append, List.range'_append_1]
theorem rg_one (s : Nat) : rg s 1 = [(s : Int)] := rfl
theorem rg_succ (s k : Nat) : rg s (k + 1) = rg s k ++ [((s + k : Nat) : Int)] := rg_add s k 1
theorem rg_mem {s k : Nat} {z : Int} (h : z ∈ rg s k) : ∃ i, s ≤ i ∧ i < s + k ∧ z = (i : Int) := by
 simp only [rg, List.mem_map, List.mem_range'_1] at h
 obtain ⟨i, h1, h2⟩ := h
 exact ⟨i, h1.1, h1.2, h2.symm⟩
theorem rg_split {s k : Nat} {A B : List Int} (h : rg s k = A ++ B) : A = rg s A.length ∧ B = rg (s + A.length) B.length := by
 have hk : k = A.length + B.length := by rw [← rg_len s k, h, List.length_append]
 rw [hk, rg_add] at h
 have := List.append_inj h (rg_len _ _)
 exact ⟨this.1.symm, this.2.symm⟩

/-- These nodes stand there. -/
def Em (NS : List Nd) (s : Nat) (L : List Nd) : Prop := (NS.drop s).take L.length = L
theorem em_app {NS : List Nd} {s : Nat} {A B : List Nd} : Em NS s (A ++ B) ↔ Em NS s A ∧ Em NS (s + A.length) B := by
 unfold Em
 rw [List.length_append, List.take_add, List.drop_drop]
 constructor
 ·intro h
  have hl := congrArg List.length h
  simp only [List.length_append, List.length_take, List.length_drop] at hl
  exact List.append_inj h (by rw [List.length_take, List.length_drop]; omega)
 ·rintro ⟨h1, h2⟩; rw [h1, h2]
theorem em_one {NS : List Nd} {s : Nat} {x : Nd} : Em NS s [x] ↔ NS[s]? = some x := by
 unfold Em
 cases h : NS.drop s with
 | nil =>
  have : NS[s]? = none := by rw [List.getElem?_eq_none_iff]; have := congrArg List.length h; simp at this; omega
  rw [this]; simp
 | cons y r =>
  have : NS[s]? = some y := by
   have := congrArg (fun l => l[0]?) h
   simpa [List.getElem?_drop] using this
  rw [this]; simp
theorem em_le {NS : List Nd} {s : Nat} {L : List Nd} (h : Em NS s L) (h0 : 0 < L.length) : s + L.length ≤ NS.length := by
 have := congrArg List.length h
 rw [List.length_take, List.length_drop] at this
 omega
theorem em_all {NS L : List Nd} (h : Em NS 0 L) (hl : L.length = NS.length) : NS = L := by
 have h2 : (NS.drop 0).take L.length = L := h
 rw [List.drop_zero, hl, List.take_length] at h2
 exact h2
theorem em_self (L : List Nd) : Em L 0 L := by unfold Em; rw [List.drop_zero, List.take_length]

def ownP (n : Nd) (bd : Int) : Bool := decide (0 ≤ prZ n.op) && fldP n bd
theorem pr_ar {o : Int} (h : 0 < prZ o) : arZ o = prZ o := by
 unfold prZ at h ⊢
 split
 ·rename_i h1; rw [if_pos h1] at h; omega
 ·rename_i h1
  rw [if_neg h1] at h
  split
  ·rename_i h2; rw [if_pos h2] at h; omega
  ·rfl
theorem pr_0 {o : Int} (h : prZ o = 0) : arZ o ≤ 0 := by
 by_cases h4 : o = 4
 ·subst h4; decide
 ·unfold prZ at h
  rw [if_neg h4] at h
  split at h
  ·omega
  ·omega

theorem wkS_skip {sub : Int → Int → Option (List Int)} {root n ar : Int} {i : Nat} {out : List Int} (h : ar ≤ i) : wkS sub root n ar i 0 out = some out := by
 unfold wkS; rw [if_pos h, if_pos rfl]
theorem wkS_go {sub : Int → Int → Option (List Int)} {root n ar : Int} {i : Nat} {p : Int} {out l : List Int} (h : ¬ ar ≤ i) (hp : p < root) (hs : sub p (n - out.length - 1) = some l) (hl : (out.length : Int) + l.length < n) : wkS sub root n ar i p out = some (out ++ l) := by
 unfold wkS; rw [if_neg h, if_neg (by omega), hs]
 simp only
 rw [if_neg (by rw [List.length_append]; omega)]

theorem getD_of {NS : List Nd} {i : Nat} {x : Nd} (h : NS[i]? = some x) : NS.getD (i : Int).toNat n0 = x := by rw [Int.toNat_natCast, List.getD_eq_getElem?_getD, h]; rfl
theorem wkI3 (sub : Int → Int → Option (List Int)) (root n : Int) (x : Nd) : wkI sub root n x 3 = ((wkS sub root n (arZ x.op) 0 x.a []).bind (wkS sub root n (arZ x.op) 1 x.b)).bind (wkS sub root n (arZ x.op) 2 x.c) := rfl
/-- An expression that stands there is walked. -/
theorem wk_e {NS : List Nd} {bd : Nat} : ∀ (e : E) (s f : Nat) (n : Int), Gd bd e → Em NS s (e.flat s) → s + e.size ≤ f → (e.size : Int) ≤ n → wk NS f (((s + e.size : Nat) : Int) - 1) n = some (rg s e.size)
 | .leaf x, s, 0, n, hg, hm, hf, hn => by simp [E.size] at hf
 | .un o a, s, 0, n, hg, hm, hf, hn => by simp [E.size] at hf
 | .bin o a b, s, 0, n, hg, hm, hf, hn => by simp [E.size] at hf
 | .tri o a b c, s, 0, n, hg, hm, hf, hn => by simp [E.size] at hf
 | .leaf x, s, f + 1, n, hg, hm, hf, hn => by
  obtain ⟨h1, h2, h3, h4, h5⟩ := hg
  have hx := em_one.1 (show Em NS s [x] from hm)
  have hlt : s < NS.length := (List.getElem?_eq_some_iff.1 hx).1
  simp only [E.size] at hn ⊢
  rw [show (((s + 1 : Nat) : Int) - 1) = (s : Int) by omega, wk, if_neg (by omega)]
  rw [getD_of hx, wkI3]
  have ha := pr_0 h4
  rw [h1, h2, h3, wkS_skip (by omega), Option.bind_some, wkS_skip (by omega), Option.bind_some, wkS_skip (by omega)]
  rfl
 | .un o a, s, f + 1, n, hg, hm, hf, hn => by
  obtain ⟨hp, ha⟩ := hg
  have pa := a.size_pos
  simp only [E.flat] at hm
  obtain ⟨hm1, hm2⟩ := em_app.1 hm
  rw [E.flat_len] at hm2
  have hx := em_one.1 hm2
  have hlt : s + a.size < NS.length := (List.getElem?_eq_some_iff.1 hx).1
  simp only [E.size] at hn hf ⊢
  rw [show (((s + (a.size + 1) : Nat) : Int) - 1) = ((s + a.size : Nat) : Int) by omega, wk, if_neg (by omega)]
  rw [getD_of hx, wkI3]
  have har := pr_ar (o := o) (by omega)
  rw [hp] at har
  simp only [har]
  rw [wkS_go (l := rg s a.size) (by omega) (by omega) (wk_e a s f _ ha hm1 (by omega) (by simp; omega)) (by rw [rg_len]; simp; omega), Option.bind_some, wkS_skip (by omega), Option.bind_some, wkS_skip (by omega), Option.map_some, List.nil_append, rg_succ]
 | .bin o a b, s, f + 1, n, hg, hm, hf, hn => by
  obtain ⟨hp, ha, hb⟩ := hg
  have pa := a.size_pos
  have pb := b.size_pos
  simp only [E.flat] at hm
  obtain ⟨hm0, hm3⟩ := em_app.1 hm
  obtain ⟨hm1, hm2⟩ := em_app.1 hm0
  rw [List.length_append, E.flat_len, E.flat_len] at hm3
  rw [E.flat_len] at hm2
  have hx := em_one.1 hm3
  have hlt : s + (a.size + b.size) < NS.length := (List.getElem?_eq_some_iff.1 hx).1
  simp only [E.size] at hn hf ⊢
  rw [show (((s + (a.size + b.size + 1) : Nat) : Int) - 1) = ((s + (a.size + b.size) : Nat) : Int) by omega, wk, if_neg (by omega)]
  rw [getD_of hx, wkI3]
  have har := pr_ar (o := o) (by omega)
  rw [hp] at har
  simp only [har]
  rw [wkS_go (l := rg s a.size) (by omega) (by omega) (wk_e a s f _ ha hm1 (by omega) (by simp; omega)) (by rw [rg_len]; simp; omega), Option.bind_some,
   wkS_go (l := rg (s + a.size) b.size) (by omega) (by omega) (wk_e b (s + a.size) f _ hb hm2 (by omega) (by simp [rg_len]; omega)) (by simp [rg_len]; omega), Option.bind_some,
   wkS_skip (by omega), Option.map_some, List.nil_append, ← rg_add, rg_succ]
 | .tri o a b c, s, f + 1, n, hg, hm, hf, hn => by
  obtain ⟨hp, ha, hb, hc⟩ := hg
  have pa := a.size_pos
  have pb := b.size_pos
  have pc := c.size_pos
  simp only [E.flat] at hm
  obtain ⟨hm0, hm4⟩ := em_app.1 hm
  obtain ⟨hm00, hm3⟩ := em_app.1 hm0
  obtain ⟨hm1, hm2⟩ := em_app.1 hm00
  rw [List.length_append, List.length_append, E.flat_len, E.flat_len, E.flat_len] at hm4
  rw [List.length_append, E.flat_len, E.flat_len, ← Nat.add_assoc] at hm3
  rw [E.flat_len] at hm2
  have hx := em_one.1 hm4
  have hlt : s + (a.size + b.size + c.size) < NS.length := (List.getElem?_eq_some_iff.1 hx).1
  simp only [E.size] at hn hf ⊢
  rw [show (((s + (a.size + b.size + c.size + 1) : Nat) : Int) - 1) = ((s + (a.size + b.size + c.size) : Nat) : Int) by omega, wk, if_neg (by omega)]
  rw [getD_of hx, wkI3]
  have har := pr_ar (o := o) (by omega)
  rw [hp] at har
  simp only [har]
  rw [wkS_go (l := rg s a.size) (by omega) (by omega) (wk_e a s f _ ha hm1 (by omega) (by simp; omega)) (by rw [rg_len]; simp; omega), Option.bind_some,
   wkS_go (l := rg (s + a.size) b.size) (by omega) (by omega) (wk_e b (s + a.size) f _ hb hm2 (by omega) (by simp [rg_len]; omega)) (by simp [rg_len]; omega), Option.bind_some,
   wkS_go (l := rg (s + a.size + b.size) c.size) (by omega) (by omega) (wk_e c (s + a.size + b.size) f _ hc hm3 (by omega) (by simp [rg_len]; omega)) (by simp [rg_len]; omega), Option.map_some, List.nil_append, ← rg_add, Nat.add_assoc s, ← rg_add, rg_succ]

end Go.Proofs.YtbgmljmpmemfcaaGreat

/-
 Sound's rounds, as plain lists: they take what inOrder takes.
-/
namespace Go.Proofs.YtbgmljmpmemfcaaGreat
open Lx Pz
set_option linter.unusedVariables false

theorem wkS_inv {sub : Int → Int → Option (List Int)} {root n ar : Int} {i : Nat} {p : Int} {out out' : List Int} (h : wkS sub root n ar i p out = some out') :
  (ar ≤ i ∧ p = 0 ∧ out' = out) ∨ (¬ ar ≤ i ∧ ∃ m l, sub p m = some l ∧ out' = out ++ l) := by
 unfold wkS at h
 split at h
 ·rename_i h1
  split at h
  ·rename_i h2; cases h; exact .inl ⟨h1, h2, rfl⟩
  ·cases h
 ·rename_i h1
  split at h
  ·cases h
  ·split at h
   ·cases h
   ·rename_i l hl
    split at h
    ·cases h
    ·cases h; exact .inr ⟨h1, _, l, hl, rfl⟩

theorem wk_conv {NS : List Nd} {bd : Nat} : ∀ (f : Nat) (root n : Int) (l : List Int) (s : Nat), wk NS f root n = some l → l = rg s l.length → (∀ z ∈ l, ownP (NS.getD z.toNat n0) bd = true) →
  ∃ e : E, e.size = l.length ∧ Gd bd e ∧ Em NS s (e.flat s) ∧ root = ((s + l.length : Nat) : Int) - 1
 | 0, root, n, l, s, h, _, _ => by cases h
 | f + 1, root, n, l, s, h, hl, ho => by
  unfold wk at h
  split at h
  ·cases h
  ·rename_i hc
   obtain ⟨r, rfl⟩ : ∃ r : Nat, root = r := ⟨root.toNat, by omega⟩
   have hr : r < NS.length := by omega
   have hx : NS[r]? = some (NS.getD r n0) := by rw [List.getD_eq_getElem?_getD, List.getElem?_eq_getElem hr]; rfl
   rw [Int.toNat_natCast] at h
   generalize hxx : NS.getD r n0 = x at *
   rw [wkI3] at h
   cases h1 : wkS (wk NS f) r n (arZ x.op) 0 x.a [] with
   | none => rw [h1] at h; cases h
   | some o1 =>
    rw [h1, Option.bind_some] at h
    cases h2 : wkS (wk NS f) r n (arZ x.op) 1 x.b o1 with
    | none => rw [h2] at h; cases h
    | some o2 =>
     rw [h2, Option.bind_some] at h
     cases h3 : wkS (wk NS f) r n (arZ x.op) 2 x.c o2 with
     | none => rw [h3] at h; cases h
     | some o =>
      rw [h3] at h
      cases h
      obtain ⟨ho1, ho2⟩ := rg_split hl.symm
      have hrs : r = s + o.length := by
       rw [List.length_singleton, rg_one] at ho2
       simp only [List.cons.injEq, and_true] at ho2
       omega
      have hox := ho (r : Int) (by simp)
      rw [Int.toNat_natCast, hxx] at hox
      simp only [ownP, Bool.and_eq_true, decide_eq_true_eq] at hox
      have h03 := ar_le x.op
      have hoo : ∀ z ∈ o, ownP (NS.getD z.toNat n0) bd = true := fun z hz => ho z (by simp [hz])
      have fin : ∀ st : List E, prZ x.op = st.length → st.length ≤ 3 → tkE (bdL st s) x = true → (∀ e ∈ st, Gd bd e) → szL st = o.length → Em NS s (flL st s) → ∃ e : E, e.size = (o ++ [(r : Int)]).length ∧ Gd bd e ∧ Em NS s (e.flat s) ∧ (r : Int) = ((s + (o ++ [(r : Int)]).length : Nat) : Int) - 1 := by
       intro st hp hs3 ht hg hz hm
       obtain ⟨e, he1, he2, he3⟩ := mk_expr (s := s) hp hs3 hox.2 ht hg
       refine ⟨e, by rw [he2, hz, List.length_append]; rfl, he3, ?_, by rw [List.length_append, List.length_singleton]; omega⟩
       rw [he1]
       refine em_app.2 ⟨hm, em_one.2 ?_⟩
       rw [flL_len, hz, ← hrs]
       exact hx
      rcases (show prZ x.op = 0 ∨ prZ x.op = 1 ∨ prZ x.op = 2 ∨ prZ x.op = 3 by omega) with hp | hp | hp | hp
      ·have ha := pr_0 hp
       rcases wkS_inv h1 with ⟨-, p1, rfl⟩ | ⟨q, -⟩
       ·rcases wkS_inv h2 with ⟨-, p2, rfl⟩ | ⟨q, -⟩
        ·rcases wkS_inv h3 with ⟨-, p3, rfl⟩ | ⟨q, -⟩
         ·exact fin [] hp (by simp) (by simp [tkE, bdL, p1, p2, p3]) (by simp) rfl (by simp [flL, Em])
         ·omega
        ·omega
       ·omega
      ·have ha := pr_ar (o := x.op) (by omega)
       rcases wkS_inv h1 with ⟨q, -⟩ | ⟨-, m1, l1, hs1, q1⟩
       ·omega
       ·have q1' : l1 = o1 := q1.symm
        subst q1'
        rcases wkS_inv h2 with ⟨-, p2, rfl⟩ | ⟨q, -⟩
        ·rcases wkS_inv h3 with ⟨-, p3, rfl⟩ | ⟨q, -⟩
         ·obtain ⟨e1, z1, g1, m1', r1⟩ := wk_conv f _ _ _ s hs1 ho1 hoo
          exact fin [e1] hp (by simp) (by simp [tkE, bdL, p2, p3, r1, z1]) (by simp [g1]) (by simp [szL, z1]) (by simpa [flL] using m1')
         ·omega
        ·omega
      ·have ha := pr_ar (o := x.op) (by omega)
       rcases wkS_inv h1 with ⟨q, -⟩ | ⟨-, m1, l1, hs1, q1⟩
       ·omega
       ·have q1' : l1 = o1 := q1.symm
        subst q1'
        rcases wkS_inv h2 with ⟨q, -⟩ | ⟨-, m2, l2, hs2, rfl⟩
        ·omega
        ·rcases wkS_inv h3 with ⟨-, p3, rfl⟩ | ⟨q, -⟩
         ·obtain ⟨t1, t2⟩ := rg_split ho1.symm
          obtain ⟨e1, z1, g1, m1', r1⟩ := wk_conv f _ _ l1 s hs1 t1 (fun z hz => hoo z (by simp [hz]))
          obtain ⟨e2, z2, g2, m2', r2⟩ := wk_conv f _ _ l2 (s + l1.length) hs2 t2 (fun z hz => hoo z (by simp [hz]))
          refine fin [e1, e2] hp (by simp) (by simp [tkE, bdL, p3, r1, r2, z1, z2]) (by simp [g1, g2]) (by simp [szL, z1, z2]) ?_
          simp only [flL, List.append_nil]
          exact em_app.2 ⟨m1', by rw [E.flat_len, z1]; exact m2'⟩
         ·omega
      ·have ha := pr_ar (o := x.op) (by omega)
       rcases wkS_inv h1 with ⟨q, -⟩ | ⟨-, m1, l1, hs1, q1⟩
       ·omega
       ·have q1' : l1 = o1 := q1.symm
        subst q1'
        rcases wkS_inv h2 with ⟨q, -⟩ | ⟨-, m2, l2, hs2, rfl⟩
        ·omega
        ·rcases wkS_inv h3 with ⟨q, -⟩ | ⟨-, m3, l3, hs3, rfl⟩
         ·omega
         ·obtain ⟨t12, t3⟩ := rg_split ho1.symm
          obtain ⟨t1, t2⟩ := rg_split t12.symm
          rw [List.length_append, ← Nat.add_assoc] at t3
          obtain ⟨e1, z1, g1, m1', r1⟩ := wk_conv f _ _ l1 s hs1 t1 (fun z hz => hoo z (by simp [hz]))
          obtain ⟨e2, z2, g2, m2', r2⟩ := wk_conv f _ _ l2 (s + l1.length) hs2 t2 (fun z hz => hoo z (by simp [hz]))
          obtain ⟨e3, z3, g3, m3', r3⟩ := wk_conv f _ _ l3 (s + l1.length + l2.length) hs3 t3 (fun z hz => hoo z (by simp [hz]))
          refine fin [e1, e2, e3] hp (by simp) (by simp [tkE, bdL, r1, r2, r3, z1, z2, z3]) (by simp [g1, g2, g3]) (by simp [szL, z1, z2, z3]) ?_
          simp only [flL, List.append_nil]
          exact em_app.2 ⟨m1', em_app.2 ⟨by rw [E.flat_len, z1]; exact m2', by rw [E.flat_len, E.flat_len, z1, z2]; exact m3'⟩⟩

theorem gd_own {bd : Nat} : ∀ (e : E) (s : Nat), Gd bd e → ∀ x ∈ e.flat s, ownP x bd = true
 | .leaf n, s, hg, x, hx => by
  obtain ⟨_, _, _, h4, h5⟩ := hg
  simp [E.flat] at hx
  subst hx
  simp [ownP, h4, h5]
 | .un o a, s, hg, x, hx => by
  obtain ⟨hp, ha⟩ := hg
  simp only [E.flat, List.mem_append, List.mem_singleton] at hx
  rcases hx with hx | rfl
  ·exact gd_own a s ha x hx
  ·simp [ownP, hp, fld_in (show 0 < prZ o by omega)]
 | .bin o a b, s, hg, x, hx => by
  obtain ⟨hp, ha, hb⟩ := hg
  simp only [E.flat, List.mem_append, List.mem_singleton] at hx
  rcases hx with (hx | hx) | rfl
  ·exact gd_own a _ ha x hx
  ·exact gd_own b _ hb x hx
  ·simp [ownP, hp, fld_in (show 0 < prZ o by omega)]
 | .tri o a b c, s, hg, x, hx => by
  obtain ⟨hp, ha, hb, hc⟩ := hg
  simp only [E.flat, List.mem_append, List.mem_singleton] at hx
  rcases hx with ((hx | hx) | hx) | rfl
  ·exact gd_own a _ ha x hx
  ·exact gd_own b _ hb x hx
  ·exact gd_own c _ hc x hx
  ·simp [ownP, hp, fld_in (show 0 < prZ o by omega)]

/-- One of Sound's rounds: how many nodes it takes. -/
def sl1 (NS : List Nd) (bd s : Nat) (root : Int) : Option Nat :=
 match wk NS (root.toNat + 1) root 1024 with
 | none => none
 | some l => if l = rg s l.length ∧ (l.all fun z => ownP (NS.getD z.toNat n0) bd) = true then some l.length else none
theorem sl1_iff {NS : List Nd} (hN : NS.length ≤ 1024) {bd s k : Nat} {root : Int} : sl1 NS bd s root = some k ↔ ∃ e : E, e.size = k ∧ Gd bd e ∧ Em NS s (e.flat s) ∧ root = ((s + k : Nat) : Int) - 1 := by
 unfold sl1
 constructor
 ·intro h
  split at h
  ·cases h
  ·rename_i l hl
   split at h
   ·rename_i hc
    cases h
    exact wk_conv _ _ _ l s hl hc.1 (by simpa [List.all_eq_true] using hc.2)
   ·cases h
 ·rintro ⟨e, rfl, hg, hm, rfl⟩
  have pe := e.size_pos
  have hle := em_le hm (by rw [E.flat_len]; exact pe)
  rw [E.flat_len] at hle
  rw [wk_e e s _ 1024 hg hm (by omega) (by omega)]
  simp only [rg_len]
  rw [if_pos]
  refine ⟨by trivial, ?_⟩
  rw [List.all_eq_true]
  intro z hz
  obtain ⟨i, h1, h2, rfl⟩ := rg_mem hz
  refine gd_own e s hg _ ?_
  have h3 : (e.flat s)[i - s]? = NS[i]? := by
   have h4 : (NS.drop s).take (e.flat s).length = e.flat s := hm
   rw [← h4, List.getElem?_take_of_lt (by rw [E.flat_len]; omega), List.getElem?_drop, show s + (i - s) = i by omega]
  rw [Int.toNat_natCast, List.getD_eq_getElem?_getD, List.getElem?_eq_getElem (show i < NS.length by omega)]
  rw [List.getElem?_eq_getElem (show i < NS.length by omega)] at h3
  exact List.mem_of_getElem? h3

def slp (NS : List Nd) : List Int → Nat → Nat → Option Nat
 | [], i, s => some s
 | r :: rs, i, s => (sl1 NS i s r).bind fun k => slp NS rs (i + 1) (s + k)
theorem slp_iff {NS : List Nd} (hN : NS.length ≤ 1024) : ∀ (rs : List Int) (i s t : Nat), slp NS rs i s = some t ↔ ∃ es : List E, bdL es s = rs ∧ Em NS s (flL es s) ∧ t = s + szL es ∧ ∀ j e, es[j]? = some e → Gd (i + j) e
 | [], i, s, t => by
  constructor
  ·intro h; cases h; exact ⟨[], rfl, by simp [flL, Em], rfl, by intro j e h; simp at h⟩
  ·rintro ⟨es, h1, h2, h3, h4⟩
   have : es = [] := List.length_eq_zero_iff.1 (by rw [← bdL_len es s, h1]; rfl)
   subst this
   rw [h3]; rfl
 | r :: rs, i, s, t => by
  simp only [slp]
  constructor
  ·intro h
   cases hs : sl1 NS i s r with
   | none => rw [hs] at h; cases h
   | some k =>
    rw [hs] at h
    obtain ⟨e, rfl, hg, hm, hr⟩ := (sl1_iff hN).1 hs
    obtain ⟨es, h1, h2, h3, h4⟩ := (slp_iff hN rs (i + 1) (s + e.size) t).1 h
    refine ⟨e :: es, by simp [bdL, h1, hr], ?_, by rw [h3, szL]; omega, ?_⟩
    ·simp only [flL]
     exact em_app.2 ⟨hm, by rw [E.flat_len]; exact h2⟩
    ·intro j e' he
     cases j with
     | zero => cases he; exact hg
     | succ j => have := h4 j e' he; rwa [show i + 1 + j = i + (j + 1) by omega] at this
  ·rintro ⟨es, h1, h2, h3, h4⟩
   cases es with
   | nil => cases h1
   | cons e es =>
    simp only [bdL, List.cons.injEq] at h1
    simp only [flL] at h2
    obtain ⟨hm1, hm2⟩ := em_app.1 h2
    rw [E.flat_len] at hm2
    rw [(sl1_iff (bd := i) hN).2 ⟨e, rfl, h4 0 e rfl, hm1, h1.1.symm⟩, Option.bind_some]
    refine (slp_iff hN rs (i + 1) (s + e.size) t).2 ⟨es, h1.2, hm2, by rw [h3, szL]; omega, ?_⟩
    intro j e' he
    have := h4 (j + 1) e' he
    rwa [show i + (j + 1) = i + 1 + j by omega] at this

theorem slp_good {NS : List Nd} {BS : List Int} {root : Int} (hN : NS.length ≤ 1024) (hr : root = (NS.length : Int) - 1) : slp NS (BS ++ [root]) 0 0 = some NS.length ↔ Good BS NS := by
 rw [slp_iff hN]
 constructor
 ·rintro ⟨es, h1, h2, h3, h4⟩
  obtain ⟨s1, s2, rfl, ha, hb⟩ := bdL_split h1
  have hl2 : s2.length = 1 := by rw [← bdL_len s2 (0 + szL s1), hb]; rfl
  match s2, hl2 with
  | [ex], _ =>
   have hNS := em_all h2 (by rw [flL_len]; omega)
   rw [flL_app, Nat.zero_add] at hNS
   refine ⟨s1, ex, by simpa [flL] using hNS, ha.symm, ?_, ?_⟩
   ·intro j e he
    have hj : j < s1.length := (List.getElem?_eq_some_iff.1 he).1
    have := h4 j e (by rw [List.getElem?_append_left hj]; exact he)
    rwa [Nat.zero_add] at this
   ·have := h4 s1.length ex (by rw [List.getElem?_append_right (Nat.le_refl _)]; simp)
    rwa [Nat.zero_add] at this
 ·rintro ⟨es, ex, h1, h2, h3, h4⟩
  have hl : NS.length = szL es + ex.size := by rw [h1, List.length_append, flL_len, E.flat_len]
  refine ⟨es ++ [ex], ?_, ?_, by rw [szL_app, hl]; simp [szL], ?_⟩
  ·rw [bdL_app, ← h2, hr, hl]
   simp [bdL]
  ·rw [flL_app, Nat.zero_add]
   simp only [flL, List.append_nil]
   rw [← h1]
   exact em_self NS
  ·intro j e he
   rw [Nat.zero_add]
   by_cases hj : j < es.length
   ·rw [List.getElem?_append_left hj] at he; exact h3 j e he
   ·rw [List.getElem?_append_right (by omega)] at he
    have hj0 : j - es.length = 0 := by
     cases hh : j - es.length with
     | zero => rfl
     | succ m => rw [hh] at he; simp at he
    rw [hj0] at he
    cases he
    rw [show j = es.length by omega]
    exact h4

end Go.Proofs.YtbgmljmpmemfcaaGreat

/-
 Sound, as one plain answer.
-/
namespace Go.Proofs.YtbgmljmpmemfcaaGreat
open Lx Pz
set_option linter.unusedVariables false

theorem slp_snoc (NS : List Nd) (r : Int) : ∀ (A : List Int) (i s : Nat), slp NS (A ++ [r]) i s = (slp NS A i s).bind fun t => (sl1 NS (i + A.length) t r).bind fun k => some (t + k)
 | [], i, s => by simp only [List.nil_append, slp, Option.bind_some, List.length_nil, Nat.add_zero]
 | a :: A, i, s => by
  simp only [List.cons_append, slp, List.length_cons]
  cases sl1 NS i s a with
  | none => rfl
  | some k =>
   simp only [Option.bind_some]
   rw [slp_snoc NS r A (i + 1) (s + k), show i + 1 + A.length = i + (A.length + 1) by omega]
theorem slp_succ {NS : List Nd} {RS : List Int} {k s : Nat} (hk : k < RS.length) (h : slp NS (RS.take k) 0 0 = some s) : slp NS (RS.take (k + 1)) 0 0 = (sl1 NS k s (RS.getD k 0)).bind fun m => some (s + m) := by
 rw [List.take_succ_eq_append_getElem hk, slp_snoc, h, List.length_take, Nat.min_eq_left (by omega), Nat.zero_add, List.getD_eq_getElem?_getD, List.getElem?_eq_getElem hk]
 rfl
theorem slp_none {NS : List Nd} : ∀ (A B : List Int) (i s : Nat), slp NS A i s = none → slp NS (A ++ B) i s = none
 | [], B, i, s, h => by cases h
 | a :: A, B, i, s, h => by
  simp only [List.cons_append, slp] at h ⊢
  cases hs : sl1 NS i s a with
  | none => rfl
  | some k => rw [hs] at h; exact slp_none A B _ _ h
theorem slp_pre {NS : List Nd} {RS : List Int} {k : Nat} (h : slp NS (RS.take k) 0 0 = none) : slp NS RS 0 0 = none := by
 have := slp_none _ (RS.drop k) 0 0 h
 rwa [List.take_append_drop] at this
theorem slp_le {NS : List Nd} (hN : NS.length ≤ 1024) {A : List Int} {s : Nat} (h : slp NS A 0 0 = some s) : s ≤ NS.length := by
 obtain ⟨es, h1, h2, h3, -⟩ := (slp_iff hN A 0 0 s).1 h
 by_cases h0 : 0 < (flL es 0).length
 ·have := em_le h2 h0
  rw [flL_len] at this
  omega
 ·rw [flL_len] at h0
  omega

theorem szL_ge : ∀ es : List E, es.length ≤ szL es
 | [] => Nat.le_refl _
 | a :: es => by
  have := szL_ge es
  have := a.size_pos
  simp only [List.length_cons, szL]
  omega
theorem slp_cnt {NS : List Nd} (hN : NS.length ≤ 1024) {A : List Int} {s : Nat} (h : slp NS A 0 0 = some s) : A.length ≤ s := by
 obtain ⟨es, h1, h2, h3, -⟩ := (slp_iff hN A 0 0 s).1 h
 have := szL_ge es
 rw [← h1, bdL_len]
 omega

/-- The numbers of a walk are nodes. -/
theorem wk_mem {NS : List Nd} : ∀ (f : Nat) (root n : Int) (l : List Int), wk NS f root n = some l → ∀ z ∈ l, 0 ≤ z ∧ z < NS.length
 | 0, root, n, l, h => by cases h
 | f + 1, root, n, l, h => by
  unfold wk at h
  split at h
  ·cases h
  ·rename_i hc
   have key : ∀ (i : Nat) (o : List Int), wkI (wk NS f) root n (NS.getD root.toNat n0) i = some o → ∀ z ∈ o, 0 ≤ z ∧ z < (NS.length : Int) := by
    intro i
    induction i with
    | zero => intro o ho; cases ho; simp
    | succ i ih =>
     intro o ho
     simp only [wkI] at ho
     cases hs : wkI (wk NS f) root n (NS.getD root.toNat n0) i with
     | none => rw [hs] at ho; cases ho
     | some o1 =>
      rw [hs] at ho
      rcases wkS_inv ho with ⟨-, -, rfl⟩ | ⟨-, m, l1, hl1, rfl⟩
      ·exact ih o hs
      ·intro z hz
       rcases List.mem_append.1 hz with hz | hz
       ·exact ih o1 hs z hz
       ·exact wk_mem f _ _ l1 hl1 z hz
   cases hs : wkI (wk NS f) root n (NS.getD root.toNat n0) 3 with
   | none => rw [hs] at h; cases h
   | some o =>
    rw [hs] at h
    cases h
    intro z hz
    rcases List.mem_append.1 hz with hz | hz
    ·exact key 3 o hs z hz
    ·simp at hz; subst hz; omega

theorem sl1_wk {NS : List Nd} {bd s : Nat} {root : Int} {l : List Int} (h : wk NS (root.toNat + 1) root 1024 = some l) : sl1 NS bd s root = if l = rg s l.length ∧ (l.all fun z => ownP (NS.getD z.toNat n0) bd) = true then some l.length else none := by
 unfold sl1; rw [h]
theorem sl1_no {NS : List Nd} {bd s : Nat} {root : Int} (h : wk NS (root.toNat + 1) root 1024 = none) : sl1 NS bd s root = none := by
 unfold sl1; rw [h]
theorem sl1_bad {NS : List Nd} {bd s k : Nat} {root : Int} {l : List Int} (h : wk NS (root.toNat + 1) root 1024 = some l) (hk : k < l.length) (hb : ¬ (l.getD k 0 = (s : Int) + k ∧ ownP (NS.getD (l.getD k 0).toNat n0) bd = true)) : sl1 NS bd s root = none := by
 rw [sl1_wk h, if_neg]
 rintro ⟨h1, h2⟩
 have hg : l.getD k 0 = l[k] := by rw [List.getD_eq_getElem?_getD, List.getElem?_eq_getElem hk]; rfl
 refine hb ⟨?_, ?_⟩
 ·rw [h1]
  simp only [rg, List.getD_eq_getElem?_getD, List.getElem?_map, List.getElem?_range', hk]
  simp
 ·rw [hg]; exact List.all_eq_true.1 h2 _ (List.getElem_mem hk)
theorem rg_pre {l : List Int} {s : Nat} (h : ∀ j, j < l.length → l.getD j 0 = (s : Int) + j) : l = rg s l.length := by
 apply List.ext_getElem
 ·rw [rg_len]
 ·intro j h1 h2
  have := h j h1
  rw [List.getD_eq_getElem?_getD, List.getElem?_eq_getElem h1] at this
  simp only [Option.getD_some] at this
  rw [this]
  simp [rg]
theorem sl1_ok {NS : List Nd} {bd s : Nat} {root : Int} {l : List Int} (h : wk NS (root.toNat + 1) root 1024 = some l) (hb : ∀ j, j < l.length → l.getD j 0 = (s : Int) + j ∧ ownP (NS.getD (l.getD j 0).toNat n0) bd = true) : sl1 NS bd s root = some l.length := by
 rw [sl1_wk h, if_pos]
 refine ⟨rg_pre fun j hj => (hb j hj).1, ?_⟩
 rw [List.all_eq_true]
 intro z hz
 obtain ⟨j, hj, rfl⟩ := List.mem_iff_getElem.1 hz
 have := (hb j hj).2
 have hg : l.getD j 0 = l[j] := by rw [List.getD_eq_getElem?_getD, List.getElem?_eq_getElem hj]; rfl
 rwa [hg] at this

def sndP (NM : List Txt) (BS : List Int) (NS : List Nd) (root : Int) : Bool :=
 NM.length == BS.length && (decide (NS.length ≤ 1024) && (root == (NS.length : Int) - 1 && (nmB NM && (slp NS (BS ++ [root]) 0 0 == some NS.length))))
theorem snd_chk (NM : List Txt) (BS : List Int) (NS : List Nd) (root : Int) : sndP NM BS NS root = chkP NM BS NS root := by
 rw [Bool.eq_iff_iff]
 simp only [sndP, chkP, endsP, wthn, Bool.and_eq_true, beq_iff_eq, decide_eq_true_eq, ord_good]
 constructor
 ·rintro ⟨h1, h2, h3, h4, h5⟩
  have hg := (slp_good h2 h3).1 h5
  refine ⟨h1, ⟨⟨?_, by omega⟩, h3⟩, hg, h4⟩
  obtain ⟨es, ex, hn, -⟩ := hg
  have := ex.size_pos
  rw [hn, List.length_append, flL_len, E.flat_len]
  omega
 ·rintro ⟨h1, ⟨⟨h2, h2'⟩, h3⟩, h4, h5⟩
  exact ⟨h1, by omega, h3, h5, (slp_good (by omega) h3).2 h4⟩

end Go.Proofs.YtbgmljmpmemfcaaGreat

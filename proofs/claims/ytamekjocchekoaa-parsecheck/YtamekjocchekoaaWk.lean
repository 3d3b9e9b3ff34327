/-
  damaskref07.walk.
-/
import Derived.Test.YtamekjocchekoaaGr9
import Derived.Lib.SliceRun
namespace Go.Proofs.Ytamekjocchekoaa
open Go.RowKit Go.IntWalk Lx Pz
set_option linter.unusedVariables false

set_option maxHeartbeats 2000000 in
theorem varity_any (op : Int) (W : World) : Calls Try.prog 58 #[.int .i64 op] W fun e W' => e = .returned (.int .i64 (arZ op)) ∧ W' = W := by
  have key : (op < 1 ∧ arZ op = -1) ∨ (op = 4 ∧ arZ op = -1) ∨ (33 < op ∧ arZ op = -1) ∨ (1 ≤ op ∧ op < 4 ∧ arZ op = 0) ∨ (5 ≤ op ∧ op < 8 ∧ arZ op = 1) ∨ (28 < op ∧ op ≤ 33 ∧ arZ op = 1) ∨ (8 ≤ op ∧ op < 26 ∧ arZ op = 2) ∨ (26 ≤ op ∧ op ≤ 28 ∧ arZ op = 3) := by
    unfold arZ
    repeat' split
    all_goals omega
  rcases key with ⟨h1, h2⟩ | ⟨h1, h2⟩ | ⟨h1, h2⟩ | ⟨h1, h3, h2⟩ | ⟨h1, h3, h2⟩ | ⟨h1, h3, h2⟩ | ⟨h1, h3, h2⟩ | ⟨h1, h3, h2⟩
  all_goals
    rw [h2]
    clear h2
    have h4 : (op == 4) = decide (op = 4) := by rfl
    go_enter Try.func58, Try.ntmps58
    go_wp2
    all_goals
      go_ret
      exact ⟨rfl, rfl⟩

/-- One part. -/
def wkS (sub : Int → Int → Option (List Int)) (root n ar : Int) (i : Nat) (p : Int) (out : List Int) : Option (List Int) :=
  if ar ≤ i then (if p = 0 then some out else none)
  else if root ≤ p then none
  else match sub p (n - out.length - 1) with
    | none => none
    | some l => if n ≤ ((out ++ l).length : Int) then none else some (out ++ l)
def prW (x : Nd) (i : Nat) : Int := if i = 0 then x.a else if i = 1 then x.b else x.c
def wkI (sub : Int → Int → Option (List Int)) (root n : Int) (x : Nd) : Nat → Option (List Int)
  | 0 => some []
  | i + 1 => (wkI sub root n x i).bind (wkS sub root n (arZ x.op) i (prW x i))
def wk (NS : List Nd) : Nat → Int → Int → Option (List Int)
  | 0, _, _ => none
  | f + 1, root, n => if root < 0 ∨ (NS.length : Int) ≤ root ∨ n < 1 then none else (wkI (wk NS f) root n (NS.getD root.toNat n0) 3).map (· ++ [root])

theorem wkS_lt {sub : Int → Int → Option (List Int)} {root n ar : Int} {i : Nat} {p : Int} {out out' : List Int} (h : wkS sub root n ar i p out = some out') (hl : (out.length : Int) < n) : (out'.length : Int) < n := by
  unfold wkS at h
  split at h
  · split at h
    · cases h; exact hl
    · cases h
  · split at h
    · cases h
    · split at h
      · cases h
      · split at h
        · cases h
        · rename_i hh; cases h; omega
theorem wkI_lt {sub : Int → Int → Option (List Int)} {root n : Int} {x : Nd} (hn : 1 ≤ n) : ∀ (i : Nat) (l : List Int), wkI sub root n x i = some l → (l.length : Int) < n
  | 0, l, h => by cases h; simp; omega
  | i + 1, l, h => by
    simp only [wkI] at h
    cases hs : wkI sub root n x i with
    | none => rw [hs] at h; cases h
    | some o => rw [hs] at h; exact wkS_lt h (wkI_lt hn i o hs)
theorem wk_len {NS : List Nd} {f : Nat} {root n : Int} {l : List Int} (h : wk NS f root n = some l) : 0 < l.length ∧ (l.length : Int) ≤ n := by
  cases f with
  | zero => cases h
  | succ f =>
    unfold wk at h
    split at h
    · cases h
    · rename_i hc
      cases hs : wkI (wk NS f) root n (NS.getD root.toNat n0) 3 with
      | none => rw [hs] at h; cases h
      | some o =>
        rw [hs] at h
        have := wkI_lt (by omega) 3 o hs
        cases h
        rw [List.length_append, List.length_singleton]
        omega

theorem list_ins {W : World} {base : Nat} {A B : List Int} {v : Value} {ops : Array Oper} {rest : List Oper} {o : Oper} {a : Act} {Q : Exit → Act → World → Prop}
    (hgd : o.guard = none) (s x : Operand) (ho : o.op = .call { callee := .builtin .append, args := #[s, x], argTypes := #[23, 23] })
    (hs : a.eval s = v) (hO : W.ownsRow base 3 1 v A.length (in64 A)) (hbase : base ≤ W.heap.size) (q c b2 : Nat) (hx : a.eval x = .slice (some ⟨q, 0, none⟩) B.length c) (hc : W.ownsRow b2 3 1 (.slice (some ⟨q, 0, none⟩) B.length c) B.length (in64 B)) (h3 : A.length ≤ 2000000) (h4 : B.length ≤ 2000000) (h0 : 0 < B.length)
    (h : ∀ g cap w', w'.ownsRow base 3 1 (.slice (some ⟨g, 0, none⟩) (A.length + B.length) cap) (A ++ B).length (in64 (A ++ B)) → (∀ w0, Below base w0 W → Below base w0 w') → wpList Try.prog ops Q rest (a.put o.dst (.slice (some ⟨g, 0, none⟩) (A.length + B.length) cap)) w') :
    wpList Try.prog ops Q (o :: rest) a W := by
  obtain ⟨i0, hi0, hz0, hz1, hz2⟩ := info_parts infoInt
  refine wpList_append_lies W hgd s x 23 ho base 3 i0 _ 1 8 Try.underlying23 hi0 hz0 hz1 hz2 rfl (by omega) v A.length (in64 A) hs hO ⟨q, 0, none⟩ B.length c (in64 B) hx (by simp) (hc.cells rfl) (by simp [Value.oneCell']) (by omega) (by unfold maxLen; omega) (by omega) hbase W.heap.size rfl ?_
  intro g cap w' hown hgrow hat hlt
  exact h g cap w' (by rw [List.length_append, show in64 (A ++ B) = in64 A ++ in64 B from List.map_append]; exact hown) (fun w0 hb => hb.grown hgrow hbase fun k hk => (owns_block hO k hk).1)

theorem own_mono {w : World} {base base' : Nat} {e : TypeId} {size : Nat} {v : Value} {n : Nat} {xs : List Value} (h : w.ownsRow base e size v n xs) (hb : base' ≤ base) : w.ownsRow base' e size v n xs := by
  obtain ⟨h1, h2⟩ := h
  refine ⟨h1, ?_⟩
  rcases h2 with h2 | ⟨g, cap, cur, hv, hg, rest⟩
  · exact .inl h2
  · exact .inr ⟨g, cap, cur, hv, Nat.le_trans hb hg, rest⟩

def WkP (NS : List Nd) (f : Nat) (root n : Int) (W : World) (e : Ending) (W' : World) : Prop :=
  (wk NS f root n = none ∧ e = .returned (.slice none 0 0) ∧ Below W.heap.size W W') ∨
  (∃ l g c, wk NS f root n = some l ∧ e = .returned (.slice (some ⟨g, 0, none⟩) l.length c) ∧ W'.ownsRow W.heap.size 3 1 (.slice (some ⟨g, 0, none⟩) l.length c) l.length (in64 l) ∧ Below W.heap.size W W')

set_option maxRecDepth 100000 in
set_option maxHeartbeats 8000000 in
theorem walk_any {NS : List Nd} {da : Option Addr} {dl dc : Nat} (hd : dl ≤ 1024) : ∀ (f : Nat) (root n : Int) (W : World), Nz W da dl dc NS → root < f → 0 ≤ n → n ≤ 1024 →
    Calls Try.prog 40 #[.slice da dl dc, .int .i64 root, .int .i64 n] W fun e W' => WkP NS f root n W e W' := by
  intro f
  induction f with
  | zero =>
    intro root n W hN hr h0 h1
    have hr0 : root < 0 := by omega
    have HF : Hid (wk NS 0 root n = none) := hide rfl
    clear hN hr
    go_enter Try.func40, Try.ntmps40
    go_wp2_with fail
    go_ret
    exact .inl ⟨HF.out, rfl, Below.refl _ _⟩
  | succ f ih =>
    intro root n W hN hr h0 h1
    have HIH := hide ih
    have HNZ := hide hN
    have HL := hide hN.len
    have HR := hide hr
    clear ih hN hr
    by_cases hbad : root < 0 ∨ (dl : Int) ≤ root ∨ n < 1
    · have HF : Hid (wk NS (f + 1) root n = none) := hide (by unfold wk; rw [if_pos (by rw [HL.out]; exact hbad)])
      rcases (show root < 0 ∨ (0 ≤ root ∧ (dl : Int) ≤ root) ∨ (0 ≤ root ∧ root < dl ∧ n < 1) by omega) with h2 | ⟨h2, h3⟩ | ⟨h2, h3, h4⟩
      all_goals
        go_enter Try.func40, Try.ntmps40
        go_wp2_with fail
        go_ret
        exact .inl ⟨HF.out, rfl, Below.refl _ _⟩
    · obtain ⟨r, hr⟩ : ∃ r : Nat, root = r := ⟨root.toNat, by omega⟩
      subst hr
      have hrl : r < dl := by omega
      have hn1 : 1 ≤ n := by omega
      have HF : Hid (wk NS (f + 1) r n = (wkI (wk NS f) r n (NS.getD r n0) 3).map (· ++ [(r : Int)])) := hide (by rw [wk, if_neg (by rw [HL.out]; exact hbad)]; rfl)
      clear hbad
      obtain ⟨g, off, rfl, hat⟩ := HNZ.out.at (by omega)
      obtain ⟨e0, e1, e2, e3, e4, e5, e6, e7, e8⟩ := hat r hrl
      clear hat
      generalize NS.getD r n0 = x at *
      have hi0 : (0 : Int) ≤ r := by omega
      have hi1 : (r : Int) < dl := by omega
      have HC0 := hide ((HasC.new W 37 (ndA x)).alloc (.cells #[.int .i64 x.a, .int .i64 x.b, .int .i64 x.c] 3))
      have HC1 := hide (HasC.new (W.alloc (.cells (ndA x) 37)) 3 #[.int .i64 x.a, .int .i64 x.b, .int .i64 x.c])
      have HB0 := hide (bel (bel1 W (.cells (ndA x) 37)) (bel1 (W.alloc (.cells (ndA x) 37)) (.cells #[.int .i64 x.a, .int .i64 x.b, .int .i64 x.c] 3)))
      have HZ0 : Hid (((W.alloc (.cells (ndA x) 37)).alloc (.cells #[.int .i64 x.a, .int .i64 x.b, .int .i64 x.c] 3)).heap.size = W.heap.size + 2) := hide (by simp)
      rw [World.size_alloc] at HC1
      obtain ⟨W2, hW2⟩ : ∃ W2, W2 = (W.alloc (.cells (ndA x) 37)).alloc (.cells #[.int .i64 x.a, .int .i64 x.b, .int .i64 x.c] 3) := ⟨_, rfl⟩
      rw [← hW2] at HC0 HC1 HB0 HZ0
      have HW2 := hide hW2
      clear hW2
      have heq : ∀ (w : World) (a : Option Addr) (n c : Nat), (binOp .eql 23 (.slice a n c) (.slice none 0 0)).run Try.prog w = .ok (.bool a.isNone) w := fun w a n c => Lib.run_eql_slice_nil w 23 3 a n c 0 0 Try.underlying23
      go_enter Try.func40, Try.ntmps40
      go_wp2_with fail
      generalize decide ((r : Int) < 0) = dd1
      generalize decide (dl ≤ r) = dd2
      generalize decide (n < 1) = dd3
      go_loopw [7, 10] (fun v i wr => ∃ (k : Nat) (L : List Int), k ≤ 3 ∧ i = .int .i64 k ∧ Hid (wkI (wk NS f) r n x k = some L) ∧ Hid (wr.ownsRow (W.heap.size + 2) 3 1 v L.length (in64 L)) ∧ Hid (Below W2.heap.size W2 wr)) (fun _ i _ => 3 - (intOf i).toNat)
      case atStart => exact ⟨0, [], by omega, rfl, hide rfl, hide (World.ownsRow_nil _ _ _ _), hide (by rw [HW2.out]; exact Below.refl _ _)⟩
      case round =>
        obtain ⟨k, L, hk, rfl, HI, HO, HB⟩ := hrel
        rename World => V
        obtain ⟨va, vc, rfl, hIz⟩ := Iz.of_owns HO.out
        clear hIz
        have hLn := wkI_lt hn1 k L HI.out
        by_cases hlt : k < 3
        · obtain ⟨f0, -⟩ := (HC0.out.below HB.out).nine
          have hp : V.cell? ⟨W.heap.size + 1, k, none⟩ = some (.int .i64 (prW x k)) := by
            refine (HC1.out.below HB.out).cell k ?_
            rcases (show k = 0 ∨ k = 1 ∨ k = 2 by omega) with rfl | rfl | rfl <;> rfl
          have HS : Hid (wkI (wk NS f) r n x (k + 1) = wkS (wk NS f) r n (arZ x.op) k (prW x k) L) := hide (by rw [wkI, HI.out]; rfl)
          have HAr := hide fun W => varity_any x.op W
          have hk0 : (0 : Int) ≤ k := by omega
          have hk3 : (k : Int) < 3 := by omega
          have HNone : Hid (wkI (wk NS f) r n x (k + 1) = none → wk NS (f + 1) r n = none) := hide (by
            intro h
            rw [HF.out]
            have : ∀ m, wkI (wk NS f) r n x (k + 1 + m) = none := by
              intro m
              induction m with
              | zero => exact h
              | succ m ih => show (wkI (wk NS f) r n x (k + 1 + m)).bind _ = none; rw [ih]; rfl
            have h3 := this (3 - (k + 1))
            rw [show k + 1 + (3 - (k + 1)) = 3 by omega] at h3
            rw [h3]
            rfl)
          generalize arZ x.op = ar at *
          generalize prW x k = p at *
          unfold wkS at HS
          by_cases har : ar ≤ k
          · rw [if_pos har] at HS
            by_cases hp0 : p = 0
            · rw [if_pos hp0] at HS
              subst hp0
              go_wp2_with fail
              refine (HAr.out _).mono ?_
              rintro e V1 ⟨rfl, rfl⟩
              go_wp2_with fail
              go_roundw
              case rel => exact ⟨k + 1, L, by omega, by go_num, hide HS.out, hide HO.out, hide HB.out⟩
              case measure => simp [intOf]; omega
            · rw [if_neg hp0] at HS
              have HE := hide (HNone.out HS.out)
              have hp1 : (p != 0) = true := by simpa using hp0
              go_wp2_with fail
              refine (HAr.out _).mono ?_
              rintro e V1 ⟨rfl, rfl⟩
              go_wp2_with fail
              go_ret
              exact .inl ⟨HE.out, rfl, HB0.out.trans (HB.out.mono HB0.out.size)⟩
          · rw [if_neg har] at HS
            by_cases hpr : (r : Int) ≤ p
            · rw [if_pos hpr] at HS
              have HE := hide (HNone.out HS.out)
              go_wp2_with fail
              refine (HAr.out _).mono ?_
              rintro e V1 ⟨rfl, rfl⟩
              go_wp2_with fail
              go_ret
              exact .inl ⟨HE.out, rfl, HB0.out.trans (HB.out.mono HB0.out.size)⟩
            · rw [if_neg hpr] at HS
              have HWk := hide (HIH.out p (n - L.length - 1) V (HNZ.out.later (HB0.out.trans (HB.out.mono HB0.out.size))) (by have := HR.out; omega) (by omega) (by omega))
              go_wp2_with fail
              refine (HAr.out _).mono ?_
              rintro e V1 ⟨rfl, rfl⟩
              go_wp2_with fail
              refine (HWk.out).mono ?_
              rintro e V2 (⟨hw, rfl, hb2⟩ | ⟨l, g2, c2, hw, rfl, ho2, hb2⟩)
              · rw [hw] at HS
                have HE := hide (HNone.out HS.out)
                have HB2 := hide (bel HB.out hb2)
                clear hb2 hw
                go_wp2_with fail
                go_ret
                exact .inl ⟨HE.out, rfl, HB0.out.trans (HB2.out.mono HB0.out.size)⟩
              · obtain ⟨hl0, hl1⟩ := wk_len hw
                rw [hw] at HS
                have HB2 := hide (bel HB.out hb2)
                have HO2 := hide (owns_kp HO.out (Kp.of_below [] hb2) (by decide))
                have HL2 := hide ho2
                have hs2 : W.heap.size + 2 ≤ V2.heap.size := by have := HB2.out.size; rw [HZ0.out] at this; exact this
                have HSZ := hide hs2
                clear hb2 hw ho2 HO hs2
                by_cases hbig : n ≤ ((L ++ l).length : Int)
                · rw [List.length_append] at hbig
                  omega
                · have HE := hide (HS.out.trans (if_neg hbig))
                  have hbig2 : ¬ n ≤ (L.length : Int) + (l.length : Int) := by rw [List.length_append] at hbig; omega
                  clear hbig
                  go_wp2_with (at_builtin; refine list_ins (A := L) (B := l) rfl _ _ rfl rfl HO2.out HSZ.out g2 c2 _ rfl HL2.out (by omega) (by omega) hl0 ?_; intro g4 cap4 V4 hown hold; have HB4 := hide (show Below W2.heap.size W2 V4 by have := HB2.out; rw [HZ0.out] at this ⊢; exact hold W2 this); have HO4 := hide hown; clear hown hold)
                  go_roundw
                  case rel => exact ⟨k + 1, L ++ l, by omega, by go_num, hide HE.out, hide HO4.out, hide HB4.out⟩
                  case measure => simp [intOf]; omega
        · obtain rfl : k = 3 := by omega
          have HE : Hid (wk NS (f + 1) r n = some (L ++ [(r : Int)])) := hide (by rw [HF.out, HI.out]; rfl)
          have HSZ : Hid (W.heap.size + 2 ≤ V.heap.size) := hide (by have := HB.out.size; rw [HZ0.out] at this; exact this)
          go_wp2_with (at_builtin; refine list_in (A := L) rfl _ _ rfl rfl (HO.out.alloc _) (by have := HSZ.out; simp; omega) _ r rfl (HasC.new _ _ _) (by omega) ?_; intro g4 cap4 V4 hown hk4 hold; have HB4 := hide (show Below W2.heap.size W2 V4 by have := bel HB.out (bel1 V (.cells #[.int .i64 (r : Int)] 3)); rw [HZ0.out] at this ⊢; exact hold W2 this HZ0.out); have HO4 := hide hown; clear hown hk4 hold)
          go_ret
          refine .inr ⟨L ++ [(r : Int)], g4, cap4, HE.out, ?_, ?_, HB0.out.trans (HB4.out.mono HB0.out.size)⟩
          · rw [List.length_append]; rfl
          · have h4 := HO4.out
            rw [List.length_append] at h4 ⊢
            exact own_mono h4 (by omega)

end Go.Proofs.Ytamekjocchekoaa

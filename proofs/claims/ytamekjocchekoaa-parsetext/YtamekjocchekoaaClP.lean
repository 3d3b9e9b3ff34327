/-
  A part of a list of tokens.
-/
import Derived.Test.YtamekjocchekoaaMk
import Derived.Test.YtamekjocchekoaaGtA
namespace Go.Proofs.Ytamekjocchekoaa
open Go.RowKit Go.IntWalk Lx Pz
set_option linter.unusedVariables false

theorem Tz.sub {W : World} {a : Option Addr} {n cap : Nat} {T : List Tok} (h : Tz W a n cap T) {i j : Nat} (hij : i ≤ j) (hj : j ≤ n) : Tz W (if cap = i then a else a.map (·.add (i * 3))) (j - i) (cap - i) ((T.take j).drop i) := by
  have hl := h.t.len
  have hle := h.t.le
  have hmx := h.t.max
  refine ⟨⟨by simp; omega, by omega, by omega, ?_, ?_⟩, ?_⟩
  · intro e
    split at e
    · omega
    · cases a with
      | none => have := h.t.nil rfl; omega
      | some x => cases e
  · by_cases h0 : j - i = 0
    · exact .inl h0
    · obtain ⟨b, off, rfl, _, hc⟩ := h.t.at (by omega)
      refine .inr ⟨b, off + i * 3, ?_, fun k hk => ?_⟩
      · rw [if_neg (by omega)]
        simp [Addr.add_lit]
      · have := hc (i + k) (by omega)
        have e : ((T.take j).drop i).getD k t0 = T.getD (i + k) t0 := by
          simp only [List.getD_eq_getElem?_getD, List.getElem?_drop, List.getElem?_take]
          rw [if_pos (by omega)]
        rw [e, show off + i * 3 + k * 3 = off + (i + k) * 3 by omega]
        exact this
  · intro x hx
    split at hx
    · exact h.ty x hx
    · cases a with
      | none => cases hx
      | some y =>
        simp only [Option.map_some, Option.some.injEq] at hx
        subst hx
        obtain ⟨cs, fr, hc⟩ := h.ty y rfl
        exact ⟨cs, fr, by rw [show (y.add (i * 3)).block = y.block by unfold Addr.add; split <;> rfl]; exact hc⟩

theorem elemT : Try.prog.elem 44 = 49 := by kernel_rfl
theorem sizeT : ∀ w : World, (sizeOf 49).run Try.prog w = .ok 3 w := by
  intro w
  simp [sizeOf, go_sem]
  rfl
theorem undT : Try.prog.underlying 44 = some (.slice (Try.prog.elem 44)) := by kernel_rfl

theorem run_lh {a : Option Addr} {n cap i j : Nat} (hij : i ≤ j) (hj : j ≤ cap) (w : World) : (Instr.sliceAt 44 (.slice a n cap) (some (.int .i64 i)) (some (.int .i64 j)) none).run Try.prog w = .ok (.slice (if cap = i then a else a.map (·.add (i * 3))) (j - i) (cap - i)) w := by
  rw [run_sliceAt_slice w 44 _ _ _ _ undT, run_slice_lh w 44 a n cap undT .i64 .i64 i j (by omega) (by omega) (by omega), elemT, sizeT]
  simp [Result.andThen, sliced]
theorem run_h {a : Option Addr} {n cap j : Nat} (hj : j ≤ cap) (w : World) : (Instr.sliceAt 44 (.slice a n cap) none (some (.int .i64 j)) none).run Try.prog w = .ok (.slice (if cap = 0 then a else a.map (·.add (0 * 3))) (j - 0) (cap - 0)) w := by
  rw [run_sliceAt_slice w 44 _ _ _ _ undT, run_slice_h w 44 a n cap undT .i64 j (by omega) (by omega), elemT, sizeT]
  simp [Result.andThen, sliced]
theorem run_l {a : Option Addr} {n cap i : Nat} (hi : i ≤ n) (w : World) : (Instr.sliceAt 44 (.slice a n cap) (some (.int .i64 i)) none none).run Try.prog w = .ok (.slice (if cap = i then a else a.map (·.add (i * 3))) (n - i) (cap - i)) w := by
  rw [run_sliceAt_slice w 44 _ _ _ _ undT, run_slice_l w 44 a n cap undT .i64 i (by omega) (by omega), elemT, sizeT]
  simp [Result.andThen, sliced]

theorem sub_lh {W : World} {a : Option Addr} {n cap : Nat} {T : List Tok} {ops : Array Oper} {rest : List Oper} {o : Oper} {A : Act} {Q : Exit → Act → World → Prop} (hgd : o.guard = none) (s lo hi : Operand)
    (ho : o.op = .slice 44 s (some lo) (some hi) none) (hs : A.eval s = .slice a n cap) (hT : Tz W a n cap T) (i j : Nat) (hlo : A.eval lo = .int .i64 i) (hhi : A.eval hi = .int .i64 j) (hij : i ≤ j) (hj : j ≤ n)
    (h : ∀ a' c', Tz W a' (j - i) c' ((T.take j).drop i) → wpList Try.prog ops Q rest (A.put o.dst (.slice a' (j - i) c')) W) : wpList Try.prog ops Q (o :: rest) A W := by
  refine wpList_plain hgd fun K hK => ?_
  have hle := hT.t.le
  unfold Oper.wp execOp
  simp only [ho, hs, hlo, hhi, Option.map_some, Option.map_none, Sem.run_bind, run_lh (a := a) (n := n) hij (show j ≤ cap by omega), Result.andThen_ok, Sem.run_pure]
  exact hK _ _ (h _ _ (hT.sub hij hj))
theorem sub_h {W : World} {a : Option Addr} {n cap : Nat} {T : List Tok} {ops : Array Oper} {rest : List Oper} {o : Oper} {A : Act} {Q : Exit → Act → World → Prop} (hgd : o.guard = none) (s hi : Operand)
    (ho : o.op = .slice 44 s none (some hi) none) (hs : A.eval s = .slice a n cap) (hT : Tz W a n cap T) (j : Nat) (hhi : A.eval hi = .int .i64 j) (hj : j ≤ n)
    (h : ∀ a' c', Tz W a' j c' (T.take j) → wpList Try.prog ops Q rest (A.put o.dst (.slice a' j c')) W) : wpList Try.prog ops Q (o :: rest) A W := by
  refine wpList_plain hgd fun K hK => ?_
  have hle := hT.t.le
  unfold Oper.wp execOp
  simp only [ho, hs, hhi, Option.map_some, Option.map_none, Sem.run_bind, run_h (a := a) (n := n) (show j ≤ cap by omega), Result.andThen_ok, Sem.run_pure]
  exact hK _ _ (h _ _ (hT.sub (i := 0) (by omega) hj))
theorem sub_l {W : World} {a : Option Addr} {n cap : Nat} {T : List Tok} {ops : Array Oper} {rest : List Oper} {o : Oper} {A : Act} {Q : Exit → Act → World → Prop} (hgd : o.guard = none) (s lo : Operand)
    (ho : o.op = .slice 44 s (some lo) none none) (hs : A.eval s = .slice a n cap) (hT : Tz W a n cap T) (i : Nat) (hlo : A.eval lo = .int .i64 i) (hi : i ≤ n)
    (h : ∀ a' c', Tz W a' (n - i) c' (T.drop i) → wpList Try.prog ops Q rest (A.put o.dst (.slice a' (n - i) c')) W) : wpList Try.prog ops Q (o :: rest) A W := by
  refine wpList_plain hgd fun K hK => ?_
  have hle := hT.t.le
  unfold Oper.wp execOp
  simp only [ho, hs, hlo, Option.map_some, Option.map_none, Sem.run_bind, run_l (a := a) (n := n) (cap := cap) hi, Result.andThen_ok, Sem.run_pure]
  refine hK _ _ (h _ _ ?_)
  have := hT.sub hi (Nat.le_refl n)
  rw [show T.take n = T by rw [← hT.t.len]; exact List.take_length] at this
  exact this

end Go.Proofs.Ytamekjocchekoaa

/-
  ref.closes: does the bracket at one place close at the last?
-/
namespace Go.Proofs.Ytamekjocchekoaa
open Go.RowKit Go.IntWalk Lx Pz
set_option linter.unusedVariables false

theorem cls_iff {L : List Tk} {f m : Nat} (hl : L.length = m + 1) (hf : f < m) : (∃ M, L.drop f = .lp :: (M ++ [.rp]) ∧ Bal M) ↔ L[f]? = some .lp ∧ L[m]? = some .rp ∧ Bal ((L.take m).drop (f + 1)) := by
  have e1 : L.drop f = L[f] :: L.drop (f + 1) := List.drop_eq_getElem_cons (by omega)
  have e2 : L.drop (f + 1) = (L.take m).drop (f + 1) ++ [L[m]] := by
    conv => lhs; rw [show L = L.take m ++ [L[m]] from by rw [← List.take_succ_eq_append_getElem (by omega), ← hl, List.take_length]]
    rw [List.drop_append_of_le_length (by simp; omega)]
  constructor
  · rintro ⟨M, h, hb⟩
    rw [e1, e2] at h
    injection h with h1 h2
    have h3 := List.append_inj_left' h2 rfl
    have h4 := List.append_inj_right' h2 rfl
    refine ⟨by rw [List.getElem?_eq_getElem (by omega), h1], ?_, by rw [h3]; exact hb⟩
    rw [List.getElem?_eq_getElem (by omega)]
    simp only [List.cons.injEq, and_true] at h4
    rw [h4]
  · rintro ⟨h1, h2, hb⟩
    rw [List.getElem?_eq_getElem (by omega)] at h1 h2
    refine ⟨_, ?_, hb⟩
    rw [e1, e2, Option.some.inj h1, Option.some.inj h2]
theorem cls_short {L : List Tk} {f m : Nat} (hl : L.length = m + 1) (hf : m ≤ f) : ¬ ∃ M, L.drop f = .lp :: (M ++ [.rp]) ∧ Bal M := by
  rintro ⟨M, h, -⟩
  have := congrArg List.length h
  simp at this
  omega

/-- A token's cells. -/
theorem Tz.at {W : World} {a : Option Addr} {n cap : Nat} {T : List Tok} (h : Tz W a n cap T) {i : Nat} (hi : i < n) : ∃ g off, a = some ⟨g, off, none⟩ ∧ W.cell? ⟨g, off + i * 3, none⟩ = some (.int .i64 (T.getD i t0).kind) ∧ W.cell? ⟨g, off + i * 3 + 1, none⟩ = some (.string (sB (T.getD i t0).text)) ∧ W.cell? ⟨g, off + i * 3 + 2, none⟩ = some (.int .i64 ((T.getD i t0).pos : Int)) := by
  obtain ⟨g, off, ha, -, hc⟩ := h.t.at (by omega)
  exact ⟨g, off, ha, hc i hi⟩
theorem wf_at {T : List Tok} (hw : ∀ t ∈ T, Wf t) {i : Nat} (hi : i < T.length) : Wf (T.getD i t0) ∧ (T.map ab)[i]? = some (ab (T.getD i t0)) := by
  have e : T.getD i t0 = T[i] := by rw [List.getD_eq_getElem?_getD, List.getElem?_eq_getElem hi]; rfl
  rw [e]
  exact ⟨hw _ (List.getElem_mem hi), by rw [List.getElem?_map, List.getElem?_eq_getElem hi]; rfl⟩
theorem Tz.later {W W' : World} {a : Option Addr} {n cap : Nat} {T : List Tok} (h : Tz W a n cap T) (hb : Below W.heap.size W W') : Tz W' a n cap T := h.kp (Kp.of_below [] hb) (by simp)
theorem wf_sub {T : List Tok} (hw : ∀ t ∈ T, Wf t) (i j : Nat) : ∀ t ∈ (T.take j).drop i, Wf t := fun t ht => hw t (List.mem_of_mem_take (List.mem_of_mem_drop ht))
theorem wf_take {T : List Tok} (hw : ∀ t ∈ T, Wf t) (j : Nat) : ∀ t ∈ T.take j, Wf t := fun t ht => hw t (List.mem_of_mem_take ht)
theorem wf_drop {T : List Tok} (hw : ∀ t ∈ T, Wf t) (i : Nat) : ∀ t ∈ T.drop i, Wf t := fun t ht => hw t (List.mem_of_mem_drop ht)

def ClsP (W : World) (L : List Tk) (f : Nat) (e : Ending) (W' : World) : Prop :=
  (((∃ M, L.drop f = .lp :: (M ++ [.rp]) ∧ Bal M) ∧ e = .returned (.bool true)) ∨ ((¬ ∃ M, L.drop f = .lp :: (M ++ [.rp]) ∧ Bal M) ∧ e = .returned (.bool false))) ∧ Below W.heap.size W W'

set_option maxRecDepth 100000 in
set_option maxHeartbeats 4000000 in
theorem closes_any {W : World} {a : Option Addr} {m cap : Nat} {T : List Tok} (hT : Tz W a (m + 1) cap T) (hw : ∀ t ∈ T, Wf t) (hn : m + 1 ≤ 100000) (f : Nat) (hf : f ≤ m) :
    Calls Try.prog 80 #[.slice a (m + 1) cap, .int .i64 f, .int .i64 m] W fun e W' => ClsP W (T.map ab) f e W' := by
  have hl := hT.t.len
  have HL := hide (show (T.map ab).length = m + 1 by rw [List.length_map, hl])
  by_cases hfm : f = m
  · subst hfm
    have HF := hide (cls_short HL.out (Nat.le_refl f))
    clear hT hw hl
    go_enter Try.func80, Try.ntmps80
    go_wp2_with fail
    go_ret
    exact ⟨.inr ⟨HF.out, rfl⟩, Below.refl _ _⟩
  · have hlt : f < m := by omega
    have HI := hide (cls_iff HL.out hlt)
    obtain ⟨g, off, rfl, e0, e1, e2⟩ := hT.at (i := f) (by omega)
    obtain ⟨g', off', heq, m0, m1, m2⟩ := hT.at (i := m) (by omega)
    cases heq
    obtain ⟨w1, l1⟩ := wf_at hw (i := f) (by omega)
    obtain ⟨w2, l2⟩ := wf_at hw (i := m) (by omega)
    have HM1 := hide (mark_ab w1 (s := [40]) (by decide))
    have HM2 := hide (mark_ab w2 (s := [41]) (by decide))
    have HL1 := hide l1
    have HL2 := hide l2
    have HT := hide hT
    have HWf := hide hw
    clear hT hw w1 w2 l1 l2 hl
    have hi0 : (0 : Int) ≤ f := by omega
    have hi1 : (f : Int) < (m : Int) + 1 := by omega
    have hi2 : ((f : Int) < ((m + 1 : Nat) : Int)) := by omega
    have hi3 : ((m : Int) < ((m + 1 : Nat) : Int)) := by omega
    have hi4 : (0 : Int) ≤ m := by omega
    generalize T.getD f t0 = t at *
    generalize T.getD m t0 = u at *
    obtain ⟨k1, X1, p1⟩ := t
    obtain ⟨k2, X2, p2⟩ := u
    simp only at e0 e1 e2 m0 m1 m2 HM1 HM2
    go_enter Try.func80, Try.ntmps80
    go_wp2_with fail
    refine (qmark_any k1 p1 X1 [40] W).mono ?_
    rw [HM1.out]
    rintro e V ⟨rfl, hb⟩
    have HT1 := hide (HT.out.later hb)
    have HB1 := hide hb
    have n0 := (hb.cell (World.block_lt_of_cell? W _ m0)).trans m0
    have n1 := (hb.cell (World.block_lt_of_cell? W _ m1)).trans m1
    have n2 := (hb.cell (World.block_lt_of_cell? W _ m2)).trans m2
    clear hb m0 m1 m2 e0 e1 e2
    by_cases h1 : ab ⟨k1, X1, p1⟩ = mkT [40]
    · rw [decide_eq_true h1]
      have H1 := hide h1
      clear h1
      go_wp2_with fail
      refine (qmark_any k2 p2 X2 [41] V).mono ?_
      rw [HM2.out]
      rintro e V2 ⟨rfl, hb⟩
      have HT2 := hide (HT1.out.later hb)
      have HB2 := hide (bel HB1.out hb)
      clear hb n0 n1 n2 HT1 HB1
      by_cases h2 : ab ⟨k2, X2, p2⟩ = mkT [41]
      · rw [decide_eq_true h2]
        have H2 := hide h2
        clear h2
        go_wp2_with (refine sub_lh rfl _ _ _ rfl rfl HT2.out (f + 1) m (by rfl) (by rfl) (by omega) (by omega) ?_; intro a' c' hsub; have HSub := hide hsub; clear hsub)
        refine (outer_any HSub.out.t (wf_sub HWf.out _ _) (by omega)).mono ?_
        rw [List.map_drop, List.map_take]
        rintro e V3 (⟨hbal, v, rfl, -, hb⟩ | ⟨hbal, v, rfl, hb⟩)
        · have HR := hide (HI.out.2 ⟨by rw [HL1.out, H1.out]; rfl, by rw [HL2.out, H2.out]; rfl, hbal⟩)
          have HB3 := hide (bel HB2.out hb)
          clear hbal hb
          go_wp2_with fail
          go_ret
          exact ⟨.inl ⟨HR.out, rfl⟩, HB3.out⟩
        · have HR := hide (fun h => hbal (HI.out.1 h).2.2)
          have HB3 := hide (bel HB2.out hb)
          clear hbal hb
          go_wp2_with fail
          go_ret
          exact ⟨.inr ⟨HR.out, rfl⟩, HB3.out⟩
      · rw [decide_eq_false h2]
        have HR := hide (fun h => by
          have h3 := (HI.out.1 h).2.1
          rw [HL2.out] at h3
          exact h2 (Option.some.inj h3))
        clear h2
        go_wp2_with fail
        go_ret
        exact ⟨.inr ⟨HR.out, rfl⟩, HB2.out⟩
    · rw [decide_eq_false h1]
      have HR := hide (fun h => by
        have h3 := (HI.out.1 h).1
        rw [HL1.out] at h3
        exact h1 (Option.some.inj h3))
      clear h1
      go_wp2_with fail
      go_ret
      exact ⟨.inr ⟨HR.out, rfl⟩, HB1.out⟩

end Go.Proofs.Ytamekjocchekoaa

/-
  What cond, pair and single of the document's parser answer.
-/
namespace Go.Proofs.Ytamekjocchekoaa
open Go.RowKit Go.IntWalk Lx Pz
set_option linter.unusedVariables false

def PP (w W : World) (b : Nat) (nv bv : Value) (root : Int) (NM : List Txt) (BS : List Int) (NS : List Nd) (c : Nat) (L : List Tk) (e : Ending) (W' : World) : Prop :=
  (∃ ex, G NM c L ex ∧ e = .returned (.tuple #[.int .i64 (((NS.length + ex.size : Nat) : Int) - 1), .bool true]) ∧ (∃ dv', Mk w W' b nv bv dv' root NM BS (NS ++ ex.flat NS.length)) ∧ Kp SM W W') ∨
  ((∀ ex, ¬ G NM c L ex) ∧ (∃ z, e = .returned (.tuple #[.int .i64 z, .bool false])) ∧ Below w.heap.size w W')

/-- The contract of a function of the parser, at a list of tokens: f its number, xs the arguments behind the list. -/
def CC (w : World) (b : Nat) (nv bv : Value) (root : Int) (NM : List Txt) (BS : List Int) (f : FuncId) (xs : List Value) (c : Nat) (T : List Tok) : Prop :=
  ∀ (W : World) (dv : Value) (NS : List Nd) (a : Option Addr) (n cap : Nat), Mk w W b nv bv dv root NM BS NS → Tz W a n cap T → (∀ t ∈ T, Wf t) → NS.length + n ≤ 2000 →
    Calls Try.prog f (ptr b :: .slice a n cap :: xs).toArray W fun e W' => PP w W b nv bv root NM BS NS c (T.map ab) e W'

/-- A world behind a call that only adds memory. -/
theorem PP.from {w W V W' : World} {b : Nat} {nv bv : Value} {root : Int} {NM : List Txt} {BS : List Int} {NS : List Nd} {c : Nat} {L : List Tk} {e : Ending} (hk : Kp SM W V) (h : PP w V b nv bv root NM BS NS c L e W') : PP w W b nv bv root NM BS NS c L e W' := by
  rcases h with ⟨ex, h1, h2, h3, h4⟩ | h
  · exact .inl ⟨ex, h1, h2, h3, hk.trans h4⟩
  · exact .inr h
theorem PP.iff {w W W' : World} {b : Nat} {nv bv : Value} {root : Int} {NM : List Txt} {BS : List Int} {NS : List Nd} {c c' : Nat} {L L' : List Tk} {e : Ending} (hg : ∀ ex, G NM c L ex ↔ G NM c' L' ex) (h : PP w W b nv bv root NM BS NS c L e W') : PP w W b nv bv root NM BS NS c' L' e W' := by
  rcases h with ⟨ex, h1, h2, h3, h4⟩ | ⟨h1, h2⟩
  · exact .inl ⟨ex, (hg ex).1 h1, h2, h3, h4⟩
  · exact .inr ⟨fun ex hx => h1 ex ((hg ex).2 hx), h2⟩
theorem PP.no {w W W' : World} {b : Nat} {nv bv : Value} {root : Int} {NM : List Txt} {BS : List Int} {NS : List Nd} {c : Nat} {L : List Tk} {z : Int} (hg : ∀ ex, ¬ G NM c L ex) (hb : Below w.heap.size w W') : PP w W b nv bv root NM BS NS c L (.returned (.tuple #[.int .i64 z, .bool false])) W' := .inr ⟨hg, ⟨z, rfl⟩, hb⟩

theorem ret_pt {z z' : Int} (h : z = z') : Ending.returned (.tuple #[.int .i64 z, .bool true]) = .returned (.tuple #[.int .i64 z', .bool true]) := by rw [h]
/-- A level's mark by its token. -/
theorem tok_lev {t : Tok} (h : Wf t) (n : Nat) (hn : n < 7) : ((t.kind == 3) = false ∧ ∀ o, ab t ≠ .op n o) ∨ (t.kind = 3 ∧ ixZ (mks n) t.text = -1 ∧ ∀ o, ab t ≠ .op n o) ∨ (t.kind = 3 ∧ ∃ i, i < (opz n).length ∧ ixZ (mks n) t.text = (i : Int) ∧ ab t = .op n ((opz n).getD i 0)) := by
  rcases h with ⟨hk, _⟩ | ⟨hk, _⟩ | ⟨hk, hm⟩
  · exact .inl ⟨by rw [hk]; rfl, fun o => by simp [ab, hk]⟩
  · exact .inl ⟨by rw [hk]; rfl, fun o => by simp [ab, hk]⟩
  · have e : ab t = mkT t.text := by simp [ab, hk]
    rcases lev_ab n hn _ hm with ⟨h1, h2⟩ | ⟨i, h1, h2, h3⟩
    · refine .inr (.inl ⟨hk, h1, fun o ho => ?_⟩)
      rw [e] at ho
      rw [ho] at h2
      simp at h2
    · exact .inr (.inr ⟨hk, i, h1, h2, by rw [e, h3]⟩)

end Go.Proofs.Ytamekjocchekoaa

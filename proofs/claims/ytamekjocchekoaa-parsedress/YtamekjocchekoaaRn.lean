/-
  The reader of package parse: next, pass, need.
-/
import Derived.Test.YtamekjocchekoaaRd
namespace Go.Proofs.Ytamekjocchekoaa
open Go.RowKit Go.IntWalk Lx Pz
set_option linter.unusedVariables false

abbrev SX : List TypeId := [37, 53]

theorem wf_kind {t : Tok} (h : Wf t) : (t.kind == 0) = false := by
  rcases h with ⟨h, -⟩ | ⟨h, -⟩ | ⟨h, -⟩ <;> rw [h] <;> decide

set_option maxRecDepth 100000 in
set_option maxHeartbeats 1000000 in
theorem next_nil {w W : World} {b : Nat} {m : Mm} {NM : List Txt} {BS : List Int} {NS : List Nd} (h : Rd w W b m [] NM BS NS) :
    Calls Try.prog 63 #[ptr b] W fun e W' => e = pan ∧ Below W.heap.size W W' := by
  have HR := hide (h.later (bel1 W (.cells (tc 0 ⟨#[]⟩ 0) 49)))
  clear h
  go_enter Try.func63, Try.ntmps63
  go_wp2_with fail
  refine (peek_any HR.out).mono ?_
  rintro e W1 ⟨rfl, hb⟩
  have HB := hide (bel (bel1 W (.cells (tc 0 ⟨#[]⟩ 0) 49)) hb)
  clear hb
  rw [show (hd []).kind = 0 from rfl, show sB (hd []).text = ⟨#[]⟩ from rfl, show ((hd []).pos : Int) = 0 from rfl]
  go_wp2_with fail
  exact ⟨rfl, rfl, bel HB.out (bel1 _ _)⟩

theorem next_end {w W W1 : World} {b : Nat} {m : Mm} {t : Tok} {T : List Tok} {NM : List Txt} {BS : List Int} {NS : List Nd} (hW : Rd w W b m (t :: T) NM BS NS) (hB : Below W.heap.size W W1)
    (hH : HasC W1 W.heap.size 49 (tc 0 ⟨#[]⟩ 0)) {la : Option Addr} {ln lc : Nat} (hz : Tz W la ln lc T) :
    ∃ F, (((((W1.setCell ⟨b, 0, none⟩ (.slice la ln lc)).alloc (.cells (tc t.kind (sB t.text) t.pos) 49)).setCell ⟨W.heap.size, 0, none⟩ (.int .i64 t.kind)).setCell ⟨W.heap.size, 1, none⟩ (.string (sB t.text))).setCell ⟨W.heap.size, 2, none⟩ (.int .i64 t.pos)) = F ∧
      (F.cell? ⟨W.heap.size, 0, none⟩ = some (.int .i64 t.kind) ∧ F.cell? ⟨W.heap.size, 1, none⟩ = some (.string (sB t.text)) ∧ F.cell? ⟨W.heap.size, 2, none⟩ = some (.int .i64 t.pos)) ∧ (∃ m', Rd w F b m' T NM BS NS) ∧ Kp SX W F := by
  refine ⟨_, rfl, ?_⟩
  have hbW := hW.blk.lt
  have h1 := (hH.other (p := ⟨b, 0, none⟩) (show W.heap.size ≠ b by omega) (.slice la ln lc)).alloc (.cells (tc t.kind (sB t.text) t.pos) 49)
  have h2 := ((h1.set 0 (.int .i64 t.kind)).set 1 (.string (sB t.text))).set 2 (.int .i64 t.pos)
  have hg : W.grownBy _ (some b) := gb_set (gb_set (gb_set (gb_alloc (gb_set (gb_below b hB) (p := ⟨b, 0, none⟩) (.inl rfl) (.slice la ln lc)) (.cells (tc t.kind (sB t.text) t.pos) 49)) (p := ⟨W.heap.size, 0, none⟩) (.inr (Nat.le_refl _)) (.int .i64 t.kind)) (p := ⟨W.heap.size, 1, none⟩) (.inr (Nat.le_refl _)) (.string (sB t.text))) (p := ⟨W.heap.size, 2, none⟩) (.inr (Nat.le_refl _)) (.int .i64 t.pos)
  have hb := ((((hW.blk.below hB).set 0 (.slice la ln lc)).alloc (.cells (tc t.kind (sB t.text) t.pos) 49)).other (p := ⟨W.heap.size, 0, none⟩) (show b ≠ W.heap.size by omega) (.int .i64 t.kind)).other (p := ⟨W.heap.size, 1, none⟩) (show b ≠ W.heap.size by omega) (.string (sB t.text)) |>.other (p := ⟨W.heap.size, 2, none⟩) (show b ≠ W.heap.size by omega) (.int .i64 t.pos)
  exact ⟨⟨h2.cell 0 rfl, h2.cell 1 rfl, h2.cell 2 rfl⟩, ⟨⟨la, ln, lc, m.nv, m.bv, m.dv, m.root⟩, hW.moved hg hb rfl rfl rfl hz (fun t h => List.mem_cons_of_mem _ h)⟩, Kp.gb hg hW.blk (by decide)⟩

set_option maxRecDepth 100000 in
set_option maxHeartbeats 1000000 in
theorem next_cons {w W : World} {b : Nat} {m : Mm} {t : Tok} {T : List Tok} {NM : List Txt} {BS : List Int} {NS : List Nd} (h : Rd w W b m (t :: T) NM BS NS) :
    Calls Try.prog 63 #[ptr b] W fun e W' => e = .returned (.agg (tc t.kind (sB t.text) t.pos)) ∧ (∃ m', Rd w W' b m' T NM BS NS) ∧ Kp SX W W' := by
  have HR := hide (h.later (bel1 W (.cells (tc 0 ⟨#[]⟩ 0) 49)))
  have hk := wf_kind (h.wf t (by simp))
  have HW := hide h
  clear h
  go_enter Try.func63, Try.ntmps63
  go_wp2_with fail
  refine (peek_any HR.out).mono ?_
  rintro e W1 ⟨rfl, hb⟩
  have HB := hide (bel (bel1 W (.cells (tc 0 ⟨#[]⟩ 0) 49)) hb)
  have HR1 := hide (HR.out.later hb)
  have HH := hide ((HasC.new W 49 (tc 0 ⟨#[]⟩ 0)).below hb)
  clear hb HR
  obtain ⟨la, ln, lc, nv, bv, dv, root⟩ := m
  have hlt := HR1.out.blk.lt
  have c0 := (cell_old (o := .cells (tc t.kind (sB t.text) t.pos) 49) hlt (i := 0)).trans (HR1.out.blk.cell 0 rfl)
  have z0 := (HR1.out.blk.alloc (.cells (tc t.kind (sB t.text) t.pos) 49)).frozen 0
  have hl := HR1.out.toks.t.len
  have hmx := HR1.out.toks.t.max
  have hle := HR1.out.toks.t.le
  simp only [List.length_cons] at c0 hl hmx hle
  unfold maxLen at hmx
  obtain ⟨g, off, hla, hg, -⟩ := HR1.out.toks.t.at (by simp only; omega)
  simp only at hla
  subst hla
  have h0 : 1 ≤ ln := by omega
  clear hg hl
  rw [show (hd (t :: T)).kind = t.kind from rfl, show sB (hd (t :: T)).text = sB t.text from rfl, show ((hd (t :: T)).pos : Int) = (t.pos : Int) from rfl]
  have hbW := HW.out.blk.lt
  by_cases h1 : lc = 1
  · subst h1
    obtain rfl : ln = 1 := by omega
    have HC1 := hide ((HH.out.other (p := ⟨b, 0, none⟩) (show W.heap.size ≠ b by omega) (.slice (some ⟨g, off, none⟩) 0 0)).alloc (.cells (tc t.kind (sB t.text) t.pos) 49))
    obtain ⟨s0, s1, s2⟩ := facts3 HC1.out
    obtain ⟨y0, y1, y2⟩ := free3 HC1.out
    go_wp2_with fail
    obtain ⟨F, hF, ⟨f0, f1, f2⟩, hR, hK⟩ := next_end (la := some ⟨g, off, none⟩) (ln := 0) (lc := 0) HW.out HB.out HH.out (HW.out.toks.tail.1 rfl)
    exact bodyPost_ret (v := .agg (tc t.kind (sB t.text) t.pos)) (by rw [hF]; simp [results, Try.results63, go_sem, f0, f1, f2]) rfl ⟨rfl, by rw [hF]; exact hR, by rw [hF]; exact hK⟩
  · have HC1 := hide ((HH.out.other (p := ⟨b, 0, none⟩) (show W.heap.size ≠ b by omega) (.slice (some ⟨g, off + 3, none⟩) (ln - 1) (lc - 1))).alloc (.cells (tc t.kind (sB t.text) t.pos) 49))
    obtain ⟨s0, s1, s2⟩ := facts3 HC1.out
    obtain ⟨y0, y1, y2⟩ := free3 HC1.out
    go_wp2_with fail
    obtain ⟨F, hF, ⟨f0, f1, f2⟩, hR, hK⟩ := next_end (la := some ⟨g, off + 3, none⟩) (ln := ln - 1) (lc := lc - 1) HW.out HB.out HH.out (HW.out.toks.tail.2 h1)
    exact bodyPost_ret (v := .agg (tc t.kind (sB t.text) t.pos)) (by rw [hF]; simp [results, Try.results63, go_sem, f0, f1, f2]) rfl ⟨rfl, by rw [hF]; exact hR, by rw [hF]; exact hK⟩

/-- Of any list of tokens. -/
def NextP (w W : World) (b : Nat) (T : List Tok) (NM : List Txt) (BS : List Int) (NS : List Nd) (e : Ending) (W' : World) : Prop :=
  (T = [] ∧ e = pan ∧ Below w.heap.size w W') ∨ (∃ t T', T = t :: T' ∧ Wf t ∧ e = .returned (.agg (tc t.kind (sB t.text) t.pos)) ∧ (∃ m', Rd w W' b m' T' NM BS NS) ∧ Kp SX W W')
theorem next_any {w W : World} {b : Nat} {m : Mm} {T : List Tok} {NM : List Txt} {BS : List Int} {NS : List Nd} (h : Rd w W b m T NM BS NS) :
    Calls Try.prog 63 #[ptr b] W fun e W' => NextP w W b T NM BS NS e W' := by
  cases T with
  | nil => exact (next_nil h).mono fun e W' ⟨h1, h2⟩ => .inl ⟨rfl, h1, bel h.old h2⟩
  | cons t T => exact (next_cons h).mono fun e W' ⟨h1, h2, h3⟩ => .inr ⟨t, T, rfl, h.wf t (by simp), h1, h2, h3⟩

/-- A token's fields. -/
theorem fldT0 : ∀ (k : Int) (s : ByteArray) (p : Int) (w : World), (Instr.field 49 (.agg (tc k s p)) 0).run Try.prog w = .ok (.int .i64 k) w := by
  intro k s p w; simp [Instr.field, asAgg, go_sem]
theorem fldT1 : ∀ (k : Int) (s : ByteArray) (p : Int) (w : World), (Instr.field 49 (.agg (tc k s p)) 1).run Try.prog w = .ok (.string s) w := by
  intro k s p w; simp [Instr.field, asAgg, go_sem]

theorem text_ne {s t : ByteArray} (h : bs s ≠ bs t) : (s.toList == t.toList) = false := by
  rw [toList_bs, toList_bs]
  simpa using h

set_option maxRecDepth 100000 in
set_option maxHeartbeats 1000000 in
/-- pass, where the next token has that text. -/
theorem pass_yes {w W : World} {b : Nat} {m : Mm} {t : Tok} {T : List Tok} {NM : List Txt} {BS : List Int} {NS : List Nd} (h : Rd w W b m (t :: T) NM BS NS) (s : ByteArray) (hs : t.text = bs s) :
    Calls Try.prog 43 #[ptr b, .string s] W fun e W' => e = .returned (.bool true) ∧ (∃ m', Rd w W' b m' T NM BS NS) ∧ Kp SX W W' := by
  have HW := hide h
  clear h
  have F1 := fldT1
  go_enter Try.func43, Try.ntmps43
  go_wp2_with fail
  refine (peek_any HW.out).mono ?_
  rintro e W1 ⟨rfl, hb⟩
  have HR := hide (HW.out.later hb)
  have HK := hide (Kp.of_below SX hb)
  rw [show sB (hd (t :: T)).text = s by show sB t.text = s; rw [hs, sB_bs]]
  clear hb HW hs
  go_wp2_with fail
  refine (next_cons HR.out).mono ?_
  rintro e W2 ⟨rfl, hR, hk⟩
  have HR2 := hide hR
  have HK2 := hide (HK.out.trans hk)
  clear hR hk HK
  go_wp2_with fail
  go_ret
  exact ⟨rfl, HR2.out, HK2.out⟩

set_option maxRecDepth 100000 in
set_option maxHeartbeats 1000000 in
/-- pass, where it has not. -/
theorem pass_no {w W : World} {b : Nat} {m : Mm} {T : List Tok} {NM : List Txt} {BS : List Int} {NS : List Nd} (h : Rd w W b m T NM BS NS) (s : ByteArray) (hs : (hd T).text ≠ bs s) :
    Calls Try.prog 43 #[ptr b, .string s] W fun e W' => e = .returned (.bool false) ∧ Below W.heap.size W W' := by
  have HW := hide h
  have hne := text_ne (s := sB (hd T).text) (t := s) hs
  clear h hs
  have F1 := fldT1
  go_enter Try.func43, Try.ntmps43
  go_wp2_with fail
  refine (peek_any HW.out).mono ?_
  rintro e W1 ⟨rfl, hb⟩
  have HB := hide hb
  generalize sB (hd T).text = u at hne ⊢
  clear hb HW
  go_wp2_with fail
  go_ret
  exact ⟨rfl, HB.out⟩

set_option maxRecDepth 100000 in
set_option maxHeartbeats 1000000 in
theorem need_yes {w W : World} {b : Nat} {m : Mm} {t : Tok} {T : List Tok} {NM : List Txt} {BS : List Int} {NS : List Nd} (h : Rd w W b m (t :: T) NM BS NS) (s : ByteArray) (hs : t.text = bs s) :
    Calls Try.prog 65 #[ptr b, .string s] W fun e W' => e = .returned (.tuple #[]) ∧ (∃ m', Rd w W' b m' T NM BS NS) ∧ Kp SX W W' := by
  have HW := hide h
  have hs := hide hs
  clear h
  go_enter Try.func65, Try.ntmps65
  go_wp2_with fail
  refine (pass_yes HW.out _ hs.out).mono ?_
  rintro e W1 ⟨rfl, hR, hk⟩
  have HR := hide hR
  have HK := hide hk
  clear hR hk
  go_wp2_with fail
  refine bodyPost_end (results_none rfl _ _ _) rfl ?_
  exact ⟨rfl, HR.out, HK.out⟩

set_option maxRecDepth 100000 in
set_option maxHeartbeats 1000000 in
theorem need_no {w W : World} {b : Nat} {m : Mm} {T : List Tok} {NM : List Txt} {BS : List Int} {NS : List Nd} (h : Rd w W b m T NM BS NS) (s : ByteArray) (hs : (hd T).text ≠ bs s) :
    Calls Try.prog 65 #[ptr b, .string s] W fun e W' => e = pan ∧ Below W.heap.size W W' := by
  have HW := hide h
  have hs := hide hs
  clear h
  go_enter Try.func65, Try.ntmps65
  go_wp2_with fail
  refine (pass_no HW.out _ hs.out).mono ?_
  rintro e W1 ⟨rfl, hb⟩
  have HB := hide hb
  clear hb
  go_wp2_with fail
  exact ⟨rfl, rfl, HB.out⟩

end Go.Proofs.Ytamekjocchekoaa

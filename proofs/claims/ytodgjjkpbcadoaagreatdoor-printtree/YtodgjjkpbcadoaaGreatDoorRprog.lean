/-
  The reader of package parse: program.
-/
import Derived.Test.YtodgjjkpbcadoaaGreatDoorRbind
import Derived.Deep.LoopGhost
namespace Pz
/-- The roots of expressions that follow one another. -/
def bdL : List E → Nat → List Int
  | [], _ => []
  | a :: es, s => (((s + a.size : Nat) : Int) - 1) :: bdL es (s + a.size)
theorem bdL_snoc : ∀ (es : List E) (a : E) (s : Nat), bdL (es ++ [a]) s = bdL es s ++ [((s + szL es + a.size : Nat) : Int) - 1]
  | [], a, s => by simp [bdL, szL]
  | b :: es, a, s => by simp [bdL, szL, bdL_snoc es a, Nat.add_assoc]
theorem bdL_len : ∀ (es : List E) (s : Nat), (bdL es s).length = es.length
  | [], s => rfl
  | a :: es, s => by simp [bdL, bdL_len es]
end Pz
namespace Go.Proofs.YtodgjjkpbcadoaaGreatDoor
open Go.RowKit Go.IntWalk Lx Pz
set_option linter.unusedVariables false

/-- What program comes to. -/
def ProgP (w W : World) (b : Nat) (T : List Tok) (e : Ending) (W' : World) : Prop :=
  ∃ res, RP [] [] (T.map ab) res ∧ ((res = none ∧ e = pan ∧ Below w.heap.size w W') ∨
    (∃ NM es ex, res = some (NM, es, ex) ∧ NM.length = es.length ∧ szL es + ex.size ≤ T.length ∧ e = .returned (.tuple #[]) ∧ (∃ m', Rd w W' b m' [] NM (bdL es 0) (flL es 0 ++ ex.flat (szL es)) ∧ m'.root = ((szL es + ex.size : Nat) : Int) - 1) ∧ Kp SY W W'))

/-- What holds behind so many lets. -/
structure PF (w W : World) (b : Nat) (T : List Tok) (NM : List Txt) (es : List E) (T' : List Tok) (V : World) : Prop where
  go : ∀ res, RP NM es (T'.map ab) res → RP [] [] (T.map ab) res
  rd : ∃ m', Rd w V b m' T' NM (bdL es 0) (flL es 0)
  kp : Kp SY W V
  sz : szL es + T'.length ≤ T.length
  ln : NM.length = es.length
  le : es.length + T'.length ≤ T.length

theorem Rd.root {w W : World} {b : Nat} {m : Mm} {T : List Tok} {NM : List Txt} {BS : List Int} {NS : List Nd} (h : Rd w W b m T NM BS NS) (z : Int) :
    Rd w (W.setCell ⟨b, 4, none⟩ (.int .i64 z)) b ⟨m.la, m.ln, m.lc, m.nv, m.bv, m.dv, z⟩ T NM BS NS ∧ Kp SY W (W.setCell ⟨b, 4, none⟩ (.int .i64 z)) := by
  have ks : Kp [73] W (W.setCell ⟨b, 4, none⟩ (.int .i64 z)) := Kp.set h.blk (by simp) 4 _
  exact ⟨⟨h.blk.set 4 _, h.base, h.toks.kp ks (by decide), owns_kp h.names ks (by decide), owns_kp h.binds ks (by decide), owns_kp h.nodes ks (by decide), h.wf, h.old.setCell h.base _⟩, ks.mono (by decide)⟩

set_option maxRecDepth 100000 in
set_option maxHeartbeats 4000000 in
theorem program_rd {w W : World} {b : Nat} {m : Mm} {T : List Tok} (h : Rd w W b m T [] [] []) (hT : T.length ≤ 1024) :
    Calls Tryz.prog 35 #[ptr b] W fun e W' => ProgP w W b T e W' := by
  have HF0 := hide (show PF w W b T [] [] T W from ⟨fun _ h => h, ⟨m, h⟩, Kp.refl _ _, by simp [szL], rfl, by simp⟩)
  clear h
  go_enter Tryz.func35, Tryz.ntmps35
  go_wp2_with fail
  go_loopg [3] T.length (fun g _ V => ∃ (NM : List Txt) (es : List E) (T' : List Tok), Hid (T'.length = g) ∧ Hid (PF w W b T NM es T' V))
  case atStart => exact ⟨[], [], T, hide rfl, HF0⟩
  case round =>
    obtain ⟨NM, es, T', HG, HF⟩ := hrel
    rename World => V
    obtain ⟨m1, hm1⟩ := HF.out.rd
    have HM := hide hm1
    have hw := hide hm1.wf
    have hsz := HF.out.sz
    have hle := HF.out.le
    have hln := hide HF.out.ln
    clear hm1 HF0
    by_cases hl : (T'.map ab).head? = some (.word wLet)
    · obtain ⟨t1, T1, rfl, h1⟩ := hd_cons hl
      have hs1 := hide ((word_iff (hw.out t1 (by simp)) (s := wLet) (by decide)).2 h1)
      have H1 := hide (show (t1 :: T1).map ab = .word wLet :: T1.map ab by rw [List.map_cons, h1])
      rw [List.length_cons] at hsz hle
      clear hl h1 hw
      go_wp2_with fail
      refine (pass_yes HM.out _ hs1.out).mono ?_
      rintro e V1 ⟨rfl, ⟨m2, hR⟩, hk⟩
      have HR := hide hR
      have HK := hide (HF.out.kp.trans (hk.mono (by decide)))
      clear hR hk
      go_wp2_with fail
      refine (bind_rd HR.out (by rw [flL_len]; omega) (by rw [hln.out]; omega) (by rw [bdL_len]; omega)).mono ?_
      rintro e V2 (⟨rfl, hb, hbad⟩ | ⟨s, l2, res, ex, P, T2, hh, hr, he, hsp, hl2, rfl, hR2, hk2⟩)
      · have HB := hide hb
        have HBad := hide hbad
        clear hb hbad
        go_wp2_with fail
        refine ⟨rfl, none, HF.out.go _ ?_, .inl ⟨rfl, rfl, HB.out⟩⟩
        rw [H1.out]
        rcases HBad.out with h | ⟨s, l2, res, h1, h2, h3⟩
        · exact RP.bad h
        · exact RP.body h1 h2 h3
      · have HF2 := hide (show PF w W b T (NM ++ [s]) (es ++ [ex]) T2 V2 from by
          refine ⟨fun res' h => HF.out.go _ (by rw [H1.out]; exact RP.go hh hr he h), ?_, HK.out.trans hk2, by rw [szL_snoc]; omega, by simp [hln.out], by have := ex.size_pos; simp; omega⟩
          rw [bdL_snoc, flL_snoc, Nat.zero_add]
          rw [flL_len] at hR2
          exact hR2)
        have HL2 := hide hl2
        have hgl : T2.length < T1.length + 1 := by have := ex.size_pos; omega
        have HGl := hide hgl
        clear hh hr he hsp hl2 hR2 hk2 hgl
        go_wp2_with fail
        go_roundg T2.length
        case measure => have := HG.out; have := HGl.out; simp at *; omega
        case rel => exact ⟨NM ++ [s], es ++ [ex], T2, hide rfl, HF2⟩
    · have hs1 := hide (show (hd T').text ≠ [108, 101, 116] from by
        cases T' with
        | nil => decide
        | cons t T' =>
          intro e
          exact hl (by simp [(word_iff (hw.out t (by simp)) (s := wLet) (by decide)).1 e]))
      have HL := hide hl
      clear hl
      go_wp2_with fail
      refine (pass_no HM.out _ hs1.out).mono ?_
      rintro e V1 ⟨rfl, hb⟩
      have HR := hide (HM.out.later hb)
      have HK := hide (HF.out.kp.trans (Kp.of_below SY hb))
      clear hb
      go_wp2_with fail
      refine (choice_any (T'.length + 1) V1 m1 T' (flL es 0) (by omega) (by rw [flL_len]; omega) HR.out).mono ?_
      rintro e V2 ⟨res, hres, (⟨rfl, rfl, hb⟩ | ⟨ex, P5, T5, rfl, hsp, rfl, ⟨m5, hR⟩, hk⟩)⟩
      · have HB := hide hb
        have HN := hide hres
        clear hb hres
        go_wp2_with fail
        exact ⟨rfl, none, HF.out.go _ (RP.last HL.out HN.out), .inl ⟨rfl, rfl, HB.out⟩⟩
      · have HRES := hide hres
        have hl5 : ex.size + T5.length ≤ T'.length := by have := r_len hres; simpa using this
        rw [flL_len] at hR ⊢
        have hz := hR.root (((szL es + ex.size : Nat) : Int) - 1)
        have HR6 := hide hz.1
        have HK6 := hide ((HK.out.trans (hk.mono (by decide))).trans hz.2)
        have c4 := hR.blk.cell 4 rfl
        have y4 := hR.blk.frozen 4
        have cn : (V2.setCell ⟨b, 4, none⟩ (.int .i64 (((szL es + ex.size : Nat) : Int) - 1))).cell? ⟨b, 0, none⟩ = some (.slice m5.la m5.ln m5.lc) := hz.1.blk.cell 0 rfl
        have hln5 := hide hR.toks.t.len
        have hmx : m5.ln ≤ 9223372036854775807 := by have := hR.toks.t.le; have := hR.toks.t.max; unfold maxLen at *; omega
        clear hres hsp hR hk hz
        obtain ⟨z, hz⟩ : ∃ z : Int, ((szL es + ex.size : Nat) : Int) - 1 = z := ⟨_, rfl⟩
        rw [hz] at HR6 HK6 cn ⊢
        have HZ := hide hz
        clear hz
        cases T5 with
        | nil =>
          have h0 : m5.ln = 0 := by have := hln5.out; simpa using this.symm
          rw [h0] at cn
          clear h0 hmx
          go_wp2_with fail
          refine bodyPost_end (results_none rfl _ _ _) rfl ?_
          exact ⟨_, HF.out.go _ (RP.last HL.out HRES.out), .inr ⟨NM, es, ex, rfl, hln.out, by simp at hl5; omega, rfl, ⟨_, HR6.out, HZ.out.symm⟩, HK6.out⟩⟩
        | cons t5 T5 =>
          have h0 : (0 : Int) < m5.ln := by have := hln5.out; simp at this; omega
          go_wp2_with fail
          exact ⟨rfl, none, HF.out.go _ (RP.last HL.out HRES.out), .inl ⟨rfl, rfl, HR6.out.old⟩⟩

end Go.Proofs.YtodgjjkpbcadoaaGreatDoor

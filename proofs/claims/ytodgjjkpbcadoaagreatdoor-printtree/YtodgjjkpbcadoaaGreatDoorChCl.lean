/-
  What the printer's methods choice and between write.
-/
import Derived.Test.YtodgjjkpbcadoaaGreatDoorPrP
import Derived.Test.YtodgjjkpbcadoaaGreatDoorRnode
import Derived.Test.YtodgjjkpbcadoaaGreatDoorGr5P
namespace Go.Proofs.YtodgjjkpbcadoaaGreatDoor
open Go.RowKit Go.IntWalk Lx Pz Go.Sort
set_option linter.unusedVariables false

set_option maxHeartbeats 4000000 in
set_option maxRecDepth 100000 in
theorem xchoice_any {w : World} {t : Tv} {NM : List Txt} {BS : List Int} {NS : List Nd} {root : Int} {b : Nat} (hE : Env w t NM BS NS root) {x y z : E} (hx : NodeC w t b NM NS x) (hy : NodeC w t b NM NS y) (hz : NodeC w t b NM NS z) (ho : 1 ≤ opE x ∧ opE x ≤ 28)
    (W : World) (out : List UInt8) (p q r : Nat) (hP : Pb w W b t out) (h1 : Lies NS x p) (h2 : Lies NS y q) (h3 : Lies NS z r) (hlen : out.length + (etx NM (.tri 28 x y z)).length ≤ 1099511627776) :
    Calls Tryz.prog 47 #[ptr b, .agg (ndA ⟨28, p, q, r, 0, 0, 0, 0, 0⟩)] W fun e W' => e = .returned (.tuple #[]) ∧ Pb w W' b t (out ++ etx NM (.tri 28 x y z)) ∧ Kp SP W W' := by
  have ht : etx NM (.tri 28 x y z) = prp NM 1 x ++ 63 :: (etx NM y ++ 58 :: etx NM z) := by simp [etx, prp]
  have HL := hide (show out.length + (prp NM 1 x).length + (etx NM y).length + (etx NM z).length + 2 ≤ 1099511627776 by rw [ht] at hlen; simp at hlen; omega)
  have HT := hide (show out ++ etx NM (.tri 28 x y z) = ((((out ++ prp NM 1 x) ++ [UInt8.ofNat 63]) ++ etx NM y) ++ [UInt8.ofNat 58]) ++ etx NM z by rw [ht]; simp)
  have HX0 := hide (HasC.new W 39 (ndA ⟨28, p, q, r, 0, 0, 0, 0, 0⟩))
  have HP0 := hide (hP.later (bel1 W (.cells (ndA ⟨28, p, q, r, 0, 0, 0, 0, 0⟩) 39)))
  have HK0 := hide (Kp.of_below SP (bel1 W (.cells (ndA ⟨28, p, q, r, 0, 0, 0, 0, 0⟩) 39)))
  have Hx := hide (fun V o hV hl => xpart_any hE hx ho 1 (by decide) V o p hV h1 hl)
  have Hy := hide (fun V o hV hl => hy V o q hV h2 hl)
  have Hz := hide (fun V o hV hl => hz V o r hV h3 hl)
  clear hP hE hx hy hz ho h1 h2 h3 hlen ht
  obtain ⟨c0, c1, c2, c3, -⟩ := HX0.out.nine
  simp only at c0 c1 c2 c3
  go_enter Tryz.func47, Tryz.ntmps47
  go_wp2_with fail
  refine (Hx.out _ _ HP0.out (by have := HL.out; omega)).mono ?_
  rintro e W1 ⟨rfl, hP, hK⟩
  have HP1 := hide hP
  have HX1 := hide (HX0.out.kp hK (by decide))
  have HK1 := hide (HK0.out.trans hK)
  clear HP0 HX0 HK0 hP hK c0 c1 c2 c3
  obtain ⟨c0, c1, c2, c3, -⟩ := HX1.out.nine
  simp only at c0 c1 c2 c3
  go_wp2_with fail
  refine (writeByte_any HP1.out 63 (by decide) (by have := HL.out; simp; omega)).mono ?_
  rintro e W2 ⟨rfl, hP, hK⟩
  have HP2 := hide hP
  have HX2 := hide (HX1.out.kp hK (by decide))
  have HK2 := hide (HK1.out.trans hK)
  clear HP1 HX1 HK1 hP hK c0 c1 c2 c3
  obtain ⟨c0, c1, c2, c3, -⟩ := HX2.out.nine
  simp only at c0 c1 c2 c3
  go_wp2_with fail
  refine (Hy.out _ _ HP2.out (by have := HL.out; simp; omega)).mono ?_
  rintro e W3 ⟨rfl, hP, hK⟩
  have HP3 := hide hP
  have HX3 := hide (HX2.out.kp hK (by decide))
  have HK3 := hide (HK2.out.trans hK)
  clear HP2 HX2 HK2 hP hK c0 c1 c2 c3
  obtain ⟨c0, c1, c2, c3, -⟩ := HX3.out.nine
  simp only at c0 c1 c2 c3
  go_wp2_with fail
  refine (writeByte_any HP3.out 58 (by decide) (by have := HL.out; simp; omega)).mono ?_
  rintro e W4 ⟨rfl, hP, hK⟩
  have HP4 := hide hP
  have HX4 := hide (HX3.out.kp hK (by decide))
  have HK4 := hide (HK3.out.trans hK)
  clear HP3 HX3 HK3 hP hK c0 c1 c2 c3
  obtain ⟨c0, c1, c2, c3, -⟩ := HX4.out.nine
  simp only at c0 c1 c2 c3
  go_wp2_with fail
  refine (Hz.out _ _ HP4.out (by have := HL.out; simp; omega)).mono ?_
  rintro e W5 ⟨rfl, hP, hK⟩
  have HP5 := hide hP
  have HK5 := hide (HK4.out.trans hK)
  clear HP4 HX4 HK4 hP hK c0 c1 c2 c3
  go_wp2_with fail
  go_end0
  exact ⟨rfl, HT.out ▸ HP5.out, HK5.out⟩

theorem ork_le (o : Int) : ork o ≤ 9 := by
  unfold ork
  have : ∀ x ∈ opTab, x.2 ≤ 9 := by decide
  rw [List.getD_eq_getElem?_getD]
  cases h : opTab[o.toNat]? with
  | none => simp
  | some x => exact this x (List.mem_of_getElem? h)

set_option maxHeartbeats 8000000 in
set_option maxRecDepth 100000 in
theorem xbetween_any {w : World} {t : Tv} {NM : List Txt} {BS : List Int} {NS : List Nd} {root : Int} {b : Nat} (hE : Env w t NM BS NS root) {x y : E} (hx : NodeC w t b NM NS x) (hy : NodeC w t b NM NS y) (hox : 1 ≤ opE x ∧ opE x ≤ 28) (hoy : 1 ≤ opE y ∧ opE y ≤ 28)
    (k : Nat) (hk : 8 ≤ k ∧ k ≤ 23)
    (W : World) (out : List UInt8) (p q : Nat) (hP : Pb w W b t out) (h1 : Lies NS x p) (h2 : Lies NS y q) (hlen : out.length + (etx NM (.bin k x y)).length ≤ 1099511627776) :
    Calls Tryz.prog 48 #[ptr b, .agg (ndA ⟨k, p, q, 0, 0, 0, 0, 0, 0⟩)] W fun e W' => e = .returned (.tuple #[]) ∧ Pb w W' b t (out ++ etx NM (.bin k x y)) ∧ Kp SP W W' := by
  have ht : etx NM (.bin k x y) = prp NM (lfk k) x ++ (otx k ++ prp NM (ork k + 1) y) := by simp only [etx, prp]; rw [if_neg (by omega)]
  have h9 : ork (k : Int) ≤ 8 := by
    have : ∀ j : Nat, j < 16 → ork ((8 + j : Nat) : Int) ≤ 8 := by decide
    have := this (k - 8) (by omega)
    rwa [show 8 + (k - 8) = k by omega] at this
  have hf : lfk (k : Int) ≤ 9 := by unfold lfk; split <;> omega
  have HL := hide (show out.length + (prp NM (lfk k) x).length + (bs (sB (otx k))).length + (prp NM (ork k + 1) y).length ≤ 1099511627776 by rw [ht] at hlen; rw [bs_sB]; simp at hlen; omega)
  have HT := hide (show out ++ etx NM (.bin k x y) = ((out ++ prp NM (lfk k) x) ++ bs (sB (otx k))) ++ prp NM (ork k + 1) y by rw [ht, bs_sB]; simp)
  have HX0 := hide (HasC.new W 39 (ndA ⟨k, p, q, 0, 0, 0, 0, 0, 0⟩))
  have hP0 := hP.later (bel1 W (.cells (ndA ⟨k, p, q, 0, 0, 0, 0, 0, 0⟩) 39))
  have HP0 := hide hP0
  have HK0 := hide (Kp.of_below SP (bel1 W (.cells (ndA ⟨k, p, q, 0, 0, 0, 0, 0, 0⟩) 39)))
  obtain ⟨g0, g1⟩ := (hE.gl.later hP0.old).ops k (by omega)
  rw [show (opTab.getD k ([], 0)).1 = otx k from rfl] at g0
  rw [show (opTab.getD k ([], 0)).2 = ork k from rfl] at g1
  have Hx := hide (fun V o hV hl => xpart_any hE hx hox (lfk k) hf V o p hV h1 hl)
  have Hy := hide (fun V o hV hl => xpart_any hE hy hoy (ork k + 1) (by omega) V o q hV h2 hl)
  have hk28 : k < 29 := by omega
  have hlf := hide (show lfk (k : Int) = if ork (k : Int) = 4 then 5 else ork (k : Int) from rfl)
  clear hP hP0 hE hx hy hox hoy h1 h2 hlen ht hf
  generalize otx (k : Int) = ot at *
  generalize ork (k : Int) = ok at *
  generalize lfk (k : Int) = fk at *
  have HR1 := hide (HasC.new (W.alloc (.cells (ndA ⟨k, p, q, 0, 0, 0, 0, 0, 0⟩) 39)) 99 #[.string (sB ot), .int .i64 ok])
  have HX1 := hide (HX0.out.alloc (.cells #[.string (sB ot), .int .i64 ok] 99))
  have HP1 := hide (HP0.out.later (bel1 _ (.cells #[.string (sB ot), .int .i64 ok] 99)))
  have HK1 := hide (HK0.out.trans (Kp.of_below SP (bel1 _ (.cells #[.string (sB ot), .int .i64 ok] 99))))
  obtain ⟨c0, -⟩ := HX0.out.nine
  obtain ⟨-, c1, c2, -⟩ := HX1.out.nine
  have d0 := HR1.out.cell 0 rfl
  have d1 := HR1.out.cell 1 rfl
  simp only [World.size_alloc] at c0 c1 c2 d0 d1 HR1
  clear HX0 HP0 HK0
  by_cases h4 : ok = 4
  · subst h4
    obtain rfl : fk = 5 := hlf.out
    clear hlf
    go_enter Tryz.func48, Tryz.ntmps48
    go_wp2_with fail
    refine (Hx.out _ _ HP1.out (by have := HL.out; omega)).mono ?_
    rintro e W2 ⟨rfl, hP, hK⟩
    have HP2 := hide hP
    have HX2 := hide (HX1.out.kp hK (by decide))
    have HR2 := hide (HR1.out.kp hK (by decide))
    have HK2 := hide (HK1.out.trans hK)
    clear HP1 HX1 HR1 HK1 hP hK c0 c1 c2 d0 d1 g0 g1
    have e0 := fun dd os => cell_regrown (HR2.out.cell 0 rfl) dd os
    go_wp2_with fail
    refine wp_region_quiet_last_lit (hf := (List.dropLast_concat_getLast (by simp)).symm) mixedP (by kernel_rfl) rfl (by kernel_rfl) (by kernel_rfl) (by kernel_rfl) (by kernel_rfl) (by kernel_rfl) ?_
    simp only [List.dropLast_cons_cons, List.dropLast_singleton, List.getLast_cons_cons, List.getLast_singleton]
    repeat (go_big_quiet_step (fail))
    refine wpQuiet_nil ?_
    intro _ hw'
    obtain ⟨pq, hw''⟩ := hw'
    subst hw''
    have hb2 := below_regrown W2 pq.d pq.os
    have HP3 := hide (HP2.out.later hb2)
    have HX3 := hide (HX2.out.below hb2)
    have HR3 := hide (HR2.out.below hb2)
    have HK3 := hide (HK2.out.trans (Kp.of_below SP hb2))
    clear HP2 HX2 HR2 HK2 hb2 e0
    generalize grow (redrawn W2 pq.d) pq.os = G at *
    go_wp2_with fail
    refine (writeString_any HP3.out _ (by have := HL.out; simp only [List.length_append]; omega)).mono ?_
    rintro e W4 ⟨rfl, hP, hK⟩
    have HP4 := hide hP
    have HX4 := hide (HX3.out.kp hK (by decide))
    have HR4 := hide (HR3.out.kp hK (by decide))
    have HK4 := hide (HK3.out.trans hK)
    clear HP3 HX3 HR3 HK3 hP hK
    obtain ⟨c0, c1, c2, -⟩ := HX4.out.nine
    have d1 := HR4.out.cell 1 rfl
    simp only at c0 c1 c2 d1
    go_wp2_with fail
    refine (Hy.out _ _ HP4.out (by have := HL.out; simp only [List.length_append]; omega)).mono ?_
    rintro e W5 ⟨rfl, hP, hK⟩
    have HP5 := hide hP
    have HK5 := hide (HK4.out.trans hK)
    clear HP4 HX4 HR4 HK4 hP hK c0 c1 c2 d1
    go_wp2_with fail
    go_end0
    exact ⟨rfl, HT.out ▸ HP5.out, HK5.out⟩
  · have h4b : ((ok : Int) == 4) = false := by simp; omega
    obtain rfl : fk = ok := by rw [hlf.out, if_neg h4]
    clear hlf h4
    go_enter Tryz.func48, Tryz.ntmps48
    go_wp2_with fail
    refine (Hx.out _ _ HP1.out (by have := HL.out; omega)).mono ?_
    rintro e W2 ⟨rfl, hP, hK⟩
    have HP2 := hide hP
    have HX2 := hide (HX1.out.kp hK (by decide))
    have HR2 := hide (HR1.out.kp hK (by decide))
    have HK2 := hide (HK1.out.trans hK)
    clear HP1 HX1 HR1 HK1 hP hK c0 c1 c2 d0 d1 g0 g1
    have e0 := fun dd os => cell_regrown (HR2.out.cell 0 rfl) dd os
    go_wp2_with fail
    refine wp_region_quiet_last_lit (hf := (List.dropLast_concat_getLast (by simp)).symm) mixedP (by kernel_rfl) rfl (by kernel_rfl) (by kernel_rfl) (by kernel_rfl) (by kernel_rfl) (by kernel_rfl) ?_
    simp only [List.dropLast_cons_cons, List.dropLast_singleton, List.getLast_cons_cons, List.getLast_singleton]
    repeat (go_big_quiet_step (fail))
    refine wpQuiet_nil ?_
    intro _ hw'
    obtain ⟨pq, hw''⟩ := hw'
    subst hw''
    have hb2 := below_regrown W2 pq.d pq.os
    have HP3 := hide (HP2.out.later hb2)
    have HX3 := hide (HX2.out.below hb2)
    have HR3 := hide (HR2.out.below hb2)
    have HK3 := hide (HK2.out.trans (Kp.of_below SP hb2))
    clear HP2 HX2 HR2 HK2 hb2 e0
    generalize grow (redrawn W2 pq.d) pq.os = G at *
    go_wp2_with fail
    refine (writeString_any HP3.out _ (by have := HL.out; simp only [List.length_append]; omega)).mono ?_
    rintro e W4 ⟨rfl, hP, hK⟩
    have HP4 := hide hP
    have HX4 := hide (HX3.out.kp hK (by decide))
    have HR4 := hide (HR3.out.kp hK (by decide))
    have HK4 := hide (HK3.out.trans hK)
    clear HP3 HX3 HR3 HK3 hP hK
    obtain ⟨c0, c1, c2, -⟩ := HX4.out.nine
    have d1 := HR4.out.cell 1 rfl
    simp only at c0 c1 c2 d1
    go_wp2_with fail
    refine (Hy.out _ _ HP4.out (by have := HL.out; simp only [List.length_append]; omega)).mono ?_
    rintro e W5 ⟨rfl, hP, hK⟩
    have HP5 := hide hP
    have HK5 := hide (HK4.out.trans hK)
    clear HP4 HX4 HR4 HK4 hP hK c0 c1 c2 d1
    go_wp2_with fail
    go_end0
    exact ⟨rfl, HT.out ▸ HP5.out, HK5.out⟩

end Go.Proofs.YtodgjjkpbcadoaaGreatDoor

/-
  What the printer's method call writes.
-/
namespace Go.Proofs.YtodgjjkpbcadoaaGreatDoor
open Go.RowKit Go.IntWalk Lx Pz Go.Sort
set_option linter.unusedVariables false

def z0 : E := .leaf n0
/-- The first k parts, commas between. -/
def jn (NM : List Txt) (es : List E) (k : Nat) : Txt := (List.range k).flatMap fun j => (if j = 0 then [] else [44]) ++ etx NM (es.getD j z0)
theorem jn_zero (NM : List Txt) (es : List E) : jn NM es 0 = [] := rfl
theorem jn_succ (NM : List Txt) (es : List E) (k : Nat) : jn NM es (k + 1) = jn NM es k ++ ((if k = 0 then [] else [44]) ++ etx NM (es.getD k z0)) := by simp [jn, List.range_succ]
theorem jn_mono (NM : List Txt) (es : List E) {k n : Nat} (h : k ≤ n) : (jn NM es k).length ≤ (jn NM es n).length := by
  induction n with
  | zero => rw [show k = 0 by omega]; exact Nat.le_refl _
  | succ n ih =>
    by_cases e : k = n + 1
    · rw [e]; exact Nat.le_refl _
    · rw [jn_succ, List.length_append]; have := ih (by omega); omega

set_option maxHeartbeats 8000000 in
set_option maxRecDepth 100000 in
theorem xcall_any {w : World} {t : Tv} {NM : List Txt} {BS : List Int} {NS : List Nd} {root : Int} {b : Nat} (hE : Env w t NM BS NS root) (es : List E) (ps : List Nat) (n : Nat) (hn : n ≤ 3) (hN : ∀ j, j < n → NodeC w t b NM NS (es.getD j z0)) (hps : ∀ j, j < n → Lies NS (es.getD j z0) (ps.getD j 0))
    (k : Nat) (hk : k < 29) (W : World) (out : List UInt8) (hP : Pb w W b t out) (q0 : Nat) (cs : Array Value) (hQ : HasC W q0 3 cs) (hcs : ∀ j, j < n → cs[j]? = some (.int .i64 (ps.getD j 0 : Nat))) (hlen : out.length + (otx k).length + (jn NM es n).length + 2 ≤ 1099511627776) :
    Calls Tryz.prog 46 #[ptr b, .int .i64 k, .slice (some ⟨q0, 0, none⟩) n n] W fun e W' => e = .returned (.tuple #[]) ∧ Pb w W' b t (out ++ (otx k ++ 40 :: (jn NM es n ++ [41]))) ∧ Kp SP W W' := by
  have HL := hide (show out.length + (bs (sB (otx k))).length + (jn NM es n).length + 2 ≤ 1099511627776 from hlen)
  have HT := hide (show out ++ (otx k ++ 40 :: (jn NM es n ++ [41])) = (((out ++ bs (sB (otx k))) ++ [UInt8.ofNat 40]) ++ jn NM es n) ++ [UInt8.ofNat 41] by rw [bs_sB]; simp)
  obtain ⟨g0, -⟩ := (hE.gl.later hP.old).ops k hk
  rw [show (opTab.getD k ([], 0)).1 = otx k from rfl] at g0
  have e0 := fun dd os => cell_regrown g0 dd os
  have HP0 := hide hP
  have HQ0 := hide hQ
  have HN := hide hN
  have HPS := hide hps
  have HCS := hide hcs
  clear hP hQ hN hps hcs hlen hE g0
  generalize otx (k : Int) = ot at *
  go_enter Tryz.func46, Tryz.ntmps46
  go_wp2_with fail
  refine wp_region_quiet_last_lit (hf := (List.dropLast_concat_getLast (by simp)).symm) mixedP (by kernel_rfl) rfl (by kernel_rfl) (by kernel_rfl) (by kernel_rfl) (by kernel_rfl) (by kernel_rfl) ?_
  simp only [List.dropLast_cons_cons, List.dropLast_singleton, List.getLast_cons_cons, List.getLast_singleton]
  repeat (go_big_quiet_step (fail))
  refine wpQuiet_nil ?_
  intro _ hw'
  obtain ⟨pq, hw''⟩ := hw'
  subst hw''
  have hb2 := below_regrown W pq.d pq.os
  have HP1 := hide (HP0.out.later hb2)
  have HQ1 := hide (HQ0.out.below hb2)
  have HK1 := hide (Kp.of_below SP hb2)
  clear HP0 HQ0 hb2 e0
  generalize grow (redrawn W pq.d) pq.os = G at *
  go_wp2_with fail
  refine (writeString_any HP1.out _ (by have := HL.out; omega)).mono ?_
  rintro e W2 ⟨rfl, hP, hK⟩
  have HP2 := hide hP
  have HQ2 := hide (HQ1.out.kp hK (by decide))
  have HK2 := hide (HK1.out.trans hK)
  clear HP1 HQ1 HK1 hP hK
  go_wp2_with fail
  refine (writeByte_any HP2.out 40 (by decide) (by have := HL.out; simp only [List.length_append]; omega)).mono ?_
  rintro e W3 ⟨rfl, hP, hK⟩
  have HP3 := hide hP
  have HQ3 := hide (HQ2.out.kp hK (by decide))
  have HK3 := hide (HK2.out.trans hK)
  clear HP2 HQ2 HK2 hP hK
  have HL2 := hide (show ((out ++ bs (sB ot)) ++ [UInt8.ofNat 40]).length + (jn NM es n).length + 1 ≤ 1099511627776 by have := HL.out; simp only [List.length_append, List.length_cons, List.length_nil]; omega)
  generalize (out ++ bs (sB ot)) ++ [UInt8.ofNat 40] = o1 at *
  clear HL
  go_wp2_with fail
  go_loopw [22] (fun i wr => ∃ k : Nat, k ≤ n ∧ i = .int .i64 k ∧ Hid (Pb w wr b t (o1 ++ jn NM es k)) ∧ Hid (HasC wr q0 3 cs) ∧ Hid (Kp SP W wr)) (fun i _ => n - (intOf i).toNat)
  case atStart => exact ⟨0, Nat.zero_le _, rfl, hide (by rw [jn_zero, List.append_nil]; exact HP3.out), HQ3, HK3⟩
  case round =>
    obtain ⟨j, hj, rfl, HPj, HQj, HKj⟩ := hrel
    rename World => V
    clear HP3 HQ3 HK3
    by_cases hlt : j < n
    · have c0 := HQj.out.cell j (HCS.out j hlt)
      have HNj := hide (HN.out j hlt)
      have HLj := hide (HPS.out j hlt)
      have hm := jn_mono NM es (show j + 1 ≤ n from hlt)
      rw [jn_succ] at hm
      have HM := hide hm
      have HJ := hide (jn_succ NM es j)
      clear hm
      generalize ps.getD j 0 = pj at *
      generalize es.getD j z0 = ej at *
      have hj1 : (j : Int) < n := by omega
      by_cases h0 : j = 0
      · subst h0
        rw [if_pos rfl, List.nil_append] at HJ HM
        go_wp2_with fail
        refine (HNj.out V _ pj HPj.out HLj.out (by have := HL2.out; have := HM.out; simp only [List.length_append] at *; omega)).mono ?_
        rintro e V1 ⟨rfl, hP, hK⟩
        rw [List.append_assoc, ← HJ.out] at hP
        have HP4 := hide hP
        have HQ4 := hide (HQj.out.kp hK (by decide))
        have HK4 := hide (HKj.out.trans hK)
        clear hP hK
        go_wp2_with fail
        go_roundw
        case rel => exact ⟨0 + 1, by omega, by go_num, HP4, HQ4, HK4⟩
        case measure => simp [intOf]; omega
      · rw [if_neg h0] at HJ HM
        have h01 : (0 : Int) < j := by omega
        go_wp2_with fail
        refine (writeByte_any HPj.out 44 (by decide) (by have := HL2.out; have := HM.out; simp only [List.length_append, List.length_cons, List.length_nil] at *; omega)).mono ?_
        rintro e V0 ⟨rfl, hP, hK⟩
        have HP4 := hide hP
        have HQ4 := hide (HQj.out.kp hK (by decide))
        have HK4 := hide (HKj.out.trans hK)
        clear hP hK c0
        go_wp2_with fail
        refine (HNj.out V0 _ pj HP4.out HLj.out (by have := HL2.out; have := HM.out; simp only [List.length_append, List.length_cons, List.length_nil] at *; omega)).mono ?_
        rintro e V1 ⟨rfl, hP, hK⟩
        rw [show o1 ++ jn NM es j ++ [UInt8.ofNat 44] ++ etx NM ej = o1 ++ jn NM es (j + 1) by rw [HJ.out]; simp] at hP
        have HP5 := hide hP
        have HQ5 := hide (HQ4.out.kp hK (by decide))
        have HK5 := hide (HK4.out.trans hK)
        clear hP hK
        go_wp2_with fail
        go_roundw
        case rel => exact ⟨j + 1, by omega, by go_num, HP5, HQ5, HK5⟩
        case measure => simp [intOf]; omega
    · obtain rfl : j = n := by omega
      go_wp2_with fail
      refine (writeByte_any HPj.out 41 (by decide) (by have := HL2.out; simp only [List.length_append] at *; omega)).mono ?_
      rintro e V1 ⟨rfl, hP, hK⟩
      have HP4 := hide hP
      have HK4 := hide (HKj.out.trans hK)
      clear hP hK
      go_wp2_with fail
      go_end0
      exact ⟨rfl, HT.out ▸ HP4.out, HK4.out⟩

end Go.Proofs.YtodgjjkpbcadoaaGreatDoor

/-
  The leaves and operators of sound trees.
-/
namespace Go.Proofs.YtodgjjkpbcadoaaGreatDoor
open Lx Pz
set_option linter.unusedVariables false

/-- What a sound leaf is. -/
theorem gd_leaf {bd : Nat} {n : Nd} (h : Gd bd (.leaf n)) :
    n.a = 0 ∧ n.b = 0 ∧ n.c = 0 ∧ ((n.op = 3 ∧ n.k = 0 ∧ (n.co = 2 ∨ (n.co = 1 ∧ n.y = 0)) ∧ 0 ≤ n.back ∧ n.back ≤ 2147483647 ∧ -2147483647 ≤ n.x ∧ n.x ≤ 2147483647 ∧ -2147483647 ≤ n.y ∧ n.y ≤ 2147483647) ∨
      (n.back = 0 ∧ n.co = 0 ∧ n.x = 0 ∧ n.y = 0 ∧ ((n.op = 1 ∧ 0 ≤ n.k ∧ n.k ≤ 2147483647) ∨ (n.op = 2 ∧ 0 ≤ n.k ∧ n.k ≤ 5) ∨ (n.op = 4 ∧ 0 ≤ n.k ∧ n.k < bd)))) := by
  obtain ⟨h1, h2, h3, h4, h5⟩ := h
  refine ⟨h1, h2, h3, ?_⟩
  obtain ⟨op, a, b, c, k, back, co, x, y⟩ := n
  simp only at *
  have hop : op = 1 ∨ op = 2 ∨ op = 3 ∨ op = 4 := by
    unfold prZ arZ at h4
    split at h4
    · omega
    · split at h4
      · omega
      · split at h4
        · omega
        · repeat' split at h4
          all_goals omega
  rcases hop with rfl | rfl | rfl | rfl
  · right
    simp [fldP, plc0, wthn, mostZ, MX] at h5
    omega
  · right
    simp [fldP, plc0, wthn, mostZ] at h5
    omega
  · left
    simp [fldP, mayP, wthn, MX] at h5
    omega
  · right
    simp [fldP, plc0, wthn, mostZ] at h5
    omega

theorem pr_one {o : Int} (h : prZ o = 1) : o = 5 ∨ o = 6 ∨ o = 7 := by
  unfold prZ arZ at h
  repeat' split at h
  all_goals omega
theorem pr_two {o : Int} (h : prZ o = 2) : 8 ≤ o ∧ o ≤ 25 := by
  unfold prZ arZ at h
  repeat' split at h
  all_goals omega
theorem pr_three {o : Int} (h : prZ o = 3) : o = 26 ∨ o = 27 ∨ o = 28 := by
  unfold prZ arZ at h
  repeat' split at h
  all_goals omega

end Go.Proofs.YtodgjjkpbcadoaaGreatDoor

/-
  The walk of CodeCut.
-/
import Derived.Test.YthkihmbgdfnofaaB6
import Derived.Test.YthkihmbgdfnofaaKnRoomy
namespace Go.Proofs.Ythkihmbgdfnofaa
open Go.RowKit Go.IntWalk Knd
set_option linter.unusedVariables false

theorem vlF_step {f d : Int} {v : Wd} {L : List In} {k : Nat} (hk : k < L.length) {D : List Int} (h : vlF f d v (L.take (k + 1)) = (0, D)) : vlF f d v (L.take k) = (0, D.take k) := by
  have h2 := h
  rw [take_snoc i0 hk, vlF_snoc] at h
  unfold vlS at h
  split at h
  · rename_i h0
    have hl := vlF_len f d v L k (by omega) h0
    split at h
    · simp only [Prod.mk.injEq, true_and] at h
      rw [← h]
      refine Prod.ext h0 ?_
      show _ = List.take k (_ ++ _)
      rw [List.take_append_of_le_length (by omega)]
      exact (List.take_of_length_le (by omega)).symm
    · rename_i h1
      simp only [Prod.mk.injEq] at h
      exact absurd h.1 h1
  · rename_i h0
    rw [h] at h0
    exact absurd rfl h0
theorem vlF_take {f d : Int} {v : Wd} {L : List In} : ∀ (j k : Nat) (D : List Int), k + j ≤ L.length → vlF f d v (L.take (k + j)) = (0, D) → vlF f d v (L.take k) = (0, D.take k)
  | 0, k, D, h, he => by
    have := vlF_len f d v L k (by omega) (by rw [Nat.add_zero] at he; rw [he])
    rw [Nat.add_zero] at he
    rw [he] at this ⊢
    rw [List.take_of_length_le (by simp at this; omega)]
  | j + 1, k, D, h, he => by
    have h1 := vlF_step (show k + j < L.length by omega) he
    have h2 := vlF_take j k _ (by omega) h1
    rw [h2, List.take_take]
    congr 2
    omega
theorem okT_take {L : List In} {m : Nat} (hm : m ≤ L.length) (h : okT L L.length = true) : okT (L.take m) m = true := by
  simp only [okT, List.all_eq_true, List.mem_range]
  intro i hi
  rw [List.getD_eq_getElem?_getD, List.getElem?_take_of_lt hi, ← List.getD_eq_getElem?_getD]
  exact okT_at h (by omega)
theorem va_cut {f d out : Int} {v : Wd} {L : List In} {D : List Int} {m : Nat} (h : vaZ f d v L out = (0, D)) (h1 : 1 ≤ m) (h2 : m ≤ L.length) : vaZ f d v (L.take m) ((m : Int) - 1) = (0, D.take m) ∧ D.length = L.length := by
  unfold vaZ at h ⊢
  split at h
  · rename_i hm
    split at h
    · rename_i hF
      obtain ⟨p1, p2, p3, p4, p5, p6⟩ := mc_parts hm
      have hl : (L.take m).length = m := by rw [List.length_take]; omega
      have hmc : mcB f d (L.take m) ((m : Int) - 1) = true := by
        simp only [mcB, Bool.and_eq_true, decide_eq_true_eq, Spn.inB_iff, hl]
        exact ⟨⟨⟨p1, by omega⟩, by omega⟩, okT_take h2 p6⟩
      rw [if_pos hmc, if_pos hF]
      have hL := vlF_len f d v L L.length (Nat.le_refl _)
      rw [List.take_length, h] at hL
      refine ⟨vlF_take (L.length - m) m D (by omega) (by rw [show m + (L.length - m) = L.length by omega, List.take_length]; exact h), hL rfl⟩
    · simp at h
  · simp at h

set_option maxRecDepth 100000 in
set_option maxHeartbeats 4000000 in
theorem cut_walk (f d out : Int) (v : Wd) (N : Int) {a pa : Option Addr} {n cap pl pc : Nat} {L : List In} (W : World) (hL : Ins W a n cap L) (hP : Ints W pa pl pc v.ps) :
    Calls Try.prog 8 #[.agg (cd f d a n cap out), .agg (wdA v pa pl pc), .int .i64 N] W fun e W' => e = .returned (.bool true) ∧ Below W.heap.size W W' := by
  have hb1 := bel1 W (.cells (cd f d a n cap out) 26)
  have hb2 := bel hb1 (bel1 (W.alloc (.cells (cd f d a n cap out) 26)) (.cells (wdA v pa pl pc) 46))
  have HC0 := hide ((HasC.new W 26 (cd f d a n cap out)).alloc (.cells (wdA v pa pl pc) 46))
  have HW0 := hide (has_new1 W (.cells (cd f d a n cap out) 26) 46 (wdA v pa pl pc))
  have HB0 := hide hb2
  have HV := hide (cvalues_any f d out v (hL.later hb2) (hP.later hb2))
  have HLI := hide hL
  have HPI := hide hP
  have HLn := hide hL.len
  have hn := hL.short
  have hnc := hL.le
  have HCut := hide fun (D : List Int) (m : Nat) h h1 h2 => va_cut (f := f) (d := d) (out := out) (v := v) (L := L) (D := D) (m := m) h h1 h2
  have HA := hide fun w => awake_any w
  clear hb1 hb2 hL hP
  go_enter Try.func8, Try.ntmps8
  go_wp2_with fail
  refine HV.out.mono ?_
  rintro e V1 ⟨la, lc, rfl, hO, hb⟩
  have HC1 := hide (HC0.out.below hb)
  have HW1 := hide (HW0.out.below hb)
  have HB1 := hide (bel HB0.out hb)
  obtain ⟨la', lc', e', hI, -⟩ := Ints.of_owns hO
  cases e'
  have HI1 := hide hI
  clear hb HC0 HW0 HB0 HV hO hI
  obtain ⟨Z, hZ⟩ : ∃ Z, vaZ f d v L out = Z := ⟨_, rfl⟩
  rw [hZ] at HI1 HCut ⊢
  clear hZ
  obtain ⟨er, D⟩ := Z
  dsimp only at HI1 ⊢
  go_wp2_with fail
  refine (HA.out _).mono ?_
  rintro e V2 ⟨rfl, hb⟩
  have HC2 := hide (HC1.out.below hb)
  have HW2 := hide (HW1.out.below hb)
  have HB2 := hide (bel HB1.out hb)
  have HI2 := hide (HI1.out.later hb)
  clear hb HC1 HW1 HB1 HI1
  by_cases he : er = 0
  · subst he
    by_cases h1 : N < 1
    · go_wp2_with fail
      refine (HA.out _).mono ?_
      rintro e V3 ⟨rfl, hb⟩
      have HB3 := hide (bel HB2.out hb)
      clear hb
      go_wp2_with fail
      go_ret
      exact ⟨rfl, HB3.out⟩
    · have h1' : decide (N < 1) = false := by simpa using h1
      obtain ⟨c0, c1, c2, c3⟩ := four_of HC2.out
      by_cases h2 : (n : Int) < N
      · go_wp2_with fail
        refine (HA.out _).mono ?_
        rintro e V3 ⟨rfl, hb⟩
        have HB3 := hide (bel HB2.out hb)
        clear hb
        go_wp2_with fail
        go_ret
        exact ⟨rfl, HB3.out⟩
      · have h2' : decide ((n : Int) < N) = false := by simpa using h2
        obtain ⟨m, rfl⟩ : ∃ m : Nat, N = (m : Int) := ⟨N.toNat, by omega⟩
        obtain ⟨hz, hDl⟩ := HCut.out D m rfl (by omega) (by rw [HLn.out]; omega)
        rw [HLn.out] at hDl
        have hLm := (HLI.out.later HB2.out).take (k := m) (by omega)
        have HV2 := hide (cvalues_any f d ((m : Int) - 1) v (hLm.later (below_drew V2)) ((HPI.out.later HB2.out).later (below_drew V2)))
        rw [hz] at HV2
        have HDl := hide hDl
        obtain ⟨y0, y1, y2, y3⟩ := four_of HW2.out
        have i0 : (0 : Int) ≤ m := by omega
        have i1 : (m : Int) ≤ cap := by omega
        have i2 : (m : Int) ≤ n := by omega
        have i3 : 1 ≤ (m : Int) := by omega
        have hw : IntKind.i64.wrap ((m : Int) - 1) = (m : Int) - 1 := by rw [IntKind.wrap_i64]; omega
        clear hDl hLm hz HCut
        go_wp2_with fail
        go_region_held3 (fun w' => w'.cell? ⟨W.heap.size, 0, none⟩ = some (.int .i64 f) ∧ w'.cell? ⟨W.heap.size, 1, none⟩ = some (.int .i64 d) ∧ w'.cell? ⟨W.heap.size, 2, none⟩ = some (.slice a n cap) ∧ w'.cell? ⟨W.heap.size + 1, 0, none⟩ = some (.int .i64 v.x) ∧ w'.cell? ⟨W.heap.size + 1, 1, none⟩ = some (.int .i64 v.y) ∧ w'.cell? ⟨W.heap.size + 1, 2, none⟩ = some (.int .i64 v.c) ∧ w'.cell? ⟨W.heap.size + 1, 3, none⟩ = some (.slice pa pl pc))
          (first | exact ⟨c0, c1, c2, y0, y1, y2, y3⟩ | exact ⟨k0, k1, k2, z0, z1, z2, z3⟩ | go_keep)
          ((first
            | (go_at_call 23; refine HV2.out.mono ?_; rintro e V3 ⟨ma, mc, rfl, hO, hb⟩; have HC3 := hide (HC2.out.below (bel (below_drew V2) hb)); have HW3 := hide (HW2.out.below (bel (below_drew V2) hb)); have HB3 := hide (bel HB2.out (bel (below_drew V2) hb)); have HI3 := hide (HI2.out.later (bel (below_drew V2) hb)); obtain ⟨k0, k1, k2, k3⟩ := four_of HC3.out; obtain ⟨z0, z1, z2, z3⟩ := four_of HW3.out; have HO := hide hO; clear hb hO)))
        obtain ⟨ma', mc', e', hI4, -⟩ := Ints.of_owns HO.out
        cases e'
        have hml : (D.take m).length = m := by rw [List.length_take, HDl.out]; omega
        rw [hml] at hI4
        have hI5 := HI3.out.take (k := m) (by rw [HDl.out]; omega)
        have HSm := hide (sameI_self _ _ _ _ _ _ _ _ hI4 hI5)
        have hDn : ((D.length : Nat) : Int) = n := by rw [HDl.out]
        have hdc : m ≤ lc := by have := HI3.out.le; rw [HDl.out] at this; omega
        have i4 : (m : Int) ≤ lc := by omega
        clear hI4 hI5 HO HI3
        rw [show min m D.length = m by rw [HDl.out]; omega, HDl.out]
        clear hDn HDl hml
        go_wp2_with fail
        refine HSm.out.mono ?_
        rintro e V4 ⟨rfl, q, rfl⟩
        go_wp2_with fail
        go_ret
        exact ⟨rfl, bel HB3.out (below_dN _ _)⟩
  · have he2 : (er != 0) = true := by simpa using he
    clear he
    go_wp2_with fail
    refine (HA.out _).mono ?_
    rintro e V3 ⟨rfl, hb⟩
    have HB3 := hide (bel HB2.out hb)
    clear hb
    go_wp2_with fail
    go_ret
    exact ⟨rfl, HB3.out⟩

end Go.Proofs.Ythkihmbgdfnofaa

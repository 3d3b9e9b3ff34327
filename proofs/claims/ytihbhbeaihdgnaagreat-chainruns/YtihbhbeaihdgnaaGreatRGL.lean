/-
  The walks of span.may and span.Of.
-/
import Derived.Test.YtihbhbeaihdgnaaGreatRSpReck3
import Derived.Test.YtihbhbeaihdgnaaGreatRGF
namespace Go.Proofs.YtihbhbeaihdgnaaGreat.Spn
open Go.RowKit Go.IntWalk Go.Sort
set_option linter.unusedVariables false

def whP (p : Int × Int) : Bool := whB p.1 p.2
def smayB (op k s : Int) (L : List (Int × Int)) : Bool := decide (1 ≤ ar op) && decide ((L.length : Int) = ar op) && cons op k s && L.all whP

theorem all_take_succ' {L : List (Int × Int)} {k : Nat} {x y : Int} (hk : k < L.length) (h : (L.take k).all whP = true) (hx : L.getD k (0, 0) = (x, y)) (e : whB x y = true) : (L.take (k + 1)).all whP = true := by
  have e1 : L[k] = (x, y) := by simpa [List.getD, hk] using hx
  rw [List.take_succ_eq_append_getElem hk, List.all_append, h, e1]
  simp [whP, e]

theorem below_size {B : Nat} {w w' : World} (h : Below B w w') : w.heap.size ≤ w'.heap.size := h.size

set_option maxRecDepth 100000 in
set_option maxHeartbeats 1000000 in
theorem smay_any (op k s : Int) (a : Option Addr) (n cap : Nat) (L : List (Int × Int)) (w : World) (h : Spans w a n cap L) :
    Calls Tryz.prog 164 #[.int .i64 op, .int .i64 k, .int .i64 s, .slice a n cap] w fun e w' => e = .returned (.bool (smayB op k s L)) ∧ Below w.heap.size w w' := by
  have hl := h.len
  have hm1 : n ≤ 9223372036854775807 := by have := h.le; have := h.max; unfold maxLen at this; omega
  by_cases h1 : ar op < 1
  · rw [show smayB op k s L = false by simp [smayB]; omega]
    clear hl h
    go_enter Tryz.func164, Tryz.ntmps164
    go_wp2_with (go_at_call 69; refine (arity_any _ _).mono ?_; rintro e w' ⟨rfl, rfl⟩)
    go_ret
    exact ⟨rfl, Below.refl _ _⟩
  by_cases h2 : (n : Int) = ar op
  · have h2' : ((n : Int) != ar op) = false := by simp [h2]
    cases hc : cons op k s
    · rw [show smayB op k s L = false by simp [smayB, hc]]
      clear hl h2 h
      go_enter Tryz.func164, Tryz.ntmps164
      go_wp2_with (first | (go_at_call 69; refine (arity_any _ _).mono ?_; rintro e w' ⟨rfl, rfl⟩) | (go_at_call 163; refine (constants_any _ _ _ _).mono ?_; rintro e w' ⟨rfl, rfl⟩))
      go_ret
      exact ⟨rfl, Below.refl _ _⟩
    · rw [show smayB op k s L = L.all whP by simp [smayB, hc, hl, h2]; omega]
      have HL := hide hl
      have H := hide h
      clear hl h2 h
      go_enter Tryz.func164, Tryz.ntmps164
      go_wp2_with (first | (go_at_call 69; refine (arity_any _ _).mono ?_; rintro e w' ⟨rfl, hw'⟩; have hq := hw'.symm; subst hq) | (go_at_call 163; refine (constants_any _ _ _ _).mono ?_; rintro e w' ⟨rfl, hw'⟩; have hq := hw'.symm; subst hq))
      go_loopw [31] (fun i wr => ∃ j : Nat, j ≤ n ∧ i = .int .i64 j ∧ (L.take j).all whP = true ∧ Below w.heap.size w wr) (fun i _ => n - (intOf i).toNat)
      case atStart => exact ⟨0, Nat.zero_le _, rfl, rfl, Below.refl _ _⟩
      case round =>
        rename_i wr
        obtain ⟨j, hj, rfl, hA, hB⟩ := hrel
        have HA := hide hA
        have HB := hide hB
        clear hA hB
        by_cases hlt : j < n
        · obtain ⟨bb, off, rfl, hbb, hcell⟩ := (H.out.later HB.out).at (by omega)
          obtain ⟨g1, g2⟩ := hcell j hlt
          clear hcell
          obtain ⟨⟨x, y⟩, hxy⟩ : ∃ p, L.getD j (0, 0) = p := ⟨_, rfl⟩
          rw [hxy] at g1 g2
          have HXY := hide hxy
          clear hxy
          have hj0 : (0 : Int) ≤ (j : Int) := by omega
          have hj1 : (j : Int) < (n : Int) := by omega
          have HWh := fun w => hide (whole_any x y w)
          cases hx : whB x y
          · rw [hx] at HWh
            go_wp2_with fail
            refine (HWh _).out.mono ?_
            rintro e w2 ⟨rfl, hb2⟩
            have HB2 := hide (bel HB.out (bel (bel1 _ _) hb2))
            clear hb2
            go_wp2_with fail
            go_ret
            refine ⟨ret_bool ?_, HB2.out⟩
            symm
            rw [List.all_eq_false]
            refine ⟨(x, y), ?_, by simp [whP, hx]⟩
            rw [← HXY.out]
            simp [List.getD, HL.out, hlt]
          · rw [hx] at HWh
            go_wp2_with fail
            refine (HWh _).out.mono ?_
            rintro e w2 ⟨rfl, hb2⟩
            have HB2 := hide (bel HB.out (bel (bel1 _ _) hb2))
            clear hb2
            go_wp2_with fail
            go_roundw
            case rel => exact ⟨j + 1, by omega, by go_num, all_take_succ' (by rw [HL.out]; exact hlt) HA.out HXY.out hx, HB2.out⟩
            case measure => simp [intOf]; omega
        · go_wp2_with fail
          go_ret
          refine ⟨ret_bool ?_, HB.out⟩
          have h3 := HA.out
          rw [List.take_of_length_le (by rw [HL.out]; omega)] at h3
          exact h3.symm
  · have h2' : ((n : Int) != ar op) = true := by simp [h2]
    rw [show smayB op k s L = false by simp [smayB, hl, h2]]
    clear hl h2 h
    go_enter Tryz.func164, Tryz.ntmps164
    go_wp2_with (go_at_call 69; refine (arity_any _ _).mono ?_; rintro e w' ⟨rfl, rfl⟩)
    go_ret
    exact ⟨rfl, Below.refl _ _⟩

/-- The span by 5.3, and the error of 5.2. -/
def reckZ (op k s : Int) (L : List (Int × Int)) : (Int × Int) × Int :=
  if op = 32 then cornZ (fun u v => valZ 10 0 0 [u, v]) (L.getD 0 (0, 0)).1 (L.getD 0 (0, 0)).2 k k else
  if op = 31 then (bothZ (L.getD 0 (0, 0)).1 (L.getD 0 (0, 0)).2 k k, 0) else
  if op = 11 ∨ op = 12 then divZ (fun u v => valZ op k s [u, v]) op (L.getD 0 (0, 0)).1 (L.getD 0 (0, 0)).2 (L.getD 1 (0, 0)).1 (L.getD 1 (0, 0)).2 else
  if op = 10 ∨ op = 13 ∨ op = 14 ∨ op = 18 ∨ op = 19 ∨ op = 20 ∨ op = 21 then cornZ (fun u v => valZ op k s [u, v]) (L.getD 0 (0, 0)).1 (L.getD 0 (0, 0)).2 (L.getD 1 (0, 0)).1 (L.getD 1 (0, 0)).2 else
  if op = 7 ∨ op = 24 ∨ op = 25 ∨ op = 26 ∨ op = 27 ∨ op = 29 ∨ op = 30 ∨ op = 33 then endsZ (fun xs => valZ op k s xs) L else
  (plainZ op L, 0)

theorem whP_w32 {p : Int × Int} (h : whP p = true) : W32 p.1 ∧ W32 p.2 := by
  have := whB_iff.1 h
  exact ⟨by omega, by omega⟩

theorem cons_w32 {op k s : Int} (h : cons op k s = true) (ho : op = 31) : W32 k := by
  subst ho
  have h' : inB k 0 2147483647 = true := h
  have := inB_iff.1 h'
  exact ⟨by omega, by omega⟩

theorem reck_any (op k s : Int) (a : Option Addr) (n cap : Nat) (L : List (Int × Int)) (w : World) (h : Spans w a n cap L) (hm : smayB op k s L = true) :
    Calls Tryz.prog 165 #[.int .i64 op, .int .i64 k, .int .i64 s, .slice a n cap] w fun r w' => r = .returned (spV (reckZ op k s L)) ∧ Below w.heap.size w w' := by
  simp only [smayB, Bool.and_eq_true, decide_eq_true_eq, List.all_eq_true] at hm
  obtain ⟨⟨⟨m1, m2⟩, m3⟩, m4⟩ := hm
  have hl := h.len
  have h3 := ar_le op
  have hle := h.le
  by_cases he : op = 7 ∨ op = 24 ∨ op = 25 ∨ op = 26 ∨ op = 27 ∨ op = 29 ∨ op = 30 ∨ op = 33
  · rw [show reckZ op k s L = endsZ (fun xs => valZ op k s xs) L by unfold reckZ; rw [if_neg (by omega), if_neg (by omega), if_neg (by omega), if_neg (by omega), if_pos he]]
    exact reck_ends op k s a n cap L w h (by omega) he
  obtain ⟨b, off, rfl, hlt, hc⟩ := h.at (by omega)
  have hw : ∀ p ∈ L, W32 p.1 ∧ W32 p.2 := fun p hp => whP_w32 (m4 p hp)
  match L, hl, m2, hc, hw with
  | [(x0, y0)], hl, m2, hc, hw =>
    subst hl
    have ho := one_cases (op := op) (by simpa using m2.symm)
    obtain ⟨d0, d1⟩ := hc 0 (by simp)
    obtain ⟨w0, w1⟩ := hw (x0, y0) (by simp)
    simp at d0 d1
    by_cases h32 : op = 32
    · rw [show reckZ op k s [(x0, y0)] = cornZ (fun u v => valZ 10 0 0 [u, v]) x0 y0 k k by unfold reckZ; rw [if_pos h32]; rfl]
      exact reck_mulk op k s x0 y0 b off cap w hle hlt d0 d1 h32
    by_cases h31 : op = 31
    · rw [show reckZ op k s [(x0, y0)] = (bothZ x0 y0 k k, 0) by unfold reckZ; rw [if_neg h32, if_pos h31]; rfl]
      exact reck_andk op k s x0 y0 b off cap w hle hlt d0 d1 h31 w0 w1 (cons_w32 m3 h31)
    have h56 : op = 5 ∨ op = 6 := by omega
    rw [show reckZ op k s [(x0, y0)] = (oneZ op x0 y0, 0) by unfold reckZ; rw [if_neg h32, if_neg h31, if_neg (by omega), if_neg (by omega), if_neg he]; rfl]
    exact reck_plain op k s _ 1 cap (oneZ op x0 y0) w (by omega) fun W hW => splain_1 op x0 y0 b off cap W hle (by have := hW.size; omega) ((hW.cell (p := ⟨b, off, none⟩) hlt).trans d0) ((hW.cell (p := ⟨b, off + 1, none⟩) hlt).trans d1) w0 w1
  | [(x0, y0), (x1, y1)], hl, m2, hc, hw =>
    subst hl
    have ho := inB_iff.1 (two_cases (op := op) (by simpa using m2.symm))
    obtain ⟨d0, d1⟩ := hc 0 (by simp)
    obtain ⟨d2, d3⟩ := hc 1 (by simp)
    obtain ⟨w0, w1⟩ := hw (x0, y0) (by simp)
    obtain ⟨w2, w3⟩ := hw (x1, y1) (by simp)
    simp at d0 d1 d2 d3
    by_cases hd : op = 11 ∨ op = 12
    · rw [show reckZ op k s [(x0, y0), (x1, y1)] = divZ (fun u v => valZ op k s [u, v]) op x0 y0 x1 y1 by unfold reckZ; rw [if_neg (by omega), if_neg (by omega), if_pos hd]; rfl]
      exact reck_div op k s x0 y0 x1 y1 b off cap w hle hlt d0 d1 d2 d3 hd w0 w1 w2 w3
    by_cases hcn : op = 10 ∨ op = 13 ∨ op = 14 ∨ op = 18 ∨ op = 19 ∨ op = 20 ∨ op = 21
    · rw [show reckZ op k s [(x0, y0), (x1, y1)] = cornZ (fun u v => valZ op k s [u, v]) x0 y0 x1 y1 by unfold reckZ; rw [if_neg (by omega), if_neg (by omega), if_neg hd, if_pos hcn]; rfl]
      exact reck_corn op k s x0 y0 x1 y1 b off cap w hle hlt d0 d1 d2 d3 hcn
    have h2 : op = 8 ∨ op = 9 ∨ op = 15 ∨ op = 16 ∨ op = 17 ∨ op = 22 ∨ op = 23 := by omega
    rw [show reckZ op k s [(x0, y0), (x1, y1)] = (twoZ op x0 y0 x1 y1, 0) by unfold reckZ; rw [if_neg (by omega), if_neg (by omega), if_neg hd, if_neg hcn, if_neg he]; rfl]
    exact reck_plain op k s _ 2 cap (twoZ op x0 y0 x1 y1) w (by omega) fun W hW => splain_2 op x0 y0 x1 y1 b off cap W hle (by have := hW.size; omega) ((hW.cell (p := ⟨b, off, none⟩) hlt).trans d0) ((hW.cell (p := ⟨b, off + 1, none⟩) hlt).trans d1) ((hW.cell (p := ⟨b, off + 2, none⟩) hlt).trans d2) ((hW.cell (p := ⟨b, off + 2 + 1, none⟩) hlt).trans d3) w0 w1 w2 w3 h2
  | [(x0, y0), (x1, y1), (x2, y2)], hl, m2, hc, hw =>
    subst hl
    have ho := inB_iff.1 (three_cases (op := op) (by simpa using m2.symm))
    obtain ⟨d0, d1⟩ := hc 0 (by simp)
    obtain ⟨d2, d3⟩ := hc 1 (by simp)
    obtain ⟨d4, d5⟩ := hc 2 (by simp)
    simp at d0 d1 d2 d3 d4 d5
    have h28 : op = 28 := by omega
    rw [show reckZ op k s [(x0, y0), (x1, y1), (x2, y2)] = (selZ x0 y0 x1 y1 x2 y2, 0) by unfold reckZ; rw [if_neg (by omega), if_neg (by omega), if_neg (by omega), if_neg (by omega), if_neg he]; rfl]
    exact reck_plain op k s _ 3 cap (selZ x0 y0 x1 y1 x2 y2) w (by omega) fun W hW => splain_3 op x0 y0 x1 y1 x2 y2 b off cap W hle (by have := hW.size; omega) ((hW.cell (p := ⟨b, off, none⟩) hlt).trans d0) ((hW.cell (p := ⟨b, off + 1, none⟩) hlt).trans d1) ((hW.cell (p := ⟨b, off + 2, none⟩) hlt).trans d2) ((hW.cell (p := ⟨b, off + 2 + 1, none⟩) hlt).trans d3) ((hW.cell (p := ⟨b, off + 4, none⟩) hlt).trans d4) ((hW.cell (p := ⟨b, off + 4 + 1, none⟩) hlt).trans d5)
  | [], hl, m2, hc, hw => simp at m2; omega
  | _ :: _ :: _ :: _ :: _, hl, m2, hc, hw => simp at m2; omega

/-- What span.Of answers. -/
def finZ (Z : (Int × Int) × Int) : (Int × Int) × Int := if Z.2 ≠ 0 then ((0, 0), Z.2) else if whB Z.1.1 Z.1.2 = true then (Z.1, 0) else ((0, 0), 13)
def ofZ (op k s : Int) (L : List (Int × Int)) : (Int × Int) × Int := if smayB op k s L = true then finZ (reckZ op k s L) else ((0, 0), 1)

set_option maxRecDepth 100000 in
set_option maxHeartbeats 1000000 in
theorem of_any (op k s : Int) (a : Option Addr) (n cap : Nat) (L : List (Int × Int)) (w : World) (h : Spans w a n cap L) :
    Calls Tryz.prog 127 #[.int .i64 op, .int .i64 k, .int .i64 s, .slice a n cap] w fun r w' => r = .returned (spV (ofZ op k s L)) ∧ Below w.heap.size w w' := by
  have HR := hide (HasC.new w 74 #[.int .i64 0, .int .i64 0])
  have HB := hide (bel1 w (cs 0 0))
  have HM := hide (smay_any op k s a n cap L _ (h.later HB.out))
  cases hm : smayB op k s L
  · rw [hm] at HM
    rw [show ofZ op k s L = ((0, 0), 1) by simp [ofZ, hm]]
    go_enter Tryz.func127, Tryz.ntmps127
    go_wp2_with fail
    refine HM.out.mono ?_
    rintro e w2 ⟨rfl, hb2⟩
    have hR := HR.out.below hb2
    have hB := bel HB.out hb2
    obtain ⟨s1, s2, s3, s4⟩ := facts2 hR
    clear hb2
    go_wp2_with fail
    obtain ⟨d0, d1, hB4⟩ := stored2 hR hB (by omega) 0 0
    exact bodyPost_ret (v := .tuple #[.agg #[.int .i64 0, .int .i64 0], .int .i64 1]) (by simp [results, Tryz.results127, go_sem, d0, d1]) rfl ⟨rfl, hB4⟩
  · rw [hm] at HM
    have HRk := hide fun (W : World) (hW : Below w.heap.size w W) => reck_any op k s a n cap L W (h.later hW) hm
    rw [show ofZ op k s L = finZ (reckZ op k s L) by simp [ofZ, hm]]
    obtain ⟨⟨⟨x, y⟩, e⟩, hZ⟩ : ∃ Z, reckZ op k s L = Z := ⟨_, rfl⟩
    rw [hZ] at HRk ⊢
    clear hZ hm h
    by_cases he : e = 0
    · subst he
      have HWh := fun w => hide (whole_any x y w)
      cases hx : whB x y
      · rw [show finZ ((x, y), 0) = ((0, 0), 13) by simp [finZ, hx]]
        rw [hx] at HWh
        go_enter Tryz.func127, Tryz.ntmps127
        go_wp2_with fail
        refine HM.out.mono ?_
        rintro e w2 ⟨rfl, hb2⟩
        have HR2 := hide (HR.out.below hb2)
        have HB2 := hide (bel HB.out hb2)
        clear hb2
        go_wp2_with fail
        refine (HRk.out _ HB2.out).mono ?_
        rintro e w3 ⟨rfl, hb3⟩
        have HR3 := hide (HR2.out.below hb3)
        have HB3 := hide (bel HB2.out hb3)
        clear hb3
        go_wp2_with fail
        refine (HWh _).out.mono ?_
        rintro e w4 ⟨rfl, hb4⟩
        have hR := (HR3.out.alloc (cs x y)).below hb4
        have hB := bel (bel HB3.out (bel1 _ _)) hb4
        obtain ⟨s1, s2, s3, s4⟩ := facts2 hR
        clear hb4
        go_wp2_with fail
        obtain ⟨d0, d1, hB4⟩ := stored2 hR hB (by omega) 0 0
        exact bodyPost_ret (v := .tuple #[.agg #[.int .i64 0, .int .i64 0], .int .i64 13]) (by simp [results, Tryz.results127, go_sem, d0, d1]) rfl ⟨rfl, hB4⟩
      · rw [show finZ ((x, y), 0) = ((x, y), 0) by simp [finZ, hx]]
        rw [hx] at HWh
        go_enter Tryz.func127, Tryz.ntmps127
        go_wp2_with fail
        refine HM.out.mono ?_
        rintro e w2 ⟨rfl, hb2⟩
        have HR2 := hide (HR.out.below hb2)
        have HB2 := hide (bel HB.out hb2)
        clear hb2
        go_wp2_with fail
        refine (HRk.out _ HB2.out).mono ?_
        rintro e w3 ⟨rfl, hb3⟩
        have HR3 := hide (HR2.out.below hb3)
        have HB3 := hide (bel HB2.out hb3)
        clear hb3
        go_wp2_with fail
        refine (HWh _).out.mono ?_
        rintro e w4 ⟨rfl, hb4⟩
        have hR := (HR3.out.alloc (cs x y)).below hb4
        have hN := (HasC.new w3 74 #[.int .i64 x, .int .i64 y]).below hb4
        have hB := bel (bel HB3.out (bel1 _ _)) hb4
        obtain ⟨s1, s2, s3, s4⟩ := facts2 hR
        obtain ⟨n1, n2, -, -⟩ := facts2 hN
        clear hb4
        go_wp2_with fail
        obtain ⟨d0, d1, hB4⟩ := stored2 hR hB (by omega) x y
        exact bodyPost_ret (v := .tuple #[.agg #[.int .i64 x, .int .i64 y], .int .i64 0]) (by simp [results, Tryz.results127, go_sem, d0, d1]) rfl ⟨rfl, hB4⟩
    · rw [show finZ ((x, y), e) = ((0, 0), e) by simp [finZ, he]]
      have he' : (e != 0) = true := by simp [he]
      clear he
      go_enter Tryz.func127, Tryz.ntmps127
      go_wp2_with fail
      refine HM.out.mono ?_
      rintro e w2 ⟨rfl, hb2⟩
      have HR2 := hide (HR.out.below hb2)
      have HB2 := hide (bel HB.out hb2)
      clear hb2
      go_wp2_with fail
      refine (HRk.out _ HB2.out).mono ?_
      rintro e w3 ⟨rfl, hb3⟩
      have hR := (HR2.out.below hb3).alloc (cs x y)
      have hB := bel (bel HB2.out hb3) (bel1 _ (cs x y))
      obtain ⟨s1, s2, s3, s4⟩ := facts2 hR
      clear hb3
      go_wp2_with fail
      obtain ⟨d0, d1, hB4⟩ := stored2 hR hB (by omega) 0 0
      exact bodyPost_ret (v := .tuple #[.agg #[.int .i64 0, .int .i64 0], .int .i64 _]) (by simp [results, Tryz.results127, go_sem, d0, d1]) rfl ⟨rfl, hB4⟩

end Go.Proofs.YtihbhbeaihdgnaaGreat.Spn

/-
  What the operators and the spans have to do with each other: facts on whole numbers.
-/
namespace Go.Proofs.YtihbhbeaihdgnaaGreat.Spn
open Go.RowKit Go.IntWalk
set_option linter.unusedVariables false

/-- q lies between p and r, whichever is less. -/
def bet (p q r : Int) : Prop := (p ≤ q ∧ q ≤ r) ∨ (r ≤ q ∧ q ≤ p)

def fnE (E : Int × Int) : Int × Int := if E.2 = 0 then (if wd E.1 = true then (E.1, 0) else (0, 13)) else (0, E.2)
theorem val_fnE {op k s : Int} {xs : List Int} (h : mayB op k s xs = true) : valZ op k s xs = fnE (ex op k s (xs.getD 0 0) (xs.getD 1 0) (xs.getD 2 0)) := by
  unfold valZ fnE
  rw [if_pos h]
theorem fnE_ok {E : Int × Int} (h : (fnE E).2 = 0) : E.2 = 0 ∧ wd E.1 = true ∧ (fnE E).1 = E.1 := by
  unfold fnE at *
  by_cases h1 : E.2 = 0
  · rw [if_pos h1] at *
    by_cases h2 : wd E.1 = true
    · rw [if_pos h2] at *; exact ⟨h1, h2, rfl⟩
    · rw [if_neg h2] at h; simp at h
  · rw [if_neg h1] at *; exact absurd h h1
theorem fnE_mk {E : Int × Int} (h1 : E.2 = 0) (h2 : wd E.1 = true) : fnE E = (E.1, 0) := by
  unfold fnE; rw [if_pos h1, if_pos h2]
theorem wd_mid {l v h : Int} (hl : wd l = true) (hh : wd h = true) (h1 : l ≤ v) (h2 : v ≤ h) : wd v = true := by
  rw [wd_iff] at *; omega

theorem may1 {op k s x : Int} (ho : ar op = 1) (hc : cons op k s = true) (hx : W32 x) : mayB op k s [x] = true := by
  simp [mayB, ho, hc, wd_iff]; exact hx
theorem may2 {op k s x y : Int} (ho : ar op = 2) (hc : cons op k s = true) (hx : W32 x) (hy : W32 y) : mayB op k s [x, y] = true := by
  simp [mayB, ho, hc, wd_iff]; exact ⟨hx, hy⟩
theorem may3 {op k s x y z : Int} (ho : ar op = 3) (hc : cons op k s = true) (hx : W32 x) (hy : W32 y) (hz : W32 z) : mayB op k s [x, y, z] = true := by
  simp [mayB, ho, hc, wd_iff]; exact ⟨hx, hy, hz⟩
theorem val1 {op k s x : Int} (ho : ar op = 1) (hc : cons op k s = true) (hx : W32 x) : valZ op k s [x] = fnE (ex op k s x 0 0) := val_fnE (may1 ho hc hx)
theorem val2 {op k s x y : Int} (ho : ar op = 2) (hc : cons op k s = true) (hx : W32 x) (hy : W32 y) : valZ op k s [x, y] = fnE (ex op k s x y 0) := val_fnE (may2 ho hc hx hy)
theorem val3 {op k s x y z : Int} (ho : ar op = 3) (hc : cons op k s = true) (hx : W32 x) (hy : W32 y) (hz : W32 z) : valZ op k s [x, y, z] = fnE (ex op k s x y z) := val_fnE (may3 ho hc hx hy hz)

/-! ### corners -/
theorem cornZ_inv {f : Int → Int → Int × Int} {a b c d lo hi : Int} (h : cornZ f a b c d = ((lo, hi), 0)) :
    (f a c).2 = 0 ∧ (f a d).2 = 0 ∧ (f b c).2 = 0 ∧ (f b d).2 = 0 ∧
    lo = min (min (min (min 9223372036854775807 (f a c).1) (f a d).1) (f b c).1) (f b d).1 ∧ hi = max (max (max (max (-9223372036854775808) (f a c).1) (f a d).1) (f b c).1) (f b d).1 := by
  have e0 : cv f a b c d 0 = f a c := rfl
  have e1 : cv f a b c d 1 = f a d := rfl
  have e2 : cv f a b c d 2 = f b c := rfl
  have e3 : cv f a b c d 3 = f b d := rfl
  unfold cornZ at h
  rw [e0, e1, e2, e3] at h
  by_cases h0 : (f a c).2 = 0
  · rw [if_neg (by simp [h0])] at h
    by_cases h1 : (f a d).2 = 0
    · rw [if_neg (by simp [h1])] at h
      by_cases h2 : (f b c).2 = 0
      · rw [if_neg (by simp [h2])] at h
        by_cases h3 : (f b d).2 = 0
        · rw [if_neg (by simp [h3])] at h
          simp only [Prod.mk.injEq, and_true] at h
          refine ⟨h0, h1, h2, h3, ?_, ?_⟩
          · rw [← h.1]; simp only [cLo, e0, e1, e2, e3]
          · rw [← h.2]; simp only [cHi, e0, e1, e2, e3]
        · rw [if_pos h3] at h; simp only [Prod.mk.injEq] at h; exact absurd h.2 h3
      · rw [if_pos h2] at h; simp only [Prod.mk.injEq] at h; exact absurd h.2 h2
    · rw [if_pos h1] at h; simp only [Prod.mk.injEq] at h; exact absurd h.2 h1
  · rw [if_pos h0] at h; simp only [Prod.mk.injEq] at h; exact absurd h.2 h0
theorem cornZ_mk {f : Int → Int → Int × Int} {a b c d : Int} (h0 : (f a c).2 = 0) (h1 : (f a d).2 = 0) (h2 : (f b c).2 = 0) (h3 : (f b d).2 = 0) :
    cornZ f a b c d = ((min (min (min (min 9223372036854775807 (f a c).1) (f a d).1) (f b c).1) (f b d).1, max (max (max (max (-9223372036854775808) (f a c).1) (f a d).1) (f b c).1) (f b d).1), 0) := by
  have e0 : cv f a b c d 0 = f a c := rfl
  have e1 : cv f a b c d 1 = f a d := rfl
  have e2 : cv f a b c d 2 = f b c := rfl
  have e3 : cv f a b c d 3 = f b d := rfl
  unfold cornZ
  rw [e0, e1, e2, e3, if_neg (by simp [h0]), if_neg (by simp [h1]), if_neg (by simp [h2]), if_neg (by simp [h3])]
  simp only [cLo, cHi, e0, e1, e2, e3]

/-- A function that between ends is between its values at the ends. -/
structure Mid (g : Int → Int → Int) (a b c d : Int) : Prop where
  fst : ∀ x y, a ≤ x → x ≤ b → c ≤ y → y ≤ d → bet (g a y) (g x y) (g b y)
  snd : ∀ x y, a ≤ x → x ≤ b → c ≤ y → y ≤ d → bet (g x c) (g x y) (g x d)

theorem Mid.hull {g : Int → Int → Int} {a b c d : Int} (h : Mid g a b c d) (hab : a ≤ b) (hcd : c ≤ d) {x y : Int} (h1 : a ≤ x) (h2 : x ≤ b) (h3 : c ≤ y) (h4 : y ≤ d) :
    min (min (min (g a c) (g a d)) (g b c)) (g b d) ≤ g x y ∧ g x y ≤ max (max (max (g a c) (g a d)) (g b c)) (g b d) := by
  have e1 := h.fst x y h1 h2 h3 h4
  have e2 := h.snd a y (Int.le_refl _) hab h3 h4
  have e3 := h.snd b y hab (Int.le_refl _) h3 h4
  unfold bet at e1 e2 e3
  omega

theorem mul_mid (a b c d : Int) : Mid (fun x y => x * y) a b c d := by
  constructor
  · intro x y h1 h2 h3 h4
    unfold bet
    rcases Int.le_total 0 y with hy | hy
    · left
      exact ⟨Int.mul_le_mul_of_nonneg_right h1 hy, Int.mul_le_mul_of_nonneg_right h2 hy⟩
    · right
      exact ⟨Int.mul_le_mul_of_nonpos_right h2 hy, Int.mul_le_mul_of_nonpos_right h1 hy⟩
  · intro x y h1 h2 h3 h4
    unfold bet
    rcases Int.le_total 0 x with hx | hx
    · left
      exact ⟨Int.mul_le_mul_of_nonneg_left h3 hx, Int.mul_le_mul_of_nonneg_left h4 hx⟩
    · right
      exact ⟨Int.mul_le_mul_of_nonpos_left hx h4, Int.mul_le_mul_of_nonpos_left hx h3⟩

theorem pow_mono {m n : Nat} (h : m ≤ n) : (2 : Int) ^ m ≤ 2 ^ n ∧ (1 : Int) ≤ 2 ^ m := by
  have := pow_bd m n h
  omega

theorem shl_mid (a b c d : Int) (hc : 0 ≤ c) : Mid (fun x y => x * 2 ^ y.toNat) a b c d := by
  constructor
  · intro x y h1 h2 h3 h4
    exact (mul_mid a b (2 ^ y.toNat) (2 ^ y.toNat)).fst x _ h1 h2 (Int.le_refl _) (Int.le_refl _)
  · intro x y h1 h2 h3 h4
    exact (mul_mid x x (2 ^ c.toNat) (2 ^ d.toNat)).snd x _ (Int.le_refl _) (Int.le_refl _) (pow_mono (by omega)).1 (pow_mono (by omega)).1

theorem ediv_mono {x y p : Int} (hp : 0 < p) (h : x ≤ y) : x / p ≤ y / p := Int.ediv_le_ediv hp h

theorem shr_mid (a b c d : Int) (hc : 0 ≤ c) : Mid (fun x y => x / 2 ^ y.toNat) a b c d := by
  constructor
  · intro x y h1 h2 h3 h4
    have hp := (pow_mono (Nat.le_refl y.toNat)).2
    exact .inl ⟨ediv_mono (by omega) h1, ediv_mono (by omega) h2⟩
  · intro x y h1 h2 h3 h4
    have key : ∀ m n : Nat, m ≤ n → (0 ≤ x → x / 2 ^ n ≤ x / 2 ^ m) ∧ (x < 0 → x / 2 ^ m ≤ x / 2 ^ n) := by
      intro m n hmn
      obtain ⟨q, rfl⟩ : ∃ q, n = m + q := ⟨n - m, by omega⟩
      have hm := (pow_mono (Nat.le_refl m)).2
      have hq := (pow_mono (Nat.le_refl q)).2
      have e : x / 2 ^ (m + q) = x / 2 ^ m / 2 ^ q := by rw [Int.pow_add, Int.ediv_ediv_of_nonneg (by omega)]
      rw [e]
      generalize (2 : Int) ^ q = Q at *
      constructor
      · intro hx
        have : 0 ≤ x / 2 ^ m := Int.ediv_nonneg hx (by omega)
        exact Int.ediv_le_self _ this
      · intro hx
        have hneg : x / 2 ^ m < 0 := Int.ediv_neg_of_neg_of_pos hx (by omega)
        generalize x / 2 ^ m = z at *
        have h1 : z * Q ≤ z * 1 := Int.mul_le_mul_of_nonpos_left (by omega) hq
        exact (Int.le_ediv_iff_mul_le (by omega)).2 (by omega)
    unfold bet
    rcases Int.lt_or_le x 0 with hx | hx
    · exact .inl ⟨(key c.toNat y.toNat (by omega)).2 hx, (key y.toNat d.toNat (by omega)).2 hx⟩
    · exact .inr ⟨(key y.toNat d.toNat (by omega)).1 hx, (key c.toNat y.toNat (by omega)).1 hx⟩

theorem tdiv_neg' (x y : Int) : x.tdiv (-y) = -(x.tdiv y) := Int.tdiv_neg x y
theorem neg_tdiv' (x y : Int) : (-x).tdiv y = -(x.tdiv y) := Int.neg_tdiv x y

theorem tdiv_mono_left {x x' y : Int} (hy : 0 < y) (h : x ≤ x') : x.tdiv y ≤ x'.tdiv y := by
  rcases Int.lt_or_le x 0 with hx | hx
  · rcases Int.lt_or_le x' 0 with hx' | hx'
    · have e1 : x.tdiv y = -((-x) / y) := by rw [← Int.tdiv_eq_ediv_of_nonneg (by omega), Int.neg_tdiv, Int.neg_neg]
      have e2 : x'.tdiv y = -((-x') / y) := by rw [← Int.tdiv_eq_ediv_of_nonneg (by omega), Int.neg_tdiv, Int.neg_neg]
      have := ediv_mono hy (show -x' ≤ -x by omega)
      omega
    · have e1 : x.tdiv y = -((-x) / y) := by rw [← Int.tdiv_eq_ediv_of_nonneg (by omega), Int.neg_tdiv, Int.neg_neg]
      have e2 : x'.tdiv y = x' / y := Int.tdiv_eq_ediv_of_nonneg hx'
      have h1 : 0 ≤ (-x) / y := Int.ediv_nonneg (by omega) (by omega)
      have h2 : 0 ≤ x' / y := Int.ediv_nonneg hx' (by omega)
      omega
  · rw [Int.tdiv_eq_ediv_of_nonneg hx, Int.tdiv_eq_ediv_of_nonneg (by omega)]
    exact ediv_mono hy h

theorem tdiv_anti_right {x y y' : Int} (hx : 0 ≤ x) (hy : 0 < y) (h : y ≤ y') : x.tdiv y' ≤ x.tdiv y := by
  rw [Int.tdiv_eq_ediv_of_nonneg hx, Int.tdiv_eq_ediv_of_nonneg hx]
  refine (Int.le_ediv_iff_mul_le hy).2 ?_
  have h0 : 0 ≤ x / y' := Int.ediv_nonneg hx (by omega)
  have h1 : x / y' * y ≤ x / y' * y' := Int.mul_le_mul_of_nonneg_left h h0
  have h2 := Int.ediv_mul_le x (show y' ≠ 0 by omega)
  omega

theorem tdiv_mid (a b c d : Int) (h0 : ¬ (c ≤ 0 ∧ 0 ≤ d)) : Mid (fun x y => x.tdiv y) a b c d := by
  constructor
  · intro x y h1 h2 h3 h4
    unfold bet
    rcases (show 0 < y ∨ y < 0 by omega) with hy | hy
    · exact .inl ⟨tdiv_mono_left hy h1, tdiv_mono_left hy h2⟩
    · right
      have e := fun z : Int => tdiv_neg' z (-y)
      simp only [Int.neg_neg] at e
      have h5 := tdiv_mono_left (show 0 < -y by omega) h1
      have h6 := tdiv_mono_left (show 0 < -y by omega) h2
      show b.tdiv y ≤ x.tdiv y ∧ x.tdiv y ≤ a.tdiv y
      rw [e a, e x, e b]
      omega
  · intro x y h1 h2 h3 h4
    show bet (x.tdiv c) (x.tdiv y) (x.tdiv d)
    unfold bet
    rcases (show 0 < c ∨ d < 0 by omega) with hc | hd
    · rcases Int.le_total 0 x with hx | hx
      · exact .inr ⟨tdiv_anti_right hx (by omega) h4, tdiv_anti_right hx (by omega) h3⟩
      · left
        have e := fun z : Int => neg_tdiv' (-x) z
        simp only [Int.neg_neg] at e
        have h5 := tdiv_anti_right (show 0 ≤ -x by omega) (show 0 < c by omega) h3
        have h6 := tdiv_anti_right (show 0 ≤ -x by omega) (show 0 < y by omega) h4
        rw [e c, e y, e d]
        omega
    · have ed := fun z w : Int => tdiv_neg' z (-w)
      simp only [Int.neg_neg] at ed
      rw [ed x c, ed x y, ed x d]
      rcases Int.le_total 0 x with hx | hx
      · have h5 := tdiv_anti_right hx (show 0 < -y by omega) (show -y ≤ -c by omega)
        have h6 := tdiv_anti_right hx (show 0 < -d by omega) (show -d ≤ -y by omega)
        omega
      · have e := fun z : Int => neg_tdiv' (-x) z
        simp only [Int.neg_neg] at e
        have h5 := tdiv_anti_right (show 0 ≤ -x by omega) (show 0 < -y by omega) (show -y ≤ -c by omega)
        have h6 := tdiv_anti_right (show 0 ≤ -x by omega) (show 0 < -d by omega) (show -d ≤ -y by omega)
        rw [e (-c), e (-y), e (-d)]
        omega

theorem tr_le {p q : Bool} (h : p = true → q = true) : tr p ≤ tr q := by
  cases p <;> cases q <;> simp [tr] at *

theorem cmp_mid (op : Int) (ho : op = 18 ∨ op = 19 ∨ op = 20 ∨ op = 21) (k s a b c d : Int) : Mid (fun x y => (ex op k s x y 0).1) a b c d := by
  rcases ho with rfl | rfl | rfl | rfl
  · constructor
    · intro x y h1 h2 h3 h4
      exact .inr ⟨tr_le (by simp; omega), tr_le (by simp; omega)⟩
    · intro x y h1 h2 h3 h4
      exact .inl ⟨tr_le (by simp; omega), tr_le (by simp; omega)⟩
  · constructor
    · intro x y h1 h2 h3 h4
      exact .inr ⟨tr_le (by simp; omega), tr_le (by simp; omega)⟩
    · intro x y h1 h2 h3 h4
      exact .inl ⟨tr_le (by simp; omega), tr_le (by simp; omega)⟩
  · constructor
    · intro x y h1 h2 h3 h4
      exact .inl ⟨tr_le (by simp; omega), tr_le (by simp; omega)⟩
    · intro x y h1 h2 h3 h4
      exact .inr ⟨tr_le (by simp; omega), tr_le (by simp; omega)⟩
  · constructor
    · intro x y h1 h2 h3 h4
      exact .inl ⟨tr_le (by simp; omega), tr_le (by simp; omega)⟩
    · intro x y h1 h2 h3 h4
      exact .inr ⟨tr_le (by simp; omega), tr_le (by simp; omega)⟩

end Go.Proofs.YtihbhbeaihdgnaaGreat.Spn

/-
  Where a span is answered, the operator's answer lies in it: on whole numbers.
-/
namespace Go.Proofs.YtihbhbeaihdgnaaGreat.Spn
open Go.RowKit Go.IntWalk
set_option linter.unusedVariables false

theorem trd (p : Prop) [Decidable p] : (p ∧ tr (decide p) = 1) ∨ (¬ p ∧ tr (decide p) = 0) := by
  by_cases h : p <;> simp [tr, h]
theorem trb (x y : Int) : (x = y ∧ tr (x == y) = 1 ∧ tr (x != y) = 0) ∨ (x ≠ y ∧ tr (x == y) = 0 ∧ tr (x != y) = 1) := by
  by_cases h : x = y <;> simp [tr, h]

theorem endsZ_inv {f : List Int → Int × Int} {L : List (Int × Int)} {lo hi : Int} (h : endsZ f L = ((lo, hi), 0)) :
    (f (fsts L)).2 = 0 ∧ (f (snds L)).2 = 0 ∧ lo = (f (fsts L)).1 ∧ hi = (f (snds L)).1 := by
  unfold endsZ at h
  by_cases h0 : (f (fsts L)).2 = 0
  · rw [if_neg (by simp [h0])] at h
    simp only [Prod.mk.injEq] at h
    exact ⟨h0, h.2, h.1.1.symm, h.1.2.symm⟩
  · rw [if_pos h0] at h
    simp only [Prod.mk.injEq] at h
    exact absurd h.2 h0
theorem endsZ_mk {f : List Int → Int × Int} {L : List (Int × Int)} (h0 : (f (fsts L)).2 = 0) (h1 : (f (snds L)).2 = 0) : endsZ f L = (((f (fsts L)).1, (f (snds L)).1), 0) := by
  unfold endsZ
  rw [if_neg (by simp [h0]), h1]

theorem finZ_inv {Z : (Int × Int) × Int} {lo hi : Int} (h : finZ Z = ((lo, hi), 0)) : Z = ((lo, hi), 0) ∧ whB lo hi = true := by
  obtain ⟨⟨x, y⟩, e⟩ := Z
  unfold finZ at h
  simp only at h
  by_cases he : e = 0
  · rw [if_neg (by simp [he])] at h
    by_cases hw : whB x y = true
    · rw [if_pos hw] at h
      simp only [Prod.mk.injEq] at h
      obtain ⟨⟨rfl, rfl⟩, -⟩ := h
      exact ⟨by rw [he], hw⟩
    · rw [if_neg hw] at h
      simp at h
  · rw [if_pos he] at h
    simp only [Prod.mk.injEq] at h
    exact absurd h.2 he
theorem finZ_mk {lo hi : Int} (h : whB lo hi = true) : finZ ((lo, hi), 0) = ((lo, hi), 0) := by simp [finZ, h]
theorem ofZ_inv {op k s : Int} {L : List (Int × Int)} {lo hi : Int} (h : ofZ op k s L = ((lo, hi), 0)) : smayB op k s L = true ∧ reckZ op k s L = ((lo, hi), 0) ∧ whB lo hi = true := by
  unfold ofZ at h
  by_cases hm : smayB op k s L = true
  · rw [if_pos hm] at h
    have := finZ_inv h
    exact ⟨hm, this.1, this.2⟩
  · rw [if_neg hm] at h
    simp at h

/-! ### bits -/
theorem bw_below' {a b : Int} (ha : 0 ≤ a ∧ a ≤ 2147483647) (hb : -2147483648 ≤ b ∧ b ≤ 2147483647) : 0 ≤ bw .and a b ∧ bw .and a b ≤ a := by
  have h := bw_32 (fun a b => 0 ≤ a → 0 ≤ bw .and a b ∧ bw .and a b ≤ a) (fun _ => by decide) (fun _ => by decide) (fun _ => by omega) (fun _ => by omega) (by
    intro a b ha hb h e
    have h1 := h (by omega)
    show 0 ≤ bw .and a b ∧ bw .and a b ≤ a
    rw [bw_step .and a b ha hb]
    simp only [Bop.dig]
    rcases two_dig a with f | f <;> rcases two_dig b with g | g <;> rw [f, g] <;> omega) (show -2147483648 ≤ a ∧ a ≤ 2147483647 by omega) hb
  exact h ha.1
theorem bw_up {a b : Int} (ha : 0 ≤ a ∧ a ≤ 2147483647) (hb : 0 ≤ b ∧ b ≤ 2147483647) : a ≤ bw .or a b ∧ b ≤ bw .or a b ∧ 0 ≤ bw .xor a b := by
  have h := bw_32 (fun a b => 0 ≤ a → 0 ≤ b → a ≤ bw .or a b ∧ b ≤ bw .or a b ∧ 0 ≤ bw .xor a b) (fun _ _ => by decide) (fun _ _ => by omega) (fun _ => by omega) (fun _ => by omega) (by
    intro a b ha hb h e f
    have h1 := h (by omega) (by omega)
    show a ≤ bw .or a b ∧ b ≤ bw .or a b ∧ 0 ≤ bw .xor a b
    rw [bw_step .or a b ha hb, bw_step .xor a b ha hb]
    simp only [Bop.dig]
    rcases two_dig a with f | f <;> rcases two_dig b with g | g <;> rw [f, g] <;> omega) (show -2147483648 ≤ a ∧ a ≤ 2147483647 by omega) (show -2147483648 ≤ b ∧ b ≤ 2147483647 by omega)
  exact h ha.1 hb.1

/-- All ends lie from -2^n to 2^n - 1, and n is the least such number. -/
theorem arP_has {a b c d : Int} (ha : W32 a) (hb : W32 b) (hc : W32 c) (hd : W32 d) :
    (-arP a b c d ≤ a ∧ a < arP a b c d) ∧ (-arP a b c d ≤ b ∧ b < arP a b c d) ∧ (-arP a b c d ≤ c ∧ c < arP a b c d) ∧ (-arP a b c d ≤ d ∧ d < arP a b c d) := by
  have key : ∀ x, W32 x → wdN x ≤ arN a b c d → -arP a b c d ≤ x ∧ x < arP a b c d := by
    intro x hx hn
    have h1 := (wdN_facts hx).2
    have h2 := (pow_mono hn).1
    have e : ((2 ^ wdN x : Nat) : Int) = (2 : Int) ^ wdN x := by simp
    unfold arP
    rw [e] at h1
    omega
  refine ⟨key a ha ?_, key b hb ?_, key c hc ?_, key d hd ?_⟩ <;> (unfold arN; omega)

theorem bw_in (o : Bop) {a b c d x y : Int} (ha : W32 a) (hb : W32 b) (hc : W32 c) (hd : W32 d) (h1 : a ≤ x) (h2 : x ≤ b) (h3 : c ≤ y) (h4 : y ≤ d) :
    -arP a b c d ≤ bw o x y ∧ bw o x y ≤ arP a b c d - 1 := by
  have h := arP_has ha hb hc hd
  have hn := (arP_bd ha hb hc hd).1
  have e : ((2 ^ arN a b c d : Nat) : Int) = arP a b c d := by unfold arP; simp
  have hr := bw_range o (arN a b c d) (by omega) x y (by rw [e]; omega) (by rw [e]; omega)
  rw [e] at hr
  omega

/-- Narrower spans want no more bits. -/
theorem arP_le {a b c d a' b' c' d' : Int} (ha : W32 a) (hb : W32 b) (hc : W32 c) (hd : W32 d) (h1 : a ≤ a' ∧ a' ≤ b) (h2 : a ≤ b' ∧ b' ≤ b) (h3 : c ≤ c' ∧ c' ≤ d) (h4 : c ≤ d' ∧ d' ≤ d) : arP a' b' c' d' ≤ arP a b c d := by
  have h := arP_has ha hb hc hd
  have hn := (arP_bd ha hb hc hd).1
  have e : ((2 ^ arN a b c d : Nat) : Int) = arP a b c d := by unfold arP; simp
  have key : ∀ x, -arP a b c d ≤ x ∧ x < arP a b c d → wdN x ≤ arN a b c d := fun x hx => wdN_least (by omega) (by rw [e]; exact hx)
  have k1 := key a' (by omega)
  have k2 := key b' (by omega)
  have k3 := key c' (by omega)
  have k4 := key d' (by omega)
  have : arN a' b' c' d' ≤ arN a b c d := by unfold arN at *; omega
  unfold arP
  exact (pow_mono this).1

/-! ### rests -/
theorem tmod_facts (x y : Int) (hy : y ≠ 0) : (0 ≤ x → 0 ≤ x.tmod y ∧ x.tmod y ≤ x) ∧ (x ≤ 0 → x ≤ x.tmod y ∧ x.tmod y ≤ 0) ∧ (0 < y → -y < x.tmod y ∧ x.tmod y < y) ∧ (y < 0 → y < x.tmod y ∧ x.tmod y < -y) := by
  have h1 := Int.natAbs_tmod x y
  have h2 : x.natAbs % y.natAbs < y.natAbs := Nat.mod_lt _ (by omega)
  have h3 := Nat.mod_le x.natAbs y.natAbs
  have h4 : 0 ≤ x → 0 ≤ x.tmod y := fun h => Int.tmod_nonneg y h
  have h5 : x ≤ 0 → x.tmod y ≤ 0 := fun h => by
    have e : (-x).tmod y = -(x.tmod y) := Int.neg_tmod x y
    have := Int.tmod_nonneg (a := -x) y (by omega)
    omega
  omega

end Go.Proofs.YtihbhbeaihdgnaaGreat.Spn

/-
  The walks of span.may and span.Of.
-/
import Derived.Test.YtihbhbeaihdgnaaMSpReck3
namespace Go.Proofs.Ytihbhbeaihdgnaa.Spn
open Go.RowKit Go.IntWalk Go.Sort
set_option linter.unusedVariables false

def whP (p : Int × Int) : Bool := whB p.1 p.2
def smayB (op k s : Int) (L : List (Int × Int)) : Bool := decide (1 ≤ ar op) && decide ((L.length : Int) = ar op) && cons op k s && L.all whP

theorem all_take_succ' {L : List (Int × Int)} {k : Nat} {x y : Int} (hk : k < L.length) (h : (L.take k).all whP = true) (hx : L.getD k (0, 0) = (x, y)) (e : whB x y = true) : (L.take (k + 1)).all whP = true := by
  have e1 : L[k] = (x, y) := by simpa [List.getD, hk] using hx
  rw [List.take_succ_eq_append_getElem hk, List.all_append, h, e1]
  simp [whP, e]

theorem below_size {B : Nat} {w w' : World} (h : Below B w w') : w.heap.size ≤ w'.heap.size := h.size

set_option maxRecDepth 100000 in
set_option maxHeartbeats 1000000 in
theorem smay_any (op k s : Int) (a : Option Addr) (n cap : Nat) (L : List (Int × Int)) (w : World) (h : Spans w a n cap L) :
    Calls Try.prog 58 #[.int .i64 op, .int .i64 k, .int .i64 s, .slice a n cap] w fun e w' => e = .returned (.bool (smayB op k s L)) ∧ Below w.heap.size w w' := by
  have hl := h.len
  have hm1 : n ≤ 9223372036854775807 := by have := h.le; have := h.max; unfold maxLen at this; omega
  by_cases h1 : ar op < 1
  · rw [show smayB op k s L = false by simp [smayB]; omega]
    clear hl h
    go_enter Try.func58, Try.ntmps58
    go_wp2_with (go_at_call 40; refine (arity_any _ _).mono ?_; rintro e w' ⟨rfl, rfl⟩)
    go_ret
    exact ⟨rfl, Below.refl _ _⟩
  by_cases h2 : (n : Int) = ar op
  · have h2' : ((n : Int) != ar op) = false := by simp [h2]
    cases hc : cons op k s
    · rw [show smayB op k s L = false by simp [smayB, hc]]
      clear hl h2 h
      go_enter Try.func58, Try.ntmps58
      go_wp2_with (first | (go_at_call 40; refine (arity_any _ _).mono ?_; rintro e w' ⟨rfl, rfl⟩) | (go_at_call 54; refine (constants_any _ _ _ _).mono ?_; rintro e w' ⟨rfl, rfl⟩))
      go_ret
      exact ⟨rfl, Below.refl _ _⟩
    · rw [show smayB op k s L = L.all whP by simp [smayB, hc, hl, h2]; omega]
      have HL := hide hl
      have H := hide h
      clear hl h2 h
      go_enter Try.func58, Try.ntmps58
      go_wp2_with (first | (go_at_call 40; refine (arity_any _ _).mono ?_; rintro e w' ⟨rfl, hw'⟩; have hq := hw'.symm; subst hq) | (go_at_call 54; refine (constants_any _ _ _ _).mono ?_; rintro e w' ⟨rfl, hw'⟩; have hq := hw'.symm; subst hq))
      go_loopw [31] (fun i wr => ∃ j : Nat, j ≤ n ∧ i = .int .i64 j ∧ (L.take j).all whP = true ∧ Below w.heap.size w wr) (fun i _ => n - (intOf i).toNat)
      case atStart => exact ⟨0, Nat.zero_le _, rfl, rfl, Below.refl _ _⟩
      case round =>
        rename_i wr
        obtain ⟨j, hj, rfl, hA, hB⟩ := hrel
        have HA := hide hA
        have HB := hide hB
        clear hA hB
        by_cases hlt : j < n
        · obtain ⟨bb, off, rfl, hbb, hcell⟩ := (H.out.later HB.out).at (by omega)
          obtain ⟨g1, g2⟩ := hcell j hlt
          clear hcell
          obtain ⟨⟨x, y⟩, hxy⟩ : ∃ p, L.getD j (0, 0) = p := ⟨_, rfl⟩
          rw [hxy] at g1 g2
          have HXY := hide hxy
          clear hxy
          have hj0 : (0 : Int) ≤ (j : Int) := by omega
          have hj1 : (j : Int) < (n : Int) := by omega
          have HWh := fun w => hide (whole_any x y w)
          cases hx : whB x y
          · rw [hx] at HWh
            go_wp2_with fail
            refine (HWh _).out.mono ?_
            rintro e w2 ⟨rfl, hb2⟩
            have HB2 := hide (bel HB.out (bel (bel1 _ _) hb2))
            clear hb2
            go_wp2_with fail
            go_ret
            refine ⟨ret_bool ?_, HB2.out⟩
            symm
            rw [List.all_eq_false]
            refine ⟨(x, y), ?_, by simp [whP, hx]⟩
            rw [← HXY.out]
            simp [List.getD, HL.out, hlt]
          · rw [hx] at HWh
            go_wp2_with fail
            refine (HWh _).out.mono ?_
            rintro e w2 ⟨rfl, hb2⟩
            have HB2 := hide (bel HB.out (bel (bel1 _ _) hb2))
            clear hb2
            go_wp2_with fail
            go_roundw
            case rel => exact ⟨j + 1, by omega, by go_num, all_take_succ' (by rw [HL.out]; exact hlt) HA.out HXY.out hx, HB2.out⟩
            case measure => simp [intOf]; omega
        · go_wp2_with fail
          go_ret
          refine ⟨ret_bool ?_, HB.out⟩
          have h3 := HA.out
          rw [List.take_of_length_le (by rw [HL.out]; omega)] at h3
          exact h3.symm
  · have h2' : ((n : Int) != ar op) = true := by simp [h2]
    rw [show smayB op k s L = false by simp [smayB, hl, h2]]
    clear hl h2 h
    go_enter Try.func58, Try.ntmps58
    go_wp2_with (go_at_call 40; refine (arity_any _ _).mono ?_; rintro e w' ⟨rfl, rfl⟩)
    go_ret
    exact ⟨rfl, Below.refl _ _⟩

/-- The span by 5.3, and the error of 5.2. -/
def reckZ (op k s : Int) (L : List (Int × Int)) : (Int × Int) × Int :=
  if op = 32 then cornZ (fun u v => valZ 10 0 0 [u, v]) (L.getD 0 (0, 0)).1 (L.getD 0 (0, 0)).2 k k else
  if op = 31 then (bothZ (L.getD 0 (0, 0)).1 (L.getD 0 (0, 0)).2 k k, 0) else
  if op = 11 ∨ op = 12 then divZ (fun u v => valZ op k s [u, v]) op (L.getD 0 (0, 0)).1 (L.getD 0 (0, 0)).2 (L.getD 1 (0, 0)).1 (L.getD 1 (0, 0)).2 else
  if op = 10 ∨ op = 13 ∨ op = 14 ∨ op = 18 ∨ op = 19 ∨ op = 20 ∨ op = 21 then cornZ (fun u v => valZ op k s [u, v]) (L.getD 0 (0, 0)).1 (L.getD 0 (0, 0)).2 (L.getD 1 (0, 0)).1 (L.getD 1 (0, 0)).2 else
  if op = 7 ∨ op = 24 ∨ op = 25 ∨ op = 26 ∨ op = 27 ∨ op = 29 ∨ op = 30 ∨ op = 33 then endsZ (fun xs => valZ op k s xs) L else
  (plainZ op L, 0)

theorem whP_w32 {p : Int × Int} (h : whP p = true) : W32 p.1 ∧ W32 p.2 := by
  have := whB_iff.1 h
  exact ⟨by omega, by omega⟩

theorem cons_w32 {op k s : Int} (h : cons op k s = true) (ho : op = 31) : W32 k := by
  subst ho
  have h' : inB k 0 2147483647 = true := h
  have := inB_iff.1 h'
  exact ⟨by omega, by omega⟩

theorem reck_any (op k s : Int) (a : Option Addr) (n cap : Nat) (L : List (Int × Int)) (w : World) (h : Spans w a n cap L) (hm : smayB op k s L = true) :
    Calls Try.prog 59 #[.int .i64 op, .int .i64 k, .int .i64 s, .slice a n cap] w fun r w' => r = .returned (spV (reckZ op k s L)) ∧ Below w.heap.size w w' := by
  simp only [smayB, Bool.and_eq_true, decide_eq_true_eq, List.all_eq_true] at hm
  obtain ⟨⟨⟨m1, m2⟩, m3⟩, m4⟩ := hm
  have hl := h.len
  have h3 := ar_le op
  have hle := h.le
  by_cases he : op = 7 ∨ op = 24 ∨ op = 25 ∨ op = 26 ∨ op = 27 ∨ op = 29 ∨ op = 30 ∨ op = 33
  · rw [show reckZ op k s L = endsZ (fun xs => valZ op k s xs) L by unfold reckZ; rw [if_neg (by omega), if_neg (by omega), if_neg (by omega), if_neg (by omega), if_pos he]]
    exact reck_ends op k s a n cap L w h (by omega) he
  obtain ⟨b, off, rfl, hlt, hc⟩ := h.at (by omega)
  have hw : ∀ p ∈ L, W32 p.1 ∧ W32 p.2 := fun p hp => whP_w32 (m4 p hp)
  match L, hl, m2, hc, hw with
  | [(x0, y0)], hl, m2, hc, hw =>
    subst hl
    have ho := one_cases (op := op) (by simpa using m2.symm)
    obtain ⟨d0, d1⟩ := hc 0 (by simp)
    obtain ⟨w0, w1⟩ := hw (x0, y0) (by simp)
    simp at d0 d1
    by_cases h32 : op = 32
    · rw [show reckZ op k s [(x0, y0)] = cornZ (fun u v => valZ 10 0 0 [u, v]) x0 y0 k k by unfold reckZ; rw [if_pos h32]; rfl]
      exact reck_mulk op k s x0 y0 b off cap w hle hlt d0 d1 h32
    by_cases h31 : op = 31
    · rw [show reckZ op k s [(x0, y0)] = (bothZ x0 y0 k k, 0) by unfold reckZ; rw [if_neg h32, if_pos h31]; rfl]
      exact reck_andk op k s x0 y0 b off cap w hle hlt d0 d1 h31 w0 w1 (cons_w32 m3 h31)
    have h56 : op = 5 ∨ op = 6 := by omega
    rw [show reckZ op k s [(x0, y0)] = (oneZ op x0 y0, 0) by unfold reckZ; rw [if_neg h32, if_neg h31, if_neg (by omega), if_neg (by omega), if_neg he]; rfl]
    exact reck_plain op k s _ 1 cap (oneZ op x0 y0) w (by omega) fun W hW => splain_1 op x0 y0 b off cap W hle (by have := hW.size; omega) ((hW.cell (p := ⟨b, off, none⟩) hlt).trans d0) ((hW.cell (p := ⟨b, off + 1, none⟩) hlt).trans d1) w0 w1
  | [(x0, y0), (x1, y1)], hl, m2, hc, hw =>
    subst hl
    have ho := inB_iff.1 (two_cases (op := op) (by simpa using m2.symm))
    obtain ⟨d0, d1⟩ := hc 0 (by simp)
    obtain ⟨d2, d3⟩ := hc 1 (by simp)
    obtain ⟨w0, w1⟩ := hw (x0, y0) (by simp)
    obtain ⟨w2, w3⟩ := hw (x1, y1) (by simp)
    simp at d0 d1 d2 d3
    by_cases hd : op = 11 ∨ op = 12
    · rw [show reckZ op k s [(x0, y0), (x1, y1)] = divZ (fun u v => valZ op k s [u, v]) op x0 y0 x1 y1 by unfold reckZ; rw [if_neg (by omega), if_neg (by omega), if_pos hd]; rfl]
      exact reck_div op k s x0 y0 x1 y1 b off cap w hle hlt d0 d1 d2 d3 hd w0 w1 w2 w3
    by_cases hcn : op = 10 ∨ op = 13 ∨ op = 14 ∨ op = 18 ∨ op = 19 ∨ op = 20 ∨ op = 21
    · rw [show reckZ op k s [(x0, y0), (x1, y1)] = cornZ (fun u v => valZ op k s [u, v]) x0 y0 x1 y1 by unfold reckZ; rw [if_neg (by omega), if_neg (by omega), if_neg hd, if_pos hcn]; rfl]
      exact reck_corn op k s x0 y0 x1 y1 b off cap w hle hlt d0 d1 d2 d3 hcn
    have h2 : op = 8 ∨ op = 9 ∨ op = 15 ∨ op = 16 ∨ op = 17 ∨ op = 22 ∨ op = 23 := by omega
    rw [show reckZ op k s [(x0, y0), (x1, y1)] = (twoZ op x0 y0 x1 y1, 0) by unfold reckZ; rw [if_neg (by omega), if_neg (by omega), if_neg hd, if_neg hcn, if_neg he]; rfl]
    exact reck_plain op k s _ 2 cap (twoZ op x0 y0 x1 y1) w (by omega) fun W hW => splain_2 op x0 y0 x1 y1 b off cap W hle (by have := hW.size; omega) ((hW.cell (p := ⟨b, off, none⟩) hlt).trans d0) ((hW.cell (p := ⟨b, off + 1, none⟩) hlt).trans d1) ((hW.cell (p := ⟨b, off + 2, none⟩) hlt).trans d2) ((hW.cell (p := ⟨b, off + 2 + 1, none⟩) hlt).trans d3) w0 w1 w2 w3 h2
  | [(x0, y0), (x1, y1), (x2, y2)], hl, m2, hc, hw =>
    subst hl
    have ho := inB_iff.1 (three_cases (op := op) (by simpa using m2.symm))
    obtain ⟨d0, d1⟩ := hc 0 (by simp)
    obtain ⟨d2, d3⟩ := hc 1 (by simp)
    obtain ⟨d4, d5⟩ := hc 2 (by simp)
    simp at d0 d1 d2 d3 d4 d5
    have h28 : op = 28 := by omega
    rw [show reckZ op k s [(x0, y0), (x1, y1), (x2, y2)] = (selZ x0 y0 x1 y1 x2 y2, 0) by unfold reckZ; rw [if_neg (by omega), if_neg (by omega), if_neg (by omega), if_neg (by omega), if_neg he]; rfl]
    exact reck_plain op k s _ 3 cap (selZ x0 y0 x1 y1 x2 y2) w (by omega) fun W hW => splain_3 op x0 y0 x1 y1 x2 y2 b off cap W hle (by have := hW.size; omega) ((hW.cell (p := ⟨b, off, none⟩) hlt).trans d0) ((hW.cell (p := ⟨b, off + 1, none⟩) hlt).trans d1) ((hW.cell (p := ⟨b, off + 2, none⟩) hlt).trans d2) ((hW.cell (p := ⟨b, off + 2 + 1, none⟩) hlt).trans d3) ((hW.cell (p := ⟨b, off + 4, none⟩) hlt).trans d4) ((hW.cell (p := ⟨b, off + 4 + 1, none⟩) hlt).trans d5)
  | [], hl, m2, hc, hw => simp at m2; omega
  | _ :: _ :: _ :: _ :: _, hl, m2, hc, hw => simp at m2; omega

/-- What span.Of answers. -/
def finZ (Z : (Int × Int) × Int) : (Int × Int) × Int := if Z.2 ≠ 0 then ((0, 0), Z.2) else if whB Z.1.1 Z.1.2 = true then (Z.1, 0) else ((0, 0), 13)
def ofZ (op k s : Int) (L : List (Int × Int)) : (Int × Int) × Int := if smayB op k s L = true then finZ (reckZ op k s L) else ((0, 0), 1)

set_option maxRecDepth 100000 in
set_option maxHeartbeats 1000000 in
theorem of_any (op k s : Int) (a : Option Addr) (n cap : Nat) (L : List (Int × Int)) (w : World) (h : Spans w a n cap L) :
    Calls Try.prog 44 #[.int .i64 op, .int .i64 k, .int .i64 s, .slice a n cap] w fun r w' => r = .returned (spV (ofZ op k s L)) ∧ Below w.heap.size w w' := by
  have HR := hide (HasC.new w 73 #[.int .i64 0, .int .i64 0])
  have HB := hide (bel1 w (cs 0 0))
  have HM := hide (smay_any op k s a n cap L _ (h.later HB.out))
  cases hm : smayB op k s L
  · rw [hm] at HM
    rw [show ofZ op k s L = ((0, 0), 1) by simp [ofZ, hm]]
    go_enter Try.func44, Try.ntmps44
    go_wp2_with fail
    refine HM.out.mono ?_
    rintro e w2 ⟨rfl, hb2⟩
    have hR := HR.out.below hb2
    have hB := bel HB.out hb2
    obtain ⟨s1, s2, s3, s4⟩ := facts2 hR
    clear hb2
    go_wp2_with fail
    obtain ⟨d0, d1, hB4⟩ := stored2 hR hB (by omega) 0 0
    exact bodyPost_ret (v := .tuple #[.agg #[.int .i64 0, .int .i64 0], .int .i64 1]) (by simp [results, Try.results44, go_sem, d0, d1]) rfl ⟨rfl, hB4⟩
  · rw [hm] at HM
    have HRk := hide fun (W : World) (hW : Below w.heap.size w W) => reck_any op k s a n cap L W (h.later hW) hm
    rw [show ofZ op k s L = finZ (reckZ op k s L) by simp [ofZ, hm]]
    obtain ⟨⟨⟨x, y⟩, e⟩, hZ⟩ : ∃ Z, reckZ op k s L = Z := ⟨_, rfl⟩
    rw [hZ] at HRk ⊢
    clear hZ hm h
    by_cases he : e = 0
    · subst he
      have HWh := fun w => hide (whole_any x y w)
      cases hx : whB x y
      · rw [show finZ ((x, y), 0) = ((0, 0), 13) by simp [finZ, hx]]
        rw [hx] at HWh
        go_enter Try.func44, Try.ntmps44
        go_wp2_with fail
        refine HM.out.mono ?_
        rintro e w2 ⟨rfl, hb2⟩
        have HR2 := hide (HR.out.below hb2)
        have HB2 := hide (bel HB.out hb2)
        clear hb2
        go_wp2_with fail
        refine (HRk.out _ HB2.out).mono ?_
        rintro e w3 ⟨rfl, hb3⟩
        have HR3 := hide (HR2.out.below hb3)
        have HB3 := hide (bel HB2.out hb3)
        clear hb3
        go_wp2_with fail
        refine (HWh _).out.mono ?_
        rintro e w4 ⟨rfl, hb4⟩
        have hR := (HR3.out.alloc (cs x y)).below hb4
        have hB := bel (bel HB3.out (bel1 _ _)) hb4
        obtain ⟨s1, s2, s3, s4⟩ := facts2 hR
        clear hb4
        go_wp2_with fail
        obtain ⟨d0, d1, hB4⟩ := stored2 hR hB (by omega) 0 0
        exact bodyPost_ret (v := .tuple #[.agg #[.int .i64 0, .int .i64 0], .int .i64 13]) (by simp [results, Try.results44, go_sem, d0, d1]) rfl ⟨rfl, hB4⟩
      · rw [show finZ ((x, y), 0) = ((x, y), 0) by simp [finZ, hx]]
        rw [hx] at HWh
        go_enter Try.func44, Try.ntmps44
        go_wp2_with fail
        refine HM.out.mono ?_
        rintro e w2 ⟨rfl, hb2⟩
        have HR2 := hide (HR.out.below hb2)
        have HB2 := hide (bel HB.out hb2)
        clear hb2
        go_wp2_with fail
        refine (HRk.out _ HB2.out).mono ?_
        rintro e w3 ⟨rfl, hb3⟩
        have HR3 := hide (HR2.out.below hb3)
        have HB3 := hide (bel HB2.out hb3)
        clear hb3
        go_wp2_with fail
        refine (HWh _).out.mono ?_
        rintro e w4 ⟨rfl, hb4⟩
        have hR := (HR3.out.alloc (cs x y)).below hb4
        have hN := (HasC.new w3 73 #[.int .i64 x, .int .i64 y]).below hb4
        have hB := bel (bel HB3.out (bel1 _ _)) hb4
        obtain ⟨s1, s2, s3, s4⟩ := facts2 hR
        obtain ⟨n1, n2, -, -⟩ := facts2 hN
        clear hb4
        go_wp2_with fail
        obtain ⟨d0, d1, hB4⟩ := stored2 hR hB (by omega) x y
        exact bodyPost_ret (v := .tuple #[.agg #[.int .i64 x, .int .i64 y], .int .i64 0]) (by simp [results, Try.results44, go_sem, d0, d1]) rfl ⟨rfl, hB4⟩
    · rw [show finZ ((x, y), e) = ((0, 0), e) by simp [finZ, he]]
      have he' : (e != 0) = true := by simp [he]
      clear he
      go_enter Try.func44, Try.ntmps44
      go_wp2_with fail
      refine HM.out.mono ?_
      rintro e w2 ⟨rfl, hb2⟩
      have HR2 := hide (HR.out.below hb2)
      have HB2 := hide (bel HB.out hb2)
      clear hb2
      go_wp2_with fail
      refine (HRk.out _ HB2.out).mono ?_
      rintro e w3 ⟨rfl, hb3⟩
      have hR := (HR2.out.below hb3).alloc (cs x y)
      have hB := bel (bel HB2.out hb3) (bel1 _ (cs x y))
      obtain ⟨s1, s2, s3, s4⟩ := facts2 hR
      clear hb3
      go_wp2_with fail
      obtain ⟨d0, d1, hB4⟩ := stored2 hR hB (by omega) 0 0
      exact bodyPost_ret (v := .tuple #[.agg #[.int .i64 0, .int .i64 0], .int .i64 _]) (by simp [results, Try.results44, go_sem, d0, d1]) rfl ⟨rfl, hB4⟩

end Go.Proofs.Ytihbhbeaihdgnaa.Spn

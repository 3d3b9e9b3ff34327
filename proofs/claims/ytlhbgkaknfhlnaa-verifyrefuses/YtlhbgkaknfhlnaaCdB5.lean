/-
  code.Values: what every register comes to.
-/
import Derived.Test.YtlhbgkaknfhlnaaCdB4
namespace Go.Proofs.Cde
open Ytlhbgkaknfhlnaa (Wd wdA Fits inpV fitE_cases)
open Go.RowKit Go.IntWalk Ytlhbgkaknfhlnaa.Knd
set_option linter.unusedVariables false

/-- One step, and all of them: the error, and what came out ahead of it. -/
def vlS (f d : Int) (v : Wd) (s : Int × List Int) (n : In) : Int × List Int :=
  if s.1 = 0 then (if (vlI f d v s.2 n).2 = 0 then (0, s.2 ++ [(vlI f d v s.2 n).1]) else ((vlI f d v s.2 n).2, [])) else s
def vlF (f d : Int) (v : Wd) (L : List In) : Int × List Int := L.foldl (vlS f d v) (0, [])
theorem vlF_snoc (f d : Int) (v : Wd) (L : List In) (n : In) : vlF f d v (L ++ [n]) = vlS f d v (vlF f d v L) n := by simp [vlF]
theorem vlF_stuck (f d : Int) (v : Wd) : ∀ (L : List In) (s : Int × List Int), s.1 ≠ 0 → L.foldl (vlS f d v) s = s
  | [], s, h => rfl
  | n :: L, s, h => by
    rw [List.foldl_cons, show vlS f d v s n = s by rw [vlS, if_neg h]]
    exact vlF_stuck f d v L s h
theorem vlF_bad {f d : Int} {v : Wd} {L : List In} {k : Nat} {e : Int × List Int} (h : vlF f d v (L.take k) = e) (he : e.1 ≠ 0) : vlF f d v L = e := by
  have : vlF f d v L = (L.drop k).foldl (vlS f d v) (vlF f d v (L.take k)) := by
    rw [vlF, vlF, ← List.foldl_append, List.take_append_drop]
  rw [this, h, vlF_stuck f d v _ _ he]
theorem vlF_len (f d : Int) (v : Wd) (L : List In) : ∀ k, k ≤ L.length → (vlF f d v (L.take k)).1 = 0 → (vlF f d v (L.take k)).2.length = k
  | 0, _, _ => by simp [vlF]
  | k + 1, h, he => by
    have ih := vlF_len f d v L k (by omega)
    rw [take_snoc i0 (by omega), vlF_snoc] at he ⊢
    unfold vlS at he ⊢
    split at he
    · rename_i h0
      rw [if_pos h0]
      split at he
      · rename_i h1
        rw [if_pos h1]
        simp [ih h0]
      · rename_i h1
        exact absurd he h1
    · rename_i h0
      exact absurd he h0
open Classical in
/-- What Values answers: the error, and the registers. -/
noncomputable def vaZ (f d : Int) (v : Wd) (L : List In) (out : Int) : Int × List Int := if mcB f d L out = true then (if Fits f d v then vlF f d v L else (1, [])) else (15, [])
/-- An answer of two parts: a list of the call's own, and an error. -/
def TwP (w : World) (Z : Int × List Int) (e : Ending) (W' : World) : Prop :=
  ∃ a c, e = .returned (.tuple #[.slice a Z.2.length c, .int .i64 Z.1]) ∧ W'.ownsRow w.heap.size 3 1 (.slice a Z.2.length c) Z.2.length (i64s Z.2) ∧ Below w.heap.size w W'
theorem TwP.no {w W' : World} {er : Int} (hb : Below w.heap.size w W') : TwP w (er, []) (.returned (.tuple #[.slice none 0 0, .int .i64 er])) W' := ⟨_, _, rfl, ⟨rfl, .inl ⟨rfl, rfl⟩⟩, hb⟩
theorem TwP.row {w W' : World} {D : List Int} {g n : Nat} (hg : HasC W' g 3 (zA D)) (hn : D.length = n) (h0 : w.heap.size ≤ g) (hl : n ≤ 1024) (hb : Below w.heap.size w W') : TwP w (0, D) (.returned (.tuple #[.slice (some ⟨g, 0, none⟩) n n, .int .i64 0])) W' := by
  subst hn
  exact ⟨_, _, rfl, z_owns hg h0 hl, hb⟩
theorem ccE_zero {f d : Int} {L : List In} {out : Int} (h : ccE f d L out = 0) : mcB f d L out = true := by
  unfold ccE at h
  split at h
  · assumption
  · omega
theorem ccE_cases (f d : Int) (L : List In) (out : Int) : (mcB f d L out = true ∧ ccE f d L out = 0) ∨ (¬ mcB f d L out = true ∧ ccE f d L out = 15) := by
  unfold ccE
  by_cases h : mcB f d L out = true
  · exact .inl ⟨h, if_pos h⟩
  · exact .inr ⟨h, if_neg h⟩
theorem mc_parts {f d : Int} {L : List In} {out : Int} (h : mcB f d L out = true) : May f d ∧ 1 ≤ L.length ∧ L.length ≤ 200 ∧ 0 ≤ out ∧ out < L.length ∧ okT L L.length = true := by
  simp only [mcB, Bool.and_eq_true, decide_eq_true_eq, Ytlhbgkaknfhlnaa.Spn.inB_iff] at h
  obtain ⟨⟨⟨h1, h2⟩, h3⟩, h4⟩ := h
  exact ⟨h1, by omega, by omega, by omega, by omega, h4⟩
theorem vlI_pre {f d : Int} {v : Wd} {D Z : List Int} {n : In} (h : okI n D.length = true) : vlI f d v (D ++ Z) n = vlI f d v D n := by
  have e : arV (D ++ Z) n = arV D n := by
    unfold arV
    apply List.map_congr_left
    intro r hr
    obtain ⟨j, hj, rfl⟩ := List.getElem_of_mem hr
    rw [agL_len] at hj
    have := ok_reg h hj
    rw [← agL_at n j hj, List.getD_eq_getElem?_getD, List.getElem?_eq_getElem (by rw [agL_len]; exact hj)] at this
    exact getD_pre this.2
  rw [vlI, vlI, e]

set_option maxRecDepth 100000 in
set_option maxHeartbeats 4000000 in
theorem cvalues_any (f d out : Int) (v : Wd) {a pa : Option Addr} {n cap pl pc : Nat} {L : List In} {W : World} (hL : Ins W a n cap L) (hP : Ints W pa pl pc v.ps) :
    Calls Try.prog 6 #[.agg (cd f d a n cap out), .agg (wdA v pa pl pc)] W (TwP W (vaZ f d v L out)) := by
  have hb1 := bel1 W (.cells (cd f d a n cap out) 26)
  have hb2 := bel hb1 (bel1 (W.alloc (.cells (cd f d a n cap out) 26)) (.cells (wdA v pa pl pc) 29))
  have HC0 := hide ((HasC.new W 26 (cd f d a n cap out)).alloc (.cells (wdA v pa pl pc) 29))
  have HW0 := hide (has_new1 W (.cells (cd f d a n cap out) 26) 29 (wdA v pa pl pc))
  have HB0 := hide hb2
  have HCk := hide (ccheck_any f d out (hL.later hb2))
  have HLI := hide hL
  have HPI := hide hP
  have HLn := hide hL.len
  clear hb1 hb2 hL hP
  rcases ccE_cases f d L out with ⟨hm, h0⟩ | ⟨hm, h0⟩
  · rw [h0] at HCk
    obtain ⟨-, m1, m2, -, -, hok⟩ := mc_parts hm
    rw [HLn.out] at m1 m2 hok
    have HF := hide fun w h => fits_any f d v.x v.y v.c pa pl pc v.ps w h
    rcases fitE_cases f d v with ⟨hF, h1⟩ | ⟨hF, h1⟩
    · rw [h1] at HF
      rw [show vaZ f d v L out = vlF f d v L by rw [vaZ, if_pos hm, if_pos hF]]
      have HFt := hide hF
      have HOk := hide hok
      have hmk := make_z n (by omega)
      clear hm h0 hF h1 hok
      go_enter Try.func6, Try.ntmps6
      go_wp2_with fail
      refine HCk.out.mono ?_
      rintro e V1 ⟨rfl, hb⟩
      have HC1 := hide (HC0.out.below hb)
      have HW1 := hide (HW0.out.below hb)
      have HB1 := hide (bel HB0.out hb)
      obtain ⟨c0, c1, c2, c3⟩ := four_of HC1.out
      obtain ⟨y0, y1, y2, y3⟩ := four_of HW1.out
      clear hb HC0 HW0 HB0 HCk
      go_wp2_with fail
      refine (HF.out _ (HPI.out.later HB1.out)).mono ?_
      rintro e V2 ⟨rfl, hb⟩
      have HC2 := hide (HC1.out.below hb)
      have HW2 := hide (HW1.out.below hb)
      have HB2 := hide (bel HB1.out hb)
      clear hb HC1 HW1 HB1 c0 c1 c2 c3 y0 y1 y2 y3
      obtain ⟨c0, c1, c2, c3⟩ := four_of HC2.out
      have hg0 := HC2.out.lt
      have hg1 := HW2.out.lt
      have HC3 := hide (HC2.out.alloc (.cells (zA (List.replicate n 0)) 3))
      have HW3 := hide (HW2.out.alloc (.cells (zA (List.replicate n 0)) 3))
      have HB3 := hide (bel HB2.out (bel1 V2 (.cells (zA (List.replicate n 0)) 3)))
      have HG3 := hide (HasC.new V2 3 (zA (List.replicate n 0)))
      go_wp2_with fail
      generalize V2.heap.size = g at *
      clear HC2 HW2 HB2 c0 c1 c2 c3 hmk HF
      go_loopw [32] (fun i wr => ∃ (k : Nat) (D : List Int), k ≤ n ∧ i = .int .i64 k ∧ Hid (vlF f d v (L.take k) = (0, D)) ∧ Hid (D.length = k) ∧ Hid (HasC wr g 3 (zA (D ++ List.replicate (n - k) 0))) ∧ Hid (HasC wr W.heap.size 26 (cd f d a n cap out)) ∧ Hid (HasC wr (W.heap.size + 1) 29 (wdA v pa pl pc)) ∧ Hid (Below W.heap.size W wr)) (fun i _ => n - (intOf i).toNat)
      case atStart => exact ⟨0, [], Nat.zero_le _, rfl, hide rfl, hide rfl, HG3, HC3, HW3, HB3⟩
      case round =>
        obtain ⟨k, D, hk, rfl, HD, HDl, HG, HC, HW, HB⟩ := hrel
        rename World => V
        clear HG3 HC3 HW3 HB3
        by_cases hlt : k < n
        · obtain ⟨b, off, rfl, -, hat⟩ := (HLI.out.later HB.out).at (by omega)
          obtain ⟨e0, e1, e2, e3, e4, e5⟩ := hat k hlt
          clear hat
          have hi0 : (0 : Int) ≤ k := by omega
          have hi1 : (k : Int) < n := by omega
          have hOk := okT_at HOk.out hlt
          have hS := vlF_snoc f d v (L.take k) (L.getD k i0)
          rw [← take_snoc i0 (by rw [HLn.out]; exact hlt), HD.out] at hS
          have HS := hide hS
          have HSt := hide fun e h he => vlF_bad (f := f) (d := d) (v := v) (L := L) (k := k + 1) (e := e) h he
          clear hS
          generalize L.getD k i0 = m at *
          have hb := bel1 V (.cells (ia m) 47)
          have HG2 := hide (HG.out.below hb)
          have HC2 := hide (HC.out.below hb)
          have HW2 := hide (HW.out.below hb)
          have HB2 := hide (bel HB.out hb)
          have hl : (D ++ List.replicate (n - k) 0).length = n := by simp [HDl.out]; omega
          have hV := has_z HG2.out (by rw [hl]; omega)
          rw [hl] at hV
          have HV := hide (cvalue_any f d m v (HPI.out.later HB2.out) hV HFt.out hOk (by omega))
          rw [vlI_pre (by rw [HDl.out]; exact hOk)] at HV
          obtain ⟨c0, c1, c2, c3⟩ := four_of HC.out
          obtain ⟨y0, y1, y2, y3⟩ := four_of HW.out
          have hz0 := HC.out.lt
          have hz1 := HW.out.lt
          clear hb hV hl hOk
          unfold vlS at HS
          generalize vlI f d v D m = X at *
          obtain ⟨x, er⟩ := X
          simp only [if_true] at HS
          go_wp2_with fail
          refine HV.out.mono ?_
          rintro e V3 ⟨rfl, hb⟩
          have HG3 := hide (HG2.out.below hb)
          have HC3 := hide (HC2.out.below hb)
          have HW3 := hide (HW2.out.below hb)
          have HB3 := hide (bel HB2.out hb)
          clear hb HV HG2 HC2 HW2 HB2 c0 c1 c2 c3 y0 y1 y2 y3 e0 e1 e2 e3 e4 e5
          by_cases he : er = 0
          · subst he
            rw [if_pos rfl] at HS
            have HX := HG3.out
            rw [rep_succ hlt] at HX
            have w0 := HX.frozen k
            have w1 := HX.cell k (zA_get _ k (by simp [HDl.out]))
            have HX2 := hide (put_z HX HDl.out x)
            have HC4 := hide (HC3.out.other (p := ⟨g, k, none⟩) (by simp; omega) (.int .i64 x))
            have HW4 := hide (HW3.out.other (p := ⟨g, k, none⟩) (by simp; omega) (.int .i64 x))
            have HB4 := hide (HB3.out.setCell (p := ⟨g, k, none⟩) (by simp; omega) (.int .i64 x))
            clear HX
            go_wp2_with fail
            go_roundw
            case rel => exact ⟨k + 1, D ++ [x], by omega, by go_num, HS, hide (by simp [HDl.out]), hide (by rw [List.append_assoc]; exact HX2.out), HC4, HW4, HB4⟩
            case measure => simp [intOf]; omega
          · rw [if_neg he] at HS
            have HE := hide (HSt.out _ HS.out he)
            have he2 : (er != 0) = true := by simpa using he
            clear HS HSt he
            go_wp2_with fail
            exact bodyPost_ret (v := .tuple #[.slice none 0 0, .int .i64 er]) (by simp [results, Try.results6, go_sem]) rfl (by rw [HE.out]; exact TwP.no HB3.out)
        · obtain rfl : k = n := by omega
          have hD := HD.out
          rw [List.take_of_length_le (by rw [HLn.out]; exact Nat.le_refl _)] at hD
          have HE := hide hD
          have HX := HG.out
          rw [Nat.sub_self, List.replicate_zero, List.append_nil] at HX
          have HX2 := hide HX
          clear hD HX
          go_wp2_with fail
          exact bodyPost_ret (v := .tuple #[.slice (some ⟨g, 0, none⟩) k k, .int .i64 0]) (by simp [results, Try.results6, go_sem]) rfl (by rw [HE.out]; exact TwP.row HX2.out HDl.out (by omega) (by omega) HB.out)
    · rw [h1] at HF
      rw [show vaZ f d v L out = (1, []) by rw [vaZ, if_pos hm, if_neg hF]]
      clear hm h0 hF h1 hok
      go_enter Try.func6, Try.ntmps6
      go_wp2_with fail
      refine HCk.out.mono ?_
      rintro e V1 ⟨rfl, hb⟩
      have HC1 := hide (HC0.out.below hb)
      have HW1 := hide (HW0.out.below hb)
      have HB1 := hide (bel HB0.out hb)
      obtain ⟨c0, c1, c2, c3⟩ := four_of HC1.out
      obtain ⟨y0, y1, y2, y3⟩ := four_of HW1.out
      clear hb HC0 HW0 HB0 HCk
      go_wp2_with fail
      refine (HF.out _ (HPI.out.later HB1.out)).mono ?_
      rintro e V2 ⟨rfl, hb⟩
      have HB2 := hide (bel HB1.out hb)
      clear hb
      go_wp2_with fail
      exact bodyPost_ret (v := .tuple #[.slice none 0 0, .int .i64 1]) (by simp [results, Try.results6, go_sem]) rfl (TwP.no HB2.out)
  · rw [h0] at HCk
    rw [show vaZ f d v L out = (15, []) by rw [vaZ, if_neg hm]]
    clear hm h0
    go_enter Try.func6, Try.ntmps6
    go_wp2_with fail
    refine HCk.out.mono ?_
    rintro e V1 ⟨rfl, hb⟩
    have HB1 := hide (bel HB0.out hb)
    clear hb
    go_wp2_with fail
    exact bodyPost_ret (v := .tuple #[.slice none 0 0, .int .i64 15]) (by simp [results, Try.results6, go_sem]) rfl (TwP.no HB1.out)

end Go.Proofs.Cde

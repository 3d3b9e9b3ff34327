/-
  The walk of the document's own Number, by its formulas.
-/
import Derived.Test.YtinlknflkgijmaaPlc
import Derived.Test.YtinlknflkgijmaaRef
namespace Go.Proofs.Ytinlknflkgijmaa
open Go.RowKit
set_option linter.unusedVariables false

/-- The number of a place of a sound, of an image: by the formulas. -/
def sndZ (p : Plc) : Option Int :=
  if p.coords ≠ 1 ∨ p.y ≠ 0 then none
  else if p.back = 0 ∧ -16 ≤ p.x ∧ p.x ≤ -1 then some (16 + p.x)
  else if 0 < p.back ∧ -4 ≤ p.x ∧ p.x ≤ 0 then some (16 + 5 * (p.back - 1) + 4 + p.x)
  else none
def imgZ (p : Plc) : Option Int :=
  if p.coords ≠ 2 then none
  else if 0 < p.back then
    (if p.x < -1 ∨ 1 < p.x ∨ p.y < -1 ∨ 1 < p.y then none else some (17 + 9 * (p.back - 1) + 3 * (p.y + 1) + p.x + 1))
  else if p.x < -3 ∨ 3 < p.x ∨ p.y < -2 ∨ 0 < p.y ∨ (p.y = 0 ∧ 0 ≤ p.x) then none
  else some (7 * (p.y + 2) + p.x + 3)
def rnumZ (f d : Int) (p : Plc) : Option Int :=
  if ¬ May f d ∨ p.back < 0 ∨ 3 < p.back then none else if f = 1 then sndZ p else imgZ p
def optV (o : Option Int) : Value := .tuple #[.int .i64 (o.getD 0), .bool o.isSome]

set_option maxRecDepth 100000 in
set_option maxHeartbeats 4000000 in
theorem rnum_snd (d : Int) (p : Plc) (hm : May 1 d) (h0 : 0 ≤ p.back) (h3 : p.back ≤ 3) (hc : p.coords = 1) (hy : p.y = 0) (w : World) :
    Calls Try.prog 21 #[.agg #[.int .i64 1, .int .i64 d], .agg #[.int .i64 p.back, .int .i64 p.coords, .int .i64 p.x, .int .i64 p.y]] w fun e w' => e = .returned (optV (sndZ p)) ∧ Below w.heap.size w w' := by
  have HB1 := hide ((bel1 w (.cells #[.int .i64 1, .int .i64 d] 23)).alloc (by simp) (.cells #[.int .i64 p.back, .int .i64 p.coords, .int .i64 p.x, .int .i64 p.y] 30))
  have e : sndZ p = (if p.back = 0 ∧ -16 ≤ p.x ∧ p.x ≤ -1 then some (16 + p.x) else if 0 < p.back ∧ -4 ≤ p.x ∧ p.x ≤ 0 then some (16 + 5 * (p.back - 1) + 4 + p.x) else none) := by simp [sndZ, hc, hy]
  rw [e]
  clear e
  obtain ⟨b, c, x, y⟩ := p
  simp only at h0 h3 hc hy ⊢
  subst hc hy
  go_enter Try.func21, Try.ntmps21
  go_wp2_with (go_at_call 11; refine (rmay_ok _ _ _ hm).mono ?_; rintro e w2 ⟨rfl, hb2⟩; obtain ⟨hc2, hf2⟩ := bcell hb2)
  all_goals go_ret2
  all_goals exact ⟨rfl, bel HB1.out hb2⟩

set_option maxRecDepth 100000 in
set_option maxHeartbeats 4000000 in
theorem rnum_snd_c (d : Int) (p : Plc) (hm : May 1 d) (h0 : 0 ≤ p.back) (h3 : p.back ≤ 3) (hc : p.coords ≠ 1) (w : World) :
    Calls Try.prog 21 #[.agg #[.int .i64 1, .int .i64 d], .agg #[.int .i64 p.back, .int .i64 p.coords, .int .i64 p.x, .int .i64 p.y]] w fun e w' => e = .returned (optV (sndZ p)) ∧ Below w.heap.size w w' := by
  have HB1 := hide ((bel1 w (.cells #[.int .i64 1, .int .i64 d] 23)).alloc (by simp) (.cells #[.int .i64 p.back, .int .i64 p.coords, .int .i64 p.x, .int .i64 p.y] 30))
  have e : sndZ p = none := by simp [sndZ, hc]
  rw [e]
  clear e
  obtain ⟨b, c, x, y⟩ := p
  simp only at h0 h3 hc ⊢
  have hc' : (c != 1) = true := by simp [hc]
  go_enter Try.func21, Try.ntmps21
  go_wp2_with (go_at_call 11; refine (rmay_ok _ _ _ hm).mono ?_; rintro e w2 ⟨rfl, hb2⟩; obtain ⟨hc2, hf2⟩ := bcell hb2)
  all_goals go_ret2
  all_goals exact ⟨rfl, bel HB1.out hb2⟩

set_option maxRecDepth 100000 in
set_option maxHeartbeats 4000000 in
theorem rnum_snd_y (d : Int) (p : Plc) (hm : May 1 d) (h0 : 0 ≤ p.back) (h3 : p.back ≤ 3) (hc : p.coords = 1) (hy : p.y ≠ 0) (w : World) :
    Calls Try.prog 21 #[.agg #[.int .i64 1, .int .i64 d], .agg #[.int .i64 p.back, .int .i64 p.coords, .int .i64 p.x, .int .i64 p.y]] w fun e w' => e = .returned (optV (sndZ p)) ∧ Below w.heap.size w w' := by
  have HB1 := hide ((bel1 w (.cells #[.int .i64 1, .int .i64 d] 23)).alloc (by simp) (.cells #[.int .i64 p.back, .int .i64 p.coords, .int .i64 p.x, .int .i64 p.y] 30))
  have e : sndZ p = none := by simp [sndZ, hy]
  rw [e]
  clear e
  obtain ⟨b, c, x, y⟩ := p
  simp only at h0 h3 hc hy ⊢
  subst hc
  have hy' : (y != 0) = true := by simp [hy]
  go_enter Try.func21, Try.ntmps21
  go_wp2_with (go_at_call 11; refine (rmay_ok _ _ _ hm).mono ?_; rintro e w2 ⟨rfl, hb2⟩; obtain ⟨hc2, hf2⟩ := bcell hb2)
  all_goals go_ret2
  all_goals exact ⟨rfl, bel HB1.out hb2⟩

set_option maxRecDepth 100000 in
set_option maxHeartbeats 4000000 in
theorem rnum_img_c (d : Int) (p : Plc) (hm : May 0 d) (h0 : 0 ≤ p.back) (h3 : p.back ≤ 3) (hc : p.coords ≠ 2) (w : World) :
    Calls Try.prog 21 #[.agg #[.int .i64 0, .int .i64 d], .agg #[.int .i64 p.back, .int .i64 p.coords, .int .i64 p.x, .int .i64 p.y]] w fun e w' => e = .returned (optV (imgZ p)) ∧ Below w.heap.size w w' := by
  have HB1 := hide ((bel1 w (.cells #[.int .i64 0, .int .i64 d] 23)).alloc (by simp) (.cells #[.int .i64 p.back, .int .i64 p.coords, .int .i64 p.x, .int .i64 p.y] 30))
  have e : imgZ p = none := by simp [imgZ, hc]
  rw [e]
  clear e
  obtain ⟨b, c, x, y⟩ := p
  simp only at h0 h3 hc ⊢
  have hc' : (c != 2) = true := by simp [hc]
  go_enter Try.func21, Try.ntmps21
  go_wp2_with (go_at_call 11; refine (rmay_ok _ _ _ hm).mono ?_; rintro e w2 ⟨rfl, hb2⟩; obtain ⟨hc2, hf2⟩ := bcell hb2)
  all_goals go_ret2
  all_goals exact ⟨rfl, bel HB1.out hb2⟩

set_option maxRecDepth 100000 in
set_option maxHeartbeats 4000000 in
theorem rnum_img_b (d : Int) (p : Plc) (hm : May 0 d) (h0 : 0 < p.back) (h3 : p.back ≤ 3) (hc : p.coords = 2) (w : World) :
    Calls Try.prog 21 #[.agg #[.int .i64 0, .int .i64 d], .agg #[.int .i64 p.back, .int .i64 p.coords, .int .i64 p.x, .int .i64 p.y]] w fun e w' => e = .returned (optV (imgZ p)) ∧ Below w.heap.size w w' := by
  have HB1 := hide ((bel1 w (.cells #[.int .i64 0, .int .i64 d] 23)).alloc (by simp) (.cells #[.int .i64 p.back, .int .i64 p.coords, .int .i64 p.x, .int .i64 p.y] 30))
  have e : imgZ p = (if p.x < -1 ∨ 1 < p.x ∨ p.y < -1 ∨ 1 < p.y then none else some (17 + 9 * (p.back - 1) + 3 * (p.y + 1) + p.x + 1)) := by simp [imgZ, hc, h0]
  rw [e]
  clear e
  obtain ⟨b, c, x, y⟩ := p
  simp only at h0 h3 hc ⊢
  subst hc
  have h0' : ¬ b < 0 := by omega
  go_enter Try.func21, Try.ntmps21
  go_wp2_with (go_at_call 11; refine (rmay_ok _ _ _ hm).mono ?_; rintro e w2 ⟨rfl, hb2⟩; obtain ⟨hc2, hf2⟩ := bcell hb2)
  all_goals go_ret2
  all_goals exact ⟨rfl, bel HB1.out hb2⟩

set_option maxRecDepth 100000 in
set_option maxHeartbeats 4000000 in
theorem rnum_img_0 (d : Int) (p : Plc) (hm : May 0 d) (h0 : p.back = 0) (hc : p.coords = 2) (w : World) :
    Calls Try.prog 21 #[.agg #[.int .i64 0, .int .i64 d], .agg #[.int .i64 p.back, .int .i64 p.coords, .int .i64 p.x, .int .i64 p.y]] w fun e w' => e = .returned (optV (imgZ p)) ∧ Below w.heap.size w w' := by
  have HB1 := hide ((bel1 w (.cells #[.int .i64 0, .int .i64 d] 23)).alloc (by simp) (.cells #[.int .i64 p.back, .int .i64 p.coords, .int .i64 p.x, .int .i64 p.y] 30))
  have e : imgZ p = (if p.x < -3 ∨ 3 < p.x ∨ p.y < -2 ∨ 0 < p.y ∨ (p.y = 0 ∧ 0 ≤ p.x) then none else some (7 * (p.y + 2) + p.x + 3)) := by simp [imgZ, hc, h0]
  rw [e]
  clear e
  obtain ⟨b, c, x, y⟩ := p
  simp only at h0 hc ⊢
  subst hc h0
  go_enter Try.func21, Try.ntmps21
  go_wp2_with (go_at_call 11; refine (rmay_ok _ _ _ hm).mono ?_; rintro e w2 ⟨rfl, hb2⟩; obtain ⟨hc2, hf2⟩ := bcell hb2)
  all_goals go_ret2
  all_goals exact ⟨rfl, bel HB1.out hb2⟩

set_option maxRecDepth 100000 in
set_option maxHeartbeats 4000000 in
theorem rnum_neg (f d : Int) (p : Plc) (hm : May f d) (h0 : p.back < 0) (w : World) :
    Calls Try.prog 21 #[.agg #[.int .i64 f, .int .i64 d], .agg #[.int .i64 p.back, .int .i64 p.coords, .int .i64 p.x, .int .i64 p.y]] w fun e w' => e = .returned (optV (rnumZ f d p)) ∧ Below w.heap.size w w' := by
  have HB1 := hide ((bel1 w (.cells #[.int .i64 f, .int .i64 d] 23)).alloc (by simp) (.cells #[.int .i64 p.back, .int .i64 p.coords, .int .i64 p.x, .int .i64 p.y] 30))
  have e : rnumZ f d p = none := by simp [rnumZ, h0]
  rw [e]
  clear e
  obtain ⟨b, c, x, y⟩ := p
  simp only at h0 ⊢
  go_enter Try.func21, Try.ntmps21
  go_wp2_with (go_at_call 11; refine (rmay_ok _ _ _ hm).mono ?_; rintro e w2 ⟨rfl, hb2⟩; obtain ⟨hc2, hf2⟩ := bcell hb2)
  all_goals go_ret2
  all_goals exact ⟨rfl, bel HB1.out hb2⟩

set_option maxRecDepth 100000 in
set_option maxHeartbeats 4000000 in
theorem rnum_big (f d : Int) (p : Plc) (hm : May f d) (h0 : 3 < p.back) (w : World) :
    Calls Try.prog 21 #[.agg #[.int .i64 f, .int .i64 d], .agg #[.int .i64 p.back, .int .i64 p.coords, .int .i64 p.x, .int .i64 p.y]] w fun e w' => e = .returned (optV (rnumZ f d p)) ∧ Below w.heap.size w w' := by
  have HB1 := hide ((bel1 w (.cells #[.int .i64 f, .int .i64 d] 23)).alloc (by simp) (.cells #[.int .i64 p.back, .int .i64 p.coords, .int .i64 p.x, .int .i64 p.y] 30))
  have e : rnumZ f d p = none := by simp [rnumZ, h0]
  rw [e]
  clear e
  obtain ⟨b, c, x, y⟩ := p
  simp only at h0 ⊢
  have h1 : decide (b < 0) = false := by simp; omega
  go_enter Try.func21, Try.ntmps21
  go_wp2_with (go_at_call 11; refine (rmay_ok _ _ _ hm).mono ?_; rintro e w2 ⟨rfl, hb2⟩; obtain ⟨hc2, hf2⟩ := bcell hb2)
  all_goals go_ret2
  all_goals exact ⟨rfl, bel HB1.out hb2⟩

set_option maxRecDepth 100000 in
set_option maxHeartbeats 4000000 in
theorem rnum_bad (f d : Int) (p : Plc) (hm : ¬ May f d) (w : World) :
    Calls Try.prog 21 #[.agg #[.int .i64 f, .int .i64 d], .agg #[.int .i64 p.back, .int .i64 p.coords, .int .i64 p.x, .int .i64 p.y]] w fun e w' => e = .returned (optV (rnumZ f d p)) ∧ Below w.heap.size w w' := by
  have HB1 := hide ((bel1 w (.cells #[.int .i64 f, .int .i64 d] 23)).alloc (by simp) (.cells #[.int .i64 p.back, .int .i64 p.coords, .int .i64 p.x, .int .i64 p.y] 30))
  have e : rnumZ f d p = none := by simp [rnumZ, hm]
  rw [e]
  clear e
  obtain ⟨b, c, x, y⟩ := p
  simp only at HB1 ⊢
  go_enter Try.func21, Try.ntmps21
  go_wp2_with (go_at_call 11; refine (rmay_bad _ _ _ hm).mono ?_; rintro e w2 ⟨rfl, hb2⟩; obtain ⟨hc2, hf2⟩ := bcell hb2)
  all_goals go_ret2
  all_goals exact ⟨rfl, bel HB1.out hb2⟩

theorem rnumber_any (f d : Int) (p : Plc) (w : World) :
    Calls Try.prog 21 #[.agg #[.int .i64 f, .int .i64 d], .agg #[.int .i64 p.back, .int .i64 p.coords, .int .i64 p.x, .int .i64 p.y]] w fun e w' => e = .returned (optV (rnumZ f d p)) ∧ Below w.heap.size w w' := by
  by_cases hm : May f d
  · by_cases h0 : p.back < 0
    · exact rnum_neg f d p hm h0 w
    by_cases h3 : 3 < p.back
    · exact rnum_big f d p hm h3 w
    rcases hm.1 with rfl | rfl
    · have e : rnumZ 0 d p = imgZ p := by simp [rnumZ, hm, h0, h3]
      rw [e]
      by_cases hc : p.coords = 2
      · by_cases hb : p.back = 0
        · exact rnum_img_0 d p hm hb hc w
        · exact rnum_img_b d p hm (by omega) (by omega) hc w
      · exact rnum_img_c d p hm (by omega) (by omega) hc w
    · have e : rnumZ 1 d p = sndZ p := by simp [rnumZ, hm, h0, h3]
      rw [e]
      by_cases hc : p.coords = 1
      · by_cases hy : p.y = 0
        · exact rnum_snd d p hm (by omega) (by omega) hc hy w
        · exact rnum_snd_y d p hm (by omega) (by omega) hc hy w
      · exact rnum_snd_c d p hm (by omega) (by omega) hc w
  · exact rnum_bad f d p hm w

end Go.Proofs.Ytinlknflkgijmaa

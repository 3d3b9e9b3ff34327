/-
  The walks of a reader's methods: what they read, and where the reader stands then.
-/
import Derived.Test.YtphmamhchkolkaaMOcY
import Derived.Test.YtphmamhchkolkaaMOcQ
import Derived.OneCell
namespace Go.Proofs.Ytphmamhchkolkaa.Ocm
open Go.RowKit Oct
set_option linter.unusedVariables false

theorem grownBy_setCell (w : World) (a : Addr) (u : Value) : w.grownBy (w.setCell a u) (some a.block) :=
  ⟨rfl, rfl, rfl, by simp [World.setCell], fun k _ hk => Below.heap_setCell _ _ _ _ (fun e => hk (by rw [e]))⟩

/-- The reader has gone on by m bytes. -/
theorem rd_moved {w : World} {r g off n c m off' cap' : Nat} {zs : List Int} (hr : w.heap[r]? = some (.cells #[.slice (some ⟨g, off, none⟩) n c] 85 (0, 0))) (hB : Bytes w (some ⟨g, off, none⟩) n c zs)
    (hne : g ≠ r) (hlt : g < w.heap.size) (hm : m ≤ n) (hc1 : n - m ≤ cap') (hc2 : cap' ≤ c) (ho : n - m = 0 ∨ off' = off + m) :
    Rd (w.setCell ⟨r, 0, none⟩ (.slice (some ⟨g, off', none⟩) (n - m) cap')) r g (zs.drop m) ∧ w.grownBy (w.setCell ⟨r, 0, none⟩ (.slice (some ⟨g, off', none⟩) (n - m) cap')) (some r) := by
  have hg := grownBy_setCell w ⟨r, 0, none⟩ (.slice (some ⟨g, off', none⟩) (n - m) cap')
  refine ⟨⟨_, _, _, one_setCell hr, ?_, hne, by simpa [World.setCell] using hlt⟩, hg⟩
  have hl := hB.len
  refine ⟨by simp [hl], hc1, Nat.le_trans hc2 hB.max, (fun h => by cases h), fun z hz => hB.byte z (List.mem_of_mem_drop hz), ?_⟩
  rcases ho with h0 | rfl
  · exact .inl h0
  · by_cases h0 : n - m = 0
    · exact .inl h0
    · obtain ⟨b, o, e, _, hc⟩ := hB.at (by omega)
      cases e
      refine .inr ⟨g, off + m, rfl, fun i hi => ?_⟩
      rw [World.cell?_of_block (a := ⟨g, off + m + i, none⟩) (w := w) (hg.block g hlt (by simp; exact hne)), Nat.add_assoc, hc (m + i) (by omega)]
      simp [List.getD]

theorem rdU_err {zs : List Int} {e : Int} (h : scan zs = (0, 0, e)) (he : e ≠ 0) : rdU zs = (0, 0, e) := by
  unfold rdU; rw [h, if_neg he]
theorem rdU_big {zs : List Int} {X m : Int} (h : scan zs = (X, m, 0)) (hb : 9223372036854775807 < X) : rdU zs = (0, 0, 3) := by
  unfold rdU; rw [h]; simp [hb]
theorem rdU_ok {zs : List Int} {X : Int} {m : Nat} (h : scan zs = (X, (m : Int), 0)) (hb : ¬ 9223372036854775807 < X) : rdU zs = (X, m, 0) := by
  unfold rdU; rw [h]; simp [hb]
theorem rdI_err {zs : List Int} {e : Int} (h : scan zs = (0, 0, e)) (he : e ≠ 0) : rdI zs = (0, 0, e) := by
  unfold rdI; rw [h, if_neg he]
theorem rdI_ok {zs : List Int} {X : Int} {m : Nat} (h : scan zs = (X, (m : Int), 0)) : rdI zs = (uz X, m, 0) := by
  unfold rdI; rw [h]; simp

set_option maxRecDepth 100000 in
set_option maxHeartbeats 1000000 in
theorem rUint_any (r g : Nat) (zs : List Int) (w : World) (hR : Rd w r g zs) :
    Calls Try.prog 57 #[.pointer (some ⟨r, 0, none⟩)] w fun e w' => e = .returned (.tuple #[.int .i64 (rdU zs).1, .int .i64 (rdU zs).2.2]) ∧ Rd w' r g (zs.drop (rdU zs).2.1) ∧ w.grownBy w' (some r) := by
  obtain ⟨a, n, c, hr, hb, ha, hne, hlt⟩ := hR.open
  have hcell := cell_of_one hr
  have hfree := free_of_one hr
  have hle := hb.le
  have hmx : c ≤ 9223372036854775807 := by have := hb.max; unfold maxLen at this; omega
  have HL : Hid (zs.length = n) := hb.len
  have HB : Hid (Bytes w a n c zs) := hb
  have HR : Hid (w.heap[r]? = some (.cells #[.slice a n c] 85 (0, 0))) := hr
  rcases scan_cases zs hb.byte with ⟨X, hs, hX0, hX1, hvl, htk⟩ | hs | hs
  · have hvl0 := vint_len X
    obtain ⟨b, off, rfl, _, _⟩ := hb.at (by rw [HL.out] at hvl; omega)
    have hbg : b = g := ha _ rfl
    subst hbg
    generalize em : (vint X).length = m at *
    clear hb hr ha htk em
    have HS : Hid (scan zs = (X, (m : Int), 0)) := hs
    have hmn : m ≤ n := by rw [HL.out] at hvl; exact hvl
    clear hs hvl
    by_cases hbig : 9223372036854775807 < X
    · have HF : Hid (rdU zs = (0, 0, 3)) := rdU_big HS.out hbig
      go_enter Try.func57, Try.ntmps57
      go_wp2_with (go_at_call 69; refine (scan_any _ _ _ zs _ HB.out).mono ?_; rw [HS.out]; rintro e w' ⟨rfl, rfl⟩)
      go_ret2
      rw [HF.out]
      exact ⟨rfl, hR, World.grownBy.refl _ _⟩
    · have HF : Hid (rdU zs = (X, m, 0)) := rdU_ok HS.out hbig
      go_enter Try.func57, Try.ntmps57
      go_wp2_with (go_at_call 69; refine (scan_any _ _ _ zs _ HB.out).mono ?_; rw [HS.out]; rintro e w' ⟨rfl, rfl⟩)
      all_goals go_ret2
      all_goals rw [HF.out]
      · exact ⟨rfl, rd_moved HR.out HB.out hne hlt (by omega) (by omega) (by omega) (.inl (by omega))⟩
      · exact ⟨rfl, rd_moved HR.out HB.out hne hlt (by omega) (by omega) (by omega) (.inr rfl)⟩
  · have HF : Hid (rdU zs = (0, 0, 2)) := rdU_err hs (by decide)
    have HS : Hid (scan zs = (0, 0, 2)) := hs
    clear hs hb hr ha
    go_enter Try.func57, Try.ntmps57
    go_wp2_with (go_at_call 69; refine (scan_any _ _ _ zs _ HB.out).mono ?_; rw [HS.out]; rintro e w' ⟨rfl, rfl⟩)
    go_ret2
    rw [HF.out]
    exact ⟨rfl, hR, World.grownBy.refl _ _⟩
  · have HF : Hid (rdU zs = (0, 0, 3)) := rdU_err hs (by decide)
    have HS : Hid (scan zs = (0, 0, 3)) := hs
    clear hs hb hr ha
    go_enter Try.func57, Try.ntmps57
    go_wp2_with (go_at_call 69; refine (scan_any _ _ _ zs _ HB.out).mono ?_; rw [HS.out]; rintro e w' ⟨rfl, rfl⟩)
    go_ret2
    rw [HF.out]
    exact ⟨rfl, hR, World.grownBy.refl _ _⟩

set_option maxRecDepth 100000 in
set_option maxHeartbeats 1000000 in
theorem rInt_any (r g : Nat) (zs : List Int) (w : World) (hR : Rd w r g zs) :
    Calls Try.prog 70 #[.pointer (some ⟨r, 0, none⟩)] w fun e w' => e = .returned (.tuple #[.int .i64 (rdI zs).1, .int .i64 (rdI zs).2.2]) ∧ Rd w' r g (zs.drop (rdI zs).2.1) ∧ w.grownBy w' (some r) := by
  obtain ⟨a, n, c, hr, hb, ha, hne, hlt⟩ := hR.open
  have hcell := cell_of_one hr
  have hfree := free_of_one hr
  have hle := hb.le
  have hmx : c ≤ 9223372036854775807 := by have := hb.max; unfold maxLen at this; omega
  have HL : Hid (zs.length = n) := hb.len
  have HB : Hid (Bytes w a n c zs) := hb
  have HR : Hid (w.heap[r]? = some (.cells #[.slice a n c] 85 (0, 0))) := hr
  rcases scan_cases zs hb.byte with ⟨X, hs, hX0, hX1, hvl, htk⟩ | hs | hs
  · have hvl0 := vint_len X
    obtain ⟨b, off, rfl, _, _⟩ := hb.at (by rw [HL.out] at hvl; omega)
    have hbg : b = g := ha _ rfl
    subst hbg
    generalize em : (vint X).length = m at *
    clear hb hr ha htk em
    have HS : Hid (scan zs = (X, (m : Int), 0)) := hs
    have hmn : m ≤ n := by rw [HL.out] at hvl; exact hvl
    clear hs hvl
    have HF : Hid (rdI zs = (uz X, m, 0)) := rdI_ok HS.out
    go_enter Try.func70, Try.ntmps70
    go_wp2_with (first
      | (go_at_call 69; refine (scan_any _ _ _ zs _ HB.out).mono ?_; rw [HS.out]; rintro e w' ⟨rfl, rfl⟩)
      | (go_at_call 73; refine (unfold_any X _ hX0 hX1).mono ?_; rintro e w' ⟨rfl, rfl⟩))
    all_goals go_ret2
    all_goals rw [HF.out]
    · exact ⟨rfl, rd_moved HR.out HB.out hne hlt (by omega) (by omega) (by omega) (.inl (by omega))⟩
    · exact ⟨rfl, rd_moved HR.out HB.out hne hlt (by omega) (by omega) (by omega) (.inr rfl)⟩
  · have HF : Hid (rdI zs = (0, 0, 2)) := rdI_err hs (by decide)
    have HS : Hid (scan zs = (0, 0, 2)) := hs
    clear hs hb hr ha
    go_enter Try.func70, Try.ntmps70
    go_wp2_with (go_at_call 69; refine (scan_any _ _ _ zs _ HB.out).mono ?_; rw [HS.out]; rintro e w' ⟨rfl, rfl⟩)
    go_ret2
    rw [HF.out]
    exact ⟨rfl, hR, World.grownBy.refl _ _⟩
  · have HF : Hid (rdI zs = (0, 0, 3)) := rdI_err hs (by decide)
    have HS : Hid (scan zs = (0, 0, 3)) := hs
    clear hs hb hr ha
    go_enter Try.func70, Try.ntmps70
    go_wp2_with (go_at_call 69; refine (scan_any _ _ _ zs _ HB.out).mono ?_; rw [HS.out]; rintro e w' ⟨rfl, rfl⟩)
    go_ret2
    rw [HF.out]
    exact ⟨rfl, hR, World.grownBy.refl _ _⟩

/-- What Done answers with so many bytes left. -/
def doneE (l : Nat) : Int := if l = 0 then 0 else 5

set_option maxRecDepth 100000 in
set_option maxHeartbeats 400000 in
theorem rDone_any (r g : Nat) (zs : List Int) (w : World) (hR : Rd w r g zs) :
    Calls Try.prog 35 #[.pointer (some ⟨r, 0, none⟩)] w fun e w' => e = .returned (.int .i64 (doneE zs.length)) ∧ w' = w := by
  obtain ⟨a, n, c, hr, hb, ha, hne, hlt⟩ := hR.open
  have hcell := cell_of_one hr
  have HL : Hid (zs.length = n) := hb.len
  clear hb hr ha
  by_cases h0 : 0 < n
  · go_enter Try.func35, Try.ntmps35
    go_wp2_with fail
    go_ret
    rw [HL.out, doneE, if_neg (by omega)]
    exact ⟨rfl, rfl⟩
  · go_enter Try.func35, Try.ntmps35
    go_wp2_with fail
    go_ret
    rw [HL.out, doneE, if_pos (by omega)]
    exact ⟨rfl, rfl⟩

/-! A nil reader. -/
set_option maxRecDepth 100000 in
set_option maxHeartbeats 400000 in
theorem rUint_nil (w : World) : Calls Try.prog 57 #[.pointer none] w fun e w' => e = .returned (.tuple #[.int .i64 0, .int .i64 1]) ∧ w' = w := by
  go_enter Try.func57, Try.ntmps57
  go_wp2_with fail
  go_ret2
  exact ⟨rfl, rfl⟩
set_option maxRecDepth 100000 in
set_option maxHeartbeats 400000 in
theorem rInt_nil (w : World) : Calls Try.prog 70 #[.pointer none] w fun e w' => e = .returned (.tuple #[.int .i64 0, .int .i64 1]) ∧ w' = w := by
  go_enter Try.func70, Try.ntmps70
  go_wp2_with fail
  go_ret2
  exact ⟨rfl, rfl⟩
set_option maxRecDepth 100000 in
set_option maxHeartbeats 400000 in
theorem rByte_nil (w : World) : Calls Try.prog 56 #[.pointer none] w fun e w' => e = .returned (.tuple #[.int .i64 0, .int .i64 1]) ∧ w' = w := by
  go_enter Try.func56, Try.ntmps56
  go_wp2_with fail
  go_ret2
  exact ⟨rfl, rfl⟩
set_option maxRecDepth 100000 in
set_option maxHeartbeats 400000 in
theorem rDone_nil (w : World) : Calls Try.prog 35 #[.pointer none] w fun e w' => e = .returned (.int .i64 1) ∧ w' = w := by
  go_enter Try.func35, Try.ntmps35
  go_wp2_with fail
  go_ret
  exact ⟨rfl, rfl⟩

end Go.Proofs.Ytphmamhchkolkaa.Ocm

/-
  The walk of the document's own Fits.
-/
import Derived.Test.YtihbhbeaihdgnaaGreatRGB
import Derived.Test.YtihbhbeaihdgnaaGreatRGC
namespace Go.Proofs.YtihbhbeaihdgnaaGreat.Knd
open Go.RowKit Go.Sort
set_option linter.unusedVariables false

/-- The answer is a bool that tells whether p holds. -/
def Tells (e : Ending) (p : Prop) : Prop := ∃ q : Bool, e = .returned (.bool q) ∧ (q = true ↔ p)

theorem lies_iff {f d : Int} (hm : May f d) (x y c : Int) : (Lies f d 0 x ↔ 0 ≤ x ∧ x ≤ colZ f - 1) ∧ (Lies f d 1 y ↔ 0 ≤ y ∧ y ≤ rowZ f - 1) ∧ (Lies f d 2 c ↔ 0 ≤ c ∧ c ≤ 3) := by
  refine ⟨⟨fun ⟨lo, hi, hz, h⟩ => ?_, fun h => ⟨0, colZ f - 1, by simp [inZ, hm], h⟩⟩, ⟨fun ⟨lo, hi, hz, h⟩ => ?_, fun h => ⟨0, rowZ f - 1, by simp [inZ, hm], h⟩⟩, ⟨fun ⟨lo, hi, hz, h⟩ => ?_, fun h => ⟨0, 3, by simp [inZ, hm], h⟩⟩⟩
  all_goals
    simp [inZ, hm] at hz
    obtain ⟨rfl, rfl⟩ := hz
    exact h

set_option maxRecDepth 100000 in
set_option maxHeartbeats 4000000 in
theorem rfits_bad (f d x y c : Int) (a : Option Addr) (n cap : Nat) (w : World) (hm : ¬ May f d) :
    Calls Tryz.prog 103 #[.agg #[.int .i64 f, .int .i64 d], .agg #[.int .i64 x, .int .i64 y, .int .i64 c, .slice a n cap]] w fun e w' => e = .returned (.bool false) ∧ Below w.heap.size w w' := by
  have HB1 := hide ((bel1 w (.cells #[.int .i64 f, .int .i64 d] 23)).alloc (by simp) (.cells #[.int .i64 x, .int .i64 y, .int .i64 c, .slice a n cap] 44))
  have HK1 := hide ((HasC.new w 23 #[.int .i64 f, .int .i64 d]).alloc (.cells #[.int .i64 x, .int .i64 y, .int .i64 c, .slice a n cap] 44))
  go_enter Tryz.func103, Tryz.ntmps103
  go_wp2
  obtain ⟨w1, hw1⟩ : ∃ w1, (w.alloc (.cells #[.int .i64 f, .int .i64 d] 23)).alloc (.cells #[.int .i64 x, .int .i64 y, .int .i64 c, .slice a n cap] 44) = w1 := ⟨_, rfl⟩
  rw [hw1] at HB1 HK1 ⊢
  clear hw1
  obtain ⟨x1, y1, -, -⟩ := facts2 HK1.out
  have k0 := cell_regrown x1
  have k1 := cell_regrown y1
  refine wp_region_quiet_below mixed' (by kernel_rfl) ?_
  repeat (first | go_big_quiet_step (first
    | (go_at_call 45; exact Calls.regrown_of (rmay_bad _ _ _ hm))))
  refine wpQuiet_nil ?_
  intro w2 hw'
  obtain ⟨⟨dq2, osq2⟩, hw''⟩ := hw'
  have hb2 : Below w1.heap.size w1 (grow (redrawn w1 dq2) osq2) := below_regrown _ _ _
  simp only at hw''
  rw [← hw''] at hb2
  clear hw'' k0 k1
  go_wp2
  go_ret
  exact ⟨rfl, bel HB1.out hb2⟩

set_option maxRecDepth 100000 in
set_option maxHeartbeats 4000000 in
theorem rfits_n (f d x y c : Int) (a : Option Addr) (n cap : Nat) (w : World) (hm : May f d) (hn : ((n : Nat) : Int) ≠ countZ f d) :
    Calls Tryz.prog 103 #[.agg #[.int .i64 f, .int .i64 d], .agg #[.int .i64 x, .int .i64 y, .int .i64 c, .slice a n cap]] w fun e w' => e = .returned (.bool false) ∧ Below w.heap.size w w' := by
  have HB1 := hide ((bel1 w (.cells #[.int .i64 f, .int .i64 d] 23)).alloc (by simp) (.cells #[.int .i64 x, .int .i64 y, .int .i64 c, .slice a n cap] 44))
  have HK1 := hide ((HasC.new w 23 #[.int .i64 f, .int .i64 d]).alloc (.cells #[.int .i64 x, .int .i64 y, .int .i64 c, .slice a n cap] 44))
  have hP : HasC ((w.alloc (.cells #[.int .i64 f, .int .i64 d] 23)).alloc (.cells #[.int .i64 x, .int .i64 y, .int .i64 c, .slice a n cap] 44)) (w.heap.size + 1) 44 #[.int .i64 x, .int .i64 y, .int .i64 c, .slice a n cap] := by
    have := HasC.new (w.alloc (.cells #[.int .i64 f, .int .i64 d] 23)) 44 #[.int .i64 x, .int .i64 y, .int .i64 c, .slice a n cap]
    rwa [World.size_alloc] at this
  have HP1 := hide hP
  clear hP
  have hn' : (((n : Nat) : Int) != countZ f d) = true := by simp [hn]
  go_enter Tryz.func103, Tryz.ntmps103
  go_wp2
  obtain ⟨w1, hw1⟩ : ∃ w1, (w.alloc (.cells #[.int .i64 f, .int .i64 d] 23)).alloc (.cells #[.int .i64 x, .int .i64 y, .int .i64 c, .slice a n cap] 44) = w1 := ⟨_, rfl⟩
  rw [hw1] at HB1 HK1 HP1 ⊢
  clear hw1
  obtain ⟨x1, y1, -, -⟩ := facts2 HK1.out
  obtain ⟨-, -, -, t1⟩ := factsW HP1.out
  have k0 := cell_regrown x1
  have k1 := cell_regrown y1
  have k2 := cell_regrown t1
  refine wp_region_quiet_below mixed' (by kernel_rfl) ?_
  repeat (first | go_big_quiet_step (first
    | (go_at_call 45; exact Calls.regrown_of (rmay_ok _ _ _ hm))
    | (go_at_call 21; exact Calls.regrown_of (rcount_any _ _ _))))
  refine wpQuiet_nil ?_
  intro w2 hw'
  obtain ⟨⟨dq2, osq2⟩, hw''⟩ := hw'
  have hb2 : Below w1.heap.size w1 (grow (redrawn w1 dq2) osq2) := below_regrown _ _ _
  simp only at hw''
  rw [← hw''] at hb2
  clear hw'' k0 k1 k2
  go_wp2
  go_ret
  exact ⟨rfl, bel HB1.out hb2⟩

set_option maxRecDepth 100000 in
set_option maxHeartbeats 8000000 in
theorem rfits_e (f d x y c : Int) (a : Option Addr) (n cap : Nat) (zs : List Int) (w : World) (hZ : Ints w a n cap zs) (hm : May f d) (hn : ((n : Nat) : Int) = countZ f d) :
    Calls Tryz.prog 103 #[.agg #[.int .i64 f, .int .i64 d], .agg #[.int .i64 x, .int .i64 y, .int .i64 c, .slice a n cap]] w fun e w' => Tells e (Fit f d x y c zs) ∧ Below w.heap.size w w' := by
  have HZ1 := hide hZ
  clear hZ
  have HB1 := hide ((bel1 w (.cells #[.int .i64 f, .int .i64 d] 23)).alloc (by simp) (.cells #[.int .i64 x, .int .i64 y, .int .i64 c, .slice a n cap] 44))
  have HK1 := hide ((HasC.new w 23 #[.int .i64 f, .int .i64 d]).alloc (.cells #[.int .i64 x, .int .i64 y, .int .i64 c, .slice a n cap] 44))
  have hP : HasC ((w.alloc (.cells #[.int .i64 f, .int .i64 d] 23)).alloc (.cells #[.int .i64 x, .int .i64 y, .int .i64 c, .slice a n cap] 44)) (w.heap.size + 1) 44 #[.int .i64 x, .int .i64 y, .int .i64 c, .slice a n cap] := by
    have := HasC.new (w.alloc (.cells #[.int .i64 f, .int .i64 d] 23)) 44 #[.int .i64 x, .int .i64 y, .int .i64 c, .slice a n cap]
    rwa [World.size_alloc] at this
  have HP1 := hide hP
  clear hP
  have hn' : (((n : Nat) : Int) != countZ f d) = false := by simp [hn]
  have HN := hide hn
  obtain ⟨hn1, hn2⟩ : 1 ≤ n ∧ n ≤ 44 := by
    unfold countZ at hn
    rw [if_pos hm] at hn
    split at hn <;> omega
  clear hn
  go_enter Tryz.func103, Tryz.ntmps103
  go_wp2
  obtain ⟨w1, hw1⟩ : ∃ w1, (w.alloc (.cells #[.int .i64 f, .int .i64 d] 23)).alloc (.cells #[.int .i64 x, .int .i64 y, .int .i64 c, .slice a n cap] 44) = w1 := ⟨_, rfl⟩
  rw [hw1] at HB1 HK1 HP1 ⊢
  clear hw1
  obtain ⟨x1, y1, -, -⟩ := facts2 HK1.out
  obtain ⟨-, -, -, t1⟩ := factsW HP1.out
  have k0 := cell_regrown x1
  have k1 := cell_regrown y1
  have k2 := cell_regrown t1
  refine wp_region_quiet_below mixed' (by kernel_rfl) ?_
  repeat (first | go_big_quiet_step (first
    | (go_at_call 45; exact Calls.regrown_of (rmay_ok _ _ _ hm))
    | (go_at_call 21; exact Calls.regrown_of (rcount_any _ _ _))))
  refine wpQuiet_nil ?_
  intro w2 hw'
  obtain ⟨⟨dq2, osq2⟩, hw''⟩ := hw'
  have hb2 : Below w1.heap.size w1 (grow (redrawn w1 dq2) osq2) := below_regrown _ _ _
  simp only at hw''
  rw [← hw''] at hb2
  have HK2 := hide (HK1.out.below hb2)
  have HP2 := hide (HP1.out.below hb2)
  have HB2 := hide (bel HB1.out hb2)
  clear hw'' hb2 k0 k1 k2 x1 y1 t1 HK1 HP1 HB1 hn'
  have HZ2 := hide (HZ1.out.later HB2.out)
  obtain ⟨sb, so, rfl, hsb, hcell⟩ := HZ2.out.at (by omega)
  have HC := hide hcell
  have HLen : Hid (zs.length = n) := HZ2.out.len
  clear hcell HZ1 HZ2
  go_wp2
  go_loopw [5] (fun iv wr => ∃ k : Nat, k ≤ n ∧ iv = .int .i64 k ∧ Hid (∀ j, j < k → lowZ f d ≤ zs.getD j 0 ∧ zs.getD j 0 ≤ highZ f d) ∧ Hid (Below w2.heap.size w2 wr)) (fun iv _ => n - (intOf iv).toNat)
  case atStart => exact ⟨0, by omega, rfl, (fun j hj => by omega), Below.refl _ _⟩
  case round =>
    obtain ⟨k, hk, rfl, HA, HW⟩ := hrel
    have HKr := hide (HK2.out.below HW.out)
    have HPr := hide (HP2.out.below HW.out)
    obtain ⟨x3, y3, -, -⟩ := facts2 HKr.out
    obtain ⟨p3, q3, r3, t3⟩ := factsW HPr.out
    by_cases hlt : k < n
    · have hlt' : (k : Int) < (n : Int) := by omega
      have hck : wr.cell? ⟨sb, so + k, none⟩ = some (.int .i64 (zs.getD k 0)) := (HW.out.cell (p := ⟨sb, so + k, none⟩) hsb).trans (HC.out k hlt)
      obtain ⟨z, hz⟩ : ∃ z, zs.getD k 0 = z := ⟨_, rfl⟩
      rw [hz] at hck
      have HZk := hide hz
      have HM : Hid (z ∈ zs) := by
        unfold Hid
        rw [← HZk.out]
        simp only [List.getD]
        rw [List.getElem?_eq_getElem (by have := HLen.out; omega)]
        exact List.getElem_mem _
      clear hz
      have k0 := cell_regrown x3
      have k1 := cell_regrown y3
      have k2 := cell_regrown t3
      have k3 := cell_regrown hck
      by_cases h1 : z < lowZ f d
      · go_wp2
        refine wp_region_quiet_below mixed' (by kernel_rfl) ?_
        repeat (first | go_big_quiet_step (first
          | (go_at_call 48; exact Calls.regrown_of (rlow_any _ _ _))
          | (go_at_call 49; exact Calls.regrown_of (rhigh_any _ _ _))))
        refine wpQuiet_nil ?_
        intro w4 hw'
        obtain ⟨⟨dq4, osq4⟩, hw''⟩ := hw'
        have hb4 : Below wr.heap.size wr (grow (redrawn wr dq4) osq4) := below_regrown _ _ _
        simp only at hw''
        rw [← hw''] at hb4
        clear hw'' k0 k1 k2 k3
        go_wp2
        go_ret
        exact ⟨⟨false, rfl, ⟨(fun h => by cases h), fun hF => absurd (hF.2.2 z HM.out) (by omega)⟩⟩, bel (bel HB2.out HW.out) hb4⟩
      · have h1' : decide (z < lowZ f d) = false := by simpa using h1
        by_cases h2 : highZ f d < z
        · go_wp2
          refine wp_region_quiet_below mixed' (by kernel_rfl) ?_
          repeat (first | go_big_quiet_step (first
            | (go_at_call 48; exact Calls.regrown_of (rlow_any _ _ _))
            | (go_at_call 49; exact Calls.regrown_of (rhigh_any _ _ _))))
          refine wpQuiet_nil ?_
          intro w4 hw'
          obtain ⟨⟨dq4, osq4⟩, hw''⟩ := hw'
          have hb4 : Below wr.heap.size wr (grow (redrawn wr dq4) osq4) := below_regrown _ _ _
          simp only at hw''
          rw [← hw''] at hb4
          clear hw'' k0 k1 k2 k3
          go_wp2
          go_ret
          exact ⟨⟨false, rfl, ⟨(fun h => by cases h), fun hF => absurd (hF.2.2 z HM.out) (by omega)⟩⟩, bel (bel HB2.out HW.out) hb4⟩
        · have h2' : decide (highZ f d < z) = false := by simpa using h2
          go_wp2
          refine wp_region_quiet_below mixed' (by kernel_rfl) ?_
          repeat (first | go_big_quiet_step (first
            | (go_at_call 48; exact Calls.regrown_of (rlow_any _ _ _))
            | (go_at_call 49; exact Calls.regrown_of (rhigh_any _ _ _))))
          refine wpQuiet_nil ?_
          intro w4 hw'
          obtain ⟨⟨dq4, osq4⟩, hw''⟩ := hw'
          have hb4 : Below wr.heap.size wr (grow (redrawn wr dq4) osq4) := below_regrown _ _ _
          simp only at hw''
          rw [← hw''] at hb4
          clear hw'' k0 k1 k2 k3
          go_wp2
          exact ⟨⟨k + 1, by omega, by go_num, (fun j hj => by
            by_cases e : j = k
            · subst e; rw [HZk.out]; omega
            · exact HA.out j (by omega)), bel HW.out hb4⟩, by simp [intOf]; omega⟩
    · obtain rfl : k = n := by omega
      have HAll : Hid (∀ z ∈ zs, lowZ f d ≤ z ∧ z ≤ highZ f d) := fun z hz => by
        obtain ⟨i, hi, rfl⟩ := List.getElem_of_mem hz
        have := HA.out i (by have := HLen.out; omega)
        simpa [List.getD, hi] using this
      have HI0 : Hid (inV f d 0 = .tuple #[.agg #[.int .i64 0, .int .i64 (colZ f - 1)], .bool true]) := by unfold Hid; simp [inV, inZ, hm]
      have HI1 : Hid (inV f d 1 = .tuple #[.agg #[.int .i64 0, .int .i64 (rowZ f - 1)], .bool true]) := by unfold Hid; simp [inV, inZ, hm]
      have HBr := hide (bel HB2.out HW.out)
      clear HA hsb
      go_wp2_with fail
      refine (rinput_any f d 0 _).mono ?_
      rintro e w5 ⟨rfl, hb5⟩
      rw [HI0.out]
      have HK6 := hide ((HKr.out.below hb5).alloc (.cells #[.int .i64 0, .int .i64 (colZ f - 1)] 74))
      have HP6 := hide ((HPr.out.below hb5).alloc (.cells #[.int .i64 0, .int .i64 (colZ f - 1)] 74))
      have HB6 := hide ((bel HBr.out hb5).alloc (bel HBr.out hb5).size (.cells #[.int .i64 0, .int .i64 (colZ f - 1)] 74))
      have HX6 := hide (HasC.new w5 74 #[.int .i64 0, .int .i64 (colZ f - 1)])
      clear hb5 x3 y3 p3 q3 r3 t3 HKr HPr HBr
      obtain ⟨x6, y6, -, -⟩ := facts2 HK6.out
      go_wp2_with fail
      refine (rinput_any f d 1 _).mono ?_
      rintro e w7 ⟨rfl, hb7⟩
      rw [HI1.out]
      have HP8 := hide ((HP6.out.below hb7).alloc (.cells #[.int .i64 0, .int .i64 (rowZ f - 1)] 74))
      have HB8 := hide ((bel HB6.out hb7).alloc (bel HB6.out hb7).size (.cells #[.int .i64 0, .int .i64 (rowZ f - 1)] 74))
      have HX8 := hide ((HX6.out.below hb7).alloc (.cells #[.int .i64 0, .int .i64 (rowZ f - 1)] 74))
      have HY8 := hide (HasC.new w7 74 #[.int .i64 0, .int .i64 (rowZ f - 1)])
      clear hb7 x6 y6 HK6 HP6 HB6 HX6
      obtain ⟨p8, q8, r8, -⟩ := factsW HP8.out
      obtain ⟨-, m8, -, -⟩ := facts2 HX8.out
      obtain ⟨-, n8, -, -⟩ := facts2 HY8.out
      have HF : Hid (Fit f d x y c zs ↔ (((0 ≤ x ∧ x ≤ colZ f - 1) ∧ (0 ≤ y ∧ y ≤ rowZ f - 1)) ∧ 0 ≤ c ∧ c ≤ 3)) := by
        obtain ⟨e1, e2, e3⟩ := lies_iff hm x y c
        unfold Hid Fit
        rw [e1, e2, e3]
        constructor
        · exact fun h => h.1
        · exact fun h => ⟨h, by rw [HLen.out]; exact HN.out, HAll.out⟩
      go_wp2
      all_goals go_ret
      · refine ⟨⟨decide (c ≤ 3), rfl, ?_⟩, HB8.out⟩
        rw [HF.out, decide_eq_true_iff]
        omega
      all_goals
        refine ⟨⟨false, rfl, ?_⟩, HB8.out⟩
        rw [HF.out]
        constructor
        · intro h; cases h
        · intro h; omega

theorem rfits_any (f d x y c : Int) (a : Option Addr) (n cap : Nat) (zs : List Int) (w : World) (hZ : Ints w a n cap zs) :
    Calls Tryz.prog 103 #[.agg #[.int .i64 f, .int .i64 d], .agg #[.int .i64 x, .int .i64 y, .int .i64 c, .slice a n cap]] w fun e w' => Tells e (Fit f d x y c zs) ∧ Below w.heap.size w w' := by
  by_cases hm : May f d
  · by_cases hn : ((n : Nat) : Int) = countZ f d
    · exact rfits_e f d x y c a n cap zs w hZ hm hn
    · refine (rfits_n f d x y c a n cap w hm hn).mono ?_
      rintro e w' ⟨rfl, hB⟩
      exact ⟨⟨false, rfl, ⟨(fun h => by cases h), fun hF => absurd (by rw [← hZ.len]; exact hF.2.1) hn⟩⟩, hB⟩
  · refine (rfits_bad f d x y c a n cap w hm).mono ?_
    rintro e w' ⟨rfl, hB⟩
    refine ⟨⟨false, rfl, ⟨(fun h => by cases h), fun hF => ?_⟩⟩, hB⟩
    obtain ⟨lo, hi, hz, _⟩ := hF.1.1.1
    simp [inZ, hm] at hz

end Go.Proofs.YtihbhbeaihdgnaaGreat.Knd

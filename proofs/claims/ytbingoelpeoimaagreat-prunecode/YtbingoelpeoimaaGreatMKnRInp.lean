/-
  The walk of the document's own Input.
-/
import Derived.Test.YtbingoelpeoimaaGreatMKnInp
import Derived.Test.YtbingoelpeoimaaGreatMKnRef
import Derived.Deep.RegionHeld3
import Derived.Deep.RegionWith
namespace Go.Proofs.YtbingoelpeoimaaGreat.Knd
open Go.RowKit
set_option linter.unusedVariables false

def lz (f d : Int) : Nat → Int
  | 0 => 0 | 1 => 0 | 2 => 0 | 3 => lowZ f d | 4 => highZ f d | _ => borderZ f d
def mz (f d x y : Int) : Nat → Int
  | 0 => x | 1 => y | 2 => 3 | 3 => lowZ f d | 4 => highZ f d | _ => borderZ f d

theorem upto5 (k : Nat) (h : k ≤ 5) : k = 0 ∨ k = 1 ∨ k = 2 ∨ k = 3 ∨ k = 4 ∨ k = 5 := by omega
theorem lz_at (f d : Int) (k : Nat) (h : k ≤ 5) : (#[Value.int .i64 0, .int .i64 0, .int .i64 0, .int .i64 (lowZ f d), .int .i64 (highZ f d), .int .i64 (borderZ f d)])[k]? = some (.int .i64 (lz f d k)) := by
  rcases upto5 k h with rfl | rfl | rfl | rfl | rfl | rfl <;> rfl
theorem mz_at (f d x y : Int) (k : Nat) (h : k ≤ 5) : (#[Value.int .i64 x, .int .i64 y, .int .i64 3, .int .i64 (lowZ f d), .int .i64 (highZ f d), .int .i64 (borderZ f d)])[k]? = some (.int .i64 (mz f d x y k)) := by
  rcases upto5 k h with rfl | rfl | rfl | rfl | rfl | rfl <;> rfl
theorem inV_at (f d : Int) (hm : May f d) (k : Nat) (h : k ≤ 5) : inV f d (k : Int) = .tuple #[.agg #[.int .i64 (lz f d k), .int .i64 (mz f d (colZ f - 1) (rowZ f - 1) k)], .bool true] := by
  rcases upto5 k h with rfl | rfl | rfl | rfl | rfl | rfl <;> simp [inV, inZ, hm, lz, mz]

set_option maxRecDepth 100000 in
set_option maxHeartbeats 4000000 in
theorem rinput_ok (f d : Int) (n : Nat) (hm : May f d) (h5 : n ≤ 5) (w : World) :
    Calls Tryz.prog 44 #[.agg #[.int .i64 f, .int .i64 d], .int .i64 (n : Int)] w fun e w' => e = .returned (inV f d (n : Int)) ∧ Below w.heap.size w w' := by
  have hq1 : ¬ ((n : Int) < 0) := by omega
  have hq2 : ¬ (5 < (n : Int)) := by omega
  have HB1 := hide ((bel1 w (.cells #[.int .i64 f, .int .i64 d] 23)).alloc (by simp) (.cells #[.int .i64 0, .int .i64 0] 64))
  have hR : HasC ((w.alloc (.cells #[.int .i64 f, .int .i64 d] 23)).alloc (.cells #[.int .i64 0, .int .i64 0] 64)) (w.heap.size + 1) 64 #[.int .i64 0, .int .i64 0] := by
    have := HasC.new (w.alloc (.cells #[.int .i64 f, .int .i64 d] 23)) 64 #[.int .i64 0, .int .i64 0]
    rwa [World.size_alloc] at this
  have HR1 := hide hR
  have HK1 := hide ((HasC.new w 23 #[.int .i64 f, .int .i64 d]).alloc (.cells #[.int .i64 0, .int .i64 0] 64))
  clear hR
  go_enter Tryz.func44, Tryz.ntmps44
  go_wp2_with (go_at_call 38; refine (rmay_ok _ _ _ hm).mono ?_; rintro e w2 ⟨rfl, hb2⟩; have HR2 := hide (HR1.out.below hb2); have HK2 := hide (HK1.out.below hb2); have HB2 := hide (bel HB1.out hb2); clear hb2; obtain ⟨s2, t2, u2, v2⟩ := facts2 HR2.out; obtain ⟨x2, y2, -, -⟩ := facts2 HK2.out)
  clear HB1 HR1 HK1
  have HRd : Hid (HasC w2.drew (w.heap.size + 1) 64 #[.int .i64 0, .int .i64 0]) := HR2.out
  have HKd : Hid (HasC w2.drew w.heap.size 23 #[.int .i64 f, .int .i64 d]) := HK2.out
  have HBd := hide HB2.out.drew
  go_region_held3 (fun w' => w'.cell? ⟨w.heap.size, 0, none⟩ = some (.int .i64 f) ∧ w'.cell? ⟨w.heap.size, 1, none⟩ = some (.int .i64 d))
    (first | exact ⟨x3, y3⟩ | exact ⟨x4, y4⟩ | exact ⟨x5, y5⟩ | exact ⟨(HK5.out.alloc _).cell 0 rfl, (HK5.out.alloc _).cell 1 rfl⟩ | (simp [go_sem, x2, y2]; done))
    (first
      | (go_at_call 45; refine (rlow_any f d _).mono ?_; rintro e w3 ⟨rfl, hb3⟩; have HR3 := hide (HRd.out.below hb3); have HK3 := hide (HKd.out.below hb3); have HB3 := hide (bel HBd.out hb3); clear hb3; obtain ⟨x3, y3, -, -⟩ := facts2 HK3.out)
      | (go_at_call 46; refine (rhigh_any f d _).mono ?_; rintro e w4 ⟨rfl, hb4⟩; have HR4 := hide (HR3.out.below hb4); have HK4 := hide (HK3.out.below hb4); have HB4 := hide (bel HB3.out hb4); clear hb4; obtain ⟨x4, y4, -, -⟩ := facts2 HK4.out)
      | (go_at_call 59; refine (rborder_any f d _).mono ?_; rintro e w5 ⟨rfl, hb5⟩; have HR5 := hide (HR4.out.below hb5); have HK5 := hide (HK4.out.below hb5); have HB5 := hide (bel HB4.out hb5); clear hb5; obtain ⟨x5, y5, -, -⟩ := facts2 HK5.out))
  have HR6 := hide (HR5.out.alloc (.cells #[.int .i64 0, .int .i64 0, .int .i64 0, .int .i64 (lowZ f d), .int .i64 (highZ f d), .int .i64 (borderZ f d)] 3))
  have HK6 := hide (HK5.out.alloc (.cells #[.int .i64 0, .int .i64 0, .int .i64 0, .int .i64 (lowZ f d), .int .i64 (highZ f d), .int .i64 (borderZ f d)] 3))
  have HB6 := hide (HB5.out.alloc HB5.out.size (.cells #[.int .i64 0, .int .i64 0, .int .i64 0, .int .i64 (lowZ f d), .int .i64 (highZ f d), .int .i64 (borderZ f d)] 3))
  have HL6 := hide (HasC.new w5 3 #[.int .i64 0, .int .i64 0, .int .i64 0, .int .i64 (lowZ f d), .int .i64 (highZ f d), .int .i64 (borderZ f d)])
  obtain ⟨w6, hw6⟩ : ∃ w6, w5.alloc (.cells #[.int .i64 0, .int .i64 0, .int .i64 0, .int .i64 (lowZ f d), .int .i64 (highZ f d), .int .i64 (borderZ f d)] 3) = w6 := ⟨_, rfl⟩
  obtain ⟨g6, hg6⟩ : ∃ g6, w5.heap.size = g6 := ⟨_, rfl⟩
  rw [hw6] at HR6 HK6 HB6 HL6 ⊢
  rw [hg6] at HL6 ⊢
  have HG6 : Hid (w.heap.size + 1 < g6) := by unfold Hid; rw [← hg6]; exact HR5.out.lt
  clear hw6 hg6 HRd HKd HBd HR2 HK2 HB2 HR3 HK3 HB3 HR4 HK4 HB4 HR5 HK5 HB5 s2 t2 u2 v2 x2 y2 x3 y3 x4 y4 x5 y5
  obtain ⟨x6, y6, -, -⟩ := facts2 HK6.out
  go_wp2
  have HLd : Hid (HasC w6.drew g6 3 #[.int .i64 0, .int .i64 0, .int .i64 0, .int .i64 (lowZ f d), .int .i64 (highZ f d), .int .i64 (borderZ f d)]) := HL6.out
  have HRd : Hid (HasC w6.drew (w.heap.size + 1) 64 #[.int .i64 0, .int .i64 0]) := HR6.out
  have HKd : Hid (HasC w6.drew w.heap.size 23 #[.int .i64 f, .int .i64 d]) := HK6.out
  have HBd := hide HB6.out.drew
  go_region_held3 (fun w' => w'.cell? ⟨w.heap.size, 0, none⟩ = some (.int .i64 f) ∧ w'.cell? ⟨w.heap.size, 1, none⟩ = some (.int .i64 d))
    (first | exact ⟨x3, y3⟩ | exact ⟨x4, y4⟩ | exact ⟨x5, y5⟩ | exact ⟨(HK5.out.alloc _).cell 0 rfl, (HK5.out.alloc _).cell 1 rfl⟩ | (simp [go_sem, x6, y6]; done))
    (first
      | (go_at_call 45; refine (rlow_any f d _).mono ?_; rintro e w3 ⟨rfl, hb3⟩; have HL3 := hide (HLd.out.below hb3); have HR3 := hide (HRd.out.below hb3); have HK3 := hide (HKd.out.below hb3); have HB3 := hide (bel HBd.out hb3); clear hb3; obtain ⟨x3, y3, -, -⟩ := facts2 HK3.out)
      | (go_at_call 46; refine (rhigh_any f d _).mono ?_; rintro e w4 ⟨rfl, hb4⟩; have HL4 := hide (HL3.out.below hb4); have HR4 := hide (HR3.out.below hb4); have HK4 := hide (HK3.out.below hb4); have HB4 := hide (bel HB3.out hb4); clear hb4; obtain ⟨x4, y4, -, -⟩ := facts2 HK4.out)
      | (go_at_call 59; refine (rborder_any f d _).mono ?_; rintro e w5 ⟨rfl, hb5⟩; have HL5 := hide (HL4.out.below hb5); have HR5 := hide (HR4.out.below hb5); have HK5 := hide (HK4.out.below hb5); have HB5 := hide (bel HB4.out hb5); clear hb5; obtain ⟨x5, y5, -, -⟩ := facts2 HK5.out))
  have HL7 := hide (HL5.out.alloc (.cells #[.int .i64 4095, .int .i64 4095, .int .i64 3, .int .i64 (lowZ f d), .int .i64 (highZ f d), .int .i64 (borderZ f d)] 3))
  have HR7 := hide (HR5.out.alloc (.cells #[.int .i64 4095, .int .i64 4095, .int .i64 3, .int .i64 (lowZ f d), .int .i64 (highZ f d), .int .i64 (borderZ f d)] 3))
  have HK7 := hide (HK5.out.alloc (.cells #[.int .i64 4095, .int .i64 4095, .int .i64 3, .int .i64 (lowZ f d), .int .i64 (highZ f d), .int .i64 (borderZ f d)] 3))
  have HB7 := hide (HB5.out.alloc HB5.out.size (.cells #[.int .i64 4095, .int .i64 4095, .int .i64 3, .int .i64 (lowZ f d), .int .i64 (highZ f d), .int .i64 (borderZ f d)] 3))
  have HM7 := hide (HasC.new w5 3 #[.int .i64 4095, .int .i64 4095, .int .i64 3, .int .i64 (lowZ f d), .int .i64 (highZ f d), .int .i64 (borderZ f d)])
  obtain ⟨w7, hw7⟩ : ∃ w7, w5.alloc (.cells #[.int .i64 4095, .int .i64 4095, .int .i64 3, .int .i64 (lowZ f d), .int .i64 (highZ f d), .int .i64 (borderZ f d)] 3) = w7 := ⟨_, rfl⟩
  obtain ⟨g7, hg7⟩ : ∃ g7, w5.heap.size = g7 := ⟨_, rfl⟩
  rw [hw7] at HL7 HR7 HK7 HB7 HM7 ⊢
  rw [hg7] at HM7 ⊢
  have HG7 : Hid (g6 < g7) := by unfold Hid; rw [← hg7]; exact HL5.out.lt
  clear hw7 hg7 HLd HRd HKd HBd HL3 HR3 HK3 HB3 HL4 HR4 HK4 HB4 HL5 HR5 HK5 HB5 x3 y3 x4 y4 x5 y5 HR6 HK6 HB6 HL6 x6 y6
  obtain ⟨x7, y7, -, -⟩ := facts2 HK7.out
  obtain ⟨r0, r1, r2, r3⟩ := facts2 HR7.out
  have hl7 : w7.cell? ⟨g6, n, none⟩ = some (.int .i64 (lz f d n)) := HL7.out.cell n (lz_at f d n h5)
  have hm7 : w7.cell? ⟨g7, n, none⟩ = some (.int .i64 (mz f d 4095 4095 n)) := HM7.out.cell n (mz_at f d 4095 4095 n h5)
  have hi6 : (n : Int) < 6 := by omega
  rcases hm.1 with rfl | rfl
  · have HR8 := HR7
    have HB8 := HB7
    go_wp2
    go_region
    go_wp2
    obtain ⟨c0, c1, hB⟩ := stored2 HR8.out HB8.out (by omega) (lz 0 d n) (mz 0 d 4095 4095 n)
    refine bodyPost_ret (v := .tuple #[.agg #[.int .i64 (lz 0 d n), .int .i64 (mz 0 d 4095 4095 n)], .bool true]) ?_ rfl ⟨?_, hB.drew⟩
    · simp [results, Tryz.results44, go_sem, c0, c1]
    · rw [inV_at 0 d hm n h5]; rfl
  · have m0 : w7.cell? ⟨g7, 0, none⟩ = some (.int .i64 4095) := HM7.out.cell 0 rfl
    have m1 : w7.cell? ⟨g7, 1, none⟩ = some (.int .i64 4095) := HM7.out.cell 1 rfl
    have m2 := HM7.out.frozen 0
    have m3 := HM7.out.frozen 1
    clear hl7 hm7
    go_wp2
    have hne : w.heap.size + 1 ≠ g7 := by have h1 := HG6.out; have h2 := HG7.out; omega
    have HM8 := hide ((HM7.out.set 0 (.int .i64 1048575)).set 1 (.int .i64 0))
    have HL8 := hide ((HL7.out.other (p := ⟨g7, 0, none⟩) (by have := HG7.out; simp; omega) (.int .i64 1048575)).other (p := ⟨g7, 1, none⟩) (by have := HG7.out; simp; omega) (.int .i64 0))
    have HR8 := hide ((HR7.out.other (p := ⟨g7, 0, none⟩) hne (.int .i64 1048575)).other (p := ⟨g7, 1, none⟩) hne (.int .i64 0))
    have HB8 := hide ((HB7.out.setCell (p := ⟨g7, 0, none⟩) (by have h1 := HG6.out; have h2 := HG7.out; simp; omega) (.int .i64 1048575)).setCell (p := ⟨g7, 1, none⟩) (by have h1 := HG6.out; have h2 := HG7.out; simp; omega) (.int .i64 0))
    clear m0 m1 m2 m3 r0 r1 r2 r3 y7
    obtain ⟨w8, hw8⟩ : ∃ w8, (w7.setCell ⟨g7, 0, none⟩ (.int .i64 1048575)).setCell ⟨g7, 1, none⟩ (.int .i64 0) = w8 := ⟨_, rfl⟩
    rw [hw8] at HM8 HL8 HR8 HB8 ⊢
    clear hw8
    have hl8 : w8.cell? ⟨g6, n, none⟩ = some (.int .i64 (lz 1 d n)) := HL8.out.cell n (lz_at 1 d n h5)
    have hm8 : w8.cell? ⟨g7, n, none⟩ = some (.int .i64 (mz 1 d 1048575 0 n)) := HM8.out.cell n (mz_at 1 d 1048575 0 n h5)
    obtain ⟨r0, r1, r2, r3⟩ := facts2 HR8.out
    go_region
    go_wp2
    obtain ⟨c0, c1, hB⟩ := stored2 HR8.out HB8.out (by omega) (lz 1 d n) (mz 1 d 1048575 0 n)
    refine bodyPost_ret (v := .tuple #[.agg #[.int .i64 (lz 1 d n), .int .i64 (mz 1 d 1048575 0 n)], .bool true]) ?_ rfl ⟨?_, hB.drew⟩
    · simp [results, Tryz.results44, go_sem, c0, c1]
    · rw [inV_at 1 d hm n h5]; rfl

set_option maxRecDepth 100000 in
set_option maxHeartbeats 1000000 in
theorem rinput_bad (f d n : Int) (hm : ¬ May f d) (w : World) :
    Calls Tryz.prog 44 #[.agg #[.int .i64 f, .int .i64 d], .int .i64 n] w fun e w' => e = .returned (.tuple #[.agg #[.int .i64 0, .int .i64 0], .bool false]) ∧ Below w.heap.size w w' := by
  have HB1 := hide ((bel1 w (.cells #[.int .i64 f, .int .i64 d] 23)).alloc (by simp) (.cells #[.int .i64 0, .int .i64 0] 64))
  have hR : HasC ((w.alloc (.cells #[.int .i64 f, .int .i64 d] 23)).alloc (.cells #[.int .i64 0, .int .i64 0] 64)) (w.heap.size + 1) 64 #[.int .i64 0, .int .i64 0] := by
    have := HasC.new (w.alloc (.cells #[.int .i64 f, .int .i64 d] 23)) 64 #[.int .i64 0, .int .i64 0]
    rwa [World.size_alloc] at this
  have HR1 := hide hR
  clear hR
  go_enter Tryz.func44, Tryz.ntmps44
  go_wp2_with (go_at_call 38; refine (rmay_bad _ _ _ hm).mono ?_; rintro e w2 ⟨rfl, hb2⟩; have HR2 := hide (HR1.out.below hb2); have HB2 := hide (bel HB1.out hb2); clear hb2; obtain ⟨s2, t2, u2, v2⟩ := facts2 HR2.out)
  obtain ⟨c0, c1, hB⟩ := stored2 HR2.out HB2.out (by omega) 0 0
  exact bodyPost_ret (v := .tuple #[.agg #[.int .i64 0, .int .i64 0], .bool false]) (by simp [results, Tryz.results44, go_sem, c0, c1]) rfl ⟨rfl, hB⟩

set_option maxRecDepth 100000 in
set_option maxHeartbeats 1000000 in
theorem rinput_neg (f d n : Int) (hm : May f d) (h : n < 0) (w : World) :
    Calls Tryz.prog 44 #[.agg #[.int .i64 f, .int .i64 d], .int .i64 n] w fun e w' => e = .returned (.tuple #[.agg #[.int .i64 0, .int .i64 0], .bool false]) ∧ Below w.heap.size w w' := by
  have HB1 := hide ((bel1 w (.cells #[.int .i64 f, .int .i64 d] 23)).alloc (by simp) (.cells #[.int .i64 0, .int .i64 0] 64))
  have hR : HasC ((w.alloc (.cells #[.int .i64 f, .int .i64 d] 23)).alloc (.cells #[.int .i64 0, .int .i64 0] 64)) (w.heap.size + 1) 64 #[.int .i64 0, .int .i64 0] := by
    have := HasC.new (w.alloc (.cells #[.int .i64 f, .int .i64 d] 23)) 64 #[.int .i64 0, .int .i64 0]
    rwa [World.size_alloc] at this
  have HR1 := hide hR
  clear hR
  go_enter Tryz.func44, Tryz.ntmps44
  go_wp2_with (go_at_call 38; refine (rmay_ok _ _ _ hm).mono ?_; rintro e w2 ⟨rfl, hb2⟩; have HR2 := hide (HR1.out.below hb2); have HB2 := hide (bel HB1.out hb2); clear hb2; obtain ⟨s2, t2, u2, v2⟩ := facts2 HR2.out)
  obtain ⟨c0, c1, hB⟩ := stored2 HR2.out HB2.out (by omega) 0 0
  exact bodyPost_ret (v := .tuple #[.agg #[.int .i64 0, .int .i64 0], .bool false]) (by simp [results, Tryz.results44, go_sem, c0, c1]) rfl ⟨rfl, hB⟩

set_option maxRecDepth 100000 in
set_option maxHeartbeats 1000000 in
theorem rinput_big (f d n : Int) (hm : May f d) (h : 5 < n) (w : World) :
    Calls Tryz.prog 44 #[.agg #[.int .i64 f, .int .i64 d], .int .i64 n] w fun e w' => e = .returned (.tuple #[.agg #[.int .i64 0, .int .i64 0], .bool false]) ∧ Below w.heap.size w w' := by
  have HB1 := hide ((bel1 w (.cells #[.int .i64 f, .int .i64 d] 23)).alloc (by simp) (.cells #[.int .i64 0, .int .i64 0] 64))
  have hR : HasC ((w.alloc (.cells #[.int .i64 f, .int .i64 d] 23)).alloc (.cells #[.int .i64 0, .int .i64 0] 64)) (w.heap.size + 1) 64 #[.int .i64 0, .int .i64 0] := by
    have := HasC.new (w.alloc (.cells #[.int .i64 f, .int .i64 d] 23)) 64 #[.int .i64 0, .int .i64 0]
    rwa [World.size_alloc] at this
  have HR1 := hide hR
  clear hR
  have h0 : ¬ n < 0 := by omega
  have h0' : decide (n < 0) = false := by simp; omega
  go_enter Tryz.func44, Tryz.ntmps44
  go_wp2_with (go_at_call 38; refine (rmay_ok _ _ _ hm).mono ?_; rintro e w2 ⟨rfl, hb2⟩; have HR2 := hide (HR1.out.below hb2); have HB2 := hide (bel HB1.out hb2); clear hb2; obtain ⟨s2, t2, u2, v2⟩ := facts2 HR2.out)
  obtain ⟨c0, c1, hB⟩ := stored2 HR2.out HB2.out (by omega) 0 0
  exact bodyPost_ret (v := .tuple #[.agg #[.int .i64 0, .int .i64 0], .bool false]) (by simp [results, Tryz.results44, go_sem, c0, c1]) rfl ⟨rfl, hB⟩

theorem rinput_any (f d n : Int) (w : World) :
    Calls Tryz.prog 44 #[.agg #[.int .i64 f, .int .i64 d], .int .i64 n] w fun e w' => e = .returned (inV f d n) ∧ Below w.heap.size w w' := by
  by_cases hm : May f d
  · by_cases h0 : n < 0
    · have e : inV f d n = .tuple #[.agg #[.int .i64 0, .int .i64 0], .bool false] := by
        have e1 : n ≠ 0 := by omega
        have e2 : n ≠ 1 := by omega
        have e3 : n ≠ 2 := by omega
        have e4 : n ≠ 3 := by omega
        have e5 : n ≠ 4 := by omega
        have e6 : n ≠ 5 := by omega
        simp [inV, inZ, hm, e1, e2, e3, e4, e5, e6]
      rw [e]; exact rinput_neg f d n hm h0 w
    · by_cases h5 : 5 < n
      · have e : inV f d n = .tuple #[.agg #[.int .i64 0, .int .i64 0], .bool false] := by
          have e1 : n ≠ 0 := by omega
          have e2 : n ≠ 1 := by omega
          have e3 : n ≠ 2 := by omega
          have e4 : n ≠ 3 := by omega
          have e5 : n ≠ 4 := by omega
          have e6 : n ≠ 5 := by omega
          simp [inV, inZ, hm, e1, e2, e3, e4, e5, e6]
        rw [e]; exact rinput_big f d n hm h5 w
      · obtain ⟨k, rfl⟩ : ∃ k : Nat, n = (k : Int) := ⟨n.toNat, by omega⟩
        exact rinput_ok f d k hm (by omega) w
  · have e : inV f d n = .tuple #[.agg #[.int .i64 0, .int .i64 0], .bool false] := by simp [inV, inZ, hm]
    rw [e]; exact rinput_bad f d n hm w

end Go.Proofs.YtbingoelpeoimaaGreat.Knd

/-
  The walk of the document's own Input.
-/
import Derived.Test.YtihbhbeaihdgnaaGreatRGA
import Derived.Test.YtihbhbeaihdgnaaGreatRGB
import Derived.Deep.RegionHeld3
import Derived.Deep.RegionWith
import Derived.Deep.QuietTactic
import Derived.BigQuiet
import Derived.OwnWalk
import Derived.Maps.AppendAt
namespace Go.Proofs.YtihbhbeaihdgnaaGreat.Knd
open Go.RowKit
set_option linter.unusedVariables false

def lz (f d : Int) : Nat → Int
  | 0 => 0 | 1 => 0 | 2 => 0 | 3 => lowZ f d | 4 => highZ f d | _ => borderZ f d
def mz (f d x y : Int) : Nat → Int
  | 0 => x | 1 => y | 2 => 3 | 3 => lowZ f d | 4 => highZ f d | _ => borderZ f d

theorem upto5 (k : Nat) (h : k ≤ 5) : k = 0 ∨ k = 1 ∨ k = 2 ∨ k = 3 ∨ k = 4 ∨ k = 5 := by omega
theorem lz_at (f d : Int) (k : Nat) (h : k ≤ 5) : (#[Value.int .i64 0, .int .i64 0, .int .i64 0, .int .i64 (lowZ f d), .int .i64 (highZ f d), .int .i64 (borderZ f d)])[k]? = some (.int .i64 (lz f d k)) := by
  rcases upto5 k h with rfl | rfl | rfl | rfl | rfl | rfl <;> rfl
theorem mz_at (f d x y : Int) (k : Nat) (h : k ≤ 5) : (#[Value.int .i64 x, .int .i64 y, .int .i64 3, .int .i64 (lowZ f d), .int .i64 (highZ f d), .int .i64 (borderZ f d)])[k]? = some (.int .i64 (mz f d x y k)) := by
  rcases upto5 k h with rfl | rfl | rfl | rfl | rfl | rfl <;> rfl
theorem inV_at (f d : Int) (hm : May f d) (k : Nat) (h : k ≤ 5) : inV f d (k : Int) = .tuple #[.agg #[.int .i64 (lz f d k), .int .i64 (mz f d (colZ f - 1) (rowZ f - 1) k)], .bool true] := by
  rcases upto5 k h with rfl | rfl | rfl | rfl | rfl | rfl <;> simp [inV, inZ, hm, lz, mz]

set_option maxRecDepth 100000 in
set_option maxHeartbeats 4000000 in
theorem rinput_ok (f d : Int) (n : Nat) (hm : May f d) (h5 : n ≤ 5) (w : World) :
    Calls Tryz.prog 47 #[.agg #[.int .i64 f, .int .i64 d], .int .i64 (n : Int)] w fun e w' => e = .returned (inV f d (n : Int)) ∧ Below w.heap.size w w' := by
  have hq1 : ¬ ((n : Int) < 0) := by omega
  have hq2 : ¬ (5 < (n : Int)) := by omega
  have HB1 := hide ((bel1 w (.cells #[.int .i64 f, .int .i64 d] 23)).alloc (by simp) (.cells #[.int .i64 0, .int .i64 0] 74))
  have hR : HasC ((w.alloc (.cells #[.int .i64 f, .int .i64 d] 23)).alloc (.cells #[.int .i64 0, .int .i64 0] 74)) (w.heap.size + 1) 74 #[.int .i64 0, .int .i64 0] := by
    have := HasC.new (w.alloc (.cells #[.int .i64 f, .int .i64 d] 23)) 74 #[.int .i64 0, .int .i64 0]
    rwa [World.size_alloc] at this
  have HR1 := hide hR
  have HK1 := hide ((HasC.new w 23 #[.int .i64 f, .int .i64 d]).alloc (.cells #[.int .i64 0, .int .i64 0] 74))
  clear hR
  go_enter Tryz.func47, Tryz.ntmps47
  go_wp2_with (go_at_call 45; refine (rmay_ok _ _ _ hm).mono ?_; rintro e w2 ⟨rfl, hb2⟩; have HR2 := hide (HR1.out.below hb2); have HK2 := hide (HK1.out.below hb2); have HB2 := hide (bel HB1.out hb2); clear hb2; obtain ⟨s2, t2, u2, v2⟩ := facts2 HR2.out; obtain ⟨x2, y2, -, -⟩ := facts2 HK2.out)
  clear HB1 HR1 HK1
  have HRd : Hid (HasC w2.drew (w.heap.size + 1) 74 #[.int .i64 0, .int .i64 0]) := HR2.out
  have HKd : Hid (HasC w2.drew w.heap.size 23 #[.int .i64 f, .int .i64 d]) := HK2.out
  have HBd := hide HB2.out.drew
  go_region_held3 (fun w' => w'.cell? ⟨w.heap.size, 0, none⟩ = some (.int .i64 f) ∧ w'.cell? ⟨w.heap.size, 1, none⟩ = some (.int .i64 d))
    (first | exact ⟨x3, y3⟩ | exact ⟨x4, y4⟩ | exact ⟨x5, y5⟩ | exact ⟨(HK5.out.alloc _).cell 0 rfl, (HK5.out.alloc _).cell 1 rfl⟩ | (simp [go_sem, x2, y2]; done))
    (first
      | (go_at_call 48; refine (rlow_any f d _).mono ?_; rintro e w3 ⟨rfl, hb3⟩; have HR3 := hide (HRd.out.below hb3); have HK3 := hide (HKd.out.below hb3); have HB3 := hide (bel HBd.out hb3); clear hb3; obtain ⟨x3, y3, -, -⟩ := facts2 HK3.out)
      | (go_at_call 49; refine (rhigh_any f d _).mono ?_; rintro e w4 ⟨rfl, hb4⟩; have HR4 := hide (HR3.out.below hb4); have HK4 := hide (HK3.out.below hb4); have HB4 := hide (bel HB3.out hb4); clear hb4; obtain ⟨x4, y4, -, -⟩ := facts2 HK4.out)
      | (go_at_call 89; refine (rborder_any f d _).mono ?_; rintro e w5 ⟨rfl, hb5⟩; have HR5 := hide (HR4.out.below hb5); have HK5 := hide (HK4.out.below hb5); have HB5 := hide (bel HB4.out hb5); clear hb5; obtain ⟨x5, y5, -, -⟩ := facts2 HK5.out))
  have HR6 := hide (HR5.out.alloc (.cells #[.int .i64 0, .int .i64 0, .int .i64 0, .int .i64 (lowZ f d), .int .i64 (highZ f d), .int .i64 (borderZ f d)] 3))
  have HK6 := hide (HK5.out.alloc (.cells #[.int .i64 0, .int .i64 0, .int .i64 0, .int .i64 (lowZ f d), .int .i64 (highZ f d), .int .i64 (borderZ f d)] 3))
  have HB6 := hide (HB5.out.alloc HB5.out.size (.cells #[.int .i64 0, .int .i64 0, .int .i64 0, .int .i64 (lowZ f d), .int .i64 (highZ f d), .int .i64 (borderZ f d)] 3))
  have HL6 := hide (HasC.new w5 3 #[.int .i64 0, .int .i64 0, .int .i64 0, .int .i64 (lowZ f d), .int .i64 (highZ f d), .int .i64 (borderZ f d)])
  obtain ⟨w6, hw6⟩ : ∃ w6, w5.alloc (.cells #[.int .i64 0, .int .i64 0, .int .i64 0, .int .i64 (lowZ f d), .int .i64 (highZ f d), .int .i64 (borderZ f d)] 3) = w6 := ⟨_, rfl⟩
  obtain ⟨g6, hg6⟩ : ∃ g6, w5.heap.size = g6 := ⟨_, rfl⟩
  rw [hw6] at HR6 HK6 HB6 HL6 ⊢
  rw [hg6] at HL6 ⊢
  have HG6 : Hid (w.heap.size + 1 < g6) := by unfold Hid; rw [← hg6]; exact HR5.out.lt
  clear hw6 hg6 HRd HKd HBd HR2 HK2 HB2 HR3 HK3 HB3 HR4 HK4 HB4 HR5 HK5 HB5 s2 t2 u2 v2 x2 y2 x3 y3 x4 y4 x5 y5
  obtain ⟨x6, y6, -, -⟩ := facts2 HK6.out
  go_wp2
  have HLd : Hid (HasC w6.drew g6 3 #[.int .i64 0, .int .i64 0, .int .i64 0, .int .i64 (lowZ f d), .int .i64 (highZ f d), .int .i64 (borderZ f d)]) := HL6.out
  have HRd : Hid (HasC w6.drew (w.heap.size + 1) 74 #[.int .i64 0, .int .i64 0]) := HR6.out
  have HKd : Hid (HasC w6.drew w.heap.size 23 #[.int .i64 f, .int .i64 d]) := HK6.out
  have HBd := hide HB6.out.drew
  go_region_held3 (fun w' => w'.cell? ⟨w.heap.size, 0, none⟩ = some (.int .i64 f) ∧ w'.cell? ⟨w.heap.size, 1, none⟩ = some (.int .i64 d))
    (first | exact ⟨x3, y3⟩ | exact ⟨x4, y4⟩ | exact ⟨x5, y5⟩ | exact ⟨(HK5.out.alloc _).cell 0 rfl, (HK5.out.alloc _).cell 1 rfl⟩ | (simp [go_sem, x6, y6]; done))
    (first
      | (go_at_call 48; refine (rlow_any f d _).mono ?_; rintro e w3 ⟨rfl, hb3⟩; have HL3 := hide (HLd.out.below hb3); have HR3 := hide (HRd.out.below hb3); have HK3 := hide (HKd.out.below hb3); have HB3 := hide (bel HBd.out hb3); clear hb3; obtain ⟨x3, y3, -, -⟩ := facts2 HK3.out)
      | (go_at_call 49; refine (rhigh_any f d _).mono ?_; rintro e w4 ⟨rfl, hb4⟩; have HL4 := hide (HL3.out.below hb4); have HR4 := hide (HR3.out.below hb4); have HK4 := hide (HK3.out.below hb4); have HB4 := hide (bel HB3.out hb4); clear hb4; obtain ⟨x4, y4, -, -⟩ := facts2 HK4.out)
      | (go_at_call 89; refine (rborder_any f d _).mono ?_; rintro e w5 ⟨rfl, hb5⟩; have HL5 := hide (HL4.out.below hb5); have HR5 := hide (HR4.out.below hb5); have HK5 := hide (HK4.out.below hb5); have HB5 := hide (bel HB4.out hb5); clear hb5; obtain ⟨x5, y5, -, -⟩ := facts2 HK5.out))
  have HL7 := hide (HL5.out.alloc (.cells #[.int .i64 4095, .int .i64 4095, .int .i64 3, .int .i64 (lowZ f d), .int .i64 (highZ f d), .int .i64 (borderZ f d)] 3))
  have HR7 := hide (HR5.out.alloc (.cells #[.int .i64 4095, .int .i64 4095, .int .i64 3, .int .i64 (lowZ f d), .int .i64 (highZ f d), .int .i64 (borderZ f d)] 3))
  have HK7 := hide (HK5.out.alloc (.cells #[.int .i64 4095, .int .i64 4095, .int .i64 3, .int .i64 (lowZ f d), .int .i64 (highZ f d), .int .i64 (borderZ f d)] 3))
  have HB7 := hide (HB5.out.alloc HB5.out.size (.cells #[.int .i64 4095, .int .i64 4095, .int .i64 3, .int .i64 (lowZ f d), .int .i64 (highZ f d), .int .i64 (borderZ f d)] 3))
  have HM7 := hide (HasC.new w5 3 #[.int .i64 4095, .int .i64 4095, .int .i64 3, .int .i64 (lowZ f d), .int .i64 (highZ f d), .int .i64 (borderZ f d)])
  obtain ⟨w7, hw7⟩ : ∃ w7, w5.alloc (.cells #[.int .i64 4095, .int .i64 4095, .int .i64 3, .int .i64 (lowZ f d), .int .i64 (highZ f d), .int .i64 (borderZ f d)] 3) = w7 := ⟨_, rfl⟩
  obtain ⟨g7, hg7⟩ : ∃ g7, w5.heap.size = g7 := ⟨_, rfl⟩
  rw [hw7] at HL7 HR7 HK7 HB7 HM7 ⊢
  rw [hg7] at HM7 ⊢
  have HG7 : Hid (g6 < g7) := by unfold Hid; rw [← hg7]; exact HL5.out.lt
  clear hw7 hg7 HLd HRd HKd HBd HL3 HR3 HK3 HB3 HL4 HR4 HK4 HB4 HL5 HR5 HK5 HB5 x3 y3 x4 y4 x5 y5 HR6 HK6 HB6 HL6 x6 y6
  obtain ⟨x7, y7, -, -⟩ := facts2 HK7.out
  obtain ⟨r0, r1, r2, r3⟩ := facts2 HR7.out
  have hl7 : w7.cell? ⟨g6, n, none⟩ = some (.int .i64 (lz f d n)) := HL7.out.cell n (lz_at f d n h5)
  have hm7 : w7.cell? ⟨g7, n, none⟩ = some (.int .i64 (mz f d 4095 4095 n)) := HM7.out.cell n (mz_at f d 4095 4095 n h5)
  have hi6 : (n : Int) < 6 := by omega
  rcases hm.1 with rfl | rfl
  · have HR8 := HR7
    have HB8 := HB7
    go_wp2
    go_region
    go_wp2
    obtain ⟨c0, c1, hB⟩ := stored2 HR8.out HB8.out (by omega) (lz 0 d n) (mz 0 d 4095 4095 n)
    refine bodyPost_ret (v := .tuple #[.agg #[.int .i64 (lz 0 d n), .int .i64 (mz 0 d 4095 4095 n)], .bool true]) ?_ rfl ⟨?_, hB.drew⟩
    · simp [results, Tryz.results47, go_sem, c0, c1]
    · rw [inV_at 0 d hm n h5]; rfl
  · have m0 : w7.cell? ⟨g7, 0, none⟩ = some (.int .i64 4095) := HM7.out.cell 0 rfl
    have m1 : w7.cell? ⟨g7, 1, none⟩ = some (.int .i64 4095) := HM7.out.cell 1 rfl
    have m2 := HM7.out.frozen 0
    have m3 := HM7.out.frozen 1
    clear hl7 hm7
    go_wp2
    have hne : w.heap.size + 1 ≠ g7 := by have h1 := HG6.out; have h2 := HG7.out; omega
    have HM8 := hide ((HM7.out.set 0 (.int .i64 1048575)).set 1 (.int .i64 0))
    have HL8 := hide ((HL7.out.other (p := ⟨g7, 0, none⟩) (by have := HG7.out; simp; omega) (.int .i64 1048575)).other (p := ⟨g7, 1, none⟩) (by have := HG7.out; simp; omega) (.int .i64 0))
    have HR8 := hide ((HR7.out.other (p := ⟨g7, 0, none⟩) hne (.int .i64 1048575)).other (p := ⟨g7, 1, none⟩) hne (.int .i64 0))
    have HB8 := hide ((HB7.out.setCell (p := ⟨g7, 0, none⟩) (by have h1 := HG6.out; have h2 := HG7.out; simp; omega) (.int .i64 1048575)).setCell (p := ⟨g7, 1, none⟩) (by have h1 := HG6.out; have h2 := HG7.out; simp; omega) (.int .i64 0))
    clear m0 m1 m2 m3 r0 r1 r2 r3 y7
    obtain ⟨w8, hw8⟩ : ∃ w8, (w7.setCell ⟨g7, 0, none⟩ (.int .i64 1048575)).setCell ⟨g7, 1, none⟩ (.int .i64 0) = w8 := ⟨_, rfl⟩
    rw [hw8] at HM8 HL8 HR8 HB8 ⊢
    clear hw8
    have hl8 : w8.cell? ⟨g6, n, none⟩ = some (.int .i64 (lz 1 d n)) := HL8.out.cell n (lz_at 1 d n h5)
    have hm8 : w8.cell? ⟨g7, n, none⟩ = some (.int .i64 (mz 1 d 1048575 0 n)) := HM8.out.cell n (mz_at 1 d 1048575 0 n h5)
    obtain ⟨r0, r1, r2, r3⟩ := facts2 HR8.out
    go_region
    go_wp2
    obtain ⟨c0, c1, hB⟩ := stored2 HR8.out HB8.out (by omega) (lz 1 d n) (mz 1 d 1048575 0 n)
    refine bodyPost_ret (v := .tuple #[.agg #[.int .i64 (lz 1 d n), .int .i64 (mz 1 d 1048575 0 n)], .bool true]) ?_ rfl ⟨?_, hB.drew⟩
    · simp [results, Tryz.results47, go_sem, c0, c1]
    · rw [inV_at 1 d hm n h5]; rfl

set_option maxRecDepth 100000 in
set_option maxHeartbeats 1000000 in
theorem rinput_bad (f d n : Int) (hm : ¬ May f d) (w : World) :
    Calls Tryz.prog 47 #[.agg #[.int .i64 f, .int .i64 d], .int .i64 n] w fun e w' => e = .returned (.tuple #[.agg #[.int .i64 0, .int .i64 0], .bool false]) ∧ Below w.heap.size w w' := by
  have HB1 := hide ((bel1 w (.cells #[.int .i64 f, .int .i64 d] 23)).alloc (by simp) (.cells #[.int .i64 0, .int .i64 0] 74))
  have hR : HasC ((w.alloc (.cells #[.int .i64 f, .int .i64 d] 23)).alloc (.cells #[.int .i64 0, .int .i64 0] 74)) (w.heap.size + 1) 74 #[.int .i64 0, .int .i64 0] := by
    have := HasC.new (w.alloc (.cells #[.int .i64 f, .int .i64 d] 23)) 74 #[.int .i64 0, .int .i64 0]
    rwa [World.size_alloc] at this
  have HR1 := hide hR
  clear hR
  go_enter Tryz.func47, Tryz.ntmps47
  go_wp2_with (go_at_call 45; refine (rmay_bad _ _ _ hm).mono ?_; rintro e w2 ⟨rfl, hb2⟩; have HR2 := hide (HR1.out.below hb2); have HB2 := hide (bel HB1.out hb2); clear hb2; obtain ⟨s2, t2, u2, v2⟩ := facts2 HR2.out)
  obtain ⟨c0, c1, hB⟩ := stored2 HR2.out HB2.out (by omega) 0 0
  exact bodyPost_ret (v := .tuple #[.agg #[.int .i64 0, .int .i64 0], .bool false]) (by simp [results, Tryz.results47, go_sem, c0, c1]) rfl ⟨rfl, hB⟩

set_option maxRecDepth 100000 in
set_option maxHeartbeats 1000000 in
theorem rinput_neg (f d n : Int) (hm : May f d) (h : n < 0) (w : World) :
    Calls Tryz.prog 47 #[.agg #[.int .i64 f, .int .i64 d], .int .i64 n] w fun e w' => e = .returned (.tuple #[.agg #[.int .i64 0, .int .i64 0], .bool false]) ∧ Below w.heap.size w w' := by
  have HB1 := hide ((bel1 w (.cells #[.int .i64 f, .int .i64 d] 23)).alloc (by simp) (.cells #[.int .i64 0, .int .i64 0] 74))
  have hR : HasC ((w.alloc (.cells #[.int .i64 f, .int .i64 d] 23)).alloc (.cells #[.int .i64 0, .int .i64 0] 74)) (w.heap.size + 1) 74 #[.int .i64 0, .int .i64 0] := by
    have := HasC.new (w.alloc (.cells #[.int .i64 f, .int .i64 d] 23)) 74 #[.int .i64 0, .int .i64 0]
    rwa [World.size_alloc] at this
  have HR1 := hide hR
  clear hR
  go_enter Tryz.func47, Tryz.ntmps47
  go_wp2_with (go_at_call 45; refine (rmay_ok _ _ _ hm).mono ?_; rintro e w2 ⟨rfl, hb2⟩; have HR2 := hide (HR1.out.below hb2); have HB2 := hide (bel HB1.out hb2); clear hb2; obtain ⟨s2, t2, u2, v2⟩ := facts2 HR2.out)
  obtain ⟨c0, c1, hB⟩ := stored2 HR2.out HB2.out (by omega) 0 0
  exact bodyPost_ret (v := .tuple #[.agg #[.int .i64 0, .int .i64 0], .bool false]) (by simp [results, Tryz.results47, go_sem, c0, c1]) rfl ⟨rfl, hB⟩

set_option maxRecDepth 100000 in
set_option maxHeartbeats 1000000 in
theorem rinput_big (f d n : Int) (hm : May f d) (h : 5 < n) (w : World) :
    Calls Tryz.prog 47 #[.agg #[.int .i64 f, .int .i64 d], .int .i64 n] w fun e w' => e = .returned (.tuple #[.agg #[.int .i64 0, .int .i64 0], .bool false]) ∧ Below w.heap.size w w' := by
  have HB1 := hide ((bel1 w (.cells #[.int .i64 f, .int .i64 d] 23)).alloc (by simp) (.cells #[.int .i64 0, .int .i64 0] 74))
  have hR : HasC ((w.alloc (.cells #[.int .i64 f, .int .i64 d] 23)).alloc (.cells #[.int .i64 0, .int .i64 0] 74)) (w.heap.size + 1) 74 #[.int .i64 0, .int .i64 0] := by
    have := HasC.new (w.alloc (.cells #[.int .i64 f, .int .i64 d] 23)) 74 #[.int .i64 0, .int .i64 0]
    rwa [World.size_alloc] at this
  have HR1 := hide hR
  clear hR
  have h0 : ¬ n < 0 := by omega
  have h0' : decide (n < 0) = false := by simp; omega
  go_enter Tryz.func47, Tryz.ntmps47
  go_wp2_with (go_at_call 45; refine (rmay_ok _ _ _ hm).mono ?_; rintro e w2 ⟨rfl, hb2⟩; have HR2 := hide (HR1.out.below hb2); have HB2 := hide (bel HB1.out hb2); clear hb2; obtain ⟨s2, t2, u2, v2⟩ := facts2 HR2.out)
  obtain ⟨c0, c1, hB⟩ := stored2 HR2.out HB2.out (by omega) 0 0
  exact bodyPost_ret (v := .tuple #[.agg #[.int .i64 0, .int .i64 0], .bool false]) (by simp [results, Tryz.results47, go_sem, c0, c1]) rfl ⟨rfl, hB⟩

theorem rinput_any (f d n : Int) (w : World) :
    Calls Tryz.prog 47 #[.agg #[.int .i64 f, .int .i64 d], .int .i64 n] w fun e w' => e = .returned (inV f d n) ∧ Below w.heap.size w w' := by
  by_cases hm : May f d
  · by_cases h0 : n < 0
    · have e : inV f d n = .tuple #[.agg #[.int .i64 0, .int .i64 0], .bool false] := by
        have e1 : n ≠ 0 := by omega
        have e2 : n ≠ 1 := by omega
        have e3 : n ≠ 2 := by omega
        have e4 : n ≠ 3 := by omega
        have e5 : n ≠ 4 := by omega
        have e6 : n ≠ 5 := by omega
        simp [inV, inZ, hm, e1, e2, e3, e4, e5, e6]
      rw [e]; exact rinput_neg f d n hm h0 w
    · by_cases h5 : 5 < n
      · have e : inV f d n = .tuple #[.agg #[.int .i64 0, .int .i64 0], .bool false] := by
          have e1 : n ≠ 0 := by omega
          have e2 : n ≠ 1 := by omega
          have e3 : n ≠ 2 := by omega
          have e4 : n ≠ 3 := by omega
          have e5 : n ≠ 4 := by omega
          have e6 : n ≠ 5 := by omega
          simp [inV, inZ, hm, e1, e2, e3, e4, e5, e6]
        rw [e]; exact rinput_big f d n hm h5 w
      · obtain ⟨k, rfl⟩ : ∃ k : Nat, n = (k : Int) := ⟨n.toNat, by omega⟩
        exact rinput_ok f d k hm (by omega) w
  · have e : inV f d n = .tuple #[.agg #[.int .i64 0, .int .i64 0], .bool false] := by simp [inV, inZ, hm]
    rw [e]; exact rinput_bad f d n hm w

end Go.Proofs.YtihbhbeaihdgnaaGreat.Knd

/-
  The walks of the document's own Ints, Roomy and Held: two lists of numbers alike; a list in memory of its own with marks in the room behind it, and whether it is as it was.
-/
namespace Go.Proofs.YtihbhbeaihdgnaaGreat.Knd
open Go.RowKit
set_option linter.unusedVariables false

theorem take_succ_iff {z1 z2 : List Int} {k : Nat} (h1 : k < z1.length) (h2 : k < z2.length) (h : z1.take k = z2.take k) (e : z1.getD k 0 = z2.getD k 0) : z1.take (k + 1) = z2.take (k + 1) := by
  rw [List.take_succ_eq_append_getElem h1, List.take_succ_eq_append_getElem h2, h]
  simp [List.getD, h1, h2] at e
  rw [e]

set_option maxRecDepth 100000 in
set_option maxHeartbeats 800000 in
theorem sameI_any (a1 a2 : Option Addr) (n1 n2 c1 c2 : Nat) (z1 z2 : List Int) (w : World) (h1 : Ints w a1 n1 c1 z1) (h2 : Ints w a2 n2 c2 z2) :
    Calls Tryz.prog 29 #[.slice a1 n1 c1, .slice a2 n2 c2] w fun e w' => e = .returned (.bool (decide (z1 = z2))) ∧ ∃ q, w' = w.drewN q := by
  have hm1 : n1 ≤ 9223372036854775807 := by have := h1.le; have := h1.max; unfold maxLen at this; omega
  have hl1 := h1.len
  have hl2 := h2.len
  have HL1 : Hid (z1.length = n1) := hl1
  have HL2 : Hid (z2.length = n2) := hl2
  by_cases hne : n1 = n2
  · subst hne
    clear hl1 hl2
    go_enter Tryz.func29, Tryz.ntmps29
    go_wp2_with fail
    go_loopw [5] (fun i wr => ∃ k q : Nat, k ≤ n1 ∧ i = .int .i64 k ∧ z1.take k = z2.take k ∧ wr = w.drewN q) (fun i _ => n1 - (intOf i).toNat)
    case atStart => exact ⟨0, 0, Nat.zero_le _, rfl, by simp, rfl⟩
    case round =>
      obtain ⟨k, q, hk, rfl, htk, rfl⟩ := hrel
      have HT : Hid (z1.take k = z2.take k) := htk
      clear htk
      by_cases hlt : k < n1
      · obtain ⟨b1, o1, rfl, _, hc1⟩ := h1.at (by omega)
        obtain ⟨b2, o2, rfl, _, hc2⟩ := h2.at (by omega)
        have g1 := hc1 k hlt
        have g2 := hc2 k hlt
        clear hc1 hc2
        generalize ea : z1.getD k 0 = x at g1
        generalize eb : z2.getD k 0 = y at g2
        have EA : Hid (z1.getD k 0 = x) := ea
        have EB : Hid (z2.getD k 0 = y) := eb
        clear ea eb
        go_wp2_with fail
        go_quiet (fail)
        go_wp2_with fail
        · have hxy : x ≠ y := by simpa using (show (x != y) = true by assumption)
          go_ret
          refine ⟨?_, _, World.drewN_drewN ..⟩
          have hz : ¬ z1 = z2 := fun e => hxy (by rw [← EA.out, ← EB.out, e])
          simp [hz]
        · have hxy : x = y := by simpa using (show (x != y) = false by assumption)
          go_roundw
          case rel => exact ⟨k + 1, _, by omega, by go_num, take_succ_iff (by rw [HL1.out]; exact hlt) (by rw [HL2.out]; exact hlt) HT.out (by rw [EA.out, EB.out, hxy]), rfl⟩
          case measure => simp [intOf]; omega
      · go_wp2_with fail
        go_ret
        refine ⟨?_, _, rfl⟩
        have hz : z1 = z2 := by
          have h := HT.out
          rw [List.take_of_length_le (by rw [HL1.out]; omega), List.take_of_length_le (by rw [HL2.out]; omega)] at h
          exact h
        simp [hz]
  · have hne' : ((n1 : Int) != (n2 : Int)) = true := by simp; omega
    go_enter Tryz.func29, Tryz.ntmps29
    go_wp2_with fail
    go_ret
    refine ⟨?_, 0, rfl⟩
    have hz : ¬ z1 = z2 := fun e => hne (by rw [← HL1.out, ← HL2.out, e])
    simp [hz]

theorem sameI_self (a1 a2 : Option Addr) (n1 n2 c1 c2 : Nat) (z : List Int) (w : World) (h1 : Ints w a1 n1 c1 z) (h2 : Ints w a2 n2 c2 z) :
    Calls Tryz.prog 29 #[.slice a1 n1 c1, .slice a2 n2 c2] w fun e w' => e = .returned (.bool true) ∧ ∃ q, w' = w.drewN q := by
  have h := sameI_any a1 a2 n1 n2 c1 c2 z z w h1 h2
  simpa using h

theorem Ints.take {w : World} {a : Option Addr} {n c : Nat} {zs : List Int} (h : Ints w a n c zs) {k : Nat} (hk : k ≤ n) : Ints w a k c (zs.take k) := by
  have hl := h.len
  refine ⟨by rw [List.length_take]; omega, Nat.le_trans hk h.le, h.max, h.nil, ?_⟩
  by_cases h0 : k = 0
  · exact .inl h0
  · obtain ⟨b, off, ha, _, hc⟩ := h.at (by omega)
    refine .inr ⟨b, off, ha, fun i hi => ?_⟩
    rw [hc i (by omega)]
    simp [List.getD, hi]

def marks : List Int := (List.range 40).map (fun i : Nat => (7000 : Int) + (i : Int))
theorem marks_len : marks.length = 40 := by decide
theorem marks_at : ∀ k, k < 40 → marks.getD k 0 = 7000 + (k : Int) := by decide
theorem marks_succ {k : Nat} (h : k < 40) : marks.take (k + 1) = marks.take k ++ [7000 + (k : Int)] := by
  rw [List.take_succ_eq_append_getElem (by rw [marks_len]; exact h)]
  have := marks_at k h
  simp [List.getD, marks_len, h] at this
  simp [this]

set_option maxRecDepth 100000 in
set_option maxHeartbeats 1000000 in
theorem roomy_any (a : Option Addr) (n c : Nat) (zs : List Int) (w : World) (hb : Ints w a n c zs) (hsum : n ≤ 17592186044000) :
    Calls Tryz.prog 10 #[.slice a n c] w fun e w' => e = .returned (.slice (some ⟨w.heap.size, 0, none⟩) n (n + 40)) ∧
      w'.ownsRow w.heap.size 3 1 (.slice (some ⟨w.heap.size, 0, none⟩) (n + 40) (n + 40)) (n + 40) (i64s (zs ++ marks)) ∧ Below w.heap.size w w' := by
  obtain ⟨i0, hi, hz0, hz1, hz2⟩ := info_parts info3
  have HB : Hid (Ints w a n c zs) := hb
  have HL : Hid (zs.length = n) := hb.len
  have hnone : a = none → n = 0 ∧ c = 0 := fun h => by have h1 := hb.nil h; have h2 := hb.le; omega
  have HNO := hide hnone
  clear hb hnone
  go_enter Tryz.func10, Tryz.ntmps10
  have hnl : (i64s zs).length = n * 1 := by simp [HL.out]
  go_wp2_with (first
    | (at_make; refine wpList_make_own _ rfl _ _ 42 rfl w.heap.size 3 i0 (.int .i64 0) 1 Tryz.underlying42 hi hz0 hz1 .i64 .i64 ((n : Int) + 40) (n + 40) rfl rfl (by omega) (by rw [hz2]; omega) (by unfold maxLen; omega) (Nat.le_refl _) ?_; intro w1 hown hgrow; have HB1 : Hid (Below w.heap.size w w1) := hide ((Below.refl _ _).grown hgrow (Nat.le_refl _) (fun k h => by cases h)); have HNW := hide (HB.out.later HB1.out).news; clear hgrow)
    | (at_builtin; refine wpList_append_fits_any _ rfl _ _ 42 rfl w.heap.size 3 i0 1 Tryz.underlying42 hi hz1 w.heap.size 0 (n + 40) [] rfl hown a n c (i64s zs) rfl hnl HNO.out HNW.out (ints_oneCell _ _) (by omega) ?_; intro w2 hown2 hgrow2))
  have HB2 : Hid (Below w.heap.size w w2) := HB1.out.grown hgrow2 HB1.out.size (fun k h => by cases h; exact Nat.le_refl _)
  have HO2 : Hid (w2.ownsRow w.heap.size 3 1 (.slice (some ⟨w.heap.size, 0, none⟩) n (n + 40)) n (i64s zs)) := hide (by simpa using hown2)
  clear hown hown2 hgrow2 hnl HNW
  go_loopw [3, 4] (fun v i wr => ∃ k : Nat, k ≤ 40 ∧ i = .int .i64 k ∧ v = .slice (some ⟨w.heap.size, 0, none⟩) (n + k) (n + 40) ∧
      wr.ownsRow w.heap.size 3 1 (.slice (some ⟨w.heap.size, 0, none⟩) (n + k) (n + 40)) (n + k) (i64s (zs ++ marks.take k)) ∧ Below w.heap.size w wr)
    (fun _ i _ => 40 - (intOf i).toNat)
  case atStart => exact ⟨0, by omega, rfl, by simp, by simpa using HO2.out, HB2.out⟩
  case round =>
    clear HO2 HB2
    obtain ⟨k, hk, rfl, rfl, hown, hbr⟩ := hrel
    have HO := hide hown
    have HR := hide hbr
    have hsz : w.heap.size ≤ wr.heap.size := hbr.size
    clear hbr
    by_cases hlt : k < 40
    · have HMS := hide (marks_succ hlt)
      have hc1 : ∀ u ∈ [Value.int IntKind.i64 (7000 + (k : Int))], u.oneCell' = true := by intro u hu; simp at hu; subst hu; rfl
      go_wp2_with (at_builtin; refine wpList_append_fits _ rfl _ _ 42 rfl w.heap.size 3 i0 1 Tryz.underlying42 hi hz1 w.heap.size (n + k) (n + 40) (i64s (zs ++ marks.take k)) rfl (HO.out.alloc _) ⟨wr.heap.size, 0, none⟩ 1 1 [.int .i64 (7000 + (k : Int))] rfl rfl (cell_one_new _ _ _) hc1 (by omega) ?_; intro w2 hown2 hgrow2)
      have hb2 : Below w.heap.size w w2 := (HR.out.alloc hsz _).grown hgrow2 (by simp; omega) (fun k h => by cases h; exact Nat.le_refl _)
      have e2 : i64s (zs ++ marks.take k) ++ [Value.int .i64 (7000 + (k : Int))] = i64s (zs ++ marks.take (k + 1)) := by rw [HMS.out]; simp
      rw [e2, Nat.add_assoc] at hown2
      go_roundw
      case rel => exact ⟨k + 1, by omega, by go_num, by rw [Nat.add_assoc], hown2, hb2⟩
      case measure => simp [intOf]; omega
    · obtain rfl : k = 40 := by omega
      have HF : Hid (wr.ownsRow w.heap.size 3 1 (.slice (some ⟨w.heap.size, 0, none⟩) (n + 40) (n + 40)) (n + 40) (i64s (zs ++ marks))) := by
        have h := HO.out
        rw [List.take_of_length_le (by rw [marks_len]; omega)] at h
        exact h
      clear hown HO
      have hc0 : ¬ n + 40 = 0 := by omega
      go_wp2_with fail
      go_ret
      exact ⟨rfl, HF.out, HR.out⟩

set_option maxRecDepth 100000 in
set_option maxHeartbeats 1000000 in
/-- Held, where the list and its room are as they were. -/
theorem held_any (g off n cap : Nat) (a : Option Addr) (c : Nat) (zs : List Int) (w : World) (h1 : Ints w (some ⟨g, off, none⟩) (n + 40) cap (zs ++ marks)) (h2 : Ints w a n c zs) :
    Calls Tryz.prog 13 #[.slice (some ⟨g, off, none⟩) n cap, .slice a n c] w fun e w' => e = .returned (.bool true) ∧ ∃ q, w' = w.drewN q := by
  have hle := h1.le
  have hmx : cap ≤ 9223372036854775807 := by have := h1.max; unfold maxLen at this; omega
  have hl2 := h2.len
  have h1t : Ints w (some ⟨g, off, none⟩) n cap zs := by
    have h := h1.take (k := n) (by omega)
    rw [← hl2, List.take_left] at h
    rw [← hl2]; exact h
  obtain ⟨b', off', e, _, hc⟩ := h1.at (by omega)
  cases e
  have HC : Hid (∀ k, k < 40 → w.cell? ⟨g, off + (n + k), none⟩ = some (.int .i64 (7000 + (k : Int)))) := fun k hk => by
    rw [hc (n + k) (by omega)]
    have e : (zs ++ marks).getD (n + k) 0 = 7000 + (k : Int) := by
      rw [← marks_at k hk]
      simp only [List.getD]
      rw [List.getElem?_append_right (by omega), show n + k - zs.length = k by omega]
    rw [e]
  have H1 := hide h1t
  have H2 := hide h2
  clear h1 h2 h1t hc hl2
  go_enter Tryz.func13, Tryz.ntmps13
  go_wp2_with fail
  refine (sameI_self (some ⟨g, off, none⟩) a n n cap c zs _ H1.out H2.out).mono ?_
  rintro e w1 ⟨rfl, q, rfl⟩
  go_wp2_with fail
  go_loop [6] (fun i => ∃ k : Nat, k ≤ 40 ∧ i = .int .i64 k) (fun i => 40 - (intOf i).toNat)
  case atStart => exact ⟨0, by omega, rfl⟩
  case round =>
    obtain ⟨k, hk, rfl⟩ := hrel
    by_cases hlt : k < 40
    · have g0 := HC.out k hlt
      go_wp2_with fail
      go_round
      case rel => exact ⟨k + 1, by omega, by go_num⟩
      case measure => simp [intOf]; omega
    · go_wp2_with fail
      go_ret
      exact ⟨rfl, q, rfl⟩

end Go.Proofs.YtihbhbeaihdgnaaGreat.Knd

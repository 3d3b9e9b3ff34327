/-
  The walks of kind.Input and what it calls, and of kind.lies.
-/
import Derived.Test.YtihbhbeaihdgnaaMKnA
namespace Go.Proofs.Ytihbhbeaihdgnaa.Knd
open Go.RowKit
set_option linter.unusedVariables false

def colZ (f : Int) : Int := if f = 0 then 4096 else 1048576
def rowZ (f : Int) : Int := if f = 0 then 4096 else 1

set_option maxRecDepth 100000 in
set_option maxHeartbeats 1000000 in
theorem columns_any (f d : Int) (w : World) :
    Calls Try.prog 55 #[.agg #[.int .i64 f, .int .i64 d]] w fun e w' => e = .returned (.int .i64 (colZ f)) ∧ Below w.heap.size w w' := by
  have hb := bel1 w (.cells #[.int .i64 f, .int .i64 d] 23)
  by_cases h : f = 0
  · subst h
    go_enter Try.func55, Try.ntmps55
    go_wp2
    go_ret
    exact ⟨rfl, hb⟩
  · go_enter Try.func55, Try.ntmps55
    go_wp2
    go_ret
    exact ⟨ret_int (by simp [colZ, h]), hb⟩

set_option maxRecDepth 100000 in
set_option maxHeartbeats 1000000 in
theorem rows_any (f d : Int) (w : World) :
    Calls Try.prog 56 #[.agg #[.int .i64 f, .int .i64 d]] w fun e w' => e = .returned (.int .i64 (rowZ f)) ∧ Below w.heap.size w w' := by
  have hb := bel1 w (.cells #[.int .i64 f, .int .i64 d] 23)
  by_cases h : f = 0
  · subst h
    go_enter Try.func56, Try.ntmps56
    go_wp2
    go_ret
    exact ⟨rfl, hb⟩
  · go_enter Try.func56, Try.ntmps56
    go_wp2
    go_ret
    exact ⟨ret_int (by simp [rowZ, h]), hb⟩

set_option maxRecDepth 100000 in
set_option maxHeartbeats 1000000 in
theorem only_any (n : Int) (w : World) :
    Calls Try.prog 57 #[.int .i64 n] w fun e w' => e = .returned (.agg #[.int .i64 n, .int .i64 n]) ∧ Below w.heap.size w w' := by
  go_enter Try.func57, Try.ntmps57
  go_wp2
  exact bodyPost_ret (v := .agg #[.int .i64 n, .int .i64 n]) (by simp [results, Try.results57, go_sem]) rfl ⟨rfl, bel1 _ _⟩

/-- Between what an input lies, if there is one. -/
def inZ (f d n : Int) : Option (Int × Int) :=
  if ¬ May f d then none else
  if n = 0 then some (0, colZ f - 1) else
  if n = 1 then some (0, rowZ f - 1) else
  if n = 2 then some (0, 3) else
  if n = 3 then some (lowZ f d, lowZ f d) else
  if n = 4 then some (highZ f d, highZ f d) else
  if n = 5 then some (borderZ f d, borderZ f d) else none
def inV (f d n : Int) : Value := .tuple #[.agg #[.int .i64 ((inZ f d n).getD (0, 0)).1, .int .i64 ((inZ f d n).getD (0, 0)).2], .bool (inZ f d n).isSome]

theorem facts2 {W : World} {b : Nat} {t : TypeId} {x y : Value} (h : HasC W b t #[x, y]) : W.cell? ⟨b, 0, none⟩ = some x ∧ W.cell? ⟨b, 1, none⟩ = some y ∧ W.frozen? ⟨b, 0, none⟩ = false ∧ W.frozen? ⟨b, 1, none⟩ = false :=
  ⟨h.cell 0 rfl, h.cell 1 rfl, h.frozen 0, h.frozen 1⟩

/-- The end of a walk whose answer lies in a cell of its own: two stores. -/
theorem stored2 {w w2 : World} {b : Nat} (h : HasC w2 b 73 #[.int .i64 0, .int .i64 0]) (hB : Below w.heap.size w w2) (hb : w.heap.size ≤ b) (x y : Int) :
    ((w2.setCell ⟨b, 0, none⟩ (.int .i64 x)).setCell ⟨b, 1, none⟩ (.int .i64 y)).cell? ⟨b, 0, none⟩ = some (.int .i64 x) ∧ ((w2.setCell ⟨b, 0, none⟩ (.int .i64 x)).setCell ⟨b, 1, none⟩ (.int .i64 y)).cell? ⟨b, 1, none⟩ = some (.int .i64 y) ∧
    Below w.heap.size w ((w2.setCell ⟨b, 0, none⟩ (.int .i64 x)).setCell ⟨b, 1, none⟩ (.int .i64 y)) := by
  have h3 := (h.set 0 (.int .i64 x)).set 1 (.int .i64 y)
  exact ⟨h3.cell 0 rfl, h3.cell 1 rfl, (hB.setCell (p := ⟨b, 0, none⟩) hb _).setCell (p := ⟨b, 1, none⟩) hb _⟩

set_option maxRecDepth 100000 in
set_option maxHeartbeats 2000000 in
theorem input_bad (f d n : Int) (hm : ¬ May f d) (w : World) :
    Calls Try.prog 43 #[.agg #[.int .i64 f, .int .i64 d], .int .i64 n] w fun e w' => e = .returned (inV f d n) ∧ Below w.heap.size w w' := by
  have HB1 := hide ((bel1 w (.cells #[.int .i64 f, .int .i64 d] 23)).alloc (by simp) (.cells #[.int .i64 0, .int .i64 0] 73))
  have hR : HasC ((w.alloc (.cells #[.int .i64 f, .int .i64 d] 23)).alloc (.cells #[.int .i64 0, .int .i64 0] 73)) (w.heap.size + 1) 73 #[.int .i64 0, .int .i64 0] := by
    have := HasC.new (w.alloc (.cells #[.int .i64 f, .int .i64 d] 23)) 73 #[.int .i64 0, .int .i64 0]
    rwa [World.size_alloc] at this
  have HR1 := hide hR
  have HK1 := hide ((HasC.new w 23 #[.int .i64 f, .int .i64 d]).alloc (.cells #[.int .i64 0, .int .i64 0] 73))
  clear hR
  have e : inV f d n = .tuple #[.agg #[.int .i64 (0), .int .i64 (0)], .bool false] := by simp [inV, inZ, hm]
  rw [e]
  clear e
  go_enter Try.func43, Try.ntmps43
  go_wp2_with (first
    | (go_at_call 38; refine (check_bad _ _ _ hm).mono ?_; rintro e w2 ⟨rfl, hb2⟩; have HR2 := hide (HR1.out.below hb2); have HK2 := hide (HK1.out.below hb2); have HB2 := hide (bel HB1.out hb2); clear hb2; obtain ⟨s2, t2, u2, v2⟩ := facts2 HR2.out; obtain ⟨x2, y2, -, -⟩ := facts2 HK2.out))
  obtain ⟨c0, c1, hB⟩ := stored2 HR2.out HB2.out (by omega) (0) (0)
  exact bodyPost_ret (v := .tuple #[.agg #[.int .i64 (0), .int .i64 (0)], .bool false]) (by simp [results, Try.results43, go_sem, c0, c1]) rfl ⟨rfl, hB⟩

set_option maxRecDepth 100000 in
set_option maxHeartbeats 2000000 in
theorem input0 (f d : Int) (hm : May f d) (w : World) :
    Calls Try.prog 43 #[.agg #[.int .i64 f, .int .i64 d], .int .i64 0] w fun e w' => e = .returned (inV f d 0) ∧ Below w.heap.size w w' := by
  have HB1 := hide ((bel1 w (.cells #[.int .i64 f, .int .i64 d] 23)).alloc (by simp) (.cells #[.int .i64 0, .int .i64 0] 73))
  have hR : HasC ((w.alloc (.cells #[.int .i64 f, .int .i64 d] 23)).alloc (.cells #[.int .i64 0, .int .i64 0] 73)) (w.heap.size + 1) 73 #[.int .i64 0, .int .i64 0] := by
    have := HasC.new (w.alloc (.cells #[.int .i64 f, .int .i64 d] 23)) 73 #[.int .i64 0, .int .i64 0]
    rwa [World.size_alloc] at this
  have HR1 := hide hR
  have HK1 := hide ((HasC.new w 23 #[.int .i64 f, .int .i64 d]).alloc (.cells #[.int .i64 0, .int .i64 0] 73))
  clear hR
  have e : inV f d 0 = .tuple #[.agg #[.int .i64 (0), .int .i64 (colZ f - 1)], .bool true] := by simp [inV, inZ, hm]
  rw [e]
  clear e
  obtain ⟨p1, p2⟩ : 0 ≤ colZ f ∧ colZ f ≤ 1048576 := by unfold colZ; split <;> omega
  go_enter Try.func43, Try.ntmps43
  go_wp2_with (first
    | (go_at_call 38; refine (check_ok _ _ _ hm).mono ?_; rintro e w2 ⟨rfl, hb2⟩; have HR2 := hide (HR1.out.below hb2); have HK2 := hide (HK1.out.below hb2); have HB2 := hide (bel HB1.out hb2); clear hb2; obtain ⟨s2, t2, u2, v2⟩ := facts2 HR2.out; obtain ⟨x2, y2, -, -⟩ := facts2 HK2.out)
    | (go_at_call 55; refine (columns_any _ _ _).mono ?_; rintro e w3 ⟨rfl, hb3⟩; have HR3 := hide (HR2.out.below hb3); have HK3 := hide (HK2.out.below hb3); have HB3 := hide (bel HB2.out hb3); clear hb3; obtain ⟨s3, t3, u3, v3⟩ := facts2 HR3.out; obtain ⟨x3, y3, -, -⟩ := facts2 HK3.out))
  obtain ⟨c0, c1, hB⟩ := stored2 HR3.out HB3.out (by omega) (0) (colZ f - 1)
  exact bodyPost_ret (v := .tuple #[.agg #[.int .i64 (0), .int .i64 (colZ f - 1)], .bool true]) (by simp [results, Try.results43, go_sem, c0, c1]) rfl ⟨rfl, hB⟩

set_option maxRecDepth 100000 in
set_option maxHeartbeats 2000000 in
theorem input1 (f d : Int) (hm : May f d) (w : World) :
    Calls Try.prog 43 #[.agg #[.int .i64 f, .int .i64 d], .int .i64 1] w fun e w' => e = .returned (inV f d 1) ∧ Below w.heap.size w w' := by
  have HB1 := hide ((bel1 w (.cells #[.int .i64 f, .int .i64 d] 23)).alloc (by simp) (.cells #[.int .i64 0, .int .i64 0] 73))
  have hR : HasC ((w.alloc (.cells #[.int .i64 f, .int .i64 d] 23)).alloc (.cells #[.int .i64 0, .int .i64 0] 73)) (w.heap.size + 1) 73 #[.int .i64 0, .int .i64 0] := by
    have := HasC.new (w.alloc (.cells #[.int .i64 f, .int .i64 d] 23)) 73 #[.int .i64 0, .int .i64 0]
    rwa [World.size_alloc] at this
  have HR1 := hide hR
  have HK1 := hide ((HasC.new w 23 #[.int .i64 f, .int .i64 d]).alloc (.cells #[.int .i64 0, .int .i64 0] 73))
  clear hR
  have e : inV f d 1 = .tuple #[.agg #[.int .i64 (0), .int .i64 (rowZ f - 1)], .bool true] := by simp [inV, inZ, hm]
  rw [e]
  clear e
  obtain ⟨p1, p2⟩ : 0 ≤ rowZ f ∧ rowZ f ≤ 1048576 := by unfold rowZ; split <;> omega
  go_enter Try.func43, Try.ntmps43
  go_wp2_with (first
    | (go_at_call 38; refine (check_ok _ _ _ hm).mono ?_; rintro e w2 ⟨rfl, hb2⟩; have HR2 := hide (HR1.out.below hb2); have HK2 := hide (HK1.out.below hb2); have HB2 := hide (bel HB1.out hb2); clear hb2; obtain ⟨s2, t2, u2, v2⟩ := facts2 HR2.out; obtain ⟨x2, y2, -, -⟩ := facts2 HK2.out)
    | (go_at_call 56; refine (rows_any _ _ _).mono ?_; rintro e w3 ⟨rfl, hb3⟩; have HR3 := hide (HR2.out.below hb3); have HK3 := hide (HK2.out.below hb3); have HB3 := hide (bel HB2.out hb3); clear hb3; obtain ⟨s3, t3, u3, v3⟩ := facts2 HR3.out; obtain ⟨x3, y3, -, -⟩ := facts2 HK3.out))
  obtain ⟨c0, c1, hB⟩ := stored2 HR3.out HB3.out (by omega) (0) (rowZ f - 1)
  exact bodyPost_ret (v := .tuple #[.agg #[.int .i64 (0), .int .i64 (rowZ f - 1)], .bool true]) (by simp [results, Try.results43, go_sem, c0, c1]) rfl ⟨rfl, hB⟩

set_option maxRecDepth 100000 in
set_option maxHeartbeats 2000000 in
theorem input2 (f d : Int) (hm : May f d) (w : World) :
    Calls Try.prog 43 #[.agg #[.int .i64 f, .int .i64 d], .int .i64 2] w fun e w' => e = .returned (inV f d 2) ∧ Below w.heap.size w w' := by
  have HB1 := hide ((bel1 w (.cells #[.int .i64 f, .int .i64 d] 23)).alloc (by simp) (.cells #[.int .i64 0, .int .i64 0] 73))
  have hR : HasC ((w.alloc (.cells #[.int .i64 f, .int .i64 d] 23)).alloc (.cells #[.int .i64 0, .int .i64 0] 73)) (w.heap.size + 1) 73 #[.int .i64 0, .int .i64 0] := by
    have := HasC.new (w.alloc (.cells #[.int .i64 f, .int .i64 d] 23)) 73 #[.int .i64 0, .int .i64 0]
    rwa [World.size_alloc] at this
  have HR1 := hide hR
  have HK1 := hide ((HasC.new w 23 #[.int .i64 f, .int .i64 d]).alloc (.cells #[.int .i64 0, .int .i64 0] 73))
  clear hR
  have e : inV f d 2 = .tuple #[.agg #[.int .i64 (0), .int .i64 (3)], .bool true] := by simp [inV, inZ, hm]
  rw [e]
  clear e
  go_enter Try.func43, Try.ntmps43
  go_wp2_with (first
    | (go_at_call 38; refine (check_ok _ _ _ hm).mono ?_; rintro e w2 ⟨rfl, hb2⟩; have HR2 := hide (HR1.out.below hb2); have HK2 := hide (HK1.out.below hb2); have HB2 := hide (bel HB1.out hb2); clear hb2; obtain ⟨s2, t2, u2, v2⟩ := facts2 HR2.out; obtain ⟨x2, y2, -, -⟩ := facts2 HK2.out))
  obtain ⟨c0, c1, hB⟩ := stored2 HR2.out HB2.out (by omega) (0) (3)
  exact bodyPost_ret (v := .tuple #[.agg #[.int .i64 (0), .int .i64 (3)], .bool true]) (by simp [results, Try.results43, go_sem, c0, c1]) rfl ⟨rfl, hB⟩

set_option maxRecDepth 100000 in
set_option maxHeartbeats 2000000 in
theorem input3 (f d : Int) (hm : May f d) (w : World) :
    Calls Try.prog 43 #[.agg #[.int .i64 f, .int .i64 d], .int .i64 3] w fun e w' => e = .returned (inV f d 3) ∧ Below w.heap.size w w' := by
  have HB1 := hide ((bel1 w (.cells #[.int .i64 f, .int .i64 d] 23)).alloc (by simp) (.cells #[.int .i64 0, .int .i64 0] 73))
  have hR : HasC ((w.alloc (.cells #[.int .i64 f, .int .i64 d] 23)).alloc (.cells #[.int .i64 0, .int .i64 0] 73)) (w.heap.size + 1) 73 #[.int .i64 0, .int .i64 0] := by
    have := HasC.new (w.alloc (.cells #[.int .i64 f, .int .i64 d] 23)) 73 #[.int .i64 0, .int .i64 0]
    rwa [World.size_alloc] at this
  have HR1 := hide hR
  have HK1 := hide ((HasC.new w 23 #[.int .i64 f, .int .i64 d]).alloc (.cells #[.int .i64 0, .int .i64 0] 73))
  clear hR
  have e : inV f d 3 = .tuple #[.agg #[.int .i64 (lowZ f d), .int .i64 (lowZ f d)], .bool true] := by simp [inV, inZ, hm]
  rw [e]
  clear e
  go_enter Try.func43, Try.ntmps43
  go_wp2_with (first
    | (go_at_call 38; refine (check_ok _ _ _ hm).mono ?_; rintro e w2 ⟨rfl, hb2⟩; have HR2 := hide (HR1.out.below hb2); have HK2 := hide (HK1.out.below hb2); have HB2 := hide (bel HB1.out hb2); clear hb2; obtain ⟨s2, t2, u2, v2⟩ := facts2 HR2.out; obtain ⟨x2, y2, -, -⟩ := facts2 HK2.out)
    | (go_at_call 27; refine (low_any _ _ _).mono ?_; rintro e w3 ⟨rfl, hb3⟩; have HR3 := hide (HR2.out.below hb3); have HK3 := hide (HK2.out.below hb3); have HB3 := hide (bel HB2.out hb3); clear hb3; obtain ⟨s3, t3, u3, v3⟩ := facts2 HR3.out; obtain ⟨x3, y3, -, -⟩ := facts2 HK3.out)
    | (go_at_call 57; refine (only_any _ _).mono ?_; rintro e w4 ⟨rfl, hb4⟩; have HR4 := hide (HR3.out.below hb4); have HK4 := hide (HK3.out.below hb4); have HB4 := hide (bel HB3.out hb4); clear hb4; obtain ⟨s4, t4, u4, v4⟩ := facts2 HR4.out; obtain ⟨x4, y4, -, -⟩ := facts2 HK4.out))
  obtain ⟨c0, c1, hB⟩ := stored2 HR4.out HB4.out (by omega) (lowZ f d) (lowZ f d)
  exact bodyPost_ret (v := .tuple #[.agg #[.int .i64 (lowZ f d), .int .i64 (lowZ f d)], .bool true]) (by simp [results, Try.results43, go_sem, c0, c1]) rfl ⟨rfl, hB⟩

set_option maxRecDepth 100000 in
set_option maxHeartbeats 2000000 in
theorem input4 (f d : Int) (hm : May f d) (w : World) :
    Calls Try.prog 43 #[.agg #[.int .i64 f, .int .i64 d], .int .i64 4] w fun e w' => e = .returned (inV f d 4) ∧ Below w.heap.size w w' := by
  have HB1 := hide ((bel1 w (.cells #[.int .i64 f, .int .i64 d] 23)).alloc (by simp) (.cells #[.int .i64 0, .int .i64 0] 73))
  have hR : HasC ((w.alloc (.cells #[.int .i64 f, .int .i64 d] 23)).alloc (.cells #[.int .i64 0, .int .i64 0] 73)) (w.heap.size + 1) 73 #[.int .i64 0, .int .i64 0] := by
    have := HasC.new (w.alloc (.cells #[.int .i64 f, .int .i64 d] 23)) 73 #[.int .i64 0, .int .i64 0]
    rwa [World.size_alloc] at this
  have HR1 := hide hR
  have HK1 := hide ((HasC.new w 23 #[.int .i64 f, .int .i64 d]).alloc (.cells #[.int .i64 0, .int .i64 0] 73))
  clear hR
  have e : inV f d 4 = .tuple #[.agg #[.int .i64 (highZ f d), .int .i64 (highZ f d)], .bool true] := by simp [inV, inZ, hm]
  rw [e]
  clear e
  go_enter Try.func43, Try.ntmps43
  go_wp2_with (first
    | (go_at_call 38; refine (check_ok _ _ _ hm).mono ?_; rintro e w2 ⟨rfl, hb2⟩; have HR2 := hide (HR1.out.below hb2); have HK2 := hide (HK1.out.below hb2); have HB2 := hide (bel HB1.out hb2); clear hb2; obtain ⟨s2, t2, u2, v2⟩ := facts2 HR2.out; obtain ⟨x2, y2, -, -⟩ := facts2 HK2.out)
    | (go_at_call 28; refine (high_any _ _ _).mono ?_; rintro e w3 ⟨rfl, hb3⟩; have HR3 := hide (HR2.out.below hb3); have HK3 := hide (HK2.out.below hb3); have HB3 := hide (bel HB2.out hb3); clear hb3; obtain ⟨s3, t3, u3, v3⟩ := facts2 HR3.out; obtain ⟨x3, y3, -, -⟩ := facts2 HK3.out)
    | (go_at_call 57; refine (only_any _ _).mono ?_; rintro e w4 ⟨rfl, hb4⟩; have HR4 := hide (HR3.out.below hb4); have HK4 := hide (HK3.out.below hb4); have HB4 := hide (bel HB3.out hb4); clear hb4; obtain ⟨s4, t4, u4, v4⟩ := facts2 HR4.out; obtain ⟨x4, y4, -, -⟩ := facts2 HK4.out))
  obtain ⟨c0, c1, hB⟩ := stored2 HR4.out HB4.out (by omega) (highZ f d) (highZ f d)
  exact bodyPost_ret (v := .tuple #[.agg #[.int .i64 (highZ f d), .int .i64 (highZ f d)], .bool true]) (by simp [results, Try.results43, go_sem, c0, c1]) rfl ⟨rfl, hB⟩

set_option maxRecDepth 100000 in
set_option maxHeartbeats 2000000 in
theorem input5 (f d : Int) (hm : May f d) (w : World) :
    Calls Try.prog 43 #[.agg #[.int .i64 f, .int .i64 d], .int .i64 5] w fun e w' => e = .returned (inV f d 5) ∧ Below w.heap.size w w' := by
  have HB1 := hide ((bel1 w (.cells #[.int .i64 f, .int .i64 d] 23)).alloc (by simp) (.cells #[.int .i64 0, .int .i64 0] 73))
  have hR : HasC ((w.alloc (.cells #[.int .i64 f, .int .i64 d] 23)).alloc (.cells #[.int .i64 0, .int .i64 0] 73)) (w.heap.size + 1) 73 #[.int .i64 0, .int .i64 0] := by
    have := HasC.new (w.alloc (.cells #[.int .i64 f, .int .i64 d] 23)) 73 #[.int .i64 0, .int .i64 0]
    rwa [World.size_alloc] at this
  have HR1 := hide hR
  have HK1 := hide ((HasC.new w 23 #[.int .i64 f, .int .i64 d]).alloc (.cells #[.int .i64 0, .int .i64 0] 73))
  clear hR
  have e : inV f d 5 = .tuple #[.agg #[.int .i64 (borderZ f d), .int .i64 (borderZ f d)], .bool true] := by simp [inV, inZ, hm]
  rw [e]
  clear e
  go_enter Try.func43, Try.ntmps43
  go_wp2_with (first
    | (go_at_call 38; refine (check_ok _ _ _ hm).mono ?_; rintro e w2 ⟨rfl, hb2⟩; have HR2 := hide (HR1.out.below hb2); have HK2 := hide (HK1.out.below hb2); have HB2 := hide (bel HB1.out hb2); clear hb2; obtain ⟨s2, t2, u2, v2⟩ := facts2 HR2.out; obtain ⟨x2, y2, -, -⟩ := facts2 HK2.out)
    | (go_at_call 34; refine (border_any _ _ _).mono ?_; rintro e w3 ⟨rfl, hb3⟩; have HR3 := hide (HR2.out.below hb3); have HK3 := hide (HK2.out.below hb3); have HB3 := hide (bel HB2.out hb3); clear hb3; obtain ⟨s3, t3, u3, v3⟩ := facts2 HR3.out; obtain ⟨x3, y3, -, -⟩ := facts2 HK3.out)
    | (go_at_call 57; refine (only_any _ _).mono ?_; rintro e w4 ⟨rfl, hb4⟩; have HR4 := hide (HR3.out.below hb4); have HK4 := hide (HK3.out.below hb4); have HB4 := hide (bel HB3.out hb4); clear hb4; obtain ⟨s4, t4, u4, v4⟩ := facts2 HR4.out; obtain ⟨x4, y4, -, -⟩ := facts2 HK4.out))
  obtain ⟨c0, c1, hB⟩ := stored2 HR4.out HB4.out (by omega) (borderZ f d) (borderZ f d)
  exact bodyPost_ret (v := .tuple #[.agg #[.int .i64 (borderZ f d), .int .i64 (borderZ f d)], .bool true]) (by simp [results, Try.results43, go_sem, c0, c1]) rfl ⟨rfl, hB⟩

set_option maxRecDepth 100000 in
set_option maxHeartbeats 2000000 in
theorem input6 (f d n : Int) (hm : May f d) (h0 : n ≠ 0) (h1 : n ≠ 1) (h2 : n ≠ 2) (h3 : n ≠ 3) (h4 : n ≠ 4) (h5 : n ≠ 5) (w : World) :
    Calls Try.prog 43 #[.agg #[.int .i64 f, .int .i64 d], .int .i64 n] w fun e w' => e = .returned (inV f d n) ∧ Below w.heap.size w w' := by
  have HB1 := hide ((bel1 w (.cells #[.int .i64 f, .int .i64 d] 23)).alloc (by simp) (.cells #[.int .i64 0, .int .i64 0] 73))
  have hR : HasC ((w.alloc (.cells #[.int .i64 f, .int .i64 d] 23)).alloc (.cells #[.int .i64 0, .int .i64 0] 73)) (w.heap.size + 1) 73 #[.int .i64 0, .int .i64 0] := by
    have := HasC.new (w.alloc (.cells #[.int .i64 f, .int .i64 d] 23)) 73 #[.int .i64 0, .int .i64 0]
    rwa [World.size_alloc] at this
  have HR1 := hide hR
  have HK1 := hide ((HasC.new w 23 #[.int .i64 f, .int .i64 d]).alloc (.cells #[.int .i64 0, .int .i64 0] 73))
  clear hR
  have e : inV f d n = .tuple #[.agg #[.int .i64 (0), .int .i64 (0)], .bool false] := by simp [inV, inZ, hm, h0, h1, h2, h3, h4, h5]
  rw [e]
  clear e
  go_enter Try.func43, Try.ntmps43
  go_wp2_with (first
    | (go_at_call 38; refine (check_ok _ _ _ hm).mono ?_; rintro e w2 ⟨rfl, hb2⟩; have HR2 := hide (HR1.out.below hb2); have HK2 := hide (HK1.out.below hb2); have HB2 := hide (bel HB1.out hb2); clear hb2; obtain ⟨s2, t2, u2, v2⟩ := facts2 HR2.out; obtain ⟨x2, y2, -, -⟩ := facts2 HK2.out))
  obtain ⟨c0, c1, hB⟩ := stored2 HR2.out HB2.out (by omega) (0) (0)
  exact bodyPost_ret (v := .tuple #[.agg #[.int .i64 (0), .int .i64 (0)], .bool false]) (by simp [results, Try.results43, go_sem, c0, c1]) rfl ⟨rfl, hB⟩

theorem input_any (f d n : Int) (w : World) :
    Calls Try.prog 43 #[.agg #[.int .i64 f, .int .i64 d], .int .i64 n] w fun e w' => e = .returned (inV f d n) ∧ Below w.heap.size w w' := by
  by_cases hm : May f d
  · by_cases h0 : n = 0
    · subst h0; exact input0 f d hm w
    by_cases h1 : n = 1
    · subst h1; exact input1 f d hm w
    by_cases h2 : n = 2
    · subst h2; exact input2 f d hm w
    by_cases h3 : n = 3
    · subst h3; exact input3 f d hm w
    by_cases h4 : n = 4
    · subst h4; exact input4 f d hm w
    by_cases h5 : n = 5
    · subst h5; exact input5 f d hm w
    exact input6 f d n hm h0 h1 h2 h3 h4 h5 w
  · exact input_bad f d n hm w

end Go.Proofs.Ytihbhbeaihdgnaa.Knd

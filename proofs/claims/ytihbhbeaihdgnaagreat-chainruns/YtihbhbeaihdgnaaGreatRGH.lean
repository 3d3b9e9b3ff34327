/-
  The functions of package span that reckon without asking for a value: ofTwo, chosen.
-/
import Derived.Test.YtihbhbeaihdgnaaGreatRGG
import Derived.StillTail
import Derived.Lib.QuietBelow
namespace Go.Proofs.YtihbhbeaihdgnaaGreat.Spn
open Go.RowKit Go.IntWalk Go.Sort
set_option linter.unusedVariables false

/-- The operators of two numbers whose span is reckoned from the ends. -/
def twoZ (op a b c d : Int) : Int × Int :=
  if op = 8 then (a + c, b + d) else if op = 9 then (a - d, b - c) else if op = 15 then bothZ a b c d else if op = 16 ∨ op = 17 then eithZ op a b c d else if op = 22 then eqZ a b c d else (1 - (eqZ a b c d).2, 1 - (eqZ a b c d).1)

theorem eqZ_01 (a b c d : Int) : 0 ≤ (eqZ a b c d).1 ∧ (eqZ a b c d).1 ≤ 1 ∧ 0 ≤ (eqZ a b c d).2 ∧ (eqZ a b c d).2 ≤ 1 := by
  unfold eqZ
  split
  · simp
  · split <;> simp

set_option maxRecDepth 100000 in
set_option maxHeartbeats 1000000 in
theorem sofTwo_any (op a b c d : Int) (w : World) (ha : W32 a) (hb : W32 b) (hc : W32 c) (hd : W32 d) (ho : op = 8 ∨ op = 9 ∨ op = 15 ∨ op = 16 ∨ op = 17 ∨ op = 22 ∨ op = 23) :
    Calls Tryz.prog 227 #[.int .i64 op, .agg #[.int .i64 a, .int .i64 b], .agg #[.int .i64 c, .int .i64 d]] w fun e w' => e = .returned (.agg #[.int .i64 (twoZ op a b c d).1, .int .i64 (twoZ op a b c d).2]) ∧ Below w.heap.size w w' := by
  rcases ho with rfl | rfl | rfl | rfl | rfl | rfl | rfl
  · rw [show twoZ 8 a b c d = (a + c, b + d) from rfl]
    go_enter Tryz.func227, Tryz.ntmps227
    go_wp2
    exact bodyPost_ret (v := .agg #[.int .i64 (a + c), .int .i64 (b + d)]) (by simp [results, Tryz.results227, go_sem]) rfl ⟨rfl, bel3 _ _ _ _ _⟩
  · rw [show twoZ 9 a b c d = (a - d, b - c) from rfl]
    go_enter Tryz.func227, Tryz.ntmps227
    go_wp2
    exact bodyPost_ret (v := .agg #[.int .i64 (a - d), .int .i64 (b - c)]) (by simp [results, Tryz.results227, go_sem]) rfl ⟨rfl, bel3 _ _ _ _ _⟩
  · rw [show twoZ 15 a b c d = bothZ a b c d from rfl]
    have HA := fun w => hide (both_any a b c d w ha hb hc hd)
    generalize bothZ a b c d = Z at *
    obtain ⟨x, y⟩ := Z
    go_enter Tryz.func227, Tryz.ntmps227
    go_wp2_with fail
    refine (HA _).out.mono ?_
    rintro e w2 ⟨rfl, hb2⟩
    obtain ⟨-, -, h3, hB⟩ := box2 hb2
    obtain ⟨s1, s2, s3, s4⟩ := facts2 h3
    clear hb2
    go_wp2_with fail
    obtain ⟨c0, c1, hB2⟩ := stored2 h3 hB (by omega) x y
    exact bodyPost_ret (v := .agg #[.int .i64 x, .int .i64 y]) (by simp [results, Tryz.results227, go_sem, c0, c1]) rfl ⟨rfl, hB2⟩
  · rw [show twoZ 16 a b c d = eithZ 16 a b c d from rfl]
    have HA := fun w => hide (either_any 16 a b c d w ha hb hc hd)
    generalize eithZ 16 a b c d = Z at *
    obtain ⟨x, y⟩ := Z
    go_enter Tryz.func227, Tryz.ntmps227
    go_wp2_with fail
    refine (HA _).out.mono ?_
    rintro e w2 ⟨rfl, hb2⟩
    obtain ⟨-, -, h3, hB⟩ := box2 hb2
    obtain ⟨s1, s2, s3, s4⟩ := facts2 h3
    clear hb2
    go_wp2_with fail
    obtain ⟨c0, c1, hB2⟩ := stored2 h3 hB (by omega) x y
    exact bodyPost_ret (v := .agg #[.int .i64 x, .int .i64 y]) (by simp [results, Tryz.results227, go_sem, c0, c1]) rfl ⟨rfl, hB2⟩
  · rw [show twoZ 17 a b c d = eithZ 17 a b c d from rfl]
    have HA := fun w => hide (either_any 17 a b c d w ha hb hc hd)
    generalize eithZ 17 a b c d = Z at *
    obtain ⟨x, y⟩ := Z
    go_enter Tryz.func227, Tryz.ntmps227
    go_wp2_with fail
    refine (HA _).out.mono ?_
    rintro e w2 ⟨rfl, hb2⟩
    obtain ⟨-, -, h3, hB⟩ := box2 hb2
    obtain ⟨s1, s2, s3, s4⟩ := facts2 h3
    clear hb2
    go_wp2_with fail
    obtain ⟨c0, c1, hB2⟩ := stored2 h3 hB (by omega) x y
    exact bodyPost_ret (v := .agg #[.int .i64 x, .int .i64 y]) (by simp [results, Tryz.results227, go_sem, c0, c1]) rfl ⟨rfl, hB2⟩
  · rw [show twoZ 22 a b c d = eqZ a b c d from rfl]
    have HA := fun w => hide (equal_any a b c d w)
    generalize eqZ a b c d = Z at *
    obtain ⟨x, y⟩ := Z
    go_enter Tryz.func227, Tryz.ntmps227
    go_wp2_with fail
    refine (HA _).out.mono ?_
    rintro e w2 ⟨rfl, hb2⟩
    obtain ⟨-, -, h3, hB⟩ := box2 hb2
    obtain ⟨s1, s2, s3, s4⟩ := facts2 h3
    clear hb2
    go_wp2_with fail
    obtain ⟨c0, c1, hB2⟩ := stored2 h3 hB (by omega) x y
    exact bodyPost_ret (v := .agg #[.int .i64 x, .int .i64 y]) (by simp [results, Tryz.results227, go_sem, c0, c1]) rfl ⟨rfl, hB2⟩
  · rw [show twoZ 23 a b c d = (1 - (eqZ a b c d).2, 1 - (eqZ a b c d).1) from rfl]
    have HA := fun w => hide (equal_any a b c d w)
    have h01 := eqZ_01 a b c d
    generalize eqZ a b c d = Z at *
    obtain ⟨x, y⟩ := Z
    simp only at h01
    go_enter Tryz.func227, Tryz.ntmps227
    go_wp2_with fail
    refine (HA _).out.mono ?_
    rintro e w2 ⟨rfl, hb2⟩
    obtain ⟨-, -, h3, hB⟩ := box2 hb2
    have f3 := fun x' y' : Int => facts2 (box3 (x' := x') (y' := y') h3 hB).1
    have s1 := fun x' y' => (f3 x' y').1
    have s2 := fun x' y' => (f3 x' y').2.1
    have s3 := fun x' y' => (f3 x' y').2.2.1
    have s4 := fun x' y' => (f3 x' y').2.2.2
    have H3 := hide fun x' y' : Int => (box3 (x' := x') (y' := y') h3 hB)
    clear f3 h3 hB hb2
    go_wp2_with fail
    obtain ⟨c0, c1, hB2⟩ := stored2 (H3.out _ _).1 (H3.out _ _).2.2 (by omega) (1 - y) (1 - x)
    exact bodyPost_ret (v := .agg #[.int .i64 (1 - y), .int .i64 (1 - x)]) (by simp [results, Tryz.results227, go_sem, c0, c1]) rfl ⟨rfl, hB2⟩

/-- OpSel. -/
def selZ (a b c d e f : Int) : Int × Int := if hasB a b 0 = true then (if a = 0 ∧ b = 0 then (e, f) else (min c e, max d f)) else (c, d)

abbrev cs (x y : Int) : Obj := .cells #[.int .i64 x, .int .i64 y] 74

theorem bel4' (w : World) (a b c d e f x y : Int) : Below w.heap.size w ((((w.alloc (cs a b)).alloc (cs c d)).alloc (cs e f)).alloc (cs x y)) :=
  ((((Below.refl _ _).alloc (Nat.le_refl _) _).alloc (by simp) _).alloc (by simp; omega) _).alloc (by simp; omega) _

theorem box4 {w w2 : World} {a b c d e f x y : Int} (h : Below ((((w.alloc (cs a b)).alloc (cs c d)).alloc (cs e f)).alloc (cs x y)).heap.size ((((w.alloc (cs a b)).alloc (cs c d)).alloc (cs e f)).alloc (cs x y)) w2) :
    HasC w2 w.heap.size 74 #[.int .i64 a, .int .i64 b] ∧ HasC w2 (w.heap.size + 1) 74 #[.int .i64 c, .int .i64 d] ∧ HasC w2 (w.heap.size + 1 + 1) 74 #[.int .i64 e, .int .i64 f] ∧ HasC w2 (w.heap.size + 1 + 1 + 1) 74 #[.int .i64 x, .int .i64 y] ∧ Below w.heap.size w w2 := by
  have h1 := ((((HasC.new w 74 #[.int .i64 a, .int .i64 b]).alloc (cs c d)).alloc (cs e f)).alloc (cs x y)).below h
  have h2 := (((HasC.new (w.alloc (cs a b)) 74 #[.int .i64 c, .int .i64 d]).alloc (cs e f)).alloc (cs x y)).below h
  have h3 := ((HasC.new ((w.alloc (cs a b)).alloc (cs c d)) 74 #[.int .i64 e, .int .i64 f]).alloc (cs x y)).below h
  have h4 := (HasC.new (((w.alloc (cs a b)).alloc (cs c d)).alloc (cs e f)) 74 #[.int .i64 x, .int .i64 y]).below h
  simp only [World.size_alloc] at h2 h3 h4
  exact ⟨h1, h2, h3, h4, bel (bel4' _ _ _ _ _ _ _ _ _) h⟩

set_option maxRecDepth 100000 in
set_option maxHeartbeats 1000000 in
theorem schosen_any (a b c d e f : Int) (w : World) :
    Calls Tryz.prog 228 #[.agg #[.int .i64 a, .int .i64 b], .agg #[.int .i64 c, .int .i64 d], .agg #[.int .i64 e, .int .i64 f]] w fun r w' => r = .returned (.agg #[.int .i64 (selZ a b c d e f).1, .int .i64 (selZ a b c d e f).2]) ∧ Below w.heap.size w w' := by
  have HH := fun w => hide (has_any a b 0 w)
  cases h0 : hasB a b 0
  · rw [show selZ a b c d e f = (c, d) by simp [selZ, h0]]
    rw [h0] at HH
    go_enter Tryz.func228, Tryz.ntmps228
    go_wp2_with fail
    refine (HH _).out.mono ?_
    rintro r w2 ⟨rfl, hb2⟩
    obtain ⟨k1, k2, k3, h3, hB⟩ := box4 hb2
    obtain ⟨q1, q2, -, -⟩ := facts2 k2
    obtain ⟨s1, s2, s3, s4⟩ := facts2 h3
    clear hb2 k1 k3
    go_wp2_with fail
    obtain ⟨c0, c1, hB2⟩ := stored2 h3 hB (by omega) c d
    exact bodyPost_ret (v := .agg #[.int .i64 c, .int .i64 d]) (by simp [results, Tryz.results228, go_sem, c0, c1]) rfl ⟨rfl, hB2⟩
  · rw [h0] at HH
    have HZ : Hid (selZ a b c d e f = if a = 0 ∧ b = 0 then (e, f) else (min c e, max d f)) := hide (by simp [selZ, h0])
    clear h0
    by_cases h1 : a = 0
    · subst h1
      by_cases h2 : b = 0
      · subst h2
        have hz := HZ.out
        rw [if_pos ⟨rfl, rfl⟩] at hz
        rw [hz]
        clear hz HZ
        go_enter Tryz.func228, Tryz.ntmps228
        go_wp2_with fail
        refine (HH _).out.mono ?_
        rintro r W ⟨rfl, hb2⟩
        obtain ⟨k1, k2, k3, h3, hB⟩ := box4 hb2
        clear hb2
        obtain ⟨q1, q2, -, -⟩ := facts2 k1
        go_wp2_with fail
        have m1 := cell_regrown q1
        have m2 := cell_regrown q2
        refine wp_region_quiet_below mixed (by kernel_rfl) ?_
        repeat (go_big_quiet_step ((go_at_call 190; exact Calls.regrown_of (alone_any _ _))))
        refine wpQuiet_nil ?_
        intro _ hw'
        obtain ⟨⟨dq, osq⟩, hw''⟩ := hw'
        subst hw''
        obtain ⟨K2, K3, K4, hB4⟩ := box_rg k2 k3 h3 hB dq osq
        clear k1 k2 k3 h3 hB q1 q2 m1 m2
        simp only
        generalize grow (redrawn W dq) osq = G at *
        obtain ⟨p1, p2, -, -⟩ := facts2 K2
        obtain ⟨q1, q2, -, -⟩ := facts2 K3
        obtain ⟨s1, s2, s3, s4⟩ := facts2 K4
        go_wp2_with fail
        obtain ⟨c0, c1, hB2⟩ := stored2 K4 hB4 (by omega) e f
        exact bodyPost_ret (v := .agg #[.int .i64 e, .int .i64 f]) (by simp [results, Tryz.results228, go_sem, c0, c1]) rfl ⟨rfl, hB2⟩
      · have e1 : (b == 0) = false := by simp [h2]
        have hz := HZ.out
        rw [if_neg (by omega)] at hz
        rw [hz]
        clear hz HZ h2
        go_enter Tryz.func228, Tryz.ntmps228
        go_wp2_with fail
        refine (HH _).out.mono ?_
        rintro r W ⟨rfl, hb2⟩
        obtain ⟨k1, k2, k3, h3, hB⟩ := box4 hb2
        clear hb2
        obtain ⟨q1, q2, -, -⟩ := facts2 k1
        go_wp2_with fail
        have m1 := cell_regrown q1
        have m2 := cell_regrown q2
        refine wp_region_quiet_below mixed (by kernel_rfl) ?_
        repeat (go_big_quiet_step ((go_at_call 190; exact Calls.regrown_of (alone_any _ _))))
        refine wpQuiet_nil ?_
        intro _ hw'
        obtain ⟨⟨dq, osq⟩, hw''⟩ := hw'
        subst hw''
        obtain ⟨K2, K3, K4, hB4⟩ := box_rg k2 k3 h3 hB dq osq
        clear k1 k2 k3 h3 hB q1 q2 m1 m2
        simp only
        generalize grow (redrawn W dq) osq = G at *
        obtain ⟨p1, p2, -, -⟩ := facts2 K2
        obtain ⟨q1, q2, -, -⟩ := facts2 K3
        obtain ⟨s1, s2, s3, s4⟩ := facts2 K4
        go_wp2_with fail
        refine (join_any _ _ _ _ _).mono ?_
        rintro r w2 ⟨rfl, hb2⟩
        have h3 := K4.below hb2
        have hB := bel hB4 hb2
        clear s1 s2 s3 s4
        obtain ⟨s1, s2, s3, s4⟩ := facts2 h3
        clear hb2 K4 hB4
        obtain ⟨x, hx⟩ : ∃ x, min c e = x := ⟨_, rfl⟩
        obtain ⟨y, hy⟩ : ∃ y, max d f = y := ⟨_, rfl⟩
        rw [hx, hy]
        have HX := hide hx
        have HY := hide hy
        clear hx hy
        go_wp2_with fail
        obtain ⟨c0, c1, hB2⟩ := stored2 h3 hB (by omega) x y
        exact bodyPost_ret (v := .agg #[.int .i64 x, .int .i64 y]) (by simp [results, Tryz.results228, go_sem, c0, c1]) rfl ⟨by rw [HX.out, HY.out], hB2⟩
    · have e1 : (a == 0) = false := by simp [h1]
      have hz := HZ.out
      rw [if_neg (by omega)] at hz
      rw [hz]
      clear hz HZ h1
      go_enter Tryz.func228, Tryz.ntmps228
      go_wp2_with fail
      refine (HH _).out.mono ?_
      rintro r W ⟨rfl, hb2⟩
      obtain ⟨k1, k2, k3, h3, hB⟩ := box4 hb2
      clear hb2
      obtain ⟨q1, q2, -, -⟩ := facts2 k1
      go_wp2_with fail
      have m1 := cell_regrown q1
      have m2 := cell_regrown q2
      refine wp_region_quiet_below mixed (by kernel_rfl) ?_
      repeat (go_big_quiet_step ((go_at_call 190; exact Calls.regrown_of (alone_any _ _))))
      refine wpQuiet_nil ?_
      intro _ hw'
      obtain ⟨⟨dq, osq⟩, hw''⟩ := hw'
      subst hw''
      obtain ⟨K2, K3, K4, hB4⟩ := box_rg k2 k3 h3 hB dq osq
      clear k1 k2 k3 h3 hB q1 q2 m1 m2
      simp only
      generalize grow (redrawn W dq) osq = G at *
      obtain ⟨p1, p2, -, -⟩ := facts2 K2
      obtain ⟨q1, q2, -, -⟩ := facts2 K3
      obtain ⟨s1, s2, s3, s4⟩ := facts2 K4
      go_wp2_with fail
      refine (join_any _ _ _ _ _).mono ?_
      rintro r w2 ⟨rfl, hb2⟩
      have h3 := K4.below hb2
      have hB := bel hB4 hb2
      clear s1 s2 s3 s4
      obtain ⟨s1, s2, s3, s4⟩ := facts2 h3
      clear hb2 K4 hB4
      obtain ⟨x, hx⟩ : ∃ x, min c e = x := ⟨_, rfl⟩
      obtain ⟨y, hy⟩ : ∃ y, max d f = y := ⟨_, rfl⟩
      rw [hx, hy]
      have HX := hide hx
      have HY := hide hy
      clear hx hy
      go_wp2_with fail
      obtain ⟨c0, c1, hB2⟩ := stored2 h3 hB (by omega) x y
      exact bodyPost_ret (v := .agg #[.int .i64 x, .int .i64 y]) (by simp [results, Tryz.results228, go_sem, c0, c1]) rfl ⟨by rw [HX.out, HY.out], hB2⟩

end Go.Proofs.YtihbhbeaihdgnaaGreat.Spn

/-
  A region that draws its order, whose last operation waits for all the others, and whose others are quiet: one walk of the others in the order of the text, and then the last one.
-/
namespace Go.Proofs.YtihbhbeaihdgnaaGreat.Spn
open Go.RowKit Go.Sort Go
set_option linter.unusedVariables false

/-- Every operation waits only for operations that stand ahead of it. -/
def backB (ops : Array Oper) : Bool := (List.range ops.size).all fun j => ((ops[j]?).map fun o => o.after.all fun e => decide (e.on < j)).getD true
theorem backB_spec {ops : Array Oper} (h : backB ops = true) {j : Nat} {o : Oper} (ho : ops[j]? = some o) : ∀ e ∈ o.after, e.on < j := by
  intro e he
  have hj : j < ops.size := (Array.getElem?_eq_some_iff.1 ho).1
  have h1 := List.all_eq_true.1 h j (List.mem_range.2 hj)
  rw [ho] at h1
  simp only [Option.map_some, Option.getD_some] at h1
  simpa using Array.all_eq_true'.1 h1 e he
/-- Every guard stands among the first n. -/
def guardB (l : List Oper) : Bool := l.all fun o => match o.guard with | none => true | some (j, _) => decide (j < l.length)

theorem getD_in' {listed : Array Bool} {i : Nat} (hi : i < listed.size) (h : listed.getD i false ≠ true) : listed.getD i true = false := by
  simp [hi] at h ⊢; exact h

/-- Where something has not come up, something may come up. -/
theorem ready_ne {ops : Array Oper} {listed : Array Bool} (hb : backB ops = true) (hsz : listed.size = ops.size) : ∀ j, j < ops.size → listed.getD j true = false → Region.ready .any ops listed ≠ [] := by
  intro j
  induction j using Nat.strongRecOn with
  | _ j ih =>
    intro hj hun h0
    obtain ⟨o, ho⟩ : ∃ o, ops[j]? = some o := ⟨ops[j], by simp [hj]⟩
    by_cases hall : ∀ e ∈ o.after, Region.binds .any e = true → listed.getD e.on false = true
    · have : j ∈ Region.ready .any ops listed := mem_ready.2 ⟨hun, o, ho, hall⟩
      rw [h0] at this; cases this
    · simp only [Classical.not_forall] at hall
      obtain ⟨e, he, hbi, hne⟩ := hall
      have hlt := backB_spec hb ho e he
      exact ih e.on hlt (by omega) (getD_in' (by omega) hne) h0

theorem getD_push {listed : Array Bool} (k : Nat) : (listed.push false).getD k false = listed.getD k false := by
  rcases Nat.lt_trichotomy k listed.size with h | h | h
  · simp [Array.getElem?_push, Nat.ne_of_lt h]
  · subst h; simp
  · simp [Array.getElem?_push, Nat.ne_of_gt h]
theorem getD_push_lt {listed : Array Bool} {k : Nat} (b : Bool) (h : k < listed.size) : (listed.push false).getD k b = listed.getD k b := by
  simp [Array.getElem?_push, Nat.ne_of_lt h]

theorem set_push {x : Array Bool} {i : Nat} (hi : i < x.size) : (x.push false).setIfInBounds i true = (x.setIfInBounds i true).push false := by
  apply Array.ext_getElem?
  intro j
  rw [Array.getElem?_setIfInBounds, Array.getElem?_push, Array.getElem?_push, Array.getElem?_setIfInBounds, Array.size_push, Array.size_setIfInBounds]
  by_cases hij : i = j
  · subst hij
    rw [if_pos rfl, if_pos (by omega), if_neg (by omega), if_pos rfl, if_pos hi]
  · rw [if_neg hij, if_neg hij]

section
variable {l : List Oper} {o : Oper}

theorem ops_lt {i : Nat} (h : i < l.length) : (l ++ [o]).toArray[i]? = l.toArray[i]? := by simp [List.getElem?_append_left h]
theorem ops_last : (l ++ [o]).toArray[l.length]? = some o := by simp

theorem ready_lt {listed : Array Bool} (hsz : listed.size = l.length) {i : Nat} (hi : i < l.length) : i ∈ Region.ready .any (l ++ [o]).toArray (listed.push false) ↔ i ∈ Region.ready .any l.toArray listed := by
  rw [mem_ready, mem_ready, ops_lt hi, getD_push_lt true (by omega)]
  simp only [getD_push]

theorem wanted_same (hg : guardB l = true) {x : Oper} (hx : x ∈ l) (t : Array Value) : Region.wanted x (yielded (l ++ [o]).toArray t) = Region.wanted x (yielded l.toArray t) := by
  have h1 := List.all_eq_true.1 hg x hx
  unfold Region.wanted
  split
  · rfl
  · rename_i j want hj
    rw [hj] at h1
    simp only [decide_eq_true_eq] at h1
    unfold yielded
    rw [ops_lt h1]

theorem qOp_same {P : Program} {C : World → Prop} (hg : guardB l = true) {i : Nat} (hi : i < l.length) {K : Act → Prop} {a : Act} (h : qOp P l.toArray C i K a) : qOp P (l ++ [o]).toArray C i K a := by
  unfold qOp at *
  rw [ops_lt hi]
  have hx : l.toArray[i]? = some l[i] := by simp [hi]
  rw [hx] at h ⊢
  simp only at h ⊢
  rw [wanted_same hg (List.getElem_mem hi)]
  exact h

theorem all_listed {listed : Array Bool} (h : ∀ j, j < listed.size → listed.getD j true = true) (ops : Array Oper) : Region.ready .any ops listed = [] := by
  apply List.eq_nil_iff_forall_not_mem.2
  intro j hj
  obtain ⟨h1, -⟩ := mem_ready.1 hj
  rcases Nat.lt_or_ge j listed.size with h' | h'
  · rw [h j h'] at h1; cases h1
  · simp [Array.getElem?_eq_none h'] at h1

theorem wpAny_last {P : Program} {C : World → Prop} {Q : Exit → Act → World → Prop} (hog : o.guard = none) (hb0 : backB l.toArray = true) (hb : backB (l ++ [o]).toArray = true) (hg : guardB l = true)
    (hs : Region.sinkB .any (l ++ [o]).toArray l.length = true) (hc : Region.chainB .any (l ++ [o]).toArray l.length = true) :
    ∀ (fuel : Nat) (listed : Array Bool) (a : Act) (w : World), C w → listed.size = l.length → HeadInv .any (l ++ [o]).toArray l.length (listed.push false) →
      wpAnyQ P .any l.toArray C (fun a' => ∀ w', C w' → wpList P (l ++ [o]).toArray Q [o] a' w') fuel listed a →
      wpAny P .any (l ++ [o]).toArray Q (fuel + 1) (listed.push false) a w := by
  have hne : ∀ listed : Array Bool, listed.size = l.length → Region.ready .any (l ++ [o]).toArray (listed.push false) ≠ [] := fun listed hsz =>
    ready_ne hb (by simp [hsz]) l.length (by simp) (by simp [← hsz])
  have hend : ∀ (fuel : Nat) (listed : Array Bool) (a : Act) (w : World), listed.size = l.length → (∀ j, j < l.length → listed.getD j true = true) → Q .normal a w → wpAny P .any (l ++ [o]).toArray Q fuel ((listed.push false).setIfInBounds l.length true) a w := by
    intro fuel listed a w hsz hall hq
    have h0 : Region.ready .any (l ++ [o]).toArray ((listed.push false).setIfInBounds l.length true) = [] := by
      refine all_listed (fun j hj => ?_) _
      simp at hj
      by_cases hjl : j = l.length
      · subst hjl; simp [hsz]
      · rw [getD_set_ne true (Ne.symm hjl), getD_push_lt true (by omega)]
        exact hall j (by omega)
    cases fuel with
    | zero => exact ⟨h0, hq⟩
    | succ fuel => exact ⟨fun _ => hq, fun i hi => by rw [h0] at hi; cases hi⟩
  have hlast : ∀ (fuel : Nat) (listed : Array Bool) (a : Act) (w : World), listed.size = l.length → (∀ j, j < l.length → listed.getD j true = true) → wpList P (l ++ [o]).toArray Q [o] a w →
      wpOp P (l ++ [o]).toArray Q l.length (wpAny P .any (l ++ [o]).toArray Q fuel ((listed.push false).setIfInBounds l.length true)) a w := by
    intro fuel listed a w hsz hall hq
    unfold wpOp
    rw [ops_last]
    simp only [wpList, Region.wanted, hog, if_true] at hq ⊢
    exact hq.imp (Oper.wp_mono (fun a' w' h' => hend fuel listed a' w' hsz hall h')) id
  have hlist : ∀ listed : Array Bool, listed.size = l.length → Region.ready .any l.toArray listed = [] → ∀ j, j < l.length → listed.getD j true = true := fun listed hsz h0 j hj => by
    cases hv : listed.getD j true with
    | true => rfl
    | false => exact absurd h0 (ready_ne hb0 (by simpa using hsz) j (by simpa using hj) hv)
  have hle : ∀ (listed : Array Bool) (i : Nat), i ∈ Region.ready .any (l ++ [o]).toArray (listed.push false) → i < l.length ∨ i = l.length := fun listed i hi => by
    obtain ⟨-, oi, hoi, -⟩ := mem_ready.1 hi
    have := (Array.getElem?_eq_some_iff.1 hoi).1
    simp at this
    omega
  intro fuel
  induction fuel with
  | zero =>
    intro listed a w hw hsz inv h
    refine ⟨fun h0 => absurd h0 (hne listed hsz), fun i hi => ?_⟩
    have hall := hlist listed hsz h.1
    rcases hle listed i hi with hil | rfl
    · rw [ready_lt hsz hil, h.1] at hi; cases hi
    · exact hlast 0 listed a w hsz hall (h.2 w hw)
  | succ fuel ih =>
    intro listed a w hw hsz inv h
    refine ⟨fun h0 => absurd h0 (hne listed hsz), fun i hi => ?_⟩
    rcases hle listed i hi with hil | rfl
    · have hi0 := (ready_lt hsz hil).1 hi
      refine wpOp_of_qOp hw (fun a' w' hw' hk => ?_) (qOp_same hg hil (h.2 i hi0))
      have e := set_push (x := listed) (i := i) (by omega)
      have inv' := inv.set hi hil
      rw [e] at inv' ⊢
      exact ih (listed.setIfInBounds i true) a' w' hw' (by simpa using hsz) inv' hk
    · have hall : ∀ j, j < l.length → listed.getD j true = true := fun j hj => by
        cases hv : listed.getD j true with
        | true => rfl
        | false => exact absurd hi (tail_waits hs hc (by simp) inv (l.length - j) j rfl hj (by rw [getD_push_lt true (by omega)]; exact hv) l.length (Nat.le_refl _))
      exact hlast (fuel + 1) listed a w hsz hall (h.1 (all_listed (fun j hj => hall j (by omega)) _) w hw)

theorem wp_region_quiet_last {P : Program} {C : World → Prop} {id : Nat} {Q : Exit → Act → World → Prop} {a : Act} {w : World} (hm : P.follows .mixedOrders = true) (hB : Region.lexB .any l.toArray = true)
    (hog : o.guard = none) (hb0 : backB l.toArray = true) (hb : backB (l ++ [o]).toArray = true) (hg : guardB l = true)
    (hs : Region.sinkB .any (l ++ [o]).toArray l.length = true) (hc : Region.chainB .any (l ++ [o]).toArray l.length = true) (hC : C { w with drawn := w.drawn + 1 })
    (h : wpQuiet P l.toArray C (fun a' => ∀ w', C w' → wpList P (l ++ [o]).toArray Q [o] a' w') l a) : (Code.region id (l ++ [o]).toArray true).wp P Q a w := by
  simp only [Region.lexB, Bool.and_eq_true] at hB
  refine wp_region_any hm ?_
  have e : Array.replicate (l ++ [o]).toArray.size false = (Array.replicate l.length false).push false := by
    rw [← Array.replicate_succ]; simp
  rw [e, show (l ++ [o]).toArray.size = l.length + 1 by simp]
  refine wpAny_last hog hb0 hb hg hs hc l.length _ a _ hC (by simp) ?_ ?_
  · exact ⟨by simp, fun j oj _ hl => (by rw [← Array.replicate_succ, getD_replicate_false] at hl; cases hl), fun t _ ht => getD_in (by simpa using ht) (by rw [← Array.replicate_succ]; exact getD_replicate_false _ _)⟩
  · have := wpAnyQ_lex (P := P) (C := C) (md := .any) hB.1 l 0 (Array.replicate l.length false) a (by simp) (by simpa using hB.2) h
    simpa using this

theorem wp_region_quiet_last_lit {P : Program} {id : Nat} {Q : Exit → Act → World → Prop} {a : Act} {w : World} {full : List Oper} (hf : full = l ++ [o]) (hm : P.follows .mixedOrders = true) (hB : Region.lexB .any l.toArray = true)
    (hog : o.guard = none) (hb0 : backB l.toArray = true) (hb : backB (l ++ [o]).toArray = true) (hg : guardB l = true)
    (hs : Region.sinkB .any (l ++ [o]).toArray l.length = true) (hc : Region.chainB .any (l ++ [o]).toArray l.length = true)
    (h : wpQuiet P l.toArray (fun w' => ∃ p : Regrown, w' = grow (redrawn w p.d) p.os) (fun a' => ∀ w', (∃ p : Regrown, w' = grow (redrawn w p.d) p.os) → wpList P (l ++ [o]).toArray Q [o] a' w') l a) : (Code.region id full.toArray true).wp P Q a w := by
  subst hf
  exact wp_region_quiet_last hm hB hog hb0 hb hg hs hc ⟨⟨w.drawn + 1, #[]⟩, by rw [grow_empty]; rfl⟩ h
end

end Go.Proofs.YtihbhbeaihdgnaaGreat.Spn

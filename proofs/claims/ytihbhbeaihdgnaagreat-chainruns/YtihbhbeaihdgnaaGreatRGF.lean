/-
  arith.exact and arith.Value; a call over numbers written out.
-/
import Derived.Test.YtihbhbeaihdgnaaGreatRGE
import Derived.Lib.QuietBelow
namespace Go.Proofs.YtihbhbeaihdgnaaGreat.Spn
open Go.RowKit Go.IntWalk
set_option linter.unusedVariables false

theorem exact_1 (op k s x : Int) (b off cap : Nat) (w : World) (hc : 1 ≤ cap) (ho : ar op = 1) (hk : cons op k s = true) (hx : -2147483648 ≤ x ∧ x ≤ 2147483647)
    (c0 : w.cell? ⟨b, off, none⟩ = some (.int .i64 x)) :
    Calls Tryz.prog 129 #[.int .i64 op, .int .i64 k, .int .i64 s, .slice (some ⟨b, off, none⟩) 1 cap] w fun e w' => e = .returned (.tuple #[.int .i64 (ex op k s x 0 0).1, .int .i64 (ex op k s x 0 0).2]) ∧ Below w.heap.size w w' := by
  have h2 := fun w => ofOne_any op k s x 0 0 w ho hk hx
  clear ho hk
  go_enter Tryz.func129, Tryz.ntmps129
  go_wp2_with (go_at_call 167; refine (h2 _).mono ?_; rintro e w' ⟨rfl, hb⟩)
  go_ret2
  exact ⟨rfl, hb⟩

theorem exact_2 (op k s x y : Int) (b off cap : Nat) (w : World) (hc : 2 ≤ cap) (ho : ar op = 2) (hx : -2147483648 ≤ x ∧ x ≤ 2147483647) (hy : -2147483648 ≤ y ∧ y ≤ 2147483647)
    (c0 : w.cell? ⟨b, off, none⟩ = some (.int .i64 x)) (c1 : w.cell? ⟨b, off + 1, none⟩ = some (.int .i64 y)) :
    Calls Tryz.prog 129 #[.int .i64 op, .int .i64 k, .int .i64 s, .slice (some ⟨b, off, none⟩) 2 cap] w fun e w' => e = .returned (.tuple #[.int .i64 (ex op k s x y 0).1, .int .i64 (ex op k s x y 0).2]) ∧ Below w.heap.size w w' := by
  have h2 := fun w => ofTwo_any op x y w (two_cases ho) hx hy
  rw [← ex_two op k s x y 0 (two_cases ho)] at h2
  clear ho
  go_enter Tryz.func129, Tryz.ntmps129
  go_wp2
  go_quiet ((go_at_call 168; exact Calls.quiet_of_same (h2 _)))
  go_wp2
  go_ret2
  exact ⟨rfl, bdrew (Below.refl _ _) _⟩

theorem ex_three (op k s x y z : Int) (ho : inB op 26 28 = true) : (ex op k s x y z).2 = 0 := by
  have h := inB_iff.1 ho
  rcases (show op = 26 ∨ op = 27 ∨ op = 28 by omega) with rfl | rfl | rfl <;> rfl

theorem exact_3 (op k s x y z : Int) (b off cap : Nat) (w : World) (hc : 3 ≤ cap) (ho : ar op = 3)
    (c0 : w.cell? ⟨b, off, none⟩ = some (.int .i64 x)) (c1 : w.cell? ⟨b, off + 1, none⟩ = some (.int .i64 y)) (c2 : w.cell? ⟨b, off + 2, none⟩ = some (.int .i64 z)) :
    Calls Tryz.prog 129 #[.int .i64 op, .int .i64 k, .int .i64 s, .slice (some ⟨b, off, none⟩) 3 cap] w fun e w' => e = .returned (.tuple #[.int .i64 (ex op k s x y z).1, .int .i64 (ex op k s x y z).2]) ∧ Below w.heap.size w w' := by
  have h2 := fun w => ofThree_any op k s x y z w (three_cases ho)
  rw [ex_three op k s x y z (three_cases ho)]
  clear ho
  go_enter Tryz.func129, Tryz.ntmps129
  go_wp2
  go_quiet ((go_at_call 169; exact Calls.quiet_of_same (h2 _)))
  go_wp2
  go_ret2
  exact ⟨rfl, bdrew (Below.refl _ _) _⟩

theorem exact_any (op k s : Int) (a : Option Addr) (n cap : Nat) (xs : List Int) (w : World) (h : Ints w a n cap xs) (hm : mayB op k s xs = true) :
    Calls Tryz.prog 129 #[.int .i64 op, .int .i64 k, .int .i64 s, .slice a n cap] w fun e w' =>
      e = .returned (.tuple #[.int .i64 (ex op k s (xs.getD 0 0) (xs.getD 1 0) (xs.getD 2 0)).1, .int .i64 (ex op k s (xs.getD 0 0) (xs.getD 1 0) (xs.getD 2 0)).2]) ∧ Below w.heap.size w w' := by
  simp only [mayB, Bool.and_eq_true, decide_eq_true_eq, List.all_eq_true] at hm
  obtain ⟨⟨⟨m1, m2⟩, m3⟩, m4⟩ := hm
  have hl := h.len
  have h3 := ar_le op
  have hle := h.le
  obtain ⟨b, off, rfl, -, hc⟩ := h.at (by omega)
  have hw : ∀ x ∈ xs, -2147483648 ≤ x ∧ x ≤ 2147483647 := fun x hx => wd_iff.1 (m4 x hx)
  match xs, hl, m2, hc, hw with
  | [x], hl, m2, hc, hw =>
    subst hl
    exact exact_1 op k s x b off cap w hle (by simpa using m2.symm) m3 (hw x (by simp)) (hc 0 (by simp))
  | [x, y], hl, m2, hc, hw =>
    subst hl
    exact exact_2 op k s x y b off cap w hle (by simpa using m2.symm) (hw x (by simp)) (hw y (by simp)) (hc 0 (by simp)) (hc 1 (by simp))
  | [x, y, z], hl, m2, hc, hw =>
    subst hl
    exact exact_3 op k s x y z b off cap w hle (by simpa using m2.symm) (hc 0 (by simp)) (hc 1 (by simp)) (hc 2 (by simp))
  | [], hl, m2, hc, hw => simp at m2; omega
  | _ :: _ :: _ :: _ :: _, hl, m2, hc, hw => simp at m2; omega

/-- What arith.Value answers. -/
def valZ (op k s : Int) (xs : List Int) : Int × Int :=
  if mayB op k s xs = true then
    (if (ex op k s (xs.getD 0 0) (xs.getD 1 0) (xs.getD 2 0)).2 = 0 then
      (if wd (ex op k s (xs.getD 0 0) (xs.getD 1 0) (xs.getD 2 0)).1 = true then ((ex op k s (xs.getD 0 0) (xs.getD 1 0) (xs.getD 2 0)).1, 0) else (0, 13))
    else (0, (ex op k s (xs.getD 0 0) (xs.getD 1 0) (xs.getD 2 0)).2))
  else (0, 1)

theorem value_any (op k s : Int) (a : Option Addr) (n cap : Nat) (xs : List Int) (w : World) (h : Ints w a n cap xs) :
    Calls Tryz.prog 87 #[.int .i64 op, .int .i64 k, .int .i64 s, .slice a n cap] w fun e w' => e = .returned (.tuple #[.int .i64 (valZ op k s xs).1, .int .i64 (valZ op k s xs).2]) ∧ Below w.heap.size w w' := by
  have H := hide h
  clear h
  cases hm : mayB op k s xs
  · rw [show valZ op k s xs = (0, 1) by simp [valZ, hm]]
    go_enter Tryz.func87, Tryz.ntmps87
    go_wp2_with (go_at_call 128; refine (may_any _ _ _ _ _ _ _ _ H.out).mono ?_; rintro e w' ⟨rfl, rfl⟩)
    go_ret2
    exact ⟨rfl, Below.refl _ _⟩
  · have H2 := hide (exact_any op k s a n cap xs w H.out hm)
    unfold valZ
    rw [if_pos hm]
    generalize ex op k s (xs.getD 0 0) (xs.getD 1 0) (xs.getD 2 0) = E at *
    obtain ⟨x, e⟩ := E
    by_cases he : e = 0
    · subst he
      rw [if_pos rfl]
      cases hx : wd x
      · rw [if_neg (by simp)]
        go_enter Tryz.func87, Tryz.ntmps87
        go_wp2_with (first | (go_at_call 128; refine (may_any _ _ _ _ _ _ _ _ H.out).mono ?_; rintro e w' ⟨rfl, rfl⟩) | (go_at_call 129; refine H2.out.mono ?_; rintro e w2 ⟨rfl, hb⟩) | (go_at_call 130; refine (word_any _ _).mono ?_; rintro e w' ⟨rfl, rfl⟩))
        go_ret2
        exact ⟨rfl, hb⟩
      · rw [if_pos (by simp)]
        go_enter Tryz.func87, Tryz.ntmps87
        go_wp2_with (first | (go_at_call 128; refine (may_any _ _ _ _ _ _ _ _ H.out).mono ?_; rintro e w' ⟨rfl, rfl⟩) | (go_at_call 129; refine H2.out.mono ?_; rintro e w2 ⟨rfl, hb⟩) | (go_at_call 130; refine (word_any _ _).mono ?_; rintro e w' ⟨rfl, rfl⟩))
        go_ret2
        exact ⟨rfl, hb⟩
    · rw [if_neg he]
      have he' : (e != 0) = true := by simp [he]
      clear he
      go_enter Tryz.func87, Tryz.ntmps87
      go_wp2_with (first | (go_at_call 128; refine (may_any _ _ _ _ _ _ _ _ H.out).mono ?_; rintro e w' ⟨rfl, rfl⟩) | (go_at_call 129; refine H2.out.mono ?_; rintro e w2 ⟨rfl, hb⟩) | (go_at_call 130; refine (word_any _ _).mono ?_; rintro e w' ⟨rfl, rfl⟩))
      go_ret2
      exact ⟨rfl, hb⟩

theorem lit1 (w : World) (t : TypeId) (x : Int) : Ints (w.alloc (.cells #[.int .i64 x] t)) (some ⟨w.heap.size, 0, none⟩) 1 1 [x] := by
  refine ⟨rfl, Nat.le_refl _, by decide, (fun h => by cases h), .inr ⟨_, _, rfl, fun i hi => ?_⟩⟩
  obtain rfl : i = 0 := by omega
  simp
theorem lit2 (w : World) (t : TypeId) (x y : Int) : Ints (w.alloc (.cells #[.int .i64 x, .int .i64 y] t)) (some ⟨w.heap.size, 0, none⟩) 2 2 [x, y] := by
  refine ⟨rfl, Nat.le_refl _, by decide, (fun h => by cases h), .inr ⟨_, _, rfl, fun i hi => ?_⟩⟩
  rcases (show i = 0 ∨ i = 1 by omega) with rfl | rfl <;> simp
theorem lit3 (w : World) (t : TypeId) (x y z : Int) : Ints (w.alloc (.cells #[.int .i64 x, .int .i64 y, .int .i64 z] t)) (some ⟨w.heap.size, 0, none⟩) 3 3 [x, y, z] := by
  refine ⟨rfl, Nat.le_refl _, by decide, (fun h => by cases h), .inr ⟨_, _, rfl, fun i hi => ?_⟩⟩
  rcases (show i = 0 ∨ i = 1 ∨ i = 2 by omega) with rfl | rfl | rfl <;> simp

end Go.Proofs.YtihbhbeaihdgnaaGreat.Spn

/-
  The document's own Arity, Constants and Word, and the walk of ArithNames.
-/
namespace Go.Proofs.YtihbhbeaihdgnaaGreat.Spn
open Go.RowKit Go.IntWalk
set_option linter.unusedVariables false

theorem rword_any (x : Int) (w : World) :
    Calls Tryz.prog 88 #[.int .i64 x] w fun e w' => e = .returned (.bool (wd x)) ∧ w' = w := by
  by_cases h1 : -2147483648 ≤ x
  · go_enter Tryz.func88, Tryz.ntmps88
    go_wp2
    go_ret
    exact ⟨ret_bool (by simp [wd, inB, h1]), rfl⟩
  · rw [show wd x = false from inB_f (by omega)]
    go_enter Tryz.func88, Tryz.ntmps88
    go_wp2
    go_ret
    exact ⟨rfl, rfl⟩

theorem ar_out {op : Int} (h : op < 1 ∨ op = 4 ∨ 33 < op) : ar op = -1 := by
  unfold ar
  rw [if_neg (by omega), if_neg (by rw [inB_iff, inB_iff]; omega), if_neg (by rw [inB_iff]; omega), if_neg (by rw [inB_iff]; omega)]
theorem ar_0 {op : Int} (h : op = 1 ∨ op = 2 ∨ op = 3) : ar op = 0 := by
  unfold ar
  rw [if_pos h]
theorem ar_1 {op : Int} (h : 5 ≤ op ∧ op ≤ 7 ∨ 29 ≤ op ∧ op ≤ 33) : ar op = 1 := by
  unfold ar
  rw [if_neg (by omega), if_pos (by rw [inB_iff, inB_iff]; omega)]
theorem ar_2 {op : Int} (h : 8 ≤ op ∧ op ≤ 25) : ar op = 2 := by
  unfold ar
  rw [if_neg (by omega), if_neg (by rw [inB_iff, inB_iff]; omega), if_pos (by rw [inB_iff]; omega)]
theorem ar_3 {op : Int} (h : 26 ≤ op ∧ op ≤ 28) : ar op = 3 := by
  unfold ar
  rw [if_neg (by omega), if_neg (by rw [inB_iff, inB_iff]; omega), if_neg (by rw [inB_iff]; omega), if_pos (by rw [inB_iff]; omega)]

theorem rarity_any (op : Int) (w : World) :
    Calls Tryz.prog 50 #[.int .i64 op] w fun e w' => e = .returned (.int .i64 (ar op)) ∧ w' = w := by
  rcases (show op < 1 ∨ 33 < op ∨ op = 4 ∨ (1 ≤ op ∧ op ≤ 3) ∨ (5 ≤ op ∧ op ≤ 7) ∨ (29 ≤ op ∧ op ≤ 33) ∨ (8 ≤ op ∧ op ≤ 25) ∨ (26 ≤ op ∧ op ≤ 28) by omega) with h | h | h | h | h | h | h | h
  · rw [ar_out (by omega)]
    go_enter Tryz.func50, Tryz.ntmps50
    go_wp2
    go_ret
    exact ⟨rfl, rfl⟩
  · rw [ar_out (by omega)]
    have h' : (op == 4) = false := by simp; omega
    go_enter Tryz.func50, Tryz.ntmps50
    go_wp2
    go_ret
    exact ⟨rfl, rfl⟩
  · subst h
    go_enter Tryz.func50, Tryz.ntmps50
    go_wp2
    go_ret
    exact ⟨rfl, rfl⟩
  · rw [ar_0 (by omega)]
    have h' : (op == 4) = false := by simp; omega
    go_enter Tryz.func50, Tryz.ntmps50
    go_wp2
    go_ret
    exact ⟨rfl, rfl⟩
  · rw [ar_1 (by omega)]
    have h' : (op == 4) = false := by simp; omega
    go_enter Tryz.func50, Tryz.ntmps50
    go_wp2
    go_ret
    exact ⟨rfl, rfl⟩
  · rw [ar_1 (by omega)]
    have h' : (op == 4) = false := by simp; omega
    go_enter Tryz.func50, Tryz.ntmps50
    go_wp2
    go_ret
    exact ⟨rfl, rfl⟩
  · rw [ar_2 (by omega)]
    have h' : (op == 4) = false := by simp; omega
    go_enter Tryz.func50, Tryz.ntmps50
    go_wp2
    go_ret
    exact ⟨rfl, rfl⟩
  · rw [ar_3 (by omega)]
    have h' : (op == 4) = false := by simp; omega
    go_enter Tryz.func50, Tryz.ntmps50
    go_wp2
    go_ret
    exact ⟨rfl, rfl⟩

theorem rconstants_any (op k s : Int) (w : World) :
    Calls Tryz.prog 51 #[.int .i64 op, .int .i64 k, .int .i64 s] w fun e w' => e = .returned (.bool (cons op k s)) ∧ w' = w := by
  by_cases h1 : op = 29 ∨ op = 30 ∨ op = 31
  · rcases h1 with rfl | rfl | rfl
    · rw [show cons 29 k s = inB k 0 31 from rfl]
      by_cases h : 0 ≤ k
      · by_cases h2 : k < 32
        · rw [inB_t h (by omega)]
          go_enter Tryz.func51, Tryz.ntmps51
          go_wp2
          go_ret
          exact ⟨rfl, rfl⟩
        · rw [inB_f (by omega)]
          go_enter Tryz.func51, Tryz.ntmps51
          go_wp2
          go_ret
          exact ⟨rfl, rfl⟩
      · rw [inB_f (by omega)]
        go_enter Tryz.func51, Tryz.ntmps51
        go_wp2
        go_ret
        exact ⟨rfl, rfl⟩
    · rw [show cons 30 k s = inB k 0 31 from rfl]
      by_cases h : 0 ≤ k
      · by_cases h2 : k < 32
        · rw [inB_t h (by omega)]
          go_enter Tryz.func51, Tryz.ntmps51
          go_wp2
          go_ret
          exact ⟨rfl, rfl⟩
        · rw [inB_f (by omega)]
          go_enter Tryz.func51, Tryz.ntmps51
          go_wp2
          go_ret
          exact ⟨rfl, rfl⟩
      · rw [inB_f (by omega)]
        go_enter Tryz.func51, Tryz.ntmps51
        go_wp2
        go_ret
        exact ⟨rfl, rfl⟩
    · rw [show cons 31 k s = inB k 0 2147483647 from rfl]
      by_cases h : 0 ≤ k
      · by_cases h2 : k ≤ 2147483647
        · rw [inB_t h (by omega)]
          go_enter Tryz.func51, Tryz.ntmps51
          go_wp2
          go_ret
          exact ⟨rfl, rfl⟩
        · rw [inB_f (by omega)]
          go_enter Tryz.func51, Tryz.ntmps51
          go_wp2
          go_ret
          exact ⟨rfl, rfl⟩
      · rw [inB_f (by omega)]
        go_enter Tryz.func51, Tryz.ntmps51
        go_wp2
        go_ret
        exact ⟨rfl, rfl⟩
  · by_cases h2 : op = 32
    · subst h2
      rw [show cons 32 k s = wd k from rfl]
      go_enter Tryz.func51, Tryz.ntmps51
      go_wp2_with (go_at_call 88; refine (rword_any _ _).mono ?_; rintro e w' ⟨rfl, rfl⟩)
      go_ret
      exact ⟨rfl, rfl⟩
    · by_cases h3 : op = 33
      · subst h3
        rw [show cons 33 k s = (inB k 1 4611686018427387904 && inB s 0 62) from rfl]
        by_cases h : 0 < k
        · by_cases h2 : k ≤ 4611686018427387904
          · rw [inB_t (x := k) (by omega) (by omega), Bool.true_and]
            by_cases h4 : 0 ≤ s
            · by_cases h5 : s < 63
              · rw [inB_t (by omega) (by omega)]
                go_enter Tryz.func51, Tryz.ntmps51
                go_wp2
                go_ret
                exact ⟨rfl, rfl⟩
              · rw [inB_f (by omega)]
                go_enter Tryz.func51, Tryz.ntmps51
                go_wp2
                go_ret
                exact ⟨rfl, rfl⟩
            · rw [inB_f (by omega)]
              go_enter Tryz.func51, Tryz.ntmps51
              go_wp2
              go_ret
              exact ⟨rfl, rfl⟩
          · rw [inB_f (x := k) (by omega), Bool.false_and]
            go_enter Tryz.func51, Tryz.ntmps51
            go_wp2
            go_ret
            exact ⟨rfl, rfl⟩
        · rw [inB_f (x := k) (by omega), Bool.false_and]
          go_enter Tryz.func51, Tryz.ntmps51
          go_wp2
          go_ret
          exact ⟨rfl, rfl⟩
      · have e1 : (op == 29) = false := by simp; omega
        have e2 : (op == 30) = false := by simp; omega
        have e3 : (op == 31) = false := by simp; omega
        have e4 : (op == 32) = false := by simp; omega
        have e5 : (op == 33) = false := by simp; omega
        have hc : cons op k s = true := by unfold cons; rw [if_neg (by omega), if_neg (by omega), if_neg (by omega), if_neg (by omega)]
        rw [hc]
        clear h1 h2 h3 hc
        go_enter Tryz.func51, Tryz.ntmps51
        go_wp2
        go_ret
        exact ⟨rfl, rfl⟩

end Go.Proofs.YtihbhbeaihdgnaaGreat.Spn

/-
  The small functions of package span, and the document's own: what each answers; memory that was there stays.
-/
namespace Go.Proofs.YtihbhbeaihdgnaaGreat.Spn
open Go.RowKit Go.IntWalk
set_option linter.unusedVariables false

/-- The block b holds just these cells. -/
def HasC (W : World) (b : Nat) (t : TypeId) (cs : Array Value) : Prop := W.heap[b]? = some (.cells cs t (0, 0))
theorem HasC.lt {W : World} {b : Nat} {t : TypeId} {cs : Array Value} (h : HasC W b t cs) : b < W.heap.size := (Array.getElem?_eq_some_iff.1 h).1
theorem HasC.new (W : World) (t : TypeId) (cs : Array Value) : HasC (W.alloc (.cells cs t)) W.heap.size t cs := heap_alloc_new W _
theorem HasC.kept {W W' : World} {row : Option Nat} {b : Nat} {t : TypeId} {cs : Array Value} (h : HasC W b t cs) (hg : W.grownBy W' row) (hne : some b ≠ row) : HasC W' b t cs := (hg.block b h.lt hne).trans h
theorem HasC.alloc {W : World} {b : Nat} {t : TypeId} {cs : Array Value} (h : HasC W b t cs) (o : Obj) : HasC (W.alloc o) b t cs := h.kept (World.grownBy_alloc W o none) (by simp)
theorem HasC.below {W W' : World} {b : Nat} {t : TypeId} {cs : Array Value} (h : HasC W b t cs) (hb : Below W.heap.size W W') : HasC W' b t cs := (hb.block b h.lt).trans h
theorem HasC.cell {W : World} {b : Nat} {t : TypeId} {cs : Array Value} (h : HasC W b t cs) (i : Nat) {v : Value} (hv : cs[i]? = some v) : W.cell? ⟨b, i, none⟩ = some v := (cell_of_row W b i cs t (0, 0) h).trans hv
theorem HasC.frozen {W : World} {b : Nat} {t : TypeId} {cs : Array Value} (h : HasC W b t cs) (i : Nat) : W.frozen? ⟨b, i, none⟩ = false := by
  simp [World.frozen?, show W.heap[b]? = _ from h]
theorem HasC.other {W : World} {b : Nat} {t : TypeId} {cs : Array Value} (h : HasC W b t cs) {p : Addr} (hne : b ≠ p.block) (u : Value) : HasC (W.setCell p u) b t cs := (Below.heap_setCell W p u b hne).trans h
theorem HasC.set {W : World} {b : Nat} {t : TypeId} {cs : Array Value} (h : HasC W b t cs) (i : Nat) (u : Value) : HasC (W.setCell ⟨b, i, none⟩ u) b t (cs.setIfInBounds i u) := by
  obtain ⟨hlt, hk⟩ := Array.getElem?_eq_some_iff.1 h
  show (W.heap.modify b _)[b]? = _
  rw [Array.getElem?_eq_getElem (by rw [Array.size_modify]; exact hlt), Array.getElem_modify_self, hk]
  rfl
theorem facts2 {W : World} {b : Nat} {t : TypeId} {x y : Value} (h : HasC W b t #[x, y]) : W.cell? ⟨b, 0, none⟩ = some x ∧ W.cell? ⟨b, 1, none⟩ = some y ∧ W.frozen? ⟨b, 0, none⟩ = false ∧ W.frozen? ⟨b, 1, none⟩ = false :=
  ⟨h.cell 0 rfl, h.cell 1 rfl, h.frozen 0, h.frozen 1⟩
/-- The end of a walk whose answer lies in a cell of its own: two stores. -/
theorem stored2 {w w2 : World} {b : Nat} {t : TypeId} {p q : Value} (h : HasC w2 b t #[p, q]) (hB : Below w.heap.size w w2) (hb : w.heap.size ≤ b) (x y : Int) :
    ((w2.setCell ⟨b, 0, none⟩ (.int .i64 x)).setCell ⟨b, 1, none⟩ (.int .i64 y)).cell? ⟨b, 0, none⟩ = some (.int .i64 x) ∧ ((w2.setCell ⟨b, 0, none⟩ (.int .i64 x)).setCell ⟨b, 1, none⟩ (.int .i64 y)).cell? ⟨b, 1, none⟩ = some (.int .i64 y) ∧
    Below w.heap.size w ((w2.setCell ⟨b, 0, none⟩ (.int .i64 x)).setCell ⟨b, 1, none⟩ (.int .i64 y)) := by
  have h3 := (h.set 0 (.int .i64 x)).set 1 (.int .i64 y)
  exact ⟨h3.cell 0 rfl, h3.cell 1 rfl, (hB.setCell (p := ⟨b, 0, none⟩) hb _).setCell (p := ⟨b, 1, none⟩) hb _⟩
theorem ret_span {a b c d : Int} (h : a = b) (h' : c = d) : Ending.returned (.agg #[.int .i64 a, .int .i64 c]) = .returned (.agg #[.int .i64 b, .int .i64 d]) := by rw [h, h']

/-- A span is whole. -/
def whB (x y : Int) : Bool := decide (x ≤ y) && (wd x && wd y)
theorem whB_iff {x y : Int} : whB x y = true ↔ x ≤ y ∧ -2147483648 ≤ x ∧ x ≤ 2147483647 ∧ -2147483648 ≤ y ∧ y ≤ 2147483647 := by
  simp [whB, wd_iff, and_assoc]
def hasB (x y z : Int) : Bool := decide (x ≤ z) && decide (z ≤ y)
theorem hasB_iff {x y z : Int} : hasB x y z = true ↔ x ≤ z ∧ z ≤ y := by simp [hasB]

theorem whole_any (x y : Int) (w : World) :
    Calls Tryz.prog 166 #[.agg #[.int .i64 x, .int .i64 y]] w fun e w' => e = .returned (.bool (whB x y)) ∧ Below w.heap.size w w' := by
  have HB := hide (bel1 w (.cells #[.int .i64 x, .int .i64 y] 74))
  by_cases h1 : x ≤ y
  · have d1 : decide (x ≤ y) = true := by simp [h1]
    cases h2 : wd x
    · go_enter Tryz.func166, Tryz.ntmps166
      go_wp2_with (go_at_call 130; refine (word_any _ _).mono ?_; rintro e w' ⟨rfl, rfl⟩)
      go_ret
      exact ⟨ret_bool (by simp [whB, h1, h2]), HB.out⟩
    · go_enter Tryz.func166, Tryz.ntmps166
      go_wp2_with (go_at_call 130; refine (word_any _ _).mono ?_; rintro e w' ⟨rfl, rfl⟩)
      go_ret
      exact ⟨ret_bool (by simp [whB, h1, h2]), HB.out⟩
  · have d1 : decide (x ≤ y) = false := by simp [h1]
    go_enter Tryz.func166, Tryz.ntmps166
    go_wp2_with (go_at_call 130; refine (word_any _ _).mono ?_; rintro e w' ⟨rfl, rfl⟩)
    go_ret
    exact ⟨ret_bool (by simp [whB, show ¬ x ≤ y by omega]), HB.out⟩

theorem has_any (x y z : Int) (w : World) :
    Calls Tryz.prog 223 #[.agg #[.int .i64 x, .int .i64 y], .int .i64 z] w fun e w' => e = .returned (.bool (hasB x y z)) ∧ Below w.heap.size w w' := by
  have HB := hide (bel1 w (.cells #[.int .i64 x, .int .i64 y] 74))
  by_cases h1 : x ≤ z
  · have d1 : decide (x ≤ z) = true := by simp [h1]
    go_enter Tryz.func223, Tryz.ntmps223
    go_wp2
    go_ret
    exact ⟨ret_bool (by simp [hasB, h1]), HB.out⟩
  · have d1 : decide (x ≤ z) = false := by simp [h1]
    go_enter Tryz.func223, Tryz.ntmps223
    go_wp2
    go_ret
    exact ⟨ret_bool (by simp [hasB, show ¬ x ≤ z by omega]), HB.out⟩

theorem alone_any (n : Int) (w : World) :
    Calls Tryz.prog 190 #[.int .i64 n] w fun e w' => e = .returned (.agg #[.int .i64 n, .int .i64 n]) ∧ Below w.heap.size w w' := by
  go_enter Tryz.func190, Tryz.ntmps190
  go_wp2
  exact bodyPost_ret (v := .agg #[.int .i64 n, .int .i64 n]) (by simp [results, Tryz.results190, go_sem]) rfl ⟨rfl, bel1 _ _⟩

/-- Three blocks of a span each, the last one the answer's. -/
theorem bel3 (w : World) (o1 o2 : Obj) (x y : Int) : Below w.heap.size w (((w.alloc o1).alloc o2).alloc (.cells #[.int .i64 x, .int .i64 y] 74)) :=
  (((Below.refl _ _).alloc (Nat.le_refl _) _).alloc (by simp) _).alloc (by simp; omega) _

theorem join_any (a b c d : Int) (w : World) :
    Calls Tryz.prog 225 #[.agg #[.int .i64 a, .int .i64 b], .agg #[.int .i64 c, .int .i64 d]] w fun e w' => e = .returned (.agg #[.int .i64 (min a c), .int .i64 (max b d)]) ∧ Below w.heap.size w w' := by
  go_enter Tryz.func225, Tryz.ntmps225
  go_wp2
  all_goals exact bodyPost_ret (v := .agg #[.int .i64 (min a c), .int .i64 (max b d)]) (by simp [results, Tryz.results225, go_sem]; omega) rfl ⟨rfl, bel3 _ _ _ _ _⟩

theorem rwhole_any (x y : Int) (w : World) :
    Calls Tryz.prog 52 #[.agg #[.int .i64 x, .int .i64 y]] w fun e w' => e = .returned (.bool (whB x y)) ∧ Below w.heap.size w w' := by
  have HB := hide (bel1 w (.cells #[.int .i64 x, .int .i64 y] 74))
  by_cases h1 : x ≤ y
  · have d1 : decide (x ≤ y) = true := by simp [h1]
    cases h2 : wd x
    · go_enter Tryz.func52, Tryz.ntmps52
      go_wp2_with (go_at_call 88; refine (rword_any _ _).mono ?_; rintro e w' ⟨rfl, rfl⟩)
      go_ret
      exact ⟨ret_bool (by simp [whB, h1, h2]), HB.out⟩
    · go_enter Tryz.func52, Tryz.ntmps52
      go_wp2_with (go_at_call 88; refine (rword_any _ _).mono ?_; rintro e w' ⟨rfl, rfl⟩)
      go_ret
      exact ⟨ret_bool (by simp [whB, h1, h2]), HB.out⟩
  · have d1 : decide (x ≤ y) = false := by simp [h1]
    go_enter Tryz.func52, Tryz.ntmps52
    go_wp2_with (go_at_call 88; refine (rword_any _ _).mono ?_; rintro e w' ⟨rfl, rfl⟩)
    go_ret
    exact ⟨ret_bool (by simp [whB, show ¬ x ≤ y by omega]), HB.out⟩

theorem rhas_any (x y z : Int) (w : World) :
    Calls Tryz.prog 92 #[.agg #[.int .i64 x, .int .i64 y], .int .i64 z] w fun e w' => e = .returned (.bool (hasB x y z)) ∧ Below w.heap.size w w' := by
  have HB := hide (bel1 w (.cells #[.int .i64 x, .int .i64 y] 74))
  by_cases h1 : z < x
  · have d1 : decide (z < x) = true := by simp [h1]
    go_enter Tryz.func92, Tryz.ntmps92
    go_wp2
    go_ret
    exact ⟨ret_bool (by simp [hasB, show ¬ x ≤ z by omega]), HB.out⟩
  · have d1 : decide (z < x) = false := by simp [h1]
    go_enter Tryz.func92, Tryz.ntmps92
    go_wp2
    go_ret
    exact ⟨ret_bool (by by_cases h2 : z ≤ y <;> simp [hasB, h2, show x ≤ z by omega] <;> omega), HB.out⟩

/-- A number of a whole span, by a number that says which. -/
def ptZ (x y n : Int) : Int := x + (if n.tmod (y - x + 1) < 0 then n.tmod (y - x + 1) + (y - x + 1) else n.tmod (y - x + 1))
theorem ptZ_in {x y n : Int} (h : x ≤ y) : x ≤ ptZ x y n ∧ ptZ x y n ≤ y := by
  have h1 := Int.lt_tmod_of_pos n (show 0 < y - x + 1 by omega)
  have h2 := Int.tmod_lt_of_pos n (show 0 < y - x + 1 by omega)
  unfold ptZ
  split <;> omega

end Go.Proofs.YtihbhbeaihdgnaaGreat.Spn

/-
  The bitwise operators on whole numbers, digit by digit.
-/
namespace Go.Proofs.YtihbhbeaihdgnaaGreat.Spn
open Go.RowKit Go.IntWalk
set_option linter.unusedVariables false

/-- The three operators. -/
abbrev Bop := Option Bool
abbrev Bop.and : Bop := none
abbrev Bop.or : Bop := some false
abbrev Bop.xor : Bop := some true
def Bop.op (o : Bop) : BinOp := match o with | none => .and | some false => .or | some true => .xor
def Bop.bv (o : Bop) (x y : BitVec 64) : BitVec 64 := match o with | none => x &&& y | some false => x ||| y | some true => x ^^^ y
def Bop.dig (o : Bop) (p q : Int) : Int := match o with | none => p * q | some false => p + q - p * q | some true => (p + q) % 2

def bw (o : Bop) (a b : Int) : Int := bits o.op .i64 a b

theorem bw_eq (o : Bop) (a b : Int) : bw o a b = (o.bv (BitVec.ofInt 64 a) (BitVec.ofInt 64 b)).toInt := by
  have h : bw o a b = IntKind.i64.wrap ((o.bv (BitVec.ofInt 64 a) (BitVec.ofInt 64 b)).toNat : Int) := by rcases o with _ | _ | _ <;> rfl
  rw [h]
  generalize o.bv (BitVec.ofInt 64 a) (BitVec.ofInt 64 b) = z
  have h1 := z.isLt
  rw [BitVec.toInt_eq_toNat_cond]
  simp [IntKind.wrap, IntKind.bits, IntKind.signed]
  split <;> omega

theorem half_bv (z : BitVec 64) : z.toInt = (z.toNat % 2 : Nat) + 2 * (z.sshiftRight 1).toInt := by
  rw [BitVec.toInt_sshiftRight, Int.shiftRight_eq_div_pow, BitVec.toInt_eq_toNat_cond]
  split <;> omega

theorem half_ofInt (a : Int) (ha : -9223372036854775808 ≤ a ∧ a ≤ 9223372036854775807) : (BitVec.ofInt 64 a).sshiftRight 1 = BitVec.ofInt 64 (a / 2) := by
  apply BitVec.eq_of_toInt_eq
  rw [BitVec.toInt_sshiftRight, Int.shiftRight_eq_div_pow, BitVec.toInt_ofInt, BitVec.toInt_ofInt]
  simp only [Int.bmod]
  omega

theorem bit_ofInt (a : Int) : (((BitVec.ofInt 64 a).toNat % 2 : Nat) : Int) = a % 2 := by
  rw [BitVec.toNat_ofInt]
  omega

theorem dig_nat (o : Bop) (x y : BitVec 64) : (((o.bv x y).toNat % 2 : Nat) : Int) = o.dig ((x.toNat % 2 : Nat) : Int) ((y.toNat % 2 : Nat) : Int) := by
  have hx : x.toNat % 2 = 0 ∨ x.toNat % 2 = 1 := by omega
  have hy : y.toNat % 2 = 0 ∨ y.toNat % 2 = 1 := by omega
  rcases o with _ | _ | _
  · have h : (x.toNat &&& y.toNat) % 2 = (x.toNat % 2) * (y.toNat % 2) := by
      have h1 := Nat.and_mod_two_eq_one (a := x.toNat) (b := y.toNat)
      rcases hx with hx | hx <;> rcases hy with hy | hy <;> rw [hx, hy] at h1 ⊢ <;> omega
    show (((x &&& y).toNat % 2 : Nat) : Int) = _
    rw [BitVec.toNat_and, h]
    rcases hx with hx | hx <;> rcases hy with hy | hy <;> rw [hx, hy] <;> decide
  · have h : (x.toNat ||| y.toNat) % 2 = x.toNat % 2 + y.toNat % 2 - (x.toNat % 2) * (y.toNat % 2) := by
      have h1 := Nat.or_mod_two_eq_one (a := x.toNat) (b := y.toNat)
      rcases hx with hx | hx <;> rcases hy with hy | hy <;> rw [hx, hy] at h1 ⊢ <;> omega
    show (((x ||| y).toNat % 2 : Nat) : Int) = _
    rw [BitVec.toNat_or, h]
    rcases hx with hx | hx <;> rcases hy with hy | hy <;> rw [hx, hy] <;> decide
  · have h : (x.toNat ^^^ y.toNat) % 2 = (x.toNat % 2 + y.toNat % 2) % 2 := by
      have h1 := Nat.xor_mod_two_eq_one (a := x.toNat) (b := y.toNat)
      rcases hx with hx | hx <;> rcases hy with hy | hy <;> rw [hx, hy] at h1 ⊢ <;> omega
    show (((x ^^^ y).toNat % 2 : Nat) : Int) = _
    rw [BitVec.toNat_xor, h]
    rcases hx with hx | hx <;> rcases hy with hy | hy <;> rw [hx, hy] <;> decide

theorem shr_bv (o : Bop) (x y : BitVec 64) : (o.bv x y).sshiftRight 1 = o.bv (x.sshiftRight 1) (y.sshiftRight 1) := by
  rcases o with _ | _ | _
  · exact BitVec.sshiftRight_and_distrib ..
  · exact BitVec.sshiftRight_or_distrib ..
  · exact BitVec.sshiftRight_xor_distrib ..

theorem bw_step (o : Bop) (a b : Int) (ha : -9223372036854775808 ≤ a ∧ a ≤ 9223372036854775807) (hb : -9223372036854775808 ≤ b ∧ b ≤ 9223372036854775807) :
    bw o a b = o.dig (a % 2) (b % 2) + 2 * bw o (a / 2) (b / 2) := by
  rw [bw_eq, bw_eq, half_bv, shr_bv, half_ofInt a ha, half_ofInt b hb, dig_nat, bit_ofInt, bit_ofInt]

theorem two_dig (a : Int) : a % 2 = 0 ∨ a % 2 = 1 := by omega

end Go.Proofs.YtihbhbeaihdgnaaGreat.Spn

/-
  The laws of the bitwise operators on numbers of 32 bits.
-/
namespace Go.Proofs.YtihbhbeaihdgnaaGreat.Spn
open Go.RowKit Go.IntWalk
set_option linter.unusedVariables false

theorem bw_induct (P : Int → Int → Prop) (h0 : P 0 0) (h1 : P 0 (-1)) (h2 : P (-1) 0) (h3 : P (-1) (-1))
    (hs : ∀ a b : Int, (-9223372036854775808 ≤ a ∧ a ≤ 9223372036854775807) → (-9223372036854775808 ≤ b ∧ b ≤ 9223372036854775807) → P (a / 2) (b / 2) → P a b) :
    ∀ n : Nat, n ≤ 63 → ∀ a b : Int, (-(2 ^ n : Nat) ≤ a ∧ a < (2 ^ n : Nat)) → (-(2 ^ n : Nat) ≤ b ∧ b < (2 ^ n : Nat)) → P a b := by
  intro n
  induction n with
  | zero =>
    intro _ a b ha hb
    have ha' : a = 0 ∨ a = -1 := by simp at ha; omega
    have hb' : b = 0 ∨ b = -1 := by simp at hb; omega
    rcases ha' with rfl | rfl <;> rcases hb' with rfl | rfl <;> assumption
  | succ n ih =>
    intro hn a b ha hb
    have hp : 2 ^ (n + 1) ≤ 2 ^ 63 := Nat.pow_le_pow_right (by decide) hn
    rw [Nat.pow_succ] at ha hb hp
    exact hs a b (by omega) (by omega) (ih (by omega) _ _ (by omega) (by omega))

theorem bw_32 (P : Int → Int → Prop) (h0 : P 0 0) (h1 : P 0 (-1)) (h2 : P (-1) 0) (h3 : P (-1) (-1))
    (hs : ∀ a b : Int, (-9223372036854775808 ≤ a ∧ a ≤ 9223372036854775807) → (-9223372036854775808 ≤ b ∧ b ≤ 9223372036854775807) → P (a / 2) (b / 2) → P a b)
    {a b : Int} (ha : -2147483648 ≤ a ∧ a ≤ 2147483647) (hb : -2147483648 ≤ b ∧ b ≤ 2147483647) : P a b :=
  bw_induct P h0 h1 h2 h3 hs 31 (by decide) a b (by omega) (by omega)

theorem bw_sum {a b : Int} (ha : -2147483648 ≤ a ∧ a ≤ 2147483647) (hb : -2147483648 ≤ b ∧ b ≤ 2147483647) : bw .and a b + bw .or a b = a + b := by
  refine bw_32 (fun a b => bw .and a b + bw .or a b = a + b) (by decide) (by decide) (by decide) (by decide) ?_ ha hb
  intro a b ha hb h
  show bw .and a b + bw .or a b = a + b
  rw [bw_step .and a b ha hb, bw_step .or a b ha hb]
  simp only [Bop.dig]
  generalize a % 2 * (b % 2) = m
  omega

theorem bw_diff {a b : Int} (ha : -2147483648 ≤ a ∧ a ≤ 2147483647) (hb : -2147483648 ≤ b ∧ b ≤ 2147483647) : bw .or a b - bw .and a b = bw .xor a b := by
  refine bw_32 (fun a b => bw .or a b - bw .and a b = bw .xor a b) (by decide) (by decide) (by decide) (by decide) ?_ ha hb
  intro a b ha hb h
  show bw .or a b - bw .and a b = bw .xor a b
  rw [bw_step .and a b ha hb, bw_step .or a b ha hb, bw_step .xor a b ha hb]
  simp only [Bop.dig]
  rcases two_dig a with e | e <;> rcases two_dig b with f | f <;> rw [e, f] <;> omega

/-- Each digit's answer is a digit. -/
theorem dig_01 (o : Bop) (a b : Int) : 0 ≤ o.dig (a % 2) (b % 2) ∧ o.dig (a % 2) (b % 2) ≤ 1 := by
  rcases o with _ | _ | _ <;> simp only [Bop.dig] <;> rcases two_dig a with e | e <;> rcases two_dig b with f | f <;> rw [e, f] <;> decide

theorem bw_range (o : Bop) (n : Nat) (hn : n ≤ 63) (a b : Int) (ha : -(2 ^ n : Nat) ≤ a ∧ a < (2 ^ n : Nat)) (hb : -(2 ^ n : Nat) ≤ b ∧ b < (2 ^ n : Nat)) : -((2 ^ n : Nat) : Int) ≤ bw o a b ∧ bw o a b < (2 ^ n : Nat) := by
  induction n generalizing a b with
  | zero =>
    have ha' : a = 0 ∨ a = -1 := by simp at ha; omega
    have hb' : b = 0 ∨ b = -1 := by simp at hb; omega
    rcases ha' with rfl | rfl <;> rcases hb' with rfl | rfl <;> rcases o with _ | _ | _ <;> decide
  | succ n ih =>
    have hp : 2 ^ (n + 1) ≤ 2 ^ 63 := Nat.pow_le_pow_right (by decide) hn
    rw [Nat.pow_succ] at ha hb hp ⊢
    have h := ih (by omega) (a / 2) (b / 2) (by omega) (by omega)
    have h2 := dig_01 o a b
    rw [bw_step o a b (by omega) (by omega)]
    omega

theorem bw_wd (o : Bop) {a b : Int} (ha : -2147483648 ≤ a ∧ a ≤ 2147483647) (hb : -2147483648 ≤ b ∧ b ≤ 2147483647) : -2147483648 ≤ bw o a b ∧ bw o a b ≤ 2147483647 := by
  have h := bw_range o 31 (by decide) a b (by omega) (by omega)
  omega

theorem bw_turn {a : Int} (ha : -2147483648 ≤ a ∧ a ≤ 2147483647) : bw .xor a (-1) = -a - 1 := by
  have h := bw_32 (fun a b => b = -1 → bw .xor a b = -a - 1) (fun h => by cases h) (fun _ => by decide) (fun h => by cases h) (fun _ => by decide) (by
    intro a b ha hb h e
    subst e
    have h1 := h (by decide)
    rw [show ((-1 : Int) / 2) = -1 by decide] at h1
    show bw .xor a (-1) = -a - 1
    rw [bw_step .xor a (-1) ha (by omega), show ((-1 : Int) / 2) = -1 by decide, h1]
    simp only [Bop.dig]
    omega) ha (show -2147483648 ≤ (-1 : Int) ∧ (-1 : Int) ≤ 2147483647 by decide)
  exact h rfl

theorem bw_none {a : Int} (ha : -2147483648 ≤ a ∧ a ≤ 2147483647) : bw .and a (-a - 1) = 0 := by
  have h := bw_32 (fun a b => b = -a - 1 → bw .and a b = 0) (fun _ => by decide) (fun _ => by decide) (fun _ => by decide) (fun h => by omega) (by
    intro a b ha hb h e
    have h1 := h (by omega)
    show bw .and a b = 0
    rw [bw_step .and a b ha hb, h1]
    simp only [Bop.dig]
    rcases two_dig a with f | f
    · rw [f]; omega
    · rw [f, show b % 2 = 0 by omega]; decide) ha (show -2147483648 ≤ -a - 1 ∧ -a - 1 ≤ 2147483647 by omega)
  exact h rfl

theorem bw_below {a b : Int} (ha : -2147483648 ≤ a ∧ a ≤ 2147483647) (hb : 0 ≤ b ∧ b ≤ 2147483647) : 0 ≤ bw .and a b ∧ bw .and a b ≤ b := by
  have h := bw_32 (fun a b => 0 ≤ b → 0 ≤ bw .and a b ∧ bw .and a b ≤ b) (fun _ => by decide) (fun _ => by omega) (fun _ => by decide) (fun _ => by omega) (by
    intro a b ha hb h e
    have h1 := h (by omega)
    show 0 ≤ bw .and a b ∧ bw .and a b ≤ b
    rw [bw_step .and a b ha hb]
    simp only [Bop.dig]
    rcases two_dig a with f | f <;> rcases two_dig b with g | g <;> rw [f, g] <;> omega) ha (show -2147483648 ≤ b ∧ b ≤ 2147483647 by omega)
  exact h hb.1

end Go.Proofs.YtihbhbeaihdgnaaGreat.Spn

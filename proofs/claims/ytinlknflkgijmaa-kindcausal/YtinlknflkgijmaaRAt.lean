/-
  The walk of the document's own At: the place is found by trying.
-/
import Derived.Test.YtinlknflkgijmaaSame
import Derived.Test.YtinlknflkgijmaaInp
namespace Go.Proofs.Ytinlknflkgijmaa
open Go.RowKit
set_option linter.unusedVariables false

def inbox (p : Plc) : Prop := (0 ≤ p.back ∧ p.back ≤ 3) ∧ (-2 ≤ p.y ∧ p.y ≤ 1) ∧ (-16 ≤ p.x ∧ p.x ≤ 3) ∧ 1 ≤ p.coords ∧ p.coords ≤ 2
instance (p : Plc) : Decidable (inbox p) := by unfold inbox; infer_instance

/-- None of the places that were tried so far has the number n. -/
def noneYet (f d n b y x c : Int) : Prop :=
  ∀ p, inbox p → (p.back < b ∨ (p.back = b ∧ (p.y < y ∨ (p.y = y ∧ (p.x < x ∨ (p.x = x ∧ p.coords < c)))))) → rnumZ f d p ≠ some n

theorem none_start (f d n : Int) : noneYet f d n 0 (-2) (-16) 1 := fun p hp h => by unfold inbox at hp; omega
theorem none_c {f d n b y x c : Int} (h : noneYet f d n b y x c) (hne : rnumZ f d ⟨b, c, x, y⟩ ≠ some n) : noneYet f d n b y x (c + 1) := fun p hp hb => by
  by_cases e : p = ⟨b, c, x, y⟩
  · rw [e]; exact hne
  · refine h p hp ?_
    have hne' : ¬ (p.back = b ∧ p.coords = c ∧ p.x = x ∧ p.y = y) := fun ⟨h1, h2, h3, h4⟩ => e (by obtain ⟨q1, q2, q3, q4⟩ := p; simp only at h1 h2 h3 h4; rw [h1, h2, h3, h4])
    omega
theorem none_x {f d n b y x : Int} (h : noneYet f d n b y x 3) : noneYet f d n b y (x + 1) 1 := fun p hp hb => h p hp (by unfold inbox at hp; omega)
theorem none_y {f d n b y : Int} (h : noneYet f d n b y 4 1) : noneYet f d n b (y + 1) (-16) 1 := fun p hp hb => h p hp (by unfold inbox at hp; omega)
theorem none_b {f d n b : Int} (h : noneYet f d n b 2 (-16) 1) : noneYet f d n (b + 1) (-2) (-16) 1 := fun p hp hb => h p hp (by unfold inbox at hp; omega)

theorem plcs_box (f d : Int) : ∀ p ∈ plcs f d, inbox p := by
  unfold plcs
  rcases kind3 f d with ⟨hm, rfl⟩ | ⟨hm, rfl⟩ | hm
  · have e : blks 0 d = imageB := by simp [blks, hm]
    rw [e]; decide +kernel
  · have e : blks 1 d = soundB := by simp [blks, hm]
    rw [e]; decide +kernel
  · have e : blks f d = [] := by simp [blks, hm]
    rw [e]; simp [plsAll]

theorem none_end {f d n : Int} (h : noneYet f d n 4 (-2) (-16) 1) : atZ f d n = none := by
  cases hz : atZ f d n with
  | none => rfl
  | some p =>
    have h1 := (at_iff f d n p).1 hz
    obtain ⟨h2, h3⟩ := at_of_num f d p n h1
    have hb := plcs_box f d p (List.mem_of_getElem? h3)
    exact absurd h1 (h p hb (by unfold inbox at hb; omega))

theorem facts4 {W : World} {b : Nat} {t : TypeId} {p : Plc} (h : HasC W b t (pcells p)) :
    W.cell? ⟨b, 0, none⟩ = some (.int .i64 p.back) ∧ W.cell? ⟨b, 1, none⟩ = some (.int .i64 p.coords) ∧ W.cell? ⟨b, 2, none⟩ = some (.int .i64 p.x) ∧ W.cell? ⟨b, 3, none⟩ = some (.int .i64 p.y) ∧
    W.frozen? ⟨b, 0, none⟩ = false ∧ W.frozen? ⟨b, 1, none⟩ = false ∧ W.frozen? ⟨b, 2, none⟩ = false ∧ W.frozen? ⟨b, 3, none⟩ = false :=
  ⟨h.cell 0 rfl, h.cell 1 rfl, h.cell 2 rfl, h.cell 3 rfl, h.frozen 0, h.frozen 1, h.frozen 2, h.frozen 3⟩

/-- The end of a walk whose answer is a place in cells of its own: four stores. -/
theorem stored4 {w w1 w2 : World} {b : Nat} {q : Plc} (h : HasC w2 b 30 (pcells q)) (h1 : Below w.heap.size w w1) (h2 : Below w1.heap.size w1 w2) (hb : w.heap.size ≤ b) (p : Plc) :
    HasC ((((w2.setCell ⟨b, 0, none⟩ (.int .i64 p.back)).setCell ⟨b, 1, none⟩ (.int .i64 p.coords)).setCell ⟨b, 2, none⟩ (.int .i64 p.x)).setCell ⟨b, 3, none⟩ (.int .i64 p.y)) b 30 (pcells p) ∧
    Below w.heap.size w ((((w2.setCell ⟨b, 0, none⟩ (.int .i64 p.back)).setCell ⟨b, 1, none⟩ (.int .i64 p.coords)).setCell ⟨b, 2, none⟩ (.int .i64 p.x)).setCell ⟨b, 3, none⟩ (.int .i64 p.y)) :=
  ⟨(((h.set 0 (.int .i64 p.back)).set 1 (.int .i64 p.coords)).set 2 (.int .i64 p.x)).set 3 (.int .i64 p.y),
   ((((bel h1 h2).setCell (p := ⟨b, 0, none⟩) hb _).setCell (p := ⟨b, 1, none⟩) hb _).setCell (p := ⟨b, 2, none⟩) hb _).setCell (p := ⟨b, 3, none⟩) hb _⟩

set_option maxRecDepth 100000 in
set_option maxHeartbeats 8000000 in
theorem rat_any (f d n : Int) (w : World) :
    Calls Try.prog 23 #[.agg #[.int .i64 f, .int .i64 d], .int .i64 n] w fun e w' => e = .returned (atV f d n) ∧ Below w.heap.size w w' := by
  have HB1 := hide ((bel1 w (.cells #[.int .i64 f, .int .i64 d] 23)).alloc (by simp) (.cells (pcells zp) 30))
  have hR : HasC ((w.alloc (.cells #[.int .i64 f, .int .i64 d] 23)).alloc (.cells (pcells zp) 30)) (w.heap.size + 1) 30 (pcells zp) := by
    have := HasC.new (w.alloc (.cells #[.int .i64 f, .int .i64 d] 23)) 30 (pcells zp)
    rwa [World.size_alloc] at this
  have HR1 := hide hR
  have HK1 := hide ((HasC.new w 23 #[.int .i64 f, .int .i64 d]).alloc (.cells (pcells zp) 30))
  clear hR
  go_enter Try.func23, Try.ntmps23
  go_wp2
  obtain ⟨w1, hw1⟩ : ∃ w1, (w.alloc (.cells #[.int .i64 f, .int .i64 d] 23)).alloc (.cells (pcells zp) 30) = w1 := ⟨_, rfl⟩
  rw [hw1] at HB1 HR1 HK1
  simp only [pcells, zp] at hw1
  rw [hw1]
  clear hw1
  go_loopw [6] (fun bv wr => ∃ b : Int, 0 ≤ b ∧ b ≤ 4 ∧ bv = .int .i64 b ∧ Hid (noneYet f d n b (-2) (-16) 1) ∧ Hid (Below w1.heap.size w1 wr)) (fun bv _ => (4 - intOf bv).toNat)
  case atStart => exact ⟨0, by omega, by omega, rfl, none_start f d n, Below.refl _ _⟩
  case round =>
    obtain ⟨b, hb0, hb1, rfl, HN, HW⟩ := hrel
    by_cases hb : b ≤ 3
    · go_wp2
      generalize wr = wa at HW ⊢
      go_loopw [7] (fun yv wr => ∃ y : Int, -2 ≤ y ∧ y ≤ 2 ∧ yv = .int .i64 y ∧ Hid (noneYet f d n b y (-16) 1) ∧ Hid (Below w1.heap.size w1 wr)) (fun yv _ => (2 - intOf yv).toNat)
      case atStart => exact ⟨-2, by omega, by omega, rfl, HN, HW⟩
      case round =>
        obtain ⟨y, hy0, hy1, rfl, HN1, HW1⟩ := hrel
        by_cases hy : y ≤ 1
        · go_wp2
          generalize wr = wb at HW1 ⊢
          go_loopw [8] (fun xv wr => ∃ x : Int, -16 ≤ x ∧ x ≤ 4 ∧ xv = .int .i64 x ∧ Hid (noneYet f d n b y x 1) ∧ Hid (Below w1.heap.size w1 wr)) (fun xv _ => (4 - intOf xv).toNat)
          case atStart => exact ⟨-16, by omega, by omega, rfl, HN1, HW1⟩
          case round =>
            obtain ⟨x, hx0, hx1, rfl, HN2, HW2⟩ := hrel
            by_cases hx : x ≤ 3
            · go_wp2
              generalize wr = wc at HW2 ⊢
              go_loopw [9] (fun cv wr => ∃ c : Int, 1 ≤ c ∧ c ≤ 3 ∧ cv = .int .i64 c ∧ Hid (noneYet f d n b y x c) ∧ Hid (Below w1.heap.size w1 wr)) (fun cv _ => (3 - intOf cv).toNat)
              case atStart => exact ⟨1, by omega, by omega, rfl, HN2, HW2⟩
              case round =>
                obtain ⟨c, hc0, hc1, rfl, HN3, HW3⟩ := hrel
                by_cases hc : c ≤ 2
                · have HKr := hide ((HK1.out.below HW3.out).alloc (.cells #[.int .i64 b, .int .i64 c, .int .i64 x, .int .i64 y] 30))
                  have HRr := hide ((HR1.out.below HW3.out).alloc (.cells #[.int .i64 b, .int .i64 c, .int .i64 x, .int .i64 y] 30))
                  have HPr := hide (HasC.new wr 30 #[.int .i64 b, .int .i64 c, .int .i64 x, .int .i64 y])
                  have HWr := hide (HW3.out.alloc HW3.out.size (.cells #[.int .i64 b, .int .i64 c, .int .i64 x, .int .i64 y] 30))
                  obtain ⟨k0, k1, -, -⟩ := facts2 HKr.out
                  go_wp2_with fail
                  refine (rnumber_any f d ⟨b, c, x, y⟩ _).mono ?_
                  rintro e w5 ⟨rfl, hb5⟩
                  have HR5 := hide (HRr.out.below hb5)
                  have HP5 := hide (HPr.out.below hb5)
                  have HW5 := hide (bel HWr.out hb5)
                  clear hb5 k0 k1 HKr HRr HPr HWr
                  cases hr : rnumZ f d ⟨b, c, x, y⟩ with
                  | none =>
                    have HNn := hide (none_c HN3.out (by rw [hr]; simp))
                    simp only [optV, Option.getD_none, Option.isSome_none]
                    clear hr
                    go_wp2
                    exact ⟨⟨c + 1, by omega, by omega, rfl, HNn, HW5⟩, by simp [intOf]; omega⟩
                  | some m =>
                    simp only [optV, Option.getD_some, Option.isSome_some]
                    by_cases hmn : m = n
                    · subst hmn
                      have hz := (at_iff f d m ⟨b, c, x, y⟩).2 hr
                      have hV : atV f d m = .tuple #[.agg #[.int .i64 b, .int .i64 c, .int .i64 x, .int .i64 y], .bool true] := by
                        rw [atV, hz]; rfl
                      have HV := hide hV
                      clear hr hz hV
                      obtain ⟨p0, p1, p2, p3, -, -, -, -⟩ := facts4 (p := ⟨b, c, x, y⟩) HP5.out
                      simp only at p0 p1 p2 p3
                      obtain ⟨r0, r1, r2, r3, g0, g1, g2, g3⟩ := facts4 HR5.out
                      go_wp2
                      obtain ⟨h4, hB⟩ := stored4 HR5.out HB1.out HW5.out (by omega) ⟨b, c, x, y⟩
                      obtain ⟨c0, c1, c2, c3, -, -, -, -⟩ := facts4 h4
                      refine bodyPost_ret (v := .tuple #[.agg #[.int .i64 b, .int .i64 c, .int .i64 x, .int .i64 y], .bool true]) ?_ rfl ⟨by rw [HV.out], hB⟩
                      simp only at c0 c1 c2 c3
                      simp [results, Try.results23, go_sem, c0, c1, c2, c3]
                    · have HNn := hide (none_c HN3.out (by rw [hr]; simp [hmn]))
                      have hmn' : (m == n) = false := by simp [hmn]
                      clear hr
                      go_wp2
                      exact ⟨⟨c + 1, by omega, by omega, rfl, HNn, HW5⟩, by simp [intOf]; omega⟩
                · obtain rfl : c = 3 := by omega
                  go_wp2
                  exact ⟨⟨x + 1, by omega, by omega, rfl, none_x HN3.out, HW3⟩, by simp [intOf]; omega⟩
            · obtain rfl : x = 4 := by omega
              go_wp2
              exact ⟨⟨y + 1, by omega, by omega, rfl, none_y HN2.out, HW2⟩, by simp [intOf]; omega⟩
        · obtain rfl : y = 2 := by omega
          go_wp2
          exact ⟨⟨b + 1, by omega, by omega, rfl, none_b HN1.out, HW1⟩, by simp [intOf]; omega⟩
    · obtain rfl : b = 4 := by omega
      have hV : atV f d n = .tuple #[.agg #[.int .i64 0, .int .i64 0, .int .i64 0, .int .i64 0], .bool false] := by
        rw [atV, none_end HN.out]; rfl
      have HV := hide hV
      clear hV
      obtain ⟨r0, r1, r2, r3, g0, g1, g2, g3⟩ := facts4 (HR1.out.below HW.out)
      go_wp2
      obtain ⟨h4, hB⟩ := stored4 (HR1.out.below HW.out) HB1.out HW.out (by omega) zp
      obtain ⟨c0, c1, c2, c3, -, -, -, -⟩ := facts4 h4
      refine bodyPost_ret (v := .tuple #[.agg #[.int .i64 0, .int .i64 0, .int .i64 0, .int .i64 0], .bool false]) ?_ rfl ⟨by rw [HV.out], hB⟩
      simp only [zp] at c0 c1 c2 c3
      simp [results, Try.results23, go_sem, c0, c1, c2, c3]

end Go.Proofs.Ytinlknflkgijmaa

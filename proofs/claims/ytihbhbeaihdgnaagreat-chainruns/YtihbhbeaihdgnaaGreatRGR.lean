/-
  The document's own Value: what it answers, for every operator, every constants and every list of numbers.
-/
import Derived.Test.YtihbhbeaihdgnaaGreatRSpRefE
import Derived.Test.YtihbhbeaihdgnaaGreatRGM
namespace Go.Proofs.YtihbhbeaihdgnaaGreat.Spn
open Go.RowKit Go.IntWalk
set_option linter.unusedVariables false

theorem plain_1 (op k s x : Int) (b off cap : Nat) (w : World) (hcap : 1 ≤ cap) (ho : ar op = 1) (hk : cons op k s = true) (hx : -2147483648 ≤ x ∧ x ≤ 2147483647)
    (c0 : w.cell? ⟨b, off, none⟩ = some (.int .i64 x)) :
    Calls Tryz.prog 131 #[.int .i64 op, .int .i64 k, .int .i64 s, .slice (some ⟨b, off, none⟩) 1 cap] w fun e w' => e = .returned (.tuple #[.int .i64 (ex op k s x 0 0).1, .int .i64 (ex op k s x 0 0).2]) ∧ w' = w := by
  rcases one_cases ho with rfl | rfl | rfl | rfl | rfl | rfl | rfl | rfl
  · exact pl_5 k s x b off cap w hcap hx c0
  · exact pl_6 k s x b off cap w hcap hx c0
  · exact pl_7 k s x b off cap w hcap hx c0
  · exact pl_29 k s x b off cap w hcap hx (inB_iff.1 hk) c0
  · exact pl_30 k s x b off cap w hcap hx (inB_iff.1 hk) c0
  · exact pl_31 k s x b off cap w hcap hx (inB_iff.1 hk) c0
  · exact pl_32 k s x b off cap w hcap hx (wd_iff.1 hk) c0
  · have hk : (inB k 1 4611686018427387904 && inB s 0 62) = true := hk
    rw [Bool.and_eq_true, inB_iff, inB_iff] at hk
    by_cases h0 : x = 0
    · exact pl_33z k s x b off cap w hcap hx hk.1 hk.2 h0 c0
    · by_cases hb : 4611686018427387904 < max x (-x) * k
      · exact pl_33b k s x b off cap w hcap hx hk.1 hk.2 h0 hb c0
      · exact pl_33s k s x b off cap w hcap hx hk.1 hk.2 h0 hb c0

theorem plain_2 (op k s x y : Int) (b off cap : Nat) (w : World) (hcap : 2 ≤ cap) (ho : ar op = 2) (hx : -2147483648 ≤ x ∧ x ≤ 2147483647) (hy : -2147483648 ≤ y ∧ y ≤ 2147483647)
    (c0 : w.cell? ⟨b, off, none⟩ = some (.int .i64 x)) (c1 : w.cell? ⟨b, off + 1, none⟩ = some (.int .i64 y)) :
    Calls Tryz.prog 131 #[.int .i64 op, .int .i64 k, .int .i64 s, .slice (some ⟨b, off, none⟩) 2 cap] w fun e w' => e = .returned (.tuple #[.int .i64 (ex op k s x y 0).1, .int .i64 (ex op k s x y 0).2]) ∧ w' = w := by
  have h := inB_iff.1 (two_cases ho)
  clear ho
  rcases (show op = 8 ∨ op = 9 ∨ op = 10 ∨ op = 11 ∨ op = 12 ∨ op = 13 ∨ op = 14 ∨ op = 15 ∨ op = 16 ∨ op = 17 ∨ op = 18 ∨ op = 19 ∨ op = 20 ∨ op = 21 ∨ op = 22 ∨ op = 23 ∨ op = 24 ∨ op = 25 by omega) with
    rfl | rfl | rfl | rfl | rfl | rfl | rfl | rfl | rfl | rfl | rfl | rfl | rfl | rfl | rfl | rfl | rfl | rfl
  · exact pl_8 k s x y b off cap w hcap hx hy c0 c1
  · exact pl_9 k s x y b off cap w hcap hx hy c0 c1
  · exact pl_10 k s x y b off cap w hcap hx hy c0 c1
  · by_cases h0 : y = 0
    · exact pl_11z k s x y b off cap w hcap hx hy h0 c0 c1
    · exact pl_11 k s x y b off cap w hcap hx hy h0 c0 c1
  · by_cases h0 : y = 0
    · exact pl_12z k s x y b off cap w hcap hx hy h0 c0 c1
    · exact pl_12 k s x y b off cap w hcap hx hy h0 c0 c1
  · rcases (show y < 0 ∨ 31 < y ∨ (0 ≤ y ∧ y ≤ 31) by omega) with h0 | h0 | h0
    · exact pl_13lo k s x y b off cap w hcap hx hy h0 c0 c1
    · exact pl_13hi k s x y b off cap w hcap hx hy h0 c0 c1
    · exact pl_13 k s x y b off cap w hcap hx hy h0 c0 c1
  · rcases (show y < 0 ∨ 31 < y ∨ (0 ≤ y ∧ y ≤ 31) by omega) with h0 | h0 | h0
    · exact pl_14lo k s x y b off cap w hcap hx hy h0 c0 c1
    · exact pl_14hi k s x y b off cap w hcap hx hy h0 c0 c1
    · exact pl_14 k s x y b off cap w hcap hx hy h0 c0 c1
  · exact pl_15 k s x y b off cap w hcap hx hy c0 c1
  · exact pl_16 k s x y b off cap w hcap hx hy c0 c1
  · exact pl_17 k s x y b off cap w hcap hx hy c0 c1
  · exact pl_18 k s x y b off cap w hcap c0 c1
  · exact pl_19 k s x y b off cap w hcap c0 c1
  · exact pl_20 k s x y b off cap w hcap c0 c1
  · exact pl_21 k s x y b off cap w hcap c0 c1
  · exact pl_22 k s x y b off cap w hcap c0 c1
  · exact pl_23 k s x y b off cap w hcap c0 c1
  · exact pl_24 k s x y b off cap w hcap c0 c1
  · exact pl_25 k s x y b off cap w hcap c0 c1

theorem plain_3 (op k s x y z : Int) (b off cap : Nat) (w : World) (hcap : 3 ≤ cap) (ho : ar op = 3)
    (c0 : w.cell? ⟨b, off, none⟩ = some (.int .i64 x)) (c1 : w.cell? ⟨b, off + 1, none⟩ = some (.int .i64 y)) (c2 : w.cell? ⟨b, off + 2, none⟩ = some (.int .i64 z)) :
    Calls Tryz.prog 131 #[.int .i64 op, .int .i64 k, .int .i64 s, .slice (some ⟨b, off, none⟩) 3 cap] w fun e w' => e = .returned (.tuple #[.int .i64 (ex op k s x y z).1, .int .i64 (ex op k s x y z).2]) ∧ w' = w := by
  have h := inB_iff.1 (three_cases ho)
  clear ho
  rcases (show op = 26 ∨ op = 27 ∨ op = 28 by omega) with rfl | rfl | rfl
  · exact pl_26 k s x y z b off cap w hcap c0 c1 c2
  · exact pl_27 k s x y z b off cap w hcap c0 c1 c2
  · exact pl_28 k s x y z b off cap w hcap c0 c1 c2

theorem plain_any (op k s : Int) (a : Option Addr) (n cap : Nat) (xs : List Int) (w : World) (h : Ints w a n cap xs) (hm : mayB op k s xs = true) :
    Calls Tryz.prog 131 #[.int .i64 op, .int .i64 k, .int .i64 s, .slice a n cap] w fun e w' =>
      e = .returned (.tuple #[.int .i64 (ex op k s (xs.getD 0 0) (xs.getD 1 0) (xs.getD 2 0)).1, .int .i64 (ex op k s (xs.getD 0 0) (xs.getD 1 0) (xs.getD 2 0)).2]) ∧ w' = w := by
  simp only [mayB, Bool.and_eq_true, decide_eq_true_eq, List.all_eq_true] at hm
  obtain ⟨⟨⟨m1, m2⟩, m3⟩, m4⟩ := hm
  have hl := h.len
  have h3 := ar_le op
  have hle := h.le
  obtain ⟨b, off, rfl, -, hc⟩ := h.at (by omega)
  have hw : ∀ x ∈ xs, -2147483648 ≤ x ∧ x ≤ 2147483647 := fun x hx => wd_iff.1 (m4 x hx)
  match xs, hl, m2, hc, hw with
  | [x], hl, m2, hc, hw =>
    subst hl
    exact plain_1 op k s x b off cap w hle (by simpa using m2.symm) m3 (hw x (by simp)) (hc 0 (by simp))
  | [x, y], hl, m2, hc, hw =>
    subst hl
    exact plain_2 op k s x y b off cap w hle (by simpa using m2.symm) (hw x (by simp)) (hw y (by simp)) (hc 0 (by simp)) (hc 1 (by simp))
  | [x, y, z], hl, m2, hc, hw =>
    subst hl
    exact plain_3 op k s x y z b off cap w hle (by simpa using m2.symm) (hc 0 (by simp)) (hc 1 (by simp)) (hc 2 (by simp))
  | [], hl, m2, hc, hw => simp at m2; omega
  | _ :: _ :: _ :: _ :: _, hl, m2, hc, hw => simp at m2; omega

def fin (E : Int × Int) : Int × Int := if E.2 = 0 then (if wd E.1 = true then (E.1, 0) else (0, 13)) else (0, E.2)
theorem val_fin {op k s : Int} {xs : List Int} (h : mayB op k s xs = true) : valZ op k s xs = fin (ex op k s (xs.getD 0 0) (xs.getD 1 0) (xs.getD 2 0)) := by
  unfold valZ fin
  rw [if_pos h]

/-- The list is no operator's: refused ahead of its numbers. -/
theorem rvalue_head (op k s : Int) (a : Option Addr) (n cap : Nat) (xs : List Int) (w : World) (h : Ints w a n cap xs) (hm : ¬ (1 ≤ ar op ∧ (n : Int) = ar op ∧ cons op k s = true)) :
    Calls Tryz.prog 93 #[.int .i64 op, .int .i64 k, .int .i64 s, .slice a n cap] w fun e w' => e = .returned (.tuple #[.int .i64 0, .int .i64 1]) ∧ w' = w := by
  clear h
  by_cases h1 : ar op < 1
  · go_enter Tryz.func93, Tryz.ntmps93
    go_wp2_with fail
    refine (rarity_any _ _).mono ?_
    rintro e w' ⟨rfl, rfl⟩
    go_wp2_with fail
    go_ret2
    exact ⟨rfl, rfl⟩
  · by_cases h2 : (n : Int) = ar op
    · have h3 : cons op k s = false := by
        cases h : cons op k s
        · rfl
        · exact absurd ⟨by omega, h2, h⟩ hm
      have h2' : ((n : Int) != ar op) = false := by simp [h2]
      clear hm h2
      go_enter Tryz.func93, Tryz.ntmps93
      go_wp2_with fail
      refine (rarity_any _ _).mono ?_
      rintro e w' ⟨rfl, rfl⟩
      go_wp2_with fail
      refine (rarity_any _ _).mono ?_
      rintro e w' ⟨rfl, rfl⟩
      go_wp2_with fail
      refine (rconstants_any _ _ _ _).mono ?_
      rintro e w' ⟨rfl, rfl⟩
      go_wp2_with fail
      go_ret2
      exact ⟨rfl, rfl⟩
    · have h2' : ((n : Int) != ar op) = true := by simp [h2]
      clear hm h2
      go_enter Tryz.func93, Tryz.ntmps93
      go_wp2_with fail
      refine (rarity_any _ _).mono ?_
      rintro e w' ⟨rfl, rfl⟩
      go_wp2_with fail
      refine (rarity_any _ _).mono ?_
      rintro e w' ⟨rfl, rfl⟩
      go_wp2_with fail
      go_ret2
      exact ⟨rfl, rfl⟩

set_option maxRecDepth 100000 in
set_option maxHeartbeats 2000000 in
theorem rvalue_any (op k s : Int) (a : Option Addr) (n cap : Nat) (xs : List Int) (w : World) (h : Ints w a n cap xs) :
    Calls Tryz.prog 93 #[.int .i64 op, .int .i64 k, .int .i64 s, .slice a n cap] w fun e w' => e = .returned (.tuple #[.int .i64 (valZ op k s xs).1, .int .i64 (valZ op k s xs).2]) ∧ w' = w := by
  have hl := h.len
  by_cases hm : 1 ≤ ar op ∧ (n : Int) = ar op ∧ cons op k s = true
  · obtain ⟨m1, m2, m3⟩ := hm
    have hmb : mayB op k s xs = xs.all wd := by simp [mayB, m1, m3, hl, m2]
    have h2' : ((n : Int) != ar op) = false := by simp [m2]
    have h1 : ¬ ar op < 1 := by omega
    have hm1 : n ≤ 9223372036854775807 := by have := h.le; have := h.max; unfold maxLen at this; omega
    have H := hide h
    have HL := hide hl
    have HMB := hide hmb
    clear hl hmb h m1 m2
    go_enter Tryz.func93, Tryz.ntmps93
    go_wp2_with fail
    refine (rarity_any _ _).mono ?_
    rintro e w' ⟨rfl, rfl⟩
    go_wp2_with fail
    refine (rarity_any _ _).mono ?_
    rintro e w' ⟨rfl, rfl⟩
    go_wp2_with fail
    refine (rconstants_any _ _ _ _).mono ?_
    rintro e w' ⟨rfl, rfl⟩
    go_wp2_with fail
    go_loop [10] (fun i => ∃ j : Nat, j ≤ n ∧ i = .int .i64 j ∧ (xs.take j).all wd = true) (fun i => n - (intOf i).toNat)
    case atStart => exact ⟨0, Nat.zero_le _, rfl, rfl⟩
    case round =>
      obtain ⟨j, hj, rfl, hA⟩ := hrel
      have HA := hide hA
      clear hA
      by_cases hlt : j < n
      · obtain ⟨b1, o1, rfl, _, hc1⟩ := H.out.at (by omega)
        have g1 := hc1 j hlt
        clear hc1
        generalize ea : xs.getD j 0 = x at g1
        have EA := hide ea
        clear ea
        cases hx : wd x
        · have HV : Hid (valZ op k s xs = (0, 1)) := by
            unfold Hid valZ
            rw [if_neg]
            rw [HMB.out]
            simp only [Bool.not_eq_true, List.all_eq_false]
            refine ⟨x, ?_, by simp [hx]⟩
            have e1 := EA.out
            rw [← e1]
            simp [List.getD, HL.out, hlt]
          go_wp2_with fail
          refine (rword_any _ _).mono ?_
          rintro e w' ⟨rfl, rfl⟩
          go_wp2_with fail
          go_ret2
          exact ⟨ret_two (show (0 : Int) = (valZ op k s xs).1 by rw [HV.out]) (show (1 : Int) = (valZ op k s xs).2 by rw [HV.out]), rfl⟩
        · go_wp2_with fail
          refine (rword_any _ _).mono ?_
          rintro e w' ⟨rfl, rfl⟩
          go_wp2_with fail
          go_round
          case rel => exact ⟨j + 1, by omega, by go_num, all_take_succ (by rw [HL.out]; exact hlt) HA.out (by rw [EA.out]; exact hx)⟩
          case measure => simp [intOf]; omega
      · have hall : mayB op k s xs = true := by
          rw [HMB.out]
          have h3 := HA.out
          rw [List.take_of_length_le (by rw [HL.out]; omega)] at h3
          exact h3
        have PL := hide (plain_any op k s a n cap xs _ H.out hall)
        have HV := hide (val_fin hall)
        generalize ex op k s (xs.getD 0 0) (xs.getD 1 0) (xs.getD 2 0) = E at *
        obtain ⟨x, e⟩ := E
        clear hall
        by_cases he : e = 0
        · subst he
          cases hx : wd x
          · have HV2 : Hid (valZ op k s xs = (0, 13)) := hide (by rw [HV.out]; simp [fin, hx])
            go_wp2_with fail
            refine PL.out.mono ?_
            rintro e w' ⟨rfl, rfl⟩
            go_wp2_with fail
            refine (rword_any _ _).mono ?_
            rintro e w' ⟨rfl, rfl⟩
            go_wp2_with fail
            go_ret2
            exact ⟨ret_two (show (0 : Int) = (valZ op k s xs).1 by rw [HV2.out]) (show (13 : Int) = (valZ op k s xs).2 by rw [HV2.out]), rfl⟩
          · have HV2 : Hid (valZ op k s xs = (x, 0)) := hide (by rw [HV.out]; simp [fin, hx])
            go_wp2_with fail
            refine PL.out.mono ?_
            rintro e w' ⟨rfl, rfl⟩
            go_wp2_with fail
            refine (rword_any _ _).mono ?_
            rintro e w' ⟨rfl, rfl⟩
            go_wp2_with fail
            go_ret2
            exact ⟨ret_two (show (x : Int) = (valZ op k s xs).1 by rw [HV2.out]) (show (0 : Int) = (valZ op k s xs).2 by rw [HV2.out]), rfl⟩
        · have HV2 : Hid (valZ op k s xs = (0, e)) := hide (by rw [HV.out]; simp [fin, he])
          have he' : (e != 0) = true := by simp [he]
          clear he
          go_wp2_with fail
          refine PL.out.mono ?_
          rintro r w' ⟨rfl, rfl⟩
          go_wp2_with fail
          go_ret2
          exact ⟨ret_two (show (0 : Int) = (valZ op k s xs).1 by rw [HV2.out]) (show (e : Int) = (valZ op k s xs).2 by rw [HV2.out]), rfl⟩
  · have hv : valZ op k s xs = (0, 1) := by
      unfold valZ
      rw [if_neg]
      intro hb
      simp only [mayB, Bool.and_eq_true, decide_eq_true_eq] at hb
      exact hm ⟨hb.1.1.1, by rw [← hl]; exact hb.1.1.2, hb.1.2⟩
    rw [hv]
    exact rvalue_head op k s a n cap xs w h hm

end Go.Proofs.YtihbhbeaihdgnaaGreat.Spn

/-
  The document's own functions of layer 5: hull and wide.
-/
namespace Go.Proofs.YtihbhbeaihdgnaaGreat.Spn
open Go.RowKit Go.IntWalk Go.Sort
set_option linter.unusedVariables false

def hlo (xs : List Int) : Int := xs.foldl min (xs.getD 0 0)
def hhi (xs : List Int) : Int := xs.foldl max (xs.getD 0 0)

theorem fold_succ {f : Int → Int → Int} {xs : List Int} {z x : Int} {j : Nat} (hj : j < xs.length) (hx : xs.getD j 0 = x) : (xs.take (j + 1)).foldl f z = f ((xs.take j).foldl f z) x := by
  have e : xs[j] = x := by simpa [List.getD, hj] using hx
  rw [List.take_succ_eq_append_getElem hj, e, List.foldl_append]
  rfl

/-- The memory of 'hull'. -/
structure Hu (w W : World) (x y : Int) : Prop where
  r : HasC W w.heap.size 74 #[.int .i64 0, .int .i64 0]
  q : HasC W (w.heap.size + 1) 74 #[.int .i64 x, .int .i64 y]
  bel : Below w.heap.size w W
theorem Hu.drew {w W : World} {x y : Int} (h : Hu w W x y) (n : Nat) : Hu w (W.drewN n) x y := ⟨h.r, h.q, bdrew h.bel n⟩
theorem Hu.lo {w W : World} {x y : Int} (h : Hu w W x y) (x' : Int) : Hu w (W.setCell ⟨w.heap.size + 1, 0, none⟩ (.int .i64 x')) x' y :=
  ⟨h.r.other (p := ⟨w.heap.size + 1, 0, none⟩) (by simp) _, h.q.set 0 _, h.bel.setCell (p := ⟨w.heap.size + 1, 0, none⟩) (by simp) _⟩
theorem Hu.hi {w W : World} {x y : Int} (h : Hu w W x y) (y' : Int) : Hu w (W.setCell ⟨w.heap.size + 1, 1, none⟩ (.int .i64 y')) x y' :=
  ⟨h.r.other (p := ⟨w.heap.size + 1, 1, none⟩) (by simp) _, h.q.set 1 _, h.bel.setCell (p := ⟨w.heap.size + 1, 1, none⟩) (by simp) _⟩

set_option maxRecDepth 100000 in
set_option maxHeartbeats 4000000 in
theorem hull_any (a : Option Addr) (n cap : Nat) (xs : List Int) (w : World) (h : Ints w a n cap xs) (hn : n ≠ 0) (hn4 : n ≤ 4) :
    Calls Tryz.prog 91 #[.slice a n cap] w fun e w' => e = .returned (.agg #[.int .i64 (hlo xs), .int .i64 (hhi xs)]) ∧ Below w.heap.size w w' := by
  have hle := h.le
  have hl := h.len
  obtain ⟨bb, off, rfl, hbb, hcell⟩ := h.at hn
  have HCL := hide hcell
  have HL := hide hl
  have c0 := hcell 0 (by omega)
  rw [Nat.add_zero] at c0
  obtain ⟨x0, hx0⟩ : ∃ x, xs.getD 0 0 = x := ⟨_, rfl⟩
  rw [hx0] at c0
  have HX0 := hide hx0
  have d0 := (cell_old (o := cs 0 0) (i := off) hbb).trans c0
  clear hcell hl hx0 h c0
  have hn0 : (0 : Int) < (n : Int) := by omega
  go_enter Tryz.func91, Tryz.ntmps91
  go_wp2_with fail
  go_region
  have hU : Hu w ((w.alloc (cs 0 0)).alloc (cs x0 x0)).drew x0 x0 := by
    have h1 := (HasC.new w 74 #[.int .i64 0, .int .i64 0]).alloc (cs x0 x0)
    have h2 := HasC.new (w.alloc (cs 0 0)) 74 #[.int .i64 x0, .int .i64 x0]
    simp only [World.size_alloc] at h2
    exact ⟨h1, h2, (((Below.refl _ _).alloc (Nat.le_refl _) _).alloc (by simp) _).trans ⟨rfl, rfl, rfl, Nat.le_refl _, fun _ _ => rfl⟩⟩
  have HU := hide hU
  clear hU d0
  go_wp2_with fail
  go_loopw [4] (fun i wr => ∃ j : Nat, j ≤ n ∧ i = .int .i64 j ∧ Hu w wr ((xs.take j).foldl min x0) ((xs.take j).foldl max x0)) (fun i _ => n - (intOf i).toNat)
  case atStart => exact ⟨0, by omega, rfl, HU.out⟩
  case round =>
    rename World => wi
    obtain ⟨j, hj, rfl, hu⟩ := hrel
    have HUJ := hide hu
    clear hu
    by_cases hlt : j < n
    · have hd1 : decide ((j : Int) < (n : Int)) = true := by simp; omega
      have hj0 : (0 : Int) ≤ (j : Int) := by omega
      have hj1 : (j : Int) < (n : Int) := by omega
      obtain ⟨x, hx⟩ : ∃ x, xs.getD j 0 = x := ⟨_, rfl⟩
      have g1 := (HUJ.out.bel.cell (p := ⟨bb, off + j, none⟩) hbb).trans (HCL.out j hlt)
      rw [hx] at g1
      have f1 := fold_succ (f := min) (z := x0) (by rw [HL.out]; exact hlt) hx
      have f2 := fold_succ (f := max) (z := x0) (by rw [HL.out]; exact hlt) hx
      obtain ⟨p, hp⟩ : ∃ p, (xs.take j).foldl min x0 = p := ⟨_, rfl⟩
      obtain ⟨q, hq⟩ : ∃ q, (xs.take j).foldl max x0 = q := ⟨_, rfl⟩
      rw [hp] at f1
      rw [hq] at f2
      rw [hp, hq] at HUJ
      have HXX := hide hx
      have F1 := hide f1
      have F2 := hide f2
      clear f1 f2 hp hq hx
      obtain ⟨r1, r2, r3, r4⟩ := facts2 HUJ.out.q
      have hbw : bb ≠ w.heap.size + 1 := by omega
      by_cases hxp : x < p <;> by_cases hxq : q < x
      · have e1 : decide (x < p) = true := by simp [hxp]
        have e2 : decide (q < x) = true := by simp [hxq]
        go_wp2_with fail
        go_quiet (fail)
        go_wp2_with fail
        have HV := hide (HUJ.out.drew nq)
        have HV1 := hide (HV.out.lo x)
        obtain ⟨W1, hW1⟩ : ∃ W1, (wi.drewN nq).setCell ⟨w.heap.size + 1, 0, none⟩ (.int .i64 x) = W1 := ⟨_, rfl⟩
        rw [hW1] at HV1 ⊢
        clear hW1
        clear g1 r1 r2 r3 r4
        have g1 := (HV1.out.bel.cell (p := ⟨bb, off + j, none⟩) hbb).trans (HCL.out j hlt)
        rw [HXX.out] at g1
        obtain ⟨r1, r2, r3, r4⟩ := facts2 HV1.out.q
        go_quiet (fail)
        go_wp2_with fail
        go_roundw
        case rel =>
          refine ⟨j + 1, by omega, by go_num, ?_⟩
          rw [F1.out, F2.out, show min p x = x by omega, show max q x = x by omega]
          exact (HV1.out.drew _).hi x
        case measure => simp [intOf]; omega
      · have e1 : decide (x < p) = true := by simp [hxp]
        have e2 : decide (q < x) = false := by simp; omega
        go_wp2_with fail
        go_quiet (fail)
        go_wp2_with fail
        have HV := hide (HUJ.out.drew nq)
        have HV1 := hide (HV.out.lo x)
        obtain ⟨W1, hW1⟩ : ∃ W1, (wi.drewN nq).setCell ⟨w.heap.size + 1, 0, none⟩ (.int .i64 x) = W1 := ⟨_, rfl⟩
        rw [hW1] at HV1 ⊢
        clear hW1
        clear g1 r1 r2 r3 r4
        have g1 := (HV1.out.bel.cell (p := ⟨bb, off + j, none⟩) hbb).trans (HCL.out j hlt)
        rw [HXX.out] at g1
        obtain ⟨r1, r2, r3, r4⟩ := facts2 HV1.out.q
        go_quiet (fail)
        go_wp2_with fail
        go_roundw
        case rel =>
          refine ⟨j + 1, by omega, by go_num, ?_⟩
          rw [F1.out, F2.out, show min p x = x by omega, show max q x = q by omega]
          exact HV1.out.drew _
        case measure => simp [intOf]; omega
      · have e1 : decide (x < p) = false := by simp; omega
        have e2 : decide (q < x) = true := by simp [hxq]
        go_wp2_with fail
        go_quiet (fail)
        go_wp2_with fail
        have HV := hide (HUJ.out.drew nq)
        have HV1 := hide HV.out
        obtain ⟨W1, hW1⟩ : ∃ W1, wi.drewN nq = W1 := ⟨_, rfl⟩
        rw [hW1] at HV1 ⊢
        clear hW1
        clear g1 r1 r2 r3 r4
        have g1 := (HV1.out.bel.cell (p := ⟨bb, off + j, none⟩) hbb).trans (HCL.out j hlt)
        rw [HXX.out] at g1
        obtain ⟨r1, r2, r3, r4⟩ := facts2 HV1.out.q
        go_quiet (fail)
        go_wp2_with fail
        go_roundw
        case rel =>
          refine ⟨j + 1, by omega, by go_num, ?_⟩
          rw [F1.out, F2.out, show min p x = p by omega, show max q x = x by omega]
          exact (HV1.out.drew _).hi x
        case measure => simp [intOf]; omega
      · have e1 : decide (x < p) = false := by simp; omega
        have e2 : decide (q < x) = false := by simp; omega
        go_wp2_with fail
        go_quiet (fail)
        go_wp2_with fail
        have HV := hide (HUJ.out.drew nq)
        have HV1 := hide HV.out
        obtain ⟨W1, hW1⟩ : ∃ W1, wi.drewN nq = W1 := ⟨_, rfl⟩
        rw [hW1] at HV1 ⊢
        clear hW1
        clear g1 r1 r2 r3 r4
        have g1 := (HV1.out.bel.cell (p := ⟨bb, off + j, none⟩) hbb).trans (HCL.out j hlt)
        rw [HXX.out] at g1
        obtain ⟨r1, r2, r3, r4⟩ := facts2 HV1.out.q
        go_quiet (fail)
        go_wp2_with fail
        go_roundw
        case rel =>
          refine ⟨j + 1, by omega, by go_num, ?_⟩
          rw [F1.out, F2.out, show min p x = p by omega, show max q x = q by omega]
          exact HV1.out.drew _
        case measure => simp [intOf]; omega
    · obtain rfl : j = n := by omega
      have hd1 : decide ((j : Int) < (j : Int)) = false := by simp
      have hu := HUJ.out
      rw [List.take_of_length_le (by rw [HL.out]; omega)] at hu
      have e1 : xs.foldl min x0 = hlo xs := by unfold hlo; rw [HX0.out]
      have e2 : xs.foldl max x0 = hhi xs := by unfold hhi; rw [HX0.out]
      rw [e1, e2] at hu
      obtain ⟨p, hp⟩ : ∃ p, hlo xs = p := ⟨_, rfl⟩
      obtain ⟨q, hq⟩ : ∃ q, hhi xs = q := ⟨_, rfl⟩
      rw [hp, hq] at hu
      have HP := hide hp
      have HQ := hide hq
      have HU2 := hide hu
      clear hu hp hq e1 e2
      obtain ⟨r1, r2, -, -⟩ := facts2 HU2.out.q
      obtain ⟨s1, s2, s3, s4⟩ := facts2 HU2.out.r
      go_wp2_with fail
      obtain ⟨t0, t1, hB⟩ := stored2 HU2.out.r HU2.out.bel (Nat.le_refl _) p q
      exact bodyPost_ret (v := .agg #[.int .i64 p, .int .i64 q]) (by simp [results, Tryz.results91, go_sem, t0, t1]) rfl ⟨by rw [HP.out, HQ.out], hB⟩

theorem wide_10 (x y : Int) (w : World) (hx : W32 x) (hy : W32 y) : Calls Tryz.prog 132 #[.int .i64 10, .int .i64 x, .int .i64 y] w fun e w' => e = .returned (.int .i64 (x * y)) ∧ w' = w := by
  have hb := mul_wd (a := x) (b := y) hx (by omega)
  go_enter Tryz.func132, Tryz.ntmps132
  go_wp2
  go_ret
  exact ⟨rfl, rfl⟩

theorem wide_11 (x y : Int) (w : World) (hx : W32 x) (hy : W32 y) (h0 : y ≠ 0) : Calls Tryz.prog 132 #[.int .i64 11, .int .i64 x, .int .i64 y] w fun e w' => e = .returned (.int .i64 (x.tdiv y)) ∧ w' = w := by
  have bd := tdiv_bd x y hx
  rcases (show x < 0 ∨ 0 ≤ x by omega) with ga | ga <;> rcases (show y < 0 ∨ 0 ≤ y by omega) with gb | gb
  · have e : x.tdiv y = -x / -y := by rw [← Int.neg_tdiv_neg, Int.tdiv_eq_ediv_of_nonneg (by omega)]
    rw [e] at bd ⊢
    clear e
    have da : decide (x < 0) = true := by simp; omega
    have db : decide (y < 0) = true := by simp; omega
    obtain ⟨A, hA⟩ : ∃ A, -x = A := ⟨_, rfl⟩
    obtain ⟨B, hB⟩ : ∃ B, -y = B := ⟨_, rfl⟩
    have hA' : 0 ≤ A ∧ A ≤ 2147483648 := by omega
    have hB' : 1 ≤ B := by omega
    rw [hA, hB] at bd ⊢
    go_enter Tryz.func132, Tryz.ntmps132
    go_wp2
    go_ret
    exact ⟨rfl, rfl⟩
  · have e : x.tdiv y = -(-x / y) := by rw [← Int.tdiv_eq_ediv_of_nonneg (by omega), Int.neg_tdiv, Int.neg_neg]
    rw [e] at bd ⊢
    clear e
    have da : decide (x < 0) = true := by simp; omega
    have db : decide (y < 0) = false := by simp; omega
    obtain ⟨A, hA⟩ : ∃ A, -x = A := ⟨_, rfl⟩
    have hA' : 0 ≤ A ∧ A ≤ 2147483648 := by omega
    have hB' : 1 ≤ y := by omega
    rw [hA] at bd ⊢
    go_enter Tryz.func132, Tryz.ntmps132
    go_wp2
    go_ret
    exact ⟨rfl, rfl⟩
  · have e : x.tdiv y = -(x / -y) := by rw [← Int.tdiv_eq_ediv_of_nonneg ga, Int.tdiv_neg, Int.neg_neg]
    rw [e] at bd ⊢
    clear e
    have da : decide (x < 0) = false := by simp; omega
    have db : decide (y < 0) = true := by simp; omega
    obtain ⟨B, hB⟩ : ∃ B, -y = B := ⟨_, rfl⟩
    have hB' : 1 ≤ B := by omega
    rw [hB] at bd ⊢
    go_enter Tryz.func132, Tryz.ntmps132
    go_wp2
    go_ret
    exact ⟨rfl, rfl⟩
  · have e : x.tdiv y = x / y := Int.tdiv_eq_ediv_of_nonneg ga
    rw [e] at bd ⊢
    clear e
    have da : decide (x < 0) = false := by simp; omega
    have db : decide (y < 0) = false := by simp; omega
    have hB' : 1 ≤ y := by omega
    go_enter Tryz.func132, Tryz.ntmps132
    go_wp2
    go_ret
    exact ⟨rfl, rfl⟩

theorem wide_13 (x y : Int) (w : World) (hx : W32 x) (hy : 0 ≤ y ∧ y ≤ 31) : Calls Tryz.prog 132 #[.int .i64 13, .int .i64 x, .int .i64 y] w fun e w' => e = .returned (.int .i64 (x * 2 ^ y.toNat)) ∧ w' = w := by
  have hp := pow_bd y.toNat 31 (by omega)
  have hb := mul_wd (a := x) (b := 2 ^ y.toNat) hx (by omega)
  have HP := fun w => hide (rpower_any y w (by omega))
  obtain ⟨p, hpp⟩ : ∃ p, (2 : Int) ^ y.toNat = p := ⟨_, rfl⟩
  rw [hpp] at HP hp hb ⊢
  clear hpp
  go_enter Tryz.func132, Tryz.ntmps132
  go_wp2_with fail
  refine (HP _).out.mono ?_
  rintro e w2 ⟨rfl, hw⟩
  have hq := hw.symm
  subst hq
  go_wp2_with fail
  go_ret
  exact ⟨rfl, rfl⟩

theorem wide_14 (x y : Int) (w : World) (hx : W32 x) (hy : 0 ≤ y ∧ y ≤ 31) : Calls Tryz.prog 132 #[.int .i64 14, .int .i64 x, .int .i64 y] w fun e w' => e = .returned (.int .i64 (x / 2 ^ y.toNat)) ∧ w' = w := by
  have hp := pow_bd y.toNat 31 (by omega)
  have HP := fun w => hide (rpower_any y w (by omega))
  have HF := fun w => hide (rfloor_any x (2 ^ y.toNat) w (by omega) (by omega))
  obtain ⟨p, hpp⟩ : ∃ p, (2 : Int) ^ y.toNat = p := ⟨_, rfl⟩
  rw [hpp] at HP HF hp ⊢
  clear hpp
  go_enter Tryz.func132, Tryz.ntmps132
  go_wp2_with fail
  refine (HP _).out.mono ?_
  rintro e w2 ⟨rfl, hw⟩
  have hq := hw.symm
  subst hq
  go_wp2_with fail
  refine (HF _).out.mono ?_
  rintro e w2 ⟨rfl, hw⟩
  have hq := hw.symm
  subst hq
  go_wp2_with fail
  go_ret
  exact ⟨rfl, rfl⟩

end Go.Proofs.YtihbhbeaihdgnaaGreat.Spn

/-
  code.Check: which codes may be.
-/
import Derived.Test.YtihbhbeaihdgnaaGreatRGX
import Derived.Test.YtihbhbeaihdgnaaGreatRGB
import Derived.Deep.RegionHeld3
import Derived.Laws.StructEq
import Derived.Deep.QuietTactic
import Derived.Orders
import Derived.Tactics
namespace Go.Proofs.Cde
open Go.RowKit Go.IntWalk YtihbhbeaihdgnaaGreat.Knd
set_option linter.unusedVariables false

/-- An instruction may stand at the place i. -/
def okI (n : In) (i : Nat) : Bool := decide (0 ≤ YtihbhbeaihdgnaaGreat.Spn.ar n.op) && rgs n i && csB n
def okT (L : List In) (k : Nat) : Bool := (List.range k).all fun i => okI (L.getD i i0) i
theorem okT_succ (L : List In) (k : Nat) : okT L (k + 1) = (okT L k && okI (L.getD k i0) k) := by
  simp [okT, List.range_succ]
theorem okT_at {L : List In} {m : Nat} (h : okT L m = true) {k : Nat} (hk : k < m) : okI (L.getD k i0) k = true := by
  simp only [okT, List.all_eq_true, List.mem_range] at h
  exact h k hk
/-- The code may be. -/
def mcB (f d : Int) (L : List In) (out : Int) : Bool := decide (May f d) && YtihbhbeaihdgnaaGreat.Spn.inB L.length 1 200 && YtihbhbeaihdgnaaGreat.Spn.inB out 0 ((L.length : Int) - 1) && okT L L.length
def ccE (f d : Int) (L : List In) (out : Int) : Int := if mcB f d L out = true then 0 else 15

def okE (L : List In) (n : Nat) : Int := if okT L n = true then 0 else 15
theorem okE_bad {L : List In} {n : Nat} (h : okT L n = true → False) : (15 : Int) = okE L n := by unfold okE; rw [if_neg h]
theorem okE_ok {L : List In} {n : Nat} (h : okT L n = true) : (0 : Int) = okE L n := by unfold okE; rw [if_pos h]

theorem kcheck_any (f d : Int) (w : World) : Calls Tryz.prog 101 #[.agg (kd f d)] w fun e w' => e = .returned (.int .i64 (if May f d then 0 else 1)) ∧ Below w.heap.size w w' := by
  by_cases h : May f d
  · rw [if_pos h]; exact check_ok f d w h
  · rw [if_neg h]; exact check_bad f d w h

set_option maxRecDepth 100000 in
set_option maxHeartbeats 4000000 in
theorem ccheck_any (f d out : Int) {a : Option Addr} {n cap : Nat} {L : List In} {W : World} (hL : Ins W a n cap L) :
    Calls Tryz.prog 77 #[.agg (cd f d a n cap out)] W fun e W' => e = .returned (.int .i64 (ccE f d L out)) ∧ Below W.heap.size W W' := by
  have HB0 := hide (bel1 W (.cells (cd f d a n cap out) 26))
  have HC0 := hide (HasC.new W 26 (cd f d a n cap out))
  have hn := hL.short
  have HLn := hide hL.len
  have HK := hide fun w => kcheck_any f d w
  have HWi := hide fun x lo hi w => cwithin_any x lo hi w
  have HL0 := hide hL
  clear hL
  have n1 : -9223372036854775808 ≤ (n : Int) - 1 ∧ (n : Int) - 1 ≤ 9223372036854775807 := by omega
  have n0 : 0 ≤ (n : Int) := by omega
  by_cases hm : May f d
  · rw [if_pos hm] at HK
    cases hc : YtihbhbeaihdgnaaGreat.Spn.inB (n : Int) 1 200
    · rw [show ccE f d L out = 15 by simp [ccE, mcB, HLn.out, hc]]
      go_enter Tryz.func77, Tryz.ntmps77
      go_wp2_with (first
        | (go_at_call 101; refine (HK.out _).mono ?_; rintro e w1 ⟨rfl, hb⟩; have HB1 := hide (bel HB0.out hb); obtain ⟨c0, c1, c2, c3⟩ := four_of (HC0.out.below hb); clear hb)
        | (go_at_call 124; refine (HWi.out _ _ _ _).mono ?_; rintro e w' ⟨rfl, rfl⟩))
      go_ret
      exact ⟨rfl, HB1.out⟩
    · cases ho : YtihbhbeaihdgnaaGreat.Spn.inB out 0 ((n : Int) - 1)
      · rw [show ccE f d L out = 15 by simp [ccE, mcB, HLn.out, ho]]
        go_enter Tryz.func77, Tryz.ntmps77
        go_wp2_with (first
          | (go_at_call 101; refine (HK.out _).mono ?_; rintro e w1 ⟨rfl, hb⟩; have HB1 := hide (bel HB0.out hb); obtain ⟨c0, c1, c2, c3⟩ := four_of (HC0.out.below hb); clear hb)
          | (go_at_call 124; refine (HWi.out _ _ _ _).mono ?_; rintro e w' ⟨rfl, rfl⟩))
        go_ret
        exact ⟨rfl, HB1.out⟩
      · have hE : ccE f d L out = okE L n := by simp [okE, ccE, mcB, HLn.out, ho, hm, hc]
        rw [hE]
        clear hE
        have hcc := YtihbhbeaihdgnaaGreat.Spn.inB_iff.1 hc
        go_enter Tryz.func77, Tryz.ntmps77
        go_wp2_with (first
          | (go_at_call 101; refine (HK.out _).mono ?_; rintro e w1 ⟨rfl, hb⟩; have HB1 := hide (bel HB0.out hb); obtain ⟨c0, c1, c2, c3⟩ := four_of (HC0.out.below hb); clear hb)
          | (go_at_call 124; refine (HWi.out _ _ _ _).mono ?_; rintro e w' ⟨rfl, rfl⟩))
        clear c0 c1 c2 c3 HB0 HC0 HK ho hc
        go_loopw [29] (fun i wr => ∃ k : Nat, k ≤ n ∧ i = .int .i64 k ∧ Hid (okT L k = true) ∧ Hid (Below W.heap.size W wr)) (fun i _ => n - (intOf i).toNat)
        case atStart => exact ⟨0, Nat.zero_le _, rfl, hide rfl, HB1⟩
        case round =>
          obtain ⟨k, hk, rfl, HT, HB⟩ := hrel
          rename World => V
          clear HB1
          by_cases hlt : k < n
          · obtain ⟨g, off, rfl, -, hat⟩ := (HL0.out.later HB.out).at (by omega)
            obtain ⟨e0, e1, e2, e3, e4, e5⟩ := hat k hlt
            clear hat
            have hi0 : (0 : Int) ≤ k := by omega
            have hi1 : (k : Int) < n := by omega
            have hS := okT_succ L k
            have HD := hide fun h => okT_at (L := L) (m := n) h hlt
            generalize L.getD k i0 = m at *
            rw [HT.out, Bool.true_and] at hS
            have HS := hide hS
            clear hS
            have HA := hide fun w => YtihbhbeaihdgnaaGreat.Spn.arity_any m.op w
            have HR := hide fun w => cregisters_any m k (by omega) w
            have HCs := hide fun w => cconstants_any m w
            have HBm := hide (bel HB.out (bel1 V (.cells (ia m) 41)))
            have HG := hide (HasC.new V 41 (ia m))
            by_cases ha : YtihbhbeaihdgnaaGreat.Spn.ar m.op < 0
            · have hF : okI m k = false := by simp [okI]; omega
              have HF := hide hF
              clear hF
              go_wp2_with (go_at_call 69; refine (HA.out _).mono ?_; rintro e w' ⟨rfl, rfl⟩)
              go_ret
              exact ⟨ret_int (okE_bad fun h => by have := HD.out h; rw [HF.out] at this; cases this), HBm.out⟩
            have ha2 : decide (YtihbhbeaihdgnaaGreat.Spn.ar m.op < 0) = false := by simpa using ha
            cases hr : rgs m k
            · have HF : Hid (okI m k = false) := hide (by simp [okI, hr])
              rw [hr] at HR
              go_wp2_with (first
                | (go_at_call 69; refine (HA.out _).mono ?_; rintro e w' ⟨rfl, rfl⟩)
                | (go_at_call 125; refine (HR.out _).mono ?_; rintro e w2 ⟨rfl, hb⟩; have HB2 := hide (bel HBm.out hb); obtain ⟨f0, f1, f2, f3, f4, f5⟩ := six_of (HG.out.below hb); clear hb))
              go_ret
              exact ⟨ret_int (okE_bad fun h => by have := HD.out h; rw [HF.out] at this; cases this), HB2.out⟩
            · rw [hr] at HR
              cases hs : csB m
              · have HF : Hid (okI m k = false) := hide (by simp [okI, hs])
                rw [hs] at HCs
                go_wp2_with (first
                  | (go_at_call 69; refine (HA.out _).mono ?_; rintro e w' ⟨rfl, rfl⟩)
                  | (go_at_call 125; refine (HR.out _).mono ?_; rintro e w2 ⟨rfl, hb⟩; have HB2 := hide (bel HBm.out hb); obtain ⟨f0, f1, f2, f3, f4, f5⟩ := six_of (HG.out.below hb); clear hb)
                  | (go_at_call 126; refine (HCs.out _).mono ?_; rintro e w3 ⟨rfl, hb⟩; have HB3 := hide (bel HB2.out hb); clear hb))
                go_ret
                exact ⟨ret_int (okE_bad fun h => by have := HD.out h; rw [HF.out] at this; cases this), HB3.out⟩
              · have HF : Hid (okI m k = true) := hide (by simp [okI, hs, hr]; omega)
                rw [hs] at HCs
                go_wp2_with (first
                  | (go_at_call 69; refine (HA.out _).mono ?_; rintro e w' ⟨rfl, rfl⟩)
                  | (go_at_call 125; refine (HR.out _).mono ?_; rintro e w2 ⟨rfl, hb⟩; have HB2 := hide (bel HBm.out hb); obtain ⟨f0, f1, f2, f3, f4, f5⟩ := six_of (HG.out.below hb); clear hb)
                  | (go_at_call 126; refine (HCs.out _).mono ?_; rintro e w3 ⟨rfl, hb⟩; have HB3 := hide (bel HB2.out hb); clear hb))
                go_roundw
                case rel => exact ⟨k + 1, by omega, by go_num, hide (by rw [HS.out]; exact HF.out), HB3⟩
                case measure => simp [intOf]; omega
          · obtain rfl : k = n := by omega
            go_wp2_with fail
            go_ret
            exact ⟨ret_int (okE_ok HT.out), HB.out⟩
  · rw [if_neg hm] at HK
    rw [show ccE f d L out = 15 by simp [ccE, mcB, hm]]
    go_enter Tryz.func77, Tryz.ntmps77
    go_wp2_with (go_at_call 101; refine (HK.out _).mono ?_; rintro e w1 ⟨rfl, hb⟩; have HB1 := hide (bel HB0.out hb); obtain ⟨c0, c1, c2, c3⟩ := four_of (HC0.out.below hb); clear hb)
    go_ret
    exact ⟨rfl, HB1.out⟩

end Go.Proofs.Cde

/-
  code.Args and code.input.
-/
namespace Go.Proofs.Cde
open Go.RowKit Go.IntWalk YtihbhbeaihdgnaaGreat.Knd
set_option linter.unusedVariables false

/-- How many registers an instruction reads, and which. -/
def arN (n : In) : Nat := (YtihbhbeaihdgnaaGreat.Spn.ar n.op).toNat
def abc (n : In) : List Int := [n.a, n.b, n.c]
def agL (n : In) : List Int := (abc n).take (arN n)
theorem arN_le (n : In) : arN n ≤ 3 := by have := YtihbhbeaihdgnaaGreat.Spn.ar_le n.op; unfold arN; omega
theorem agL_len (n : In) : (agL n).length = arN n := by have := arN_le n; simp [agL, abc]; omega
theorem arN_max (n : In) : max (YtihbhbeaihdgnaaGreat.Spn.ar n.op) 0 = (arN n : Int) := by unfold arN; omega
theorem ar_five (op : Int) : YtihbhbeaihdgnaaGreat.Spn.ar op = -1 ∨ YtihbhbeaihdgnaaGreat.Spn.ar op = 0 ∨ YtihbhbeaihdgnaaGreat.Spn.ar op = 1 ∨ YtihbhbeaihdgnaaGreat.Spn.ar op = 2 ∨ YtihbhbeaihdgnaaGreat.Spn.ar op = 3 := by
  unfold YtihbhbeaihdgnaaGreat.Spn.ar
  repeat' split
  all_goals omega
theorem abc_at (n : In) (j : Nat) (h : j < 3) : (abc n).getD j 0 = rgN n j := rfl

set_option maxRecDepth 100000 in
set_option maxHeartbeats 4000000 in
theorem cargs_any (n : In) (W : World) :
    Calls Tryz.prog 85 #[.agg (ia n)] W fun e W' => e = .returned (.slice (some ⟨W.heap.size + 1, 0, none⟩) (arN n) 3) ∧ HasC W' (W.heap.size + 1) 3 (zA (abc n)) ∧ Below W.heap.size W W' := by
  have HA := hide fun W => YtihbhbeaihdgnaaGreat.Spn.arity_any n.op W
  have HB := hide (bel1 W (.cells (ia n) 41))
  have HN0 := hide (HasC.new W 41 (ia n))
  obtain ⟨f0, f1, f2, f3, f4, f5⟩ := six_of (HasC.new W 41 (ia n))
  have hz : W.heap.size < (W.alloc (.cells (ia n) 41)).heap.size := by simp
  rcases ar_five n.op with h | h | h | h | h
  all_goals
    first
      | rw [show arN n = 0 by unfold arN; rw [h]; rfl]
      | rw [show arN n = 1 by unfold arN; rw [h]; rfl]
      | rw [show arN n = 2 by unfold arN; rw [h]; rfl]
      | rw [show arN n = 3 by unfold arN; rw [h]; rfl]
    rw [h] at HA
    clear h
    go_enter Tryz.func85, Tryz.ntmps85
    go_wp2_with fail
    go_region_held3 (fun w' => w'.cell? ⟨W.heap.size, 0, none⟩ = some (.int .i64 n.op) ∧ w'.cell? ⟨W.heap.size, 1, none⟩ = some (.int .i64 n.a) ∧ w'.cell? ⟨W.heap.size, 2, none⟩ = some (.int .i64 n.b) ∧ w'.cell? ⟨W.heap.size, 3, none⟩ = some (.int .i64 n.c))
      (first | exact ⟨f0, f1, f2, f3⟩ | go_keep)
      ((first
        | (go_at_call 69; refine (HA.out _).mono ?_; rintro e w2 ⟨rfl, rfl⟩)))
    all_goals
      have h5 := HasC.new (W.alloc (.cells (ia n) 41)) 3 (zA (abc n))
      rw [World.size_alloc] at h5
      have hb5 := (bel1 (W.alloc (.cells (ia n) 41)) (.cells (zA (abc n)) 3)).drew
      have HG := hide (h5.below (below_drew _))
      have HB1 := hide (bel HB.out hb5)
      clear h5 hb5
      go_wp2_with fail
      go_ret
      exact ⟨rfl, HG.out, HB1.out⟩

end Go.Proofs.Cde

/-
  Codes alike: slices.Equal, code.Same, the document's Same.
-/
namespace Go.Proofs.Cde
open Go.RowKit Go.IntWalk YtihbhbeaihdgnaaGreat.Knd
set_option linter.unusedVariables false

theorem all_ext {α : Type} {L M : List α} (d : α) (hl : L.length = M.length) (h : ∀ j, j < L.length → L.getD j d = M.getD j d) : L = M := by
  apply List.ext_getElem hl
  intro j h1 h2
  have := h j h1
  rw [List.getD_eq_getElem?_getD, List.getD_eq_getElem?_getD, List.getElem?_eq_getElem h1, List.getElem?_eq_getElem h2] at this
  exact this
theorem all_next {α : Type} {L M : List α} {d : α} {k : Nat} (h : ∀ j, j < k → L.getD j d = M.getD j d) (h2 : L.getD k d = M.getD k d) : ∀ j, j < k + 1 → L.getD j d = M.getD j d := by
  intro j hj
  rcases Nat.lt_succ_iff_lt_or_eq.1 hj with h1 | rfl
  · exact h j h1
  · exact h2

set_option maxRecDepth 100000 in
theorem kd_run (f d g e : Int) (w : World) : (Op.equalIn 10000 23 (.agg (kd f d)) (.agg (kd g e))).run Tryz.prog w = .ok (decide (f = g) && decide (d = e)) w := by
  have u3 := Tryz.underlying3
  have a3 := Tryz.isAgg3
  have z3 := Tryz.sizeOf3
  have hS : Tryz.prog.underlying 23 = some (.struct (Tryz.prog.fieldsOf 23)) := by kernel_rfl
  have hp : Tryz.prog.stoodInHeld 23 = false := by kernel_rfl
  rw [show (10000 : Nat) = 9999 + 1 from rfl, run_equalIn_agg w 9999 23 _ _ hS hp]
  simp only [Program.fieldsOf, Tryz.underlying23]
  go_simp
  by_cases h1 : f = g <;> by_cases h2 : d = e <;> simp [h1, h2]
set_option maxRecDepth 100000 in
theorem in_run (n m : In) (w : World) : (Op.equalIn 10000 41 (.agg (ia n)) (.agg (ia m))).run Tryz.prog w = .ok (decide (n = m)) w := by
  have u3 := Tryz.underlying3
  have a3 := Tryz.isAgg3
  have z3 := Tryz.sizeOf3
  have hS : Tryz.prog.underlying 41 = some (.struct (Tryz.prog.fieldsOf 41)) := by kernel_rfl
  have hp : Tryz.prog.stoodInHeld 41 = false := by kernel_rfl
  rw [show (10000 : Nat) = 9999 + 1 from rfl, run_equalIn_agg w 9999 41 _ _ hS hp]
  simp only [Program.fieldsOf, Tryz.underlying41]
  obtain ⟨z0, z1, z2, z3, z4, z5⟩ := n
  obtain ⟨y0, y1, y2, y3, y4, y5⟩ := m
  go_simp
  by_cases h0 : z0 = y0
  · by_cases h1 : z1 = y1
    · by_cases h2 : z2 = y2
      · by_cases h3 : z3 = y3
        · by_cases h4 : z4 = y4
          · by_cases h5 : z5 = y5
            · simp [h0, h1, h2, h3, h4, h5]
            · simp [h0, h1, h2, h3, h4, h5]
          · simp [h0, h1, h2, h3, h4]
        · simp [h0, h1, h2, h3]
      · simp [h0, h1, h2]
    · simp [h0, h1]
  · simp [h0]

end Go.Proofs.Cde

/-
  code.Same and the document's Same.
-/
namespace Go.Proofs.Cde
open Go.RowKit Go.IntWalk YtihbhbeaihdgnaaGreat.Knd
set_option linter.unusedVariables false

/-- Two codes are alike. -/
def sameB (f d o : Int) (L : List In) (g e p : Int) (M : List In) : Bool := (decide (f = g) && decide (d = e)) && decide (o = p) && decide (L = M)

set_option maxRecDepth 100000 in
set_option maxHeartbeats 4000000 in
theorem xsame_any (f d o g e p : Int) {a b : Option Addr} {n m c k : Nat} {L M : List In} {W : World} (h1 : Ins W a n c L) (h2 : Ins W b m k M) :
    Calls Tryz.prog 26 #[.agg (cd f d a n c o), .agg (cd g e b m k p)] W fun r W' => r = .returned (.bool (sameB f d o L g e p M)) ∧ Below W.heap.size W W' := by
  have hb1 := bel (bel1 W (.cells (cd f d a n c o) 26)) (bel1 (W.alloc (.cells (cd f d a n c o) 26)) (.cells (cd g e b m k p) 26))
  have HB := hide hb1
  have HC0 := hide ((HasC.new W 26 (cd f d a n c o)).alloc (.cells (cd g e b m k p) 26))
  have HD0 := hide (has_new1 W (.cells (cd f d a n c o) 26) 26 (cd g e b m k p))
  have HL1 := hide h1.len
  have HL2 := hide h2.len
  have hn1 := h1.short
  have hn2 := h2.short
  have H1 := hide (h1.later hb1)
  have H2 := hide (h2.later hb1)
  clear hb1 h1 h2
  have hrun := kd_run f d g e
  unfold sameB
  cases hk : decide (f = g) && decide (d = e)
  · rw [hk] at hrun
    go_enter Tryz.func26, Tryz.ntmps26
    go_wp2_with fail
    go_ret
    exact ⟨ret_b rfl, HB.out⟩
  rw [hk] at hrun
  by_cases ho : o = p
  · subst ho
    rw [decide_eq_true rfl]
    by_cases hne : n = m
    · subst hne
      go_enter Tryz.func26, Tryz.ntmps26
      go_wp2_with fail
      obtain ⟨V0, hV0⟩ : ∃ V0, (W.alloc (.cells (cd f d a n c o) 26)).alloc (.cells (cd g e b n k o) 26) = V0 := ⟨_, rfl⟩
      rw [hV0] at HB HC0 HD0 H1 H2 ⊢
      clear hV0 hk hrun hn2
      go_loopw [5] (fun i wr => ∃ j q : Nat, j ≤ n ∧ i = .int .i64 j ∧ Hid (∀ q, q < j → L.getD q i0 = M.getD q i0) ∧ wr = V0.drewN q) (fun i _ => n - (intOf i).toNat)
      case atStart => exact ⟨0, 0, Nat.zero_le _, rfl, hide (fun j hj => by omega), rfl⟩
      case round =>
        obtain ⟨j, q, hj, rfl, HT, rfl⟩ := hrel
        obtain ⟨x0, x1, x2, x3⟩ := four_of HC0.out
        obtain ⟨y0, y1, y2, y3⟩ := four_of HD0.out
        by_cases hlt : j < n
        · obtain ⟨b1, o1, rfl, -, hc1⟩ := H1.out.at (by omega)
          obtain ⟨b2, o2, rfl, -, hc2⟩ := H2.out.at (by omega)
          obtain ⟨e0, e1, e2, e3, e4, e5⟩ := hc1 j hlt
          obtain ⟨f0, f1, f2, f3, f4, f5⟩ := hc2 j hlt
          clear hc1 hc2
          have hi0 : (0 : Int) ≤ j := by omega
          have hi1 : (j : Int) < n := by omega
          have HN := hide fun h => all_next HT.out (k := j) h
          have hrun := in_run (L.getD j i0) (M.getD j i0)
          have HG : Hid (L = M → L.getD j i0 = M.getD j i0) := hide fun h => by rw [h]
          generalize L.getD j i0 = x at *
          generalize M.getD j i0 = y at *
          by_cases he : x = y
          · have HE := hide he
            rw [decide_eq_true he] at hrun
            clear he
            go_wp2_with fail
            go_quiet (fail)
            go_wp2_with fail
            go_roundw
            case rel => exact ⟨j + 1, _, by omega, by go_num, hide (HN.out HE.out), rfl⟩
            case measure => simp [intOf]; omega
          · have HE := hide he
            rw [decide_eq_false he] at hrun
            clear he
            go_wp2_with fail
            go_quiet (fail)
            go_wp2_with fail
            go_ret
            refine ⟨ret_b ?_, bel HB.out (by rw [World.drewN_drewN]; exact below_dN _ _)⟩
            rw [decide_eq_false fun h => HE.out (HG.out h)]
            rfl
        · obtain rfl : j = n := by omega
          have HE := hide (all_ext i0 (HL1.out.trans HL2.out.symm) fun j hj => HT.out j (by have := HL1.out; omega))
          go_wp2_with fail
          go_ret
          refine ⟨ret_b ?_, bel HB.out (below_dN _ _)⟩
          rw [decide_eq_true HE.out]
          rfl
    · have hne' : ((n : Int) != (m : Int)) = true := by simp; omega
      have HE : Hid (¬ L = M) := hide fun h => hne (by rw [← HL1.out, ← HL2.out, h])
      go_enter Tryz.func26, Tryz.ntmps26
      go_wp2_with fail
      go_ret
      exact ⟨ret_b (by rw [decide_eq_false HE.out]; rfl), HB.out⟩
  · have ho2 : (o != p) = true := by simpa using ho
    rw [decide_eq_false ho]
    clear ho
    go_enter Tryz.func26, Tryz.ntmps26
    go_wp2_with fail
    go_ret
    exact ⟨ret_b rfl, HB.out⟩

end Go.Proofs.Cde

/-
  A region that draws its order, by one invariant on what is done, the slots and the world: each operation is looked at once, in whatever order they come.
-/
namespace Go.Proofs.Cde
set_option linter.unusedVariables false

def cnt (n : Nat) (l : Array Bool) : Nat := ((List.range n).filter fun j => !l.getD j true).length
theorem cnt_succ (n : Nat) (l : Array Bool) : cnt (n + 1) l = cnt n l + (if l.getD n true = false then 1 else 0) := by
  unfold cnt
  rw [List.range_succ, List.filter_append, List.length_append]
  congr 1
  cases h : l.getD n true with
  | true => rw [List.filter_cons_of_neg (by rw [h]; decide)]; rfl
  | false => rw [List.filter_cons_of_pos (by rw [h]; rfl)]; rfl
theorem getD_set (l : Array Bool) (i j : Nat) : (l.setIfInBounds i true).getD j true = if j = i then true else l.getD j true := by
  simp only [Array.getD_eq_getD_getElem?, Array.getElem?_setIfInBounds]
  by_cases h : i = j
  · subst h
    rw [if_pos rfl, if_pos rfl]
    split <;> rfl
  · rw [if_neg h, if_neg (fun e => h e.symm)]
theorem cnt_far (l : Array Bool) (i : Nat) : ∀ n, n ≤ i → cnt n (l.setIfInBounds i true) = cnt n l
  | 0, _ => rfl
  | n + 1, h => by
    have hne : ¬ n = i := by omega
    rw [cnt_succ, cnt_succ, cnt_far l i n (by omega), getD_set, if_neg hne]
theorem cnt_set (l : Array Bool) (i : Nat) (h : l.getD i true = false) : ∀ n, i < n → cnt n (l.setIfInBounds i true) + 1 = cnt n l
  | 0, hn => by omega
  | n + 1, hn => by
    rw [cnt_succ, cnt_succ, getD_set]
    by_cases e : i = n
    · subst e
      rw [cnt_far l i i (Nat.le_refl _), if_pos rfl, if_pos h]
      rfl
    · have := cnt_set l i h n (by omega)
      have hne : ¬ n = i := fun e' => e e'.symm
      rw [if_neg hne]
      omega
theorem cnt_zero {n : Nat} {l : Array Bool} (h : cnt n l = 0) : ∀ j, j < n → l.getD j true = true := by
  intro j hj
  unfold cnt at h
  have h2 := List.length_eq_zero_iff.1 h
  rw [List.filter_eq_nil_iff] at h2
  have := h2 j (List.mem_range.2 hj)
  simpa using this
theorem cnt_start (n : Nat) : cnt n (Array.replicate n false) ≤ n := by
  unfold cnt
  refine Nat.le_trans (List.length_filter_le _ _) ?_
  simp
theorem ready_mem {md : Region.Mode} {ops : Array Oper} {listed : Array Bool} {i : Nat} (h : i ∈ Region.ready md ops listed) : i < ops.size ∧ listed.getD i true = false ∧ ∃ o, ops[i]? = some o ∧ ∀ e ∈ o.after, Region.binds md e = true → listed.getD e.on false = true := by
  unfold Region.ready at h
  rw [List.mem_filter, List.mem_range] at h
  obtain ⟨h1, h2⟩ := h
  rw [Bool.and_eq_true] at h2
  refine ⟨h1, by simpa using h2.1, ?_⟩
  cases ho : ops[i]? with
  | none => rw [ho] at h2; simp at h2
  | some o =>
    refine ⟨o, rfl, ?_⟩
    rw [ho] at h2
    have h3 := h2.2
    simp only [Option.map_some, Option.getD_some, Array.all_eq_true] at h3
    intro e he hb
    obtain ⟨k, hk, rfl⟩ := Array.mem_iff_getElem.1 he
    have := h3 k hk
    rw [hb] at this
    simpa using this

theorem wp_region_inv {P : Program} {ops : Array Oper} {Q : Exit → Act → World → Prop} {id : Nat} {a : Act} {w : World} (hm : P.follows .mixedOrders = true) (I : Array Bool → Act → World → Prop)
    (h0 : I (Array.replicate ops.size false) a { w with drawn := w.drawn + 1 })
    (hs : ∀ listed a w i, I listed a w → i ∈ Region.ready .any ops listed → wpOp P ops Q i (I (listed.setIfInBounds i true)) a w)
    (he : ∀ listed a w, I listed a w → Region.ready .any ops listed = [] → Q .normal a w) : (Code.region id ops true).wp P Q a w := by
  refine wp_region_any hm ?_
  have key : ∀ (fuel : Nat) (listed : Array Bool) (a : Act) (w : World), cnt ops.size listed ≤ fuel → I listed a w → wpAny P .any ops Q fuel listed a w := by
    intro fuel
    induction fuel with
    | zero =>
      intro listed a w hc hI
      have hr : Region.ready .any ops listed = [] := by
        rw [List.eq_nil_iff_forall_not_mem]
        intro i hi
        obtain ⟨h1, h2, -⟩ := ready_mem hi
        have := cnt_zero (show cnt ops.size listed = 0 by omega) i h1
        rw [this] at h2
        cases h2
      exact ⟨hr, he listed a w hI hr⟩
    | succ fuel ih =>
      intro listed a w hc hI
      refine ⟨fun hr => he listed a w hI hr, fun i hi => ?_⟩
      obtain ⟨h1, h2, -⟩ := ready_mem hi
      have := cnt_set listed i h2 ops.size h1
      exact wpOp_mono (fun a' w' h' => ih _ a' w' (by omega) h') (hs listed a w i hI hi)
  exact key _ _ _ _ (cnt_start _) h0

end Go.Proofs.Cde

/-
  A region that draws its order, by one invariant on which operations are done: the operation's own step as a list of one operation.
-/
namespace Go.Proofs.Cde
set_option linter.unusedVariables false

theorem wpOp_list {P : Program} {ops : Array Oper} {Q : Exit → Act → World → Prop} {i : Nat} {o : Oper} {K : Act → World → Prop} {a : Act} {w : World} (ho : ops[i]? = some o)
    (h : ∀ Q' : Exit → Act → World → Prop, (∀ a w, K a w → Q' .normal a w) → (∀ e a w, e ≠ .normal → Q e a w → Q' e a w) → wpList P ops Q' [o] a w) : wpOp P ops Q i K a w := by
  have h1 := h (fun e a w => (e = .normal ∧ K a w) ∨ (e ≠ .normal ∧ Q e a w)) (fun a w hk => .inl ⟨rfl, hk⟩) (fun e a w he hq => .inr ⟨he, hq⟩)
  unfold wpOp
  rw [ho]
  unfold wpList at h1
  have hn : ∀ a w, wpList P ops (fun e a w => (e = .normal ∧ K a w) ∨ (e ≠ .normal ∧ Q e a w)) [] a w → K a w := by
    intro a w hh
    rcases hh with ⟨-, hk⟩ | ⟨hne, -⟩
    · exact hk
    · exact absurd rfl hne
  have hl : LetsOut (fun e a w => (e = .normal ∧ K a w) ∨ (e ≠ .normal ∧ Q e a w)) → LetsOut Q := by
    rintro ⟨a, w, hh⟩
    rcases hh with ⟨he, -⟩ | ⟨-, hq⟩
    · cases he
    · exact ⟨a, w, hq⟩
  show if _ then _ else _
  split
  · rename_i hw
    rw [if_pos hw] at h1
    rcases h1 with h1 | ⟨h1, h2⟩
    · refine .inl ?_
      unfold Oper.wp at *
      generalize (execOp a.eval o).run P w = r at *
      cases r with
      | ok n w' =>
        cases n with
        | value v => exact hn _ _ h1
        | skip => exact hn _ _ h1
        | defer d => exact hn _ _ h1
        | enter f args =>
          refine Calls.mono h1 fun e w'' he => ?_
          cases e with
          | returned v => exact hn _ _ he
          | panicked c =>
            rcases he with ⟨he, -⟩ | ⟨-, hq⟩
            · cases he
            · exact hq
          | outgrown => exact hl he
        | row r args => exact Rows.mono h1 fun _ _ he => hn _ _ he
        | _ => exact h1
      | halt x w' =>
        cases x with
        | panic v =>
          rcases h1 with ⟨he, -⟩ | ⟨-, hq⟩
          · cases he
          · exact hq
        | _ => exact h1
    · exact .inr ⟨h1, hl h2⟩
  · rename_i hw
    rw [if_neg hw] at h1
    exact hn _ _ h1

theorem wp_region_flags {P : Program} {ops : Array Oper} {Q : Exit → Act → World → Prop} {id : Nat} {a : Act} {w : World} (hm : P.follows .mixedOrders = true)
    (hord : ∀ (i : Nat) (o : Oper), ops[i]? = some o → ∀ e ∈ o.after, e.on < i) (I : (Nat → Bool) → Act → World → Prop)
    (h0 : I (fun _ => false) a { w with drawn := w.drawn + 1 })
    (hs : ∀ d a w i o, I d a w → d i = false → ops[i]? = some o → (∀ e ∈ o.after, Region.binds .any e = true → d e.on = true) → ∀ Q' : Exit → Act → World → Prop, (∀ a w, I (fun j => j == i || d j) a w → Q' .normal a w) → wpList P ops Q' [o] a w)
    (he : ∀ d a w, I d a w → (∀ i, i < ops.size → d i = true) → Q .normal a w) : (Code.region id ops true).wp P Q a w := by
  refine wp_region_inv hm (fun listed a w => listed.size = ops.size ∧ I (fun j => listed.getD j false) a w) ⟨by simp, ?_⟩ ?_ ?_
  · have : (fun j => (Array.replicate ops.size false).getD j false) = fun _ => false := by
      funext j
      simp only [Array.getD_eq_getD_getElem?, Array.getElem?_replicate]
      split <;> rfl
    rw [this]
    exact h0
  · rintro listed a w i ⟨hsz, hI⟩ hi
    obtain ⟨h1, h2, o, ho, h3⟩ := ready_mem hi
    refine wpOp_list ho fun Q' hk _ => ?_
    refine hs _ a w i o hI ?_ ho h3 Q' fun a w hI' => hk a w ⟨by simp [hsz], ?_⟩
    · have hlt : i < listed.size := by omega
      simpa [Array.getD_eq_getD_getElem?, hlt] using h2
    · have : (fun j => (listed.setIfInBounds i true).getD j false) = fun j => j == i || listed.getD j false := by
        funext j
        simp only [Array.getD_eq_getD_getElem?, Array.getElem?_setIfInBounds]
        by_cases hj : i = j
        · subst hj
          have hlt : i < listed.size := by omega
          simp [hlt]
        · have : (j == i) = false := by simpa using fun e => hj e.symm
          rw [if_neg hj, this]
          simp
      rw [this]
      exact hI'
  · rintro listed a w ⟨hsz, hI⟩ hr
    refine he _ a w hI ?_
    intro i
    induction i using Nat.strongRecOn with
    | _ i ih =>
      intro hi
      cases hd : listed.getD i false with
      | true => rfl
      | false =>
        exfalso
        have hm' : i ∈ Region.ready .any ops listed := by
          unfold Region.ready
          rw [List.mem_filter, List.mem_range]
          refine ⟨hi, ?_⟩
          have hlt : i < listed.size := by omega
          have e1 : listed.getD i true = false := by
            simpa [Array.getD_eq_getD_getElem?, hlt] using hd
          rw [e1]
          obtain ⟨o, ho⟩ : ∃ o, ops[i]? = some o := ⟨ops[i], Array.getElem?_eq_getElem hi⟩
          rw [ho]
          simp only [Option.map_some, Option.getD_some, Bool.not_false, Bool.true_and, Array.all_eq_true]
          intro k hk
          have hlt2 := hord i o ho o.after[k] (Array.getElem_mem hk)
          have := ih o.after[k].on hlt2 (by omega)
          rw [this]
          simp
        rw [hr] at hm'
        cases hm'

/-- The check that each operation waits only for ones ahead. -/
theorem ord_of {ops : Array Oper} (h : (ops.toList.zipIdx.all fun x => x.1.after.all fun e => decide (e.on < x.2)) = true) : ∀ (i : Nat) (o : Oper), ops[i]? = some o → ∀ e ∈ o.after, e.on < i := by
  intro i o ho e he
  rw [List.all_eq_true] at h
  have h1 := h (o, i) (by
    rw [List.mem_zipIdx_iff_getElem?]
    simpa using ho)
  rw [Array.all_eq_true] at h1
  obtain ⟨k, hk, rfl⟩ := Array.mem_iff_getElem.1 he
  simpa using h1 k hk

end Go.Proofs.Cde

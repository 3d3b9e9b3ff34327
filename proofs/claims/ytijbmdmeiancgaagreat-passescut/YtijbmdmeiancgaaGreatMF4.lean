/-
  fold's standsFor and known.
-/
import Derived.Test.YtijbmdmeiancgaaGreatMFB
import Derived.Deep.RegionHeld3
namespace Go.Proofs.Fld
open Go.RowKit Go.IntWalk YtijbmdmeiancgaaGreat.Knd
open Cde (In i0 ia kd cd Ins at6 six_of has_new1 okI below_drew)
set_option linter.unusedVariables false

theorem cell_bel {V V' : World} {g o : Nat} {v : Value} (hb : Below V.heap.size V V') (h : V.cell? ⟨g, o, none⟩ = some v) (hg : g < V.heap.size) : V'.cell? ⟨g, o, none⟩ = some v := (hb.cell (p := ⟨g, o, none⟩) hg).trans h
theorem mixedF : Tryz.prog.follows .mixedOrders = true := by kernel_rfl
theorem ln_0 {M : List In} {m : In} (h : m.op = 8 ∨ m.op = 17) : lnZ M m = [(isN M m.a 0, m.b), (isN M m.b 0, m.a)] := by unfold lnZ; rw [if_pos h]
theorem ln_1 {M : List In} {m : In} (h : m.op = 10) : lnZ M m = [(isN M m.a 1, m.b), (isN M m.b 1, m.a)] := by unfold lnZ; rw [if_neg (by omega), if_pos h]
theorem ln_2 {M : List In} {m : In} (h : m.op = 16) : lnZ M m = [(m.a == m.b, m.a), (isN M m.a 0, m.b), (isN M m.b 0, m.a)] := by unfold lnZ; rw [if_neg (by omega), if_neg (by omega), if_pos h]
theorem ln_3 {M : List In} {m : In} (h : m.op = 15) : lnZ M m = [(m.a == m.b, m.a), (isN M m.a (-1), m.b), (isN M m.b (-1), m.a)] := by unfold lnZ; rw [if_neg (by omega), if_neg (by omega), if_neg (by omega), if_pos h]
theorem ln_4 {M : List In} {m : In} (h : m.op = 24 ∨ m.op = 25) : lnZ M m = [(m.a == m.b, m.a)] := by unfold lnZ; rw [if_neg (by omega), if_neg (by omega), if_neg (by omega), if_neg (by omega), if_pos h]
theorem ln_5 {M : List In} {m : In} (h : m.op = 9 ∨ m.op = 13 ∨ m.op = 14) : lnZ M m = [(isN M m.b 0, m.a)] := by unfold lnZ; rw [if_neg (by omega), if_neg (by omega), if_neg (by omega), if_neg (by omega), if_neg (by omega), if_pos h]
theorem ln_6 {M : List In} {m : In} (h : m.op = 11) : lnZ M m = [(isN M m.b 1, m.a)] := by unfold lnZ; rw [if_neg (by omega), if_neg (by omega), if_neg (by omega), if_neg (by omega), if_neg (by omega), if_neg (by omega), if_pos h]
theorem ln_7 {M : List In} {m : In} (h : m.op = 29 ∨ m.op = 30) : lnZ M m = [(m.k == 0, m.a)] := by unfold lnZ; rw [if_neg (by omega), if_neg (by omega), if_neg (by omega), if_neg (by omega), if_neg (by omega), if_neg (by omega), if_neg (by omega), if_pos h]
theorem ln_8 {M : List In} {m : In} (h : m.op = 32) : lnZ M m = [(m.k == 1, m.a)] := by unfold lnZ; rw [if_neg (by omega), if_neg (by omega), if_neg (by omega), if_neg (by omega), if_neg (by omega), if_neg (by omega), if_neg (by omega), if_neg (by omega), if_pos h]
theorem ln_9 {M : List In} {m : In} (h : m.op = 5) : lnZ M m = [((rg M m.a).op == 5, (rg M m.a).a)] := by unfold lnZ; rw [if_neg (by omega), if_neg (by omega), if_neg (by omega), if_neg (by omega), if_neg (by omega), if_neg (by omega), if_neg (by omega), if_neg (by omega), if_neg (by omega), if_pos h]
theorem ln_10 {M : List In} {m : In} (h : m.op = 6) : lnZ M m = [((rg M m.a).op == 6, m.a)] := by unfold lnZ; rw [if_neg (by omega), if_neg (by omega), if_neg (by omega), if_neg (by omega), if_neg (by omega), if_neg (by omega), if_neg (by omega), if_neg (by omega), if_neg (by omega), if_neg (by omega), if_pos h]
theorem ln_11 {M : List In} {m : In} (h : m.op = 28) : lnZ M m = [(isN M m.a 0, m.c), ((rg M m.a).op == 1, m.b), (m.b == m.c, m.b)] := by unfold lnZ; rw [if_neg (by omega), if_neg (by omega), if_neg (by omega), if_neg (by omega), if_neg (by omega), if_neg (by omega), if_neg (by omega), if_neg (by omega), if_neg (by omega), if_neg (by omega), if_neg (by omega), if_pos h]
theorem ln_12 {M : List In} {m : In} (h : m.op = 27) : lnZ M m = [(m.a == m.b || m.a == m.c, m.a), (m.b == m.c, m.b)] := by unfold lnZ; rw [if_neg (by omega), if_neg (by omega), if_neg (by omega), if_neg (by omega), if_neg (by omega), if_neg (by omega), if_neg (by omega), if_neg (by omega), if_neg (by omega), if_neg (by omega), if_neg (by omega), if_neg (by omega), if_pos h]
theorem ln_13 {M : List In} {m : In} (h : m.op = 26) : lnZ M m = [(m.b == m.c, m.b)] := by unfold lnZ; rw [if_neg (by omega), if_neg (by omega), if_neg (by omega), if_neg (by omega), if_neg (by omega), if_neg (by omega), if_neg (by omega), if_neg (by omega), if_neg (by omega), if_neg (by omega), if_neg (by omega), if_neg (by omega), if_neg (by omega), if_pos h]

set_option maxRecDepth 100000 in
set_option maxHeartbeats 16000000 in
theorem fsf_any (m : In) (own : Int) {va : Option Addr} {vn vc : Nat} {M : List In} {W : World} (hM : Ins W va vn vc M) (ho : okI m vn = true) :
    Calls Tryz.prog 134 #[.slice va vn vc, .agg (ia m), .int .i64 own] W fun e W' => e = .returned (.int .i64 (fsZ own (lnZ M m))) ∧ Below W.heap.size W W' := by
  have hb1 := bel1 W (.cells (ia m) 57)
  have HB := hide hb1
  have HM := hide (hM.later hb1)
  have hs := hM.short
  have hin := fun r => ok_ag ho (r := r)
  have HN := hide (HasC.new W 57 (ia m))
  clear hM ho hb1
  obtain ⟨R, hR⟩ : ∃ R, fsZ own (lnZ M m) = R := ⟨_, rfl⟩
  rw [hR]
  go_enter Tryz.func134, Tryz.ntmps134
  go_wp2_with fail
  obtain ⟨V, hV⟩ : ∃ V, W.alloc (.cells (ia m) 57) = V := ⟨_, rfl⟩
  rw [hV] at HB HN HM ⊢
  obtain ⟨e0, e1, e2, e3, e4, e5⟩ := six_of HN.out
  have y1 := cell_regrown e1
  have y2 := cell_regrown e2
  have y3 := cell_regrown e3
  refine wp_region_quiet_below mixedF (by kernel_rfl) ?_
  repeat (go_big_quiet_step (fail))
  refine wpQuiet_nil ?_
  intro V2 hw'
  obtain ⟨⟨dq, osq⟩, hw''⟩ := hw'
  have hb := below_regrown V dq osq
  simp only at hw''
  rw [← hw''] at hb
  clear hw'' y1 y2 y3 e0 e1 e2 e3 e4 e5 hV
  have HB2 := hide (bel HB.out hb)
  have HN2 := hide (HN.out.below hb)
  have HM2 := hide (HM.out.later hb)
  have HI := hide fun r k (h : In1 r vn) => fis_any r k HM2.out h
  clear hb HB HN HM
  by_cases h0 : m.op = 8 ∨ m.op = 17
  · rw [ln_0 h0] at hR
    have ha : ar m.op = 2 := by rcases h0 with e | e <;> rw [e] <;> decide
    have ia := hin m.a (by rw [ag2 ha]; simp)
    have ib := hin m.b (by rw [ag2 ha]; simp)
    obtain ⟨op, a, b, c, k, s⟩ := m
    dsimp only at h0 ha ia ib HN2 hR ⊢
    obtain ⟨e0, e1, e2, e3, e4, e5⟩ := six_of HN2.out
    clear hin  ha
    have HJ1 := hide (HI.out a 0 ia)
    generalize isN M a 0 = x0 at *
    have HJ2 := hide (HI.out b 0 ib)
    generalize isN M b 0 = x1 at *
    have HR := hide hR
    clear hR
    rcases h0 with rfl | rfl 
    all_goals
      go_wp2_with fail
      refine HJ1.out.mono ?_
      rintro e w' ⟨rfl, rfl⟩
      go_wp2_with fail
      refine HJ2.out.mono ?_
      rintro e w' ⟨rfl, rfl⟩
      go_wp2_with fail
      refine (ffirst_any own (n := 2) (L := [(x0, b), (x1, a)]) (HasC.new _ _ _) rfl (by decide)).mono ?_
      rintro e V3 ⟨rfl, hb⟩
      have HB3 := hide (bel (bel HB2.out (bel1 _ _)) hb)
      clear hb
      go_wp2_with fail
      go_ret
      exact ⟨ret_int HR.out, HB3.out⟩
  by_cases h1 : m.op = 10
  · rw [ln_1 h1] at hR
    have ha : ar m.op = 2 := by rw [h1]; decide
    have ia := hin m.a (by rw [ag2 ha]; simp)
    have ib := hin m.b (by rw [ag2 ha]; simp)
    obtain ⟨op, a, b, c, k, s⟩ := m
    dsimp only at h1 ha ia ib HN2 hR ⊢
    obtain ⟨e0, e1, e2, e3, e4, e5⟩ := six_of HN2.out
    clear hin h0 ha
    have HJ1 := hide (HI.out a 1 ia)
    generalize isN M a 1 = x0 at *
    have HJ2 := hide (HI.out b 1 ib)
    generalize isN M b 1 = x1 at *
    have HR := hide hR
    clear hR
    subst h1
    go_wp2_with fail
    refine HJ1.out.mono ?_
    rintro e w' ⟨rfl, rfl⟩
    go_wp2_with fail
    refine HJ2.out.mono ?_
    rintro e w' ⟨rfl, rfl⟩
    go_wp2_with fail
    refine (ffirst_any own (n := 2) (L := [(x0, b), (x1, a)]) (HasC.new _ _ _) rfl (by decide)).mono ?_
    rintro e V3 ⟨rfl, hb⟩
    have HB3 := hide (bel (bel HB2.out (bel1 _ _)) hb)
    clear hb
    go_wp2_with fail
    go_ret
    exact ⟨ret_int HR.out, HB3.out⟩
  by_cases h2 : m.op = 16
  · rw [ln_2 h2] at hR
    have ha : ar m.op = 2 := by rw [h2]; decide
    have ia := hin m.a (by rw [ag2 ha]; simp)
    have ib := hin m.b (by rw [ag2 ha]; simp)
    obtain ⟨op, a, b, c, k, s⟩ := m
    dsimp only at h2 ha ia ib HN2 hR ⊢
    obtain ⟨e0, e1, e2, e3, e4, e5⟩ := six_of HN2.out
    clear hin h0 h1 ha
    have HJ1 := hide (HI.out a 0 ia)
    generalize isN M a 0 = x0 at *
    have HJ2 := hide (HI.out b 0 ib)
    generalize isN M b 0 = x1 at *
    have HR := hide hR
    clear hR
    subst h2
    go_wp2_with fail
    refine HJ1.out.mono ?_
    rintro e w' ⟨rfl, rfl⟩
    go_wp2_with fail
    refine HJ2.out.mono ?_
    rintro e w' ⟨rfl, rfl⟩
    go_wp2_with fail
    refine (ffirst_any own (n := 3) (L := [(a == b, a), (x0, b), (x1, a)]) (HasC.new _ _ _) rfl (by decide)).mono ?_
    rintro e V3 ⟨rfl, hb⟩
    have HB3 := hide (bel (bel HB2.out (bel1 _ _)) hb)
    clear hb
    go_wp2_with fail
    go_ret
    exact ⟨ret_int HR.out, HB3.out⟩
  by_cases h3 : m.op = 15
  · rw [ln_3 h3] at hR
    have ha : ar m.op = 2 := by rw [h3]; decide
    have ia := hin m.a (by rw [ag2 ha]; simp)
    have ib := hin m.b (by rw [ag2 ha]; simp)
    obtain ⟨op, a, b, c, k, s⟩ := m
    dsimp only at h3 ha ia ib HN2 hR ⊢
    obtain ⟨e0, e1, e2, e3, e4, e5⟩ := six_of HN2.out
    clear hin h0 h1 h2 ha
    have HJ1 := hide (HI.out a (-1) ia)
    generalize isN M a (-1) = x0 at *
    have HJ2 := hide (HI.out b (-1) ib)
    generalize isN M b (-1) = x1 at *
    have HR := hide hR
    clear hR
    subst h3
    go_wp2_with fail
    refine HJ1.out.mono ?_
    rintro e w' ⟨rfl, rfl⟩
    go_wp2_with fail
    refine HJ2.out.mono ?_
    rintro e w' ⟨rfl, rfl⟩
    go_wp2_with fail
    refine (ffirst_any own (n := 3) (L := [(a == b, a), (x0, b), (x1, a)]) (HasC.new _ _ _) rfl (by decide)).mono ?_
    rintro e V3 ⟨rfl, hb⟩
    have HB3 := hide (bel (bel HB2.out (bel1 _ _)) hb)
    clear hb
    go_wp2_with fail
    go_ret
    exact ⟨ret_int HR.out, HB3.out⟩
  by_cases h4 : m.op = 24 ∨ m.op = 25
  · rw [ln_4 h4] at hR
    have ha : ar m.op = 2 := by rcases h4 with e | e <;> rw [e] <;> decide
    have ia := hin m.a (by rw [ag2 ha]; simp)
    have ib := hin m.b (by rw [ag2 ha]; simp)
    obtain ⟨op, a, b, c, k, s⟩ := m
    dsimp only at h4 ha ia ib HN2 hR ⊢
    obtain ⟨e0, e1, e2, e3, e4, e5⟩ := six_of HN2.out
    clear hin h0 h1 h2 h3 ha
    have HR := hide hR
    clear hR
    rcases h4 with rfl | rfl 
    all_goals
      go_wp2_with fail
      refine (ffirst_any own (n := 1) (L := [(a == b, a)]) (HasC.new _ _ _) rfl (by decide)).mono ?_
      rintro e V3 ⟨rfl, hb⟩
      have HB3 := hide (bel (bel HB2.out (bel1 _ _)) hb)
      clear hb
      go_wp2_with fail
      go_ret
      exact ⟨ret_int HR.out, HB3.out⟩
  by_cases h5 : m.op = 9 ∨ m.op = 13 ∨ m.op = 14
  · rw [ln_5 h5] at hR
    have ha : ar m.op = 2 := by rcases h5 with e | e | e <;> rw [e] <;> decide
    have ia := hin m.a (by rw [ag2 ha]; simp)
    have ib := hin m.b (by rw [ag2 ha]; simp)
    obtain ⟨op, a, b, c, k, s⟩ := m
    dsimp only at h5 ha ia ib HN2 hR ⊢
    obtain ⟨e0, e1, e2, e3, e4, e5⟩ := six_of HN2.out
    clear hin h0 h1 h2 h3 h4 ha
    have HJ1 := hide (HI.out b 0 ib)
    generalize isN M b 0 = x0 at *
    have HR := hide hR
    clear hR
    rcases h5 with rfl | rfl | rfl 
    all_goals
      go_wp2_with fail
      refine HJ1.out.mono ?_
      rintro e w' ⟨rfl, rfl⟩
      go_wp2_with fail
      refine (ffirst_any own (n := 1) (L := [(x0, a)]) (HasC.new _ _ _) rfl (by decide)).mono ?_
      rintro e V3 ⟨rfl, hb⟩
      have HB3 := hide (bel (bel HB2.out (bel1 _ _)) hb)
      clear hb
      go_wp2_with fail
      go_ret
      exact ⟨ret_int HR.out, HB3.out⟩
  by_cases h6 : m.op = 11
  · rw [ln_6 h6] at hR
    have ha : ar m.op = 2 := by rw [h6]; decide
    have ia := hin m.a (by rw [ag2 ha]; simp)
    have ib := hin m.b (by rw [ag2 ha]; simp)
    obtain ⟨op, a, b, c, k, s⟩ := m
    dsimp only at h6 ha ia ib HN2 hR ⊢
    obtain ⟨e0, e1, e2, e3, e4, e5⟩ := six_of HN2.out
    clear hin h0 h1 h2 h3 h4 h5 ha
    have HJ1 := hide (HI.out b 1 ib)
    generalize isN M b 1 = x0 at *
    have HR := hide hR
    clear hR
    subst h6
    go_wp2_with fail
    refine HJ1.out.mono ?_
    rintro e w' ⟨rfl, rfl⟩
    go_wp2_with fail
    refine (ffirst_any own (n := 1) (L := [(x0, a)]) (HasC.new _ _ _) rfl (by decide)).mono ?_
    rintro e V3 ⟨rfl, hb⟩
    have HB3 := hide (bel (bel HB2.out (bel1 _ _)) hb)
    clear hb
    go_wp2_with fail
    go_ret
    exact ⟨ret_int HR.out, HB3.out⟩
  by_cases h7 : m.op = 29 ∨ m.op = 30
  · rw [ln_7 h7] at hR
    have ha : ar m.op = 1 := by rcases h7 with e | e <;> rw [e] <;> decide
    have ia := hin m.a (by rw [ag1 ha]; simp)
    obtain ⟨op, a, b, c, k, s⟩ := m
    dsimp only at h7 ha ia HN2 hR ⊢
    obtain ⟨e0, e1, e2, e3, e4, e5⟩ := six_of HN2.out
    clear hin h0 h1 h2 h3 h4 h5 h6 ha
    have HR := hide hR
    clear hR
    rcases h7 with rfl | rfl 
    all_goals
      go_wp2_with fail
      refine (ffirst_any own (n := 1) (L := [(k == 0, a)]) (HasC.new _ _ _) rfl (by decide)).mono ?_
      rintro e V3 ⟨rfl, hb⟩
      have HB3 := hide (bel (bel HB2.out (bel1 _ _)) hb)
      clear hb
      go_wp2_with fail
      go_ret
      exact ⟨ret_int HR.out, HB3.out⟩
  by_cases h8 : m.op = 32
  · rw [ln_8 h8] at hR
    have ha : ar m.op = 1 := by rw [h8]; decide
    have ia := hin m.a (by rw [ag1 ha]; simp)
    obtain ⟨op, a, b, c, k, s⟩ := m
    dsimp only at h8 ha ia HN2 hR ⊢
    obtain ⟨e0, e1, e2, e3, e4, e5⟩ := six_of HN2.out
    clear hin h0 h1 h2 h3 h4 h5 h6 h7 ha
    have HR := hide hR
    clear hR
    subst h8
    go_wp2_with fail
    refine (ffirst_any own (n := 1) (L := [(k == 1, a)]) (HasC.new _ _ _) rfl (by decide)).mono ?_
    rintro e V3 ⟨rfl, hb⟩
    have HB3 := hide (bel (bel HB2.out (bel1 _ _)) hb)
    clear hb
    go_wp2_with fail
    go_ret
    exact ⟨ret_int HR.out, HB3.out⟩
  by_cases h9 : m.op = 5
  · rw [ln_9 h9] at hR
    have ha : ar m.op = 1 := by rw [h9]; decide
    have ia := hin m.a (by rw [ag1 ha]; simp)
    obtain ⟨ja, hja⟩ : ∃ k : Nat, m.a = k := ⟨m.a.toNat, by have := ia.1; omega⟩
    have hj : ja < vn := by have := ia.2; omega
    obtain ⟨g, off, rfl, hgl, hat⟩ := HM2.out.at (by omega)
    obtain ⟨c0, c1, -, -, -, -⟩ := hat ja hj
    obtain ⟨op, a, b, c, k, s⟩ := m
    dsimp only at h9 ha ia HN2 hR ⊢
    dsimp only at hja
    subst hja
    unfold rg at hR
    rw [Int.toNat_natCast] at hR
    obtain ⟨e0, e1, e2, e3, e4, e5⟩ := six_of HN2.out
    clear hin h0 h1 h2 h3 h4 h5 h6 h7 h8 ha
    have HR := hide hR
    clear hR
    subst h9
    have i0' : (0 : Int) ≤ ja := by omega
    have i1' : (ja : Int) < vn := by omega
    generalize M.getD ja i0 = z at *
    clear hat ia
    go_wp2_with fail
    have HF := hide (ffirst_any own (n := 1) (g := V2.heap.size) (W := ((V2.alloc (.cells #[.bool (z.op == 5), .int .i64 z.a] 158)).drew)) (L := [(z.op == 5, z.a)]) ((HasC.new V2 158 #[.bool (z.op == 5), .int .i64 z.a]).below (below_drew _)) rfl (by decide))
    have hbx : Below V2.heap.size V2 ((V2.alloc (.cells #[.bool (z.op == 5), .int .i64 z.a] 158)).drew) := bel (bel1 V2 _) (below_drew _)
    have HK0 := hide fun V3 (hb : Below ((V2.alloc (.cells #[.bool (z.op == 5), .int .i64 z.a] 158)).drew).heap.size ((V2.alloc (.cells #[.bool (z.op == 5), .int .i64 z.a] 158)).drew) V3) => cell_bel (bel hbx hb) c0 hgl
    have HK1 := hide fun V3 (hb : Below ((V2.alloc (.cells #[.bool (z.op == 5), .int .i64 z.a] 158)).drew).heap.size ((V2.alloc (.cells #[.bool (z.op == 5), .int .i64 z.a] 158)).drew) V3) => cell_bel (bel hbx hb) c1 hgl
    have HK2 := hide fun V3 (hb : Below ((V2.alloc (.cells #[.bool (z.op == 5), .int .i64 z.a] 158)).drew).heap.size ((V2.alloc (.cells #[.bool (z.op == 5), .int .i64 z.a] 158)).drew) V3) => hide (bel HB2.out (bel hbx hb))
    clear hbx
    go_region_held3 (fun w' => w'.cell? ⟨g, off + ja * 6, none⟩ = some (.int .i64 z.op) ∧ w'.cell? ⟨g, off + ja * 6 + 1, none⟩ = some (.int .i64 z.a))
      (first | exact ⟨c0, c1⟩ | exact ⟨k0, k1⟩ | go_keep)
      ((first
        | (go_at_call 159; refine HF.out.mono ?_; rintro e V3 ⟨rfl, hb⟩; have k0 := HK0.out V3 hb; have k1 := HK1.out V3 hb; have HB3 := HK2.out V3 hb)))
    all_goals
      clear k0 k1 hb
      go_wp2_with fail
      go_ret
      exact ⟨ret_int HR.out, HB3.out⟩
  by_cases h10 : m.op = 6
  · rw [ln_10 h10] at hR
    have ha : ar m.op = 1 := by rw [h10]; decide
    have ia := hin m.a (by rw [ag1 ha]; simp)
    obtain ⟨ja, hja⟩ : ∃ k : Nat, m.a = k := ⟨m.a.toNat, by have := ia.1; omega⟩
    have hj : ja < vn := by have := ia.2; omega
    obtain ⟨g, off, rfl, hgl, hat⟩ := HM2.out.at (by omega)
    obtain ⟨c0, c1, -, -, -, -⟩ := hat ja hj
    obtain ⟨op, a, b, c, k, s⟩ := m
    dsimp only at h10 ha ia HN2 hR ⊢
    dsimp only at hja
    subst hja
    unfold rg at hR
    rw [Int.toNat_natCast] at hR
    obtain ⟨e0, e1, e2, e3, e4, e5⟩ := six_of HN2.out
    clear hin h0 h1 h2 h3 h4 h5 h6 h7 h8 h9 ha
    have HR := hide hR
    clear hR
    subst h10
    have i0' : (0 : Int) ≤ ja := by omega
    have i1' : (ja : Int) < vn := by omega
    generalize M.getD ja i0 = z at *
    clear hat ia
    go_wp2_with fail
    refine (ffirst_any own (n := 1) (L := [(z.op == 6, (ja : Int))]) (HasC.new _ _ _) rfl (by decide)).mono ?_
    rintro e V3 ⟨rfl, hb⟩
    have HB3 := hide (bel (bel HB2.out (bel1 _ _)) hb)
    clear hb
    go_wp2_with fail
    go_ret
    exact ⟨ret_int HR.out, HB3.out⟩
  by_cases h11 : m.op = 28
  · rw [ln_11 h11] at hR
    have ha : ar m.op = 3 := by rw [h11]; decide
    have ia := hin m.a (by rw [ag3 ha]; simp)
    have ib := hin m.b (by rw [ag3 ha]; simp)
    have ic := hin m.c (by rw [ag3 ha]; simp)
    obtain ⟨ja, hja⟩ : ∃ k : Nat, m.a = k := ⟨m.a.toNat, by have := ia.1; omega⟩
    have hj : ja < vn := by have := ia.2; omega
    obtain ⟨g, off, rfl, hgl, hat⟩ := HM2.out.at (by omega)
    obtain ⟨c0, -, -, -, c4, -⟩ := hat ja hj
    obtain ⟨op, a, b, c, k, s⟩ := m
    dsimp only at h11 ha ia ib ic HN2 hR ⊢
    dsimp only at hja
    subst hja
    unfold isN rg at hR
    rw [Int.toNat_natCast] at hR
    obtain ⟨e0, e1, e2, e3, e4, e5⟩ := six_of HN2.out
    clear hin h0 h1 h2 h3 h4 h5 h6 h7 h8 h9 h10 ha
    have HR := hide hR
    clear hR
    subst h11
    have i0' : (0 : Int) ≤ ja := by omega
    have i1' : (ja : Int) < vn := by omega
    generalize M.getD ja i0 = z at *
    clear hat ia
    go_wp2_with fail
    have HF := hide (ffirst_any own (n := 3) (g := V2.heap.size) (W := ((V2.alloc (.cells #[.bool (z.op == 1 && z.k == 0), .int .i64 c, .bool (z.op == 1), .int .i64 b, .bool (b == c), .int .i64 b] 158)).drew)) (L := [(z.op == 1 && z.k == 0, c), (z.op == 1, b), (b == c, b)]) ((HasC.new V2 158 #[.bool (z.op == 1 && z.k == 0), .int .i64 c, .bool (z.op == 1), .int .i64 b, .bool (b == c), .int .i64 b]).below (below_drew _)) rfl (by decide))
    have hbx : Below V2.heap.size V2 ((V2.alloc (.cells #[.bool (z.op == 1 && z.k == 0), .int .i64 c, .bool (z.op == 1), .int .i64 b, .bool (b == c), .int .i64 b] 158)).drew) := bel (bel1 V2 _) (below_drew _)
    have HK0 := hide fun V3 (hb : Below ((V2.alloc (.cells #[.bool (z.op == 1 && z.k == 0), .int .i64 c, .bool (z.op == 1), .int .i64 b, .bool (b == c), .int .i64 b] 158)).drew).heap.size ((V2.alloc (.cells #[.bool (z.op == 1 && z.k == 0), .int .i64 c, .bool (z.op == 1), .int .i64 b, .bool (b == c), .int .i64 b] 158)).drew) V3) => cell_bel (bel hbx hb) c0 hgl
    have HK1 := hide fun V3 (hb : Below ((V2.alloc (.cells #[.bool (z.op == 1 && z.k == 0), .int .i64 c, .bool (z.op == 1), .int .i64 b, .bool (b == c), .int .i64 b] 158)).drew).heap.size ((V2.alloc (.cells #[.bool (z.op == 1 && z.k == 0), .int .i64 c, .bool (z.op == 1), .int .i64 b, .bool (b == c), .int .i64 b] 158)).drew) V3) => cell_bel (bel hbx hb) c4 hgl
    have HK2 := hide fun V3 (hb : Below ((V2.alloc (.cells #[.bool (z.op == 1 && z.k == 0), .int .i64 c, .bool (z.op == 1), .int .i64 b, .bool (b == c), .int .i64 b] 158)).drew).heap.size ((V2.alloc (.cells #[.bool (z.op == 1 && z.k == 0), .int .i64 c, .bool (z.op == 1), .int .i64 b, .bool (b == c), .int .i64 b] 158)).drew) V3) => hide (bel HB2.out (bel hbx hb))
    clear hbx
    go_region_held3 (fun w' => w'.cell? ⟨g, off + ja * 6, none⟩ = some (.int .i64 z.op) ∧ w'.cell? ⟨g, off + ja * 6 + 4, none⟩ = some (.int .i64 z.k))
      (first | exact ⟨c0, c4⟩ | exact ⟨k0, k1⟩ | go_keep)
      ((first
        | (go_at_call 160; refine (fis_core 0 hj (by first | exact c0 | go_keep) (by first | exact c4 | go_keep) hs).mono ?_; rintro e w2 ⟨rfl, rfl⟩)
        | (go_at_call 159; refine HF.out.mono ?_; rintro e V3 ⟨rfl, hb⟩; have k0 := HK0.out V3 hb; have k1 := HK1.out V3 hb; have HB3 := HK2.out V3 hb)))
    all_goals
      clear k0 k1 hb
      go_wp2_with fail
      go_ret
      exact ⟨ret_int HR.out, HB3.out⟩
  by_cases h12 : m.op = 27
  · rw [ln_12 h12] at hR
    have ha : ar m.op = 3 := by rw [h12]; decide
    have ia := hin m.a (by rw [ag3 ha]; simp)
    have ib := hin m.b (by rw [ag3 ha]; simp)
    have ic := hin m.c (by rw [ag3 ha]; simp)
    obtain ⟨op, a, b, c, k, s⟩ := m
    dsimp only at h12 ha ia ib ic HN2 hR ⊢
    obtain ⟨e0, e1, e2, e3, e4, e5⟩ := six_of HN2.out
    clear hin h0 h1 h2 h3 h4 h5 h6 h7 h8 h9 h10 h11 ha
    have HR := hide hR
    clear hR
    subst h12
    cases hx : (a == b)
    · go_wp2_with fail
      refine (ffirst_any own (n := 2) (L := [(a == c, a), (b == c, b)]) (HasC.new _ _ _) rfl (by decide)).mono ?_
      rintro e V3 ⟨rfl, hb⟩
      have HB3 := hide (bel (bel HB2.out (bel1 _ _)) hb)
      clear hb
      go_wp2_with fail
      go_ret
      exact ⟨ret_int (by have := HR.out; rw [hx] at this; exact this), HB3.out⟩
    · go_wp2_with fail
      refine (ffirst_any own (n := 2) (L := [(true, a), (b == c, b)]) (HasC.new _ _ _) rfl (by decide)).mono ?_
      rintro e V3 ⟨rfl, hb⟩
      have HB3 := hide (bel (bel HB2.out (bel1 _ _)) hb)
      clear hb
      go_wp2_with fail
      go_ret
      exact ⟨ret_int (by have := HR.out; rw [hx] at this; exact this), HB3.out⟩
  by_cases h13 : m.op = 26
  · rw [ln_13 h13] at hR
    have ha : ar m.op = 3 := by rw [h13]; decide
    have ia := hin m.a (by rw [ag3 ha]; simp)
    have ib := hin m.b (by rw [ag3 ha]; simp)
    have ic := hin m.c (by rw [ag3 ha]; simp)
    obtain ⟨op, a, b, c, k, s⟩ := m
    dsimp only at h13 ha ia ib ic HN2 hR ⊢
    obtain ⟨e0, e1, e2, e3, e4, e5⟩ := six_of HN2.out
    clear hin h0 h1 h2 h3 h4 h5 h6 h7 h8 h9 h10 h11 h12 ha
    have HR := hide hR
    clear hR
    subst h13
    go_wp2_with fail
    refine (ffirst_any own (n := 1) (L := [(b == c, b)]) (HasC.new _ _ _) rfl (by decide)).mono ?_
    rintro e V3 ⟨rfl, hb⟩
    have HB3 := hide (bel (bel HB2.out (bel1 _ _)) hb)
    clear hb
    go_wp2_with fail
    go_ret
    exact ⟨ret_int HR.out, HB3.out⟩
  · rw [show lnZ M m = [] by unfold lnZ; rw [if_neg h0, if_neg h1, if_neg h2, if_neg h3, if_neg h4, if_neg h5, if_neg h6, if_neg h7, if_neg h8, if_neg h9, if_neg h10, if_neg h11, if_neg h12, if_neg h13]] at hR
    obtain ⟨op, a, b, c, k, s⟩ := m
    dsimp only at *
    have q5 : (op == 5) = false := by simp; omega
    have q6 : (op == 6) = false := by simp; omega
    have q8 : (op == 8) = false := by simp; omega
    have q9 : (op == 9) = false := by simp; omega
    have q10 : (op == 10) = false := by simp; omega
    have q11 : (op == 11) = false := by simp; omega
    have q13 : (op == 13) = false := by simp; omega
    have q14 : (op == 14) = false := by simp; omega
    have q15 : (op == 15) = false := by simp; omega
    have q16 : (op == 16) = false := by simp; omega
    have q17 : (op == 17) = false := by simp; omega
    have q24 : (op == 24) = false := by simp; omega
    have q25 : (op == 25) = false := by simp; omega
    have q26 : (op == 26) = false := by simp; omega
    have q27 : (op == 27) = false := by simp; omega
    have q28 : (op == 28) = false := by simp; omega
    have q29 : (op == 29) = false := by simp; omega
    have q30 : (op == 30) = false := by simp; omega
    have q32 : (op == 32) = false := by simp; omega
    obtain ⟨e0, e1, e2, e3, e4, e5⟩ := six_of HN2.out
    clear hin HI h0 h1 h2 h3 h4 h5 h6 h7 h8 h9 h10 h11 h12 h13
    go_wp2_with fail
    go_ret
    exact ⟨ret_int hR, HB2.out⟩

end Go.Proofs.Fld

/-
  pack.Encode: what it answers.
-/
import Derived.Test.YtphmamhchkolkaaMM2
namespace Go.Proofs.Pck
open Ytphmamhchkolkaa
open Go.RowKit Go.IntWalk Ytphmamhchkolkaa.Knd
open Ytphmamhchkolkaa.Oct (vb vint lim scn scan pw rdU rdI zz uz)
open Ytphmamhchkolkaa.Ocm (Part joined u8s)
open Cde (In i0 ia cd is6 i6 Ins agL arN okI okT okT_at mcB mc_parts ccE csB rgN rgs rgB abc zA six_of four_of at6 has_new1 below_drew ccheck_any)
set_option linter.unusedVariables false

/-- What Encode answers, plainly. -/
def enR (f d : Int) (L : List In) (o : Int) : Int × List Int := if mcB f d L o = true then (0, enC f d L o) else (15, [])
def EnP (W : World) (R : Int × List Int) (en : Ending) (w' : World) : Prop := ∃ a c, en = .returned (.tuple #[.slice a R.2.length c, .int .i64 R.1]) ∧ w'.ownsRow W.heap.size 5 1 (.slice a R.2.length c) R.2.length (u8s R.2) ∧ Below W.heap.size W w'
theorem EnP.bad {W w' : World} {e : Int} (hb : Below W.heap.size W w') : EnP W (e, []) (.returned (.tuple #[.slice none 0 0, .int .i64 e])) w' := ⟨none, 0, rfl, ⟨rfl, .inl ⟨rfl, rfl⟩⟩, hb⟩
theorem EnP.mk {W w' : World} {x : Option Addr} {n c : Nat} {zs : List Int} (hn : n = zs.length) (hO : w'.ownsRow W.heap.size 5 1 (.slice x n c) n (u8s zs)) (hb : Below W.heap.size W w') : EnP W (0, zs) (.returned (.tuple #[.slice x n c, .int .i64 0])) w' := by
  subst hn
  exact ⟨_, _, rfl, hO, hb⟩
theorem Pl.two {W V : World} {p n1 c1 n2 c2 : Nat} {a1 a2 : Option Addr} {z1 z2 : List Int} (hp : HasC V p 28 #[.slice a1 n1 c1, .slice a2 n2 c2]) (h1 : Ocm.Bytes V a1 n1 c1 z1) (h2 : Ocm.Bytes V a2 n2 c2 z2) (hlo : Below W.heap.size W V) (hw : W.heap.size ≤ p) (f1 : ∀ x, a1 = some x → x.block < p) (f2 : ∀ x, a2 = some x → x.block < p) :
    Pl W V (.slice (some ⟨p, 0, none⟩) 2 2) [⟨a1, n1, c1, z1⟩, ⟨a2, n2, c2, z2⟩] := by
  refine ⟨⟨rfl, .inr ⟨p, 2, #[.slice a1 n1 c1, .slice a2 n2 c2], rfl, hw, hp, Nat.le_refl _, by decide, rfl, rfl⟩⟩, fun q hq => ?_, fun q hq x hx hn e => ?_, hlo⟩
  · simp at hq
    rcases hq with rfl | rfl
    · exact h1
    · exact h2
  · simp [Value.ownBlock] at e
    simp at hq
    rcases hq with rfl | rfl
    · have := f1 x hx; omega
    · have := f2 x hx; omega
/-- Three bytes in a box of their own. -/
theorem own_thr {W : World} {g : Nat} {x y z : Int} (h : HasC W g 5 #[.int .u8 x, .int .u8 y, .int .u8 z]) : W.ownsRow 0 5 1 (.slice (some ⟨g, 0, none⟩) 3 3) 3 (u8s [x, y, z]) :=
  ⟨rfl, .inr ⟨g, 3, #[.int .u8 x, .int .u8 y, .int .u8 z], rfl, Nat.zero_le _, h, Nat.le_refl _, by decide, rfl, rfl⟩⟩
theorem enC_eq (f d : Int) (L : List In) (o : Int) : (([1, f, d] ++ vint (L.length : Int)) ++ enS L L.length) ++ vint ((L.length : Int) - 1 - o) = enC f d L o := by simp [enC]

set_option maxRecDepth 100000 in
set_option maxHeartbeats 8000000 in
theorem encode_any (f d o : Int) {a : Option Addr} {n cap : Nat} {L : List In} {W : World} (h : Ins W a n cap L) : Calls Try.prog 9 #[.agg (cd f d a n cap o)] W (EnP W (enR f d L o)) := by
  have HC0 := hide (HasC.new W 26 (cd f d a n cap o))
  have HB0 := hide (bel1 W (.cells (cd f d a n cap o) 26))
  have HCk := hide (ccheck_any f d o (h.later (bel1 W (.cells (cd f d a n cap o) 26))))
  have HI := hide h
  have HL := hide h.len
  have hn := h.short
  clear h
  by_cases hm : mcB f d L o = true
  · rw [show enR f d L o = (0, enC f d L o) from if_pos hm]
    rw [show ccE f d L o = 0 from if_pos hm] at HCk
    obtain ⟨⟨hf, hd1, hd2⟩, m1, m2, m3, m4, hok⟩ := mc_parts hm
    have HOk := hide fun k (hk : k < n) => okT_at hok (k := k) (by rw [HL.out]; exact hk)
    have HLen := hide (enC_len hm).2
    have HEq := hide (enC_eq f d L o)
    rw [HL.out] at HEq m2 m4 m1
    have hfb : IntKind.u8.wrap f = f := by rw [IntKind.wrap_u8]; omega
    have hdb : IntKind.u8.wrap d = d := by rw [IntKind.wrap_u8]; omega
    have f0 : 0 ≤ f ∧ f ≤ 255 := by omega
    have d0 : 0 ≤ d ∧ d ≤ 255 := by omega
    have HBy3 : Hid (Byts [1, f, d]) := hide ((Byts.one (x := 1) (by decide) (by decide)).app ((Byts.one f0.1 f0.2).app (Byts.one d0.1 d0.2)))
    have HNum := hide (number_any (n : Int) (by omega) (by omega))
    have HAh := hide fun W => ahead_any o n (by omega) (by omega) (by omega) W
    clear hok hf hd1 hd2 hm
    go_enter Try.func9, Try.ntmps9
    go_wp2_with fail
    refine HCk.out.mono ?_
    rintro en V1 ⟨rfl, hb⟩
    have HC1 := hide (HC0.out.below hb)
    have HB1 := hide (bel HB0.out hb)
    obtain ⟨k0, k1, k2, k3⟩ := four_of HC1.out
    clear hb HC0 HB0 HCk
    go_wp2_with fail
    clear k0 k1 k2 k3
    have HS1 : Hid (HasC V1.drew W.heap.size 26 (cd f d a n cap o)) := hide (HC1.out.below (below_drew V1))
    have HBd := hide (bel HB1.out (below_drew V1))
    refine wp_region_held_drew (S := fun w => HasC w W.heap.size 26 (cd f d a n cap o)) (by kernel_rfl) HS1.out (fun _ => ?_)
    obtain ⟨V2, hV2⟩ : ∃ V2, V1.drew = V2 := ⟨_, rfl⟩
    rw [hV2] at HS1 HBd ⊢
    clear hV2 HC1 HB1
    refine wpAnyH_take (i := 0) (v := .pointer (some ⟨W.heap.size, 0, none⟩)) rfl (by kernel_rfl) (by kernel_rfl) (by kernel_rfl) (fun _ _ _ h => h) (Or.inl ⟨by rfl, fun w hS => by obtain ⟨e0, e1, e2, e3⟩ := four_of hS; go_simp⟩) HS1.out ?_
    refine wpAnyH_take (i := 1) (v := .pointer (some ⟨W.heap.size, 0, none⟩)) rfl (by kernel_rfl) (by kernel_rfl) (by kernel_rfl) (fun _ _ _ h => h) (Or.inl ⟨by rfl, fun w hS => by obtain ⟨e0, e1, e2, e3⟩ := four_of hS; go_simp⟩) HS1.out ?_
    refine wpAnyH_take (i := 2) (v := .int .i64 f) rfl (by kernel_rfl) (by kernel_rfl) (by kernel_rfl) (fun _ _ _ h => h) (Or.inl ⟨by rfl, fun w hS => by obtain ⟨e0, e1, e2, e3⟩ := four_of hS; go_simp⟩) HS1.out ?_
    refine wpAnyH_take (i := 3) (v := .int .u8 f) rfl (by kernel_rfl) (by kernel_rfl) (by kernel_rfl) (fun _ _ _ h => h) (Or.inl ⟨by rfl, fun w hS => by obtain ⟨e0, e1, e2, e3⟩ := four_of hS; go_simp⟩) HS1.out ?_
    refine wpAnyH_take (i := 4) (v := .pointer (some ⟨W.heap.size, 0, none⟩)) rfl (by kernel_rfl) (by kernel_rfl) (by kernel_rfl) (fun _ _ _ h => h) (Or.inl ⟨by rfl, fun w hS => by obtain ⟨e0, e1, e2, e3⟩ := four_of hS; go_simp⟩) HS1.out ?_
    refine wpAnyH_take (i := 5) (v := .pointer (some ⟨W.heap.size, 1, none⟩)) rfl (by kernel_rfl) (by kernel_rfl) (by kernel_rfl) (fun _ _ _ h => h) (Or.inl ⟨by rfl, fun w hS => by obtain ⟨e0, e1, e2, e3⟩ := four_of hS; go_simp⟩) HS1.out ?_
    refine wpAnyH_take (i := 6) (v := .int .i64 d) rfl (by kernel_rfl) (by kernel_rfl) (by kernel_rfl) (fun _ _ _ h => h) (Or.inl ⟨by rfl, fun w hS => by obtain ⟨e0, e1, e2, e3⟩ := four_of hS; go_simp⟩) HS1.out ?_
    refine wpAnyH_take (i := 7) (v := .int .u8 d) rfl (by kernel_rfl) (by kernel_rfl) (by kernel_rfl) (fun _ _ _ h => h) (Or.inl ⟨by rfl, fun w hS => by obtain ⟨e0, e1, e2, e3⟩ := four_of hS; go_simp⟩) HS1.out ?_
    refine wpAnyH_take (i := 9) (v := .int .i64 n) rfl (by kernel_rfl) (by kernel_rfl) (by kernel_rfl) (fun _ _ _ h => h) (Or.inl ⟨by rfl, fun w hS => by obtain ⟨e0, e1, e2, e3⟩ := four_of hS; go_simp⟩) HS1.out ?_
    refine wpAnyH_ready (rs := [8, 10]) (by kernel_rfl) (by simp) (AllReadyH.cons rfl (fun K hK => ?_) (AllReadyH.cons rfl (fun K hK => ?_) AllReadyH.nil))
    · go_simp
      have HS2 := hide (HS1.out.below (bel1 V2 (.cells #[.int .u8 1, .int .u8 f, .int .u8 d] 5)))
      have HB2 := hide (bel HBd.out (bel1 V2 (.cells #[.int .u8 1, .int .u8 f, .int .u8 d] 5)))
      have HX2 := hide (HasC.new V2 5 #[.int .u8 1, .int .u8 f, .int .u8 d])
      refine hK.out _ _ HS2.out (fun _ => ?_)
      clear hK K
      refine wpAnyH_ready (rs := [10]) (by kernel_rfl) (by simp) (AllReadyH.cons rfl (fun K hK => ?_) AllReadyH.nil)
      go_simp
      refine (HNum.out _).mono ?_
      rintro en w2 ⟨x, c1, rfl, hO, hb⟩
      have HO3 := hide hO
      have HB3 := hide (bel HB2.out hb)
      have HS3 := hide (HS2.out.below hb)
      have HX3 := hide (HX2.out.below hb)
      clear hO hb
      refine hK.out _ _ HS3.out (fun _ => ?_)
      clear hK K
      refine wpAnyH_ready (rs := [11]) (by kernel_rfl) (by simp) (AllReadyH.cons rfl (fun K hK => ?_) AllReadyH.nil)
      go_simp
      obtain ⟨a', c', ea, hY, l1⟩ := byt_own HO3.out (Byts.vint (by omega) (by omega))
      cases ea
      obtain ⟨a2', c2', ea, hZ, l2⟩ := byt_own (own_thr HX3.out) HBy3.out
      cases ea
      have hB4 := bel HB3.out (bel1 (w2) (.cells #[.slice (some ⟨V2.heap.size, 0, none⟩) 3 3, .slice x (vint (n : Int)).length c1] 28))
      have hP4 := HasC.new w2 28 #[.slice (some ⟨V2.heap.size, 0, none⟩) 3 3, .slice x (vint (n : Int)).length c1]
      have hle := HB3.out.size
      have HP0 := hide (Pl.two (W := W) hP4 (hZ.later (bel1 (w2) (.cells #[.slice (some ⟨V2.heap.size, 0, none⟩) 3 3, .slice x (vint (n : Int)).length c1] 28))) (hY.later (bel1 (w2) (.cells #[.slice (some ⟨V2.heap.size, 0, none⟩) 3 3, .slice x (vint (n : Int)).length c1] 28))) hB4 (by (try simp at hle); omega) (fun y hy => by have := (l2 y hy).2; (try simp at this); omega) (fun y hy => by have := (l1 y hy).2; (try simp at this); omega))
      have HS4 := hide (HS3.out.below (bel1 (w2) (.cells #[.slice (some ⟨V2.heap.size, 0, none⟩) 3 3, .slice x (vint (n : Int)).length c1] 28)))
      refine hK.out _ _ HS4.out (fun _ => ?_)
      clear hK K hY hZ hB4 hP4 HO3 HX3 HB3 HS3 l1 l2
      refine wpAnyH_ready (rs := [12]) (by kernel_rfl) (by simp) (AllReadyH.cons rfl (fun K hK => ?_) AllReadyH.nil)
      go_simp
      refine hK.out _ _ HS4.out (fun _ => ?_)
      clear hK K
      refine wpAnyH_done (by kernel_rfl) ?_ _
      go_simp
      obtain ⟨V5, hV5⟩ : ∃ V5, (w2).alloc (.cells #[.slice (some ⟨V2.heap.size, 0, none⟩) 3 3, .slice x (vint (n : Int)).length c1] 28) = V5 := ⟨_, rfl⟩
      rw [hV5] at HP0 HS4 ⊢
      clear hV5 hle
      obtain ⟨k0, k1, k2, k3⟩ := four_of HS4.out
      have HJ0 : Hid (joined [⟨some ⟨V2.heap.size, 0, none⟩, 3, 3, [1, f, d]⟩, ⟨x, (vint (n : Int)).length, c1, vint (n : Int)⟩] = ([1, f, d] ++ vint (n : Int)) ++ enS L 0) := hide (by simp [joined, enS])
      have HL0 : Hid (([⟨some ⟨V2.heap.size, 0, none⟩, 3, 3, [1, f, d]⟩, ⟨x, (vint (n : Int)).length, c1, vint (n : Int)⟩] : List Part).length = 0 + 2) := hide rfl
      go_wp2_with fail
      go_loopw [6, 32] (fun pv iv wr => ∃ (k : Nat) (a' : Option Addr) (c' : Nat) (ps : List Part), k ≤ n ∧ iv = .int .i64 k ∧ pv = .slice a' (k + 2) c' ∧ Hid (ps.length = k + 2) ∧ Hid (joined ps = ([1, f, d] ++ vint (n : Int)) ++ enS L k) ∧ Hid (Pl W wr (.slice a' (k + 2) c') ps) ∧ Hid (HasC wr W.heap.size 26 (cd f d a n cap o))) (fun _ iv _ => n - (intOf iv).toNat)
      case atStart => exact ⟨0, _, _, _, Nat.zero_le _, rfl, rfl, HL0, HJ0, HP0, HS4⟩
      case round =>
        obtain ⟨k, a', c', ps, hk, rfl, rfl, HLn, HJ, HP, HS⟩ := hrel
        rename World => U
        by_cases hlt : k < n
        · obtain ⟨ga, off, e, -, hat⟩ := (HI.out.later HP.out.lo).at (by omega)
          subst e
          obtain ⟨e0, e1, e2, e3, e4, e5⟩ := hat k hlt
          have j0 : (0 : Int) ≤ k := by omega
          have j1 : (k : Int) < n := by omega
          have hE := HOk.out k hlt
          have hES := enS_succ L k
          have HEn := hide fun W => encinst_any hE (by omega) W
          have HZb := hide (enI_byt hE (by omega))
          generalize L.getD k i0 = nd at *
          have HES := hide hES
          have HPn := hide (HP.out.below (bel1 U (.cells (ia nd) 51)))
          have HSn := hide (HS.out.below (bel1 U (.cells (ia nd) 51)))
          clear hat hE hES HP HS HP0 HJ0 HL0 HS4 k0 k1 k2 k3 HNum HAh HLen HEq
          go_wp2_with fail
          refine (HEn.out _).mono ?_
          rintro en w3 ⟨y, cy, rfl, hO, hb⟩
          have HR := hide (HPn.out.ready hO hb HZb.out)
          have HSr := hide ((HSn.out.below hb).alloc (.cells #[.slice y (enI k nd).length cy] 28))
          clear hO hb HEn HPn HSn e0 e1 e2 e3 e4 e5
          go_wp2_with (at_builtin; refine pl_list HR.out (by rw [HLn.out]; omega) rfl _ _ rfl rfl rfl ?_; intro a2 n2 c2 w4 hP hn hOO; rw [HLn.out] at hn; subst hn)
          have HP2 := hide hP
          have HS2 := hide (hOO _ _ _ HSr.out (by decide))
          clear hP hOO HR HSr
          go_roundw
          case rel => exact ⟨k + 1, _, _, _, by omega, by go_num, rfl, hide (by rw [List.length_append, HLn.out]; rfl), hide (by rw [joined_snoc, HJ.out, HES.out]; exact List.append_assoc _ _ _), HP2, HS2⟩
          case measure => simp [intOf]; omega
        · obtain rfl : k = n := by omega
          obtain ⟨q0, q1, q2, q3⟩ := four_of HS.out
          have HA := hide (HAh.out U)
          clear HP0 HJ0 HL0 HS4 k0 k1 k2 k3 HNum HAh HOk
          go_wp2_with fail
          refine HA.out.mono ?_
          rintro en w3 ⟨y, cy, rfl, hO, hb⟩
          have HR := hide (HP.out.ready hO hb (Byts.vint (by omega) (by omega)))
          clear hO hb HA HP HS q0 q1 q2 q3
          go_wp2_with (at_builtin; refine pl_list HR.out (by rw [HLn.out]; omega) rfl _ _ rfl rfl rfl ?_; intro a2 n2 c2 w4 hP hn hOO; rw [HLn.out] at hn; subst hn)
          have hj : joined (ps ++ [⟨y, (vint ((k : Int) - 1 - o)).length, cy, vint ((k : Int) - 1 - o)⟩]) = enC f d L o := by
            rw [joined_snoc, HJ.out]
            exact HEq.out
          have hle := HLen.out
          have hJn := join_by (pc := c2) (hP.parts (by rw [List.length_append, HLn.out]; rfl)) (by unfold maxLen; omega) (by rw [hj]; omega)
          rw [hj] at hJn
          have HJn := hide hJn
          have HB := hide hP.lo
          clear hJn hle hj hP hOO HR HEq HJ HLen
          go_wp2_with fail
          refine HJn.out.mono ?_
          rintro en w5 ⟨y2, c3, rfl, hO, hb⟩
          have HO := hide (Cde.own_mono hO HB.out.size)
          have HB3 := hide (bel HB.out hb)
          clear hO hb
          obtain ⟨Z, hZ⟩ : ∃ Z, enC f d L o = Z := ⟨_, rfl⟩
          rw [hZ] at HO ⊢
          have HZZ := hide hZ
          clear hZ
          obtain ⟨q, hq⟩ : ∃ q, Z.length = q := ⟨_, rfl⟩
          have HQ := hide hq.symm
          rw [hq] at HO ⊢
          clear hq
          go_wp2_with fail
          go_ret2
          rw [HZZ.out]
          exact EnP.mk HQ.out HO.out HB3.out
    · go_simp
      refine (HNum.out _).mono ?_
      rintro en w2 ⟨x, c1, rfl, hO, hb⟩
      have HO2 := hide hO
      have HB2 := hide (bel HBd.out hb)
      have HS2 := hide (HS1.out.below hb)
      clear hO hb
      refine hK.out _ _ HS2.out (fun _ => ?_)
      clear hK K
      refine wpAnyH_ready (rs := [8]) (by kernel_rfl) (by simp) (AllReadyH.cons rfl (fun K hK => ?_) AllReadyH.nil)
      go_simp
      have HS3 := hide (HS2.out.below (bel1 w2 (.cells #[.int .u8 1, .int .u8 f, .int .u8 d] 5)))
      have HB3 := hide (bel HB2.out (bel1 w2 (.cells #[.int .u8 1, .int .u8 f, .int .u8 d] 5)))
      have HX3 := hide (HasC.new w2 5 #[.int .u8 1, .int .u8 f, .int .u8 d])
      have HO3 := hide (HO2.out.alloc (.cells #[.int .u8 1, .int .u8 f, .int .u8 d] 5))
      refine hK.out _ _ HS3.out (fun _ => ?_)
      clear hK K
      refine wpAnyH_ready (rs := [11]) (by kernel_rfl) (by simp) (AllReadyH.cons rfl (fun K hK => ?_) AllReadyH.nil)
      go_simp
      obtain ⟨a', c', ea, hY, l1⟩ := byt_own HO3.out (Byts.vint (by omega) (by omega))
      cases ea
      obtain ⟨a2', c2', ea, hZ, l2⟩ := byt_own (own_thr HX3.out) HBy3.out
      cases ea
      have hB4 := bel HB3.out (bel1 (w2.alloc (.cells #[.int .u8 1, .int .u8 f, .int .u8 d] 5)) (.cells #[.slice (some ⟨w2.heap.size, 0, none⟩) 3 3, .slice x (vint (n : Int)).length c1] 28))
      have hP4 := has_new1 w2 (.cells #[.int .u8 1, .int .u8 f, .int .u8 d] 5) 28 #[.slice (some ⟨w2.heap.size, 0, none⟩) 3 3, .slice x (vint (n : Int)).length c1]
      have hle := HB3.out.size
      have HP0 := hide (Pl.two (W := W) hP4 (hZ.later (bel1 (w2.alloc (.cells #[.int .u8 1, .int .u8 f, .int .u8 d] 5)) (.cells #[.slice (some ⟨w2.heap.size, 0, none⟩) 3 3, .slice x (vint (n : Int)).length c1] 28))) (hY.later (bel1 (w2.alloc (.cells #[.int .u8 1, .int .u8 f, .int .u8 d] 5)) (.cells #[.slice (some ⟨w2.heap.size, 0, none⟩) 3 3, .slice x (vint (n : Int)).length c1] 28))) hB4 (by (try simp at hle); omega) (fun y hy => by have := (l2 y hy).2; (try simp at this); omega) (fun y hy => by have := (l1 y hy).2; (try simp at this); omega))
      have HS4 := hide (HS3.out.below (bel1 (w2.alloc (.cells #[.int .u8 1, .int .u8 f, .int .u8 d] 5)) (.cells #[.slice (some ⟨w2.heap.size, 0, none⟩) 3 3, .slice x (vint (n : Int)).length c1] 28)))
      refine hK.out _ _ HS4.out (fun _ => ?_)
      clear hK K hY hZ hB4 hP4 HO3 HX3 HB3 HS3 l1 l2
      refine wpAnyH_ready (rs := [12]) (by kernel_rfl) (by simp) (AllReadyH.cons rfl (fun K hK => ?_) AllReadyH.nil)
      go_simp
      refine hK.out _ _ HS4.out (fun _ => ?_)
      clear hK K
      refine wpAnyH_done (by kernel_rfl) ?_ _
      go_simp
      obtain ⟨V5, hV5⟩ : ∃ V5, (w2.alloc (.cells #[.int .u8 1, .int .u8 f, .int .u8 d] 5)).alloc (.cells #[.slice (some ⟨w2.heap.size, 0, none⟩) 3 3, .slice x (vint (n : Int)).length c1] 28) = V5 := ⟨_, rfl⟩
      rw [hV5] at HP0 HS4 ⊢
      clear hV5 hle
      obtain ⟨k0, k1, k2, k3⟩ := four_of HS4.out
      have HJ0 : Hid (joined [⟨some ⟨w2.heap.size, 0, none⟩, 3, 3, [1, f, d]⟩, ⟨x, (vint (n : Int)).length, c1, vint (n : Int)⟩] = ([1, f, d] ++ vint (n : Int)) ++ enS L 0) := hide (by simp [joined, enS])
      have HL0 : Hid (([⟨some ⟨w2.heap.size, 0, none⟩, 3, 3, [1, f, d]⟩, ⟨x, (vint (n : Int)).length, c1, vint (n : Int)⟩] : List Part).length = 0 + 2) := hide rfl
      go_wp2_with fail
      go_loopw [6, 32] (fun pv iv wr => ∃ (k : Nat) (a' : Option Addr) (c' : Nat) (ps : List Part), k ≤ n ∧ iv = .int .i64 k ∧ pv = .slice a' (k + 2) c' ∧ Hid (ps.length = k + 2) ∧ Hid (joined ps = ([1, f, d] ++ vint (n : Int)) ++ enS L k) ∧ Hid (Pl W wr (.slice a' (k + 2) c') ps) ∧ Hid (HasC wr W.heap.size 26 (cd f d a n cap o))) (fun _ iv _ => n - (intOf iv).toNat)
      case atStart => exact ⟨0, _, _, _, Nat.zero_le _, rfl, rfl, HL0, HJ0, HP0, HS4⟩
      case round =>
        obtain ⟨k, a', c', ps, hk, rfl, rfl, HLn, HJ, HP, HS⟩ := hrel
        rename World => U
        by_cases hlt : k < n
        · obtain ⟨ga, off, e, -, hat⟩ := (HI.out.later HP.out.lo).at (by omega)
          subst e
          obtain ⟨e0, e1, e2, e3, e4, e5⟩ := hat k hlt
          have j0 : (0 : Int) ≤ k := by omega
          have j1 : (k : Int) < n := by omega
          have hE := HOk.out k hlt
          have hES := enS_succ L k
          have HEn := hide fun W => encinst_any hE (by omega) W
          have HZb := hide (enI_byt hE (by omega))
          generalize L.getD k i0 = nd at *
          have HES := hide hES
          have HPn := hide (HP.out.below (bel1 U (.cells (ia nd) 51)))
          have HSn := hide (HS.out.below (bel1 U (.cells (ia nd) 51)))
          clear hat hE hES HP HS HP0 HJ0 HL0 HS4 k0 k1 k2 k3 HNum HAh HLen HEq
          go_wp2_with fail
          refine (HEn.out _).mono ?_
          rintro en w3 ⟨y, cy, rfl, hO, hb⟩
          have HR := hide (HPn.out.ready hO hb HZb.out)
          have HSr := hide ((HSn.out.below hb).alloc (.cells #[.slice y (enI k nd).length cy] 28))
          clear hO hb HEn HPn HSn e0 e1 e2 e3 e4 e5
          go_wp2_with (at_builtin; refine pl_list HR.out (by rw [HLn.out]; omega) rfl _ _ rfl rfl rfl ?_; intro a2 n2 c2 w4 hP hn hOO; rw [HLn.out] at hn; subst hn)
          have HP2 := hide hP
          have HS2 := hide (hOO _ _ _ HSr.out (by decide))
          clear hP hOO HR HSr
          go_roundw
          case rel => exact ⟨k + 1, _, _, _, by omega, by go_num, rfl, hide (by rw [List.length_append, HLn.out]; rfl), hide (by rw [joined_snoc, HJ.out, HES.out]; exact List.append_assoc _ _ _), HP2, HS2⟩
          case measure => simp [intOf]; omega
        · obtain rfl : k = n := by omega
          obtain ⟨q0, q1, q2, q3⟩ := four_of HS.out
          have HA := hide (HAh.out U)
          clear HP0 HJ0 HL0 HS4 k0 k1 k2 k3 HNum HAh HOk
          go_wp2_with fail
          refine HA.out.mono ?_
          rintro en w3 ⟨y, cy, rfl, hO, hb⟩
          have HR := hide (HP.out.ready hO hb (Byts.vint (by omega) (by omega)))
          clear hO hb HA HP HS q0 q1 q2 q3
          go_wp2_with (at_builtin; refine pl_list HR.out (by rw [HLn.out]; omega) rfl _ _ rfl rfl rfl ?_; intro a2 n2 c2 w4 hP hn hOO; rw [HLn.out] at hn; subst hn)
          have hj : joined (ps ++ [⟨y, (vint ((k : Int) - 1 - o)).length, cy, vint ((k : Int) - 1 - o)⟩]) = enC f d L o := by
            rw [joined_snoc, HJ.out]
            exact HEq.out
          have hle := HLen.out
          have hJn := join_by (pc := c2) (hP.parts (by rw [List.length_append, HLn.out]; rfl)) (by unfold maxLen; omega) (by rw [hj]; omega)
          rw [hj] at hJn
          have HJn := hide hJn
          have HB := hide hP.lo
          clear hJn hle hj hP hOO HR HEq HJ HLen
          go_wp2_with fail
          refine HJn.out.mono ?_
          rintro en w5 ⟨y2, c3, rfl, hO, hb⟩
          have HO := hide (Cde.own_mono hO HB.out.size)
          have HB3 := hide (bel HB.out hb)
          clear hO hb
          obtain ⟨Z, hZ⟩ : ∃ Z, enC f d L o = Z := ⟨_, rfl⟩
          rw [hZ] at HO ⊢
          have HZZ := hide hZ
          clear hZ
          obtain ⟨q, hq⟩ : ∃ q, Z.length = q := ⟨_, rfl⟩
          have HQ := hide hq.symm
          rw [hq] at HO ⊢
          clear hq
          go_wp2_with fail
          go_ret2
          rw [HZZ.out]
          exact EnP.mk HQ.out HO.out HB3.out
  · rw [show enR f d L o = (15, []) from if_neg hm]
    rw [show ccE f d L o = 15 from if_neg hm] at HCk
    clear hm
    go_enter Try.func9, Try.ntmps9
    go_wp2_with fail
    refine HCk.out.mono ?_
    rintro en V1 ⟨rfl, hb⟩
    have HB1 := hide (bel HB0.out hb)
    clear hb HCk
    go_wp2_with fail
    go_ret2
    exact EnP.bad HB1.out

end Go.Proofs.Pck

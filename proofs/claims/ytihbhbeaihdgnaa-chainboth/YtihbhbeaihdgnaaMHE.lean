/-
  Run.
-/
import Derived.Test.YtihbhbeaihdgnaaMHD
import Derived.Test.YtihbhbeaihdgnaaMHA
namespace Go.Proofs.Chn
open Go.RowKit Go.IntWalk Ytihbhbeaihdgnaa.Knd
open Ytihbhbeaihdgnaa (Wd wdA Fits inpV)
open Cde (In i0 ia kd cd Ins Ls list_ls six_of four_of two_of has_new1 okI zA vlI vlF arN abc vaZ mc_parts)
open Vfy (vfE vf_parts)
set_option linter.unusedVariables false

theorem make_l (n : Nat) (h : n ≤ 1024) (w : World) : ∃ w', (Instr.makeSlice 27 (.int .i64 0) (.int .i64 n)).run Try.prog w = .ok (.slice (some ⟨w.heap.size, 0, none⟩) 0 n) w' ∧ Ls w w' (.slice (some ⟨w.heap.size, 0, none⟩) 0 n) [] := by
  obtain ⟨i0', hi0, hz0, hz1, hz2⟩ := info_parts info3
  obtain ⟨w', h1, h2, h3⟩ := run_make_own (P := Try.prog) w w.heap.size 27 3 i0' _ 1 Try.underlying27 hi0 hz0 hz1 .i64 .i64 n (by rw [hz2]; omega) (by unfold maxLen; omega) (Nat.le_refl _)
  exact ⟨w', h1, h2, (Below.refl _ _).grown h3 (Nat.le_refl _) (fun k hk => by cases hk)⟩

set_option maxRecDepth 100000 in
set_option maxHeartbeats 8000000 in
theorem hRun_any {f d out : Int} (v : Wd) {lo g : Nat} {pa : Option Addr} {b n pl pc : Nat} {L : List In} {W : World} (hM : Hm W lo g f d L out b n) (hP : Ints W pa pl pc v.ps) (h : vfE f d L out = 0) :
    Calls Try.prog 9 #[.pointer (some ⟨g, 0, none⟩), .agg (wdA v pa pl pc)] W fun e W' => e = .returned (hrV (vaZ f d v L out) out) ∧ Below W.heap.size W W' := by
  have hb1 := bel1 W (.cells (wdA v pa pl pc) 29)
  have HM0 := hide (hM.later hb1)
  have HW0 := hide (HasC.new W 29 (wdA v pa pl pc))
  have HB0 := hide hb1
  have HPI := hide hP
  have HLn := hide hM.len
  have HF := hide fun w h => fits_any f d v.x v.y v.c pa pl pc v.ps w h
  obtain ⟨mc, -⟩ := vf_parts h
  obtain ⟨-, m1, m2, -, -, -⟩ := mc_parts mc
  rw [HLn.out] at m1 m2
  clear hb1 hM hP
  rcases Ytihbhbeaihdgnaa.fitE_cases f d v with ⟨hF, h1⟩ | ⟨hF, h1⟩
  · rw [h1] at HF
    have HAt := hide fun (k : Nat) (hk : k < L.length) (D : List Int) hD => run_at h hF hk (D := D) hD
    have HFt := hide hF
    have hmk := fun w => make_l n (by omega) w
    have h2 := run_two h v
    rcases h2 with ⟨-, D0, h4, h5, h6, h7, h8⟩ | ⟨h2, -⟩
    rotate_left
    · exact absurd hF h2
    rw [h4]
    obtain ⟨q, rfl⟩ : ∃ q : Nat, out = q := ⟨out.toNat, by omega⟩
    have hq : q < n := by rw [← HLn.out]; omega
    obtain ⟨z, hz⟩ : ∃ z, D0.getD q 0 = z := ⟨_, rfl⟩
    have hv : hrV (0, D0) q = .tuple #[.int .i64 z, .int .i64 0] := by simp [hrV, hrX, ← hz]
    rw [hv]
    have HZ := hide hz
    have HD0 := hide h5
    clear mc h h1 hF h4 h5 h6 h7 h8 hv hz
    go_enter Try.func9, Try.ntmps9
    go_wp2_with fail
    obtain ⟨W1, hW1⟩ : ∃ W1, W.alloc (.cells (wdA v pa pl pc) 29) = W1 := ⟨_, rfl⟩
    rw [hW1] at HM0 HW0 HB0 ⊢
    clear hW1
    obtain ⟨c0, c1, c2, c3⟩ := four_of HM0.out.x
    obtain ⟨y0, y1, y2, y3⟩ := four_of HW0.out
    have r0 := cell_regrown c0
    have r1 := cell_regrown c1
    have r2 := cell_regrown y0
    have r3 := cell_regrown y1
    have r4 := cell_regrown y2
    have r5 := cell_regrown y3
    have HFi := hide fun (V : World) (hb : Below W1.heap.size W1 V) => HF.out V (HPI.out.later (bel HB0.out hb))
    refine wp_region_quiet_below Cde.mixed0 (by kernel_rfl) ?_
    repeat (go_big_quiet_step (fail))
    go_big_quiet_step ((go_at_call 16; exact Calls.regrown_of (HFi.out _ (below_regrown _ _ _))))
    repeat (go_big_quiet_step (fail))
    refine wpQuiet_nil ?_
    intro V1 hw'
    obtain ⟨⟨dq, osq⟩, hw''⟩ := hw'
    have hb := below_regrown W1 dq osq
    simp only at hw''
    rw [← hw''] at hb
    have HM1 := hide (HM0.out.later hb)
    have HW1 := hide (HW0.out.below hb)
    have HB1 := hide (bel HB0.out hb)
    clear hw'' hb r0 r1 r2 r3 r4 r5 c0 c1 c2 c3 y0 y1 y2 y3 HFi HM0 HW0 HB0 HF
    obtain ⟨c0, c1, c2, c3⟩ := four_of HM1.out.x
    obtain ⟨V2, hmk2, hL2⟩ := hmk V1
    have HL2 := hide hL2
    have HM2 := hide (HM1.out.later hL2.bel)
    obtain ⟨q0, q1, q2, q3⟩ := four_of HM2.out.x
    clear hmk hL2
    go_wp2_with fail
    clear hmk2 c0 c1 c2 c3 q0 q1 q2 q3
    go_loopw [7, 32] (fun vv i wr => ∃ (k : Nat) (D : List Int), k ≤ n ∧ i = .int .i64 k ∧ Hid (vlF f d v (L.take k) = (0, D)) ∧ Hid (D.length = k) ∧ Hid (Ls V1 wr vv D)) (fun _ i _ => n - (intOf i).toNat)
    case atStart => exact ⟨0, [], Nat.zero_le _, rfl, hide rfl, hide rfl, HL2⟩
    case round =>
      obtain ⟨k, D, hk, rfl, HD, HDl, HE⟩ := hrel
      rename World => V
      have HMv := hide (HM1.out.later HE.out.bel)
      have HWv := hide (HW1.out.below HE.out.bel)
      have HBv := hide (bel HB1.out HE.out.bel)
      clear HL2 HM2
      by_cases hlt : k < n
      · obtain ⟨F, hF, hSt⟩ := HMv.out.s.at hlt
        obtain ⟨ra, rc, e', hR, -⟩ := Ints.of_owns HE.out.a
        subst e'
        rw [HDl.out] at hR
        obtain ⟨-, hok, x, hx, hS⟩ := HAt.out k (by rw [HLn.out]; exact hlt) D HD.out
        have hi0 : (0 : Int) ≤ k := by omega
        have hi1 : (k : Int) < n := by omega
        generalize L.getD k i0 = m at *
        have HS := hide hS
        have HJ : Hid (D.length ≤ 2000000) := hide (by rw [HDl.out]; omega)
        obtain ⟨y0, y1, y2, y3⟩ := four_of HWv.out
        obtain ⟨c0, c1, c2, c3⟩ := four_of HMv.out.x
        have hz1 := HWv.out.lt
        rw [HDl.out]
        clear hS
        cases hSt with
        | con cb cx hxx hcl hc =>
          have e1 : cx = x := by have := (hxx v D).symm.trans hx; exact congrArg Prod.fst this
          have HC := hide (scon_any cx v pa ra pl pc k rc hc)
          rw [e1] at HC
          clear hx hxx hcl hc e1
          go_wp2_with fail
          refine HC.out.mono ?_
          rintro e V6 ⟨rfl, hb⟩
          have HE6 := hide (HE.out.later hb)
          clear hb y0 y1 y2 y3 c0 c1 c2 c3 HC hz1
          go_wp2_with (at_builtin; refine list_ls (w := V1) (L := D) rfl _ _ rfl (by rw [HDl.out]; rfl) (HE6.out.later (bel1 _ _)) _ x rfl (HasC.new _ _ _) HJ.out ?_; intro g2 cap2 w2 HE2; rw [HDl.out] at HE2 ⊢)
          go_roundw
          case rel => exact ⟨k + 1, D ++ [x], by omega, by go_num, HS, hide (by simp [HDl.out]), hide HE2⟩
          case measure => simp [intOf]; omega
        | inx hxx =>
          have e1 : v.x = x := by have := (hxx v D).symm.trans hx; exact congrArg Prod.fst this
          have HC := hide (sinx_any v pa ra pl pc k rc V)
          rw [e1] at HC
          clear hx hxx e1
          go_wp2_with fail
          refine HC.out.mono ?_
          rintro e V6 ⟨rfl, hb⟩
          have HE6 := hide (HE.out.later hb)
          clear hb y0 y1 y2 y3 c0 c1 c2 c3 HC hz1
          go_wp2_with (at_builtin; refine list_ls (w := V1) (L := D) rfl _ _ rfl (by rw [HDl.out]; rfl) (HE6.out.later (bel1 _ _)) _ x rfl (HasC.new _ _ _) HJ.out ?_; intro g2 cap2 w2 HE2; rw [HDl.out] at HE2 ⊢)
          go_roundw
          case rel => exact ⟨k + 1, D ++ [x], by omega, by go_num, HS, hide (by simp [HDl.out]), hide HE2⟩
          case measure => simp [intOf]; omega
        | iny hxx =>
          have e1 : v.y = x := by have := (hxx v D).symm.trans hx; exact congrArg Prod.fst this
          have HC := hide (siny_any v pa ra pl pc k rc V)
          rw [e1] at HC
          clear hx hxx e1
          go_wp2_with fail
          refine HC.out.mono ?_
          rintro e V6 ⟨rfl, hb⟩
          have HE6 := hide (HE.out.later hb)
          clear hb y0 y1 y2 y3 c0 c1 c2 c3 HC hz1
          go_wp2_with (at_builtin; refine list_ls (w := V1) (L := D) rfl _ _ rfl (by rw [HDl.out]; rfl) (HE6.out.later (bel1 _ _)) _ x rfl (HasC.new _ _ _) HJ.out ?_; intro g2 cap2 w2 HE2; rw [HDl.out] at HE2 ⊢)
          go_roundw
          case rel => exact ⟨k + 1, D ++ [x], by omega, by go_num, HS, hide (by simp [HDl.out]), hide HE2⟩
          case measure => simp [intOf]; omega
        | inc hxx =>
          have e1 : v.c = x := by have := (hxx v D).symm.trans hx; exact congrArg Prod.fst this
          have HC := hide (sinc_any v pa ra pl pc k rc V)
          rw [e1] at HC
          clear hx hxx e1
          go_wp2_with fail
          refine HC.out.mono ?_
          rintro e V6 ⟨rfl, hb⟩
          have HE6 := hide (HE.out.later hb)
          clear hb y0 y1 y2 y3 c0 c1 c2 c3 HC hz1
          go_wp2_with (at_builtin; refine list_ls (w := V1) (L := D) rfl _ _ rfl (by rw [HDl.out]; rfl) (HE6.out.later (bel1 _ _)) _ x rfl (HasC.new _ _ _) HJ.out ?_; intro g2 cap2 w2 HE2; rw [HDl.out] at HE2 ⊢)
          go_roundw
          case rel => exact ⟨k + 1, D ++ [x], by omega, by go_num, HS, hide (by simp [HDl.out]), hide HE2⟩
          case measure => simp [intOf]; omega
        | place cb h3 hcl hc =>
          have HC := hide (splace_any ra k rc hc (HPI.out.later HBv.out) HFt.out hok h3 hx)
          clear hx h3 hcl hc
          go_wp2_with fail
          refine HC.out.mono ?_
          rintro e V6 ⟨rfl, hb⟩
          have HE6 := hide (HE.out.later hb)
          clear hb y0 y1 y2 y3 c0 c1 c2 c3 HC hz1
          go_wp2_with (at_builtin; refine list_ls (w := V1) (L := D) rfl _ _ rfl (by rw [HDl.out]; rfl) (HE6.out.later (bel1 _ _)) _ x rfl (HasC.new _ _ _) HJ.out ?_; intro g2 cap2 w2 HE2; rw [HDl.out] at HE2 ⊢)
          go_roundw
          case rel => exact ⟨k + 1, D ++ [x], by omega, by go_num, HS, hide (by simp [HDl.out]), hide HE2⟩
          case measure => simp [intOf]; omega
        | opr cb cq cg h1 h2 h3 hcl hql hgl hc hr ha =>
          have HC := hide (sopr_any pa pl pc hc hr ha hR hok (Nat.le_refl _) h1 h2 h3 hx)
          clear hx h1 h2 h3 hcl hql hgl hc hr ha
          go_wp2_with fail
          refine HC.out.mono ?_
          rintro e V6 ⟨rfl, hb⟩
          have HE6 := hide (HE.out.later hb)
          clear hb y0 y1 y2 y3 c0 c1 c2 c3 HC hz1
          go_wp2_with (at_builtin; refine list_ls (w := V1) (L := D) rfl _ _ rfl (by rw [HDl.out]; rfl) (HE6.out.later (bel1 _ _)) _ x rfl (HasC.new _ _ _) HJ.out ?_; intro g2 cap2 w2 HE2; rw [HDl.out] at HE2 ⊢)
          go_roundw
          case rel => exact ⟨k + 1, D ++ [x], by omega, by go_num, HS, hide (by simp [HDl.out]), hide HE2⟩
          case measure => simp [intOf]; omega
      · obtain rfl : k = n := by omega
        have hD := HD.out
        rw [List.take_of_length_le (by rw [HLn.out]; exact Nat.le_refl _), HD0.out] at hD
        have hDD : D0 = D := congrArg Prod.snd hD
        subst hDD
        obtain ⟨a', c', e', hR, -⟩ := Ints.of_owns HE.out.a
        subst e'
        rw [HDl.out] at hR
        obtain ⟨rb, ro, rfl, -, hat⟩ := hR.at (by omega)
        have px := hat q (by omega)
        rw [HZ.out] at px
        obtain ⟨c0, c1, c2, c3⟩ := four_of HMv.out.x
        have i0 : (0 : Int) ≤ q := by omega
        have i1 : (q : Int) < k := by omega
        rw [HDl.out]
        clear hD hR hat
        go_wp2_with fail
        exact bodyPost_ret (v := .tuple #[.int .i64 z, .int .i64 0]) (by simp [results, Try.results9, go_sem]) rfl ⟨rfl, HBv.out⟩
  · rw [h1] at HF
    have h2 : vaZ f d v L out = (1, []) := by rw [vaZ, if_pos mc, if_neg hF]
    rw [h2, show hrV (1, []) out = .tuple #[.int .i64 0, .int .i64 1] from rfl]
    clear mc h h1 hF h2
    go_enter Try.func9, Try.ntmps9
    go_wp2_with fail
    obtain ⟨W1, hW1⟩ : ∃ W1, W.alloc (.cells (wdA v pa pl pc) 29) = W1 := ⟨_, rfl⟩
    rw [hW1] at HM0 HW0 HB0 ⊢
    clear hW1
    obtain ⟨c0, c1, c2, c3⟩ := four_of HM0.out.x
    obtain ⟨y0, y1, y2, y3⟩ := four_of HW0.out
    have r0 := cell_regrown c0
    have r1 := cell_regrown c1
    have r2 := cell_regrown y0
    have r3 := cell_regrown y1
    have r4 := cell_regrown y2
    have r5 := cell_regrown y3
    have HFi := hide fun (V : World) (hb : Below W1.heap.size W1 V) => HF.out V (HPI.out.later (bel HB0.out hb))
    refine wp_region_quiet_below Cde.mixed0 (by kernel_rfl) ?_
    repeat (go_big_quiet_step (fail))
    go_big_quiet_step ((go_at_call 16; exact Calls.regrown_of (HFi.out _ (below_regrown _ _ _))))
    repeat (go_big_quiet_step (fail))
    refine wpQuiet_nil ?_
    intro V1 hw'
    obtain ⟨⟨dq, osq⟩, hw''⟩ := hw'
    have hb := below_regrown W1 dq osq
    simp only at hw''
    rw [← hw''] at hb
    have HB1 := hide (bel HB0.out hb)
    clear hw'' hb r0 r1 r2 r3 r4 r5 c0 c1 c2 c3 y0 y1 y2 y3 HFi HM0 HW0 HB0 HF
    go_wp2_with fail
    exact bodyPost_ret (v := .tuple #[.int .i64 0, .int .i64 1]) (by simp [results, Try.results9, go_sem]) rfl ⟨rfl, HB1.out⟩
theorem hRun_nil (v : Wd) (pa : Option Addr) (pl pc : Nat) (W : World) :
    Calls Try.prog 9 #[.pointer none, .agg (wdA v pa pl pc)] W fun e W' => e = .returned (.tuple #[.int .i64 0, .int .i64 1]) ∧ Below W.heap.size W W' := by
  have HB0 := hide (bel1 W (.cells (wdA v pa pl pc) 29))
  go_enter Try.func9, Try.ntmps9
  go_wp2_with fail
  exact bodyPost_ret (v := .tuple #[.int .i64 0, .int .i64 1]) (by simp [results, Try.results9, go_sem]) rfl ⟨rfl, HB0.out⟩

end Go.Proofs.Chn

/-
  awake.
-/
namespace Go.Proofs.Chn
open Go.RowKit Go.IntWalk Ytihbhbeaihdgnaa.Knd
open Ytihbhbeaihdgnaa (Wd wdA Fits inpV)
open Cde (In i0 ia kd cd Ins is6 zA vaZ)
open Vfy (vfE)
set_option linter.unusedVariables false

set_option maxRecDepth 100000 in
set_option maxHeartbeats 4000000 in
theorem hawake_any (W : World) : Calls Try.prog 8 #[] W fun e w' => e = .returned (.bool true) ∧ Below W.heap.size W w' := by
  have HN := hide fun (V : World) (a : Option Addr) (h : Ins V a 3 3 awL) => hNew_any 0 8 2 h
  have HR := hide fun (V : World) (lo g b n : Nat) (pa : Option Addr) (h : Hm V lo g 0 8 awL 2 b n) (hp : Ints V pa 44 44 aw0.ps) => hRun_any aw0 h hp aw_vf
  rw [aw_run] at HR
  have hmk : ∀ w : World, (Instr.makeSlice 27 (.int .i64 44) (.int .i64 44)).run Try.prog w = .ok (.slice (some ⟨w.heap.size, 0, none⟩) 44 44) (w.alloc (.cells (zA (List.replicate 44 0)) 3)) := Cde.make_z 44 (by decide)
  have HI := hide (Cde.has_ins (L := awL) (HasC.new W 51 (is6 awL).toArray) (by decide))
  have HB0 := hide (bel1 W (.cells (is6 awL).toArray 51))
  go_enter Try.func8, Try.ntmps8
  go_wp2_with fail
  refine (HN.out _ _ HI.out).mono ?_
  rintro e V1 ⟨hb, ⟨h0, -⟩ | ⟨-, g, b, n, rfl, hM⟩⟩
  · exact absurd aw_vf h0
  have HB1 := hide (bel HB0.out hb)
  have HM1 := hide hM
  clear hb hM HN HI HB0
  go_wp2_with fail
  clear hmk
  have HB2 := hide (bel HB1.out (bel1 V1 (.cells (zA (List.replicate 44 0)) 3)))
  refine (HR.out _ _ _ _ _ _ (HM1.out.later (bel1 _ _)) (aw_new V1)).mono ?_
  rintro e V2 ⟨rfl, hb⟩
  have HB3 := hide (bel HB2.out hb)
  clear hb HR HM1
  go_wp2_with fail
  go_ret
  exact ⟨rfl, HB3.out⟩

end Go.Proofs.Chn

/-
  New, Run and Trace; awake of the statements.
-/
import Derived.Test.YtjmfboegnmogdaaGreatRGZI
import Derived.Test.YtjmfboegnmogdaaGreatRGZF
import Derived.Test.YtjmfboegnmogdaaGreatRYd
import Derived.Test.YtjmfboegnmogdaaGreatRGZC
import Derived.Test.YtjmfboegnmogdaaGreatRGZ
import Derived.Test.YtjmfboegnmogdaaGreatRCdApart
import Derived.Test.YtjmfboegnmogdaaGreatRGC
namespace Go.Proofs.Vmm
open Go.RowKit Go.IntWalk YtjmfboegnmogdaaGreat.Knd
open YtjmfboegnmogdaaGreat (Wd wdA Fits inpV)
open Cde (In i0 ia kd cd Ins is6 at6 six_of four_of two_of has_new1 okI zA zA_get put_z rep_succ take_snoc vlI vlF vaZ TwP mc_parts)
open Vfy (vfE vfN vfC w32 vf_parts vf_holds va_unfit Inn)
set_option linter.unusedVariables false

/-- What Run answers: the number, the steps. -/
def rnX (Z : Int × List Int) (o : Int) : Int := if Z.1 = 0 then Z.2.getD o.toNat 0 else 0
def rnN (Z : Int × List Int) : Int := if Z.1 = 0 then Z.2.length else 0
def runV (Z : Int × List Int) (o : Int) : Value := .tuple #[.int .i64 (rnX Z o), .int .i64 (rnN Z), .int .i64 Z.1]
/-- A run of a code that was taken: all registers, or the window does not fit. -/
theorem run_two {f d out : Int} {L : List In} (h : vfE f d L out = 0) (v : Wd) : (Fits f d v ∧ ∃ D, vaZ f d v L out = (0, D) ∧ D.length = L.length ∧ (∀ i, i < L.length → w32 (D.getD i 0)) ∧ 0 ≤ out ∧ out < L.length) ∨ (¬ Fits f d v ∧ vaZ f d v L out = (1, [])) := by
  by_cases hF : Fits f d v
  · refine .inl ⟨hF, ?_⟩
    obtain ⟨D, h1, h2, h3⟩ := run_in h hF (Nat.le_refl _)
    rw [List.take_length] at h1
    obtain ⟨m, -⟩ := vf_parts h
    obtain ⟨-, -, -, m3, m4, -⟩ := mc_parts m
    exact ⟨D, by rw [vaZ, if_pos m, if_pos hF, h1], h2, h3, m3, m4⟩
  · exact .inr ⟨hF, va_unfit h hF⟩

set_option maxRecDepth 100000 in
set_option maxHeartbeats 4000000 in
theorem mRun_any {f d out : Int} (v : Wd) {lo g : Nat} {a pa : Option Addr} {n cap pl pc : Nat} {L : List In} {W : World} (hM : Mc W lo g f d L out a n cap) (hP : Ints W pa pl pc v.ps) (h : vfE f d L out = 0) :
    Calls Tryz.prog 15 #[.pointer (some ⟨g, 0, none⟩), .agg (wdA v pa pl pc)] W fun e W' => e = .returned (runV (vaZ f d v L out) out) ∧ Below W.heap.size W W' := by
  have hb1 := bel1 W (.cells (wdA v pa pl pc) 45)
  have HM0 := hide (hM.later hb1)
  have HR := hide (mrun_any v (hM.later hb1) (hP.later hb1) h)
  have HB0 := hide hb1
  have h2 := run_two h v
  rw [hM.ins.len] at h2
  clear hb1 hM hP h
  rcases h2 with ⟨hF, D, h1, h2, h3, h4, h5⟩ | ⟨hF, h1⟩
  · rw [h1] at HR ⊢
    obtain ⟨q, rfl⟩ : ∃ q : Nat, out = q := ⟨out.toNat, by omega⟩
    have hv : runV (0, D) q = .tuple #[.int .i64 (D.getD q 0), .int .i64 n, .int .i64 0] := by simp [runV, rnX, rnN, h2]
    rw [hv]
    obtain ⟨x, hx⟩ : ∃ x, D.getD q 0 = x := ⟨_, rfl⟩
    obtain ⟨x1, x2⟩ := h3 q (by omega)
    rw [hx] at x1 x2 ⊢
    have HX := hide hx
    have HDl := hide h2
    clear hF h1 h2 h3 hv hx h4
    go_enter Tryz.func15, Tryz.ntmps15
    go_wp2_with fail
    refine HR.out.mono ?_
    rintro e V1 ⟨ra, rc, rfl, hO, hb⟩
    have HM1 := hide (HM0.out.later hb)
    have HB1 := hide (bel HB0.out hb)
    obtain ⟨a', c', e', hI, -⟩ := Regs.of_owns hO
    cases e'
    dsimp only at hI ⊢
    rw [HDl.out] at hI ⊢
    obtain ⟨rb, ro, rfl, -, hat⟩ := hI.at (by omega)
    have px := hat q (by omega)
    rw [HX.out] at px
    obtain ⟨-, -, -, c3⟩ := four_of HM1.out.b
    have i0 : (0 : Int) ≤ q := by omega
    clear hb hO hI hat HR HM0 HB0
    go_wp2_with fail
    exact bodyPost_ret (v := .tuple #[.int .i64 x, .int .i64 n, .int .i64 0]) (by simp [results, Tryz.results15, go_sem]) rfl ⟨rfl, HB1.out⟩
  · rw [h1] at HR ⊢
    clear hF h1
    go_enter Tryz.func15, Tryz.ntmps15
    go_wp2_with fail
    refine HR.out.mono ?_
    rintro e V1 ⟨ra, rc, rfl, -, hb⟩
    have HB1 := hide (bel HB0.out hb)
    clear hb HR HM0 HB0
    go_wp2_with fail
    exact bodyPost_ret (v := .tuple #[.int .i64 0, .int .i64 0, .int .i64 1]) (by simp [results, Tryz.results15, go_sem]) rfl ⟨rfl, HB1.out⟩
theorem mRun_nil (v : Wd) (pa : Option Addr) (pl pc : Nat) (W : World) :
    Calls Tryz.prog 15 #[.pointer none, .agg (wdA v pa pl pc)] W fun e W' => e = .returned (.tuple #[.int .i64 0, .int .i64 0, .int .i64 1]) ∧ Below W.heap.size W W' := by
  have HB0 := hide (bel1 W (.cells (wdA v pa pl pc) 45))
  have HR := hide fun w => mrun_nil v pa pl pc w
  go_enter Tryz.func15, Tryz.ntmps15
  go_wp2_with fail
  refine (HR.out _).mono ?_
  rintro e V1 ⟨ra, rc, rfl, -, hb⟩
  have HB1 := hide (bel HB0.out hb)
  clear hb HR HB0
  go_wp2_with fail
  exact bodyPost_ret (v := .tuple #[.int .i64 0, .int .i64 0, .int .i64 1]) (by simp [results, Tryz.results15, go_sem]) rfl ⟨rfl, HB1.out⟩

set_option maxRecDepth 100000 in
set_option maxHeartbeats 4000000 in
theorem mTrace_any {f d out : Int} (v : Wd) {lo g : Nat} {a pa : Option Addr} {n cap pl pc : Nat} {L : List In} {W : World} (hM : Mc W lo g f d L out a n cap) (hP : Ints W pa pl pc v.ps) (h : vfE f d L out = 0) :
    Calls Tryz.prog 28 #[.pointer (some ⟨g, 0, none⟩), .agg (wdA v pa pl pc)] W (TwP W (vaZ f d v L out)) := by
  have hb1 := bel1 W (.cells (wdA v pa pl pc) 45)
  have HR := hide (mrun_any v (hM.later hb1) (hP.later hb1) h)
  have HB0 := hide hb1
  have h2 := run_two h v
  obtain ⟨mc, -⟩ := vf_parts h
  obtain ⟨-, m1, m2, -, -, -⟩ := mc_parts mc
  rw [hM.ins.len] at h2 m1 m2
  clear hb1 hM hP h mc
  rcases h2 with ⟨hF, D, h1, h2, h3, h4, h5⟩ | ⟨hF, h1⟩
  · rw [h1] at HR ⊢
    have HDl := hide h2
    have HW3 := hide h3
    have hmk := fun w => Cde.make_z n (by omega) w
    clear hF h1 h2 h3 h4 h5
    go_enter Tryz.func28, Tryz.ntmps28
    go_wp2_with fail
    refine HR.out.mono ?_
    rintro e V1 ⟨ra, rc, rfl, hO, hb⟩
    have HB1 := hide (bel HB0.out hb)
    obtain ⟨a', c', e', hI, -⟩ := Regs.of_owns hO
    cases e'
    dsimp only at hI ⊢
    rw [HDl.out] at hI ⊢
    have HI1 := hide hI
    have HG2 := hide (HasC.new V1 3 (zA (List.replicate n 0)))
    have HB2 := hide (bel1 V1 (.cells (zA (List.replicate n 0)) 3))
    have HS := hide (show W.heap.size ≤ V1.heap.size from HB1.out.size)
    clear hb hO hI HR HB0
    go_wp2_with fail
    clear hmk
    generalize hg : V1.heap.size = g at *
    go_loopw [25] (fun i wr => ∃ (k : Nat), k ≤ n ∧ i = .int .i64 k ∧ Hid (HasC wr g 3 (zA (D.take k ++ List.replicate (n - k) 0))) ∧ Hid (Below g V1 wr)) (fun i _ => n - (intOf i).toNat)
    case atStart => exact ⟨0, Nat.zero_le _, rfl, HG2, HB2⟩
    case round =>
      obtain ⟨k, hk, rfl, HG, HB⟩ := hrel
      rename World => V
      clear HG2 HB2
      by_cases hlt : k < n
      · obtain ⟨rb, ro, rfl, -, hat⟩ := (HI1.out.later (by rw [hg]; exact HB.out)).at (by omega)
        have px := hat k hlt
        obtain ⟨x1, x2⟩ := HW3.out k hlt
        have HX := hide (take_snoc 0 (L := D) (k := k) (by rw [HDl.out]; exact hlt))
        have hgx := HG.out
        rw [rep_succ hlt] at hgx
        have hlk : (D.take k).length = k := by rw [List.length_take, HDl.out]; omega
        generalize D.getD k 0 = x at *
        have HX2 := hide (put_z hgx hlk x)
        have w0 := hgx.frozen k
        have w1 := hgx.cell k (zA_get _ k (by simp [HDl.out]; omega))
        have HB4 := hide (HB.out.setCell (p := ⟨g, k, none⟩) (by simp) (.int .i64 x))
        have hi0 : (0 : Int) ≤ k := by omega
        have hi1 : (k : Int) < n := by omega
        clear hat hgx hlk
        go_wp2_with fail
        go_roundw
        case rel => exact ⟨k + 1, by omega, by go_num, hide (by rw [HX.out, List.append_assoc]; exact HX2.out), HB4⟩
        case measure => simp [intOf]; omega
      · obtain rfl : k = n := by omega
        have HX := HG.out
        rw [Nat.sub_self, List.replicate_zero, List.append_nil, List.take_of_length_le (by rw [HDl.out]; exact Nat.le_refl _)] at HX
        have HX2 := hide HX
        have HBe : Hid (Below W.heap.size W V) := hide (bel HB1.out (by rw [hg]; exact HB.out))
        clear HX
        go_wp2_with fail
        exact bodyPost_ret (v := .tuple #[.slice (some ⟨g, 0, none⟩) k k, .int .i64 0]) (by simp [results, Tryz.results28, go_sem]) rfl (TwP.row HX2.out HDl.out HS.out (by omega) HBe.out)
  · rw [h1] at HR ⊢
    clear hF h1
    go_enter Tryz.func28, Tryz.ntmps28
    go_wp2_with fail
    refine HR.out.mono ?_
    rintro e V1 ⟨ra, rc, rfl, -, hb⟩
    have HB1 := hide (bel HB0.out hb)
    clear hb HR HB0
    go_wp2_with fail
    exact bodyPost_ret (v := .tuple #[.slice none 0 0, .int .i64 1]) (by simp [results, Tryz.results28, go_sem]) rfl (TwP.no HB1.out)
theorem mTrace_nil (v : Wd) (pa : Option Addr) (pl pc : Nat) (W : World) :
    Calls Tryz.prog 28 #[.pointer none, .agg (wdA v pa pl pc)] W (TwP W (1, [])) := by
  have HB0 := hide (bel1 W (.cells (wdA v pa pl pc) 45))
  have HR := hide fun w => mrun_nil v pa pl pc w
  go_enter Tryz.func28, Tryz.ntmps28
  go_wp2_with fail
  refine (HR.out _).mono ?_
  rintro e V1 ⟨ra, rc, rfl, -, hb⟩
  have HB1 := hide (bel HB0.out hb)
  clear hb HR HB0
  go_wp2_with fail
  exact bodyPost_ret (v := .tuple #[.slice none 0 0, .int .i64 1]) (by simp [results, Tryz.results28, go_sem]) rfl (TwP.no HB1.out)

/-- What New answers. -/
def NwP (w : World) (f d : Int) (L : List In) (out : Int) (e : Ending) (W' : World) : Prop :=
  Below w.heap.size w W' ∧ ((vfE f d L out ≠ 0 ∧ e = .returned (.tuple #[.pointer none, .int .i64 (vfE f d L out)])) ∨ (vfE f d L out = 0 ∧ ∃ g a n c, e = .returned (.tuple #[.pointer (some ⟨g, 0, none⟩), .int .i64 0]) ∧ Mc W' w.heap.size g f d L out a n c))
set_option maxRecDepth 100000 in
set_option maxHeartbeats 4000000 in
theorem mNew_any (f d out : Int) {a : Option Addr} {n cap : Nat} {L : List In} {W : World} (hL : Ins W a n cap L) :
    Calls Tryz.prog 6 #[.agg (cd f d a n cap out)] W (NwP W f d L out) := by
  have hb1 := bel1 W (.cells (cd f d a n cap out) 26)
  have HC0 := hide (HasC.new W 26 (cd f d a n cap out))
  have HV := hide (Vfy.yverify_any f d out (hL.later hb1))
  have HB0 := hide hb1
  have HLI := hide hL
  clear hb1
  by_cases h0 : vfE f d L out = 0
  · obtain ⟨mc, -⟩ := vf_parts h0
    obtain ⟨-, m1, m2, -, -, -⟩ := mc_parts mc
    rw [hL.len] at m1 m2
    unfold Vfy.VfP at HV
    rw [h0] at HV
    have H0 := hide h0
    generalize vfN f d L out = vm at *
    generalize vfC f d L out = vc at *
    generalize Vfy.vfS f d L out = vs at *
    clear mc h0 hL
    go_enter Tryz.func6, Tryz.ntmps6
    go_wp2_with fail
    refine HV.out.mono ?_
    rintro e V1 ⟨ga, gc, rfl, hS, hb, -, -⟩
    have hb2 := bel hb (bel1 V1 (.cells #[.slice ga vm gc, .int .i64 vc, .int .i64 0] 35))
    have HC1 := hide (HC0.out.below hb2)
    have HB1 := hide (bel HB0.out hb2)
    have HCl := hide (fclone_any (HLI.out.later HB1.out) (by omega) (by omega))
    obtain ⟨c0, c1, c2, c3⟩ := four_of (HC0.out.below hb)
    have hz := (HC0.out.below hb).lt
    clear hb hb2 hS HV HC0 HB0
    go_wp2_with fail
    refine HCl.out.mono ?_
    rintro e V2 ⟨a2, k2, rfl, hO, hb⟩
    have HC2 := HC1.out.below hb
    have hne : Value.ownBlock (.slice a2 n k2) ≠ some W.heap.size := fun hk => by
      have := (hO.lt _ hk).1
      have := HC1.out.lt
      omega
    have HO2 := hide (Cde.own_mono (ownsRow_setCell_other hO (a := ⟨W.heap.size, 2, none⟩) hne (.slice a2 n k2)) HB1.out.size)
    have HC3 := hide (HC2.set 2 (.slice a2 n k2))
    have HB3 := hide ((bel HB1.out hb).setCell (p := ⟨W.heap.size, 2, none⟩) (Nat.le_refl _) (.slice a2 n k2))
    obtain ⟨c0, c1, c2', c3⟩ := four_of HC2
    have z2 := HC2.frozen 2
    have hz2 := HC2.lt
    obtain ⟨d0, d1, d2, d3⟩ := four_of HC3.out
    clear hb hO hne HC2
    go_wp2_with fail
    have hb4 := bel1 (V2.setCell ⟨W.heap.size, 2, none⟩ (.slice a2 n k2)) (.cells (cd f d a2 n k2 out) 66)
    have hn := HasC.new (V2.setCell ⟨W.heap.size, 2, none⟩ (.slice a2 n k2)) 66 (cd f d a2 n k2 out)
    rw [World.size_setCell] at hn
    have hlo : W.heap.size ≤ V2.heap.size := by have := HB3.out.size; rwa [World.size_setCell] at this
    exact bodyPost_ret (v := .tuple #[.pointer (some ⟨V2.heap.size, 0, none⟩), .int .i64 0]) (by simp [results, Tryz.results6, go_sem]) rfl ⟨bel HB3.out hb4, .inr ⟨H0.out, _, _, _, _, rfl, ⟨hn, Cde.own_later HO2.out hb4, hlo⟩⟩⟩
  · unfold Vfy.VfP at HV
    obtain ⟨er, her⟩ : ∃ er, vfE f d L out = er := ⟨_, rfl⟩
    have HE : Hid (∀ e W', Below W.heap.size W W' → e = .returned (.tuple #[.pointer none, .int .i64 er]) → NwP W f d L out e W') := hide fun e W' hb he => ⟨hb, .inl ⟨h0, by rw [her]; exact he⟩⟩
    have hr : (er != 0) = true := by rw [← her]; simpa using h0
    rw [her] at HV
    generalize vfN f d L out = vm at *
    generalize vfC f d L out = vc at *
    generalize Vfy.vfS f d L out = vs at *
    clear h0 her hL
    go_enter Tryz.func6, Tryz.ntmps6
    go_wp2_with fail
    refine HV.out.mono ?_
    rintro e V1 ⟨ga, gc, rfl, hS, hb, -, -⟩
    have HB1 := hide (bel HB0.out (bel hb (bel1 V1 (.cells #[.slice ga vm gc, .int .i64 vc, .int .i64 0] 35))))
    clear hb hS HV HC0 HB0
    go_wp2_with fail
    exact bodyPost_ret (v := .tuple #[.pointer none, .int .i64 er]) (by simp [results, Tryz.results6, go_sem]) rfl (HE.out _ _ HB1.out rfl)


/-! awake -/
def awL : List In := [⟨1, 0, 0, 0, 7, 0⟩, ⟨1, 0, 0, 0, 2, 0⟩, ⟨9, 0, 1, 0, 0, 0⟩]
def aw0 : Wd := ⟨0, 0, 0, List.replicate 44 0⟩
theorem aw_vf : vfE 0 8 awL 2 = 0 := by decide +kernel
theorem aw_mc : Cde.mcB 0 8 awL 2 = true := by decide +kernel
theorem aw_fits : Fits 0 8 aw0 := by
  refine ⟨⟨⟨⟨0, 4095, by decide +kernel, by decide, by decide⟩, ⟨0, 4095, by decide +kernel, by decide, by decide⟩⟩, ⟨0, 3, by decide +kernel, by decide, by decide⟩⟩, by decide +kernel, ?_⟩
  decide +kernel
theorem aw_va : vaZ 0 8 aw0 awL 2 = (0, [7, 2, 5]) := by
  rw [vaZ, if_pos aw_mc, if_pos aw_fits]
  decide +kernel
theorem aw_run : runV (vaZ 0 8 aw0 awL 2) 2 = .tuple #[.int .i64 5, .int .i64 3, .int .i64 0] := by rw [aw_va]; rfl
theorem aw_new (w : World) : Ints (w.alloc (.cells (zA (List.replicate 44 0)) 3)) (some ⟨w.heap.size, 0, none⟩) 44 44 aw0.ps := Cde.has_z (L := List.replicate 44 0) (HasC.new w 3 _) (by decide)
set_option maxRecDepth 100000 in
set_option maxHeartbeats 4000000 in
theorem mawake_any (W : World) : Calls Tryz.prog 8 #[] W fun e w' => e = .returned (.bool true) ∧ Below W.heap.size W w' := by
  have HN := hide fun (V : World) (a : Option Addr) (h : Ins V a 3 3 awL) => mNew_any 0 8 2 h
  have HR := hide fun (V : World) (lo g : Nat) (a pa : Option Addr) (n c : Nat) (h : Mc V lo g 0 8 awL 2 a n c) (hp : Ints V pa 44 44 aw0.ps) => mRun_any aw0 h hp aw_vf
  rw [aw_run] at HR
  have hmk : ∀ w : World, (Instr.makeSlice 43 (.int .i64 44) (.int .i64 44)).run Tryz.prog w = .ok (.slice (some ⟨w.heap.size, 0, none⟩) 44 44) (w.alloc (.cells (zA (List.replicate 44 0)) 3)) := Cde.make_z 44 (by decide)
  have HI := hide (Cde.has_ins (L := awL) (HasC.new W 41 (is6 awL).toArray) (by decide))
  have HB0 := hide (bel1 W (.cells (is6 awL).toArray 41))
  go_enter Tryz.func8, Tryz.ntmps8
  go_wp2_with fail
  refine (HN.out _ _ HI.out).mono ?_
  rintro e V1 ⟨hb, ⟨h0, -⟩ | ⟨-, g, a, n, c, rfl, hM⟩⟩
  · exact absurd aw_vf h0
  have HB1 := hide (bel HB0.out hb)
  have HM1 := hide hM
  clear hb hM HN HI HB0
  go_wp2_with fail
  clear hmk
  have HB2 := hide (bel HB1.out (bel1 V1 (.cells (zA (List.replicate 44 0)) 3)))
  refine (HR.out _ _ _ _ _ _ _ (HM1.out.later (bel1 _ _)) (aw_new V1)).mono ?_
  rintro e V2 ⟨rfl, hb⟩
  have HB3 := hide (bel HB2.out hb)
  clear hb HR HM1
  go_wp2_with fail
  go_ret
  exact ⟨rfl, HB3.out⟩

end Go.Proofs.Vmm

/-
  The document's Run; runs of the statements: a machine answers as the document on a window.
-/
namespace Go.Proofs.Vmm
open Go.RowKit Go.IntWalk YtjmfboegnmogdaaGreat.Knd
open YtjmfboegnmogdaaGreat (Wd wdA Fits)
open Cde (In i0 ia kd cd Ins is6 at6 six_of four_of two_of has_new1 vaZ TwP mc_parts own_later own_mono owns_other tw_ints getD_pre below_dN xvalues_any)
open Vfy (vfE vfN vfC vfS w32 vf_parts)
set_option linter.unusedVariables false

set_option maxRecDepth 100000 in
set_option maxHeartbeats 4000000 in
theorem grun_any {f d out : Int} (v : Wd) {a pa : Option Addr} {n cap pl pc : Nat} {L : List In} {W : World} (hL : Ins W a n cap L) (hP : Ints W pa pl pc v.ps) (h : vfE f d L out = 0) :
    Calls Tryz.prog 27 #[.agg (cd f d a n cap out), .agg (wdA v pa pl pc)] W (TwP W (vaZ f d v L out)) := by
  have hb1 := bel (bel1 W (.cells (cd f d a n cap out) 26)) (bel1 (W.alloc (.cells (cd f d a n cap out) 26)) (.cells (wdA v pa pl pc) 45))
  have HC0 := hide ((HasC.new W 26 (cd f d a n cap out)).alloc (.cells (wdA v pa pl pc) 45))
  have HW0 := hide (has_new1 W (.cells (cd f d a n cap out) 26) 45 (wdA v pa pl pc))
  have HB0 := hide hb1
  have HV := hide (Vfy.jverify_any f d out (hL.later hb1))
  have HX := hide fun (V : World) (hb : Below W.heap.size W V) => xvalues_any f d out v (hL.later hb) (hP.later hb)
  unfold Vfy.VfP at HV
  rw [h] at HV
  generalize vfN f d L out = vm at *
  generalize vfC f d L out = vc at *
  generalize Vfy.vfS f d L out = vs at *
  obtain ⟨Z, hZ⟩ : ∃ Z, vaZ f d v L out = Z := ⟨_, rfl⟩
  rw [hZ] at HX ⊢
  clear hb1 hL hP h hZ
  obtain ⟨er, D⟩ := Z
  go_enter Tryz.func27, Tryz.ntmps27
  go_wp2_with fail
  refine HV.out.mono ?_
  rintro e V1 ⟨ga, gc, rfl, -, hb, -, -⟩
  have hb2 := bel hb (bel1 V1 (.cells #[.slice ga vm gc, .int .i64 vc, .int .i64 0] 35))
  have HC1 := hide (HC0.out.below hb2)
  have HW1 := hide (HW0.out.below hb2)
  have HB1 := hide (bel HB0.out hb2)
  clear hb hb2 HV HC0 HW0 HB0
  obtain ⟨c0, c1, c2, c3⟩ := four_of HC1.out
  obtain ⟨w0, w1, w2, w3⟩ := four_of HW1.out
  go_wp2_with fail
  refine (HX.out _ HB1.out).mono ?_
  rintro e V2 ⟨la, lc, rfl, hO, hb⟩
  have HO := hide (own_mono hO HB1.out.size)
  have HB2 := hide (bel HB1.out hb)
  clear hO hb HX c0 c1 c2 c3 w0 w1 w2 w3
  go_wp2_with fail
  exact bodyPost_ret (v := .tuple #[.slice la D.length lc, .int .i64 er]) (by simp [results, Tryz.results27, go_sem]) rfl ⟨la, lc, rfl, HO.out, HB2.out⟩

/-- The boxes of runs, the machine, what was handed in, in a later world. -/
structure Rq (W V : World) (f d out : Int) (v : Wd) (a pa : Option Addr) (n cap pl pc : Nat) (L : List In) (lo g : Nat) (a1 : Option Addr) (n1 c1 g4 : Nat) : Prop where
  old : Below W.heap.size W V
  b0 : HasC V W.heap.size 26 (cd f d a n cap out)
  b1 : HasC V (W.heap.size + 1) 45 (wdA v pa pl pc)
  z : HasC V (W.heap.size + 1 + 1) 45 (wdA v (some ⟨g4, 0, none⟩) pl (pl + 40))
  O : V.ownsRow W.heap.size 3 1 (.slice (some ⟨g4, 0, none⟩) (pl + 40) (pl + 40)) (pl + 40) (i64s (v.ps ++ marks))
  M : Mc V lo g f d L out a1 n1 c1
  L0 : Ins V a n cap L
  P0 : Ints V pa pl pc v.ps
section
variable {W V V' : World} {f d out : Int} {v : Wd} {a pa : Option Addr} {n cap pl pc : Nat} {L : List In} {lo g : Nat} {a1 : Option Addr} {n1 c1 g4 : Nat}
theorem Rq.later (h : Rq W V f d out v a pa n cap pl pc L lo g a1 n1 c1 g4) (hb : Below V.heap.size V V') : Rq W V' f d out v a pa n cap pl pc L lo g a1 n1 c1 g4 :=
  ⟨bel h.old hb, h.b0.below hb, h.b1.below hb, h.z.below hb, own_later h.O hb, h.M.later hb, h.L0.later hb, h.P0.later hb⟩
theorem Rq.more (h : Rq W V f d out v a pa n cap pl pc L lo g a1 n1 c1 g4) : Ints V (some ⟨g4, 0, none⟩) (pl + 40) (pl + 40) (v.ps ++ marks) := by
  obtain ⟨a, c, e, hi, -⟩ := Ints.of_owns h.O
  cases e
  exact hi
theorem Rq.P2 (h : Rq W V f d out v a pa n cap pl pc L lo g a1 n1 c1 g4) : Ints V (some ⟨g4, 0, none⟩) pl (pl + 40) v.ps := by
  have h1 := h.more
  refine ⟨h.P0.len, by omega, h1.max, (fun h => by cases h), ?_⟩
  rcases h1.cell with h0 | ⟨b, off, e, hc⟩
  · omega
  · refine .inr ⟨b, off, e, fun i hi => ?_⟩
    rw [hc i (by omega), getD_pre (by rw [h.P0.len]; exact hi)]
/-- The list that Apart is asked about. -/
theorem Rq.own (h : Rq W V f d out v a pa n cap pl pc L lo g a1 n1 c1 g4) : V.ownsRow W.heap.size 3 1 (.slice (some ⟨g4, 0, none⟩) pl (pl + 40)) pl (i64s v.ps) := by
  have hl := h.P0.len
  rcases h.O.2 with ⟨h0, -⟩ | ⟨g, cap, cur, e, h1, h2, h3, h4, h5, h6⟩
  · cases h0
  · cases e
    refine ⟨by simpa using hl, .inr ⟨g4, pl + 40, cur, rfl, h1, h2, by omega, h4, h5, ?_⟩⟩
    have h7 := congrArg (List.take (pl * 1)) h6
    rw [List.take_take, show min (pl * 1) ((pl + 40) * 1) = pl * 1 by omega] at h7
    rw [h7, i64s, List.map_append, List.take_append_of_le_length (by simp [hl]), List.take_of_length_le (by simp [hl])]
end
theorem run_one {f d out : Int} {L : List In} (h : vfE f d L out = 0) (v : Wd) : ∃ er D x, vaZ f d v L out = (er, D) ∧ D.length ≤ 200 ∧ runV (er, D) out = .tuple #[.int .i64 x, .int .i64 D.length, .int .i64 er] ∧ ((er ≠ 0 ∧ x = 0) ∨ (er = 0 ∧ 0 ≤ out ∧ out.toNat < D.length ∧ D.getD out.toNat 0 = x)) := by
  obtain ⟨m, -⟩ := vf_parts h
  obtain ⟨-, -, m2, -, -, -⟩ := mc_parts m
  rcases run_two h v with ⟨hF, D, h1, h2, -, h4, h5⟩ | ⟨hF, h1⟩
  · exact ⟨0, D, D.getD out.toNat 0, h1, by omega, by simp [runV, rnX, rnN], .inr ⟨rfl, h4, by omega, rfl⟩⟩
  · exact ⟨1, [], 0, h1, by simp, rfl, .inl ⟨by decide, rfl⟩⟩

set_option maxRecDepth 100000 in
set_option maxHeartbeats 16000000 in
theorem lruns_any {f d out : Int} (v : Wd) {lo g : Nat} {a pa a1 : Option Addr} {n cap pl pc n1 c1 : Nat} {L : List In} {W : World} (hM : Mc W lo g f d L out a1 n1 c1) (hL : Ins W a n cap L) (hP : Ints W pa pl pc v.ps) (h : vfE f d L out = 0) (hp : pl ≤ 17592186044000) :
    Calls Tryz.prog 10 #[.pointer (some ⟨g, 0, none⟩), .agg (cd f d a n cap out), .agg (wdA v pa pl pc)] W fun e W' => e = .returned (.bool true) ∧ Below W.heap.size W W' := by
  have hb1 := bel (bel1 W (.cells (cd f d a n cap out) 26)) (bel1 (W.alloc (.cells (cd f d a n cap out) 26)) (.cells (wdA v pa pl pc) 45))
  have hb2 := bel hb1 (bel1 ((W.alloc (.cells (cd f d a n cap out) 26)).alloc (.cells (wdA v pa pl pc) 45)) (.cells (wdA v pa pl pc) 45))
  have HC0 := hide (((HasC.new W 26 (cd f d a n cap out)).alloc (.cells (wdA v pa pl pc) 45)).alloc (.cells (wdA v pa pl pc) 45))
  have HW0 := hide ((has_new1 W (.cells (cd f d a n cap out) 26) 45 (wdA v pa pl pc)).alloc (.cells (wdA v pa pl pc) 45))
  have hz0 := HasC.new ((W.alloc (.cells (cd f d a n cap out) 26)).alloc (.cells (wdA v pa pl pc) 45)) 45 (wdA v pa pl pc)
  rw [World.size_alloc, World.size_alloc] at hz0
  have HZ0 := hide hz0
  have HB0 := hide hb2
  have HRm := hide (YtjmfboegnmogdaaGreat.Knd.roomy_any pa pl pc v.ps (((W.alloc (.cells (cd f d a n cap out) 26)).alloc (.cells (wdA v pa pl pc) 45)).alloc (.cells (wdA v pa pl pc) 45)) (hP.later hb2) hp)
  have HLI := hide hL
  have HPI := hide hP
  have HMI := hide hM
  obtain ⟨er, D, x, hZ, hDl, hRv, hx⟩ := run_one h v
  have HV1 := hide fun (V : World) (g4 : Nat) (h' : Rq W V f d out v a pa n cap pl pc L lo g a1 n1 c1 g4) => mTrace_any v h'.M h'.P2 h
  have HV0 := hide fun (V : World) (g4 : Nat) (h' : Rq W V f d out v a pa n cap pl pc L lo g a1 n1 c1 g4) => mRun_any v h'.M h'.P2 h
  have HV2 := hide fun (V : World) (g4 : Nat) (h' : Rq W V f d out v a pa n cap pl pc L lo g a1 n1 c1 g4) => grun_any v h'.L0 h'.P0 h
  have HH2 := hide fun (V : World) (g4 : Nat) (h' : Rq W V f d out v a pa n cap pl pc L lo g a1 n1 c1 g4) => YtjmfboegnmogdaaGreat.Knd.held_any g4 0 pl (pl + 40) pa pc v.ps V h'.more h'.P0
  rw [hZ] at HV0 HV1 HV2
  rw [hRv] at HV0
  have HX := hide hx
  have HLl := hide hDl
  clear hb1 hb2 hL hP hM hZ hDl hRv hx hz0 h
  go_enter Tryz.func10, Tryz.ntmps10
  go_wp2_with fail
  refine HRm.out.mono ?_
  rintro e V2 ⟨rfl, hO2, hb⟩
  simp only [World.size_alloc] at hO2 ⊢
  have HZ2 := HZ0.out.below hb
  have hold := (bel HB0.out hb).setCell (p := ⟨W.heap.size + 1 + 1, 3, none⟩) (by simp; omega) (.slice (some ⟨W.heap.size + 1 + 1 + 1, 0, none⟩) pl (pl + 40))
  have hq : Rq W (V2.setCell ⟨W.heap.size + 1 + 1, 3, none⟩ (.slice (some ⟨W.heap.size + 1 + 1 + 1, 0, none⟩) pl (pl + 40))) f d out v a pa n cap pl pc L lo g a1 n1 c1 (W.heap.size + 1 + 1 + 1) :=
    ⟨hold, (HC0.out.below hb).other (p := ⟨W.heap.size + 1 + 1, 3, none⟩) (by simp; omega) _, (HW0.out.below hb).other (p := ⟨W.heap.size + 1 + 1, 3, none⟩) (by simp) _, HZ2.set 3 _,
      own_mono (owns_other hO2 HZ2 (by decide) _) (by omega), HMI.out.later hold, HLI.out.later hold, HPI.out.later hold⟩
  have HQ3 := hide hq
  have s3 := HZ2.frozen 3
  obtain ⟨t0, t1, t2, t3⟩ := four_of HZ2
  have hz2 := HZ2.lt
  obtain ⟨u0, u1, u2, u3⟩ := four_of HQ3.out.b0
  obtain ⟨z0, z1, z2, z3⟩ := four_of HQ3.out.b1
  have hg4 := (hO2.lt _ rfl).2
  have HG4 := hide (show W.heap.size + 1 + 1 + 1 < (V2.setCell ⟨W.heap.size + 1 + 1, 3, none⟩ (.slice (some ⟨W.heap.size + 1 + 1 + 1, 0, none⟩) pl (pl + 40))).heap.size by simp only [World.size_setCell]; exact hg4)
  obtain ⟨o0, o1, o2, o3⟩ := four_of (HC0.out.below hb)
  obtain ⟨v0, v1, v2, v3⟩ := four_of (HW0.out.below hb)
  clear hb hO2 HZ2 hold hq HZ0 HC0 HW0 HB0 HRm hg4
  go_wp2_with fail
  obtain ⟨V3, hV3⟩ : ∃ V3, V2.setCell ⟨W.heap.size + 1 + 1, 3, none⟩ (.slice (some ⟨W.heap.size + 1 + 1 + 1, 0, none⟩) pl (pl + 40)) = V3 := ⟨_, rfl⟩
  rw [hV3] at HQ3 HG4 ⊢
  clear hV3 s3 t0 t1 t2 t3 hz2 u0 u1 u2 u3 z0 z1 z2 z3 o0 o1 o2 o3 v0 v1 v2 v3 HLI HPI HMI
  generalize W.heap.size + 1 + 1 + 1 = g4 at *
  refine (HV2.out _ _ HQ3.out).mono ?_
  rintro e V4 ⟨a2, c2, rfl, hO2, hb⟩
  simp only at hO2 ⊢
  have HQ4 := hide (HQ3.out.later hb)
  have HM4 := hide (tw_ints hO2)
  have HZ4 := hide hb.size
  clear hb hO2 HV2
  obtain ⟨z0, z1, z2, z3⟩ := four_of HQ4.out.z
  go_wp2_with fail
  refine (HV0.out _ _ HQ4.out).mono ?_
  rintro e V5 ⟨rfl, hb⟩
  have HQ5 := hide (HQ4.out.later hb)
  have HM5 := hide (HM4.out.later hb)
  have HZ5 := hide (Nat.le_trans HZ4.out hb.size)
  clear hb HQ4 HM4 HV0 HZ4 z0 z1 z2 z3
  obtain ⟨z0, z1, z2, z3⟩ := four_of HQ5.out.z
  go_wp2_with fail
  refine (HV1.out _ _ HQ5.out).mono ?_
  rintro e V6 ⟨a3, c3, rfl, hO3, hb⟩
  simp only at hO3 ⊢
  have HQ6 := hide (HQ5.out.later hb)
  have HM6 := hide (HM5.out.later hb)
  have HL6 := hide hO3
  have HS6 := hide hO3.lt
  have HZ6 := hide (Nat.le_trans HZ5.out hb.size)
  clear hb hO3 HQ5 HM5 z0 z1 z2 z3
  obtain ⟨z0, z1, z2, z3⟩ := four_of HQ6.out.z
  go_wp2_with fail
  refine (HV1.out _ _ HQ6.out).mono ?_
  rintro e V7 ⟨a5, c5, rfl, hO5, hb⟩
  simp only at hO5 ⊢
  have HQ7 := hide (HQ6.out.later hb)
  have HM7 := hide (HM6.out.later hb)
  have HL7 := hide (own_later HL6.out hb)
  have HK7 := hide hO5
  have HS7 := hide hO5.lt
  clear hb hO5 HQ6 HM6 HL6 HV1 z0 z1 z2 z3
  have HS := hide (YtjmfboegnmogdaaGreat.Knd.sameI_self a3 a2 D.length D.length c3 c2 D V7 (tw_ints HL7.out) HM7.out)
  have y0 : (er != er) = false := by simp
  have y1 : ((D.length : Int) != (D.length : Int)) = false := by simp
  go_wp2_with fail
  refine HS.out.mono ?_
  rintro e V8 ⟨rfl, q1, rfl⟩
  have hb := below_dN V7 q1
  have HQ8 := hide (HQ7.out.later hb)
  have HL8 := hide (own_later HL7.out hb)
  have HM8 := hide (HM7.out.later hb)
  have HK8 := hide (own_later HK7.out hb)
  have HZ8 := hide hb.size
  clear hb HQ7 HL7 HM7 HK7 HS
  generalize V7.drewN q1 = V8 at *
  have HS := hide (YtjmfboegnmogdaaGreat.Knd.sameI_self a5 a2 D.length D.length c5 c2 D V8 (tw_ints HK8.out) HM8.out)
  go_wp2_with fail
  refine HS.out.mono ?_
  rintro e V9 ⟨rfl, q2, rfl⟩
  have hb := below_dN V8 q2
  have HQ9 := hide (HQ8.out.later hb)
  have HL9 := hide (own_later HL8.out hb)
  have HM9 := hide (HM8.out.later hb)
  have HK9 := hide (own_later HK8.out hb)
  have HZ9 := hide (Nat.le_trans HZ8.out hb.size)
  clear hb HQ8 HL8 HM8 HK8 HS HZ8
  generalize V8.drewN q2 = V9 at *
  obtain ⟨x0, x1, x2, x3⟩ := four_of HQ9.out.z
  obtain ⟨w0, w1, w2, w3⟩ := four_of HQ9.out.b1
  go_wp2_with fail
  refine (HH2.out _ _ HQ9.out).mono ?_
  rintro e V11 ⟨rfl, q3, rfl⟩
  have hb := below_dN V9 q3
  have HQ11 := hide (HQ9.out.later hb)
  have HL11 := hide (own_later HL9.out hb)
  have HM11 := hide (HM9.out.later hb)
  have HK11 := hide (own_later HK9.out hb)
  have HZ11 := hide (Nat.le_trans HZ9.out hb.size)
  clear hb HQ9 HL9 HM9 HK9 HZ9 HH2 x0 x1 x2 x3 w0 w1 w2 w3
  generalize V9.drewN q3 = V11 at *
  rcases HX.out with ⟨he, rfl⟩ | ⟨rfl, i0, i1, hx⟩
  · have y2 : (er != 0) = true := by simpa using he
    clear he HX
    go_wp2_with fail
    go_ret
    exact ⟨rfl, HQ11.out.old⟩
  obtain ⟨q, rfl⟩ : ∃ q : Nat, out = q := ⟨out.toNat, by omega⟩
  rw [Int.toNat_natCast] at i1 hx
  obtain ⟨b2, o2, rfl, -, hat⟩ := HM11.out.at (by omega)
  have px := hat q i1
  rw [hx] at px
  have j1 : (q : Int) < (D.length : Int) := by omega
  have j2 : (x == x) = true := by simp
  obtain ⟨x0, x1, x2, x3⟩ := four_of HQ11.out.z
  obtain ⟨w0, w1, w2, w3⟩ := four_of HQ11.out.b0
  clear hat hx HX HM11 y0 y1
  go_wp2_with fail
  have hba := bel1 V11 (.cells #[.slice a3 D.length c3, .slice a5 D.length c5, .slice (some ⟨g4, 0, none⟩) pl (pl + 40)] 43)
  have hX := HasC.new V11 43 #[.slice a3 D.length c3, .slice a5 D.length c5, .slice (some ⟨g4, 0, none⟩) pl (pl + 40)]
  have r0 := own_later HL11.out hba
  have r1 := own_later HK11.out hba
  have r2 := own_later HQ11.out.own hba
  have hA : ∀ k, Value.ownBlock (.slice a3 D.length c3) = some k → V5.heap.size ≤ k ∧ k < V6.heap.size := HS6.out
  have hC : ∀ k, Value.ownBlock (.slice a5 D.length c5) = some k → V6.heap.size ≤ k ∧ k < V7.heap.size := HS7.out
  have hD : ∀ k, Value.ownBlock (.slice (some ⟨g4, 0, none⟩) pl (pl + 40)) = some k → W.heap.size ≤ k ∧ k < V3.heap.size := fun k hk => by
    have h4 : k = g4 := by simp [Value.ownBlock] at hk; exact hk.symm
    subst h4
    exact ⟨(HQ11.out.O.lt _ rfl).1, HG4.out⟩
  have s5 := HZ5.out
  have s6 := HZ6.out
  have s11 := HZ11.out
  have s3 : W.heap.size ≤ V3.heap.size := by have := hD g4 rfl; omega
  have hlf := HLl.out
  have hl : Cde.Ap.Lists (V11.alloc (.cells #[.slice a3 D.length c3, .slice a5 D.length c5, .slice (some ⟨g4, 0, none⟩) pl (pl + 40)] 43)) V11.heap.size 3 (fun i => if i = 0 then .slice a3 D.length c3 else if i = 1 then .slice a5 D.length c5 else .slice (some ⟨g4, 0, none⟩) pl (pl + 40)) (fun i => if i = 0 then D.length else if i = 1 then D.length else pl) := by
    have s7 : ∀ k, Value.ownBlock (.slice a3 D.length c3) = some k → k < V11.heap.size := fun k hk => (HL11.out.lt k hk).2
    have s8 : ∀ k, Value.ownBlock (.slice a5 D.length c5) = some k → k < V11.heap.size := fun k hk => (HK11.out.lt k hk).2
    refine ⟨hX.lt, fun i hi => ?_, fun i hi => ?_, fun i j hi hj hij k hk => ?_, fun i hi => ?_, fun i hi => ?_, by omega⟩
    · match i, hi with
      | 0, _ => exact hX.cell 0 rfl
      | 1, _ => exact hX.cell 1 rfl
      | 2, _ => exact hX.cell 2 rfl
    · match i, hi with
      | 0, _ => exact ⟨_, own_mono r0 (Nat.zero_le _)⟩
      | 1, _ => exact ⟨_, own_mono r1 (Nat.zero_le _)⟩
      | 2, _ => exact ⟨_, own_mono r2 (Nat.zero_le _)⟩
    · intro hk2
      match i, hi, j, hj with
      | 0, _, 0, _ => exact hij rfl
      | 1, _, 1, _ => exact hij rfl
      | 2, _, 2, _ => exact hij rfl
      | 0, _, 1, _ => have h1 := hA k hk; have h2 := hC k hk2; omega
      | 0, _, 2, _ => have h1 := hA k hk; have h2 := hD k hk2; omega
      | 1, _, 0, _ => have h1 := hC k hk; have h2 := hA k hk2; omega
      | 1, _, 2, _ => have h1 := hC k hk; have h2 := hD k hk2; omega
      | 2, _, 0, _ => have h1 := hD k hk; have h2 := hA k hk2; omega
      | 2, _, 1, _ => have h1 := hD k hk; have h2 := hC k hk2; omega
    · intro hk2
      match i, hi with
      | 0, _ => have h1 := s7 _ hk2; omega
      | 1, _ => have h1 := s8 _ hk2; omega
      | 2, _ => have h1 := (HQ11.out.O.lt g4 rfl).2; simp [Value.ownBlock] at hk2; omega
    · match i, hi with
      | 0, _ => show D.length ≤ 17592186044000; omega
      | 1, _ => show D.length ≤ 17592186044000; omega
      | 2, _ => exact hp
  have HLs := hide hl
  have HBf := hide (bel HQ11.out.old hba)
  have HOf := hide (show ∀ k, Cde.Ap.Of 3 (fun i => if i = 0 then .slice a3 D.length c3 else if i = 1 then .slice a5 D.length c5 else .slice (some ⟨g4, 0, none⟩) pl (pl + 40)) k → W.heap.size ≤ k from by
    rintro k ⟨i, hi, hk⟩
    match i, hi with
    | 0, _ => have h1 := (hA k hk).1; omega
    | 1, _ => have h1 := (hC k hk).1; omega
    | 2, _ => exact (hD k hk).1)
  clear hl r0 r1 r2 hX hba hA hC hD s3 s5 s6 s11 hlf x0 x1 x2 x3 w0 w1 w2 w3
  refine (show Calls Tryz.prog 31 #[.slice (some ⟨V11.heap.size, 0, none⟩) 3 3] _ _ from Cde.Ap.apart_any V11.heap.size 3 3 _ _ _ HLs.out).mono ?_
  rintro e V12 ⟨rfl, hK⟩
  have HB13 := hide (HBf.out.trans (hK.below (B := W.heap.size) HBf.out.size HOf.out))
  clear hK
  go_wp2_with fail
  go_ret
  exact ⟨rfl, HB13.out⟩

end Go.Proofs.Vmm

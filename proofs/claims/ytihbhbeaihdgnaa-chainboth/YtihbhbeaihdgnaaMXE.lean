/-
  run: all registers; Run, Trace and New.
-/
import Derived.Test.YtihbhbeaihdgnaaMXd
import Derived.Test.YtihbhbeaihdgnaaMXA
import Derived.Test.YtihbhbeaihdgnaaMYA
namespace Go.Proofs.Vmm
open Go.RowKit Go.IntWalk Ytihbhbeaihdgnaa.Knd
open Ytihbhbeaihdgnaa (Wd wdA Fits inpV)
open Cde (In i0 ia kd cd Ins is6 at6 six_of four_of two_of has_new1 okI okT okT_at below_drew take_snoc vlI vlF vlF_snoc vlS vaZ TwP mc_parts)
open Vfy (vfE w32 vlF_in vlI_in Inn vf_parts vf_holds va_unfit)
set_option linter.unusedVariables false

theorem run_in {f d out : Int} {L : List In} {v : Wd} (h : vfE f d L out = 0) (hF : Fits f d v) {k : Nat} (hk : k ≤ L.length) : ∃ D, vlF f d v (L.take k) = (0, D) ∧ D.length = k ∧ ∀ i, i < k → w32 (D.getD i 0) := by
  obtain ⟨m, ha, ⟨S, hS, hl, hs⟩, -, -, -⟩ := vf_parts h
  obtain ⟨hm, -, -, -, -, hok⟩ := mc_parts m
  obtain ⟨V, S', h1, h2, h3⟩ := vlF_in hm hF hok ha (by rw [hS]) k hk
  have hl2 : S'.length = k := by
    have := Vfy.sgF_len f d L k hk
    rw [h2] at this
    exact this rfl
  exact ⟨V, h1, by rw [h3.1, hl2], fun i hi => (h3.2 i (by omega)).2.2⟩
theorem run_at {f d out : Int} {L : List In} {v : Wd} (h : vfE f d L out = 0) (hF : Fits f d v) {k : Nat} (hk : k < L.length) {D : List Int} (hD : vlF f d v (L.take k) = (0, D)) :
    D.length = k ∧ (∀ i, i < k → w32 (D.getD i 0)) ∧ okI (L.getD k i0) k = true ∧ ∃ x, vlI f d v D (L.getD k i0) = (x, 0) ∧ w32 x ∧ vlF f d v (L.take (k + 1)) = (0, D ++ [x]) := by
  obtain ⟨D', h1, h2, h3⟩ := run_in h hF (Nat.le_of_lt hk)
  rw [hD] at h1
  cases h1
  obtain ⟨E, g1, g2, g3⟩ := run_in h hF (show k + 1 ≤ L.length from hk)
  obtain ⟨m, -, -, -, -, -⟩ := vf_parts h
  obtain ⟨-, -, -, -, -, hok⟩ := mc_parts m
  have e := g1
  rw [take_snoc i0 hk, vlF_snoc, hD, vlS, if_pos rfl] at e
  by_cases hz : (vlI f d v D (L.getD k i0)).2 = 0
  · rw [if_pos hz] at e
    have e2 : D ++ [(vlI f d v D (L.getD k i0)).1] = E := congrArg Prod.snd e
    refine ⟨h2, h3, okT_at hok hk, (vlI f d v D (L.getD k i0)).1, Prod.ext rfl hz, ?_, by rw [g1, ← e2]⟩
    have := g3 k (by omega)
    rw [← e2, List.getD_eq_getElem?_getD, List.getElem?_append_right (by omega), h2, Nat.sub_self] at this
    exact this
  · rw [if_neg hz] at e
    exact absurd (congrArg Prod.fst e) hz

set_option maxRecDepth 100000 in
set_option maxHeartbeats 8000000 in
theorem mrun_any {f d out : Int} (v : Wd) {lo g : Nat} {a pa : Option Addr} {n cap pl pc : Nat} {L : List In} {W : World} (hM : Mc W lo g f d L out a n cap) (hP : Ints W pa pl pc v.ps) (h : vfE f d L out = 0) :
    Calls Try.prog 17 #[.pointer (some ⟨g, 0, none⟩), .agg (wdA v pa pl pc)] W (RwP W (vaZ f d v L out)) := by
  have hb1 := bel1 W (.cells (wdA v pa pl pc) 29)
  have HM0 := hide (hM.later hb1)
  have HW0 := hide (HasC.new W 29 (wdA v pa pl pc))
  have HB0 := hide hb1
  have HPI := hide hP
  have HLn := hide hM.ins.len
  have HF := hide fun w h => fits_any f d v.x v.y v.c pa pl pc v.ps w h
  obtain ⟨mc, -⟩ := vf_parts h
  obtain ⟨-, m1, m2, -, -, -⟩ := mc_parts mc
  rw [HLn.out] at m1 m2
  clear hb1 hM hP
  rcases Ytihbhbeaihdgnaa.fitE_cases f d v with ⟨hF, h1⟩ | ⟨hF, h1⟩
  · rw [h1] at HF
    rw [show vaZ f d v L out = vlF f d v L by rw [vaZ, if_pos mc, if_pos hF]]
    have HAt := hide fun (k : Nat) (hk : k < L.length) (D : List Int) hD => run_at h hF hk (D := D) hD
    have HFt := hide hF
    have hmk := fun w => make_32 n (by omega) w
    clear mc h h1 hF
    go_enter Try.func17, Try.ntmps17
    go_wp2_with fail
    obtain ⟨W1, hW1⟩ : ∃ W1, W.alloc (.cells (wdA v pa pl pc) 29) = W1 := ⟨_, rfl⟩
    rw [hW1] at HM0 HW0 HB0 ⊢
    clear hW1
    obtain ⟨c0, c1, c2, c3⟩ := four_of HM0.out.b
    obtain ⟨y0, y1, y2, y3⟩ := four_of HW0.out
    have r0 := cell_regrown c0
    have r1 := cell_regrown c1
    have r2 := cell_regrown y0
    have r3 := cell_regrown y1
    have r4 := cell_regrown y2
    have r5 := cell_regrown y3
    have HFi := hide fun (V : World) (hb : Below W1.heap.size W1 V) => HF.out V (HPI.out.later (bel HB0.out hb))
    refine wp_region_quiet_below Cde.mixed0 (by kernel_rfl) ?_
    repeat (go_big_quiet_step (fail))
    go_big_quiet_step ((go_at_call 16; exact Calls.regrown_of (HFi.out _ (below_regrown _ _ _))))
    repeat (go_big_quiet_step (fail))
    refine wpQuiet_nil ?_
    intro V1 hw'
    obtain ⟨⟨dq, osq⟩, hw''⟩ := hw'
    have hb := below_regrown W1 dq osq
    simp only at hw''
    rw [← hw''] at hb
    have HM1 := hide (HM0.out.later hb)
    have HW1 := hide (HW0.out.below hb)
    have HB1 := hide (bel HB0.out hb)
    clear hw'' hb r0 r1 r2 r3 r4 r5 c0 c1 c2 c3 y0 y1 y2 y3 HFi HM0 HW0 HB0 HF
    obtain ⟨c0, c1, c2, c3⟩ := four_of HM1.out.b
    obtain ⟨V2, hmk2, hL2⟩ := hmk V1
    have HM2 := hide (HM1.out.later hL2.bel)
    have HW2 := hide (HW1.out.below hL2.bel)
    have HB2 := hide (bel HB1.out hL2.bel)
    have HL2 := hide hL2
    have HS2 := hide (show W.heap.size ≤ V1.heap.size from HB1.out.size)
    obtain ⟨-, -, q2, -⟩ := four_of HM2.out.b
    clear hmk hL2
    go_wp2_with fail
    clear hmk2 c0 c1 c2 c3 q2
    go_loopw [7, 35] (fun vv i wr => ∃ (k : Nat) (D : List Int), k ≤ n ∧ i = .int .i64 k ∧ Hid (vlF f d v (L.take k) = (0, D)) ∧ Hid (D.length = k) ∧ Hid (L32 V1 wr vv D)) (fun _ i _ => n - (intOf i).toNat)
    case atStart => exact ⟨0, [], Nat.zero_le _, rfl, hide rfl, hide rfl, HL2⟩
    case round =>
      obtain ⟨k, D, hk, rfl, HD, HDl, HE⟩ := hrel
      rename World => V
      have HMv := hide (HM1.out.later HE.out.bel)
      have HWv := hide (HW1.out.below HE.out.bel)
      have HBv := hide (bel HB1.out HE.out.bel)
      clear HM2 HW2 HB2 HL2
      by_cases hlt : k < n
      · obtain ⟨b, off, rfl, -, hat⟩ := HMv.out.ins.at (by omega)
        obtain ⟨e0, e1, e2, e3, e4, e5⟩ := hat k hlt
        obtain ⟨ra, rc, rfl, hR⟩ := HE.out.regs
        rw [HDl.out] at hR
        obtain ⟨-, h32, hok, x, hx, hwx, hS⟩ := HAt.out k (by rw [HLn.out]; exact hlt) D HD.out
        have hi0 : (0 : Int) ≤ k := by omega
        have hi1 : (k : Int) < n := by omega
        generalize L.getD k i0 = m at *
        have hb := bel1 V (.cells (ia m) 51)
        have HM5 := hide (HMv.out.later hb)
        have HW5 := hide (HWv.out.below hb)
        have HE5 := hide (HE.out.later hb)
        have HB5 := hide (bel HBv.out hb)
        have HSt := hide (vstep_any f d out m v HM5.out.b (HPI.out.later HB5.out) (hR.later hb) HFt.out hok hx hwx h32)
        have HS := hide hS
        have HJ : Hid (D.length ≤ 2000000) := hide (by rw [HDl.out]; omega)
        obtain ⟨y0, y1, y2, y3⟩ := four_of HWv.out
        have hz1 := HWv.out.lt
        rw [HDl.out]
        clear hb hat hR h32 hok hx hwx hS
        go_wp2_with fail
        refine HSt.out.mono ?_
        rintro e V6 ⟨rfl, hb⟩
        have HE6 := hide (HE5.out.later hb)
        clear hb e0 e1 e2 e3 e4 e5 y0 y1 y2 y3 HSt
        go_wp2_with (at_builtin; refine list_32 (w := V1) (L := D) rfl _ _ rfl (by rw [HDl.out]; rfl) (HE6.out.later (bel1 _ _)) _ x rfl (HasC.new _ _ _) HJ.out ?_; intro g2 cap2 w2 HE2; rw [HDl.out] at HE2 ⊢)
        go_roundw
        case rel => exact ⟨k + 1, D ++ [x], by omega, by go_num, HS, hide (by simp [HDl.out]), hide HE2⟩
        case measure => simp [intOf]; omega
      · obtain rfl : k = n := by omega
        have hD := HD.out
        rw [List.take_of_length_le (by rw [HLn.out]; exact Nat.le_refl _)] at hD
        have HD2 := hide hD
        obtain ⟨ra, rc, rfl, -⟩ := HE.out.regs
        clear hD
        go_wp2_with fail
        exact bodyPost_ret (v := .tuple #[.slice ra D.length rc, .int .i64 0]) (by simp [results, Try.results17, go_sem]) rfl (by rw [HD2.out]; exact ⟨ra, rc, rfl, Cde.own_mono HE.out.a HS2.out, HBv.out⟩)
  · rw [h1] at HF
    rw [show vaZ f d v L out = (1, []) by rw [vaZ, if_pos mc, if_neg hF]]
    clear mc h h1 hF
    go_enter Try.func17, Try.ntmps17
    go_wp2_with fail
    obtain ⟨W1, hW1⟩ : ∃ W1, W.alloc (.cells (wdA v pa pl pc) 29) = W1 := ⟨_, rfl⟩
    rw [hW1] at HM0 HW0 HB0 ⊢
    clear hW1
    obtain ⟨c0, c1, c2, c3⟩ := four_of HM0.out.b
    obtain ⟨y0, y1, y2, y3⟩ := four_of HW0.out
    have r0 := cell_regrown c0
    have r1 := cell_regrown c1
    have r2 := cell_regrown y0
    have r3 := cell_regrown y1
    have r4 := cell_regrown y2
    have r5 := cell_regrown y3
    have HFi := hide fun (V : World) (hb : Below W1.heap.size W1 V) => HF.out V (HPI.out.later (bel HB0.out hb))
    refine wp_region_quiet_below Cde.mixed0 (by kernel_rfl) ?_
    repeat (go_big_quiet_step (fail))
    go_big_quiet_step ((go_at_call 16; exact Calls.regrown_of (HFi.out _ (below_regrown _ _ _))))
    repeat (go_big_quiet_step (fail))
    refine wpQuiet_nil ?_
    intro V1 hw'
    obtain ⟨⟨dq, osq⟩, hw''⟩ := hw'
    have hb := below_regrown W1 dq osq
    simp only at hw''
    rw [← hw''] at hb
    have HB1 := hide (bel HB0.out hb)
    clear hw'' hb r0 r1 r2 r3 r4 r5 c0 c1 c2 c3 y0 y1 y2 y3 HFi HM0 HW0 HB0 HF
    go_wp2_with fail
    exact bodyPost_ret (v := .tuple #[.slice none 0 0, .int .i64 1]) (by simp [results, Try.results17, go_sem]) rfl (RwP.no HB1.out)
theorem mrun_nil (v : Wd) (pa : Option Addr) (pl pc : Nat) (W : World) :
    Calls Try.prog 17 #[.pointer none, .agg (wdA v pa pl pc)] W (RwP W (1, [])) := by
  have HB0 := hide (bel1 W (.cells (wdA v pa pl pc) 29))
  go_enter Try.func17, Try.ntmps17
  go_wp2_with fail
  exact bodyPost_ret (v := .tuple #[.slice none 0 0, .int .i64 1]) (by simp [results, Try.results17, go_sem]) rfl (RwP.no HB0.out)

end Go.Proofs.Vmm

/-
  slices.Clone of instructions.
-/
namespace Go.Proofs.Vmm
open Go.RowKit Go.IntWalk Ytihbhbeaihdgnaa.Knd
open Cde (In Ins is6 ia i0)
set_option linter.unusedVariables false

theorem infoI : (Try.prog.info? 51).map (fun i => (i.zero, i.size, i.bytes)) = some (some (.agg (ia i0)), 6, 48) := by kernel_rfl
theorem bytes_no {w : World} {n c : Nat} {L : List In} (h : Ins w none n c L) : n = 0 ∧ c = 0 ∧ L = [] := by
  have h1 := h.nil rfl
  have h2 := h.le
  have h3 := h.len
  exact ⟨by omega, h1, List.eq_nil_of_length_eq_zero (by omega)⟩

set_option maxRecDepth 100000 in
set_option maxHeartbeats 2000000 in
theorem fclone_any {a : Option Addr} {n c : Nat} {L : List In} {w : World} (hb : Ins w a n c L) (hn : n ≤ 2000000) (hn0 : 0 < n) :
    Calls Try.prog 12 #[.slice a n c] w fun e w' => ∃ a' c', e = .returned (.slice a' n c') ∧ w'.ownsRow w.heap.size 51 6 (.slice a' n c') n (is6 L) ∧ Below w.heap.size w w' := by
  obtain ⟨i0', hi, hz0, hz1, hz2⟩ := info_parts infoI
  have heq : ∀ (w : World) (a : Option Addr) (n c : Nat), (binOp .eql 24 (.slice a n c) (.slice none 0 0)).run Try.prog w = .ok (.bool a.isNone) w := fun w a n c => Lib.run_eql_slice_nil w 24 51 a n c 0 0 Try.underlying24
  cases a with
  | none =>
    obtain ⟨rfl, -, -⟩ := bytes_no hb
    omega
  | some ad =>
    have hl : (is6 L).length = n * 6 := by rw [Cde.is6_len, hb.len]
    have hbel : Below w.heap.size w (w.alloc (.cells #[] 51)) := bel1 _ _
    have HBel := hide hbel
    have HN := hide ((hb.later hbel).news ad rfl)
    have HO : Hid ((w.alloc (.cells #[] 51)).ownsRow w.heap.size 51 6 (.slice (some ⟨w.heap.size, 0, none⟩) 0 0) 0 []) := hide ⟨rfl, .inr ⟨w.heap.size, 0, #[], rfl, Nat.le_refl _, heap_alloc_new w _, Nat.le_refl _, Nat.zero_le _, rfl, rfl⟩⟩
    have HL := hide hl
    clear hb hbel hl
    go_enter Try.func12, Try.ntmps12
    go_wp2_with (at_builtin; refine wpList_append_lies _ rfl _ _ 24 rfl w.heap.size 51 i0' _ 6 48 Try.underlying24 hi hz0 hz1 hz2 rfl (by omega) (.slice (some ⟨w.heap.size, 0, none⟩) 0 0) 0 [] rfl HO.out ad n c (is6 L) rfl HL.out HN.out (Cde.is6_one L) hn0 (by unfold maxLen; omega) (by omega) (by simp) _ rfl ?_; intro g cap w2 hown hgr hat hlt)
    rw [Nat.zero_add, List.nil_append] at hown
    have HO2 := hide hown
    have HB2 := hide (HBel.out.grown hgr HBel.out.size (fun k h => by cases h; exact Nat.le_refl _))
    clear hown hgr hat hlt
    go_wp2_with fail
    go_ret
    exact ⟨_, _, rfl, HO2.out, HB2.out⟩

end Go.Proofs.Vmm

/-
  New, Run and Trace.
-/
namespace Go.Proofs.Vmm
open Go.RowKit Go.IntWalk Ytihbhbeaihdgnaa.Knd
open Ytihbhbeaihdgnaa (Wd wdA Fits inpV)
open Cde (In i0 ia kd cd Ins is6 at6 six_of four_of two_of has_new1 okI zA zA_get put_z rep_succ take_snoc vlI vlF vaZ TwP mc_parts)
open Vfy (vfE vfN vfC w32 vf_parts vf_holds va_unfit Inn)
set_option linter.unusedVariables false

/-- What Run answers: the number, the steps. -/
def rnX (Z : Int × List Int) (o : Int) : Int := if Z.1 = 0 then Z.2.getD o.toNat 0 else 0
def rnN (Z : Int × List Int) : Int := if Z.1 = 0 then Z.2.length else 0
def runV (Z : Int × List Int) (o : Int) : Value := .tuple #[.int .i64 (rnX Z o), .int .i64 (rnN Z), .int .i64 Z.1]
/-- A run of a code that was taken: all registers, or the window does not fit. -/
theorem run_two {f d out : Int} {L : List In} (h : vfE f d L out = 0) (v : Wd) : (Fits f d v ∧ ∃ D, vaZ f d v L out = (0, D) ∧ D.length = L.length ∧ (∀ i, i < L.length → w32 (D.getD i 0)) ∧ 0 ≤ out ∧ out < L.length) ∨ (¬ Fits f d v ∧ vaZ f d v L out = (1, [])) := by
  by_cases hF : Fits f d v
  · refine .inl ⟨hF, ?_⟩
    obtain ⟨D, h1, h2, h3⟩ := run_in h hF (Nat.le_refl _)
    rw [List.take_length] at h1
    obtain ⟨m, -⟩ := vf_parts h
    obtain ⟨-, -, -, m3, m4, -⟩ := mc_parts m
    exact ⟨D, by rw [vaZ, if_pos m, if_pos hF, h1], h2, h3, m3, m4⟩
  · exact .inr ⟨hF, va_unfit h hF⟩

set_option maxRecDepth 100000 in
set_option maxHeartbeats 4000000 in
theorem mRun_any {f d out : Int} (v : Wd) {lo g : Nat} {a pa : Option Addr} {n cap pl pc : Nat} {L : List In} {W : World} (hM : Mc W lo g f d L out a n cap) (hP : Ints W pa pl pc v.ps) (h : vfE f d L out = 0) :
    Calls Try.prog 10 #[.pointer (some ⟨g, 0, none⟩), .agg (wdA v pa pl pc)] W fun e W' => e = .returned (runV (vaZ f d v L out) out) ∧ Below W.heap.size W W' := by
  have hb1 := bel1 W (.cells (wdA v pa pl pc) 29)
  have HM0 := hide (hM.later hb1)
  have HR := hide (mrun_any v (hM.later hb1) (hP.later hb1) h)
  have HB0 := hide hb1
  have h2 := run_two h v
  rw [hM.ins.len] at h2
  clear hb1 hM hP h
  rcases h2 with ⟨hF, D, h1, h2, h3, h4, h5⟩ | ⟨hF, h1⟩
  · rw [h1] at HR ⊢
    obtain ⟨q, rfl⟩ : ∃ q : Nat, out = q := ⟨out.toNat, by omega⟩
    have hv : runV (0, D) q = .tuple #[.int .i64 (D.getD q 0), .int .i64 n, .int .i64 0] := by simp [runV, rnX, rnN, h2]
    rw [hv]
    obtain ⟨x, hx⟩ : ∃ x, D.getD q 0 = x := ⟨_, rfl⟩
    obtain ⟨x1, x2⟩ := h3 q (by omega)
    rw [hx] at x1 x2 ⊢
    have HX := hide hx
    have HDl := hide h2
    clear hF h1 h2 h3 hv hx h4
    go_enter Try.func10, Try.ntmps10
    go_wp2_with fail
    refine HR.out.mono ?_
    rintro e V1 ⟨ra, rc, rfl, hO, hb⟩
    have HM1 := hide (HM0.out.later hb)
    have HB1 := hide (bel HB0.out hb)
    obtain ⟨a', c', e', hI, -⟩ := Regs.of_owns hO
    cases e'
    dsimp only at hI ⊢
    rw [HDl.out] at hI ⊢
    obtain ⟨rb, ro, rfl, -, hat⟩ := hI.at (by omega)
    have px := hat q (by omega)
    rw [HX.out] at px
    obtain ⟨-, -, -, c3⟩ := four_of HM1.out.b
    have i0 : (0 : Int) ≤ q := by omega
    clear hb hO hI hat HR HM0 HB0
    go_wp2_with fail
    exact bodyPost_ret (v := .tuple #[.int .i64 x, .int .i64 n, .int .i64 0]) (by simp [results, Try.results10, go_sem]) rfl ⟨rfl, HB1.out⟩
  · rw [h1] at HR ⊢
    clear hF h1
    go_enter Try.func10, Try.ntmps10
    go_wp2_with fail
    refine HR.out.mono ?_
    rintro e V1 ⟨ra, rc, rfl, -, hb⟩
    have HB1 := hide (bel HB0.out hb)
    clear hb HR HM0 HB0
    go_wp2_with fail
    exact bodyPost_ret (v := .tuple #[.int .i64 0, .int .i64 0, .int .i64 1]) (by simp [results, Try.results10, go_sem]) rfl ⟨rfl, HB1.out⟩
theorem mRun_nil (v : Wd) (pa : Option Addr) (pl pc : Nat) (W : World) :
    Calls Try.prog 10 #[.pointer none, .agg (wdA v pa pl pc)] W fun e W' => e = .returned (.tuple #[.int .i64 0, .int .i64 0, .int .i64 1]) ∧ Below W.heap.size W W' := by
  have HB0 := hide (bel1 W (.cells (wdA v pa pl pc) 29))
  have HR := hide fun w => mrun_nil v pa pl pc w
  go_enter Try.func10, Try.ntmps10
  go_wp2_with fail
  refine (HR.out _).mono ?_
  rintro e V1 ⟨ra, rc, rfl, -, hb⟩
  have HB1 := hide (bel HB0.out hb)
  clear hb HR HB0
  go_wp2_with fail
  exact bodyPost_ret (v := .tuple #[.int .i64 0, .int .i64 0, .int .i64 1]) (by simp [results, Try.results10, go_sem]) rfl ⟨rfl, HB1.out⟩

/-- What New answers. -/
def NwP (w : World) (f d : Int) (L : List In) (out : Int) (e : Ending) (W' : World) : Prop :=
  Below w.heap.size w W' ∧ ((vfE f d L out ≠ 0 ∧ e = .returned (.tuple #[.pointer none, .int .i64 (vfE f d L out)])) ∨ (vfE f d L out = 0 ∧ ∃ g a n c, e = .returned (.tuple #[.pointer (some ⟨g, 0, none⟩), .int .i64 0]) ∧ Mc W' w.heap.size g f d L out a n c))
set_option maxRecDepth 100000 in
set_option maxHeartbeats 4000000 in
theorem mNew_any (f d out : Int) {a : Option Addr} {n cap : Nat} {L : List In} {W : World} (hL : Ins W a n cap L) :
    Calls Try.prog 6 #[.agg (cd f d a n cap out)] W (NwP W f d L out) := by
  have hb1 := bel1 W (.cells (cd f d a n cap out) 26)
  have HC0 := hide (HasC.new W 26 (cd f d a n cap out))
  have HV := hide (Vfy.yverify_any f d out (hL.later hb1))
  have HB0 := hide hb1
  have HLI := hide hL
  clear hb1
  by_cases h0 : vfE f d L out = 0
  · obtain ⟨mc, -⟩ := vf_parts h0
    obtain ⟨-, m1, m2, -, -, -⟩ := mc_parts mc
    rw [hL.len] at m1 m2
    unfold Vfy.VfP at HV
    rw [h0] at HV
    have H0 := hide h0
    generalize vfN f d L out = vm at *
    generalize vfC f d L out = vc at *
    generalize Vfy.vfS f d L out = vs at *
    clear mc h0 hL
    go_enter Try.func6, Try.ntmps6
    go_wp2_with fail
    refine HV.out.mono ?_
    rintro e V1 ⟨ga, gc, rfl, hS, hb, -, -⟩
    have hb2 := bel hb (bel1 V1 (.cells #[.slice ga vm gc, .int .i64 vc, .int .i64 0] 39))
    have HC1 := hide (HC0.out.below hb2)
    have HB1 := hide (bel HB0.out hb2)
    have HCl := hide (fclone_any (HLI.out.later HB1.out) (by omega) (by omega))
    obtain ⟨c0, c1, c2, c3⟩ := four_of (HC0.out.below hb)
    have hz := (HC0.out.below hb).lt
    clear hb hb2 hS HV HC0 HB0
    go_wp2_with fail
    refine HCl.out.mono ?_
    rintro e V2 ⟨a2, k2, rfl, hO, hb⟩
    have HC2 := HC1.out.below hb
    have hne : Value.ownBlock (.slice a2 n k2) ≠ some W.heap.size := fun hk => by
      have := (hO.lt _ hk).1
      have := HC1.out.lt
      omega
    have HO2 := hide (Cde.own_mono (ownsRow_setCell_other hO (a := ⟨W.heap.size, 2, none⟩) hne (.slice a2 n k2)) HB1.out.size)
    have HC3 := hide (HC2.set 2 (.slice a2 n k2))
    have HB3 := hide ((bel HB1.out hb).setCell (p := ⟨W.heap.size, 2, none⟩) (Nat.le_refl _) (.slice a2 n k2))
    obtain ⟨c0, c1, c2', c3⟩ := four_of HC2
    have z2 := HC2.frozen 2
    have hz2 := HC2.lt
    obtain ⟨d0, d1, d2, d3⟩ := four_of HC3.out
    clear hb hO hne HC2
    go_wp2_with fail
    have hb4 := bel1 (V2.setCell ⟨W.heap.size, 2, none⟩ (.slice a2 n k2)) (.cells (cd f d a2 n k2 out) 59)
    have hn := HasC.new (V2.setCell ⟨W.heap.size, 2, none⟩ (.slice a2 n k2)) 59 (cd f d a2 n k2 out)
    rw [World.size_setCell] at hn
    have hlo : W.heap.size ≤ V2.heap.size := by have := HB3.out.size; rwa [World.size_setCell] at this
    exact bodyPost_ret (v := .tuple #[.pointer (some ⟨V2.heap.size, 0, none⟩), .int .i64 0]) (by simp [results, Try.results6, go_sem]) rfl ⟨bel HB3.out hb4, .inr ⟨H0.out, _, _, _, _, rfl, ⟨hn, Cde.own_later HO2.out hb4, hlo⟩⟩⟩
  · unfold Vfy.VfP at HV
    obtain ⟨er, her⟩ : ∃ er, vfE f d L out = er := ⟨_, rfl⟩
    have HE : Hid (∀ e W', Below W.heap.size W W' → e = .returned (.tuple #[.pointer none, .int .i64 er]) → NwP W f d L out e W') := hide fun e W' hb he => ⟨hb, .inl ⟨h0, by rw [her]; exact he⟩⟩
    have hr : (er != 0) = true := by rw [← her]; simpa using h0
    rw [her] at HV
    generalize vfN f d L out = vm at *
    generalize vfC f d L out = vc at *
    generalize Vfy.vfS f d L out = vs at *
    clear h0 her hL
    go_enter Try.func6, Try.ntmps6
    go_wp2_with fail
    refine HV.out.mono ?_
    rintro e V1 ⟨ga, gc, rfl, hS, hb, -, -⟩
    have HB1 := hide (bel HB0.out (bel hb (bel1 V1 (.cells #[.slice ga vm gc, .int .i64 vc, .int .i64 0] 39))))
    clear hb hS HV HC0 HB0
    go_wp2_with fail
    exact bodyPost_ret (v := .tuple #[.pointer none, .int .i64 er]) (by simp [results, Try.results6, go_sem]) rfl (HE.out _ _ HB1.out rfl)


end Go.Proofs.Vmm

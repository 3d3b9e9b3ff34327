/-
  A run of a code that was taken, plainly; what a chain answers.
-/
import Derived.Test.YtihbhbeaihdgnaaMYh
import Derived.Test.YtihbhbeaihdgnaaMCdC
import Derived.Deep.RegionHeld3
import Derived.Deep.AppendLies
import Derived.Lib.SliceRun
import Derived.Deep.CutRange
import Derived.Test.YtihbhbeaihdgnaaMHA
import Derived.Test.YtihbhbeaihdgnaaMYA
namespace Go.Proofs.Chn
open Go.RowKit Go.IntWalk Ytihbhbeaihdgnaa.Knd
open Ytihbhbeaihdgnaa (Wd wdA Fits inpV)
open Cde (In i0 ia kd cd Ins is6 okI okT_at take_snoc vlI vlF vlF_snoc vlS vaZ mc_parts)
open Vfy (vfE w32 vlF_in vf_parts va_unfit)
set_option linter.unusedVariables false

theorem run_in {f d out : Int} {L : List In} {v : Wd} (h : vfE f d L out = 0) (hF : Fits f d v) {k : Nat} (hk : k ≤ L.length) : ∃ D, vlF f d v (L.take k) = (0, D) ∧ D.length = k ∧ ∀ i, i < k → w32 (D.getD i 0) := by
  obtain ⟨m, ha, ⟨S, hS, hl, hs⟩, -, -, -⟩ := vf_parts h
  obtain ⟨hm, -, -, -, -, hok⟩ := mc_parts m
  obtain ⟨V, S', h1, h2, h3⟩ := vlF_in hm hF hok ha (by rw [hS]) k hk
  have hl2 : S'.length = k := by
    have := Vfy.sgF_len f d L k hk
    rw [h2] at this
    exact this rfl
  exact ⟨V, h1, by rw [h3.1, hl2], fun i hi => (h3.2 i (by omega)).2.2⟩
theorem run_at {f d out : Int} {L : List In} {v : Wd} (h : vfE f d L out = 0) (hF : Fits f d v) {k : Nat} (hk : k < L.length) {D : List Int} (hD : vlF f d v (L.take k) = (0, D)) :
    D.length = k ∧ okI (L.getD k i0) k = true ∧ ∃ x, vlI f d v D (L.getD k i0) = (x, 0) ∧ vlF f d v (L.take (k + 1)) = (0, D ++ [x]) := by
  obtain ⟨D', h1, h2, h3⟩ := run_in h hF (Nat.le_of_lt hk)
  rw [hD] at h1
  cases h1
  obtain ⟨E, g1, g2, g3⟩ := run_in h hF (show k + 1 ≤ L.length from hk)
  obtain ⟨m, -, -, -, -, -⟩ := vf_parts h
  obtain ⟨-, -, -, -, -, hok⟩ := mc_parts m
  have e := g1
  rw [take_snoc i0 hk, vlF_snoc, hD, vlS, if_pos rfl] at e
  by_cases hz : (vlI f d v D (L.getD k i0)).2 = 0
  · rw [if_pos hz] at e
    have e2 : D ++ [(vlI f d v D (L.getD k i0)).1] = E := congrArg Prod.snd e
    exact ⟨h2, okT_at hok hk, (vlI f d v D (L.getD k i0)).1, Prod.ext rfl hz, by rw [g1, ← e2]⟩
  · rw [if_neg hz] at e
    exact absurd (congrArg Prod.fst e) hz
/-- What Run answers. -/
def hrX (Z : Int × List Int) (o : Int) : Int := if Z.1 = 0 then Z.2.getD o.toNat 0 else 0
def hrV (Z : Int × List Int) (o : Int) : Value := .tuple #[.int .i64 (hrX Z o), .int .i64 Z.1]
/-- A run of a code that was taken: all registers, or the window does not fit. -/
theorem run_two {f d out : Int} {L : List In} (h : vfE f d L out = 0) (v : Wd) : (Fits f d v ∧ ∃ D, vaZ f d v L out = (0, D) ∧ vlF f d v L = (0, D) ∧ D.length = L.length ∧ 0 ≤ out ∧ out < L.length) ∨ (¬ Fits f d v ∧ vaZ f d v L out = (1, [])) := by
  by_cases hF : Fits f d v
  · refine .inl ⟨hF, ?_⟩
    obtain ⟨D, h1, h2, h3⟩ := run_in h hF (Nat.le_refl _)
    rw [List.take_length] at h1
    obtain ⟨m, -⟩ := vf_parts h
    obtain ⟨-, -, -, m3, m4, -⟩ := mc_parts m
    exact ⟨D, by rw [vaZ, if_pos m, if_pos hF, h1], h1, h2, m3, m4⟩
  · exact .inr ⟨hF, va_unfit h hF⟩

/-! the code of awake -/
def awL : List In := [⟨1, 0, 0, 0, 7, 0⟩, ⟨1, 0, 0, 0, 2, 0⟩, ⟨9, 0, 1, 0, 0, 0⟩]
def aw0 : Wd := ⟨0, 0, 0, List.replicate 44 0⟩
theorem aw_vf : vfE 0 8 awL 2 = 0 := by decide +kernel
theorem aw_mc : Cde.mcB 0 8 awL 2 = true := by decide +kernel
theorem aw_fits : Fits 0 8 aw0 := by
  refine ⟨⟨⟨⟨0, 4095, by decide +kernel, by decide, by decide⟩, ⟨0, 4095, by decide +kernel, by decide, by decide⟩⟩, ⟨0, 3, by decide +kernel, by decide, by decide⟩⟩, by decide +kernel, ?_⟩
  decide +kernel
theorem aw_va : vaZ 0 8 aw0 awL 2 = (0, [7, 2, 5]) := by
  rw [vaZ, if_pos aw_mc, if_pos aw_fits]
  decide +kernel
theorem aw_run : hrV (vaZ 0 8 aw0 awL 2) 2 = .tuple #[.int .i64 5, .int .i64 0] := by rw [aw_va]; rfl
theorem aw_new (w : World) : Ints (w.alloc (.cells (Cde.zA (List.replicate 44 0)) 3)) (some ⟨w.heap.size, 0, none⟩) 44 44 aw0.ps := Cde.has_z (L := List.replicate 44 0) (HasC.new w 3 _) (by decide)

end Go.Proofs.Chn

/-
  A chain in memory; New.
-/
namespace Go.Proofs.Chn
open Go.RowKit Go.IntWalk Ytihbhbeaihdgnaa.Knd
open Ytihbhbeaihdgnaa (Wd wdA Fits inpV)
open Cde (In i0 ia kd cd Ins six_of four_of two_of has_new1 zA vlI arN abc mc_parts)
open Vfy (vfE vfN vfC vf_parts)
set_option linter.unusedVariables false

theorem infoF : (Try.prog.info? 53).map (fun i => (i.zero, i.size, i.bytes)) = some (some .nilFunc, 1, 8) := by kernel_rfl
def nF (n : Nat) : Array Value := (List.replicate n Value.nilFunc).toArray
theorem nF_size (n : Nat) : (nF n).size = n := by simp [nF]
theorem made_f (n : Nat) : madeCells #[Value.nilFunc] (n * 1) = nF n := by
  apply Array.ext_getElem?
  intro i
  by_cases hi : i < n
  · simp [madeCells, nF, hi, Nat.mod_one]
  · simp [madeCells, nF, hi]
theorem make_f (n : Nat) (h : n ≤ 1024) (w : World) : (Instr.makeSlice 49 (.int .i64 n) (.int .i64 n)).run Try.prog w = .ok (.slice (some ⟨w.heap.size, 0, none⟩) n n) (w.alloc (.cells (nF n) 53)) := by
  obtain ⟨i0, hi, hz0, hz1, hz2⟩ := info_parts infoF
  have := run_make w 49 53 i0 _ Try.underlying49 hi hz0 .i64 .i64 n n (by omega) (Int.le_refl _) (by rw [hz2]; omega) (by omega)
  rw [hz1] at this
  simp only [Int.toNat_natCast] at this
  have e : madeCells (Value.nilFunc).cells (n * 1) = nF n := made_f n
  rw [e] at this
  exact this

/-- The closures of the first k instructions stand in a row; what they captured was made behind the row. -/
structure Fr (V : World) (lo b n k : Nat) (f d : Int) (L : List In) : Prop where
  r : ∃ cs, HasC V b 53 cs ∧ cs.size = n ∧ ∀ i, i < k → ∃ F, cs[i]? = some F ∧ St V (b + 1) f d (L.getD i i0) F
  lo : lo ≤ b
theorem Fr.later {V V' : World} {lo b n k : Nat} {f d : Int} {L : List In} (h : Fr V lo b n k f d L) (hb : Below V.heap.size V V') : Fr V' lo b n k f d L := by
  obtain ⟨cs, h1, h2, h3⟩ := h.r
  exact ⟨⟨cs, h1.below hb, h2, fun i hi => by obtain ⟨F, h4, h5⟩ := h3 i hi; exact ⟨F, h4, h5.later hb⟩⟩, h.lo⟩
theorem Fr.put {V : World} {lo b n k : Nat} {f d : Int} {L : List In} (h : Fr V lo b n k f d L) {g : Nat} (hn : g < lo) (i : Nat) (u : Value) : Fr (V.setCell ⟨g, i, none⟩ u) lo b n k f d L := by
  obtain ⟨cs, h1, h2, h3⟩ := h.r
  have hl := h.lo
  exact ⟨⟨cs, h1.other (p := ⟨g, i, none⟩) (by simp; omega) u, h2, fun i hi => by obtain ⟨F, h4, h5⟩ := h3 i hi; exact ⟨F, h4, h5.put (by omega) _ u⟩⟩, h.lo⟩
theorem Fr.at {V : World} {lo b n k : Nat} {f d : Int} {L : List In} (h : Fr V lo b n k f d L) {i : Nat} (hi : i < k) : ∃ F, V.cell? ⟨b, i, none⟩ = some F ∧ St V (b + 1) f d (L.getD i i0) F := by
  obtain ⟨cs, h1, h2, h3⟩ := h.r
  obtain ⟨F, h4, h5⟩ := h3 i hi
  exact ⟨F, h1.cell i h4, h5⟩
theorem Fr.lt {V : World} {lo b n k : Nat} {f d : Int} {L : List In} (h : Fr V lo b n k f d L) : b < V.heap.size := by
  obtain ⟨cs, h1, h2, h3⟩ := h.r
  exact h1.lt
theorem Fr.old {V : World} {lo b n k : Nat} {f d : Int} {L : List In} (h : Fr V lo b n k f d L) (hk : k < n) : V.frozen? ⟨b, k, none⟩ = false ∧ ∃ u, V.cell? ⟨b, k, none⟩ = some u := by
  obtain ⟨cs, h1, h2, h3⟩ := h.r
  exact ⟨h1.frozen k, _, h1.cell k (Array.getElem?_eq_getElem (by omega))⟩
theorem Fr.snoc {V : World} {lo b n k : Nat} {f d : Int} {L : List In} (h : Fr V lo b n k f d L) (hk : k < n) {F : Value} (hF : St V (b + 1) f d (L.getD k i0) F) : Fr (V.setCell ⟨b, k, none⟩ F) lo b n (k + 1) f d L := by
  obtain ⟨cs, h1, h2, h3⟩ := h.r
  refine ⟨⟨_, h1.set k F, by simpa using h2, fun i hi => ?_⟩, h.lo⟩
  by_cases he : i = k
  · subst he
    exact ⟨F, by rw [Array.getElem?_setIfInBounds]; simp [h2, hk], hF.put (Nat.lt_succ_self b) _ _⟩
  · obtain ⟨G, h4, h5⟩ := h3 i (by omega)
    exact ⟨G, by rw [Array.getElem?_setIfInBounds, if_neg (by omega)]; exact h4, h5.put (Nat.lt_succ_self b) _ _⟩

/-- A chain. -/
structure Hm (V : World) (lo g : Nat) (f d : Int) (L : List In) (o : Int) (b n : Nat) : Prop where
  x : HasC V g 56 (cd f d (some ⟨b, 0, none⟩) n n o)
  s : Fr V lo b n n f d L
  lo : lo ≤ g
  len : L.length = n
theorem Hm.later {V V' : World} {lo g : Nat} {f d : Int} {L : List In} {o : Int} {b n : Nat} (h : Hm V lo g f d L o b n) (hb : Below V.heap.size V V') : Hm V' lo g f d L o b n := ⟨h.x.below hb, h.s.later hb, h.lo, h.len⟩
theorem Hm.put {V : World} {lo g : Nat} {f d : Int} {L : List In} {o : Int} {b n : Nat} (h : Hm V lo g f d L o b n) {q : Nat} (hn : q < lo) (i : Nat) (u : Value) : Hm (V.setCell ⟨q, i, none⟩ u) lo g f d L o b n := by
  have hl := h.lo
  exact ⟨h.x.other (p := ⟨q, i, none⟩) (by simp; omega) u, h.s.put hn i u, h.lo, h.len⟩

/-- What New answers. -/
def NcP (w : World) (f d : Int) (L : List In) (out : Int) (e : Ending) (W' : World) : Prop :=
  Below w.heap.size w W' ∧ ((vfE f d L out ≠ 0 ∧ e = .returned (.tuple #[.pointer none, .int .i64 (vfE f d L out)])) ∨ (vfE f d L out = 0 ∧ ∃ g b n, e = .returned (.tuple #[.pointer (some ⟨g, 0, none⟩), .int .i64 0]) ∧ Hm W' w.heap.size g f d L out b n))
/-- New's boxes, and the row so far. -/
structure Nx (W V : World) (cv : Array Value) (b n k : Nat) (f d : Int) (L : List In) : Prop where
  c : HasC V W.heap.size 26 cv
  s : Fr V W.heap.size b n k f d L
  lo : Below W.heap.size W V
  h : W.heap.size < b
theorem Nx.later {W V V' : World} {cv : Array Value} {b n k : Nat} {f d : Int} {L : List In} (h : Nx W V cv b n k f d L) (hb : Below V.heap.size V V') : Nx W V' cv b n k f d L := ⟨h.c.below hb, h.s.later hb, bel h.lo hb, h.h⟩
theorem Nx.snoc {W V : World} {cv : Array Value} {b n k : Nat} {f d : Int} {L : List In} (h : Nx W V cv b n k f d L) (hk : k < n) {F : Value} (hF : St V (b + 1) f d (L.getD k i0) F) : Nx W (V.setCell ⟨b, k, none⟩ F) cv b n (k + 1) f d L := by
  have hh := h.h
  exact ⟨h.c.other (p := ⟨b, k, none⟩) (by simp; omega) F, h.s.snoc hk hF, h.lo.setCell (p := ⟨b, k, none⟩) (by simp; omega) F, h.h⟩

set_option maxRecDepth 100000 in
set_option maxHeartbeats 8000000 in
theorem hNew_any (f d out : Int) {a : Option Addr} {n cap : Nat} {L : List In} {W : World} (hL : Ins W a n cap L) :
    Calls Try.prog 5 #[.agg (cd f d a n cap out)] W (NcP W f d L out) := by
  have hb1 := bel1 W (.cells (cd f d a n cap out) 26)
  have HC0 := hide (HasC.new W 26 (cd f d a n cap out))
  have HV := hide (Vfy.yverify_any f d out (hL.later hb1))
  have HB0 := hide hb1
  have HLI := hide hL
  clear hb1
  by_cases h0 : vfE f d L out = 0
  · obtain ⟨mc, -⟩ := vf_parts h0
    obtain ⟨-, m1, m2, -, -, -⟩ := mc_parts mc
    rw [hL.len] at m1 m2
    have HLn := hide hL.len
    unfold Vfy.VfP at HV
    rw [h0] at HV
    have H0 := hide h0
    generalize vfN f d L out = vm at *
    generalize vfC f d L out = vc at *
    generalize Vfy.vfS f d L out = vs at *
    have HR := hide fun (m : In) (V : World) => hready_any f d m V
    have hmk := make_f n (by omega)
    clear mc h0 hL
    go_enter Try.func5, Try.ntmps5
    go_wp2_with fail
    refine HV.out.mono ?_
    rintro e V1 ⟨ga, gc, rfl, hS, hb, -, -⟩
    have hb2 := bel hb (bel1 V1 (.cells #[.slice ga vm gc, .int .i64 vc, .int .i64 0] 39))
    have HC1 := hide (HC0.out.below hb2)
    have HB1 := hide (bel HB0.out hb2)
    have hz := HC1.out.lt
    obtain ⟨c0, c1, c2, c3⟩ := four_of (HC0.out.below hb)
    have hz0 := (HC0.out.below hb).lt
    have hb3 := bel1 (V1.alloc (.cells #[.slice ga vm gc, .int .i64 vc, .int .i64 0] 39)) (.cells (nF n) 53)
    have HN1 : Hid (Nx W ((V1.alloc (.cells #[.slice ga vm gc, .int .i64 vc, .int .i64 0] 39)).alloc (.cells (nF n) 53)) (cd f d a n cap out) (V1.heap.size + 1) n 0 f d L) :=
      hide ⟨HC1.out.below hb3, ⟨⟨_, has_new1 V1 _ 53 (nF n), nF_size n, fun i hi => by omega⟩, by omega⟩, bel HB1.out hb3, by omega⟩
    clear hb hb2 hb3 hS HV HC0 HB0 hz
    go_wp2_with fail
    clear hmk c0 c1 c2 c3
    generalize V1.heap.size + 1 = b at *
    go_loopw [24] (fun i wr => ∃ k : Nat, k ≤ n ∧ i = .int .i64 k ∧ Hid (Nx W wr (cd f d a n cap out) b n k f d L)) (fun i _ => n - (intOf i).toNat)
    case atStart => exact ⟨0, Nat.zero_le _, rfl, HN1⟩
    case round =>
      obtain ⟨k, hk, rfl, HN⟩ := hrel
      rename World => V
      clear HN1
      by_cases hlt : k < n
      · obtain ⟨ab, off, rfl, -, hat⟩ := (HLI.out.later HN.out.lo).at (by omega)
        obtain ⟨e0, e1, e2, e3, e4, e5⟩ := hat k hlt
        have hi0 : (0 : Int) ≤ k := by omega
        have hi1 : (k : Int) < n := by omega
        have HSn := hide fun (V : World) (F : Value) (h : Nx W V (cd f d (some ⟨ab, off, none⟩) n cap out) b n k f d L) (hF : St V (b + 1) f d (L.getD k i0) F) => h.snoc hlt hF
        generalize L.getD k i0 = m at *
        have hb := bel1 V (.cells (ia m) 51)
        have HN2 := hide (HN.out.later hb)
        have HM2 := hide (HasC.new V 51 (ia m))
        have HLo := hide (show b + 1 ≤ (V.alloc (.cells (ia m) 51)).heap.size from HN2.out.s.lt)
        obtain ⟨x0, x1, x2, x3⟩ := four_of HN.out.c
        have hz0 := HN.out.c.lt
        clear hb hat
        go_wp2_with fail
        refine (HR.out m _).mono ?_
        rintro e V3 ⟨F, rfl, hS, hb⟩
        obtain ⟨fn, fs, cp, rfl⟩ := hS.form
        have HN3 := hide (HN2.out.later hb)
        have HS3 := hide (hS.mono HLo.out)
        obtain ⟨w0, u, w1⟩ := HN3.out.s.old hlt
        have HN4 := hide (HSn.out _ _ HN3.out HS3.out)
        clear hb hS HN2 HM2 e0 e1 e2 e3 e4 e5 x0 x1 x2 x3
        go_wp2_with fail
        go_roundw
        case rel => exact ⟨k + 1, by omega, by go_num, HN4⟩
        case measure => simp [intOf]; omega
      · obtain rfl : k = n := by omega
        obtain ⟨x0, x1, x2, x3⟩ := four_of HN.out.c
        go_wp2_with fail
        have hb4 := bel1 V (.cells (cd f d (some ⟨b, 0, none⟩) k k out) 56)
        exact bodyPost_ret (v := .tuple #[.pointer (some ⟨V.heap.size, 0, none⟩), .int .i64 0]) (by simp [results, Try.results5, go_sem]) rfl ⟨bel HN.out.lo hb4, .inr ⟨H0.out, _, _, _, rfl, ⟨HasC.new _ _ _, HN.out.s.later hb4, HN.out.lo.size, HLn.out⟩⟩⟩
  · unfold Vfy.VfP at HV
    obtain ⟨er, her⟩ : ∃ er, vfE f d L out = er := ⟨_, rfl⟩
    have HE : Hid (∀ e W', Below W.heap.size W W' → e = .returned (.tuple #[.pointer none, .int .i64 er]) → NcP W f d L out e W') := hide fun e W' hb he => ⟨hb, .inl ⟨h0, by rw [her]; exact he⟩⟩
    have hr : (er != 0) = true := by rw [← her]; simpa using h0
    rw [her] at HV
    generalize vfN f d L out = vm at *
    generalize vfC f d L out = vc at *
    generalize Vfy.vfS f d L out = vs at *
    clear h0 her hL
    go_enter Try.func5, Try.ntmps5
    go_wp2_with fail
    refine HV.out.mono ?_
    rintro e V1 ⟨ga, gc, rfl, hS, hb, -, -⟩
    have HB1 := hide (bel HB0.out (bel hb (bel1 V1 (.cells #[.slice ga vm gc, .int .i64 vc, .int .i64 0] 39))))
    clear hb hS HV HC0 HB0
    go_wp2_with fail
    exact bodyPost_ret (v := .tuple #[.pointer none, .int .i64 er]) (by simp [results, Try.results5, go_sem]) rfl (HE.out _ _ HB1.out rfl)

end Go.Proofs.Chn

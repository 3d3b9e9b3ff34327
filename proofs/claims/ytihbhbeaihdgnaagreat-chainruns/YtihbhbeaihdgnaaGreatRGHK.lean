/-
  ChainRuns' walk.
-/
import Derived.Test.YtihbhbeaihdgnaaGreatRGHG
import Derived.Test.YtihbhbeaihdgnaaGreatRows
import Derived.Test.YtihbhbeaihdgnaaGreatRGZB
namespace Go.Proofs.Chn
open Go.RowKit Go.IntWalk YtihbhbeaihdgnaaGreat.Knd
open YtihbhbeaihdgnaaGreat (Wd wdA Fits)
open Vmm (Wn Wins WnAt)
open Cde (In i0 ia kd cd Ins is6 four_of two_of has_new1 mk7 own_later own_mono heldC_any roomyC_any vaZ)
open Vfy (vfE vfN vfC vfS)
set_option linter.unusedVariables false

theorem roomy_ins {W : World} {base g n c : Nat} {L : List In} (hO : W.ownsRow base 41 6 (.slice (some ⟨g, 0, none⟩) (n + 1) c) (n + 1) (is6 (L ++ [mk7]))) : Ins W (some ⟨g, 0, none⟩) (n + 1) c (L ++ [mk7]) := by
  obtain ⟨a', c', e, hI, -⟩ := Ins.of_owns hO
  cases e
  exact hI
theorem ins_left {W : World} {a : Option Addr} {n c : Nat} {L : List In} (h : Ins W a (n + 1) c (L ++ [mk7])) : Ins W a n c L := by
  have hl := h.len
  simp at hl
  have h3 := h.take (k := n) (by omega)
  rw [← hl, List.take_left, hl] at h3
  exact h3
/-- A chain, or none. -/
structure Mo (V : World) (lo : Nat) (p : Option Addr) (b : Bool) (f d : Int) (L : List In) (o : Int) : Prop where
  e : p.isNone = b
  z : (vfE f d L o == 0) = !b
  m : b = false → vfE f d L o = 0 ∧ ∃ g b n, p = some ⟨g, 0, none⟩ ∧ Hm V lo g f d L o b n
theorem Mo.later {V V' : World} {lo : Nat} {p : Option Addr} {b : Bool} {f d : Int} {L : List In} {o : Int} (h : Mo V lo p b f d L o) (hb : Below V.heap.size V V') : Mo V' lo p b f d L o :=
  ⟨h.e, h.z, fun h0 => by obtain ⟨h1, g, b, n, h2, h3⟩ := h.m h0; exact ⟨h1, g, b, n, h2, h3.later hb⟩⟩
theorem Mo.put {V : World} {lo g : Nat} {p : Option Addr} {b : Bool} {f d : Int} {L : List In} {o : Int} (h : Mo V lo p b f d L o) (hg : g < lo) (i : Nat) (u : Value) : Mo (V.setCell ⟨g, i, none⟩ u) lo p b f d L o :=
  ⟨h.e, h.z, fun h0 => by
    obtain ⟨h1, q, c, n, h2, h3⟩ := h.m h0
    exact ⟨h1, q, c, n, h2, h3.put hg i u⟩⟩
theorem NcP.mo {w : World} {f d : Int} {L : List In} {out : Int} {e : Ending} {W' : World} (h : NcP w f d L out e W') : ∃ p b, e = .returned (.tuple #[.pointer p, .int .i64 (vfE f d L out)]) ∧ Mo W' w.heap.size p b f d L out ∧ Below w.heap.size w W' := by
  obtain ⟨hb, ⟨h0, he⟩ | ⟨h0, g, a, n, he, hM⟩⟩ := h
  · exact ⟨none, true, he, ⟨rfl, by simpa using h0, fun h => by cases h⟩, hb⟩
  · exact ⟨some ⟨g, 0, none⟩, false, by rw [h0]; exact he, ⟨rfl, by simp [h0], fun _ => ⟨h0, g, a, n, rfl, hM⟩⟩, hb⟩
/-- The law's boxes, the code in memory with room behind it, the two chains. -/
structure Lz (W V : World) (cv dv iv : Array Value) (bi g N : Nat) (lo1 : Nat) (p1 : Option Addr) (b1 : Bool) (f d : Int) (L : List In) (o : Int) (lo2 : Nat) (p2 : Option Addr) (b2 : Bool) (f2 d2 : Int) (L2 : List In) (o2 : Int) : Prop where
  xc : HasC V W.heap.size 26 cv
  xd : HasC V (W.heap.size + 1) 26 dv
  xi : HasC V bi 26 iv
  xr : ∃ cs, HasC V g 41 cs ∧ N ≤ cs.size
  m1 : Mo V lo1 p1 b1 f d L o
  m2 : Mo V lo2 p2 b2 f2 d2 L2 o2
  lo : Below W.heap.size W V
  hg : W.heap.size + 1 < g
  hi : g < bi
  h1 : g < lo1
  h2 : g < lo2
section
variable {W V V' : World} {cv dv iv : Array Value} {bi g N : Nat} {lo1 : Nat} {p1 : Option Addr} {b1 : Bool} {f d : Int} {L : List In} {o : Int} {lo2 : Nat} {p2 : Option Addr} {b2 : Bool} {f2 d2 : Int} {L2 : List In} {o2 : Int}
theorem Lz.later (h : Lz W V cv dv iv bi g N lo1 p1 b1 f d L o lo2 p2 b2 f2 d2 L2 o2) (hb : Below V.heap.size V V') : Lz W V' cv dv iv bi g N lo1 p1 b1 f d L o lo2 p2 b2 f2 d2 L2 o2 :=
  ⟨h.xc.below hb, h.xd.below hb, h.xi.below hb, by obtain ⟨cs, h1, h2⟩ := h.xr; exact ⟨cs, h1.below hb, h2⟩, h.m1.later hb, h.m2.later hb, bel h.lo hb, h.hg, h.hi, h.h1, h.h2⟩
theorem Lz.put (h : Lz W V cv dv iv bi g N lo1 p1 b1 f d L o lo2 p2 b2 f2 d2 L2 o2) (j : Nat) (u : Value) : Lz W (V.setCell ⟨g, j, none⟩ u) cv dv iv bi g N lo1 p1 b1 f d L o lo2 p2 b2 f2 d2 L2 o2 := by
  have hg := h.hg
  have hi := h.hi
  exact ⟨h.xc.other (p := ⟨g, j, none⟩) (by simp; omega) _, h.xd.other (p := ⟨g, j, none⟩) (by simp; omega) _, h.xi.other (p := ⟨g, j, none⟩) (by simp; omega) _, by obtain ⟨cs, h1, h2⟩ := h.xr; exact ⟨_, h1.set j u, by simpa using h2⟩, h.m1.put h.h1 j u, h.m2.put h.h2 j u, h.lo.setCell (p := ⟨g, j, none⟩) (by simp; omega) _, hg, hi, h.h1, h.h2⟩
end

set_option maxRecDepth 100000 in
set_option maxHeartbeats 16000000 in
theorem hruns_walk (f d out f2 d2 out2 : Int) {a a2 wa : Option Addr} {n cap n2 cap2 wn wc : Nat} {L L2 : List In} {S : Nat → Wn} {W : World} (hL : Ins W a n cap L) (hs : n ≤ 2932031007317) (hL2 : Ins W a2 n2 cap2 L2) (hS : Wins W wa wn S) :
    Calls Tryz.prog 3 #[.agg (cd f d a n cap out), .agg (cd f2 d2 a2 n2 cap2 out2), .slice wa wn wc] W fun e W' => e = .returned (.bool true) ∧ Below W.heap.size W W' := by
  have HA := hide fun w => hawake_any w
  have hb1 := bel (bel1 W (.cells (cd f d a n cap out) 26)) (bel1 (W.alloc (.cells (cd f d a n cap out) 26)) (.cells (cd f2 d2 a2 n2 cap2 out2) 26))
  have HC0 := hide ((HasC.new W 26 (cd f d a n cap out)).alloc (.cells (cd f2 d2 a2 n2 cap2 out2) 26))
  have HD0 := hide (has_new1 W (.cells (cd f d a n cap out) 26) 26 (cd f2 d2 a2 n2 cap2 out2))
  have HB0 := hide hb1
  have HR := hide (roomyC_any f d out (hL.later hb1) (by omega))
  have HLI := hide hL
  have HL2 := hide hL2
  have HSI := hide hS
  have hmx := hS.max
  have hnx := hL.short
  have HN1 := hide fun (V : World) (g c : Nat) (h : Ins V (some ⟨g, 0, none⟩) (n + 1) c (L ++ [mk7])) => hNew_any f d out (ins_left h)
  have HN2 := hide fun (V : World) (hb : Below W.heap.size W V) => hNew_any f2 d2 out2 (hL2.later hb)
  have HV1 := hide fun (V : World) (hb : Below W.heap.size W V) => Vfy.jverify_any f d out (hL.later hb)
  have HV2 := hide fun (V : World) (hb : Below W.heap.size W V) => Vfy.jverify_any f2 d2 out2 (hL2.later hb)
  have HH := hide fun (V : World) (g c : Nat) (hb : Below W.heap.size W V) (h : Ins V (some ⟨g, 0, none⟩) (n + 1) c (L ++ [mk7])) => heldC_any f d out h (hL.later hb)
  have HU1 := hide fun (V : World) (lo g b m pl pc : Nat) (pa : Option Addr) (v : Wd) (hM : Hm V lo g f d L out b m) (hp : Ints V pa pl pc v.ps) (h0 : vfE f d L out = 0) => hRun_any v hM hp h0
  have HU2 := hide fun (V : World) (lo g b m pl pc : Nat) (pa : Option Addr) (v : Wd) (hM : Hm V lo g f2 d2 L2 out2 b m) (hp : Ints V pa pl pc v.ps) (h0 : vfE f2 d2 L2 out2 = 0) => hRun_any v hM hp h0
  have HG1 := hide fun (V : World) (pl pc : Nat) (pa : Option Addr) (v : Wd) (hb : Below W.heap.size W V) (hp : Ints V pa pl pc v.ps) (h0 : vfE f d L out = 0) => grun2_any v (hL.later hb) hp h0
  have HG2 := hide fun (V : World) (pl pc : Nat) (pa : Option Addr) (v : Wd) (hb : Below W.heap.size W V) (hp : Ints V pa pl pc v.ps) (h0 : vfE f2 d2 L2 out2 = 0) => grun2_any v (hL2.later hb) hp h0
  obtain ⟨er1, her1⟩ : ∃ er, vfE f d L out = er := ⟨_, rfl⟩
  obtain ⟨er2, her2⟩ : ∃ er, vfE f2 d2 L2 out2 = er := ⟨_, rfl⟩
  unfold Vfy.VfP at HV1 HV2
  rw [her1] at HV1
  rw [her2] at HV2
  have HE1 := hide her1
  have HE2 := hide her2
  generalize vfN f d L out = vm1 at *
  generalize vfC f d L out = vc1 at *
  generalize Vfy.vfS f d L out = vs1 at *
  generalize vfN f2 d2 L2 out2 = vm2 at *
  generalize vfC f2 d2 L2 out2 = vc2 at *
  generalize Vfy.vfS f2 d2 L2 out2 = vs2 at *
  clear hb1 hL hL2 hS her1 her2
  go_enter Tryz.func3, Tryz.ntmps3
  go_wp2_with fail
  refine HR.out.mono ?_
  rintro e V1 ⟨g, k1, rfl, hO, hb⟩
  have hba := bel1 V1 (.cells (cd f d (some ⟨g, 0, none⟩) n k1 out) 26)
  have HC1 := hide ((HC0.out.below hb).below hba)
  have HD1 := hide ((HD0.out.below hb).below hba)
  have HI1 := hide (HasC.new V1 26 (cd f d (some ⟨g, 0, none⟩) n k1 out))
  have HB1 := hide (bel (bel HB0.out hb) hba)
  have hr1 : ∃ cs, HasC (V1.alloc (.cells (cd f d (some ⟨g, 0, none⟩) n k1 out) 26)) g 41 cs ∧ n * 6 ≤ cs.size := by
    rcases (own_later hO hba).2 with ⟨e, -⟩ | ⟨g', cap', cs, e, h1, h2, h3, h4, h5, h6⟩
    · cases e
    · cases e
      exact ⟨cs, h2, by omega⟩
  have HRw := hide hr1
  have hg := hO.lt g rfl
  simp only [World.size_alloc] at hg
  have HG := hide hg
  have HX1 := hide ((roomy_ins hO).later hba)
  clear hb hba hO hr1 hg HR HC0 HD0 HB0
  go_wp2_with fail
  generalize V1.heap.size = bi at *
  refine (HN1.out _ _ _ HX1.out).mono ?_
  intro e V2 hN
  obtain ⟨p1, b1, rfl, hM, hb⟩ := hN.mo
  rw [HE1.out]
  have HC2 := hide (HC1.out.below hb)
  have HD2 := hide (HD1.out.below hb)
  have HI2 := hide (HI1.out.below hb)
  have HB2 := hide (bel HB1.out hb)
  have HR2 : Hid (∃ cs, HasC V2 g 41 cs ∧ n * 6 ≤ cs.size) := hide (by obtain ⟨cs, h1, h2⟩ := HRw.out; exact ⟨cs, h1.below hb, h2⟩)
  have HX2 := hide (HX1.out.later hb)
  have HM2 := hide hM
  have HLo := hide (show g < bi ∧ bi < (V1.alloc (.cells (cd f d (some ⟨g, 0, none⟩) n k1 out) 26)).heap.size from ⟨HG.out.2, HI1.out.lt⟩)
  clear hb hM hN HC1 HD1 HI1 HB1 HRw HX1 HN1
  generalize (V1.alloc (.cells (cd f d (some ⟨g, 0, none⟩) n k1 out) 26)).heap.size = lo1 at *
  obtain ⟨d0, d1, d2', d3⟩ := four_of HD2.out
  go_wp2_with fail
  refine (HN2.out _ HB2.out).mono ?_
  intro e V3 hN
  obtain ⟨p2, b2, rfl, hM, hb⟩ := hN.mo
  rw [HE2.out]
  have HL3 : Hid (Lz W V3 (cd f d a n cap out) (cd f2 d2 a2 n2 cap2 out2) (cd f d (some ⟨g, 0, none⟩) n k1 out) bi g (n * 6) lo1 p1 b1 f d L out V2.heap.size p2 b2 f2 d2 L2 out2) :=
    hide ⟨HC2.out.below hb, HD2.out.below hb, HI2.out.below hb, by obtain ⟨cs, h1, h2⟩ := HR2.out; exact ⟨cs, h1.below hb, h2⟩, HM2.out.later hb, hM, bel HB2.out hb, by have := HG.out.1; omega, HLo.out.1, by have := HLo.out; omega, by have := HI2.out.lt; have := HLo.out.1; omega⟩
  have HX3 := hide (HX2.out.later hb)
  clear hb hM hN HC2 HD2 HI2 HB2 HR2 HM2 HLo HG HX2 HN2 d0 d1 d2' d3
  generalize V2.heap.size = lo2 at *
  obtain ⟨c0, c1, c2, c3⟩ := four_of HL3.out.xc
  go_wp2_with fail
  refine (HV1.out _ HL3.out.lo).mono ?_
  rintro e V4 ⟨ga, gc, rfl, -, hb, -, -⟩
  have hb2 := bel hb (bel1 V4 (.cells #[.slice ga vm1 gc, .int .i64 vc1, .int .i64 0] 35))
  have HL4 := hide (HL3.out.later hb2)
  have HX4 := hide (HX3.out.later hb2)
  clear hb hb2 HL3 HX3 HV1 c0 c1 c2 c3
  obtain ⟨d0, d1, d2', d3⟩ := four_of HL4.out.xd
  go_wp2_with fail
  refine (HV2.out _ HL4.out.lo).mono ?_
  rintro e V5 ⟨ga2, gc2, rfl, -, hb, -, -⟩
  have hb2 := bel hb (bel1 V5 (.cells #[.slice ga2 vm2 gc2, .int .i64 vc2, .int .i64 0] 35))
  have HL5 := hide (HL4.out.later hb2)
  have HX5 := hide (HX4.out.later hb2)
  clear hb hb2 HL4 HX4 HV2 d0 d1 d2' d3
  go_wp2_with fail
  refine (HA.out _).mono ?_
  rintro e V6 ⟨rfl, hb⟩
  have HL6 := hide (HL5.out.later hb)
  have HX6 := hide (HX5.out.later hb)
  clear hb HL5 HX5 HA
  have e1 := HL6.out.m1.e
  have e2 := HL6.out.m2.e
  have z1 := HL6.out.m1.z
  have z2 := HL6.out.m2.z
  rw [HE1.out] at z1
  rw [HE2.out] at z2
  have y1 : (er1 != er1) = false := by simp
  have y2 : (er2 != er2) = false := by simp
  have y3 : ((!b1) != (!b1)) = false := by simp
  have y4 : ((!b2) != (!b2)) = false := by simp
  obtain ⟨c0, c1, c2, c3⟩ := four_of HL6.out.xc
  obtain ⟨i0, i1, i2, i3⟩ := four_of HL6.out.xi
  go_wp2_with fail
  refine (HH.out _ _ _ HL6.out.lo HX6.out).mono ?_
  rintro e V7 ⟨rfl, hb⟩
  have HL7 := hide (HL6.out.later hb)
  clear hb HL6 HX6 HH c0 c1 c2 c3 i0 i1 i2 i3 y1 y2 y3 y4 z1 z2 e1 e2
  go_wp2_with fail
  generalize (!b1) = nb1
  generalize (!b2) = nb2
  go_loopw [16] (fun i wr => ∃ k : Nat, k ≤ n ∧ i = .int .i64 k ∧ Hid (Lz W wr (cd f d a n cap out) (cd f2 d2 a2 n2 cap2 out2) (cd f d (some ⟨g, 0, none⟩) n k1 out) bi g (n * 6) lo1 p1 b1 f d L out lo2 p2 b2 f2 d2 L2 out2)) (fun i _ => n - (intOf i).toNat)
  case atStart => exact ⟨0, Nat.zero_le _, rfl, HL7⟩
  case round =>
    obtain ⟨k, hk, rfl, HLk⟩ := hrel
    rename World => U
    clear HL7
    obtain ⟨i0, i1, i2, i3⟩ := four_of HLk.out.xi
    by_cases hlt : k < n
    · obtain ⟨cs, hcs, hN⟩ := HLk.out.xr
      obtain ⟨v0, w0⟩ : ∃ v, U.cell? ⟨g, k * 6, none⟩ = some v := ⟨_, hcs.cell (k * 6) (Array.getElem?_eq_getElem (by omega))⟩
      obtain ⟨v1, w1⟩ : ∃ v, U.cell? ⟨g, k * 6 + 1, none⟩ = some v := ⟨_, hcs.cell (k * 6 + 1) (Array.getElem?_eq_getElem (by omega))⟩
      obtain ⟨v2, w2⟩ : ∃ v, U.cell? ⟨g, k * 6 + 2, none⟩ = some v := ⟨_, hcs.cell (k * 6 + 2) (Array.getElem?_eq_getElem (by omega))⟩
      obtain ⟨v3, w3⟩ : ∃ v, U.cell? ⟨g, k * 6 + 3, none⟩ = some v := ⟨_, hcs.cell (k * 6 + 3) (Array.getElem?_eq_getElem (by omega))⟩
      obtain ⟨v4, w4⟩ : ∃ v, U.cell? ⟨g, k * 6 + 4, none⟩ = some v := ⟨_, hcs.cell (k * 6 + 4) (Array.getElem?_eq_getElem (by omega))⟩
      obtain ⟨v5, w5⟩ : ∃ v, U.cell? ⟨g, k * 6 + 5, none⟩ = some v := ⟨_, hcs.cell (k * 6 + 5) (Array.getElem?_eq_getElem (by omega))⟩
      have f0 := hcs.frozen (k * 6)
      have f1 := hcs.frozen (k * 6 + 1)
      have f2' := hcs.frozen (k * 6 + 2)
      have f3 := hcs.frozen (k * 6 + 3)
      have f4 := hcs.frozen (k * 6 + 4)
      have f5 := hcs.frozen (k * 6 + 5)
      have hgl := hcs.lt
      have j0 : (0 : Int) ≤ k := by omega
      have j1 : (k : Int) < n := by omega
      have HP := hide ((((((HLk.out.put (k * 6) (.int .i64 1)).put (k * 6 + 1) (.int .i64 0)).put (k * 6 + 2) (.int .i64 0)).put (k * 6 + 3) (.int .i64 0)).put (k * 6 + 4) (.int .i64 77)).put (k * 6 + 5) (.int .i64 0))
      clear hcs hN
      go_wp2_with fail
      go_roundw
      case rel => exact ⟨k + 1, by omega, by go_num, HP⟩
      case measure => simp [intOf]; omega
    · have j1 : ¬ (k : Int) < n := by omega
      go_wp2_with fail
      clear i0 i1 i2 i3 j1 hlt hk
      go_loopw [17] (fun i wr => ∃ q : Nat, q ≤ wn ∧ i = .int .i64 q ∧ Hid (Below U.heap.size U wr)) (fun i _ => wn - (intOf i).toNat)
      case atStart => exact ⟨0, Nat.zero_le _, rfl, hide (Below.refl _ _)⟩
      case round =>
        obtain ⟨q, hq, rfl, HBq⟩ := hrel
        rename World => Vr
        have HLq := hide (HLk.out.later HBq.out)
        by_cases hqt : q < wn
        · by_cases h40 : q < 40
          · obtain ⟨wb, woff, rfl, hwl, hat⟩ := (HSI.out.later HLq.out.lo).at (by omega)
            obtain ⟨x0, x1, x2, x3, x4, x5⟩ := hat q hqt
            have HWn := hide (hat q hqt)
            have HRm := hide fun (V : World) (hb : Below Vr.heap.size Vr V) => YtihbhbeaihdgnaaGreat.Knd.roomy_any (S q).a (S q).n (S q).c (S q).v.ps V (x4.later hb) x5
            have hPl := x4.len
            generalize S q = s at *
            obtain ⟨v, pa, pl, pc⟩ := s
            dsimp only at x0 x1 x2 x3 x4 x5 HRm hPl
            have j0 : (0 : Int) ≤ q := by omega
            have j1 : (q : Int) < wn := by omega
            have j2 : (q : Int) < 40 := by omega
            have hbv := bel1 Vr (.cells (wdA v pa pl pc) 44)
            have HZ0 := hide (HasC.new Vr 44 (wdA v pa pl pc))
            have HB0 := hide hbv
            have HRo := hide (HRm.out _ hbv)
            have HPl := hide hPl
            clear hat hbv x4 x5 HRm hPl
            go_wp2_with fail
            refine HRo.out.mono ?_
            rintro e V2 ⟨rfl, hO2, hb⟩
            rw [World.size_alloc] at hO2 ⊢
            have HR0 := hide (Rv.start HZ0.out HB0.out hO2 hb HPl.out)
            have hZ2 := HZ0.out.below hb
            have s3 := hZ2.frozen 3
            obtain ⟨t0', t1', t2', t3'⟩ := four_of hZ2
            have hz2 := hZ2.lt
            clear hb hO2 hZ2 HZ0 HB0 HRo HPl x0 x1 x2 x3
            generalize Vr.heap.size + 1 = g4 at *
            cases b1 <;> cases b2
            · obtain ⟨t1, g1, b1', n1', rfl, hM1⟩ := HLq.out.m1.m rfl
              have HM1 := hide fun (V : World) (hb : Below Vr.heap.size Vr V) => hM1.later hb
              obtain ⟨zx1, ze1, hz1⟩ : ∃ zx ze : Int, hrV (vaZ f d v L out) out = .tuple #[.int .i64 zx, .int .i64 ze] := ⟨_, _, rfl⟩
              have HC1 := hide fun (V : World) (hb : Below Vr.heap.size Vr V) (h : Rv Vr V v pl g4) => HU1.out V _ _ _ _ _ _ _ v (hM1.later hb) h.P2 t1
              rw [hz1] at HC1
              have HGr1 := hide fun (V : World) (hb : Below W.heap.size W V) (hp : Ints V pa pl pc v.ps) => HG1.out V pl pc pa v hb hp t1
              rw [hz1] at HGr1
              have qx1 : (zx1 != zx1) = false := by simp
              have qe1 : (ze1 != ze1) = false := by simp
              clear hz1 hM1
              obtain ⟨t2, g2, b2', n2', rfl, hM2⟩ := HLq.out.m2.m rfl
              have HM2 := hide fun (V : World) (hb : Below Vr.heap.size Vr V) => hM2.later hb
              obtain ⟨zx2, ze2, hz2⟩ : ∃ zx ze : Int, hrV (vaZ f2 d2 v L2 out2) out2 = .tuple #[.int .i64 zx, .int .i64 ze] := ⟨_, _, rfl⟩
              have HC2 := hide fun (V : World) (hb : Below Vr.heap.size Vr V) (h : Rv Vr V v pl g4) => HU2.out V _ _ _ _ _ _ _ v (hM2.later hb) h.P2 t2
              rw [hz2] at HC2
              have HGr2 := hide fun (V : World) (hb : Below W.heap.size W V) (hp : Ints V pa pl pc v.ps) => HG2.out V pl pc pa v hb hp t2
              rw [hz2] at HGr2
              have qx2 : (zx2 != zx2) = false := by simp
              have qe2 : (ze2 != ze2) = false := by simp
              clear hz2 hM2
              go_wp2_with fail
              obtain ⟨V3, hV3⟩ := Rv.name HR0
              rw [hV3] at HR0 ⊢
              clear hV3 s3 t0' t1' t2' t3' hz2
              have HR := HR0
              clear HR0
              obtain ⟨y0, y1, y2, y3⟩ := four_of HR.out.z
              refine (HC1.out _ HR.out.old HR.out).mono ?_
              rintro e V4 ⟨rfl, hb⟩
              have HR4 := hide (HR.out.later hb)
              clear hb HC1 HR y0 y1 y2 y3
              go_wp2_with fail
              have HL4 := hide (HLq.out.later HR4.out.old)
              obtain ⟨c0, c1, c2', c3⟩ := four_of HL4.out.xc
              obtain ⟨x0, x1, x2, x3, x4, x5⟩ := HWn.out.later hwl HR4.out.old
              have r0 := cell_regrown c0
              have r1 := cell_regrown c1
              have r2 := cell_regrown c2'
              have r3 := cell_regrown c3
              have u0 := cell_regrown x0
              have u1 := cell_regrown x1
              have u2 := cell_regrown x2
              have u3 := cell_regrown x3
              refine wp_region_quiet_below Cde.mixed0 (by kernel_rfl) ?_
              repeat (go_big_quiet_step (fail))
              go_big_quiet_step ((go_at_call 12; exact Calls.regrown_of (HGr1.out _ (bel HL4.out.lo (below_regrown _ _ _)) (x4.later (below_regrown _ _ _)))))
              repeat (go_big_quiet_step (fail))
              refine wpQuiet_nil ?_
              intro V8 hw'
              obtain ⟨⟨dq, osq⟩, hw''⟩ := hw'
              have hb := below_regrown V4 dq osq
              simp only at hw''
              rw [← hw''] at hb
              have HR := hide (HR4.out.later hb)
              clear hw'' hb r0 r1 r2 r3 u0 u1 u2 u3 c0 c1 c2' c3 x0 x1 x2 x3 x4 x5 HL4 HR4 HGr1
              obtain ⟨y0, y1, y2, y3⟩ := four_of HR.out.z
              go_wp2_with fail
              clear qx1 qe1
              refine (HC2.out _ HR.out.old HR.out).mono ?_
              rintro e V4 ⟨rfl, hb⟩
              have HR4 := hide (HR.out.later hb)
              clear hb HC2 HR y0 y1 y2 y3
              go_wp2_with fail
              have HL4 := hide (HLq.out.later HR4.out.old)
              obtain ⟨d0, d1, d2', d3⟩ := four_of HL4.out.xd
              obtain ⟨x0, x1, x2, x3, x4, x5⟩ := HWn.out.later hwl HR4.out.old
              have r0 := cell_regrown d0
              have r1 := cell_regrown d1
              have r2 := cell_regrown d2'
              have r3 := cell_regrown d3
              have u0 := cell_regrown x0
              have u1 := cell_regrown x1
              have u2 := cell_regrown x2
              have u3 := cell_regrown x3
              refine wp_region_quiet_below Cde.mixed0 (by kernel_rfl) ?_
              repeat (go_big_quiet_step (fail))
              go_big_quiet_step ((go_at_call 12; exact Calls.regrown_of (HGr2.out _ (bel HL4.out.lo (below_regrown _ _ _)) (x4.later (below_regrown _ _ _)))))
              repeat (go_big_quiet_step (fail))
              refine wpQuiet_nil ?_
              intro V8 hw'
              obtain ⟨⟨dq, osq⟩, hw''⟩ := hw'
              have hb := below_regrown V4 dq osq
              simp only at hw''
              rw [← hw''] at hb
              have HR := hide (HR4.out.later hb)
              clear hw'' hb r0 r1 r2 r3 u0 u1 u2 u3 d0 d1 d2' d3 x0 x1 x2 x3 x4 x5 HL4 HR4 HGr2
              obtain ⟨y0, y1, y2, y3⟩ := four_of HR.out.z
              go_wp2_with fail
              clear qx2 qe2
              obtain ⟨x0, x1, x2, x3, x4, x5⟩ := HWn.out.later hwl HR.out.old
              have HHr := hide fun (V : World) (h1 : Ints V (some ⟨g4, 0, none⟩) (pl + 40) (pl + 40) (v.ps ++ marks)) (h2 : Ints V pa pl pc v.ps) => held_below pc h1 h2
              have r0 := cell_regrown y3
              have u3 := cell_regrown x3
              refine wp_region_quiet_below Cde.mixed0 (by kernel_rfl) ?_
              repeat (go_big_quiet_step (fail))
              go_big_quiet_step ((go_at_call 13; exact Calls.regrown_of (HHr.out _ (HR.out.more.later (below_regrown _ _ _)) (x4.later (below_regrown _ _ _)))))
              repeat (go_big_quiet_step (fail))
              refine wpQuiet_nil ?_
              intro Vz hw'
              obtain ⟨⟨dq, osq⟩, hw''⟩ := hw'
              have hb := below_regrown V8 dq osq
              simp only at hw''
              rw [← hw''] at hb
              have HBn := hide (bel HBq.out (bel HR.out.old hb))
              clear hw'' hb r0 u3 y0 y1 y2 y3 x0 x1 x2 x3 x4 x5 HLq HR HHr
              go_wp2_with fail
              go_roundw
              case rel => exact ⟨q + 1, by omega, by go_num, HBn⟩
              case measure => simp [intOf]; omega
            · obtain ⟨t1, g1, b1', n1', rfl, hM1⟩ := HLq.out.m1.m rfl
              have HM1 := hide fun (V : World) (hb : Below Vr.heap.size Vr V) => hM1.later hb
              obtain ⟨zx1, ze1, hz1⟩ : ∃ zx ze : Int, hrV (vaZ f d v L out) out = .tuple #[.int .i64 zx, .int .i64 ze] := ⟨_, _, rfl⟩
              have HC1 := hide fun (V : World) (hb : Below Vr.heap.size Vr V) (h : Rv Vr V v pl g4) => HU1.out V _ _ _ _ _ _ _ v (hM1.later hb) h.P2 t1
              rw [hz1] at HC1
              have HGr1 := hide fun (V : World) (hb : Below W.heap.size W V) (hp : Ints V pa pl pc v.ps) => HG1.out V pl pc pa v hb hp t1
              rw [hz1] at HGr1
              have qx1 : (zx1 != zx1) = false := by simp
              have qe1 : (ze1 != ze1) = false := by simp
              clear hz1 hM1
              obtain rfl : p2 = none := by
                have h := HLq.out.m2.e
                cases p2
                · rfl
                · cases h
              go_wp2_with fail
              obtain ⟨V3, hV3⟩ := Rv.name HR0
              rw [hV3] at HR0 ⊢
              clear hV3 s3 t0' t1' t2' t3' hz2
              have HR := HR0
              clear HR0
              obtain ⟨y0, y1, y2, y3⟩ := four_of HR.out.z
              refine (HC1.out _ HR.out.old HR.out).mono ?_
              rintro e V4 ⟨rfl, hb⟩
              have HR4 := hide (HR.out.later hb)
              clear hb HC1 HR y0 y1 y2 y3
              go_wp2_with fail
              have HL4 := hide (HLq.out.later HR4.out.old)
              obtain ⟨c0, c1, c2', c3⟩ := four_of HL4.out.xc
              obtain ⟨x0, x1, x2, x3, x4, x5⟩ := HWn.out.later hwl HR4.out.old
              have r0 := cell_regrown c0
              have r1 := cell_regrown c1
              have r2 := cell_regrown c2'
              have r3 := cell_regrown c3
              have u0 := cell_regrown x0
              have u1 := cell_regrown x1
              have u2 := cell_regrown x2
              have u3 := cell_regrown x3
              refine wp_region_quiet_below Cde.mixed0 (by kernel_rfl) ?_
              repeat (go_big_quiet_step (fail))
              go_big_quiet_step ((go_at_call 12; exact Calls.regrown_of (HGr1.out _ (bel HL4.out.lo (below_regrown _ _ _)) (x4.later (below_regrown _ _ _)))))
              repeat (go_big_quiet_step (fail))
              refine wpQuiet_nil ?_
              intro V8 hw'
              obtain ⟨⟨dq, osq⟩, hw''⟩ := hw'
              have hb := below_regrown V4 dq osq
              simp only at hw''
              rw [← hw''] at hb
              have HR := hide (HR4.out.later hb)
              clear hw'' hb r0 r1 r2 r3 u0 u1 u2 u3 c0 c1 c2' c3 x0 x1 x2 x3 x4 x5 HL4 HR4 HGr1
              obtain ⟨y0, y1, y2, y3⟩ := four_of HR.out.z
              go_wp2_with fail
              clear qx1 qe1
              obtain ⟨x0, x1, x2, x3, x4, x5⟩ := HWn.out.later hwl HR.out.old
              have HHr := hide fun (V : World) (h1 : Ints V (some ⟨g4, 0, none⟩) (pl + 40) (pl + 40) (v.ps ++ marks)) (h2 : Ints V pa pl pc v.ps) => held_below pc h1 h2
              have r0 := cell_regrown y3
              have u3 := cell_regrown x3
              refine wp_region_quiet_below Cde.mixed0 (by kernel_rfl) ?_
              repeat (go_big_quiet_step (fail))
              go_big_quiet_step ((go_at_call 13; exact Calls.regrown_of (HHr.out _ (HR.out.more.later (below_regrown _ _ _)) (x4.later (below_regrown _ _ _)))))
              repeat (go_big_quiet_step (fail))
              refine wpQuiet_nil ?_
              intro Vz hw'
              obtain ⟨⟨dq, osq⟩, hw''⟩ := hw'
              have hb := below_regrown V8 dq osq
              simp only at hw''
              rw [← hw''] at hb
              have HBn := hide (bel HBq.out (bel HR.out.old hb))
              clear hw'' hb r0 u3 y0 y1 y2 y3 x0 x1 x2 x3 x4 x5 HLq HR HHr
              go_wp2_with fail
              go_roundw
              case rel => exact ⟨q + 1, by omega, by go_num, HBn⟩
              case measure => simp [intOf]; omega
            · obtain rfl : p1 = none := by
                have h := HLq.out.m1.e
                cases p1
                · rfl
                · cases h
              obtain ⟨t2, g2, b2', n2', rfl, hM2⟩ := HLq.out.m2.m rfl
              have HM2 := hide fun (V : World) (hb : Below Vr.heap.size Vr V) => hM2.later hb
              obtain ⟨zx2, ze2, hz2⟩ : ∃ zx ze : Int, hrV (vaZ f2 d2 v L2 out2) out2 = .tuple #[.int .i64 zx, .int .i64 ze] := ⟨_, _, rfl⟩
              have HC2 := hide fun (V : World) (hb : Below Vr.heap.size Vr V) (h : Rv Vr V v pl g4) => HU2.out V _ _ _ _ _ _ _ v (hM2.later hb) h.P2 t2
              rw [hz2] at HC2
              have HGr2 := hide fun (V : World) (hb : Below W.heap.size W V) (hp : Ints V pa pl pc v.ps) => HG2.out V pl pc pa v hb hp t2
              rw [hz2] at HGr2
              have qx2 : (zx2 != zx2) = false := by simp
              have qe2 : (ze2 != ze2) = false := by simp
              clear hz2 hM2
              go_wp2_with fail
              obtain ⟨V3, hV3⟩ := Rv.name HR0
              rw [hV3] at HR0 ⊢
              clear hV3 s3 t0' t1' t2' t3' hz2
              have HR := HR0
              clear HR0
              obtain ⟨y0, y1, y2, y3⟩ := four_of HR.out.z
              refine (HC2.out _ HR.out.old HR.out).mono ?_
              rintro e V4 ⟨rfl, hb⟩
              have HR4 := hide (HR.out.later hb)
              clear hb HC2 HR y0 y1 y2 y3
              go_wp2_with fail
              have HL4 := hide (HLq.out.later HR4.out.old)
              obtain ⟨d0, d1, d2', d3⟩ := four_of HL4.out.xd
              obtain ⟨x0, x1, x2, x3, x4, x5⟩ := HWn.out.later hwl HR4.out.old
              have r0 := cell_regrown d0
              have r1 := cell_regrown d1
              have r2 := cell_regrown d2'
              have r3 := cell_regrown d3
              have u0 := cell_regrown x0
              have u1 := cell_regrown x1
              have u2 := cell_regrown x2
              have u3 := cell_regrown x3
              refine wp_region_quiet_below Cde.mixed0 (by kernel_rfl) ?_
              repeat (go_big_quiet_step (fail))
              go_big_quiet_step ((go_at_call 12; exact Calls.regrown_of (HGr2.out _ (bel HL4.out.lo (below_regrown _ _ _)) (x4.later (below_regrown _ _ _)))))
              repeat (go_big_quiet_step (fail))
              refine wpQuiet_nil ?_
              intro V8 hw'
              obtain ⟨⟨dq, osq⟩, hw''⟩ := hw'
              have hb := below_regrown V4 dq osq
              simp only at hw''
              rw [← hw''] at hb
              have HR := hide (HR4.out.later hb)
              clear hw'' hb r0 r1 r2 r3 u0 u1 u2 u3 d0 d1 d2' d3 x0 x1 x2 x3 x4 x5 HL4 HR4 HGr2
              obtain ⟨y0, y1, y2, y3⟩ := four_of HR.out.z
              go_wp2_with fail
              clear qx2 qe2
              obtain ⟨x0, x1, x2, x3, x4, x5⟩ := HWn.out.later hwl HR.out.old
              have HHr := hide fun (V : World) (h1 : Ints V (some ⟨g4, 0, none⟩) (pl + 40) (pl + 40) (v.ps ++ marks)) (h2 : Ints V pa pl pc v.ps) => held_below pc h1 h2
              have r0 := cell_regrown y3
              have u3 := cell_regrown x3
              refine wp_region_quiet_below Cde.mixed0 (by kernel_rfl) ?_
              repeat (go_big_quiet_step (fail))
              go_big_quiet_step ((go_at_call 13; exact Calls.regrown_of (HHr.out _ (HR.out.more.later (below_regrown _ _ _)) (x4.later (below_regrown _ _ _)))))
              repeat (go_big_quiet_step (fail))
              refine wpQuiet_nil ?_
              intro Vz hw'
              obtain ⟨⟨dq, osq⟩, hw''⟩ := hw'
              have hb := below_regrown V8 dq osq
              simp only at hw''
              rw [← hw''] at hb
              have HBn := hide (bel HBq.out (bel HR.out.old hb))
              clear hw'' hb r0 u3 y0 y1 y2 y3 x0 x1 x2 x3 x4 x5 HLq HR HHr
              go_wp2_with fail
              go_roundw
              case rel => exact ⟨q + 1, by omega, by go_num, HBn⟩
              case measure => simp [intOf]; omega
            · obtain rfl : p1 = none := by
                have h := HLq.out.m1.e
                cases p1
                · rfl
                · cases h
              obtain rfl : p2 = none := by
                have h := HLq.out.m2.e
                cases p2
                · rfl
                · cases h
              go_wp2_with fail
              obtain ⟨V3, hV3⟩ := Rv.name HR0
              rw [hV3] at HR0 ⊢
              clear hV3 s3 t0' t1' t2' t3' hz2
              have HR := HR0
              clear HR0
              obtain ⟨y0, y1, y2, y3⟩ := four_of HR.out.z
              obtain ⟨x0, x1, x2, x3, x4, x5⟩ := HWn.out.later hwl HR.out.old
              have HHr := hide fun (V : World) (h1 : Ints V (some ⟨g4, 0, none⟩) (pl + 40) (pl + 40) (v.ps ++ marks)) (h2 : Ints V pa pl pc v.ps) => held_below pc h1 h2
              have r0 := cell_regrown y3
              have u3 := cell_regrown x3
              refine wp_region_quiet_below Cde.mixed0 (by kernel_rfl) ?_
              repeat (go_big_quiet_step (fail))
              go_big_quiet_step ((go_at_call 13; exact Calls.regrown_of (HHr.out _ (HR.out.more.later (below_regrown _ _ _)) (x4.later (below_regrown _ _ _)))))
              repeat (go_big_quiet_step (fail))
              refine wpQuiet_nil ?_
              intro Vz hw'
              obtain ⟨⟨dq, osq⟩, hw''⟩ := hw'
              have hb := below_regrown V3 dq osq
              simp only at hw''
              rw [← hw''] at hb
              have HBn := hide (bel HBq.out (bel HR.out.old hb))
              clear hw'' hb r0 u3 y0 y1 y2 y3 x0 x1 x2 x3 x4 x5 HLq HR HHr
              go_wp2_with fail
              go_roundw
              case rel => exact ⟨q + 1, by omega, by go_num, HBn⟩
              case measure => simp [intOf]; omega
          · have j1 : (q : Int) < wn := by omega
            have j2 : ¬ (q : Int) < 40 := by omega
            go_wp2_with fail
            go_ret
            exact ⟨rfl, HLq.out.lo⟩
        · have j1 : ¬ (q : Int) < wn := by omega
          go_wp2_with fail
          go_ret
          exact ⟨rfl, HLq.out.lo⟩

end Go.Proofs.Chn

/-
  ChainRuns: of every two codes and list of windows the law returns true: two chains answer as the document on each window, in turns, the codes may be written over behind, and the arguments read as before.
-/
namespace Go.Proofs.YtihbhbeaihdgnaaGreat
open Go.ChangeShapes Go.WideShapes Go.ChangeAt Go.RowKit
open Cde (ownK laidOut' open_code code_reach)
open Chn (hruns_walk)
set_option linter.unusedVariables false

set_option maxRecDepth 100000 in
theorem chainRuns_lifted (os : Os) (started : os.Started) (H : Type) (enc : TypeId × Value → H) :
    ReturnsInHanded {} Tryz.checked os 3 .any (Rows.chainRunsSpec.pre6 enc Tryz.prog Tryz.f3 Rows.chainRunsRow.domain false) (Rows.chainRunsSpec.post enc Tryz.prog Tryz.f3 false true false false) := by
  refine returnsInHanded_of_change_sized (C := Tryz.checked) ownK started (by kernel_rfl) Tryz.func3
    (ChangeSpec.witness6 (enc := enc) (C := Tryz.checked) false ⟨#[], #[.agg #[.int .i64 0, .int .i64 0, .slice none 0 0, .int .i64 0], .agg #[.int .i64 0, .int .i64 0, .slice none 0 0, .int .i64 0], .slice none 0 0], []⟩ 8 (by kernel_rfl) (by kernel_rfl) (by kernel_rfl) (by kernel_rfl)) ?_
  intro W base args ds gs before hval0 hW hcnd hsz0 _
  have hsz : (DataW.weightsEach Tryz.prog (Tryz.f3.params.toList ++ Rows.chainRunsSpec.plain.varTypes Tryz.prog) (ds ++ gs)).all (· ≤ reachBytes) = true := hsz0
  have hval : ∀ (j : Nat) t v, Tryz.f3.params[j]? = some t → args[j]? = some v → Value.okWide Tryz.prog W .any base t v := hval0
  have hW' := hW
  obtain ⟨p, q, hA0, hV, rfl, hfz, hnd⟩ := hW
  have hA : DataW.TrodAll enc Tryz.prog W 0 (fun _ => true) true Tryz.f3.params.toList args.toList ds p := hA0
  rw [Tryz.params3] at hA hval hsz
  obtain ⟨v0, vs0, d0, ds0, p0, q0, hargs, rfl, rfl, h0, r0⟩ := trodAll_cons hA
  obtain ⟨v1, vs1, d1, ds1, p1, q1, rfl, rfl, rfl, h1, r1⟩ := trodAll_cons r0
  obtain ⟨v2, vs2, d2, ds2, p2, q2, rfl, rfl, rfl, h2, r2⟩ := trodAll_cons r1
  obtain ⟨rfl, rfl, rfl⟩ := trodAll_nil r2
  obtain rfl : args = #[v0, v1, v2] := by cases args; simp_all
  obtain ⟨rfl, rfl⟩ := trodVars_none hV
  have k0 := h0
  have lt0 : ∀ x ∈ p0, x.block < W.heap.size := by obtain ⟨m, hm⟩ := k0; exact DataW.trod_lt m _ _ _ hm
  obtain ⟨f0, e0, a0, n0, c0, L0, o0, rfl, hZ0, y00, y10, y20, hd0, he0⟩ := open_code (hval 0 26 v0 rfl rfl) h0
  have hR0 := code_reach hd0 he0 hsz 0 rfl rfl
  have k1 := h1
  have lt1 : ∀ x ∈ p1, x.block < W.heap.size := by obtain ⟨m, hm⟩ := k1; exact DataW.trod_lt m _ _ _ hm
  obtain ⟨f1, e1, a1, n1, c1, L1, o1, rfl, hZ1, y01, y11, y21, hd1, he1⟩ := open_code (hval 1 26 v1 rfl rfl) h1
  have hR1 := code_reach hd1 he1 hsz 1 rfl rfl
  have k2 := h2
  have lt2 : ∀ x ∈ p2, x.block < W.heap.size := by obtain ⟨m, hm⟩ := k2; exact DataW.trod_lt m _ _ _ hm
  obtain ⟨a2, n2, c2, S2, rfl, hZ2⟩ := Vmm.open_wins (hval 2 27 v2 rfl rfl) h2 hsz 2 rfl rfl
  clear hA0 hval0 hsz0
  refine (hruns_walk f0 e0 o0 f1 e1 o1 hZ0 hR0 hZ1 hZ2).mono fun e W' ⟨he, bel⟩ => ?_
  subst he
  exact ⟨_, rfl, _, _, _, [], _, [], hW', trodAll_mk1 (shut_bool Tryz.underlying4 _), trodAll_cons_mk (Below.trod laidOut' (by kernel_rfl) (of_decide_eq_true (by kernel_rfl)) k0 bel lt0) (trodAll_cons_mk (Below.trod laidOut' (by kernel_rfl) (of_decide_eq_true (by kernel_rfl)) k1 bel lt1) (trodAll_cons_mk (Below.trod laidOut' (by kernel_rfl) (of_decide_eq_true (by kernel_rfl)) k2 bel lt2) (trodAll_mk0))), rfl, bel.frame _, fun h => by cases h⟩

theorem chainRuns_holds : Rows.ChainRunsSaid :=
  OpenClaim.holds_of_wide 3 Tryz.f3 rfl rfl rfl rfl rfl rfl rfl ⟨rfl, rfl, rfl, rfl, rfl⟩ rfl rfl rfl rfl rfl (by kernel_rfl) Tryz.func3 (by kernel_rfl)
    (of_decide_eq_true (by kernel_rfl)) (by unfold Func.isWrapper; first | (rw [if_pos (by decide +kernel)]; kernel_rfl) | (rw [if_neg (by decide +kernel)]; exact ⟨rfl, rfl⟩))
    (fun os started H enc _ => chainRuns_lifted os started H enc)
#print axioms chainRuns_holds

end Go.Proofs.YtihbhbeaihdgnaaGreat

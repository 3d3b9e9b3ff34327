/-
  FoldKnown's walk.
-/
import Derived.Test.YtjfcdfjegjplhaaMFD
import Derived.Test.YtjfcdfjegjplhaaMFk
import Derived.Test.YtjfcdfjegjplhaaMCdE
namespace Go.Proofs.Fld
open Go.RowKit Go.IntWalk Ytjfcdfjegjplhaa.Knd
open Cde (In i0 ia kd cd Ins at6 six_of four_of two_of has_new1 is6 sameB arN rgN abc zA zA_get)
open Vfy (vfE)
set_option linter.unusedVariables false

/-- The law's boxes. -/
structure Fr (W V : World) (cv dv : Array Value) (bd : Nat) : Prop where
  c : HasC V W.heap.size 33 cv
  d : HasC V bd 33 dv
  lo : Below W.heap.size W V
theorem Fr.below {W V V' : World} {cv dv : Array Value} {bd : Nat} (h : Fr W V cv dv bd) (hb : Below V.heap.size V V') : Fr W V' cv dv bd := ⟨h.c.below hb, h.d.below hb, bel h.lo hb⟩
theorem abc_rg (m : In) {j : Nat} (h : j < 3) : (zA (abc m))[j]? = some (.int .i64 (rgN m j)) := by
  rw [zA_get _ j (by simpa [abc] using h), Cde.abc_at m j h]
/-- The answer is the folded code, where it is another one than the code. -/
theorem known_new {f d : Int} {L : List In} {out : Int} (h : vfE f d L out = 0) (hs : sameB f d out L f d (fdO f d L out) (fdL f d L out) = false) : fdL f d L out = (foF f d L).1 := by
  unfold fdL fdO at *
  by_cases hn : vfE f d (foF f d L).1 (foO f d L out) = 0
  · rw [if_pos hn]
  · rw [if_neg hn, if_neg hn] at hs
    simp [sameB] at hs

set_option maxRecDepth 100000 in
set_option maxHeartbeats 16000000 in
theorem fknown_walk (f d out : Int) {a : Option Addr} {n cap : Nat} {L : List In} {W : World} (hL : Ins W a n cap L) :
    Calls Try.prog 5 #[.agg (cd f d a n cap out)] W fun e w' => e = .returned (.bool true) ∧ Below W.heap.size W w' := by
  have HA := hide fun V => fawake_any V
  have HB0 := hide (bel1 W (.cells (cd f d a n cap out) 33))
  have HC0 := hide (HasC.new W 33 (cd f d a n cap out))
  have HLI := hide hL
  have HLn := hide hL.len
  clear hL
  by_cases h0 : vfE f d L out = 0
  · obtain ⟨hv, hlen, -, -⟩ := fd_means h0
    obtain ⟨mc, -⟩ := Vfy.vf_parts h0
    obtain ⟨-, m1, m2, o0, o1, -⟩ := Cde.mc_parts mc
    rw [HLn.out] at m1 m2 o1 hlen
    have HFo := hide (ffold_ok f d out (HLI.out.later HB0.out) h0)
    have HSa := hide fun V a1 c1 (h1 : Ins V a n cap L) (h2 : Ins V a1 n c1 (fdL f d L out)) => Cde.csame_any f d out f d (fdO f d L out) h1 h2
    obtain ⟨sb, hsb⟩ : ∃ sb, sameB f d out L f d (fdO f d L out) (fdL f d L out) = sb := ⟨_, rfl⟩
    rw [hsb] at HSa
    have HLeft : Hid (sb = false → ∀ i, i < n → ∀ m, (fdL f d L out).getD i i0 = m → ¬ (m.op = 2 ∧ 3 ≤ m.k) ∧ (∀ j, j < arN m → In1 (rgN m j) i) ∧ (0 < arN m → cnN (fdL f d L out) m (arN m) ≠ arN m)) := hide (by
      intro hs i hi m hm
      rw [hs] at hsb
      rw [known_new h0 hsb] at hm ⊢
      exact fo_left h0 (by rw [HLn.out]; exact hi) hm)
    clear hsb hv h0 mc
    generalize fdL f d L out = I at *
    generalize fdO f d L out = u at *
    go_enter Try.func5, Try.ntmps5
    go_wp2_with fail
    refine HFo.out.mono ?_
    rintro e V1 ⟨a1, c1, rfl, hO, hb⟩
    have hb2 := bel1 V1 (.cells (cd f d a1 n c1 u) 33)
    have HQ1 : Hid (Fr W (V1.alloc (.cells (cd f d a1 n c1 u) 33)) (cd f d a n cap out) (cd f d a1 n c1 u) V1.heap.size) := hide ⟨(HC0.out.below hb).below hb2, HasC.new _ _ _, bel (bel HB0.out hb) hb2⟩
    obtain ⟨a1', c1', e', hI0, -⟩ := Ins.of_owns hO
    cases e'
    have HI1 := hide (hI0.later hb2)
    clear hb hb2 HFo HC0 HB0 hO hI0
    go_wp2_with fail
    generalize V1.heap.size = bd at *
    refine (HA.out _).mono ?_
    rintro e V2 ⟨rfl, hb⟩
    have HQ2 := hide (HQ1.out.below hb)
    have HI2 := hide (HI1.out.later hb)
    clear hb HQ1 HI1
    obtain ⟨x0, x1, x2, x3⟩ := four_of HQ2.out.c
    obtain ⟨y0, y1, y2, y3⟩ := four_of HQ2.out.d
    go_wp2_with fail
    refine (HSa.out _ _ _ (HLI.out.later HQ2.out.lo) HI2.out).mono ?_
    rintro e V3 ⟨rfl, hb⟩
    have HQ3 := hide (HQ2.out.below hb)
    have HI3 := hide (HI2.out.later hb)
    clear hb HQ2 HI2 x0 x1 x2 x3 y0 y1 y2 y3 HSa
    cases sb
    · have HL2 := hide (HLeft.out rfl)
      clear HLeft
      go_wp2_with fail
      go_loopw [5] (fun i wr => ∃ k : Nat, k ≤ n ∧ i = .int .i64 k ∧ Hid (Below V3.heap.size V3 wr)) (fun i _ => n - (intOf i).toNat)
      case atStart => exact ⟨0, Nat.zero_le _, rfl, hide (Below.refl _ _)⟩
      case round =>
        obtain ⟨k, hk, rfl, HB⟩ := hrel
        rename World => V
        have HQ := hide (HQ3.out.below HB.out)
        have HI := hide (HI3.out.later HB.out)
        obtain ⟨y0, y1, y2, y3⟩ := four_of HQ.out.d
        by_cases hlt : k < n
        · obtain ⟨b, off, rfl, hgl, hat⟩ := HI.out.at (by omega)
          obtain ⟨e0, e1, e2, e3, e4, e5⟩ := hat k hlt
          obtain ⟨m, hm⟩ : ∃ m, I.getD k i0 = m := ⟨_, rfl⟩
          obtain ⟨l1, l2, l3⟩ := HL2.out k hlt m hm
          have HL1 := hide l1
          have HL2' := hide l2
          have HL3 := hide l3
          rw [hm] at e0 e1 e2 e3 e4 e5
          have i0' : (0 : Int) ≤ k := by omega
          have i1' : (k : Int) < n := by omega
          have hb1 := bel1 V (.cells (ia m) 23)
          have HBm := hide (bel HB.out hb1)
          have HNm := hide (HasC.new V 23 (ia m))
          have hz := HQ.out.d.lt
          have HAr := hide fun w => Cde.cargs_ex m w
          have hq : ((m.op == 2) && decide (3 ≤ m.k)) = false := by
            cases hx : ((m.op == 2) && decide (3 ≤ m.k))
            · rfl
            · simp at hx; exact absurd hx l1
          clear l1 l2 l3 hm hat
          by_cases hop : m.op = 2
          · have q1 : (m.op == 2) = true := by simpa using hop
            have q2 : decide (3 ≤ m.k) = false := by rw [q1, Bool.true_and] at hq; exact hq
            clear hop hq
            go_wp2_with fail
            refine (HAr.out _).mono ?_
            rintro e V5 ⟨g, rfl, hg, hG, hb⟩
            have HB5 := hide (bel HBm.out hb)
            have HG5 := hide hG
            have HQ5 := hide (HQ3.out.below HB5.out)
            have HI5 := hide (HI3.out.later HB5.out)
            have hA3 := Cde.arN_le m
            have HC0 := hide fun j => show cnN I m (j + 1) = cnN I m j + (if (rg I (rgN m j)).op = 1 then 1 else 0) from rfl
            have HCl := hide fun j => cn_le I m j
            have HRg := hide fun j (h : j < 3) => abc_rg m h
            have HC00 : Hid (cnN I m 0 = 0) := hide rfl
            clear hG hb HAr hg e0 e1 e2 e3 e4 e5 HNm HBm y0 y1 y2 y3 hz hgl
            generalize arN m = A at *
            generalize cnN I m = C at *
            go_wp2_with fail
            go_loopw [8, 9] (fun s i wr => ∃ j : Nat, j ≤ A ∧ i = .int .i64 j ∧ s = .int .i64 (C j : Nat) ∧ Hid (Below V5.heap.size V5 wr)) (fun _ i _ => A - (intOf i).toNat)
            case atStart => exact ⟨0, Nat.zero_le _, rfl, by rw [HC00.out]; rfl, hide (Below.refl _ _)⟩
            case round =>
              obtain ⟨j, hj, rfl, rfl, HBj⟩ := hrel
              rename World => V6
              by_cases hjA : j < A
              · obtain ⟨r0, r1⟩ := HL2'.out j hjA
                have hC := HC0.out j
                have hCl := HCl.out j
                have c0 := (HG5.out.below HBj.out).cell j (HRg.out j (by omega))
                obtain ⟨q, hq'⟩ : ∃ q : Nat, rgN m j = (q : Int) := ⟨(rgN m j).toNat, by omega⟩
                rw [hq'] at c0 r1
                unfold rg at hC
                rw [hq'] at hC
                rw [Int.toNat_natCast] at r1 hC
                obtain ⟨b', off', e', -, hat⟩ := (HI5.out.later HBj.out).at (by omega)
                cases e'
                obtain ⟨s0, -, -, -, -, -⟩ := hat q (by omega)
                obtain ⟨y0, y1, y2, y3⟩ := four_of (HQ5.out.below HBj.out).d
                have i2 : (0 : Int) ≤ q := by omega
                have i3 : (q : Int) < n := by omega
                have i4 : decide ((k : Int) ≤ (q : Int)) = false := by simp; omega
                have i5 : decide (k ≤ q) = false := by simp; omega
                have i6 : (0 : Int) ≤ j := by omega
                have i7 : (j : Int) < A := by omega
                have i8 : decide ((q : Int) < 0) = false := by simp
                generalize I.getD q i0 = z at *
                have HC1 := hide hC
                clear hat r0 r1 hq' hC
                go_wp2_with fail
                have j2 := cell_regrown y2
                have t0 := cell_regrown c0
                have t1 := cell_regrown s0
                refine wp_region_quiet_below mixedF (by kernel_rfl) ?_
                repeat (go_big_quiet_step (fail))
                refine wpQuiet_nil ?_
                intro V7 hw'
                obtain ⟨⟨dq, osq⟩, hw''⟩ := hw'
                have hb := below_regrown V6 dq osq
                simp only at hw''
                rw [← hw''] at hb
                have HB7 := hide (bel HBj.out hb)
                clear hw'' hb j2 t0 t1 c0 s0 y0 y1 y2 y3
                by_cases hz1 : z.op = 1
                · have p1 : (z.op == 1) = true := by simpa using hz1
                  have hC := HC1.out
                  rw [if_pos hz1] at hC
                  have HC2 := hide hC
                  clear hC hz1 HC1
                  generalize C j = cj at *
                  go_wp2_with fail
                  go_roundw
                  case rel => exact ⟨j + 1, by omega, by go_num, by rw [HC2.out]; go_num, HB7⟩
                  case measure => simp [intOf]; omega
                · have p1 : (z.op == 1) = false := by simpa using hz1
                  have hC := HC1.out
                  rw [if_neg hz1] at hC
                  have HC2 := hide hC
                  clear hC hz1 HC1
                  go_wp2_with fail
                  go_roundw
                  case rel => exact ⟨j + 1, by omega, by go_num, by rw [HC2.out]; rfl, HB7⟩
                  case measure => simp [intOf]; omega
              · obtain rfl : j = A := by omega
                have hl3 := HL3.out
                have hCl := HCl.out j
                by_cases hA0 : 0 < j
                · have p1 : (((C j : Nat) : Int) == (j : Int)) = false := by
                    have := hl3 hA0
                    simp; omega
                  have p2 : decide (0 < j) = true := by simpa using hA0
                  have p3 : decide ((0 : Int) < (j : Int)) = true := by simp; omega
                  have HB8 := hide (bel HB5.out HBj.out)
                  clear hl3 hA0
                  generalize C j = cj at *
                  go_wp2_with fail
                  go_roundw
                  case rel => exact ⟨k + 1, by omega, by go_num, HB8⟩
                  case measure => simp [intOf]; omega
                · obtain rfl : j = 0 := by omega
                  have HB8 := hide (bel HB5.out HBj.out)
                  clear hl3 hA0
                  go_wp2_with fail
                  go_roundw
                  case rel => exact ⟨k + 1, by omega, by go_num, HB8⟩
                  case measure => simp [intOf]; omega
          · have q1 : (m.op == 2) = false := by simpa using hop
            clear hop hq
            go_wp2_with fail
            refine (HAr.out _).mono ?_
            rintro e V5 ⟨g, rfl, hg, hG, hb⟩
            have HB5 := hide (bel HBm.out hb)
            have HG5 := hide hG
            have HQ5 := hide (HQ3.out.below HB5.out)
            have HI5 := hide (HI3.out.later HB5.out)
            have hA3 := Cde.arN_le m
            have HC0 := hide fun j => show cnN I m (j + 1) = cnN I m j + (if (rg I (rgN m j)).op = 1 then 1 else 0) from rfl
            have HCl := hide fun j => cn_le I m j
            have HRg := hide fun j (h : j < 3) => abc_rg m h
            have HC00 : Hid (cnN I m 0 = 0) := hide rfl
            clear hG hb HAr hg e0 e1 e2 e3 e4 e5 HNm HBm y0 y1 y2 y3 hz hgl
            generalize arN m = A at *
            generalize cnN I m = C at *
            go_wp2_with fail
            go_loopw [8, 9] (fun s i wr => ∃ j : Nat, j ≤ A ∧ i = .int .i64 j ∧ s = .int .i64 (C j : Nat) ∧ Hid (Below V5.heap.size V5 wr)) (fun _ i _ => A - (intOf i).toNat)
            case atStart => exact ⟨0, Nat.zero_le _, rfl, by rw [HC00.out]; rfl, hide (Below.refl _ _)⟩
            case round =>
              obtain ⟨j, hj, rfl, rfl, HBj⟩ := hrel
              rename World => V6
              by_cases hjA : j < A
              · obtain ⟨r0, r1⟩ := HL2'.out j hjA
                have hC := HC0.out j
                have hCl := HCl.out j
                have c0 := (HG5.out.below HBj.out).cell j (HRg.out j (by omega))
                obtain ⟨q, hq'⟩ : ∃ q : Nat, rgN m j = (q : Int) := ⟨(rgN m j).toNat, by omega⟩
                rw [hq'] at c0 r1
                unfold rg at hC
                rw [hq'] at hC
                rw [Int.toNat_natCast] at r1 hC
                obtain ⟨b', off', e', -, hat⟩ := (HI5.out.later HBj.out).at (by omega)
                cases e'
                obtain ⟨s0, -, -, -, -, -⟩ := hat q (by omega)
                obtain ⟨y0, y1, y2, y3⟩ := four_of (HQ5.out.below HBj.out).d
                have i2 : (0 : Int) ≤ q := by omega
                have i3 : (q : Int) < n := by omega
                have i4 : decide ((k : Int) ≤ (q : Int)) = false := by simp; omega
                have i5 : decide (k ≤ q) = false := by simp; omega
                have i6 : (0 : Int) ≤ j := by omega
                have i7 : (j : Int) < A := by omega
                have i8 : decide ((q : Int) < 0) = false := by simp
                generalize I.getD q i0 = z at *
                have HC1 := hide hC
                clear hat r0 r1 hq' hC
                go_wp2_with fail
                have j2 := cell_regrown y2
                have t0 := cell_regrown c0
                have t1 := cell_regrown s0
                refine wp_region_quiet_below mixedF (by kernel_rfl) ?_
                repeat (go_big_quiet_step (fail))
                refine wpQuiet_nil ?_
                intro V7 hw'
                obtain ⟨⟨dq, osq⟩, hw''⟩ := hw'
                have hb := below_regrown V6 dq osq
                simp only at hw''
                rw [← hw''] at hb
                have HB7 := hide (bel HBj.out hb)
                clear hw'' hb j2 t0 t1 c0 s0 y0 y1 y2 y3
                by_cases hz1 : z.op = 1
                · have p1 : (z.op == 1) = true := by simpa using hz1
                  have hC := HC1.out
                  rw [if_pos hz1] at hC
                  have HC2 := hide hC
                  clear hC hz1 HC1
                  generalize C j = cj at *
                  go_wp2_with fail
                  go_roundw
                  case rel => exact ⟨j + 1, by omega, by go_num, by rw [HC2.out]; go_num, HB7⟩
                  case measure => simp [intOf]; omega
                · have p1 : (z.op == 1) = false := by simpa using hz1
                  have hC := HC1.out
                  rw [if_neg hz1] at hC
                  have HC2 := hide hC
                  clear hC hz1 HC1
                  go_wp2_with fail
                  go_roundw
                  case rel => exact ⟨j + 1, by omega, by go_num, by rw [HC2.out]; rfl, HB7⟩
                  case measure => simp [intOf]; omega
              · obtain rfl : j = A := by omega
                have hl3 := HL3.out
                have hCl := HCl.out j
                by_cases hA0 : 0 < j
                · have p1 : (((C j : Nat) : Int) == (j : Int)) = false := by
                    have := hl3 hA0
                    simp; omega
                  have p2 : decide (0 < j) = true := by simpa using hA0
                  have p3 : decide ((0 : Int) < (j : Int)) = true := by simp; omega
                  have HB8 := hide (bel HB5.out HBj.out)
                  clear hl3 hA0
                  generalize C j = cj at *
                  go_wp2_with fail
                  go_roundw
                  case rel => exact ⟨k + 1, by omega, by go_num, HB8⟩
                  case measure => simp [intOf]; omega
                · obtain rfl : j = 0 := by omega
                  have HB8 := hide (bel HB5.out HBj.out)
                  clear hl3 hA0
                  go_wp2_with fail
                  go_roundw
                  case rel => exact ⟨k + 1, by omega, by go_num, HB8⟩
                  case measure => simp [intOf]; omega
        · obtain rfl : k = n := by omega
          go_wp2_with fail
          go_ret
          exact ⟨rfl, HQ.out.lo⟩
    · go_wp2_with fail
      refine (HA.out _).mono ?_
      rintro e V4 ⟨rfl, hb⟩
      have HQ4 := hide (HQ3.out.below hb)
      clear hb
      go_wp2_with fail
      go_ret
      exact ⟨rfl, HQ4.out.lo⟩
  · obtain ⟨er, her⟩ : ∃ er, vfE f d L out = er := ⟨_, rfl⟩
    rw [her] at h0
    have HFo := hide (ffold_no f d out (HLI.out.later HB0.out) her h0)
    have hr : (er != 0) = true := by simpa using h0
    go_enter Try.func5, Try.ntmps5
    go_wp2_with fail
    refine HFo.out.mono ?_
    rintro e V1 ⟨a1, c1, rfl, hb⟩
    have HB1 := hide (bel (bel HB0.out hb) (bel1 V1 (.cells (cd 0 0 a1 0 c1 0) 33)))
    clear hb HFo HC0 HB0
    go_wp2_with fail
    refine (HA.out _).mono ?_
    rintro e V2 ⟨rfl, hb⟩
    have HB2 := hide (bel HB1.out hb)
    clear hb
    go_wp2_with fail
    refine (HA.out _).mono ?_
    rintro e V3 ⟨rfl, hb⟩
    have HB3 := hide (bel HB2.out hb)
    clear hb
    go_wp2_with fail
    go_ret
    exact ⟨rfl, HB3.out⟩

end Go.Proofs.Fld

/-
  PackBack's walk.
-/
import Derived.Test.YtphmamhchkolkaaMM4
import Derived.Test.YtphmamhchkolkaaMN4
import Derived.Test.YtphmamhchkolkaaMCdS
import Derived.Test.YtphmamhchkolkaaMCdS3
namespace Go.Proofs.Pck
open Ytphmamhchkolkaa
open Go.RowKit Go.IntWalk Ytphmamhchkolkaa.Knd
open Ytphmamhchkolkaa.Ocm (Part joined u8s)
open Cde (In i0 ia cd is6 i6 Ins agL arN okI okT okT_at mcB mc_parts ccE below_drew four_of ccheck_any csame_any sameB)
set_option linter.unusedVariables false

/-- A code in a box, its instructions; the bytes of a code. -/
structure Pk (W V : World) (f d o : Int) (a : Option Addr) (n cap : Nat) (L : List In) : Prop where
  b : HasC V W.heap.size 26 (cd f d a n cap o)
  i : Ins V a n cap L
  lo : Below W.heap.size W V
theorem Pk.later {W V V' : World} {f d o : Int} {a : Option Addr} {n cap : Nat} {L : List In} (h : Pk W V f d o a n cap L) (hb : Below V.heap.size V V') : Pk W V' f d o a n cap L := ⟨h.b.below hb, h.i.later hb, bel h.lo hb⟩
theorem enC_byt {f d o : Int} {L : List In} (h : mcB f d L o = true) : Byts (enC f d L o) := by
  obtain ⟨⟨hf, hd1, hd2⟩, m1, m2, m3, m4, hok⟩ := mc_parts h
  unfold enC
  exact (Byts.one (by decide) (by decide)).app ((Byts.one (by omega) (by omega)).app ((Byts.one (by omega) (by omega)).app ((Byts.vint (by omega) (by omega)).app ((enS_byt hok m2 _ (Nat.le_refl _)).app (Byts.vint (by omega) (by omega))))))

set_option maxRecDepth 100000 in
set_option maxHeartbeats 4000000 in
theorem pback_walk (f d o : Int) {a : Option Addr} {n cap : Nat} {L : List In} {W : World} (hL : Ins W a n cap L) :
    Calls Try.prog 5 #[.agg (cd f d a n cap o)] W fun e W' => e = .returned (.bool true) ∧ Below W.heap.size W W' := by
  have hb0 := bel1 W (.cells (cd f d a n cap o) 26)
  have HP0 : Hid (Pk W (W.alloc (.cells (cd f d a n cap o) 26)) f d o a n cap L) := hide ⟨HasC.new _ _ _, hL.later hb0, hb0⟩
  have HE := hide (encode_any f d o HP0.out.i)
  have HA := hide fun V => pawake_any V
  have HLn := hide hL.len
  have HCk := hide fun (V : World) (h : Pk W V f d o a n cap L) => ccheck_any f d o h.i
  clear hL hb0
  by_cases hm : mcB f d L o = true
  · rw [show enR f d L o = (0, enC f d L o) from if_pos hm] at HE
    rw [show ccE f d L o = 0 from if_pos hm] at HCk
    have hlen := enC_len hm
    have HBy := hide (enC_byt hm)
    have HDb := hide (de_back hm)
    have HSm := hide fun (V : World) (a2 : Option Addr) (n2 c2 : Nat) (h : Pk W V f d o a n cap L) (h2 : Ins V a2 n2 c2 L) => csame_any f d o f d o h.i h2
    rw [Cde.sameB_self] at HSm
    obtain ⟨Z, hZ⟩ : ∃ Z, enC f d L o = Z := ⟨_, rfl⟩
    rw [hZ] at HE hlen HBy HDb
    obtain ⟨z, hz⟩ : ∃ z, Z.length = z := ⟨_, rfl⟩
    rw [hz] at hlen
    obtain ⟨l1, l2⟩ := hlen
    have j1 : (z : Int) ≤ 4096 := by omega
    have j2 : (5 : Int) < z := by omega
    have j3 : 5 < z := by omega
    have HZl := hide hz
    unfold EnP at HE
    dsimp only at HE
    rw [hz] at HE
    clear hm hZ hz
    go_enter Try.func5, Try.ntmps5
    go_wp2_with fail
    refine HE.out.mono ?_
    rintro e V1 ⟨x, c1, rfl, hO, hb⟩
    obtain ⟨a', c', ea, hY, -⟩ := byt_own hO HBy.out
    cases ea
    have HP1 := hide (HP0.out.later hb)
    have HY1 := hide hY
    clear hO hY hb HE HP0
    go_wp2_with fail
    refine (HA.out _).mono ?_
    rintro e V2 ⟨rfl, hb⟩
    have HP2 := hide (HP1.out.later hb)
    have HY2 := hide (HY1.out.later hb)
    have HD := hide (decode_any HY2.out)
    rw [HDb.out] at HD
    clear hb HP1 HY1
    go_wp2_with fail
    refine HD.out.mono ?_
    rintro e V3 ⟨a3, n3, c3, rfl, hO, hb⟩
    dsimp only at hO ⊢
    obtain ⟨a', c', ea, hI, -⟩ := Ins.of_owns hO
    cases ea
    have hb4 := bel1 V3 (.cells (cd f d a3 n3 c3 o) 26)
    have HP4 := hide ((HP2.out.later hb).later hb4)
    have HC4 := hide (HasC.new V3 26 (cd f d a3 n3 c3 o))
    have HI4 := hide (hI.later hb4)
    obtain ⟨q0, q1, q2, q3⟩ := four_of HP4.out.b
    clear hb hb4 hO hI HD HP2 HY2
    go_wp2_with fail
    refine (HCk.out _ HP4.out).mono ?_
    rintro e V5 ⟨rfl, hb⟩
    have HP5 := hide (HP4.out.later hb)
    have HC5 := hide (HC4.out.below hb)
    have HI5 := hide (HI4.out.later hb)
    obtain ⟨r0, r1, r2, r3⟩ := four_of HP5.out.b
    obtain ⟨s0, s1, s2, s3⟩ := four_of HC5.out
    clear hb HP4 HC4 HI4 q0 q1 q2 q3 HCk
    go_wp2_with fail
    refine (HSm.out _ _ _ _ HP5.out HI5.out).mono ?_
    rintro e V6 ⟨rfl, hb⟩
    have HB := hide (bel HP5.out.lo hb)
    clear hb HP5 HC5 HI5 r0 r1 r2 r3 s0 s1 s2 s3
    go_wp2_with fail
    go_ret
    exact ⟨rfl, HB.out⟩
  · rw [show enR f d L o = (15, []) from if_neg hm] at HE
    rw [show ccE f d L o = 15 from if_neg hm] at HCk
    clear hm
    go_enter Try.func5, Try.ntmps5
    go_wp2_with fail
    refine HE.out.mono ?_
    rintro e V1 ⟨x, c1, rfl, -, hb⟩
    dsimp only [List.length_nil]
    have HP1 := hide (HP0.out.later hb)
    clear hb HE HP0
    go_wp2_with fail
    refine (HA.out _).mono ?_
    rintro e V2 ⟨rfl, hb⟩
    have HP2 := hide (HP1.out.later hb)
    clear hb HP1
    go_wp2_with fail
    refine (HA.out _).mono ?_
    rintro e V3 ⟨rfl, hb⟩
    have HP3 := hide (HP2.out.later hb)
    obtain ⟨q0, q1, q2, q3⟩ := four_of HP3.out.b
    clear hb HP2
    go_wp2_with fail
    refine (HCk.out _ HP3.out).mono ?_
    rintro e V4 ⟨rfl, hb⟩
    have HB := hide (bel HP3.out.lo hb)
    clear hb HP3 q0 q1 q2 q3
    go_wp2_with fail
    go_ret
    exact ⟨rfl, HB.out⟩

end Go.Proofs.Pck

/-
  PackOne's walk.
-/
import Derived.Test.YtphmamhchkolkaaMPbW
namespace Go.Proofs.Pck
open Ytphmamhchkolkaa
open Go.RowKit Go.IntWalk Ytphmamhchkolkaa.Knd
open Ytphmamhchkolkaa.Ocm (Part joined u8s)
open Cde (In i0 ia cd is6 i6 Ins agL arN okI okT okT_at mcB mc_parts ccE below_drew four_of ccheck_any csame_any sameB)
set_option linter.unusedVariables false

set_option maxRecDepth 100000 in
set_option maxHeartbeats 4000000 in
theorem pone_walk {a : Option Addr} {n c : Nat} {zs : List Int} {W : World} (h : Ocm.Bytes W a n c zs) :
    Calls Try.prog 6 #[.slice a n c] W fun e W' => e = .returned (.bool true) ∧ Below W.heap.size W W' := by
  have HD := hide (decode_any h)
  have HA := hide fun V => pawake_any V
  have HZ := hide h
  have hby : Byts zs := h.byte
  by_cases he : (deC zs).1 = 0
  · obtain ⟨⟨f, d, L, o⟩, hR⟩ : ∃ R, deC zs = (0, R) := ⟨(deC zs).2, by rw [← he]⟩
    obtain ⟨hz, hm⟩ := de_one hby hR
    dsimp only at hz hm
    rw [hR] at HD
    have HEn : Hid (enR f d L o = (0, zs)) := hide (by rw [hz]; exact if_pos hm)
    have HBy := hide hby
    have HEc := hide fun (V : World) (a2 : Option Addr) (n2 c2 : Nat) (h2 : Ins V a2 n2 c2 L) => encode_any f d o h2
    rw [HEn.out] at HEc
    have HL := hide h.len
    unfold EnP at HEc
    dsimp only at HEc
    rw [HL.out] at HEc
    clear he hR hz hm h hby
    go_enter Try.func6, Try.ntmps6
    go_wp2_with fail
    refine HD.out.mono ?_
    rintro e V1 ⟨a3, n3, c3, rfl, hO, hb⟩
    dsimp only at hO ⊢
    have hb2 := bel1 V1 (.cells (cd f d a3 n3 c3 o) 26)
    have HC2 := hide (HasC.new V1 26 (cd f d a3 n3 c3 o))
    have HO2 := hide (Cde.own_later hO hb2)
    have HB2 := hide (bel hb hb2)
    clear hO hb hb2 HD
    go_wp2_with fail
    refine (HA.out _).mono ?_
    rintro e V3 ⟨rfl, hb⟩
    have HC3 := hide (HC2.out.below hb)
    have HO3 := hide (Cde.own_later HO2.out hb)
    have HB3 := hide (bel HB2.out hb)
    obtain ⟨q0, q1, q2, q3⟩ := four_of HC3.out
    obtain ⟨a', c', ea, hI, -⟩ := Ins.of_owns HO3.out
    cases ea
    have HE3 := hide (HEc.out _ _ _ _ hI)
    clear hb HC2 HO2 HB2 hI HEc
    go_wp2_with fail
    refine HE3.out.mono ?_
    rintro e V4 ⟨x, c4, rfl, hO, hb⟩
    obtain ⟨a', c', ea, hY, -⟩ := byt_own hO HBy.out
    cases ea
    have HB4 := hide (bel HB3.out hb)
    have HS := hide (bsame_self hY (HZ.out.later HB4.out))
    clear hO hY hb HE3 q0 q1 q2 q3 HC3 HO3 HB3
    go_wp2_with fail
    refine HS.out.mono ?_
    rintro e V5 ⟨rfl, hb⟩
    have HB5 := hide (bel HB4.out hb)
    clear hb HS
    go_wp2_with fail
    go_ret
    exact ⟨rfl, HB5.out⟩
  · have hc := de_zero he
    obtain ⟨er, hR⟩ : ∃ er, deC zs = (er, c0) := ⟨(deC zs).1, by rw [← hc]⟩
    rw [hR] at he HD
    have j1 : (er != 0) = true := by simpa using he
    clear he hc hR h hby
    go_enter Try.func6, Try.ntmps6
    go_wp2_with fail
    refine HD.out.mono ?_
    rintro e V1 ⟨a3, n3, c3, rfl, hO, hb⟩
    have hn0 : n3 = 0 := by have := hO.1; simp [c0, is6] at this; omega
    subst hn0
    dsimp only [c0] at hO ⊢
    have hb2 := bel1 V1 (.cells (cd 0 0 a3 0 c3 0) 26)
    have HC2 := hide (HasC.new V1 26 (cd 0 0 a3 0 c3 0))
    have HB2 := hide (bel hb hb2)
    clear hO hb hb2 HD
    go_wp2_with fail
    refine (HA.out _).mono ?_
    rintro e V3 ⟨rfl, hb⟩
    have HC3 := hide (HC2.out.below hb)
    have HB3 := hide (bel HB2.out hb)
    clear hb HC2 HB2
    go_wp2_with fail
    refine (HA.out _).mono ?_
    rintro e V4 ⟨rfl, hb⟩
    obtain ⟨q0, q1, q2, q3⟩ := four_of (HC3.out.below hb)
    have HB4 := hide (bel HB3.out hb)
    clear hb HC3 HB3
    go_wp2_with fail
    go_ret
    exact ⟨rfl, HB4.out⟩

end Go.Proofs.Pck

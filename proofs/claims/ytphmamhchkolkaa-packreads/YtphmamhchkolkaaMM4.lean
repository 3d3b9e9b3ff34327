/-
  awake of the statements; bytes compared.
-/
import Derived.Test.YtphmamhchkolkaaMM3
import Derived.Test.YtphmamhchkolkaaMCdOpenC
namespace Go.Proofs.Pck
open Ytphmamhchkolkaa
open Go.RowKit Go.IntWalk Ytphmamhchkolkaa.Knd
open Ytphmamhchkolkaa.Ocm (Part joined u8s)
open Cde (In i0 ia cd is6 i6 Ins agL arN okI okT okT_at mcB mc_parts ccE below_drew)
set_option linter.unusedVariables false

theorem bsame_any {a1 a2 : Option Addr} {n1 n2 c1 c2 : Nat} {z1 z2 : List Int} {w : World} (h1 : Ocm.Bytes w a1 n1 c1 z1) (h2 : Ocm.Bytes w a2 n2 c2 z2) :
    Calls Try.prog 12 #[.slice a1 n1 c1, .slice a2 n2 c2] w fun e w' => e = .returned (.bool (decide (z1 = z2))) ∧ Below w.heap.size w w' :=
  (Ocm.same_any a1 a2 n1 n2 c1 c2 z1 z2 w h1 h2).mono fun e w' ⟨he, q, hq⟩ => ⟨he, hq ▸ Cde.below_dN w q⟩
theorem bsame_self {a1 a2 : Option Addr} {n1 n2 c1 c2 : Nat} {z : List Int} {w : World} (h1 : Ocm.Bytes w a1 n1 c1 z) (h2 : Ocm.Bytes w a2 n2 c2 z) :
    Calls Try.prog 12 #[.slice a1 n1 c1, .slice a2 n2 c2] w fun e w' => e = .returned (.bool true) ∧ Below w.heap.size w w' := by
  have h := bsame_any h1 h2
  simpa using h
theorem bytes_has {W : World} {g : Nat} {zs : List Int} (h : HasC W g 5 (u8s zs).toArray) (hz : Byts zs) (hl : zs.length ≤ 1024) : Ocm.Bytes W (some ⟨g, 0, none⟩) zs.length zs.length zs := by
  have ho : W.ownsRow 0 5 1 (.slice (some ⟨g, 0, none⟩) zs.length zs.length) zs.length (u8s zs) :=
    ⟨by simp, .inr ⟨g, zs.length, (u8s zs).toArray, rfl, Nat.zero_le _, h, Nat.le_refl _, by unfold maxLen; omega, by simp, by
      rw [List.toList_toArray, List.take_of_length_le (by simp)]⟩⟩
  obtain ⟨a, c, e, hB, -⟩ := byt_own ho hz
  cases e
  exact hB
theorem ret_b {a b : Bool} (h : a = b) : Ending.returned (.bool a) = .returned (.bool b) := by rw [h]

def awL : List In := [⟨3, 0, 0, 0, 16, 0⟩, ⟨1, 0, 0, 0, -2, 0⟩, ⟨10, 0, 1, 0, 0, 0⟩]
def awB : List Int := [1, 0, 8, 3, 3, 16, 1, 3, 10, 1, 0, 0]
theorem aw_en : enR 0 8 awL 2 = (0, awB) := by decide +kernel
theorem aw_byt : Byts awB := by unfold Byts awB; decide

set_option maxRecDepth 100000 in
set_option maxHeartbeats 4000000 in
theorem pawake_any (W : World) : Calls Try.prog 11 #[] W fun e w' => e = .returned (.bool true) ∧ Below W.heap.size W w' := by
  have HI := hide (Cde.has_ins (L := awL) (HasC.new W 51 (Cde.is6 awL).toArray) (by decide))
  have HB0 := hide (bel1 W (.cells (Cde.is6 awL).toArray 51))
  have HE := hide (encode_any 0 8 2 HI.out)
  rw [aw_en] at HE
  go_enter Try.func11, Try.ntmps11
  go_wp2_with fail
  refine HE.out.mono ?_
  rintro e V1 ⟨a, c, rfl, hO, hb⟩
  obtain ⟨a', c', ea, hY, -⟩ := byt_own hO aw_byt
  cases ea
  have HB1 := hide (bel HB0.out hb)
  have HS := hide (bsame_self (hY.later (bel1 V1 (.cells (u8s awB).toArray 5))) (bytes_has (HasC.new V1 5 (u8s awB).toArray) aw_byt (by decide)))
  have HB2 := hide (bel HB1.out (bel1 V1 (.cells (u8s awB).toArray 5)))
  clear hO hY hb HE HI HB0
  go_wp2_with fail
  refine HS.out.mono ?_
  rintro e V2 ⟨rfl, hb⟩
  have HB3 := hide (bel HB2.out hb)
  clear hb HS
  go_wp2_with fail
  go_ret
  exact ⟨rfl, HB3.out⟩

end Go.Proofs.Pck

/-
  strings.Clone: the same bytes; memory that was there stays.
-/
import Derived.Test.YtodgjjkpbcadoaaDoorLow25
import Derived.Shelf.Pu.Clone
namespace Go.Proofs.YtodgjjkpbcadoaaDoor
open Go.RowKit Go.IntWalk Lx
set_option linter.unusedVariables false

/-- The numbers of the library's own text, in this program. -/
def numb : Go.Shelf.Ren := ⟨fun n => if n = 25 then 63 else n, fun n => if n = 37 then 39 else if n = 47 then 63 else n, fun n => n⟩

theorem lays : LaysPu.n25 Tryd.prog numb where
  mixed := by kernel_rfl
  f25 := by kernel_rfl
  t0 := Tryd.underlying0
  a0 := Tryd.isAgg0
  z0 := Tryd.sizeOf0
  v0 := Tryd.zeroValue0
  i0 := by kernel_rfl
  t3 := Tryd.underlying3
  a3 := Tryd.isAgg3
  z3 := Tryd.sizeOf3
  v3 := Tryd.zeroValue3
  i3 := by kernel_rfl
  t4 := Tryd.underlying4
  a4 := Tryd.isAgg4
  z4 := Tryd.sizeOf4
  v4 := Tryd.zeroValue4
  i4 := by kernel_rfl
  t5 := Tryd.underlying5
  a5 := Tryd.isAgg5
  z5 := Tryd.sizeOf5
  v5 := Tryd.zeroValue5
  i5 := by kernel_rfl
  t9 := Tryd.underlying9
  a9 := Tryd.isAgg9
  z9 := Tryd.sizeOf9
  v9 := Tryd.zeroValue9
  i9 := by kernel_rfl
  t37 := Tryd.underlying39
  a37 := Tryd.isAgg39
  z37 := Tryd.sizeOf39
  v37 := Tryd.zeroValue39
  i37 := by kernel_rfl
  t47 := Tryd.underlying63
  a47 := Tryd.isAgg63
  z47 := Tryd.sizeOf63
  v47 := Tryd.zeroValue63
  i47 := by kernel_rfl

theorem iclone_any (s : ByteArray) (w : World) (hlim : s.size ≤ 281474976710656) :
    Calls Tryd.prog 63 #[.string s] w fun e w' => e = .returned (.string s) ∧ Below w.heap.size w w' := AnyPu.stringslite_Clone lays s w hlim

theorem clone_any (s : ByteArray) (w : World) (hlim : s.size ≤ 281474976710656) :
    Calls Tryd.prog 49 #[.string s] w fun e w' => e = .returned (.string s) ∧ Below w.heap.size w w' := by
  have hl := hide hlim
  clear hlim
  go_enter Tryd.func49, Tryd.ntmps49
  go_wp2_with fail
  refine (iclone_any _ _ hl.out).mono ?_
  rintro e w' ⟨rfl, hb⟩
  have HB := hide hb
  clear hb
  go_wp2_with fail
  go_ret
  exact ⟨rfl, HB.out⟩

set_option maxHeartbeats 1000000 in
theorem longest_any (s : ByteArray) (w : World) (h0 : 0 < s.size) (hs : s.size ≤ maxLen) :
    Calls Tryd.prog 48 #[.string s] w fun e w' => e = .returned (.tuple #[.int .i64 (kd (bs s)), .int .i64 (sz (bs s))]) ∧ w' = w := by
  have hs' := hide hs
  have h0' := hide h0
  unfold maxLen at hs
  have hD : D ((bs s).headD 0) = dg s[0].toNat := by rw [bs_head h0]; rfl
  have hA : A ((bs s).headD 0) = lt s[0].toNat := by rw [bs_head h0]; rfl
  have HD := fun w => hide (digit_any s[0].toNat w)
  have HA := fun w => hide (letter_any s[0].toNat w)
  cases h1 : dg s[0].toNat with
  | true =>
    rw [show kd (bs s) = 1 by unfold kd; rw [hD, h1]; rfl, show sz (bs s) = rn D (bs s) by unfold sz; rw [hD, h1]; rfl]
    rw [h1] at HD
    clear hD hA HA h1
    go_enter Tryd.func48, Tryd.ntmps48
    go_wp2_with fail
    refine (HD _).out.mono ?_
    rintro e w' ⟨rfl, rfl⟩
    go_wp2_with fail
    refine (run_digit _ _ hs'.out).mono ?_
    rintro e w' ⟨rfl, rfl⟩
    go_wp2_with fail
    go_ret2
    exact ⟨rfl, rfl⟩
  | false =>
    rw [h1] at HD
    cases h2 : lt s[0].toNat with
    | true =>
      rw [show kd (bs s) = 2 by unfold kd; rw [hD, h1, hA, h2]; rfl, show sz (bs s) = rn W (bs s) by unfold sz; rw [hD, h1, hA, h2]; rfl]
      rw [h2] at HA
      clear hD hA h1 h2
      go_enter Tryd.func48, Tryd.ntmps48
      go_wp2_with fail
      refine (HD _).out.mono ?_
      rintro e w' ⟨rfl, rfl⟩
      go_wp2_with fail
      refine (HA _).out.mono ?_
      rintro e w' ⟨rfl, rfl⟩
      go_wp2_with fail
      refine (run_within _ _ hs'.out).mono ?_
      rintro e w' ⟨rfl, rfl⟩
      go_wp2_with fail
      go_ret2
      exact ⟨rfl, rfl⟩
    | false =>
      rw [show kd (bs s) = 3 by unfold kd; rw [hD, h1, hA, h2]; rfl, show sz (bs s) = mk (bs s) by unfold sz; rw [hD, h1, hA, h2]; rfl]
      rw [h2] at HA
      clear hD hA h1 h2
      go_enter Tryd.func48, Tryd.ntmps48
      go_wp2_with fail
      refine (HD _).out.mono ?_
      rintro e w' ⟨rfl, rfl⟩
      go_wp2_with fail
      refine (HA _).out.mono ?_
      rintro e w' ⟨rfl, rfl⟩
      go_wp2_with fail
      refine (mark_any _ _ h0'.out hs'.out).mono ?_
      rintro e w' ⟨rfl, rfl⟩
      go_wp2_with fail
      go_ret2
      exact ⟨rfl, rfl⟩

end Go.Proofs.YtodgjjkpbcadoaaDoor

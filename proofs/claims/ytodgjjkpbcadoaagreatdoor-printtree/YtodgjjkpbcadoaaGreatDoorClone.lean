/-
  strings.Clone: the same bytes; memory that was there stays.
-/
import Derived.Test.YtodgjjkpbcadoaaGreatDoorLow25
import Derived.Shelf.Pu.Clone
namespace Go.Proofs.YtodgjjkpbcadoaaGreatDoor
open Go.RowKit Go.IntWalk Lx
set_option linter.unusedVariables false

/-- The numbers of the library's own text, in this program. -/
def numb : Go.Shelf.Ren := ⟨fun n => if n = 25 then 82 else n, fun n => if n = 37 then 42 else if n = 47 then 60 else n, fun n => n⟩

theorem lays : LaysPu.n25 Tryz.prog numb where
  mixed := by kernel_rfl
  f25 := by kernel_rfl
  t0 := Tryz.underlying0
  a0 := Tryz.isAgg0
  z0 := Tryz.sizeOf0
  v0 := Tryz.zeroValue0
  i0 := by kernel_rfl
  t3 := Tryz.underlying3
  a3 := Tryz.isAgg3
  z3 := Tryz.sizeOf3
  v3 := Tryz.zeroValue3
  i3 := by kernel_rfl
  t4 := Tryz.underlying4
  a4 := Tryz.isAgg4
  z4 := Tryz.sizeOf4
  v4 := Tryz.zeroValue4
  i4 := by kernel_rfl
  t5 := Tryz.underlying5
  a5 := Tryz.isAgg5
  z5 := Tryz.sizeOf5
  v5 := Tryz.zeroValue5
  i5 := by kernel_rfl
  t9 := Tryz.underlying9
  a9 := Tryz.isAgg9
  z9 := Tryz.sizeOf9
  v9 := Tryz.zeroValue9
  i9 := by kernel_rfl
  t37 := Tryz.underlying42
  a37 := Tryz.isAgg42
  z37 := Tryz.sizeOf42
  v37 := Tryz.zeroValue42
  i37 := by kernel_rfl
  t47 := Tryz.underlying60
  a47 := Tryz.isAgg60
  z47 := Tryz.sizeOf60
  v47 := Tryz.zeroValue60
  i47 := by kernel_rfl

theorem iclone_any (s : ByteArray) (w : World) (hlim : s.size ≤ 281474976710656) :
    Calls Tryz.prog 82 #[.string s] w fun e w' => e = .returned (.string s) ∧ Below w.heap.size w w' := AnyPu.stringslite_Clone lays s w hlim

theorem clone_any (s : ByteArray) (w : World) (hlim : s.size ≤ 281474976710656) :
    Calls Tryz.prog 69 #[.string s] w fun e w' => e = .returned (.string s) ∧ Below w.heap.size w w' := by
  have hl := hide hlim
  clear hlim
  go_enter Tryz.func69, Tryz.ntmps69
  go_wp2_with fail
  refine (iclone_any _ _ hl.out).mono ?_
  rintro e w' ⟨rfl, hb⟩
  have HB := hide hb
  clear hb
  go_wp2_with fail
  go_ret
  exact ⟨rfl, HB.out⟩

set_option maxHeartbeats 1000000 in
theorem longest_any (s : ByteArray) (w : World) (h0 : 0 < s.size) (hs : s.size ≤ maxLen) :
    Calls Tryz.prog 68 #[.string s] w fun e w' => e = .returned (.tuple #[.int .i64 (kd (bs s)), .int .i64 (sz (bs s))]) ∧ w' = w := by
  have hs' := hide hs
  have h0' := hide h0
  unfold maxLen at hs
  have hD : D ((bs s).headD 0) = dg s[0].toNat := by rw [bs_head h0]; rfl
  have hA : A ((bs s).headD 0) = lt s[0].toNat := by rw [bs_head h0]; rfl
  have HD := fun w => hide (digit_any s[0].toNat w)
  have HA := fun w => hide (letter_any s[0].toNat w)
  cases h1 : dg s[0].toNat with
  | true =>
    rw [show kd (bs s) = 1 by unfold kd; rw [hD, h1]; rfl, show sz (bs s) = rn D (bs s) by unfold sz; rw [hD, h1]; rfl]
    rw [h1] at HD
    clear hD hA HA h1
    go_enter Tryz.func68, Tryz.ntmps68
    go_wp2_with fail
    refine (HD _).out.mono ?_
    rintro e w' ⟨rfl, rfl⟩
    go_wp2_with fail
    refine (run_digit _ _ hs'.out).mono ?_
    rintro e w' ⟨rfl, rfl⟩
    go_wp2_with fail
    go_ret2
    exact ⟨rfl, rfl⟩
  | false =>
    rw [h1] at HD
    cases h2 : lt s[0].toNat with
    | true =>
      rw [show kd (bs s) = 2 by unfold kd; rw [hD, h1, hA, h2]; rfl, show sz (bs s) = rn W (bs s) by unfold sz; rw [hD, h1, hA, h2]; rfl]
      rw [h2] at HA
      clear hD hA h1 h2
      go_enter Tryz.func68, Tryz.ntmps68
      go_wp2_with fail
      refine (HD _).out.mono ?_
      rintro e w' ⟨rfl, rfl⟩
      go_wp2_with fail
      refine (HA _).out.mono ?_
      rintro e w' ⟨rfl, rfl⟩
      go_wp2_with fail
      refine (run_within _ _ hs'.out).mono ?_
      rintro e w' ⟨rfl, rfl⟩
      go_wp2_with fail
      go_ret2
      exact ⟨rfl, rfl⟩
    | false =>
      rw [show kd (bs s) = 3 by unfold kd; rw [hD, h1, hA, h2]; rfl, show sz (bs s) = mk (bs s) by unfold sz; rw [hD, h1, hA, h2]; rfl]
      rw [h2] at HA
      clear hD hA h1 h2
      go_enter Tryz.func68, Tryz.ntmps68
      go_wp2_with fail
      refine (HD _).out.mono ?_
      rintro e w' ⟨rfl, rfl⟩
      go_wp2_with fail
      refine (HA _).out.mono ?_
      rintro e w' ⟨rfl, rfl⟩
      go_wp2_with fail
      refine (mark_any _ _ h0'.out hs'.out).mono ?_
      rintro e w' ⟨rfl, rfl⟩
      go_wp2_with fail
      go_ret2
      exact ⟨rfl, rfl⟩

end Go.Proofs.YtodgjjkpbcadoaaGreatDoor

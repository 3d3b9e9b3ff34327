/-
  The walks of a reader's Byte and Bytes.
-/
import Derived.Test.YtphmamhchkolkaaMOcZ
namespace Go.Proofs.Ytphmamhchkolkaa.Ocm
open Go.RowKit Oct
set_option linter.unusedVariables false

set_option maxRecDepth 100000 in
set_option maxHeartbeats 1000000 in
theorem rByte_none (r g : Nat) (w : World) (hR : Rd w r g []) :
    Calls Try.prog 56 #[.pointer (some ⟨r, 0, none⟩)] w fun e w' => e = .returned (.tuple #[.int .i64 0, .int .i64 2]) ∧ w' = w := by
  obtain ⟨a, n, c, hr, hb, ha, hne, hlt⟩ := hR.open
  have hcell := cell_of_one hr
  have hl := hb.len
  simp at hl
  subst hl
  clear hb hr ha
  go_enter Try.func56, Try.ntmps56
  go_wp2_with fail
  go_ret2
  exact ⟨rfl, rfl⟩

set_option maxRecDepth 100000 in
set_option maxHeartbeats 1000000 in
theorem rByte_some (r g : Nat) (y : Int) (zs : List Int) (w : World) (hR : Rd w r g (y :: zs)) :
    Calls Try.prog 56 #[.pointer (some ⟨r, 0, none⟩)] w fun e w' => e = .returned (.tuple #[.int .i64 y, .int .i64 0]) ∧ Rd w' r g zs ∧ w.grownBy w' (some r) := by
  obtain ⟨a, n, c, hr, hb, ha, hne, hlt⟩ := hR.open
  have hcell := cell_of_one hr
  have hfree := free_of_one hr
  have hle := hb.le
  have hmx : c ≤ 9223372036854775807 := by have := hb.max; unfold maxLen at this; omega
  have hl := hb.len
  simp at hl
  obtain ⟨hy0, hy1⟩ := hb.byte y (by simp)
  obtain ⟨b, off, rfl, _, hc⟩ := hb.at (by omega)
  have hbg : b = g := ha _ rfl
  subst hbg
  have g0 := hc 0 (by omega)
  simp at g0
  have HB : Hid (Bytes w (some ⟨b, off, none⟩) n c (y :: zs)) := hb
  have HR : Hid (w.heap[r]? = some (.cells #[.slice (some ⟨b, off, none⟩) n c] 85 (0, 0))) := hr
  have hn1 : 1 ≤ n := by omega
  have hn0 : ((n : Int) == 0) = false := by simp; omega
  clear hb hr ha hc hl
  go_enter Try.func56, Try.ntmps56
  go_wp2_with fail
  all_goals go_ret2
  · exact ⟨rfl, rd_moved (m := 1) HR.out HB.out hne hlt (by omega) (by omega) (by omega) (.inl (by omega))⟩
  · exact ⟨rfl, rd_moved (m := 1) HR.out HB.out hne hlt (by omega) (by omega) (by omega) (.inr rfl)⟩

end Go.Proofs.Ytphmamhchkolkaa.Ocm

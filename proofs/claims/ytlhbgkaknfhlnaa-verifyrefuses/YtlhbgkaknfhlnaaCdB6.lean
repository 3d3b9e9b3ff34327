/-
  code.Cost; seven and awake of the statements.
-/
import Derived.Test.YtlhbgkaknfhlnaaCdB5
import Derived.Deep.RegionWith
namespace Go.Proofs.Cde
open Ytlhbgkaknfhlnaa (Wd wdA Fits inpV fitE_cases)
open Go.RowKit Go.IntWalk Ytlhbgkaknfhlnaa.Knd
set_option linter.unusedVariables false

def coL (L : List In) : Int := L.foldl (fun s n => s + coZ n.op) 0
theorem coL_snoc (L : List In) (n : In) : coL (L ++ [n]) = coL L + coZ n.op := by simp [coL]
theorem coL_le (L : List In) : ∀ k, k ≤ L.length → 0 ≤ coL (L.take k) ∧ coL (L.take k) ≤ 6 * k
  | 0, _ => by simp [coL]
  | k + 1, h => by
    have ih := coL_le L k (by omega)
    rw [take_snoc i0 (by omega), coL_snoc]
    have := coZ_le (L.getD k i0).op
    omega

set_option maxRecDepth 100000 in
set_option maxHeartbeats 4000000 in
theorem ccost_any (f d out : Int) {a : Option Addr} {n cap : Nat} {L : List In} {W : World} (hL : Ins W a n cap L) (hn : n ≤ 1000000000000000) :
    Calls Try.prog 15 #[.agg (cd f d a n cap out)] W fun e W' => e = .returned (.int .i64 (coL L)) ∧ Below W.heap.size W W' := by
  have HB0 := hide (bel1 W (.cells (cd f d a n cap out) 26))
  have HLI := hide hL
  have HLn := hide hL.len
  clear hL
  go_enter Try.func15, Try.ntmps15
  go_wp2_with fail
  go_loopw [3, 9] (fun s i wr => ∃ (k : Nat) (c : Int), k ≤ n ∧ i = .int .i64 k ∧ s = .int .i64 c ∧ 0 ≤ c ∧ c ≤ 6 * k ∧ Hid (c = coL (L.take k)) ∧ Hid (Below W.heap.size W wr)) (fun _ i _ => n - (intOf i).toNat)
  case atStart => exact ⟨0, 0, Nat.zero_le _, rfl, rfl, Int.le_refl _, Int.le_refl _, hide rfl, HB0⟩
  case round =>
    obtain ⟨k, c, hk, rfl, rfl, hc0, hc6, HC, HB⟩ := hrel
    rename World => V
    clear HB0
    by_cases hlt : k < n
    · obtain ⟨g, off, rfl, -, hat⟩ := (HLI.out.later HB.out).at (by omega)
      obtain ⟨e0, e1, e2, e3, e4, e5⟩ := hat k hlt
      clear hat
      have hi0 : (0 : Int) ≤ k := by omega
      have hi1 : (k : Int) < n := by omega
      have HC2 := hide (show c + coZ (L.getD k i0).op = coL (L.take (k + 1)) by rw [take_snoc i0 (by rw [HLn.out]; exact hlt), coL_snoc, HC.out])
      generalize L.getD k i0 = m at *
      have HCo := hide fun w => cost_any m.op w
      obtain ⟨z0, z1⟩ := coZ_le m.op
      generalize coZ m.op = z at *
      have HB2 := hide (bel HB.out (bel1 V (.cells (ia m) 47)))
      go_wp2_with (go_at_call 24; refine (HCo.out _).mono ?_; rintro e w' ⟨rfl, rfl⟩)
      go_roundw
      case rel => exact ⟨k + 1, c + z, by omega, by go_num, rfl, by omega, by omega, HC2, HB2⟩
      case measure => simp [intOf]; omega
    · obtain rfl : k = n := by omega
      have hC := HC.out
      rw [List.take_of_length_le (by rw [HLn.out]; exact Nat.le_refl _)] at hC
      have HC2 := hide hC
      clear hC
      go_wp2_with fail
      go_ret
      exact ⟨ret_int HC2.out, HB.out⟩

theorem has_ins {W : World} {g : Nat} {L : List In} (h : HasC W g 47 (is6 L).toArray) (hl : L.length ≤ 1024) : Ins W (some ⟨g, 0, none⟩) L.length L.length L := by
  refine ⟨rfl, Nat.le_refl _, by unfold maxLen; omega, (fun h => by cases h), .inr ⟨g, 0, rfl, h.lt, fun i hi j v hv => ?_⟩⟩
  rw [Nat.add_assoc, Nat.zero_add]
  refine h.cell _ ?_
  rw [List.getElem?_toArray]
  exact is6_get L i hi j v hv

end Go.Proofs.Cde

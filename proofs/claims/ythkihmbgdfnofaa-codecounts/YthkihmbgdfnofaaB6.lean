/-
  code.Cost; seven and awake of the statements.
-/
import Derived.Test.YthkihmbgdfnofaaB5
import Derived.Deep.RegionWith
namespace Go.Proofs.Ythkihmbgdfnofaa
open Go.RowKit Go.IntWalk Knd
set_option linter.unusedVariables false

def coL (L : List In) : Int := L.foldl (fun s n => s + coZ n.op) 0
theorem coL_snoc (L : List In) (n : In) : coL (L ++ [n]) = coL L + coZ n.op := by simp [coL]
theorem coL_le (L : List In) : ∀ k, k ≤ L.length → 0 ≤ coL (L.take k) ∧ coL (L.take k) ≤ 6 * k
  | 0, _ => by simp [coL]
  | k + 1, h => by
    have ih := coL_le L k (by omega)
    rw [take_snoc i0 (by omega), coL_snoc]
    have := coZ_le (L.getD k i0).op
    omega

set_option maxRecDepth 100000 in
set_option maxHeartbeats 4000000 in
theorem ccost_any (f d out : Int) {a : Option Addr} {n cap : Nat} {L : List In} {W : World} (hL : Ins W a n cap L) (hn : n ≤ 1000000000000000) :
    Calls Try.prog 17 #[.agg (cd f d a n cap out)] W fun e W' => e = .returned (.int .i64 (coL L)) ∧ Below W.heap.size W W' := by
  have HB0 := hide (bel1 W (.cells (cd f d a n cap out) 26))
  have HLI := hide hL
  have HLn := hide hL.len
  clear hL
  go_enter Try.func17, Try.ntmps17
  go_wp2_with fail
  go_loopw [3, 9] (fun s i wr => ∃ (k : Nat) (c : Int), k ≤ n ∧ i = .int .i64 k ∧ s = .int .i64 c ∧ 0 ≤ c ∧ c ≤ 6 * k ∧ Hid (c = coL (L.take k)) ∧ Hid (Below W.heap.size W wr)) (fun _ i _ => n - (intOf i).toNat)
  case atStart => exact ⟨0, 0, Nat.zero_le _, rfl, rfl, Int.le_refl _, Int.le_refl _, hide rfl, HB0⟩
  case round =>
    obtain ⟨k, c, hk, rfl, rfl, hc0, hc6, HC, HB⟩ := hrel
    rename World => V
    clear HB0
    by_cases hlt : k < n
    · obtain ⟨g, off, rfl, -, hat⟩ := (HLI.out.later HB.out).at (by omega)
      obtain ⟨e0, e1, e2, e3, e4, e5⟩ := hat k hlt
      clear hat
      have hi0 : (0 : Int) ≤ k := by omega
      have hi1 : (k : Int) < n := by omega
      have HC2 := hide (show c + coZ (L.getD k i0).op = coL (L.take (k + 1)) by rw [take_snoc i0 (by rw [HLn.out]; exact hlt), coL_snoc, HC.out])
      generalize L.getD k i0 = m at *
      have HCo := hide fun w => cost_any m.op w
      obtain ⟨z0, z1⟩ := coZ_le m.op
      generalize coZ m.op = z at *
      have HB2 := hide (bel HB.out (bel1 V (.cells (ia m) 43)))
      go_wp2_with (go_at_call 40; refine (HCo.out _).mono ?_; rintro e w' ⟨rfl, rfl⟩)
      go_roundw
      case rel => exact ⟨k + 1, c + z, by omega, by go_num, rfl, by omega, by omega, HC2, HB2⟩
      case measure => simp [intOf]; omega
    · obtain rfl : k = n := by omega
      have hC := HC.out
      rw [List.take_of_length_le (by rw [HLn.out]; exact Nat.le_refl _)] at hC
      have HC2 := hide hC
      clear hC
      go_wp2_with fail
      go_ret
      exact ⟨ret_int HC2.out, HB.out⟩

theorem has_ins {W : World} {g : Nat} {L : List In} (h : HasC W g 43 (is6 L).toArray) (hl : L.length ≤ 1024) : Ins W (some ⟨g, 0, none⟩) L.length L.length L := by
  refine ⟨rfl, Nat.le_refl _, by unfold maxLen; omega, (fun h => by cases h), .inr ⟨g, 0, rfl, h.lt, fun i hi j v hv => ?_⟩⟩
  rw [Nat.add_assoc, Nat.zero_add]
  refine h.cell _ ?_
  rw [List.getElem?_toArray]
  exact is6_get L i hi j v hv

/-- The code of awake. -/
def svL : List In := [⟨1, 0, 0, 0, 7, 0⟩, ⟨1, 0, 0, 0, 2, 0⟩, ⟨9, 0, 1, 0, 0, 0⟩]
set_option maxRecDepth 100000 in
set_option maxHeartbeats 4000000 in
theorem seven_any (W : World) : Calls Try.prog 37 #[] W fun e W' => ∃ g, e = .returned (.agg (cd 0 8 (some ⟨g, 0, none⟩) 3 3 2)) ∧ W.heap.size ≤ g ∧ Ins W' (some ⟨g, 0, none⟩) 3 3 svL ∧ Below W.heap.size W W' := by
  go_enter Try.func37, Try.ntmps37
  go_wp2_with fail
  exact bodyPost_ret (v := .agg (cd 0 8 (some ⟨W.heap.size + 1, 0, none⟩) 3 3 2)) (by simp [results, Try.results37, go_sem]) rfl ⟨_, rfl, Nat.le_succ _, has_ins (L := svL) (has_new1 _ _ _ _) (by decide), bel (bel1 _ _) (bel1 _ _)⟩

def w0 : Wd := ⟨0, 0, 0, List.replicate 44 0⟩
theorem sv_mc : mcB 0 8 svL 2 = true := by decide +kernel
theorem w0_fits : Fits 0 8 w0 := by
  refine ⟨⟨⟨⟨0, 4095, by decide +kernel, by decide, by decide⟩, ⟨0, 4095, by decide +kernel, by decide, by decide⟩⟩, ⟨0, 3, by decide +kernel, by decide, by decide⟩⟩, by decide +kernel, ?_⟩
  decide +kernel
theorem sv_va : vaZ 0 8 w0 svL 2 = (0, [7, 2, 5]) := by
  rw [vaZ, if_pos sv_mc, if_pos w0_fits]
  decide +kernel
theorem p_new (w : World) : Ints (w.alloc (.cells (zA (List.replicate 44 0)) 3)) (some ⟨w.heap.size, 0, none⟩) 44 44 w0.ps := has_z (L := List.replicate 44 0) (HasC.new w 3 _) (by decide)

set_option maxRecDepth 100000 in
set_option maxHeartbeats 4000000 in
theorem awake_any (W : World) : Calls Try.prog 11 #[] W fun e w' => e = .returned (.bool true) ∧ Below W.heap.size W w' := by
  have HS := hide fun w => seven_any w
  have HV := hide fun (V : World) (a pa : Option Addr) (h : Ins V a 3 3 svL) (hp : Ints V pa 44 44 w0.ps) => cvalues_any 0 8 2 w0 h hp
  rw [sv_va] at HV
  have hmk : ∀ w : World, (Instr.makeSlice 33 (.int .i64 44) (.int .i64 44)).run Try.prog w = .ok (.slice (some ⟨w.heap.size, 0, none⟩) 44 44) (w.alloc (.cells (zA (List.replicate 44 0)) 3)) := make_z 44 (by decide)
  have HC := hide fun (V : World) (a : Option Addr) (h : Ins V a 3 3 svL) => ccost_any 0 8 2 h (by decide)
  rw [show coL svL = 3 by decide +kernel] at HC
  go_enter Try.func11, Try.ntmps11
  go_wp2_with fail
  go_region_with (first
    | (go_at_call 37; refine (HS.out _).mono ?_; rintro e w1 ⟨g, rfl, hg, hI, hb⟩)
    | (go_at_call 23; refine (HV.out _ _ _ (by first | exact hI | exact hI.later (bel1 _ _)) (by first | exact p_new _ | exact (p_new W.drew).later hb)).mono ?_; rintro e w2 ⟨a, c, rfl, hO, hb2⟩))
  all_goals
    have HB2 : Hid (Below W.heap.size W w2) := hide (by first | exact bel (bel (below_drew W) hb) (bel (bel1 _ _) hb2) | exact bel (bel (bel (below_drew W) (bel1 _ _)) hb) hb2)
    obtain ⟨a', c', e', hI2, -⟩ := Ints.of_owns hO
    cases e'
    obtain ⟨b, off, rfl, -, hat⟩ := hI2.at (by decide)
    have x2 : w2.cell? ⟨b, off + 2, none⟩ = some (.int .i64 5) := hat 2 (by decide)
    clear hat hI2 hO hb hb2 hI HV hmk hg
    go_wp2_with fail
    refine (HS.out _).mono ?_
    rintro e w3 ⟨g3, rfl, -, hI3, hb3⟩
    have HB3 := hide (bel HB2.out hb3)
    have HI3 := hide hI3
    clear hI3 hb3 HB2
    go_wp2_with fail
    refine (HC.out _ _ HI3.out).mono ?_
    rintro e w4 ⟨rfl, hb4⟩
    have HB4 := hide (bel HB3.out hb4)
    clear hb4
    go_wp2_with fail
    go_ret
    exact ⟨rfl, HB4.out⟩

end Go.Proofs.Ythkihmbgdfnofaa

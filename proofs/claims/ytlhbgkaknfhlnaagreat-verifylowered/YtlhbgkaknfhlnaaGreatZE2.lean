/-
  check.may.
-/
import Derived.Test.YtlhbgkaknfhlnaaGreatZEaA
namespace Go.Proofs.YtlhbgkaknfhlnaaGreat
open Go.RowKit Go.IntWalk Lx Pz
set_option linter.unusedVariables false

abbrev kdA (f d : Int) : Array Value := #[.int .i64 f, .int .i64 d]
def mayE (f d : Int) (NM : List Txt) (BS : List Int) (NS : List Nd) (root : Int) : Int :=
  if ¬ Knd.May f d then 1 else if chkP NM BS NS root = false then 3 else if NS.any (ahB f d) = true then 11 else 0

theorem any_snoc {f d : Int} {NS : List Nd} {k : Nat} (hk : k < NS.length) (h : (NS.take k).any (ahB f d) = false) (h2 : ahB f d (NS.getD k n0) = false) : (NS.take (k + 1)).any (ahB f d) = false := by
  rw [take_snoc n0 hk, List.any_append, h, List.any_cons, h2]; rfl
theorem any_of {f d : Int} {NS : List Nd} {k : Nat} (hk : k < NS.length) (h2 : ahB f d (NS.getD k n0) = true) : NS.any (ahB f d) = true := by
  rw [List.any_eq_true]
  refine ⟨NS.getD k n0, ?_, h2⟩
  rw [List.getD_eq_getElem?_getD, List.getElem?_eq_getElem hk]
  exact List.getElem_mem hk

set_option maxRecDepth 100000 in
set_option maxHeartbeats 4000000 in
theorem emay_any (f d : Int) {W : World} {na ba da : Option Addr} {nl nc bl bc dl dc : Nat} {root : Int} {NM : List Txt} {BS : List Int} {NS : List Nd} (hX : Tx W na nl nc NM) (hB : Iz W ba bl bc BS) (hN : Nz W da dl dc NS) (hs : ∀ s ∈ NM, s.length ≤ 9223372036854775807) :
    Calls Tryz.prog 27 #[.agg (kdA f d), .agg (tr4 (.slice na nl nc) (.slice ba bl bc) (.slice da dl dc) (.int .i64 root))] W fun e W' => e = .returned (.int .i64 (mayE f d NM BS NS root)) ∧ Below W.heap.size W W' := by
  have hb1 := bel1 W (.cells (kdA f d) 23)
  have hb2 := bel hb1 (bel1 (W.alloc (.cells (kdA f d) 23)) (.cells (tr4 (.slice na nl nc) (.slice ba bl bc) (.slice da dl dc) (.int .i64 root)) 46))
  have HK0 := hide ((HasC.new W 23 (kdA f d)).alloc (.cells (tr4 (.slice na nl nc) (.slice ba bl bc) (.slice da dl dc) (.int .i64 root)) 46))
  have HT0 : Hid (HasC ((W.alloc (.cells (kdA f d) 23)).alloc (.cells (tr4 (.slice na nl nc) (.slice ba bl bc) (.slice da dl dc) (.int .i64 root)) 46)) (W.heap.size + 1) 46 (tr4 (.slice na nl nc) (.slice ba bl bc) (.slice da dl dc) (.int .i64 root))) := by
    have := HasC.new (W.alloc (.cells (kdA f d) 23)) 46 (tr4 (.slice na nl nc) (.slice ba bl bc) (.slice da dl dc) (.int .i64 root))
    rw [World.size_alloc] at this
    exact hide this
  have HX := hide (hX.later hb2)
  have HBI := hide (hB.later hb2)
  have HNI := hide (hN.later hb2)
  have HLN := hide hN.len
  have HS := hide hs
  have HB0 := hide hb2
  have hdl : dl ≤ 9223372036854775807 := by have := hN.le; have := hN.max; unfold maxLen at *; omega
  clear hX hB hN hb1 hb2 hs
  by_cases hm : Knd.May f d
  · have HCK := hide fun w => Knd.check_ok f d w hm
    cases hc : chkP NM BS NS root with
    | false =>
      rw [show mayE f d NM BS NS root = 3 by unfold mayE; rw [if_neg (by simpa using hm), if_pos hc]]
      go_enter Tryz.func27, Tryz.ntmps27
      go_wp2_with fail
      refine (HCK.out _).mono ?_
      rintro e V1 ⟨rfl, hb⟩
      have HT1 := hide (HT0.out.below hb)
      obtain ⟨t0, t1, t2, t3⟩ : V1.cell? ⟨W.heap.size + 1, 0, none⟩ = some (.slice na nl nc) ∧ V1.cell? ⟨W.heap.size + 1, 1, none⟩ = some (.slice ba bl bc) ∧ V1.cell? ⟨W.heap.size + 1, 2, none⟩ = some (.slice da dl dc) ∧ V1.cell? ⟨W.heap.size + 1, 3, none⟩ = some (.int .i64 root) := ⟨HT1.out.cell 0 rfl, HT1.out.cell 1 rfl, HT1.out.cell 2 rfl, HT1.out.cell 3 rfl⟩
      have HB1 := hide (bel HB0.out hb)
      have HPC := hide (check_any (root := root) (HX.out.later hb) (HBI.out.later hb) (HNI.out.later hb) HS.out)
      rw [hc] at HPC
      clear hb HX HBI HNI HK0 HT0 HB0 HCK
      go_wp2_with fail
      refine HPC.out.mono ?_
      rintro e V2 ⟨rfl, hb⟩
      simp only [Bool.false_eq_true, if_false]
      go_wp2_with fail
      go_ret
      exact ⟨rfl, bel HB1.out hb⟩
    | true =>
      obtain ⟨es, ex, hD⟩ := chk_dec.1 hc
      have HW := hide hD.wl
      have hfew : dl ≤ 1024 := by rw [← HLN.out]; exact hD.few
      clear hD
      rw [show mayE f d NM BS NS root = if NS.any (ahB f d) = true then 11 else 0 by unfold mayE; rw [if_neg (by simpa using hm), if_neg (by rw [hc]; simp)]]
      obtain ⟨R, hR⟩ : ∃ R : Int, (if NS.any (ahB f d) = true then 11 else 0) = R := ⟨_, rfl⟩
      rw [hR]
      have HR := hide hR
      clear hR
      go_enter Tryz.func27, Tryz.ntmps27
      go_wp2_with fail
      refine (HCK.out _).mono ?_
      rintro e V1 ⟨rfl, hb⟩
      have HT1 := hide (HT0.out.below hb)
      have HK1 := hide (HK0.out.below hb)
      obtain ⟨t0, t1, t2, t3⟩ : V1.cell? ⟨W.heap.size + 1, 0, none⟩ = some (.slice na nl nc) ∧ V1.cell? ⟨W.heap.size + 1, 1, none⟩ = some (.slice ba bl bc) ∧ V1.cell? ⟨W.heap.size + 1, 2, none⟩ = some (.slice da dl dc) ∧ V1.cell? ⟨W.heap.size + 1, 3, none⟩ = some (.int .i64 root) := ⟨HT1.out.cell 0 rfl, HT1.out.cell 1 rfl, HT1.out.cell 2 rfl, HT1.out.cell 3 rfl⟩
      have HB1 := hide (bel HB0.out hb)
      have HNI1 := hide (HNI.out.later hb)
      have HPC := hide (check_any (root := root) (HX.out.later hb) (HBI.out.later hb) (HNI.out.later hb) HS.out)
      rw [hc] at HPC
      clear hb HX HBI HNI HK0 HT0 HB0 HCK
      go_wp2_with fail
      refine HPC.out.mono ?_
      rintro e V2 ⟨rfl, hb⟩
      simp only [if_true]
      have HT2 := hide (HT1.out.below hb)
      have HK2 := hide (HK1.out.below hb)
      have HB2 := hide (bel HB1.out hb)
      have HNI2 := hide (HNI1.out.later hb)
      have x2 := HT2.out.cell 2 rfl
      clear hb HPC HB1 HNI1 HK1 HT1 t0 t1 t2 t3
      go_wp2_with fail
      go_loopw [24] (fun i wr => ∃ k : Nat, k ≤ dl ∧ i = .int .i64 k ∧ Hid ((NS.take k).any (ahB f d) = false) ∧ Hid (Below V2.heap.size V2 wr)) (fun i _ => dl - (intOf i).toNat)
      case atStart => exact ⟨0, Nat.zero_le _, rfl, hide rfl, hide (Below.refl _ _)⟩
      case round =>
        obtain ⟨k, hk, rfl, HA, HB⟩ := hrel
        rename World => V
        by_cases hlt : k < dl
        · obtain ⟨g, off, rfl, hat⟩ := (HNI2.out.later HB.out).at (by omega)
          obtain ⟨e0, e1, e2, e3, e4, e5, e6, e7, e8⟩ := hat k hlt
          clear hat
          have hi0 : (0 : Int) ≤ k := by omega
          have hi1 : (k : Int) < dl := by omega
          have hw := (wl_at HW.out (by rw [HLN.out]; exact hlt : k < NS.length)).wf
          have HA2 := hide fun h => any_snoc (f := f) (d := d) (by rw [HLN.out]; exact hlt) HA.out h
          have HA3 := hide fun h => any_of (f := f) (d := d) (NS := NS) (k := k) (by rw [HLN.out]; exact hlt) h
          obtain ⟨f0, f1⟩ : V.cell? ⟨W.heap.size, 0, none⟩ = some (.int .i64 f) ∧ V.cell? ⟨W.heap.size, 1, none⟩ = some (.int .i64 d) := ⟨(HK2.out.below HB.out).cell 0 rfl, (HK2.out.below HB.out).cell 1 rfl⟩
          have hz0 : W.heap.size < V.heap.size := (HK2.out.below HB.out).lt
          generalize NS.getD k n0 = n at *
          by_cases ho : n.op = 3
          · have ho1 : (n.op != 3) = false := by simpa using ho
            have HNum := hide fun w => Knd.number_any f d (plOf n) hw w
            unfold Knd.numV at HNum
            cases hz : Knd.numZ f d (plOf n) with
            | none =>
              rw [hz] at HNum
              simp only [Option.getD_none, Option.isSome_none] at HNum
              have HE := hide (HA3.out (by unfold ahB; rw [hz, ho]; rfl))
              clear hz ho hw HA2 HA3
              go_wp2_with fail
              refine (HNum.out _).mono ?_
              rintro e V3 ⟨rfl, hb⟩
              go_wp2_with fail
              go_ret
              exact ⟨ret_int (by rw [← HR.out, HE.out]; rfl), bel (bel (bel HB2.out HB.out) (bel1 _ _)) hb⟩
            | some z =>
              rw [hz] at HNum
              simp only [Option.getD_some, Option.isSome_some] at HNum
              have HE := hide (HA2.out (by unfold ahB; rw [hz]; simp))
              clear hz ho hw HA2 HA3
              go_wp2_with fail
              refine (HNum.out _).mono ?_
              rintro e V3 ⟨rfl, hb⟩
              have HB3 := hide (bel (bel HB.out (bel1 _ _)) hb)
              clear hb
              go_wp2_with fail
              go_roundw
              case rel => exact ⟨k + 1, by omega, by go_num, hide HE.out, hide HB3.out⟩
              case measure => simp [intOf]; omega
          · have ho1 : (n.op != 3) = true := by simpa using ho
            have HE := hide (HA2.out (by unfold ahB; rw [show (n.op == 3) = false by simpa using ho]; rfl))
            clear ho hw HA2 HA3
            have HB3 := hide (bel HB.out (bel1 V (.cells (ndA n) 78)))
            go_wp2_with fail
            go_roundw
            case rel => exact ⟨k + 1, by omega, by go_num, hide HE.out, hide HB3.out⟩
            case measure => simp [intOf]; omega
        · obtain rfl : k = dl := by omega
          have HE : Hid (NS.any (ahB f d) = false) := hide (by have e : NS.take k = NS := List.take_of_length_le (by rw [HLN.out]; exact Nat.le_refl _); have := HA.out; rwa [e] at this)
          go_wp2_with fail
          go_ret
          exact ⟨ret_int (by rw [← HR.out, HE.out]; rfl), bel HB2.out HB.out⟩
  · have HCK := hide fun w => Knd.check_bad f d w hm
    rw [show mayE f d NM BS NS root = 1 by unfold mayE; rw [if_pos hm]]
    go_enter Tryz.func27, Tryz.ntmps27
    go_wp2_with fail
    refine (HCK.out _).mono ?_
    rintro e V1 ⟨rfl, hb⟩
    go_wp2_with fail
    go_ret
    exact ⟨rfl, bel HB0.out hb⟩

end Go.Proofs.YtlhbgkaknfhlnaaGreat

/-
  mayBeBound of parse.Check.
-/
import Derived.Test.YtodgjjkpbcadoaaDoorCkA
import Derived.Maps.OwnSet
namespace Pz
open Lx
def nodB : List Txt → Bool
  | [] => true
  | s :: r => !r.contains s && nodB r
theorem nodB_snoc : ∀ (L : List Txt) (s : Txt), nodB (L ++ [s]) = (nodB L && !L.contains s)
  | [], s => by simp [nodB]
  | a :: L, s => by
    simp only [List.cons_append, nodB, nodB_snoc L s, List.contains_append, List.contains_cons, List.contains_nil, Bool.or_false]
    rw [show (a == s) = (s == a) by rw [Bool.eq_iff_iff]; simp; exact ⟨Eq.symm, Eq.symm⟩]
    cases L.contains a <;> cases (s == a) <;> cases nodB L <;> cases L.contains s <;> rfl
/-- May these names be bound? -/
def nmB (L : List Txt) : Bool := (L.all fun s => wrd s && !resv s) && nodB L
theorem nmB_snoc (L : List Txt) (s : Txt) : nmB (L ++ [s]) = (nmB L && (wrd s && !resv s && !L.contains s)) := by
  unfold nmB
  rw [List.all_append, nodB_snoc]
  simp only [List.all_cons, List.all_nil, Bool.and_true]
  cases (L.all fun s => wrd s && !resv s) <;> cases wrd s <;> cases resv s <;> cases nodB L <;> cases L.contains s <;> rfl
theorem nmB_pre {L : List Txt} {k : Nat} (h : nmB (L.take k) = false) : nmB L = false := by
  induction h2 : L.length - k generalizing k with
  | zero => rw [List.take_of_length_le (by omega)] at h; exact h
  | succ m ih =>
    refine ih (k := k + 1) ?_ (by omega)
    rw [List.take_succ_eq_append_getElem (by omega), nmB_snoc, h]
    rfl
end Pz
namespace Go.Proofs.YtodgjjkpbcadoaaDoor
open Go.RowKit Go.IntWalk Lx Pz
set_option linter.unusedVariables false

theorem lawS : Maps.Keyed Tryd.prog 9 := Maps.string_keyed Tryd.underlying9
theorem zeroU (w : World) : (zeroValue 70).run Tryd.prog w = .ok (.agg #[]) w := by simp [Tryd.zeroValue70]
abbrev setS (L : List Txt) : DataW Unit := Maps.setOf (.agg []) (L.map fun s => Lit.string s)
theorem has_setS (L : List Txt) (s : Txt) : Maps.has (setS L) (.string s) = L.contains s := by
  rw [Maps.has_setOf _ _ _ (by intro x hx; simp at hx; obtain ⟨a, -, rfl⟩ := hx; trivial)]
  rw [List.any_map]
  rw [Bool.eq_iff_iff]
  simp only [List.any_eq_true, Function.comp, Lit.sameKey, beq_iff_eq, List.contains_iff_mem]
  exact ⟨fun ⟨x, hx, e⟩ => e ▸ hx, fun h => ⟨s, h, rfl⟩⟩

theorem keyS (u : ByteArray) (h : u.size ≤ maxLen) : keyOf Tryd.prog 9 (.string u) = some (.string u.data.toList) := by
  rw [keyOf_string Tryd.underlying9]
  simp [mapKey, Tryd.underlying9, h]

theorem makeMap84 (V : World) {n : Nat} (hn : n ≤ 1024) : (Instr.makeMap 69 (some (.int .i64 n))).run Tryd.prog V = .ok (.map (some V.heap.size)) (V.alloc (.map #[] 0)) := by
  simp [Instr.makeMap, asInt, asIntOf, Result.andThen]

set_option maxRecDepth 100000 in
set_option maxHeartbeats 4000000 in
theorem bound_any {W : World} {a : Option Addr} {n cap : Nat} {L : List Txt} (h : Tx W a n cap L) (hn : n ≤ 1024) (hs : ∀ s ∈ L, s.length ≤ 9223372036854775807) :
    Calls Tryd.prog 16 #[.slice a n cap] W fun e W' => e = .returned (.bool (nmB L)) ∧ Below W.heap.size W W' := by
  have HT := hide h
  have HS := hide hs
  have hl := hide h.len
  clear h hs
  have hmm := fun V => makeMap84 V hn
  go_enter Tryd.func16, Tryd.ntmps16
  go_wp2_with fail
  go_loopw [13] (fun i wr => ∃ k : Nat, k ≤ n ∧ i = .int .i64 k ∧ Hid (nmB (L.take k) = true) ∧ Hid (wr.ownsMap Tryd.prog 9 (unitElem (H := Unit)) W.heap.size k (setS (L.take k))) ∧ Hid (Below W.heap.size W wr)) (fun i _ => n - (intOf i).toNat)
  case atStart => exact ⟨0, Nat.zero_le _, rfl, hide (by simp; rfl), hide (World.ownsMap_made W _ _ _), hide (bel1 _ _)⟩
  case round =>
    obtain ⟨k, hk, rfl, HN, HO, HB⟩ := hrel
    rename World => V
    by_cases hlt : k < n
    · obtain ⟨b, off, rfl, hc0⟩ : ∃ b off, a = some ⟨b, off, none⟩ ∧ W.cell? ⟨b, off + k, none⟩ = some (.string (sB (L.getD k []))) := by
        rcases HT.out.cell with h0 | ⟨b, off, ha, hc⟩
        · omega
        · exact ⟨b, off, ha, hc k hlt⟩
      have hc := (HB.out.cell (p := ⟨b, off + k, none⟩) (World.block_lt_of_cell? W _ hc0)).trans hc0
      have hi0 : (0 : Int) ≤ k := by omega
      have hi1 : (k : Int) < n := by omega
      have hkl : k < L.length := by rw [hl.out]; exact hlt
      have hget : L.getD k [] = L[k] := by rw [List.getD_eq_getElem?_getD, List.getElem?_eq_getElem hkl]; rfl
      rw [hget] at hc
      have HSN := hide (show nmB (L.take (k + 1)) = (nmB (L.take k) && (wrd L[k] && !resv L[k] && !(L.take k).contains L[k])) by rw [List.take_succ_eq_append_getElem hkl, nmB_snoc])
      have HTK := hide (show setS (L.take (k + 1)) = (setS (L.take k)).put (.string L[k]) (.agg []) by rw [List.take_succ_eq_append_getElem hkl]; unfold setS; rw [List.map_append]; exact Maps.setOf_snoc _ _ _)
      have hsz := HS.out L[k] (List.getElem_mem hkl)
      have HWd := hide fun V => word_any (sB L[k]) V (by rw [sB_size]; unfold maxLen; omega)
      have HRs := hide fun V => reserved_any (sB L[k]) V
      rw [bs_sB] at HWd HRs
      have HKY := hide (keyS (sB L[k]) (by rw [sB_size]; unfold maxLen; omega))
      rw [show (sB L[k]).data.toList = L[k] from rfl] at HKY
      have HHS := hide (has_setS (L.take k) L[k])
      clear hc0 hget
      generalize L[k] = s at *
      clear hkl
      rw [HN.out, Bool.true_and] at HSN
      cases hw : wrd s with
      | false =>
        rw [hw] at HWd HSN
        generalize sB s = u at hc HWd HRs HKY
        have HF := hide (nmB_pre HSN.out)
        clear hw
        go_wp2_with fail
        refine (HWd.out _).mono ?_
        rintro e V1 ⟨rfl, rfl⟩
        go_wp2_with fail
        go_ret
        exact ⟨ret_bool HF.out.symm, HB.out⟩
      | true =>
        rw [hw] at HWd HSN
        cases hr : resv s with
        | true =>
          rw [hr] at HRs HSN
          generalize sB s = u at hc HWd HRs HKY
          have HF := hide (nmB_pre HSN.out)
          clear hw hr
          go_wp2_with fail
          refine (HWd.out _).mono ?_
          rintro e V1 ⟨rfl, rfl⟩
          go_wp2_with fail
          refine (HRs.out _).mono ?_
          rintro e V1 ⟨rfl, rfl⟩
          go_wp2_with fail
          go_ret
          exact ⟨ret_bool HF.out.symm, HB.out⟩
        | false =>
          rw [hr] at HRs HSN
          clear hw hr
          cases hct : (L.take k).contains s with
          | true =>
            rw [hct] at HSN HHS
            have HF := hide (nmB_pre HSN.out)
            clear hct
            generalize sB s = u at hc HWd HRs HKY
            go_wp2_with fail
            refine (HWd.out _).mono ?_
            rintro e V1 ⟨rfl, rfl⟩
            go_wp2_with fail
            refine (HRs.out _).mono ?_
            rintro e V1 ⟨rfl, rfl⟩
            go_wp2_with (at_lookup; refine wpList_lookup_own_unit _ rfl _ _ 69 rfl 9 70 lawS Tryd.underlying69 (zeroU _) W.heap.size k _ rfl HO.out _ _ rfl HKY.out ?_; rw [HHS.out])
            go_ret
            exact ⟨ret_bool HF.out.symm, bel HB.out (bel1 _ _)⟩
          | false =>
            rw [hct] at HSN HHS
            clear hct
            generalize sB s = u at hc HWd HRs HKY
            go_wp2_with fail
            refine (HWd.out _).mono ?_
            rintro e V1 ⟨rfl, rfl⟩
            go_wp2_with fail
            refine (HRs.out _).mono ?_
            rintro e V1 ⟨rfl, rfl⟩
            go_wp2_with (first | (at_lookup; refine wpList_lookup_own_unit _ rfl _ _ 69 rfl 9 70 lawS Tryd.underlying69 (zeroU _) W.heap.size k _ rfl HO.out _ _ rfl HKY.out ?_; rw [HHS.out]) | (at_mapUpdate; refine wpList_mapUpdate_own _ rfl _ _ _ 69 rfl 9 70 lawS Tryd.underlying69 (unitElem (H := Unit)) W.heap.size k _ rfl (HO.out.alloc _) (by unfold maxLen; omega) _ _ (.string s) rfl rfl HKY.out (.agg []) [] unitElem_mk ?_; intro w1 hown1 hgrow1))
            go_roundw
            case rel => exact ⟨k + 1, by omega, by go_num, hide HSN.out, hide (by rw [HTK.out]; exact hown1), hide ((bel HB.out (bel1 _ _)).grown hgrow1 (by have := HB.out.size; simp; omega) (fun q hq => by cases hq; exact Nat.le_refl _))⟩
            case measure => simp [intOf]; omega
    · obtain rfl : k = n := by omega
      have HF := hide (show nmB L = true by rw [← HN.out, List.take_of_length_le (by rw [hl.out]; exact Nat.le_refl _)])
      go_wp2_with fail
      go_ret
      exact ⟨ret_bool HF.out.symm, HB.out⟩

end Go.Proofs.YtodgjjkpbcadoaaDoor

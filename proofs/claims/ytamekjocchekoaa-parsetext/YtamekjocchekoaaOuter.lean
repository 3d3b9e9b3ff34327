/-
  ref.outer: the places outside of all brackets, and whether the brackets close.
-/
import Derived.Test.YtamekjocchekoaaGtA
import Derived.Test.YtamekjocchekoaaQtA
import Derived.Test.YtamekjocchekoaaLate
namespace Go.Proofs.Ytamekjocchekoaa
open Go.RowKit Go.IntWalk Lx Pz
set_option linter.unusedVariables false

def OutP (W : World) (L : List Tk) (e : Ending) (W' : World) : Prop :=
  (Bal L ∧ ∃ v, e = .returned (.tuple #[v, .bool true]) ∧ W'.ownsRow W.heap.size 3 1 v (ozl L).length (in64 (ozl L)) ∧ Below W.heap.size W W') ∨
  (¬ Bal L ∧ ∃ v, e = .returned (.tuple #[v, .bool false]) ∧ Below W.heap.size W W')
theorem OutP.bad {W W' : World} {L : List Tk} {v : Value} (h : dep 0 L ≠ some 0) (hb : Below W.heap.size W W') : OutP W L (.returned (.tuple #[v, .bool false])) W' := .inr ⟨h, v, rfl, hb⟩

set_option maxRecDepth 100000 in
set_option maxHeartbeats 8000000 in
theorem outer_any {W : World} {a : Option Addr} {n cap : Nat} {T : List Tok} (hT : Toks W a n cap T) (hw : ∀ t ∈ T, Wf t) (hn : n ≤ 100000) :
    Calls Try.prog 49 #[.slice a n cap] W fun e W' => OutP W (T.map ab) e W' := by
  have HT := hide hT
  have HWf := hide hw
  have HLn := hide hT.len
  obtain ⟨L, hL⟩ : ∃ L, T.map ab = L := ⟨_, rfl⟩
  have HL := hide hL
  have HLL := hide (show L.length = n by rw [← hL, List.length_map, hT.len])
  rw [hL]
  clear hT hw hL
  go_enter Try.func49, Try.ntmps49
  go_wp2_with fail
  go_loopw [4, 5, 6] (fun v dp i wr => ∃ (k d : Nat) (o : Nat), k ≤ n ∧ i = .int .i64 k ∧ dp = .int .i64 d ∧ d ≤ k ∧ o ≤ k ∧ Hid (dep 0 (L.take k) = some d) ∧ Hid ((ozl (L.take k)).length = o) ∧ Hid (wr.ownsRow W.heap.size 3 1 v (ozl (L.take k)).length (in64 (ozl (L.take k)))) ∧ Hid (Below W.heap.size W wr)) (fun _ _ i _ => n - (intOf i).toNat)
  case atStart => exact ⟨0, 0, 0, Nat.zero_le _, rfl, rfl, Nat.le_refl _, Nat.le_refl _, hide rfl, hide rfl, hide (World.ownsRow_nil _ _ _ _), hide (Below.refl _ _)⟩
  case round =>
    obtain ⟨k, d, o, hk, rfl, rfl, hdk, hok, HD, HO, HR, HB⟩ := hrel
    rename World => V
    by_cases hlt : k < n
    · obtain ⟨g, off, rfl, -, hat⟩ := (HT.out.later HB.out).at (by omega)
      obtain ⟨e0, e1, e2⟩ := hat k hlt
      have hT0 := HLn.out
      have hmem : T.getD k t0 ∈ T := by
        rw [List.getD_eq_getElem?_getD, List.getElem?_eq_getElem (by omega)]
        exact List.getElem_mem _
      have hcl := tok_cls (HWf.out _ hmem)
      have hget : L[k]? = some (ab (T.getD k t0)) := by
        rw [← HL.out, List.getElem?_map, List.getD_eq_getElem?_getD, List.getElem?_eq_getElem (by omega)]
        rfl
      obtain ⟨hc1, hc2⟩ := take_cut (by rw [HLL.out]; exact hlt) _ hget
      have HC1 := hide hc1
      have HC2 := hide hc2
      have HA := hide (show (L.take k).length = k by rw [List.length_take, HLL.out]; omega)
      have hsz := HB.out.size
      generalize T.getD k t0 = t at *
      generalize L.drop (k + 1) = LB at *
      generalize hA : L.take k = A at *
      clear hA hat hmem hget hc1 hc2 hT0
      have hi0 : (0 : Int) ≤ k := by omega
      have hi1 : (k : Int) < n := by omega
      obtain ⟨kd, X, ps⟩ := t
      simp only at e0 e1 e2 hcl HC1 HC2
      generalize ab ⟨kd, X, ps⟩ = tk at *
      clear e2
      have HE0 := hide (show W.cell? ⟨g, off + k * 3, none⟩ = some (.int .i64 kd) from by
        obtain ⟨g', off', e, -, h⟩ := HT.out.at (by omega)
        cases e
        have := e0
        rw [HB.out.cell (World.block_lt_of_cell? W _ (h k hlt).1)] at this
        exact this)
      have HE1 := hide (show W.cell? ⟨g, off + k * 3 + 1, none⟩ = some (.string (sB X)) from by
        obtain ⟨g', off', e, -, h⟩ := HT.out.at (by omega)
        cases e
        have := e1
        rw [HB.out.cell (World.block_lt_of_cell? W _ (h k hlt).2.1)] at this
        exact this)
      rcases hcl with ⟨rfl, rfl, rfl⟩ | ⟨rfl, rfl, rfl⟩ | ⟨hn1, hn2, hcl⟩
      · match d, HD with
        | 0, HD =>
          have HS := hide (o_rp0 HD.out LB)
          go_wp2_with fail
          exact bodyPost_ret (v := .tuple #[.slice none 0 0, .bool false]) (by simp [results, Try.results49, go_sem]) rfl (OutP.bad (by rw [HC2.out, HS.out]; simp) HB.out)
        | 1, HD =>
          have HS := hide (o_rp1 HD.out)
          go_wp2_with (at_builtin; refine list_in (A := ozl A) rfl _ _ rfl rfl (HR.out.alloc _) (by simp; omega) _ (k : Int) rfl (HasC.new _ _ _) (by rw [HO.out]; omega) ?_; intro g4 cap4 V4 hown hk4 hold; have HB4 := hide (hold W (bel HB.out (bel1 _ _)) rfl); have HR4 := hide hown; clear hown hk4 hold; have f0 := (HB4.out.cell (p := ⟨g, off + k * 3, none⟩) (World.block_lt_of_cell? W _ HE0.out)).trans HE0.out; have f1 := (HB4.out.cell (p := ⟨g, off + k * 3 + 1, none⟩) (World.block_lt_of_cell? W _ HE1.out)).trans HE1.out)
          go_roundw
          case rel => exact ⟨k + 1, 0, o + 1, by omega, by go_num, by go_num, by omega, by omega, hide (by rw [HC1.out]; exact HS.out.1), hide (by rw [HC1.out, HS.out.2, List.length_append, HO.out]; rfl), hide (by rw [HC1.out, HS.out.2, HA.out]; have h := HR4.out; rw [List.length_append] at h ⊢; exact h), hide HB4.out⟩
          case measure => simp [intOf]; omega
        | d + 2, HD =>
          have HS := hide (o_rp2 HD.out)
          go_wp2_with fail
          go_roundw
          case rel => exact ⟨k + 1, d + 1, o, by omega, by go_num, by go_num, by omega, by omega, hide (by rw [HC1.out]; exact HS.out.1), hide (by rw [HC1.out, HS.out.2, HO.out]), hide (by rw [HC1.out, HS.out.2]; exact HR.out), hide HB.out⟩
          case measure => simp [intOf]; omega
      · match d, HD with
        | 0, HD =>
          have HS := hide (o_lp0 HD.out)
          go_wp2_with (at_builtin; refine list_in (A := ozl A) rfl _ _ rfl rfl (HR.out.alloc _) (by simp; omega) _ (k : Int) rfl (HasC.new _ _ _) (by rw [HO.out]; omega) ?_; intro g4 cap4 V4 hown hk4 hold; have HB4 := hide (hold W (bel HB.out (bel1 _ _)) rfl); have HR4 := hide hown; clear hown hk4 hold; have f0 := (HB4.out.cell (p := ⟨g, off + k * 3, none⟩) (World.block_lt_of_cell? W _ HE0.out)).trans HE0.out; have f1 := (HB4.out.cell (p := ⟨g, off + k * 3 + 1, none⟩) (World.block_lt_of_cell? W _ HE1.out)).trans HE1.out)
          go_roundw
          case rel => exact ⟨k + 1, 1, o + 1, by omega, by go_num, by go_num, by omega, by omega, hide (by rw [HC1.out]; exact HS.out.1), hide (by rw [HC1.out, HS.out.2, List.length_append, HO.out]; rfl), hide (by rw [HC1.out, HS.out.2, HA.out]; have h := HR4.out; rw [List.length_append] at h ⊢; exact h), hide HB4.out⟩
          case measure => simp [intOf]; omega
        | d + 1, HD =>
          have HS := hide (o_lp HD.out)
          go_wp2_with fail
          go_roundw
          case rel => exact ⟨k + 1, d + 2, o, by omega, by go_num, by go_num, by omega, by omega, hide (by rw [HC1.out]; exact HS.out.1), hide (by rw [HC1.out, HS.out.2, HO.out]), hide (by rw [HC1.out, HS.out.2]; exact HR.out), hide HB.out⟩
          case measure => simp [intOf]; omega
      · have HN1 := hide hn1
        have HN2 := hide hn2
        clear hn1 hn2
        rcases hcl with hcl | ⟨rfl, hx1, hx2⟩
        · match d, HD with
          | 0, HD =>
            have HS := hide (o_t0 HN1.out HN2.out HD.out)
            go_wp2_with (at_builtin; refine list_in (A := ozl A) rfl _ _ rfl rfl (HR.out.alloc _) (by simp; omega) _ (k : Int) rfl (HasC.new _ _ _) (by rw [HO.out]; omega) ?_; intro g4 cap4 V4 hown hk4 hold; have HB4 := hide (hold W (bel HB.out (bel1 _ _)) rfl); have HR4 := hide hown; clear hown hk4 hold; have f0 := (HB4.out.cell (p := ⟨g, off + k * 3, none⟩) (World.block_lt_of_cell? W _ HE0.out)).trans HE0.out; have f1 := (HB4.out.cell (p := ⟨g, off + k * 3 + 1, none⟩) (World.block_lt_of_cell? W _ HE1.out)).trans HE1.out)
            go_roundw
            case rel => exact ⟨k + 1, 0, o + 1, by omega, by go_num, by go_num, by omega, by omega, hide (by rw [HC1.out]; exact HS.out.1), hide (by rw [HC1.out, HS.out.2, List.length_append, HO.out]; rfl), hide (by rw [HC1.out, HS.out.2, HA.out]; have h := HR4.out; rw [List.length_append] at h ⊢; exact h), hide HB4.out⟩
            case measure => simp [intOf]; omega
          | d + 1, HD =>
            have HS := hide (o_t HN1.out HN2.out HD.out)
            go_wp2_with fail
            go_roundw
            case rel => exact ⟨k + 1, d + 1, o, by omega, by go_num, by go_num, by omega, by omega, hide (by rw [HC1.out]; exact HS.out.1), hide (by rw [HC1.out, HS.out.2, HO.out]), hide (by rw [HC1.out, HS.out.2]; exact HR.out), hide HB.out⟩
            case measure => simp [intOf]; omega
        · match d, HD with
          | 0, HD =>
            have HS := hide (o_t0 HN1.out HN2.out HD.out)
            go_wp2_with (at_builtin; refine list_in (A := ozl A) rfl _ _ rfl rfl (HR.out.alloc _) (by simp; omega) _ (k : Int) rfl (HasC.new _ _ _) (by rw [HO.out]; omega) ?_; intro g4 cap4 V4 hown hk4 hold; have HB4 := hide (hold W (bel HB.out (bel1 _ _)) rfl); have HR4 := hide hown; clear hown hk4 hold; have f0 := (HB4.out.cell (p := ⟨g, off + k * 3, none⟩) (World.block_lt_of_cell? W _ HE0.out)).trans HE0.out; have f1 := (HB4.out.cell (p := ⟨g, off + k * 3 + 1, none⟩) (World.block_lt_of_cell? W _ HE1.out)).trans HE1.out)
            go_roundw
            case rel => exact ⟨k + 1, 0, o + 1, by omega, by go_num, by go_num, by omega, by omega, hide (by rw [HC1.out]; exact HS.out.1), hide (by rw [HC1.out, HS.out.2, List.length_append, HO.out]; rfl), hide (by rw [HC1.out, HS.out.2, HA.out]; have h := HR4.out; rw [List.length_append] at h ⊢; exact h), hide HB4.out⟩
            case measure => simp [intOf]; omega
          | d + 1, HD =>
            have HS := hide (o_t HN1.out HN2.out HD.out)
            go_wp2_with fail
            go_roundw
            case rel => exact ⟨k + 1, d + 1, o, by omega, by go_num, by go_num, by omega, by omega, hide (by rw [HC1.out]; exact HS.out.1), hide (by rw [HC1.out, HS.out.2, HO.out]), hide (by rw [HC1.out, HS.out.2]; exact HR.out), hide HB.out⟩
            case measure => simp [intOf]; omega
    · obtain rfl : k = n := by omega
      have hfull : L.take k = L := List.take_of_length_le (by rw [HLL.out]; exact Nat.le_refl _)
      rw [hfull] at HD HO HR
      clear hfull
      match d, HD with
      | 0, HD =>
        go_wp2_with fail
        exact bodyPost_ret (v := .tuple #[u4, .bool true]) (by simp [results, Try.results49, go_sem]) rfl (.inl ⟨HD.out, _, rfl, HR.out, HB.out⟩)
      | d + 1, HD =>
        go_wp2_with fail
        exact bodyPost_ret (v := .tuple #[u4, .bool false]) (by simp [results, Try.results49, go_sem]; omega) rfl (OutP.bad (by rw [HD.out]; simp) HB.out)

end Go.Proofs.Ytamekjocchekoaa

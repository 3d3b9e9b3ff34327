/-
  OctetBack, up to its bound: for every list of numbers of bulk at most 1048576, what octet writes one behind the other is read back and nothing is left; and the argument reads as before.
-/
import Derived.Test.YtibaejoonmedjaaRows
import Derived.Test.YtibaejoonmedjaaOpen
import Derived.JoinedCond
namespace Go.Proofs.Ytibaejoonmedjaa
open Go.ChangeShapes Go.WideShapes Go.ChangeAt Go.RowKit Oct
set_option linter.unusedVariables false

/-- The slice (a, n) of ints reads as ns. -/
structure Ints (w : World) (a : Option Addr) (n : Nat) (ns : List Int) : Prop where
  len : ns.length = n
  range : ∀ x ∈ ns, -9223372036854775808 ≤ x ∧ x ≤ 9223372036854775807
  cell : n = 0 ∨ ∃ b off, a = some ⟨b, off, none⟩ ∧ b < w.heap.size ∧ ∀ i, i < n → w.cell? ⟨b, off + i, none⟩ = some (.int .i64 (ns.getD i 0))

/-- What is written of a number: as any number, and, from 0 on, once more. -/
def one (x : Int) : List Int := vint (zz x) ++ (if 0 ≤ x then vint x else [])
def allOf (ns : List Int) : List Int := (ns.map one).flatten

theorem allOf_succ {ns : List Int} {k : Nat} (hk : k < ns.length) : allOf (ns.take (k + 1)) = allOf (ns.take k) ++ one (ns.getD k 0) := by
  rw [List.take_succ_eq_append_getElem hk]
  simp only [allOf, List.map_append, List.flatten_append, List.map_cons, List.map_nil, List.flatten_cons, List.flatten_nil, List.append_nil]
  simp [List.getD, hk]
theorem allOf_drop {ns : List Int} {k : Nat} (hk : k < ns.length) : allOf (ns.drop k) = one (ns.getD k 0) ++ allOf (ns.drop (k + 1)) := by
  rw [drop_cons hk]
  simp [allOf]
theorem one_len (x : Int) : (one x).length ≤ 20 := by
  unfold one
  have h1 := vint_len (zz x)
  have h2 := vint_len x
  rw [List.length_append]
  split
  · omega
  · simp; omega
theorem allOf_len (ns : List Int) : (allOf ns).length ≤ 20 * ns.length := by
  induction ns with
  | nil => simp [allOf]
  | cons x r ih =>
    have h : allOf (x :: r) = one x ++ allOf r := by simp [allOf]
    have h1 := one_len x
    rw [h, List.length_append, List.length_cons]
    omega

theorem rdI_head (x : Int) (r : List Int) (h0 : -9223372036854775808 ≤ x) (h1 : x ≤ 9223372036854775807) : rdI (vint (zz x) ++ r) = (x, (vint (zz x)).length, 0) := by
  obtain ⟨hz0, hz1⟩ := zz_range x h0 h1
  rw [rdI_ok (scan_vint (zz x) r hz0 hz1), uz_zz]
theorem rdU_head (x : Int) (r : List Int) (h0 : 0 ≤ x) (h1 : x ≤ 9223372036854775807) : rdU (vint x ++ r) = (x, (vint x).length, 0) :=
  rdU_ok (scan_vint x r h0 (by omega)) (by omega)

theorem join_two (b : Nat) (a1 a2 : Option Addr) (n1 n2 c1 c2 L : Nat) (z1 z2 : List Int) (w : World) (hc1 : w.cell? ⟨b, 0, none⟩ = some (.slice a1 n1 c1)) (hc2 : w.cell? ⟨b, 1, none⟩ = some (.slice a2 n2 c2))
    (hb1 : Bytes w a1 n1 c1 z1) (hb2 : Bytes w a2 n2 c2 z2) (hL : n1 + n2 = L) (hsum : L ≤ 281474976710656) :
    Calls Try.prog 16 #[.slice (some ⟨b, 0, none⟩) 2 2] w fun e w' => ∃ a c, e = .returned (.slice a L c) ∧ Bytes w' a L c (z1 ++ z2) ∧ Below w.heap.size w w' := by
  have e : joined [⟨a1, n1, c1, z1⟩, ⟨a2, n2, c2, z2⟩] = z1 ++ z2 := by simp [joined]
  have hl1 := hb1.len
  have hl2 := hb2.len
  have hl : (z1 ++ z2).length = L := by rw [List.length_append]; omega
  have h := join_any (some ⟨b, 0, none⟩) 2 2 [⟨a1, n1, c1, z1⟩, ⟨a2, n2, c2, z2⟩] w ⟨rfl, .inr ⟨b, 0, rfl, fun i hi => by
    match i, hi with
    | 0, _ => exact hc1
    | 1, _ => exact hc2⟩, fun p hp => by
      simp at hp
      rcases hp with rfl | rfl
      · exact hb1
      · exact hb2⟩ (by decide) (by rw [e, hl]; exact hsum)
  rw [e, hl] at h
  refine h.mono fun e w' ⟨he, ho, hb⟩ => ?_
  obtain ⟨a, c, hv, hB, _⟩ := Bytes.of_owns ho (fun z hz => by
    rcases List.mem_append.1 hz with h | h
    · exact hb1.byte z h
    · exact hb2.byte z h)
  simp only [Value.slice.injEq] at hv
  obtain ⟨rfl, _, rfl⟩ := hv
  exact ⟨_, _, he, hB, hb⟩

set_option maxHeartbeats 2000000 in
theorem back_walk (a : Option Addr) (n c : Nat) (ns : List Int) (w : World) (hi : Ints w a n ns) (hn : n ≤ 1048576) :
    Calls Try.prog 6 #[.slice a n c] w fun e w' => e = .returned (.bool true) ∧ Below w.heap.size w w' := by
  have HI : Hid (Ints w a n ns) := hi
  have HL : Hid (ns.length = n) := hi.len
  clear hi
  go_enter Try.func6, Try.ntmps6
  go_wp2_with fail
  refine (awake_any _).mono ?_
  rintro e w1 ⟨rfl, hb1⟩
  go_wp2_with fail
  go_loopw [3, 4] (fun v i wr => ∃ (k L : Nat) (x : Option Addr) (cp : Nat), k ≤ n ∧ i = .int .i64 k ∧ L ≤ 20 * k ∧ v = .slice x L cp ∧ Bytes wr x L cp (allOf (ns.take k)) ∧ Below w.heap.size w wr)
    (fun _ i _ => n - (intOf i).toNat)
  case atStart => exact ⟨0, 0, none, 0, Nat.zero_le _, rfl, Nat.zero_le _, rfl, bytes_nil _, hb1⟩
  case round =>
    clear hb1
    obtain ⟨k, L, x, cp, hk, rfl, hL, rfl, hB, hbr⟩ := hrel
    have HB : Hid (Bytes wr x L cp (allOf (ns.take k))) := hB
    have HR : Hid (Below w.heap.size w wr) := hbr
    clear hB hbr
    by_cases hlt : k < n
    · have hk' : k < ns.length := by rw [HL.out]; exact hlt
      obtain ⟨b, off, rfl, hbw, hcell⟩ : ∃ b off, a = some ⟨b, off, none⟩ ∧ b < w.heap.size ∧ ∀ i, i < n → w.cell? ⟨b, off + i, none⟩ = some (.int .i64 (ns.getD i 0)) := by
        rcases HI.out.cell with h | h
        · omega
        · exact h
      have HC : Hid (∀ wx, Below w.heap.size w wx → wx.cell? ⟨b, off + k, none⟩ = some (.int .i64 (ns.getD k 0))) := fun wx hx => (hx.cell (p := ⟨b, off + k, none⟩) hbw).trans (hcell k hlt)
      have hrange := HI.out.range (ns.getD k 0) (by simp [List.getD, hk'])
      have HS : Hid (allOf (ns.take (k + 1)) = allOf (ns.take k) ++ one (ns.getD k 0)) := allOf_succ hk'
      clear hcell
      generalize ns.getD k 0 = y at *
      obtain ⟨hy0, hy1⟩ := hrange
      have g0 := HC.out wr HR.out
      go_wp2_with fail
      clear g0
      have hv1 := vint_len (zz y)
      refine (int_b y _ hy0 hy1).mono ?_
      rintro e w2 ⟨a2, c2, rfl, hB2, hb2⟩
      generalize eM : (vint (zz y)).length = M at *
      have HR2 : Hid (Below w.heap.size w w2) := below_step HR.out hb2
      have HB2 : Hid (Bytes w2 x L cp (allOf (ns.take k))) := HB.out.later hb2
      have HT2 : Hid (Bytes w2 a2 M c2 (vint (zz y))) := hB2
      clear hb2 hB2 eM
      go_wp2_with fail
      refine (join_two w2.heap.size x a2 L M cp c2 (L + M) _ _ _ (by simp) (by simp) (HB2.out.later (below_alloc w2 _)) (HT2.out.later (below_alloc w2 _)) rfl (by omega)).mono ?_
      rintro e w3 ⟨a3, c3, rfl, hB3, hb3⟩
      have HR3 : Hid (Below w.heap.size w w3) := below_step (below_step HR2.out (below_alloc w2 _)) hb3
      have HB3 : Hid (Bytes w3 a3 (L + M) c3 (allOf (ns.take k) ++ vint (zz y))) := hB3
      clear hb3 hB3
      have g3 := HC.out w3 HR3.out
      by_cases hy : 0 ≤ y
      · have HO : Hid (one y = vint (zz y) ++ vint y) := by show _ = _; unfold one; rw [if_pos hy]
        have hv2 := vint_len y
        go_wp2_with fail
        clear g3
        refine (uint_b y _ hy hy1).mono ?_
        rintro e w4 ⟨a4, c4, rfl, hB4, hb4⟩
        generalize eM : (vint y).length = M2 at *
        have HR4 : Hid (Below w.heap.size w w4) := below_step HR3.out hb4
        have HB4 : Hid (Bytes w4 a3 (L + M) c3 (allOf (ns.take k) ++ vint (zz y))) := HB3.out.later hb4
        have HT4 : Hid (Bytes w4 a4 M2 c4 (vint y)) := hB4
        clear hb4 hB4 eM
        have g4 := HC.out w4 HR4.out
        go_wp2_with fail
        clear g4
        refine (join_two w4.heap.size a3 a4 (L + M) M2 c3 c4 (L + M + M2) _ _ _ (by simp) (by simp) (HB4.out.later (below_alloc w4 _)) (HT4.out.later (below_alloc w4 _)) rfl (by omega)).mono ?_
        rintro e w5 ⟨a5, c5, rfl, hB5, hb5⟩
        have HR5 : Hid (Below w.heap.size w w5) := below_step (below_step HR4.out (below_alloc w4 _)) hb5
        have HB5 : Hid (Bytes w5 a5 (L + M + M2) c5 (allOf (ns.take (k + 1)))) := by
          rw [HS.out, HO.out, ← List.append_assoc]; exact hB5
        clear hb5 hB5
        go_wp2_with fail
        go_roundw
        case rel => exact ⟨k + 1, L + M + M2, a5, c5, by omega, by go_num, by omega, rfl, HB5.out, HR5.out⟩
        case measure => simp [intOf]; omega
      · have HO : Hid (one y = vint (zz y)) := by show _ = _; unfold one; rw [if_neg hy, List.append_nil]
        go_wp2_with fail
        clear g3
        refine (uint_neg y _ (by omega)).mono ?_
        rintro e w4 ⟨rfl, rfl⟩
        have g4 := HC.out w4 HR3.out
        go_wp2_with fail
        clear g4
        refine (join_two w4.heap.size a3 none (L + M) 0 c3 0 (L + M) _ _ _ (by simp) (by simp) (HB3.out.later (below_alloc w4 _)) (bytes_nil _) rfl (by omega)).mono ?_
        rintro e w5 ⟨a5, c5, rfl, hB5, hb5⟩
        have HR5 : Hid (Below w.heap.size w w5) := below_step (below_step HR3.out (below_alloc w4 _)) hb5
        have HB5 : Hid (Bytes w5 a5 (L + M) c5 (allOf (ns.take (k + 1)))) := by
          rw [HS.out, HO.out]; rw [List.append_nil] at hB5; exact hB5
        clear hb5 hB5
        go_wp2_with fail
        go_roundw
        case rel => exact ⟨k + 1, L + M, a5, c5, by omega, by go_num, by omega, rfl, HB5.out, HR5.out⟩
        case measure => simp [intOf]; omega
    · have ek : k = n := by omega
      subst ek
      have et : ns.take k = ns := List.take_of_length_le (by rw [HL.out]; exact Nat.le_refl _)
      rw [et] at HB
      clear et
      go_wp2_with fail
      refine (new_any x L cp (allOf ns) _ HB.out (by omega)).mono ?_
      rintro e w2 ⟨r, g, rfl, hRd, hr, hg, hr2, hb2⟩
      have HR2 : Hid (Below w.heap.size w w2) := below_step HR.out hb2
      have HRd : Hid (Rd w2 r g (allOf ns)) := hRd
      have hrw : w.heap.size ≤ r := by have := HR.out.size; omega
      clear hb2 hRd hr hg hr2
      go_wp2_with fail
      go_loopw [8] (fun i wr => ∃ j : Nat, j ≤ k ∧ i = .int .i64 j ∧ Rd wr r g (allOf (ns.drop j)) ∧ Below w.heap.size w wr) (fun i _ => k - (intOf i).toNat)
      case atStart => exact ⟨0, Nat.zero_le _, rfl, HRd.out, HR2.out⟩
      case round =>
        clear HRd HR2 HB HR
        obtain ⟨j, hj, rfl, hRd, hbr⟩ := hrel
        have HR : Hid (Below w.heap.size w wr) := hbr
        have HRd : Hid (Rd wr r g (allOf (ns.drop j))) := hRd
        clear hbr hRd
        by_cases hlt : j < k
        · have hj' : j < ns.length := by rw [HL.out]; exact hlt
          obtain ⟨b, off, rfl, hbw, hcell⟩ : ∃ b off, a = some ⟨b, off, none⟩ ∧ b < w.heap.size ∧ ∀ i, i < k → w.cell? ⟨b, off + i, none⟩ = some (.int .i64 (ns.getD i 0)) := by
            rcases HI.out.cell with h | h
            · omega
            · exact h
          have HC : Hid (∀ wx, Below w.heap.size w wx → wx.cell? ⟨b, off + j, none⟩ = some (.int .i64 (ns.getD j 0))) := fun wx hx => (hx.cell (p := ⟨b, off + j, none⟩) hbw).trans (hcell j hlt)
          have hrange := HI.out.range (ns.getD j 0) (by simp [List.getD, hj'])
          have HS : Hid (allOf (ns.drop j) = one (ns.getD j 0) ++ allOf (ns.drop (j + 1))) := allOf_drop hj'
          clear hcell
          generalize ns.getD j 0 = y at *
          obtain ⟨hy0, hy1⟩ := hrange
          by_cases hy : 0 ≤ y
          · have HE : Hid (allOf (ns.drop j) = vint (zz y) ++ (vint y ++ allOf (ns.drop (j + 1)))) := by
              show _ = _
              rw [HS.out]; unfold one; rw [if_pos hy, List.append_assoc]
            go_wp2_with fail
            refine (rInt_any r g _ _ HRd.out).mono ?_
            rw [HE.out, rdI_head y _ hy0 hy1]
            rintro e w3 ⟨rfl, hRd3, hg3⟩
            have HR3 : Hid (Below w.heap.size w w3) := HR.out.trans (below_grown hg3 hrw HR.out.size)
            have HRd3 : Hid (Rd w3 r g (vint y ++ allOf (ns.drop (j + 1)))) := hide (by simpa using hRd3)
            clear hRd3 hg3
            have g3 := HC.out w3 HR3.out
            go_wp2_with fail
            clear g3
            refine (rUint_any r g _ _ HRd3.out).mono ?_
            rw [rdU_head y _ hy hy1]
            rintro e w4 ⟨rfl, hRd4, hg4⟩
            have HR4 : Hid (Below w.heap.size w w4) := HR3.out.trans (below_grown hg4 hrw HR3.out.size)
            have HRd4 : Hid (Rd w4 r g (allOf (ns.drop (j + 1)))) := hide (by simpa using hRd4)
            clear hRd4 hg4
            have g4 := HC.out w4 HR4.out
            go_wp2_with fail
            clear g4
            go_roundw
            case rel => exact ⟨j + 1, by omega, by go_num, HRd4.out, HR4.out⟩
            case measure => simp [intOf]; omega
          · have HE : Hid (allOf (ns.drop j) = vint (zz y) ++ allOf (ns.drop (j + 1))) := by
              show _ = _
              rw [HS.out]; unfold one; rw [if_neg hy, List.append_nil]
            go_wp2_with fail
            refine (rInt_any r g _ _ HRd.out).mono ?_
            rw [HE.out, rdI_head y _ hy0 hy1]
            rintro e w3 ⟨rfl, hRd3, hg3⟩
            have HR3 : Hid (Below w.heap.size w w3) := HR.out.trans (below_grown hg3 hrw HR.out.size)
            have HRd3 : Hid (Rd w3 r g (allOf (ns.drop (j + 1)))) := hide (by simpa using hRd3)
            clear hRd3 hg3
            have g3 := HC.out w3 HR3.out
            go_wp2_with fail
            clear g3
            go_roundw
            case rel => exact ⟨j + 1, by omega, by go_num, HRd3.out, HR3.out⟩
            case measure => simp [intOf]; omega
        · have ed : allOf (ns.drop j) = [] := by rw [List.drop_eq_nil_of_le (by rw [HL.out]; omega)]; rfl
          rw [ed] at HRd
          clear ed
          go_wp2_with (first
            | (go_at_call 23; refine (rLeft_any r g _ _ HRd.out).mono ?_; rintro e w3 ⟨rfl, rfl⟩)
            | (go_at_call 24; refine (rDone_any r g _ _ HRd.out).mono ?_; rintro e w4 ⟨rfl, rfl⟩))
          go_ret
          exact ⟨rfl, HR.out⟩

theorem cells3 : Try.prog.cellsOf 3 = 1 := by kernel_rfl

/-- Each value counts one at least. -/
theorem bulk_pos {H : Type} (d : DataW H) : 1 ≤ Rows.uptoBulk d := by
  cases d with
  | lit l => cases l <;> simp [Rows.uptoBulk]
  | _ => simp [Rows.uptoBulk]
theorem bulk_length {H : Type} (l : List (DataW H)) : l.length ≤ Rows.uptoBulkAll l := by
  induction l with
  | nil => simp [Rows.uptoBulkAll]
  | cons x r ih => have := bulk_pos x; simp only [Rows.uptoBulkAll, List.length_cons]; omega

/-- A slice of ints that came in. -/
theorem open_ns {H : Type} {enc : TypeId × Value → H} {W : World} {a : Option Addr} {n c : Nat} {d : DataW H} {p : List MemPlace}
    (h : DataW.Trod enc Try.prog W 0 (fun _ => true) true 44 (.slice a n c) d p) :
    ∃ ns, Ints W a n ns ∧ ((d = .nil ∧ n = 0) ∨ ∃ spare, d = .slice (lits .i64 ns) spare) := by
  obtain ⟨fuel, hf⟩ := h
  rcases open_ints Try.underlying44 Try.underlying3 cells3 hf with ⟨hcs, hx⟩ | ⟨x, l, c', zs, hcs, _, hl, hm, hz, hx, hcell, hwz⟩
  · simp [Value.cells] at hcs
    obtain ⟨rfl, rfl, rfl⟩ := hcs
    simp only [Prod.mk.injEq] at hx
    exact ⟨[], ⟨rfl, by simp, .inl rfl⟩, .inl ⟨hx.1, rfl⟩⟩
  · simp [Value.cells] at hcs
    obtain ⟨rfl, rfl, rfl⟩ := hcs
    simp only [Prod.mk.injEq] at hx
    simp only [if_true] at hz
    refine ⟨zs.take n, ⟨by rw [List.length_take]; omega, fun z hz' => wf_i64 (hwz z (List.mem_of_mem_take hz')), ?_⟩, .inr ⟨_, hx.1⟩⟩
    by_cases h0 : n = 0
    · exact .inl h0
    · obtain ⟨b, off, spot⟩ := x
      have hspot : spot = none := by simpa [Addr.add] using World.cell?_spot (hcell 0 (by omega))
      subst hspot
      refine .inr ⟨b, off, rfl, World.block_lt_of_cell? W _ (hcell 0 (by omega)), fun i hi => ?_⟩
      have := hcell i (by omega)
      rw [Addr.add_lit] at this
      rw [this]
      simp [List.getD, hi]

theorem small_ns {H : Type} {W : World} {a : Option Addr} {n : Nat} {ns : List Int} {d : DataW H} (hb : Ints W a n ns) (hd : (d = .nil ∧ n = 0) ∨ ∃ spare, d = .slice (lits .i64 ns) spare) (hk : Rows.uptoSmall H [d] = true) : n ≤ 1048576 := by
  rcases hd with ⟨_, rfl⟩ | ⟨spare, rfl⟩
  · exact Nat.zero_le _
  · have h : Rows.uptoBulkAll [DataW.slice (lits (H := H) .i64 ns) spare] ≤ 1048576 := of_decide_eq_true hk
    have h2 := bulk_length (lits (H := H) .i64 ns)
    simp only [Rows.uptoBulkAll, Rows.uptoBulk] at h
    simp only [lits, List.length_map, hb.len] at h2
    simp only [lits] at h
    omega

theorem back_contract (H : Type) (enc : TypeId × Value → H) (W : World) (base : Nat) (args : Array Value) (ds gs : List (DataW H)) (before : List MemPlace)
    (hval : ∀ (j : Nat) t v, Try.f6.params[j]? = some t → args[j]? = some v → Value.okWide Try.prog W .any base t v)
    (hW : DataW.Whole enc Try.prog Try.f6.params.toList Rows.octetBackSpec.vars false W args.toList ds gs before) (hk : Rows.uptoSmall H (ds ++ gs) = true) :
    Calls Try.prog 6 args W fun e W' => ∃ v, e = .returned v ∧ Rows.octetBackSpec.post enc Try.prog Try.f6 false true false false W args v W' := by
  have hW' := hW
  obtain ⟨p, q, hA0, hV, rfl, hfz, hnd⟩ := hW
  have hA : DataW.TrodAll enc Try.prog W 0 (fun _ => true) true Try.f6.params.toList args.toList ds p := hA0
  rw [Try.params6] at hA hval
  obtain ⟨v0, vs0, d0, ds0, p0, q0, hargs, rfl, rfl, h0, r0⟩ := trodAll_cons hA
  obtain ⟨rfl, rfl, rfl⟩ := trodAll_nil r0
  obtain rfl : args = #[v0] := by cases args; simp_all
  obtain ⟨rfl, rfl⟩ := trodVars_none hV
  obtain ⟨a0, n, c, rfl⟩ := okWide_slice Try.underlying44 (hval 0 44 v0 rfl rfl)
  have k0 := h0
  have lt0 : ∀ x ∈ p0, x.block < W.heap.size := by obtain ⟨m, hm⟩ := k0; exact DataW.trod_lt m _ _ _ hm
  obtain ⟨ns, hb, hd⟩ := open_ns h0
  have hn := small_ns hb hd hk
  clear hA0
  refine (back_walk a0 n c ns W hb hn).mono fun e W' ⟨he, bel⟩ => ?_
  subst he
  exact ⟨_, rfl, _, _, _, [], _, [], hW', trodAll_mk1 (shut_bool Try.underlying4 _), trodAll_cons_mk (Below.trod laidOut (by kernel_rfl) (of_decide_eq_true (by kernel_rfl)) k0 bel lt0) trodAll_mk0, rfl, bel.frame _, fun h => by cases h⟩

set_option maxRecDepth 100000 in
theorem octetBack_lifted (os : Os) (started : os.Started) (H : Type) (enc : TypeId × Value → H) (F : Stop.Interp) :
    ReturnsInHanded {} Try.checked os 6 .any ((Rows.OpenSpec.upto Rows.octetBackSpec).pre6 enc Try.prog Try.f6 Rows.octetBackUptoRow.domain false) (((Rows.OpenSpec.upto Rows.octetBackSpec).at F).post enc Try.prog Try.f6 false true false false) := by
  refine returnsInHanded_of_cond (C := Try.checked) (s := Rows.OpenSpec.upto Rows.octetBackSpec) (k := Rows.uptoSmall) rfl own started (by kernel_rfl) Try.func6
    (OpenSpec.witness (enc := enc) (C := Try.checked) (s := Rows.OpenSpec.upto Rows.octetBackSpec) (k := Rows.uptoSmall) rfl false ⟨#[], #[.slice none 0 0], []⟩ 8 (by kernel_rfl) (by kernel_rfl) (by kernel_rfl)
      (x := ([.nil], [], [])) (by kernel_rfl) rfl (by kernel_rfl)) ?_
  intro W base args ds gs before hval hW _ hk _
  exact back_contract H enc W base args ds gs before hval hW hk

theorem octetBack_holds : Rows.OctetBackUptoSaid :=
  OpenClaim.holds_of_cond 6 Try.f6 rfl rfl rfl rfl rfl rfl rfl ⟨rfl, rfl, rfl, rfl, rfl⟩ rfl rfl rfl rfl rfl (by kernel_rfl) Try.func6 (by kernel_rfl)
    (of_decide_eq_true (by kernel_rfl)) (by unfold Func.isWrapper; first | (rw [if_pos (by decide +kernel)]; kernel_rfl) | (rw [if_neg (by decide +kernel)]; exact ⟨rfl, rfl⟩))
    (fun os started H enc _ F => octetBack_lifted os started H enc F)
#print axioms octetBack_holds

end Go.Proofs.Ytibaejoonmedjaa

/-
  OctetReads holds: for every list of bytes and every script of steps, every answer of two readers in turns is the document's, what was handed in stays and may be written over; and the arguments read as before. No condition.
-/
import Derived.Test.YtibaejoonmedjaaRows
import Derived.Test.YtibaejoonmedjaaOpen
import Derived.Test.YtibaejoonmedjaaReads2
import Derived.Test.YtibaejoonmedjaaRoomy
import Derived.Deep.SlicePairs
namespace Go.Proofs.Ytibaejoonmedjaa
open Go.ChangeShapes Go.WideShapes Go.ChangeAt Go.RowKit Oct
set_option linter.unusedVariables false

/-- The slice (a, n) of steps. -/
structure Script (w : World) (a : Option Addr) (n : Nat) (K N : Nat → Int) : Prop where
  max : n ≤ 9223372036854775807
  cell : n = 0 ∨ ∃ b off, a = some ⟨b, off, none⟩ ∧ b < w.heap.size ∧ ∀ i, i < n → w.cell? ⟨b, off + i * 2, none⟩ = some (.int .i64 (K i)) ∧ w.cell? ⟨b, off + i * 2 + 1, none⟩ = some (.int .i64 (N i))

theorem bytes_block {w : World} {a : Option Addr} {n c : Nat} {zs : List Int} (h : Bytes w a n c zs) {r : Nat} (hr : w.heap.size ≤ r) : ∀ x, a = some x → n ≠ 0 → x.block ≠ r := by
  intro x hx hn
  obtain ⟨b, off, ha, hlt, _⟩ := h.at hn
  rw [hx] at ha
  cases ha
  show b ≠ r
  omega

set_option maxHeartbeats 4000000 in
set_option maxRecDepth 100000 in
theorem reads_walk (a : Option Addr) (n c : Nat) (zs : List Int) (sa : Option Addr) (sn sc : Nat) (K N : Nat → Int) (w : World) (hb : Bytes w a n c zs) (hsum : n ≤ 140737488351232) (hs : Script w sa sn K N) :
    Calls Try.prog 5 #[.slice a n c, .slice sa sn sc] w fun e w' => e = .returned (.bool true) ∧ Below w.heap.size w w' := by
  have HB : Hid (Bytes w a n c zs) := hb
  have HS : Hid (Script w sa sn K N) := hs
  have HL : Hid (zs.length = n) := hb.len
  have hsm := hs.max
  clear hb hs
  go_enter Try.func5, Try.ntmps5
  go_wp2_with fail
  refine (roomy_any a n c zs _ HB.out (by omega)).mono ?_
  rintro e w1 ⟨rfl, hown1, hb1⟩
  have HO1 := hide hown1
  have HB1 := hide hb1
  have hBin : Bytes w1 (some ⟨w.heap.size, 0, none⟩) n (n + 40) zs := by
    have h := (room_bytes hown1 HB.out.byte).take (k := n) (by omega)
    have e : (zs ++ marks).take n = zs := by rw [← HL.out]; exact List.take_left
    rw [e] at h
    exact h
  have hlt1 : w.heap.size < w1.heap.size := (hown1.lt w.heap.size rfl).2
  clear hown1 hb1
  go_wp2_with fail
  refine (new_any (some ⟨w.heap.size, 0, none⟩) n (n + 40) zs _ hBin (by omega)).mono ?_
  rintro e w2 ⟨r, g1, rfl, hR2, hr2, hg2, hr2', hb2⟩
  have HR2 := hide hR2
  have HB2 : Hid (Below w.heap.size w w2) := below_step HB1.out hb2
  have HO2 := hide (owns_later HO1.out hb2)
  have hg2' : g1 < w2.heap.size := hR2.lt.1
  clear hR2 hb2 hBin HO1
  go_wp2_with fail
  refine (new_any a n c zs _ (HB.out.later HB2.out) (by omega)).mono ?_
  rintro e w3 ⟨s, g2, rfl, hS3, hs3, hg3, hs3', hb3⟩
  have HR3 := hide (HR2.out.later hb3)
  have HS3 := hide hS3
  have HB3 : Hid (Below w.heap.size w w3) := below_step HB2.out hb3
  have HO3 := hide (owns_later HO2.out hb3)
  clear hS3 hb3 HR2 HO2
  go_wp2_with fail
  refine (awake_any _).mono ?_
  rintro e w4 ⟨rfl, hb4⟩
  have HR4 := hide (HR3.out.later hb4)
  have HS4 := hide (HS3.out.later hb4)
  have HB4 : Hid (Below w.heap.size w w4) := below_step HB3.out hb4
  have HO4 := hide (owns_later HO3.out hb4)
  clear hb4 HR3 HS3 HO3
  go_wp2_with fail
  refine (held_any w.heap.size 0 n (n + 40) a c zs _ (room_bytes HO4.out HB.out.byte) (HB.out.later HB4.out)).mono ?_
  rintro e w5 ⟨rfl, q, rfl⟩
  have HR5 := hide (rd_drewN HR4.out q)
  have HS5 := hide (rd_drewN HS4.out q)
  have HB5 : Hid (Below w.heap.size w (w4.drewN q)) := below_drewN HB4.out q
  have HO5 := hide (owns_later HO4.out (below_drewN (Below.refl _ _) q))
  clear HR4 HS4 HO4
  have hrB : w.heap.size < r := by omega
  have hgB : w.heap.size < g1 := by omega
  have hsB : w.heap.size < s := by omega
  have hg2B : w.heap.size < g2 := by omega
  have hrs : r < s := by omega
  have hg1s : g1 < s := by omega
  have hrg2 : r < g2 := by omega
  clear hr2 hg2 hr2' hs3 hg3 hs3' hg2'
  go_wp2_with fail
  go_loopw [8] (fun i wr => ∃ (k : Nat) (ys : List Int), k ≤ n ∧ i = .int .i64 k ∧ wr.ownsRow w.heap.size 5 1 (.slice (some ⟨w.heap.size, 0, none⟩) (n + 40) (n + 40)) (n + 40) (u8s ys) ∧ Rd wr r g1 zs ∧ Rd wr s g2 zs ∧ Below w.heap.size w wr)
    (fun i _ => n - (intOf i).toNat)
  case atStart => exact ⟨0, _, Nat.zero_le _, rfl, HO5.out, HR5.out, HS5.out, HB5.out⟩
  case round =>
    clear HO5 HR5 HS5 HB5 HB4 HB3 HB2 HB1
    obtain ⟨k, ys, hk, rfl, hown, hRr, hSr, hbr⟩ := hrel
    have HO := hide hown
    have HRr := hide hRr
    have HSr := hide hSr
    have HBr := hide hbr
    clear hown hRr hSr hbr
    by_cases hlt : k < n
    · have hyl : ys.length = n + 40 := by have := HO.out.1; simpa using this
      have hu : wr.cell? ⟨w.heap.size, k, none⟩ = some (.int .u8 (ys.getD k 0)) := by
        rw [HO.out.cellAt k (by omega)]
        simp [List.getD, show k < ys.length by omega]
      have hfz := HO.out.frozenAt k
      generalize ys.getD k 0 = y at hu
      clear hyl
      go_wp2_with fail
      have hst := HO.out.stored k (.int .u8 (bits BinOp.xor IntKind.u8 y 85))
      have e2 : (u8s ys).set k (.int .u8 (bits BinOp.xor IntKind.u8 y 85)) = u8s (ys.set k (bits BinOp.xor IntKind.u8 y 85)) := by simp [List.map_set]
      rw [e2] at hst
      go_roundw
      case rel => exact ⟨k + 1, _, by omega, by go_num, hst.1, HRr.out.kept hst.2 (by simp; omega) (by simp; omega), HSr.out.kept hst.2 (by simp; omega) (by simp; omega), HBr.out.trans (below_grown hst.2 (Nat.le_refl _) HBr.out.size)⟩
      case measure => simp [intOf]; omega
    · clear HO
      go_wp2_with fail
      go_loopw [9, 10, 11] (fun x y i wr => ∃ (j : Nat) (ax : Option Addr) (nx cx : Nat) (zx : List Int) (ay : Option Addr) (ny cy : Nat) (zy : List Int), j ≤ sn ∧ i = .int .i64 j ∧ x = .slice ax nx cx ∧ y = .slice ay ny cy ∧
          Bytes w ax nx cx zx ∧ Bytes w ay ny cy zy ∧ nx ≤ n ∧ ny ≤ n ∧ Rd wr r g1 zx ∧ Rd wr s g2 zy ∧ Below w.heap.size w wr)
        (fun _ _ i _ => sn - (intOf i).toNat)
      case atStart => exact ⟨0, a, n, c, zs, a, n, c, zs, Nat.zero_le _, rfl, rfl, rfl, HB.out, HB.out, Nat.le_refl _, Nat.le_refl _, HRr.out, HSr.out, HBr.out⟩
      case round =>
        clear HRr HSr HBr
        obtain ⟨j, ax, nx, cx, zx, ay, ny, cy, zy, hj, rfl, rfl, rfl, hX, hY, hnx, hny, hRr, hSr, hbr⟩ := hrel
        have HX := hide hX
        have HY := hide hY
        have HRr := hide hRr
        have HSr := hide hSr
        have HBr := hide hbr
        clear hX hY hRr hSr hbr
        by_cases hjn : j < sn
        · obtain ⟨b, off, rfl, hbw, hcell⟩ : ∃ b off, sa = some ⟨b, off, none⟩ ∧ b < w.heap.size ∧ ∀ i, i < sn → w.cell? ⟨b, off + i * 2, none⟩ = some (.int .i64 (K i)) ∧ w.cell? ⟨b, off + i * 2 + 1, none⟩ = some (.int .i64 (N i)) := by
            rcases HS.out.cell with h | h
            · omega
            · exact h
          have c0 : wr.cell? ⟨b, off + j * 2, none⟩ = some (.int .i64 (K j)) := (HBr.out.cell (p := ⟨b, off + j * 2, none⟩) hbw).trans (hcell j hjn).1
          have c1 : wr.cell? ⟨b, off + j * 2 + 1, none⟩ = some (.int .i64 (N j)) := (HBr.out.cell (p := ⟨b, off + j * 2 + 1, none⟩) hbw).trans (hcell j hjn).2
          clear hcell
          generalize K j = kj at c0
          generalize N j = nj at c1
          by_cases h3 : ((j : Int) % 3 == 2) = true
          · go_wp2_with fail
            refine (reads_any s g2 zy ay ny cy kj nj _ HSr.out (HY.out.later HBr.out) (fun x hx hn => bytes_block HY.out (by omega) x hx hn) (by omega)).mono ?_
            rintro e w7 ⟨a', n', c', rfl, k', hk', htl, hR', hg'⟩
            have hY' := htl w zy HY.out
            have hyl := HY.out.len
            have hyl' := hY'.len
            have hn' : n' ≤ n := by rw [List.length_drop] at hyl'; omega
            have HY' := hide hY'
            have HR' := hide hR'
            have HRr' := hide (HRr.out.kept hg' (by simp; omega) (by simp; omega))
            have HBr' : Hid (Below w.heap.size w w7) := HBr.out.trans (below_grown hg' (by omega) HBr.out.size)
            clear htl hR' hg' hY' hyl hyl' c0 c1 HY HSr HRr HBr
            go_wp2_with fail
            go_roundw
            case rel => exact ⟨j + 1, ax, nx, cx, zx, a', n', c', _, by omega, by go_num, rfl, rfl, HX.out, HY'.out, hnx, hn', HRr'.out, HR'.out, HBr'.out⟩
            case measure => simp [intOf]; omega
          · have h3' : ((j : Int) % 3 == 2) = false := by simpa using h3
            clear h3
            go_wp2_with fail
            refine (reads_any r g1 zx ax nx cx kj nj _ HRr.out (HX.out.later HBr.out) (fun x hx hn => bytes_block HX.out (by omega) x hx hn) (by omega)).mono ?_
            rintro e w7 ⟨a', n', c', rfl, k', hk', htl, hR', hg'⟩
            have hX' := htl w zx HX.out
            have hyl := HX.out.len
            have hyl' := hX'.len
            have hn' : n' ≤ n := by rw [List.length_drop] at hyl'; omega
            have HX' := hide hX'
            have HR' := hide hR'
            have HSr' := hide (HSr.out.kept hg' (by simp; omega) (by simp; omega))
            have HBr' : Hid (Below w.heap.size w w7) := HBr.out.trans (below_grown hg' (by omega) HBr.out.size)
            clear htl hR' hg' hX' hyl hyl' c0 c1 HX HSr HRr HBr
            go_wp2_with fail
            go_roundw
            case rel => exact ⟨j + 1, a', n', c', _, ay, ny, cy, zy, by omega, by go_num, rfl, rfl, HX'.out, HY.out, hn', hny, HR'.out, HSr'.out, HBr'.out⟩
            case measure => simp [intOf]; omega
        · go_wp2_with fail
          refine (reads_any r g1 zx ax nx cx 5 0 _ HRr.out (HX.out.later HBr.out) (fun x hx hn => bytes_block HX.out (by omega) x hx hn) (by omega)).mono ?_
          rintro e w7 ⟨a', n', c', rfl, k', hk', htl, hR', hg'⟩
          have HSr' := hide (HSr.out.kept hg' (by simp; omega) (by simp; omega))
          have HBr' : Hid (Below w.heap.size w w7) := HBr.out.trans (below_grown hg' (by omega) HBr.out.size)
          clear htl hR' hg' HSr HRr HBr
          go_wp2_with fail
          refine (reads_any s g2 zy ay ny cy 6 0 _ HSr'.out (HY.out.later HBr'.out) (fun x hx hn => bytes_block HY.out (by omega) x hx hn) (by omega)).mono ?_
          rintro e w8 ⟨a8, n8, c8, rfl, k8, hk8, htl8, hR8, hg8⟩
          have HB8 : Hid (Below w.heap.size w w8) := HBr'.out.trans (below_grown hg8 (by omega) HBr'.out.size)
          clear htl8 hR8 hg8
          go_wp2_with fail
          go_ret
          exact ⟨rfl, HB8.out⟩

theorem cells3' : Try.prog.cellsOf 3 = 1 := by kernel_rfl
theorem cells42 : Try.prog.cellsOf 42 = 2 := by kernel_rfl

/-- A slice of steps that came in. -/
theorem open_script {H : Type} {enc : TypeId × Value → H} {W : World} {a : Option Addr} {n c : Nat} {d : DataW H} {p : List MemPlace}
    (h : DataW.Trod enc Try.prog W 0 (fun _ => true) true 36 (.slice a n c) d p) : ∃ K N, Script W a n K N := by
  obtain ⟨fuel, hf⟩ := h
  rcases Deep.open_slice_pairs Try.underlying36 Try.underlying42 cells42 rfl rfl cells3' cells3' hf with ⟨hcs, hx⟩ | ⟨x, l, c', m, fl, V0, V1, D0, D1, P0, P1, hcs, _, hl, hm, hmm, hx, hcell⟩
  · simp [Value.cells] at hcs
    obtain ⟨rfl, rfl, rfl⟩ := hcs
    exact ⟨fun _ => 0, fun _ => 0, ⟨by omega, .inl rfl⟩⟩
  · simp [Value.cells] at hcs
    obtain ⟨rfl, rfl, rfl⟩ := hcs
    simp only [if_true] at hmm
    subst hmm
    have hmx : n ≤ 9223372036854775807 := by unfold maxLen at hm; omega
    have each : ∀ i, i < n → ∃ q : Int × Int, V0 i = .int .i64 q.1 ∧ V1 i = .int .i64 q.2 := by
      intro i hi
      obtain ⟨_, _, t0, t1⟩ := hcell i (by omega)
      obtain ⟨k0, e0, _, _⟩ := DataW.trod_int Try.underlying3 t0
      obtain ⟨k1, e1, _, _⟩ := DataW.trod_int Try.underlying3 t1
      simp at e0 e1
      exact ⟨(k0, k1), e0, e1⟩
    obtain ⟨q, hq⟩ := Deep.choose_lt each
    refine ⟨fun i => (q i).1, fun i => (q i).2, ⟨hmx, ?_⟩⟩
    by_cases h0 : n = 0
    · exact .inl h0
    · obtain ⟨b, off, spot⟩ := x
      have hspot : spot = none := by simpa [Addr.add] using World.cell?_spot (hcell 0 (by omega)).1
      subst hspot
      refine .inr ⟨b, off, rfl, World.block_lt_of_cell? W _ (by simpa [Addr.add] using (hcell 0 (by omega)).1), fun i hi => ?_⟩
      obtain ⟨h1, h2, _, _⟩ := hcell i (by omega)
      rw [Addr.add_lit] at h1 h2
      rw [(hq i hi).1] at h1
      rw [(hq i hi).2] at h2
      exact ⟨h1, by rw [Nat.add_assoc]; exact h2⟩

set_option maxRecDepth 100000 in
theorem octetReads_lifted (os : Os) (started : os.Started) (H : Type) (enc : TypeId × Value → H) :
    ReturnsInHanded {} Try.checked os 5 .any (Rows.octetReadsSpec.pre6 enc Try.prog Try.f5 Rows.octetReadsRow.domain false) (Rows.octetReadsSpec.post enc Try.prog Try.f5 false true false false) := by
  refine returnsInHanded_of_change_sized (C := Try.checked) own started (by kernel_rfl) Try.func5
    (ChangeSpec.witness6 (enc := enc) (C := Try.checked) false ⟨#[], #[.slice none 0 0, .slice none 0 0], []⟩ 8 (by kernel_rfl) (by kernel_rfl) (by kernel_rfl) (by kernel_rfl)) ?_
  intro W base args ds gs before hval0 hW _ hsz0 _
  have hsz : (DataW.weightsEach Try.prog (Try.f5.params.toList ++ Rows.octetReadsSpec.plain.varTypes Try.prog) (ds ++ gs)).all (· ≤ reachBytes) = true := hsz0
  have hval : ∀ (j : Nat) t v, Try.f5.params[j]? = some t → args[j]? = some v → Value.okWide Try.prog W .any base t v := hval0
  have hW' := hW
  obtain ⟨p, q, hA0, hV, rfl, hfz, hnd⟩ := hW
  have hA : DataW.TrodAll enc Try.prog W 0 (fun _ => true) true Try.f5.params.toList args.toList ds p := hA0
  rw [Try.params5] at hA hval hsz
  obtain ⟨v0, vs0, d0, ds0, p0, q0, hargs, rfl, rfl, h0, r0⟩ := trodAll_cons hA
  obtain ⟨v1, vs1, d1, ds1, p1, q1, rfl, rfl, rfl, h1, r1⟩ := trodAll_cons r0
  obtain ⟨rfl, rfl, rfl⟩ := trodAll_nil r1
  obtain rfl : args = #[v0, v1] := by cases args; simp_all
  obtain ⟨rfl, rfl⟩ := trodVars_none hV
  obtain ⟨a0, n, c, rfl⟩ := okWide_slice Try.underlying22 (hval 0 22 v0 rfl rfl)
  obtain ⟨a1, n1, c1, rfl⟩ := okWide_slice Try.underlying36 (hval 1 36 v1 rfl rfl)
  have k0 := h0
  have k1 := h1
  have lt0 : ∀ x ∈ p0, x.block < W.heap.size := by obtain ⟨m, hm⟩ := k0; exact DataW.trod_lt m _ _ _ hm
  have lt1 : ∀ x ∈ p1, x.block < W.heap.size := by obtain ⟨m, hm⟩ := k1; exact DataW.trod_lt m _ _ _ hm
  obtain ⟨zs, hb, hd⟩ := open_bytes h0
  obtain ⟨K, N, hsc⟩ := open_script h1
  have hreach := bytes_reach hb hd hsz 0 rfl rfl
  clear hA0 hval0 hsz0
  refine (reads_walk a0 n c zs a1 n1 c1 K N W hb hreach hsc).mono fun e W' ⟨he, bel⟩ => ?_
  subst he
  exact ⟨_, rfl, _, _, _, [], _, [], hW', trodAll_mk1 (shut_bool Try.underlying4 _), trodAll_cons_mk (Below.trod laidOut (by kernel_rfl) (of_decide_eq_true (by kernel_rfl)) k0 bel lt0) (trodAll_cons_mk (Below.trod laidOut (by kernel_rfl) (of_decide_eq_true (by kernel_rfl)) k1 bel lt1) trodAll_mk0), rfl, bel.frame _, fun h => by cases h⟩

theorem octetReads_holds : Rows.OctetReadsSaid :=
  OpenClaim.holds_of_wide 5 Try.f5 rfl rfl rfl rfl rfl rfl rfl ⟨rfl, rfl, rfl, rfl, rfl⟩ rfl rfl rfl rfl rfl (by kernel_rfl) Try.func5 (by kernel_rfl)
    (of_decide_eq_true (by kernel_rfl)) (by unfold Func.isWrapper; first | (rw [if_pos (by decide +kernel)]; kernel_rfl) | (rw [if_neg (by decide +kernel)]; exact ⟨rfl, rfl⟩))
    (fun os started H enc _ => octetReads_lifted os started H enc)
#print axioms octetReads_holds

end Go.Proofs.Ytibaejoonmedjaa

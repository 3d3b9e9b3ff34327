/-
  check.depthsOf.
-/
import Derived.Test.YtlhbgkaknfhlnaaGreatZEaA
import Derived.Test.YtlhbgkaknfhlnaaGreatZE3
import Derived.Laws.MakeOwn
namespace Go.Proofs.YtlhbgkaknfhlnaaGreat
open Go.RowKit Go.IntWalk Lx Pz
set_option linter.unusedVariables false

abbrev inA (L : List Int) : Array Value := (in64 L).toArray
theorem info3c : (Tryz.prog.info? 3).map (fun i => (i.zero, i.size, i.bytes)) = some (some (.int .i64 0), 1, 8) := by kernel_rfl
theorem inA_get (L : List Int) (i : Nat) (h : i < L.length) : (inA L)[i]? = some (.int .i64 (L.getD i 0)) := by
  unfold inA
  rw [List.getElem?_toArray, List.getElem?_map, List.getD_eq_getElem?_getD, List.getElem?_eq_getElem h]
  rfl
theorem made_in (n : Nat) : madeCells #[.int .i64 0] (n * 1) = inA (List.replicate n 0) := by
  apply Array.ext_getElem?
  intro i
  by_cases hi : i < n
  · rw [inA_get _ _ (by simpa using hi)]
    unfold madeCells
    rw [Array.getElem?_map, Array.getElem?_eq_getElem (by simpa using hi)]
    have hz : (List.replicate n (0 : Int)).getD i 0 = 0 := by
      rw [List.getD_eq_getElem?_getD, List.getElem?_replicate]; split <;> rfl
    rw [hz]
    simp only [Array.getElem_range, Option.map_some]
    show some ((#[Value.int .i64 0])[i % 1]!) = _
    rw [Nat.mod_one]
    rfl
  · rw [Array.getElem?_eq_none (by rw [size_madeCells]; omega), Array.getElem?_eq_none (by simp; omega)]
theorem make_in (n : Nat) (h : n ≤ 1024) (w : World) : (Instr.makeSlice 43 (.int .i64 n) (.int .i64 n)).run Tryz.prog w = .ok (.slice (some ⟨w.heap.size, 0, none⟩) n n) (w.alloc (.cells (inA (List.replicate n 0)) 3)) := by
  obtain ⟨i0, hi, hz0, hz1, hz2⟩ := Spn.info_parts info3c
  have := run_make w 43 3 i0 _ Tryz.underlying43 hi hz0 .i64 .i64 n n (by omega) (Int.le_refl _) (by rw [hz2]; omega) (by omega)
  rw [hz1] at this
  simp only [Int.toNat_natCast] at this
  have e : madeCells (Value.int .i64 0).cells (n * 1) = inA (List.replicate n 0) := made_in n
  rw [e] at this
  exact this
theorem put_in {W : World} {g k : Nat} {D Z : List Int} {q : Int} (h : HasC W g 3 (inA (D ++ q :: Z))) (hk : D.length = k) (x : Int) : HasC (W.setCell ⟨g, k, none⟩ (.int .i64 x)) g 3 (inA (D ++ x :: Z)) := by
  subst hk
  have := h.set D.length (.int .i64 x)
  have e : (inA (D ++ q :: Z)).setIfInBounds D.length (.int .i64 x) = inA (D ++ x :: Z) := by
    apply Array.toList_inj.1
    simp only [Array.toList_setIfInBounds, List.map_append, List.map_cons]
    rw [List.set_append_right _ _ (by simp)]
    simp
  rwa [e] at this
theorem has_iz {W : World} {g : Nat} {L : List Int} (h : HasC W g 3 (inA L)) (hl : L.length ≤ 1024) : Iz W (some ⟨g, 0, none⟩) L.length L.length L := by
  refine ⟨rfl, Nat.le_refl _, by unfold maxLen; omega, .inr ⟨g, 0, rfl, h.lt, fun i hi => ?_⟩⟩
  rw [Nat.zero_add]
  exact h.cell i (inA_get L i hi)
theorem getI_pre {S Z : List Int} {i : Nat} (h : i < S.length) : (S ++ Z).getD i 0 = S.getD i 0 := by
  rw [List.getD_eq_getElem?_getD, List.getElem?_append_left h, ← List.getD_eq_getElem?_getD]
theorem repI_succ {n k : Nat} (h : k < n) : List.replicate (n - k) (0 : Int) = 0 :: List.replicate (n - (k + 1)) 0 := by
  rw [show n - k = (n - (k + 1)) + 1 by omega, List.replicate_succ]
theorem dp_args {D : List Int} {n : Nd} {k : Nat} (hk : k < (prts n).length) : (((prts n).map fun p => D.getD p.toNat 0).take (k + 1)).foldl max 0 = max ((((prts n).map fun p => D.getD p.toNat 0).take k).foldl max 0) (D.getD ((prts n).getD k 0).toNat 0) := by
  rw [take_snoc 0 (by simpa using hk), List.foldl_append]
  have e : ((prts n).map fun p => D.getD p.toNat 0).getD k 0 = D.getD ((prts n).getD k 0).toNat 0 := by
    simp [List.getD_eq_getElem?_getD, List.getElem?_map, List.getElem?_eq_getElem hk]
  rw [e]
  rfl
theorem dpR_snoc (BS : List Int) (A : List Nd) (n : Nd) (D : List Int) : dpR BS (A ++ [n]) D = dpR BS A D ++ [dpN BS (dpR BS A D) n] := by
  rw [dpR_app]; rfl
theorem wl_take {BS : List Int} {NS : List Nd} {s : Nat} (h : Wl BS s NS) (k : Nat) : Wl BS s (NS.take k) := by
  rw [← List.take_append_drop k NS, wl_app] at h
  exact h.1

/-- What depthsOf answers. -/
def DpP (w : World) (n : Nat) (D : List Int) (e : Ending) (W' : World) : Prop :=
  ∃ g, e = .returned (.slice (some ⟨g, 0, none⟩) n n) ∧ HasC W' g 3 (inA D) ∧ Below w.heap.size w W'

set_option maxRecDepth 100000 in
set_option maxHeartbeats 4000000 in
theorem depthsOf_any {W : World} {ba da : Option Addr} {bl bc dl dc : Nat} {nv : Value} (hnv : ∃ a k c, nv = .slice a k c) {root : Int} {BS : List Int} {NS : List Nd} (hB : Iz W ba bl bc BS) (hN : Nz W da dl dc NS) (hw : Wl BS 0 NS) (hd : dl ≤ 1024) :
    Calls Tryz.prog 31 #[.agg (tr4 nv (.slice ba bl bc) (.slice da dl dc) (.int .i64 root))] W (DpP W dl (dpR BS NS [])) := by
  obtain ⟨a1, n1, c1, rfl⟩ := hnv
  have hmk := make_in dl hd
  have hb1 := bel1 W (.cells (tr4 (.slice a1 n1 c1) (.slice ba bl bc) (.slice da dl dc) (.int .i64 root)) 46)
  have hb2 := bel hb1 (bel1 (W.alloc (.cells (tr4 (.slice a1 n1 c1) (.slice ba bl bc) (.slice da dl dc) (.int .i64 root)) 46)) (.cells (inA (List.replicate dl 0)) 3))
  have HT0 := hide ((HasC.new W 46 (tr4 (.slice a1 n1 c1) (.slice ba bl bc) (.slice da dl dc) (.int .i64 root))).alloc (.cells (inA (List.replicate dl 0)) 3))
  have HG0 : Hid (HasC ((W.alloc (.cells (tr4 (.slice a1 n1 c1) (.slice ba bl bc) (.slice da dl dc) (.int .i64 root)) 46)).alloc (.cells (inA (List.replicate dl 0)) 3)) (W.heap.size + 1) 3 (inA (List.replicate dl 0))) := by
    have := HasC.new (W.alloc (.cells (tr4 (.slice a1 n1 c1) (.slice ba bl bc) (.slice da dl dc) (.int .i64 root)) 46)) 3 (inA (List.replicate dl 0))
    simp only [World.size_alloc] at this
    exact hide this
  have HB0 := hide hb2
  have HBI := hide hB
  have HNI := hide hN
  have HLN := hide hN.len
  have HLB := hide hB.len
  have HW := hide hw
  clear hb1 hb2 hB hN hw
  go_enter Tryz.func31, Tryz.ntmps31
  go_wp2_with fail
  go_loopw [16] (fun i wr => ∃ (k : Nat) (D : List Int), k ≤ dl ∧ i = .int .i64 k ∧ Hid (dpR BS (NS.take k) [] = D) ∧ Hid (HasC wr (W.heap.size + 1) 3 (inA (D ++ List.replicate (dl - k) 0))) ∧ Hid (HasC wr W.heap.size 46 (tr4 (.slice a1 n1 c1) (.slice ba bl bc) (.slice da dl dc) (.int .i64 root))) ∧ Hid (Below W.heap.size W wr)) (fun i _ => dl - (intOf i).toNat)
  case atStart => exact ⟨0, [], Nat.zero_le _, rfl, hide rfl, HG0, HT0, HB0⟩
  case round =>
    obtain ⟨k, D, hk, rfl, HD, HG, HT, HB⟩ := hrel
    rename World => V
    by_cases hlt : k < dl
    · obtain ⟨g, off, rfl, hat⟩ := (HNI.out.later HB.out).at (by omega)
      obtain ⟨e0, e1, e2, e3, e4, e5, e6, e7, e8⟩ := hat k hlt
      clear hat
      have hi0 : (0 : Int) ≤ k := by omega
      have hi1 : (k : Int) < dl := by omega
      have hDl : D.length = k := by rw [← HD.out, dpR_len]; simp; rw [HLN.out]; omega
      have HDb : Hid (Db D) := hide (by rw [← HD.out]; exact Db.all (fun x hx => by simp at hx) (wl_take HW.out k))
      have HWn := hide (wl_at HW.out (by rw [HLN.out]; exact hlt : k < NS.length))
      rw [Nat.zero_add] at HWn
      have HD2 := hide (dpR_snoc BS (NS.take k) (NS.getD k n0) [])
      rw [← take_snoc n0 (by rw [HLN.out]; exact hlt), HD.out] at HD2
      rw [repI_succ hlt] at HG
      have x1 := HT.out.cell 1 rfl
      have hz0 : W.heap.size < V.heap.size := HT.out.lt
      have hz1 : W.heap.size + 1 < V.heap.size := HG.out.lt
      have y0 := HG.out.frozen k
      generalize NS.getD k n0 = n at *
      by_cases ho : n.op = 4
      · have ho1 : (n.op == 4) = true := by simpa using ho
        obtain ⟨u0, u1, u2, u3⟩ := HWn.out.use ho
        have hdpn : dpN BS D n = D.getD (BS.getD n.k.toNat 0).toNat 0 := by unfold dpN; rw [if_pos ho]
        rw [hdpn] at HD2
        obtain ⟨kk, hkk⟩ : ∃ kk : Nat, n.k = (kk : Int) := ⟨n.k.toNat, by omega⟩
        rw [hkk] at e4 u1 u2 u3 HD2
        simp only [Int.toNat_natCast] at u1 u2 u3 HD2
        obtain ⟨bb, boff, rfl, hbb, hbc⟩ : ∃ b off, ba = some ⟨b, off, none⟩ ∧ b < V.heap.size ∧ V.cell? ⟨b, off + kk, none⟩ = some (.int .i64 (BS.getD kk 0)) := by
          rcases (HBI.out.later HB.out).cell with h0 | ⟨b, off, ha, hlb, hc⟩
          · rw [HLB.out] at u1; omega
          · exact ⟨b, off, ha, hlb, hc kk (by rw [← HLB.out]; exact u1)⟩
        obtain ⟨q, hq⟩ : ∃ q : Nat, BS.getD kk 0 = (q : Int) := ⟨(BS.getD kk 0).toNat, by omega⟩
        rw [hq] at hbc u3 HD2
        simp only [Int.toNat_natCast] at u3 HD2
        have s0 := inA_get (D ++ 0 :: List.replicate (dl - (k + 1)) 0) q (by simp; omega)
        rw [getI_pre (by rw [hDl]; exact u3)] at s0
        have d0 := HG.out.cell q s0
        generalize D.getD q 0 = x at *
        have HG2 := hide ((put_in HG.out hDl x).alloc (.cells #[.int .i64 n.op, .int .i64 n.a, .int .i64 n.b, .int .i64 n.c, .int .i64 kk, .int .i64 n.back, .int .i64 n.co, .int .i64 n.x, .int .i64 n.y] 78))
        have HT2 := hide ((HT.out.other (p := ⟨W.heap.size + 1, k, none⟩) (by simp) (.int .i64 x)).alloc (.cells #[.int .i64 n.op, .int .i64 n.a, .int .i64 n.b, .int .i64 n.c, .int .i64 kk, .int .i64 n.back, .int .i64 n.co, .int .i64 n.x, .int .i64 n.y] 78))
        have HB2 := hide (bel (HB.out.setCell (p := ⟨W.heap.size + 1, k, none⟩) (by simp) (.int .i64 x)) (bel1 _ (.cells #[.int .i64 n.op, .int .i64 n.a, .int .i64 n.b, .int .i64 n.c, .int .i64 kk, .int .i64 n.back, .int .i64 n.co, .int .i64 n.x, .int .i64 n.y] 78)))
        have da := HG.out.cell k (inA_get _ k (by simp; omega))
        have w0 : (kk : Int) < bl := by have := HLB.out; omega
        have w1 : (q : Int) < dl := by omega
        have w2 : (0 : Int) ≤ kk := by omega
        have w3 : (0 : Int) ≤ q := by omega
        clear s0 hq u0 u1 u2 u3 hdpn ho HWn hmk HDb
        go_wp2_with fail
        go_roundw
        case rel => exact ⟨k + 1, D ++ [x], by omega, by go_num, hide HD2.out, hide (by rw [List.append_assoc]; exact HG2.out), hide HT2.out, hide HB2.out⟩
        case measure => simp [intOf]; omega
      · have ho1 : (n.op == 4) = false := by simpa using ho
        have HW2 := HWn.out
        obtain ⟨ar, har⟩ : ∃ ar : Nat, prZ n.op = ar := ⟨(prZ n.op).toNat, by have := HW2.pr; omega⟩
        have h3 : ar ≤ 3 := by
          have : prZ n.op ≤ 3 := by unfold prZ arZ; repeat' split <;> omega
          omega
        have HPt := hide fun j hj => prts_at (n := n) (j := j) har h3 hj
        have HPl := hide (prts_len har h3)
        have HPr := hide HW2.prt
        have HSg := hide fun j hj => dp_args (D := D) (n := n) (k := j) hj
        have hdpn : dpN BS D n = ((prts n).map fun p => D.getD p.toNat 0).foldl max 0 + 1 := by unfold dpN; rw [if_neg ho]
        have hin := dpN_in HDb.out (by rw [hDl]; exact HW2)
        rw [hdpn] at HD2 hin
        obtain ⟨L, hL⟩ : ∃ L, ((prts n).map fun p => D.getD p.toNat 0) = L := ⟨_, rfl⟩
        have HLl : Hid (L.length = ar) := hide (by rw [← hL, List.length_map, HPl.out])
        have HLb : Hid (∀ j, 0 ≤ (L.take j).foldl max 0 ∧ (L.take j).foldl max 0 ≤ 1024) := hide fun j => ⟨le_fold_max _ _, fold_max_le _ _ _ (by omega) fun x hx => by
          have := mem_fold_max L 0 x (List.mem_of_mem_take hx)
          rw [← hL] at this
          omega⟩
        rw [hL] at HSg HD2
        have HPO := hide (partsOf_any n ar (by rw [HW2.ar ho, har]) h3 (V.alloc (.cells (ndA n) 78)))
        have hl := bel1 V (.cells (ndA n) 78)
        have HG1 := hide (HG.out.alloc (.cells (ndA n) 78))
        have HT1 := hide (HT.out.alloc (.cells (ndA n) 78))
        have HB1 := hide (bel HB.out hl)
        clear hl hL hdpn har HW2 HWn ho hin HDb hmk
        go_wp2_with fail
        refine HPO.out.mono ?_
        rintro e V1 ⟨gp, rfl, -, hGp, hb⟩
        have HGp := hide hGp
        have HGa := hide (HG1.out.below hb)
        have HTa := hide (HT1.out.below hb)
        have HBa := hide (bel HB1.out hb)
        have hza := HGa.out.lt
        have ya := HGa.out.frozen k
        have da := HGa.out.cell k (inA_get _ k (by simp; omega))
        clear hb hGp HG1 HT1 HB1 HPO HG HT HB e0 e1 e2 e3 e4 e5 e6 e7 e8 x1 y0
        go_wp2_with fail
        go_loop [6, 39] (fun m i => ∃ j : Nat, j ≤ ar ∧ i = .int .i64 j ∧ m = .int .i64 ((L.take j).foldl max 0)) (fun _ i => ar - (intOf i).toNat)
        case atStart => exact ⟨0, Nat.zero_le _, rfl, rfl⟩
        case round =>
          obtain ⟨j, hj, rfl, rfl⟩ := hrel
          by_cases hlj : j < ar
          · have cp := HGp.out.cell j (HPt.out j hlj).1
            obtain ⟨p0, p1⟩ := HPr.out _ (HPt.out j hlj).2
            have HTt := hide (HSg.out j (by rw [HPl.out]; exact hlj))
            obtain ⟨q, hq⟩ : ∃ q : Nat, (prts n).getD j 0 = (q : Int) := ⟨((prts n).getD j 0).toNat, by omega⟩
            rw [hq] at cp p1 HTt
            simp only [Int.toNat_natCast] at p1 HTt
            have s0 := inA_get (D ++ 0 :: List.replicate (dl - (k + 1)) 0) q (by simp; omega)
            rw [getI_pre (by rw [hDl]; exact p1)] at s0
            have d0 := HGa.out.cell q s0
            generalize D.getD q 0 = x at *
            have j0 : (0 : Int) ≤ j := by omega
            have j1 : (j : Int) < ar := by omega
            have i0 : (0 : Int) ≤ q := by omega
            have i1 : (q : Int) < dl := by omega
            clear s0 p0 p1 hq
            generalize (L.take j).foldl max 0 = mm at *
            go_wp2_with fail
            go_round
            case rel => exact ⟨j + 1, by omega, by go_num, by rw [HTt.out]⟩
            case measure => simp [intOf]; omega
          · obtain rfl : j = ar := by omega
            have e : L.take j = L := List.take_of_length_le (by rw [HLl.out]; exact Nat.le_refl _)
            obtain ⟨b0, b1⟩ := HLb.out j
            rw [e] at b0 b1 ⊢
            generalize L.foldl max 0 = mm at *
            have HG2 := hide (put_in HGa.out hDl (mm + 1))
            have HT2 := hide (HTa.out.other (p := ⟨W.heap.size + 1, k, none⟩) (by simp) (.int .i64 (mm + 1)))
            have HB2 := hide (HBa.out.setCell (p := ⟨W.heap.size + 1, k, none⟩) (by simp) (.int .i64 (mm + 1)))
            go_wp2_with fail
            go_roundw
            case rel => exact ⟨k + 1, D ++ [mm + 1], by omega, by go_num, hide HD2.out, hide (by rw [List.append_assoc]; exact HG2.out), hide HT2.out, hide HB2.out⟩
            case measure => simp [intOf]; omega
    · obtain rfl : k = dl := by omega
      have e : NS.take k = NS := List.take_of_length_le (by rw [HLN.out]; exact Nat.le_refl _)
      have hZ := HD.out
      rw [e] at hZ
      have HZ := hide hZ
      have HG1 := hide HG.out
      rw [Nat.sub_self, List.replicate_zero, List.append_nil] at HG1
      clear hZ
      go_wp2_with fail
      go_ret
      rw [HZ.out]
      exact ⟨_, rfl, HG1.out, HB.out⟩

end Go.Proofs.YtlhbgkaknfhlnaaGreat

/-
  check.spansOf.
-/
import Derived.Test.YtlhbgkaknfhlnaaGreatZE3
import Derived.Laws.MakeOwn
namespace Go.Proofs.YtlhbgkaknfhlnaaGreat
open Go.RowKit Go.IntWalk Lx Pz
set_option linter.unusedVariables false

abbrev spA (L : Sps) : Array Value := (Spn.sp64 L).toArray
theorem spA_get (L : Sps) (i : Nat) (h : i < L.length) : (spA L)[i * 2]? = some (.int .i64 (L.getD i (0, 0)).1) ∧ (spA L)[i * 2 + 1]? = some (.int .i64 (L.getD i (0, 0)).2) := by
  unfold spA
  rw [List.getElem?_toArray, List.getElem?_toArray]
  exact Spn.sp64_get L i h
theorem made_sp (n : Nat) : madeCells #[.int .i64 0, .int .i64 0] (n * 2) = spA (List.replicate n (0, 0)) := by
  apply Array.ext_getElem?
  intro i
  by_cases hi : i < n * 2
  · have h1 : (madeCells #[.int .i64 0, .int .i64 0] (n * 2))[i]? = some (.int .i64 0) := by
      unfold madeCells
      rw [Array.getElem?_map, Array.getElem?_eq_getElem (by simpa using hi)]
      simp only [Array.getElem_range, Option.map_some]
      rcases (show i % 2 = 0 ∨ i % 2 = 1 by omega) with h | h <;> (show some ((#[Value.int .i64 0, .int .i64 0])[i % 2]!) = _; rw [h]; rfl)
    rw [h1]
    obtain ⟨a, b⟩ := spA_get (List.replicate n (0, 0)) (i / 2) (by simp; omega)
    have hz : (List.replicate n ((0 : Int), (0 : Int))).getD (i / 2) (0, 0) = (0, 0) := by
      rw [List.getD_eq_getElem?_getD, List.getElem?_replicate]; split <;> rfl
    rw [hz] at a b
    rcases (show i % 2 = 0 ∨ i % 2 = 1 by omega) with h | h
    · rw [show i = i / 2 * 2 by omega]; exact a.symm
    · rw [show i = i / 2 * 2 + 1 by omega]; exact b.symm
  · rw [Array.getElem?_eq_none (by rw [size_madeCells]; omega), Array.getElem?_eq_none (by simp [Spn.sp64_len]; omega)]
theorem make_sp (n : Nat) (h : n ≤ 1024) (w : World) : (Instr.makeSlice 28 (.int .i64 n) (.int .i64 n)).run Tryz.prog w = .ok (.slice (some ⟨w.heap.size, 0, none⟩) n n) (w.alloc (.cells (spA (List.replicate n (0, 0))) 40)) := by
  obtain ⟨i0, hi, hz0, hz1, hz2⟩ := Spn.info_parts Spn.info26
  have := run_make w 28 40 i0 _ Tryz.underlying28 hi hz0 .i64 .i64 n n (by omega) (Int.le_refl _) (by rw [hz2]; omega) (by omega)
  rw [hz1] at this
  simp only [Int.toNat_natCast] at this
  have e : madeCells (Value.agg #[.int .i64 0, .int .i64 0]).cells (n * 2) = spA (List.replicate n (0, 0)) := made_sp n
  rw [e] at this
  exact this
theorem set_sp (S Z : Sps) (p q : Int × Int) : ((spA (S ++ q :: Z)).setIfInBounds (S.length * 2) (.int .i64 p.1)).setIfInBounds (S.length * 2 + 1) (.int .i64 p.2) = spA (S ++ p :: Z) := by
  apply Array.toList_inj.1
  simp only [Array.toList_setIfInBounds]
  have e : ∀ r : Int × Int, Spn.sp64 (S ++ r :: Z) = Spn.sp64 S ++ (.int .i64 r.1 :: .int .i64 r.2 :: Spn.sp64 Z) := fun r => by simp [Spn.sp64]
  rw [e, e, List.set_append_right _ _ (by rw [Spn.sp64_len]; omega), List.set_append_right _ _ (by rw [Spn.sp64_len]; omega), Spn.sp64_len]
  simp
theorem spans_has {W : World} {g : Nat} {L : Sps} (h : HasC W g 40 (spA L)) (hl : L.length ≤ 1024) : Spn.Spans W (some ⟨g, 0, none⟩) L.length L.length L := by
  refine ⟨rfl, Nat.le_refl _, by unfold maxLen; omega, (fun e => by cases e), .inr ⟨g, 0, rfl, fun i hi => ?_⟩⟩
  obtain ⟨a, b⟩ := spA_get L i hi
  rw [Nat.zero_add]
  exact ⟨h.cell (i * 2) a, h.cell (i * 2 + 1) b⟩
theorem put_sp {W : World} {g k : Nat} {S Z : Sps} {q : Int × Int} (h : HasC W g 40 (spA (S ++ q :: Z))) (hk : S.length = k) (x y : Int) : HasC ((W.setCell ⟨g, k * 2, none⟩ (.int .i64 x)).setCell ⟨g, k * 2 + 1, none⟩ (.int .i64 y)) g 40 (spA (S ++ (x, y) :: Z)) := by
  subst hk
  have := (h.set (S.length * 2) (.int .i64 x)).set (S.length * 2 + 1) (.int .i64 y)
  rwa [show ((spA (S ++ q :: Z)).setIfInBounds (S.length * 2) (.int .i64 x)).setIfInBounds (S.length * 2 + 1) (.int .i64 y) = spA (S ++ (x, y) :: Z) from set_sp S Z (x, y) q] at this

theorem getD_pre {S Z : Sps} {i : Nat} (h : i < S.length) : (S ++ Z).getD i (0, 0) = S.getD i (0, 0) := by
  rw [List.getD_eq_getElem?_getD, List.getElem?_append_left h, ← List.getD_eq_getElem?_getD]
theorem spN_pre {f d : Int} {BS : List Int} {S Z : Sps} {n : Nd} (hn : Wn BS S.length n) : spN f d BS (S ++ Z) n = spN f d BS S n := by
  unfold spN
  split
  · rename_i h4
    rw [getD_pre (hn.use h4).2.2.2]
  · split
    · rfl
    · split
      · rfl
      · split
        · rfl
        · congr 1
          apply List.map_congr_left
          intro p hp
          exact getD_pre (hn.prt p hp).2
theorem rep_succ {n k : Nat} (h : k < n) : List.replicate (n - k) ((0 : Int), (0 : Int)) = (0, 0) :: List.replicate (n - (k + 1)) (0, 0) := by
  rw [show n - k = (n - (k + 1)) + 1 by omega, List.replicate_succ]

theorem oth2' {W : World} {b r k : Nat} {t : TypeId} {cs : Array Value} (h : HasC W b t cs) (hr : b ≠ r) (x y : Value) : HasC ((W.setCell ⟨r, k * 2, none⟩ x).setCell ⟨r, k * 2 + 1, none⟩ y) b t cs := (h.other (p := ⟨r, k * 2, none⟩) hr x).other (p := ⟨r, k * 2 + 1, none⟩) hr y

/-- spanOf, whatever the node. -/
theorem spanOf_any (f d : Int) {n : Nd} {BS : List Int} {i sl sc : Nat} {a : Option Addr} {S : Sps} {W : World} (hm : Knd.May f d) (hn : Wn BS i n) (h4 : n.op ≠ 4) (hS : Spn.Spans W a sl sc S) (hi : i ≤ sl) :
    Calls Tryz.prog 54 #[.agg (kdA f d), .agg (ndA n), .slice a sl sc] W fun e W' => e = .returned (Spn.spV (spN f d BS S n)) ∧ Below W.heap.size W W' := by
  by_cases h : n.op = 1 ∨ n.op = 2 ∨ n.op = 3
  · exact spanOf_leaf f d n hm _ ⟨_, _, _, rfl⟩ h BS S W
  · exact spanOf_in f d n hn (by have := hn.lo; omega) hS hi

/-- What spansOf answers. -/
def SpP (w : World) (n : Nat) (Z : Sps × Int) (e : Ending) (W' : World) : Prop :=
  (Z.2 ≠ 0 ∧ e = .returned (.tuple #[.slice none 0 0, .int .i64 Z.2]) ∧ Below w.heap.size w W') ∨
  (Z.2 = 0 ∧ ∃ g, e = .returned (.tuple #[.slice (some ⟨g, 0, none⟩) n n, .int .i64 0]) ∧ w.heap.size ≤ g ∧ HasC W' g 40 (spA Z.1) ∧ Below w.heap.size w W')

set_option maxRecDepth 100000 in
set_option maxHeartbeats 4000000 in
theorem spansOf_any (f d : Int) {W : World} {ba da : Option Addr} {bl bc dl dc : Nat} {nv : Value} (hnv : ∃ a k c, nv = .slice a k c) {root : Int} {BS : List Int} {NS : List Nd} (hm : Knd.May f d) (hB : Iz W ba bl bc BS) (hN : Nz W da dl dc NS) (hw : Wl BS 0 NS) (hd : dl ≤ 1024) :
    Calls Tryz.prog 28 #[.agg (kdA f d), .agg (tr4 nv (.slice ba bl bc) (.slice da dl dc) (.int .i64 root))] W (SpP W dl (spR f d BS NS [])) := by
  obtain ⟨a1, n1, c1, rfl⟩ := hnv
  have hmk := make_sp dl hd
  have hb1 := bel1 W (.cells (kdA f d) 23)
  have hb2 := bel hb1 (bel1 (W.alloc (.cells (kdA f d) 23)) (.cells (tr4 (.slice a1 n1 c1) (.slice ba bl bc) (.slice da dl dc) (.int .i64 root)) 46))
  have hb3 := bel hb2 (bel1 ((W.alloc (.cells (kdA f d) 23)).alloc (.cells (tr4 (.slice a1 n1 c1) (.slice ba bl bc) (.slice da dl dc) (.int .i64 root)) 46)) (.cells (spA (List.replicate dl (0, 0))) 40))
  have HK0 := hide (((HasC.new W 23 (kdA f d)).alloc (.cells (tr4 (.slice a1 n1 c1) (.slice ba bl bc) (.slice da dl dc) (.int .i64 root)) 46)).alloc (.cells (spA (List.replicate dl (0, 0))) 40))
  have HT0 : Hid (HasC (((W.alloc (.cells (kdA f d) 23)).alloc (.cells (tr4 (.slice a1 n1 c1) (.slice ba bl bc) (.slice da dl dc) (.int .i64 root)) 46)).alloc (.cells (spA (List.replicate dl (0, 0))) 40)) (W.heap.size + 1) 46 (tr4 (.slice a1 n1 c1) (.slice ba bl bc) (.slice da dl dc) (.int .i64 root))) := by
    have := (HasC.new (W.alloc (.cells (kdA f d) 23)) 46 (tr4 (.slice a1 n1 c1) (.slice ba bl bc) (.slice da dl dc) (.int .i64 root))).alloc (.cells (spA (List.replicate dl (0, 0))) 40)
    simp only [World.size_alloc] at this
    exact hide this
  have HG0 : Hid (HasC (((W.alloc (.cells (kdA f d) 23)).alloc (.cells (tr4 (.slice a1 n1 c1) (.slice ba bl bc) (.slice da dl dc) (.int .i64 root)) 46)).alloc (.cells (spA (List.replicate dl (0, 0))) 40)) (W.heap.size + 1 + 1) 40 (spA (List.replicate dl (0, 0)))) := by
    have := HasC.new ((W.alloc (.cells (kdA f d) 23)).alloc (.cells (tr4 (.slice a1 n1 c1) (.slice ba bl bc) (.slice da dl dc) (.int .i64 root)) 46)) 40 (spA (List.replicate dl (0, 0)))
    simp only [World.size_alloc] at this
    exact hide this
  have HB0 := hide hb3
  have HBI := hide hB
  have HNI := hide hN
  have HLN := hide hN.len
  have HLB := hide hB.len
  have HW := hide hw
  clear hb1 hb2 hb3 hB hN hw
  go_enter Tryz.func28, Tryz.ntmps28
  go_wp2_with fail
  go_loopw [18] (fun i wr => ∃ (k : Nat) (S : Sps), k ≤ dl ∧ i = .int .i64 k ∧ Hid (spR f d BS (NS.take k) [] = (S, 0)) ∧ Hid (HasC wr (W.heap.size + 1 + 1) 40 (spA (S ++ List.replicate (dl - k) (0, 0)))) ∧ Hid (HasC wr W.heap.size 23 (kdA f d)) ∧ Hid (HasC wr (W.heap.size + 1) 46 (tr4 (.slice a1 n1 c1) (.slice ba bl bc) (.slice da dl dc) (.int .i64 root))) ∧ Hid (Below W.heap.size W wr)) (fun i _ => dl - (intOf i).toNat)
  case atStart => exact ⟨0, [], Nat.zero_le _, rfl, hide rfl, HG0, HK0, HT0, HB0⟩
  case round =>
    obtain ⟨k, S, hk, rfl, HS, HG, HK, HT, HB⟩ := hrel
    rename World => V
    by_cases hlt : k < dl
    · obtain ⟨g, off, rfl, hat⟩ := (HNI.out.later HB.out).at (by omega)
      obtain ⟨e0, e1, e2, e3, e4, e5, e6, e7, e8⟩ := hat k hlt
      clear hat
      have hi0 : (0 : Int) ≤ k := by omega
      have hi1 : (k : Int) < dl := by omega
      have hSl : S.length = k := by have := spR_len HS.out; simp at this; rw [HLN.out] at this; omega
      have HWn := hide (wl_at HW.out (by rw [HLN.out]; exact hlt : k < NS.length))
      rw [Nat.zero_add] at HWn
      have HS2 := hide (spR_snoc (n := NS.getD k n0) HS.out)
      rw [← take_snoc n0 (by rw [HLN.out]; exact hlt)] at HS2
      have HSe := hide fun (e : Int) (he : e ≠ 0) (h : spR f d BS (NS.take (k + 1)) [] = ([], e)) => (show spR f d BS NS [] = ([], e) by rw [← List.take_append_drop (k + 1) NS]; exact spR_bad h he)
      rw [rep_succ hlt] at HG
      obtain ⟨f0, f1⟩ : V.cell? ⟨W.heap.size, 0, none⟩ = some (.int .i64 f) ∧ V.cell? ⟨W.heap.size, 1, none⟩ = some (.int .i64 d) := ⟨HK.out.cell 0 rfl, HK.out.cell 1 rfl⟩
      have x1 := HT.out.cell 1 rfl
      have hz0 : W.heap.size < V.heap.size := HK.out.lt
      have hz1 : W.heap.size + 1 < V.heap.size := HT.out.lt
      have hz2 : W.heap.size + 1 + 1 < V.heap.size := HG.out.lt
      have y0 := HG.out.frozen (k * 2)
      have y1 := HG.out.frozen (k * 2 + 1)
      generalize NS.getD k n0 = n at *
      by_cases ho : n.op = 4
      · have ho1 : (n.op == 4) = true := by simpa using ho
        obtain ⟨u0, u1, u2, u3⟩ := HWn.out.use ho
        have hspn : spN f d BS S n = (S.getD (BS.getD n.k.toNat 0).toNat (0, 0), 0) := by unfold spN; rw [if_pos ho]
        rw [hspn, if_pos rfl] at HS2
        obtain ⟨kk, hkk⟩ : ∃ kk : Nat, n.k = (kk : Int) := ⟨n.k.toNat, by omega⟩
        rw [hkk] at e4 u1 u2 u3 HS2
        simp only [Int.toNat_natCast] at u1 u2 u3 HS2
        obtain ⟨bb, boff, rfl, hbb, hbc⟩ : ∃ b off, ba = some ⟨b, off, none⟩ ∧ b < V.heap.size ∧ V.cell? ⟨b, off + kk, none⟩ = some (.int .i64 (BS.getD kk 0)) := by
          rcases (HBI.out.later HB.out).cell with h0 | ⟨b, off, ha, hlb, hc⟩
          · rw [HLB.out] at u1; omega
          · exact ⟨b, off, ha, hlb, hc kk (by rw [← HLB.out]; exact u1)⟩
        obtain ⟨q, hq⟩ : ∃ q : Nat, BS.getD kk 0 = (q : Int) := ⟨(BS.getD kk 0).toNat, by omega⟩
        rw [hq] at hbc u3 HS2
        simp only [Int.toNat_natCast] at u3 HS2
        obtain ⟨s0, s1⟩ := spA_get (S ++ (0, 0) :: List.replicate (dl - (k + 1)) (0, 0)) q (by simp; omega)
        rw [getD_pre (by rw [hSl]; exact u3)] at s0 s1
        have d0 := HG.out.cell (q * 2) s0
        have d1 := HG.out.cell (q * 2 + 1) s1
        generalize S.getD q (0, 0) = sv at *
        obtain ⟨lo, hi⟩ := sv
        simp only at d0 d1
        have HG2 := hide ((put_sp HG.out hSl lo hi).alloc (.cells #[.int .i64 n.op, .int .i64 n.a, .int .i64 n.b, .int .i64 n.c, .int .i64 kk, .int .i64 n.back, .int .i64 n.co, .int .i64 n.x, .int .i64 n.y] 78))
        have HK2 := hide ((oth2' HK.out (r := W.heap.size + 1 + 1) (k := k) (by omega) (.int .i64 lo) (.int .i64 hi)).alloc (.cells #[.int .i64 n.op, .int .i64 n.a, .int .i64 n.b, .int .i64 n.c, .int .i64 kk, .int .i64 n.back, .int .i64 n.co, .int .i64 n.x, .int .i64 n.y] 78))
        have HT2 := hide ((oth2' HT.out (r := W.heap.size + 1 + 1) (k := k) (by omega) (.int .i64 lo) (.int .i64 hi)).alloc (.cells #[.int .i64 n.op, .int .i64 n.a, .int .i64 n.b, .int .i64 n.c, .int .i64 kk, .int .i64 n.back, .int .i64 n.co, .int .i64 n.x, .int .i64 n.y] 78))
        have HB2 := hide (bel ((HB.out.setCell (p := ⟨W.heap.size + 1 + 1, k * 2, none⟩) (by simp; omega) (.int .i64 lo)).setCell (p := ⟨W.heap.size + 1 + 1, k * 2 + 1, none⟩) (by simp; omega) (.int .i64 hi)) (bel1 _ (.cells #[.int .i64 n.op, .int .i64 n.a, .int .i64 n.b, .int .i64 n.c, .int .i64 kk, .int .i64 n.back, .int .i64 n.co, .int .i64 n.x, .int .i64 n.y] 78)))
        obtain ⟨ca, hca⟩ := spA_get (S ++ (0, 0) :: List.replicate (dl - (k + 1)) (0, 0)) k (by simp; omega)
        have da := HG.out.cell (k * 2) ca
        have db := HG.out.cell (k * 2 + 1) hca
        clear ca hca
        have w0 : (kk : Int) < bl := by have := HLB.out; omega
        have w1 : (q : Int) < dl := by omega
        have w2 : (0 : Int) ≤ kk := by omega
        have w3 : (0 : Int) ≤ q := by omega
        clear s0 s1 hq u0 u1 u2 u3 hspn ho HWn HSe hmk
        go_wp2_with fail
        go_roundw
        case rel => exact ⟨k + 1, S ++ [(lo, hi)], by omega, by go_num, hide HS2.out, hide (by rw [List.append_assoc]; exact HG2.out), hide HK2.out, hide HT2.out, hide HB2.out⟩
        case measure => simp [intOf]; omega
      · have ho1 : (n.op == 4) = false := by simpa using ho
        have HSp := hide (spans_has HG.out (by simp; omega))
        rw [show (S ++ (0, 0) :: List.replicate (dl - (k + 1)) ((0 : Int), (0 : Int))).length = dl by simp; omega] at HSp
        have hl := bel1 V (.cells (ndA n) 78)
        have HOf := hide (spanOf_any f d hm HWn.out ho (HSp.out.later hl) (by omega))
        rw [spN_pre (by rw [hSl]; exact HWn.out)] at HOf
        have HG1 := hide (HG.out.alloc (.cells (ndA n) 78))
        have HK1 := hide (HK.out.alloc (.cells (ndA n) 78))
        have HT1 := hide (HT.out.alloc (.cells (ndA n) 78))
        have HN1 := hide (HasC.new V 78 (ndA n))
        have HB1 := hide (bel HB.out hl)
        obtain ⟨⟨⟨lo, hi⟩, er⟩, hZ⟩ : ∃ Z, spN f d BS S n = Z := ⟨_, rfl⟩
        rw [hZ] at HOf HS2
        clear hZ hl ho HWn HSp hmk
        go_wp2_with fail
        refine HOf.out.mono ?_
        rintro e V1 ⟨rfl, hb⟩
        by_cases he : er = 0
        · subst he
          rw [if_pos rfl] at HS2
          have HGa := hide (HG1.out.below hb)
          have HKa := hide (HK1.out.below hb)
          have HTa := hide (HT1.out.below hb)
          have HBa := hide (bel HB1.out hb)
          have hza := HGa.out.lt
          have ya := HGa.out.frozen (k * 2)
          have yb := HGa.out.frozen (k * 2 + 1)
          obtain ⟨ca, hca⟩ := spA_get (S ++ (0, 0) :: List.replicate (dl - (k + 1)) (0, 0)) k (by simp; omega)
          have da := HGa.out.cell (k * 2) ca
          have db := HGa.out.cell (k * 2 + 1) hca
          have HG2 := hide ((put_sp HGa.out hSl lo hi).alloc (.cells #[.int .i64 lo, .int .i64 hi] 40))
          have HK2 := hide ((oth2' HKa.out (r := W.heap.size + 1 + 1) (k := k) (by omega) (.int .i64 lo) (.int .i64 hi)).alloc (.cells #[.int .i64 lo, .int .i64 hi] 40))
          have HT2 := hide ((oth2' HTa.out (r := W.heap.size + 1 + 1) (k := k) (by omega) (.int .i64 lo) (.int .i64 hi)).alloc (.cells #[.int .i64 lo, .int .i64 hi] 40))
          have HB2 := hide (bel ((HBa.out.setCell (p := ⟨W.heap.size + 1 + 1, k * 2, none⟩) (by simp; omega) (.int .i64 lo)).setCell (p := ⟨W.heap.size + 1 + 1, k * 2 + 1, none⟩) (by simp; omega) (.int .i64 hi)) (bel1 _ (.cells #[.int .i64 lo, .int .i64 hi] 40)))
          clear hb HG1 HK1 HT1 HB1 HN1 HG HK HT HB HOf e0 e1 e2 e3 e4 e5 e6 e7 e8 ca hca f0 f1 x1 y0 y1 HSe
          go_wp2_with fail
          go_roundw
          case rel => exact ⟨k + 1, S ++ [(lo, hi)], by omega, by go_num, hide HS2.out, hide (by rw [List.append_assoc]; exact HG2.out), hide HK2.out, hide HT2.out, hide HB2.out⟩
          case measure => simp [intOf]; omega
        · rw [if_neg he] at HS2
          have hne : (er != 0) = true := by simpa using he
          have HF := hide (HSe.out er he HS2.out)
          have HBa := hide (bel HB1.out hb)
          clear hb
          have HE := hide he
          clear he
          go_wp2_with fail
          exact bodyPost_ret (v := .tuple #[.slice none 0 0, .int .i64 er]) (by simp [results, Tryz.results28, go_sem]) rfl (.inl (by rw [HF.out]; exact ⟨HE.out, rfl, bel HBa.out (bel1 _ _)⟩))
    · obtain rfl : k = dl := by omega
      have e : NS.take k = NS := List.take_of_length_le (by rw [HLN.out]; exact Nat.le_refl _)
      have hZ := HS.out
      rw [e] at hZ
      have HZ := hide hZ
      have HG1 := hide HG.out
      rw [Nat.sub_self, List.replicate_zero, List.append_nil] at HG1
      clear hZ
      go_wp2_with fail
      exact bodyPost_ret (v := .tuple #[.slice (some ⟨W.heap.size + 1 + 1, 0, none⟩) k k, .int .i64 0]) (by simp [results, Tryz.results28, go_sem]) rfl (.inr (by rw [HZ.out]; exact ⟨rfl, _, rfl, by omega, HG1.out, HB.out⟩))

end Go.Proofs.YtlhbgkaknfhlnaaGreat

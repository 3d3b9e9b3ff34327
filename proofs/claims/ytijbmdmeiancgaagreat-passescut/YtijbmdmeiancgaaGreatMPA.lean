/-
  Rows of one's own: numbers put into them, slices.Reverse; rows of marks.
-/
import Derived.Test.YtijbmdmeiancgaaGreatMQB
import Derived.Test.YtijbmdmeiancgaaGreatMU0
import Derived.Test.YtijbmdmeiancgaaGreatMFB
import Derived.Test.YtijbmdmeiancgaaGreatMCdU0
import Derived.Deep.CutRange
namespace Go.Proofs.Prn
open Go.RowKit Go.IntWalk YtijbmdmeiancgaaGreat.Knd
open Cde (In i0 ia kd cd Ins at6 six_of four_of two_of has_new1 okI okT below_drew is6 i6 zA take_snoc)
open Rdc (mixedF own_ne own_grow own_two)
set_option linter.unusedVariables false

theorem own_put {W : World} {base g n c p : Nat} {D : List Int} (h : W.ownsRow base 3 1 (.slice (some ⟨g, 0, none⟩) n c) n (i64s D)) (x : Int) : (W.setCell ⟨g, p, none⟩ (.int .i64 x)).ownsRow base 3 1 (.slice (some ⟨g, 0, none⟩) n c) n (i64s (D.set p x)) := by
  obtain ⟨hl, h2⟩ := h
  rcases h2 with ⟨he, -⟩ | ⟨g', cap, cur, he, hb, hg, hnc, hcm, hsz, ht⟩
  · cases he
  · cases he
    refine ⟨by simpa using hl, .inr ⟨g, c, cur.setIfInBounds p (.int .i64 x), rfl, hb, HasC.set hg p _, hnc, hcm, by simpa using hsz, ?_⟩⟩
    rw [Array.toList_setIfInBounds, List.take_set, ht]
    simp [List.map_set]
theorem own_cell {W : World} {base g n c p : Nat} {D : List Int} (h : W.ownsRow base 3 1 (.slice (some ⟨g, 0, none⟩) n c) n (i64s D)) (hp : p < n) : W.cell? ⟨g, p, none⟩ = some (.int .i64 (D.getD p 0)) ∧ W.frozen? ⟨g, p, none⟩ = false := by
  have hl : D.length = n := by have := h.1; simp at this; omega
  have hc := h.cells (g := g) rfl p (.int .i64 (D.getD p 0)) (by rw [List.getElem?_map, List.getD_eq_getElem?_getD, List.getElem?_eq_getElem (by omega)]; rfl)
  rw [Addr.add_lit, Nat.zero_add] at hc
  refine ⟨hc, ?_⟩
  rcases h.2 with ⟨he, -⟩ | ⟨g', cap, cur, he, hb, hg, hnc, hcm, hsz, ht⟩
  · cases he
  · cases he
    exact HasC.frozen hg p
theorem own_len {W : World} {base g n c : Nat} {D : List Int} (h : W.ownsRow base 3 1 (.slice (some ⟨g, 0, none⟩) n c) n (i64s D)) : D.length = n := by have := h.1; simp at this; omega
theorem own_base {W : World} {base g n c : Nat} {D : List Int} (h : W.ownsRow base 3 1 (.slice (some ⟨g, 0, none⟩) n c) n (i64s D)) : base ≤ g ∧ n ≤ maxLen := by
  refine ⟨(h.lt g rfl).1, ?_⟩
  rcases h.2 with ⟨he, -⟩ | ⟨g', cap, cur, he, hb, hg, hnc, hcm, hsz, ht⟩
  · cases he
  · cases he
    omega

set_option maxRecDepth 100000 in
set_option maxHeartbeats 4000000 in
theorem srev_any {base g n c : Nat} {D : List Int} {W : World} (h : W.ownsRow base 3 1 (.slice (some ⟨g, 0, none⟩) n c) n (i64s D)) :
    Calls Tryz.prog 138 #[.slice (some ⟨g, 0, none⟩) n c] W fun e W' => e = .returned (.tuple #[]) ∧ W'.ownsRow base 3 1 (.slice (some ⟨g, 0, none⟩) n c) n (i64s D.reverse) ∧ Below base W W' := by
  have hl := own_len h
  obtain ⟨hg, hm⟩ := own_base h
  have hs : n ≤ 9223372036854775807 := by unfold maxLen at hm; omega
  have HD := hide h
  have HE := hide fun k h1 h2 => rvK_end D (k := k) h1 h2
  have HG := hide hg
  have HL := hide hl
  rw [hl] at HE
  clear h hl hm hg
  go_enter Tryz.func138, Tryz.ntmps138
  go_wp2_with fail
  go_loopw [2, 3] (fun iv jv wr => ∃ k : Nat, 2 * k ≤ n ∧ iv = .int .i64 k ∧ jv = .int .i64 ((n : Int) - 1 - k) ∧ Hid (wr.ownsRow base 3 1 (.slice (some ⟨g, 0, none⟩) n c) n (i64s (rvK D k))) ∧ Hid (Below base W wr)) (fun iv _ _ => n - (intOf iv).toNat)
  case atStart => exact ⟨0, Nat.zero_le _, rfl, by simp, HD, hide (Below.refl _ _)⟩
  case round =>
    obtain ⟨k, hk, rfl, rfl, HO, HB⟩ := hrel
    rename World => V
    by_cases hlt : (k : Int) < (n : Int) - 1 - k
    · obtain ⟨q, hq⟩ : ∃ q : Nat, (n : Int) - 1 - k = q := ⟨n - 1 - k, by omega⟩
      have hq' : n - 1 - k = q := by omega
      have HS : Hid (rvK D (k + 1) = ((rvK D k).set k ((rvK D k).getD q 0)).set q ((rvK D k).getD k 0)) := hide (by rw [rvK, HL.out, hq'])
      have hq1 : q < n := by omega
      have hk1 : k < n := by omega
      have hkq : k < q := by omega
      rw [hq]
      obtain ⟨ci, fi⟩ := own_cell HO.out hk1
      obtain ⟨cj, fj⟩ := own_cell HO.out hq1
      generalize (rvK D k).getD k 0 = x at *
      generalize (rvK D k).getD q 0 = y at *
      have HO1 := hide (own_put (p := q) (own_put (p := k) HO.out y) x)
      rw [← HS.out] at HO1
      have HB1 := hide ((HB.out.setCell (p := ⟨g, k, none⟩) (by have := HG.out; simpa using this) (.int .i64 y)).setCell (p := ⟨g, q, none⟩) (by have := HG.out; simpa using this) (.int .i64 x))
      have HN : Hid (((q : Int) - 1) = (n : Int) - 1 - ((k + 1 : Nat) : Int)) := hide (by omega)
      have i0 : (0 : Int) ≤ k := by omega
      have i1 : (k : Int) < n := by omega
      have i2 : (0 : Int) ≤ q := by omega
      have i3 : (q : Int) < n := by omega
      have i4 : decide ((k : Int) < (q : Int)) = true := by simpa using hkq
      have i5 : decide (k < q) = true := by simpa using hkq
      have HK2 : Hid (2 * (k + 1) ≤ n) := hide (by omega)
      clear hlt hq hq' HS HO HB
      go_wp2_with fail
      go_region
      have HO2 := hide HO1.out.drew
      have HB2 := hide HB1.out.drew
      clear HO1 HB1 ci fi cj fj
      go_wp2_with fail
      go_roundw
      case rel => exact ⟨k + 1, HK2.out, by go_num, by rw [← HN.out], HO2, HB2⟩
      case measure => simp [intOf]; omega
    · have hd : decide ((k : Int) < (n : Int) - 1 - k) = false := by simpa using hlt
      have HF := hide (HE.out k hk (by omega))
      go_wp2_with fail
      refine bodyPost_end (results_none rfl _ _ _) rfl ?_
      exact ⟨rfl, by rw [← List.map_reverse, ← HF.out]; exact HO.out, HB.out⟩

/-! ## Marks in memory -/
abbrev bA (B : List Bool) : Array Value := (B.map Value.bool).toArray
theorem bA_get (B : List Bool) (i : Nat) (h : i < B.length) : (bA B)[i]? = some (.bool (B.getD i false)) := by
  unfold bA
  rw [List.getElem?_toArray, List.getElem?_map, List.getD_eq_getElem?_getD, List.getElem?_eq_getElem h]
  rfl
theorem info4 : (Tryz.prog.info? 4).map (fun i => (i.zero, i.size, i.bytes)) = some (some (.bool false), 1, 1) := by kernel_rfl
theorem made_b (n : Nat) : madeCells #[.bool false] (n * 1) = bA (List.replicate n false) := by
  apply Array.ext_getElem?
  intro i
  by_cases hi : i < n
  · rw [bA_get _ _ (by simpa using hi)]
    unfold madeCells
    rw [Array.getElem?_map, Array.getElem?_eq_getElem (by simpa using hi)]
    have hz : (List.replicate n false).getD i false = false := by
      rw [List.getD_eq_getElem?_getD, List.getElem?_replicate]; split <;> rfl
    rw [hz]
    simp only [Array.getElem_range, Option.map_some]
    show some ((#[Value.bool false])[i % 1]!) = _
    rw [Nat.mod_one]
    rfl
  · rw [Array.getElem?_eq_none (by rw [size_madeCells]; omega), Array.getElem?_eq_none (by simp; omega)]
theorem make_b (n : Nat) (h : n ≤ 1024) (w : World) : (Instr.makeSlice 116 (.int .i64 n) (.int .i64 n)).run Tryz.prog w = .ok (.slice (some ⟨w.heap.size, 0, none⟩) n n) (w.alloc (.cells (bA (List.replicate n false)) 4)) := by
  obtain ⟨i0, hi, hz0, hz1, hz2⟩ := YtijbmdmeiancgaaGreat.Spn.info_parts info4
  have := run_make w 116 4 i0 _ Tryz.underlying116 hi hz0 .i64 .i64 n n (by omega) (Int.le_refl _) (by rw [hz2]; omega) (by omega)
  rw [hz1] at this
  simp only [Int.toNat_natCast] at this
  have e : madeCells (Value.bool false).cells (n * 1) = bA (List.replicate n false) := made_b n
  rw [e] at this
  exact this
theorem set_b {W : World} {g k : Nat} {B : List Bool} (h : HasC W g 4 (bA B)) (x : Bool) : HasC (W.setCell ⟨g, k, none⟩ (.bool x)) g 4 (bA (B.set k x)) := by
  have := h.set k (.bool x)
  have e : (bA B).setIfInBounds k (.bool x) = bA (B.set k x) := by
    apply Array.toList_inj.1
    simp [List.map_set]
  rwa [e] at this
theorem ins_cells {V : World} {b off n cap : Nat} {L : List In} (h : Ins V (some ⟨b, off, none⟩) n cap L) : ∀ i, i < n → at6 V b (off + i * 6) (L.getD i i0) := by
  intro i hi
  obtain ⟨b', o', e, -, hc⟩ := h.at (by omega)
  cases e
  exact hc i hi

end Go.Proofs.Prn

/-
  prune.Live: the registers on which the answer hangs.
-/
namespace Go.Proofs.Prn
open Go.RowKit Go.IntWalk YtijbmdmeiancgaaGreat.Knd
open Cde (In i0 ia kd cd Ins at6 six_of four_of two_of has_new1 okI okT below_drew is6 i6 zA zA_get take_snoc agL arN abc rgN mcB)
open Rdc (mixedF own_ne own_grow own_two int_list)
set_option linter.unusedVariables false

/-- What Live answers. -/
def liZ (f d : Int) (L : List In) (out : Int) : List Int := if mcB f d L out = true then lvZ L out else []
/-- What Live keeps: its code, the marks, the registers so far. -/
structure Ll (W V : World) (cv : Array Value) (g : Nat) (B : List Bool) (v : Value) (D : List Int) : Prop where
  c : HasC V W.heap.size 26 cv
  b : HasC V g 4 (bA B)
  r : V.ownsRow W.heap.size 3 1 v D.length (i64s D)
  lo : Below W.heap.size W V
  g0 : W.heap.size < g
theorem Ll.below {W V V' : World} {cv : Array Value} {g : Nat} {B : List Bool} {v : Value} {D : List Int} (h : Ll W V cv g B v D) (hb : Below V.heap.size V V') : Ll W V' cv g B v D := ⟨h.c.below hb, h.b.below hb, Cde.own_later h.r hb, bel h.lo hb, h.g0⟩
theorem Ll.grow {W V V' : World} {cv : Array Value} {g : Nat} {B : List Bool} {v v' : Value} {D D' : List Int} (h : Ll W V cv g B v D) (hg : V.grownBy V' v.ownBlock) (ho : V'.ownsRow W.heap.size 3 1 v' D'.length (i64s D')) : Ll W V' cv g B v' D' :=
  ⟨own_grow h.r hg h.c (by decide), own_grow h.r hg h.b (by decide), ho, h.lo.grown hg h.lo.size fun k hk => (Cde.owns_block h.r k hk).1, h.g0⟩
theorem Ll.mark {W V : World} {cv : Array Value} {g : Nat} {B : List Bool} {v : Value} {D : List Int} (h : Ll W V cv g B v D) (p : Nat) : Ll W (V.setCell ⟨g, p, none⟩ (.bool true)) cv g (B.set p true) v D :=
  ⟨h.c.other (p := ⟨g, p, none⟩) (by have := h.g0; simp; omega) _, set_b h.b true, ownsRow_setCell_other h.r (a := ⟨g, p, none⟩) (own_ne h.r h.b (by decide)) _, h.lo.setCell (p := ⟨g, p, none⟩) (by have := h.g0; simp; omega) _, h.g0⟩
theorem Ll.row {W V : World} {cv : Array Value} {g : Nat} {B : List Bool} {v : Value} {D : List Int} (h : Ll W V cv g B v D) (h0 : D ≠ []) : ∃ gl c, v = .slice (some ⟨gl, 0, none⟩) D.length c := by
  rcases h.r.2 with ⟨-, he⟩ | ⟨g', cap, cur, he, -⟩
  · exact absurd (List.eq_nil_of_length_eq_zero he) h0
  · exact ⟨g', cap, he⟩

set_option maxRecDepth 100000 in
set_option maxHeartbeats 8000000 in
theorem plive_any (f d out : Int) {a : Option Addr} {n cap : Nat} {L : List In} {W : World} (hL : Ins W a n cap L) :
    Calls Tryz.prog 111 #[.agg (cd f d a n cap out)] W fun e W' => ∃ a' c', e = .returned (.slice a' (liZ f d L out).length c') ∧ W'.ownsRow W.heap.size 3 1 (.slice a' (liZ f d L out).length c') (liZ f d L out).length (i64s (liZ f d L out)) ∧ Below W.heap.size W W' := by
  have hb1 := bel1 W (.cells (cd f d a n cap out) 26)
  have HC0 := hide (HasC.new W 26 (cd f d a n cap out))
  have HB0 := hide hb1
  have HCk := hide (Cde.ccheck_any f d out (hL.later hb1))
  have HLI := hide hL
  have HLn := hide hL.len
  clear hb1
  rcases Cde.ccE_cases f d L out with ⟨hm, h0⟩ | ⟨hm, h0⟩
  · rw [h0] at HCk
    have HP := hide (pc_of hm)
    obtain ⟨-, m1, m2, o1, o2, hok⟩ := Cde.mc_parts hm
    rw [show liZ f d L out = lvZ L out from if_pos hm]
    obtain ⟨Z, hZ⟩ : ∃ Z, lvZ L out = Z := ⟨_, rfl⟩
    obtain ⟨dl, hdl⟩ : ∃ dl, Z.length = dl := ⟨_, rfl⟩
    rw [hZ, hdl]
    have HZ := hide hZ
    have HDz := hide hdl
    clear hZ hdl
    rw [HLn.out] at m1 m2 o2 hok
    obtain ⟨o, rfl⟩ : ∃ o : Nat, out = o := ⟨out.toNat, by omega⟩
    have HOk := hide hok
    have hmk := make_b n (by omega)
    have HM0 := hide (Mk.top HP.out)
    have HJ0 := hide (lvJ_top HP.out)
    rw [HLn.out] at HM0
    simp only [Int.toNat_natCast] at HM0 HJ0
    have hon : o < n := by omega
    obtain ⟨b, off, rfl, -, -⟩ := hL.at (by omega)
    clear hm h0 hok hL
    go_enter Tryz.func111, Tryz.ntmps111
    go_wp2_with fail
    refine HCk.out.mono ?_
    rintro e V1 ⟨rfl, hb⟩
    have HC1 := hide (HC0.out.below hb)
    have HB1 := hide (bel HB0.out hb)
    obtain ⟨c0, c1, c2, c3⟩ := four_of HC1.out
    have hg0 := HC1.out.lt
    have HL2 : Hid (Ll W (V1.alloc (.cells (bA (List.replicate n false)) 4)) (cd f d (some ⟨b, off, none⟩) n cap (o : Int)) V1.heap.size (List.replicate n false) (.slice none 0 0) []) := hide ⟨HC1.out.alloc _, HasC.new V1 4 _, ⟨rfl, .inl ⟨rfl, rfl⟩⟩, bel HB1.out (bel1 V1 _), hg0⟩
    clear hb HC0 HB0 HCk
    go_upto_region 4 with fail
    generalize V1.heap.size = g at *
    obtain ⟨V2, hV2⟩ : ∃ V2, V1.alloc (.cells (bA (List.replicate n false)) 4) = V2 := ⟨_, rfl⟩
    rw [hV2] at HL2 ⊢
    clear HC1 HB1 c0 c1 c2 c3 hmk hV2
    obtain ⟨c0, c1, c2, c3⟩ := four_of HL2.out.c
    have d0 := HL2.out.b.cell o (bA_get _ o (by simpa using hon))
    have y0 := HL2.out.b.frozen o
    have HL3 := hide (HL2.out.mark o)
    have t0 : (0 : Int) ≤ o := by omega
    have t1 : (o : Int) < n := by omega
    have z3 : (V2.setCell ⟨g, o, none⟩ (.bool true)).cell? ⟨W.heap.size, 3, none⟩ = some (.int .i64 o) := HL3.out.c.cell 3 rfl
    generalize (List.replicate n false).getD o false = x0 at d0
    generalize (List.replicate n false).set o true = B0 at *
    go_wp2_with fail
    clear HL2 d0 y0 c0 c1 c2 c3 z3
    go_loopw [4, 5] (fun lv rv wr => ∃ (j : Nat) (B : List Bool) (D : List Int), j ≤ o + 1 ∧ rv = .int .i64 ((j : Int) - 1) ∧ Hid (Mk L (o : Int) j B) ∧ Hid (lvJ L (o : Int) j = D) ∧ Hid (Ll W wr (cd f d (some ⟨b, off, none⟩) n cap (o : Int)) g B lv D)) (fun _ rv _ => (intOf rv + 1).toNat)
    case atStart => exact ⟨o + 1, B0, [], Nat.le_refl _, by go_num, HM0, HJ0, HL3⟩
    case round =>
      obtain ⟨j, B, D, hj, rfl, HM, HJ, HL⟩ := hrel
      rename World => V
      clear HL3 HM0 HJ0
      cases j with
      | zero =>
        have hz := lvJ_zero L (o : Int)
        have hne : D ≠ [] := by
          rintro rfl
          rw [HJ.out] at hz
          have := (HP.out.last).2.1
          rw [← lvZ_len, ← hz] at this
          simp at this
        obtain ⟨gl, lc, rfl⟩ := HL.out.row hne
        rw [HJ.out, HZ.out] at hz
        have hdl : D.length = dl := by rw [← HDz.out, ← hz, List.length_reverse]
        have hRv := srev_any HL.out.r
        rw [hz, hdl] at hRv
        rw [hdl]
        have HRv := hide hRv
        have q0 : ((0 : Nat) : Int) - 1 = -1 := by omega
        rw [q0]
        clear hz hne hRv hdl
        go_wp2_with fail
        refine HRv.out.mono ?_
        rintro e V2 ⟨rfl, hO, hb⟩
        have HB9 := hide (HL.out.lo.trans hb)
        have HO9 := hide hO
        clear hO hb
        go_wp2_with fail
        go_ret
        exact ⟨_, _, rfl, HO9.out, HB9.out⟩
      | succ j =>
        have hjn : j < n := by omega
        have hBl := HM.out.len
        rw [HLn.out] at hBl
        have d0 := HL.out.b.cell j (bA_get _ j (by omega))
        have q0 : ((j + 1 : Nat) : Int) - 1 = j := by omega
        rw [q0]
        have t0 : (0 : Int) ≤ j := by omega
        have t1 : (j : Int) < n := by omega
        have HOne := HM.out.one HP.out (i := j) (Nat.le_refl _)
        have HYes := hide fun h => HM.out.yes HP.out (by rw [HLn.out]; exact hjn) h
        have HNo := hide fun h => HM.out.no HP.out (by rw [HLn.out]; exact hjn) h
        have HJy := hide fun h => lvJ_yes HP.out (by rw [HLn.out]; exact hjn) (HOne.1 h)
        have HJn := hide fun (h : B.getD j false = false) => lvJ_no HP.out fun hc => by rw [HOne.2 hc] at h; cases h
        rw [HJ.out] at HJy HJn
        obtain ⟨x, hx⟩ : ∃ x, B.getD j false = x := ⟨_, rfl⟩
        rw [hx] at HYes HNo HJy HJn d0
        clear HOne q0 hx
        cases x
        · have HM1 := hide (HNo.out rfl)
          have HJ1 := hide (HJn.out rfl)
          clear HYes HNo HJy HJn
          go_wp2_with fail
          go_roundw
          case rel => exact ⟨j, B, D, by omega, rfl, HM1, HJ1, HL⟩
          case measure => (simp [intOf]; try omega)
        · have HM1 := hide (HYes.out rfl)
          have HJ1 := hide (HJy.out rfl)
          have hDl : D.length ≤ 2000000 := by have := lvJ_len L (o : Int) (j + 1); rw [HJ.out, HLn.out] at this; omega
          have HDl := hide hDl
          have hOk := Cde.okT_at HOk.out hjn
          generalize hmm : L.getD j i0 = m at *
          have HR := hide fun q hq => Cde.ok_reg hOk (j := q) hq
          have hr3 := Cde.arN_le m
          have HA := hide fun w => Cde.cargs_ex m w
          have HT := hide fun q (h : q < arN m) => Cde.agL_succ m h
          have HFu := hide (Cde.agL_full m)
          have HRg : Hid (∀ q, q < 3 → (zA (abc m))[q]? = some (.int .i64 (rgN m q))) := hide fun q h => by rw [zA_get _ q (by simp [abc]; omega), Cde.abc_at m q h]
          generalize arN m = r at *
          have hb := bel1 V (.cells #[.int .i64 (j : Int)] 3)
          have HL5 := hide (HL.out.below hb)
          have HN5 := hide (HasC.new V 3 #[.int .i64 (j : Int)])
          clear hb hOk HYes HNo HJy HJn hDl
          go_wp2_with (at_builtin; refine int_list rfl _ _ rfl rfl HL5.out.r HL5.out.lo.size _ (j : Int) rfl HN5.out HDl.out ?_; intro gl lc w2 hown hgr; have HL6 := hide (HL5.out.grow hgr hown); obtain ⟨e0, e1, e2, e3, e4, e5⟩ := (hmm ▸ ins_cells (HLI.out.later HL6.out.lo) j hjn); obtain ⟨c0, c1, c2, c3⟩ := four_of HL6.out.c; clear hown hgr HL5 HN5)
          refine (HA.out _).mono ?_
          rintro e V6 ⟨ga, rfl, hga, hGa, hb⟩
          have HL7 := hide (HL6.out.below hb)
          have HR6 := hide hGa
          have hne : g ≠ ga := Nat.ne_of_lt (Nat.lt_of_lt_of_le HL6.out.b.lt hga)
          clear hb hGa hga HL6 HA e0 e1 e2 e3 e4 e5 c0 c1 c2 c3
          go_wp2_with fail
          go_loopw [41] (fun iv wr => ∃ q : Nat, q ≤ r ∧ iv = .int .i64 q ∧ Hid (HasC wr ga 3 (zA (abc m))) ∧ Hid (Ll W wr (cd f d (some ⟨b, off, none⟩) n cap (o : Int)) g (mkA B ((agL m).take q)) (.slice (some ⟨gl, 0, none⟩) (D.length + 1) lc) (D ++ [(j : Int)]))) (fun iv _ => r - (intOf iv).toNat)
          case atStart => exact ⟨0, Nat.zero_le _, rfl, HR6, HL7⟩
          case round =>
            obtain ⟨q, hq, rfl, HR7, HL8⟩ := hrel
            rename World => V7
            by_cases hqr : q < r
            · have cp := HR7.out.cell q (HRg.out q (by omega))
              obtain ⟨p0, p1⟩ := HR.out q hqr
              have hs := HT.out q hqr
              have hU2 := mkA_snoc B ((agL m).take q) (rgN m q)
              rw [← hs] at hU2
              obtain ⟨p, hp⟩ : ∃ p : Nat, rgN m q = (p : Int) := ⟨(rgN m q).toNat, by omega⟩
              rw [hp] at cp p1 hU2
              simp only [Int.toNat_natCast] at p1 hU2
              have HU2 := hide hU2
              have hul := mkA_len ((agL m).take q) B
              rw [hBl] at hul
              have d0 := HL8.out.b.cell p (bA_get _ p (by rw [hul]; omega))
              have y0 := HL8.out.b.frozen p
              have HL9 := hide (HL8.out.mark p)
              rw [← HU2.out] at HL9
              have HR9 := hide (HR7.out.other (p := ⟨g, p, none⟩) (by simp; omega) (.bool true))
              generalize (mkA B ((agL m).take q)).getD p false = x at d0
              have s0 : (0 : Int) ≤ q := by omega
              have s1 : (q : Int) < r := by omega
              have s2 : (q : Int) < 3 := by omega
              have u0 : (0 : Int) ≤ p := by omega
              have u1 : (p : Int) < n := by omega
              clear p0 p1 hp hs hU2 HU2 hul
              go_wp2_with fail
              go_roundw
              case rel => exact ⟨q + 1, by omega, by go_num, HR9, HL9⟩
              case measure => (simp [intOf]; try omega)
            · obtain rfl : q = r := by omega
              have HL9 := HL8.out
              rw [HFu.out] at HL9
              have HL10 := hide HL9
              clear HL9 HL8 HR7
              go_wp2_with fail
              go_roundw
              case rel => exact ⟨j, mkA B (agL m), D ++ [(j : Int)], by omega, rfl, HM1, HJ1, hide (by simpa using HL10.out)⟩
              case measure => (simp [intOf]; try omega)
  · rw [h0] at HCk
    rw [show liZ f d L out = [] from if_neg hm]
    clear hm h0 hL
    go_enter Tryz.func111, Tryz.ntmps111
    go_wp2_with fail
    refine HCk.out.mono ?_
    rintro e V1 ⟨rfl, hb⟩
    have HB1 := hide (bel HB0.out hb)
    clear hb
    go_wp2_with fail
    go_ret
    exact ⟨none, 0, rfl, ⟨rfl, .inl ⟨rfl, rfl⟩⟩, HB1.out⟩

end Go.Proofs.Prn

/-
  prune.kept: the code of these registers alone.
-/
namespace Go.Proofs.Prn
open Go.RowKit Go.IntWalk YtijbmdmeiancgaaGreat.Knd
open Cde (In i0 ia kd cd Ins at6 six_of four_of two_of has_new1 okI okT below_drew is6 i6 zA zA_get take_snoc agL mcB)
open Rdc (mixedF own_ne own_grow own_two ins_list infoI cdz)
open Fld (thI exR fthrough_any)
set_option linter.unusedVariables false

theorem make_in (n : Nat) (h : n ≤ 1024) : ∃ cs : Array Value, cs.size = n * 6 ∧ ∀ w : World, (Instr.makeSlice 24 (.int .i64 0) (.int .i64 n)).run Tryz.prog w = .ok (.slice (some ⟨w.heap.size, 0, none⟩) 0 n) (w.alloc (.cells cs 57)) := by
  obtain ⟨i0', hi, hz0, hz1, hz2⟩ := YtijbmdmeiancgaaGreat.Spn.info_parts infoI
  refine ⟨madeCells (Value.agg (ia i0)).cells (n * 6), size_madeCells _ _, fun w => ?_⟩
  have := run_make w 24 57 i0' _ Tryz.underlying24 hi hz0 .i64 .i64 0 n (by omega) (by omega) (by rw [hz2]; omega) (by omega)
  rw [hz1] at this
  simp only [Int.toNat_natCast] at this
  exact this
theorem own_start {W V : World} {b n size : Nat} {e : TypeId} {cs : Array Value} (h : HasC V b e cs) (hs : cs.size = n * size) (hb : W.heap.size ≤ b) (hn : n ≤ 1024) : V.ownsRow W.heap.size e size (.slice (some ⟨b, 0, none⟩) 0 n) 0 [] :=
  ⟨by simp, .inr ⟨b, n, cs, rfl, hb, h, Nat.zero_le _, by unfold maxLen; omega, hs, by simp⟩⟩
/-- What kept keeps: its code, its answer's box, the new code, the new registers. -/
structure Kt (W V : World) (cv : Array Value) (mv : Value) (M : List In) (gt : Nat) (T : List Int) : Prop where
  c : HasC V W.heap.size 26 cv
  o : HasC V (W.heap.size + 1) 26 cdz
  m : V.ownsRow W.heap.size 57 6 mv M.length (is6 M)
  t : HasC V gt 3 (zA T)
  lo : Below W.heap.size W V
  g0 : W.heap.size + 1 < gt
theorem Kt.below {W V V' : World} {cv : Array Value} {mv : Value} {M : List In} {gt : Nat} {T : List Int} (h : Kt W V cv mv M gt T) (hb : Below V.heap.size V V') : Kt W V' cv mv M gt T := ⟨h.c.below hb, h.o.below hb, Cde.own_later h.m hb, h.t.below hb, bel h.lo hb, h.g0⟩
theorem Kt.grow {W V V' : World} {cv : Array Value} {mv mv' : Value} {M M' : List In} {gt : Nat} {T : List Int} (h : Kt W V cv mv M gt T) (hg : V.grownBy V' mv.ownBlock) (ho : V'.ownsRow W.heap.size 57 6 mv' M'.length (is6 M')) : Kt W V' cv mv' M' gt T :=
  ⟨own_grow h.m hg h.c (by decide), own_grow h.m hg h.o (by decide), ho, own_grow h.m hg h.t (by decide), h.lo.grown hg h.lo.size fun k hk => (Cde.owns_block h.m k hk).1, h.g0⟩
theorem Kt.put {W V : World} {cv : Array Value} {mv : Value} {M : List In} {gt : Nat} {T : List Int} (h : Kt W V cv mv M gt T) (p : Nat) (x : Int) : Kt W (V.setCell ⟨gt, p, none⟩ (.int .i64 x)) cv mv M gt (T.set p x) :=
  ⟨h.c.other (p := ⟨gt, p, none⟩) (by have := h.g0; simp; omega) _, h.o.other (p := ⟨gt, p, none⟩) (by have := h.g0; simp; omega) _, ownsRow_setCell_other h.m (a := ⟨gt, p, none⟩) (own_ne h.m h.t (by decide)) _, Cde.set_z h.t x, h.lo.setCell (p := ⟨gt, p, none⟩) (by have := h.g0; simp; omega) _, h.g0⟩

set_option maxRecDepth 100000 in
set_option maxHeartbeats 8000000 in
theorem pkept_any (f d out : Int) {a : Option Addr} {n cap : Nat} {L : List In} {W : World} (hL : Ins W a n cap L) (hp : Pc L out) (hn : n ≤ 200) {ra : Option Addr} {rn rc : Nat} (hR : Ints W ra rn rc (lvZ L out)) :
    Calls Tryz.prog 110 #[.agg (cd f d a n cap out), .slice ra rn rc] W fun e W' => ∃ a' c', e = .returned (.agg (cd f d a' rn c' (prO L out))) ∧ W'.ownsRow W.heap.size 57 6 (.slice a' rn c') rn (is6 (prN L out)) ∧ Below W.heap.size W W' := by
  have hrn : (lvL L out).length = rn := by rw [← lvZ_len]; exact hR.len
  have hr1 : rn ≤ n := by have := lvL_few L out; rw [hL.len] at this; omega
  have hr0 : 1 ≤ rn := by have := hp.last.2.1; omega
  have ho := hp.o1
  have ho0 := hp.o0
  rw [hL.len] at ho
  obtain ⟨o, rfl⟩ : ∃ o : Nat, out = o := ⟨out.toNat, by omega⟩
  simp only [Int.toNat_natCast] at ho
  obtain ⟨b, off, rfl, -, -⟩ := hL.at (by omega)
  obtain ⟨rb, ro, rfl, hrl, -⟩ := hR.at (by omega)
  obtain ⟨cs1, hs1, hmk1⟩ := make_in rn (by omega)
  have hmk2 := Cde.make_z n (by omega)
  have HLI := hide hL
  have HLn := hide hL.len
  have HRI := hide hR
  have HP := hide hp
  have HRn := hide hrn
  have HF0 : Hid (Kt W ((((W.alloc (.cells (cd f d (some ⟨b, off, none⟩) n cap (o : Int)) 26)).alloc (.cells cdz 26)).alloc (.cells cs1 57)).alloc (.cells (zA (List.replicate n 0)) 3)) (cd f d (some ⟨b, off, none⟩) n cap (o : Int)) (.slice (some ⟨W.heap.size + 1 + 1, 0, none⟩) 0 rn) [] (W.heap.size + 1 + 1 + 1) (List.replicate n 0)) := by
    have b1 := bel1 W (.cells (cd f d (some ⟨b, off, none⟩) n cap (o : Int)) 26)
    have b2 := bel b1 (bel1 _ (.cells cdz 26))
    have b3 := bel b2 (bel1 _ (.cells cs1 57))
    have b4 := bel b3 (bel1 _ (.cells (zA (List.replicate n 0)) 3))
    have h1 := ((HasC.new W 26 (cd f d (some ⟨b, off, none⟩) n cap (o : Int))).alloc (.cells cdz 26)).alloc (.cells cs1 57)
    have h2 := ((has_new1 W (.cells (cd f d (some ⟨b, off, none⟩) n cap (o : Int)) 26) 26 cdz).alloc (.cells cs1 57))
    have h3 := HasC.new ((W.alloc (.cells (cd f d (some ⟨b, off, none⟩) n cap (o : Int)) 26)).alloc (.cells cdz 26)) 57 cs1
    have h4 := HasC.new (((W.alloc (.cells (cd f d (some ⟨b, off, none⟩) n cap (o : Int)) 26)).alloc (.cells cdz 26)).alloc (.cells cs1 57)) 3 (zA (List.replicate n 0))
    rw [World.size_alloc, World.size_alloc] at h3
    rw [World.size_alloc, World.size_alloc, World.size_alloc] at h4
    exact hide ⟨h1.alloc _, h2.alloc _, own_start (h3.alloc _) hs1 (by omega) (by omega), h4, b4, by omega⟩
  have hsr : rn ≤ 9223372036854775807 := by omega
  clear hL hs1 hR hp hrn hrl
  go_enter Tryz.func110, Tryz.ntmps110
  go_wp2_with fail
  clear hmk1 hmk2
  go_loopw [5, 18] (fun mv iv wr => ∃ (k gm cm : Nat), k ≤ rn ∧ iv = .int .i64 k ∧ mv = .slice (some ⟨gm, 0, none⟩) k cm ∧ Hid (Kt W wr (cd f d (some ⟨b, off, none⟩) n cap (o : Int)) (.slice (some ⟨gm, 0, none⟩) k cm) (prK L (o : Int) k) (W.heap.size + 1 + 1 + 1) (toK (lvL L (o : Int)) n k))) (fun _ iv _ => rn - (intOf iv).toNat)
  case atStart => exact ⟨0, _, _, Nat.zero_le _, rfl, rfl, HF0⟩
  case round =>
    obtain ⟨k, gm, cm, hk, rfl, rfl, HF⟩ := hrel
    rename World => V
    clear HF0
    generalize hgt : W.heap.size + 1 + 1 + 1 = gt at *
    by_cases hlt : k < rn
    · have hkl : k < (lvL L (o : Int)).length := by rw [HRn.out]; exact hlt
      obtain ⟨hr, -⟩ := HP.out.mem hkl
      have hth := HP.out.th hkl
      have hps := prK_succ (L := L) (out := (o : Int)) hkl
      have hpl := prK_len (L := L) (out := (o : Int)) (k := k) (by omega)
      have htl := toK_len (lvL L (o : Int)) n k
      have htl2 := toK_len (lvL L (o : Int)) n (k + 1)
      have hts := toK_succ (lvL L (o : Int)) n k
      have hre := lvZ_at hkl
      rw [HLn.out] at hr hth
      obtain ⟨b', o', e', -, hat⟩ := (HRI.out.later HF.out.lo).at (by omega)
      cases e'
      have rg := hat k hlt
      rw [hre] at rg
      generalize (lvL L (o : Int)).getD k 0 = r at *
      have HTh := hide hth
      have HPs := hide hps
      have HPl := hide hpl
      have HTs := hide hts
      have HTl := hide htl2
      have d0 := HF.out.t.cell r (zA_get _ r (by rw [htl]; exact hr))
      have y0 := HF.out.t.frozen r
      generalize (toK (lvL L (o : Int)) n k).getD r 0 = x0 at d0
      have HF1 := hide (HF.out.put r (k : Int))
      rw [← HTs.out] at HF1
      clear hat hre hth hps hpl htl htl2 hts hkl
      have j0 : (0 : Int) ≤ k := by omega
      have j1 : (k : Int) < rn := by omega
      have j2 : (0 : Int) ≤ r := by omega
      have j3 : (r : Int) < n := by omega
      go_upto_region 7 with fail
      obtain ⟨V1, hV1⟩ : ∃ V1, V.setCell ⟨gt, r, none⟩ (.int .i64 (k : Int)) = V1 := ⟨_, rfl⟩
      rw [hV1] at HF1 ⊢
      clear hV1 d0 y0 rg HF
      obtain ⟨c0, c1, c2, c3⟩ := four_of HF1.out.c
      obtain ⟨e0, e1, e2, e3, e4, e5⟩ := ins_cells (HLI.out.later HF1.out.lo) r hr
      have hIn := Cde.has_z HF1.out.t (by rw [HTl.out]; omega)
      rw [HTl.out] at hIn
      have HFt := hide (fthrough_any (L.getD r i0) hIn)
      rw [HTh.out] at HFt
      generalize (prN L (o : Int)).getD k i0 = nm at *
      clear hIn
      go_wp2_with fail
      refine HFt.out.mono ?_
      rintro e V2 ⟨rfl, hb⟩
      have hb2 := bel1 V2 (.cells (ia nm) 57)
      have HF2 := hide ((HF1.out.below hb).below hb2)
      have HN2 := hide (HasC.new V2 57 (ia nm))
      clear hb hb2 HFt HF1 c0 c1 c2 c3 e0 e1 e2 e3 e4 e5
      go_wp2_with (at_builtin; refine ins_list rfl _ _ rfl rfl HF2.out.m HF2.out.lo.size _ nm rfl HN2.out (by rw [HPl.out]; omega) ?_; intro g cap' w2 hown hgr)
      have HF3 := hide (HF2.out.grow hgr hown)
      rw [← HPs.out, HPl.out] at HF3
      rw [HPl.out]
      clear hown hgr HF2
      go_wp2_with fail
      go_roundw
      case rel => exact ⟨k + 1, _, _, by omega, by go_num, rfl, HF3⟩
      case measure => simp [intOf]; omega
    · obtain rfl : k = rn := by omega
      have hpf := prK_full L (o : Int)
      rw [HRn.out] at hpf
      have htf := toK_full HP.out
      rw [HRn.out, HLn.out] at htf
      rw [hpf, htf] at HF
      have HPl := hide (show (prN L (o : Int)).length = k by rw [prN_len, HRn.out])
      have HPo := hide (show prO L (o : Int) = (toL L (o : Int)).getD o 0 from rfl)
      have hpo : prO L (o : Int) = (toL L (o : Int)).getD o 0 := rfl
      obtain ⟨c0, c1, c2, c3⟩ := four_of HF.out.c
      have hf0 := HF.out.o.frozen 0
      have hf1 := HF.out.o.frozen 1
      have hf2 := HF.out.o.frozen 2
      have hf3 := HF.out.o.frozen 3
      obtain ⟨p0, p1, p2, p3⟩ := four_of HF.out.o
      have t0 := HF.out.t.cell o (zA_get _ o (by rw [toL_len, HLn.out]; exact ho))
      obtain ⟨z, hz⟩ : ∃ z, (toL L (o : Int)).getD o 0 = z := ⟨_, rfl⟩
      rw [hz] at t0 HPo
      clear hz
      have hw0 : W.heap.size < V.heap.size := HF.out.c.lt
      have hw1 : W.heap.size + 1 < V.heap.size := HF.out.o.lt
      have i0' : (0 : Int) ≤ o := by omega
      have i1' : (o : Int) < n := by omega
      clear hpf htf hpo
      go_wp2_with fail
      go_region
      have hq : (Value.slice (some ⟨gm, 0, none⟩) k cm).ownBlock ≠ some (W.heap.size + 1) := own_ne HF.out.m HF.out.o (by decide)
      have HO5 := hide (((((HF.out.o.set 0 (.int .i64 f)).set 1 (.int .i64 d)).set 2 (.slice (some ⟨gm, 0, none⟩) k cm)).set 3 (.int .i64 z)).below (below_drew _))
      have HM5 := hide ((ownsRow_setCell_other (ownsRow_setCell_other (ownsRow_setCell_other (ownsRow_setCell_other HF.out.m (a := ⟨W.heap.size + 1, 0, none⟩) hq (.int .i64 f)) (a := ⟨W.heap.size + 1, 1, none⟩) hq (.int .i64 d)) (a := ⟨W.heap.size + 1, 2, none⟩) hq (.slice (some ⟨gm, 0, none⟩) k cm)) (a := ⟨W.heap.size + 1, 3, none⟩) hq (.int .i64 z)).drew)
      have HB5 := hide (((((HF.out.lo.setCell (p := ⟨W.heap.size + 1, 0, none⟩) (by simp) (.int .i64 f)).setCell (p := ⟨W.heap.size + 1, 1, none⟩) (by simp) (.int .i64 d)).setCell (p := ⟨W.heap.size + 1, 2, none⟩) (by simp) (.slice (some ⟨gm, 0, none⟩) k cm)).setCell (p := ⟨W.heap.size + 1, 3, none⟩) (by simp) (.int .i64 z)).drew)
      obtain ⟨V5, hV5⟩ : ∃ V5, ((((V.setCell ⟨W.heap.size + 1, 0, none⟩ (.int .i64 f)).setCell ⟨W.heap.size + 1, 1, none⟩ (.int .i64 d)).setCell ⟨W.heap.size + 1, 2, none⟩ (.slice (some ⟨gm, 0, none⟩) k cm)).setCell ⟨W.heap.size + 1, 3, none⟩ (.int .i64 z)).drew = V5 := ⟨_, rfl⟩
      rw [hV5] at HO5 HM5 HB5 ⊢
      obtain ⟨x0, x1, x2, x3⟩ := four_of HO5.out
      rw [HPl.out] at HM5
      clear hV5 c0 c1 c2 c3 p0 p1 p2 p3 hf0 hf1 hf2 hf3 t0 hq
      go_wp2_with fail
      exact bodyPost_ret (v := .agg (cd f d (some ⟨gm, 0, none⟩) k cm z)) (by simp [results, Tryz.results110, go_sem, x0, x1, x2, x3]) rfl ⟨_, _, by rw [HPo.out], HM5.out, HB5.out⟩

end Go.Proofs.Prn

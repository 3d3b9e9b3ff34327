/-
  The document's Run of chapter 20.
-/
import Derived.Test.YtihbhbeaihdgnaaGreatRYd
import Derived.Test.YtihbhbeaihdgnaaGreatRGZC
import Derived.Test.YtihbhbeaihdgnaaGreatRGZ
import Derived.Test.YtihbhbeaihdgnaaGreatRCdApart
import Derived.Test.YtihbhbeaihdgnaaGreatRGC
import Derived.Test.YtihbhbeaihdgnaaGreatRGZB
import Derived.Test.YtihbhbeaihdgnaaGreatRGHE
namespace Go.Proofs.Chn
open Go.RowKit Go.IntWalk YtihbhbeaihdgnaaGreat.Knd
open YtihbhbeaihdgnaaGreat (Wd wdA Fits)
open Cde (In i0 ia kd cd Ins is6 at6 six_of four_of two_of has_new1 vaZ TwP mc_parts own_later own_mono owns_other tw_ints getD_pre below_dN xvalues_any)
open Vfy (vfE vfN vfC vfS vf_parts)
set_option linter.unusedVariables false

set_option maxRecDepth 100000 in
set_option maxHeartbeats 4000000 in
theorem grun_any {f d out : Int} (v : Wd) {a pa : Option Addr} {n cap pl pc : Nat} {L : List In} {W : World} (hL : Ins W a n cap L) (hP : Ints W pa pl pc v.ps) (h : vfE f d L out = 0) :
    Calls Tryz.prog 28 #[.agg (cd f d a n cap out), .agg (wdA v pa pl pc)] W (TwP W (vaZ f d v L out)) := by
  have hb1 := bel (bel1 W (.cells (cd f d a n cap out) 26)) (bel1 (W.alloc (.cells (cd f d a n cap out) 26)) (.cells (wdA v pa pl pc) 44))
  have HC0 := hide ((HasC.new W 26 (cd f d a n cap out)).alloc (.cells (wdA v pa pl pc) 44))
  have HW0 := hide (has_new1 W (.cells (cd f d a n cap out) 26) 44 (wdA v pa pl pc))
  have HB0 := hide hb1
  have HV := hide (Vfy.jverify_any f d out (hL.later hb1))
  have HX := hide fun (V : World) (hb : Below W.heap.size W V) => xvalues_any f d out v (hL.later hb) (hP.later hb)
  unfold Vfy.VfP at HV
  rw [h] at HV
  generalize vfN f d L out = vm at *
  generalize vfC f d L out = vc at *
  generalize Vfy.vfS f d L out = vs at *
  obtain ⟨Z, hZ⟩ : ∃ Z, vaZ f d v L out = Z := ⟨_, rfl⟩
  rw [hZ] at HX ⊢
  clear hb1 hL hP h hZ
  obtain ⟨er, D⟩ := Z
  go_enter Tryz.func28, Tryz.ntmps28
  go_wp2_with fail
  refine HV.out.mono ?_
  rintro e V1 ⟨ga, gc, rfl, -, hb, -, -⟩
  have hb2 := bel hb (bel1 V1 (.cells #[.slice ga vm gc, .int .i64 vc, .int .i64 0] 35))
  have HC1 := hide (HC0.out.below hb2)
  have HW1 := hide (HW0.out.below hb2)
  have HB1 := hide (bel HB0.out hb2)
  clear hb hb2 HV HC0 HW0 HB0
  obtain ⟨c0, c1, c2, c3⟩ := four_of HC1.out
  obtain ⟨w0, w1, w2, w3⟩ := four_of HW1.out
  go_wp2_with fail
  refine (HX.out _ HB1.out).mono ?_
  rintro e V2 ⟨la, lc, rfl, hO, hb⟩
  have HO := hide (own_mono hO HB1.out.size)
  have HB2 := hide (bel HB1.out hb)
  clear hO hb HX c0 c1 c2 c3 w0 w1 w2 w3
  go_wp2_with fail
  exact bodyPost_ret (v := .tuple #[.slice la D.length lc, .int .i64 er]) (by simp [results, Tryz.results28, go_sem]) rfl ⟨la, lc, rfl, HO.out, HB2.out⟩

end Go.Proofs.Chn

/-
  An argument that is a list of windows: what its reading says, and how long the windows' lists can be.
-/
namespace Go.Proofs.Vmm
open Go.ChangeShapes Go.WideShapes Go.ChangeAt Go.RowKit
open YtihbhbeaihdgnaaGreat (Wd wdA)
open Cde (field_int open_nums ocellsW obytesI)
set_option linter.unusedVariables false

/-- A window, and where its list lies. -/
structure Wn where
  v : Wd
  a : Option Addr
  n : Nat
  c : Nat
def wn0 : Wn := ⟨⟨0, 0, 0, []⟩, none, 0, 0⟩
def WnAt (W : World) (b o : Nat) (s : Wn) : Prop :=
  W.cell? ⟨b, o, none⟩ = some (.int .i64 s.v.x) ∧ W.cell? ⟨b, o + 1, none⟩ = some (.int .i64 s.v.y) ∧ W.cell? ⟨b, o + 2, none⟩ = some (.int .i64 s.v.c) ∧ W.cell? ⟨b, o + 3, none⟩ = some (.slice s.a s.n s.c) ∧ YtihbhbeaihdgnaaGreat.Knd.Ints W s.a s.n s.c s.v.ps ∧ s.n ≤ 17592186044000
/-- The slice (a, n) reads as windows. -/
structure Wins (W : World) (a : Option Addr) (n : Nat) (S : Nat → Wn) : Prop where
  max : n ≤ 9223372036854775807
  cell : n = 0 ∨ ∃ b off, a = some ⟨b, off, none⟩ ∧ b < W.heap.size ∧ ∀ i, i < n → WnAt W b (off + i * 4) (S i)
theorem WnAt.later {W W' : World} {b o : Nat} {s : Wn} (h : WnAt W b o s) (hlt : b < W.heap.size) (hb : Below W.heap.size W W') : WnAt W' b o s := by
  obtain ⟨h0, h1, h2, h3, h4, h5⟩ := h
  exact ⟨(hb.cell (p := ⟨b, o, none⟩) hlt).trans h0, (hb.cell (p := ⟨b, o + 1, none⟩) hlt).trans h1, (hb.cell (p := ⟨b, o + 2, none⟩) hlt).trans h2, (hb.cell (p := ⟨b, o + 3, none⟩) hlt).trans h3, h4.later hb, h5⟩
theorem Wins.later {W W' : World} {a : Option Addr} {n : Nat} {S : Nat → Wn} (h : Wins W a n S) (hb : Below W.heap.size W W') : Wins W' a n S := by
  refine ⟨h.max, ?_⟩
  rcases h.cell with h0 | ⟨b, off, ha, hlt, hc⟩
  · exact .inl h0
  · exact .inr ⟨b, off, ha, Nat.lt_of_lt_of_le hlt hb.size, fun i hi => (hc i hi).later hlt hb⟩
theorem Wins.at {W : World} {a : Option Addr} {n : Nat} {S : Nat → Wn} (h : Wins W a n S) (h0 : 0 < n) : ∃ b off, a = some ⟨b, off, none⟩ ∧ b < W.heap.size ∧ ∀ i, i < n → WnAt W b (off + i * 4) (S i) := by
  rcases h.cell with h | h
  · omega
  · exact h

theorem weights_all {H : Type} {P : Program} {e : TypeId} : ∀ {l : List (DataW H)} {d : DataW H}, d ∈ l → ∀ n ∈ d.weights P e, n ∈ DataW.weightsAll P e l
  | [], d, hd, _, _ => by cases hd
  | x :: l, d, hd, n, hn => by
    rw [DataW.weightsAll, List.mem_append]
    rcases List.mem_cons.1 hd with rfl | hd
    · exact .inl hn
    · exact .inr (weights_all hd n hn)

set_option maxRecDepth 100000 in
theorem open_wins {H : Type} {enc : TypeId × Value → H} {W : World} {r : Reach} {b0 : Nat} {v : Value} {d : DataW H} {ps : List MemPlace} {ts : List TypeId} {ds : List (DataW H)}
    (hval : Value.okWide Tryz.prog W r b0 27 v) (h : DataW.Trod enc Tryz.prog W 0 (fun _ => true) true 27 v d ps)
    (hsz : (DataW.weightsEach Tryz.prog ts ds).all (· ≤ reachBytes) = true) (j : Nat) (ht : ts[j]? = some 27) (hj : ds[j]? = some d) :
    ∃ a n c S, v = .slice a n c ∧ Wins W a n S := by
  obtain ⟨a, n, c, rfl⟩ := okWide_slice Tryz.underlying27 hval
  obtain ⟨fuel, hf⟩ := h
  rcases DataW.trod_slice Tryz.underlying27 hf with ⟨hcs, hx⟩ | ⟨ad, l, c', elems, rest, m, _, hcs, hx, _, hl, hm, hlen, hel, -, -⟩
  · simp [Value.cells] at hcs
    obtain ⟨rfl, rfl, rfl⟩ := hcs
    exact ⟨none, 0, 0, fun _ => wn0, rfl, by omega, .inl rfl⟩
  · simp [Value.cells] at hcs
    obtain ⟨rfl, rfl, rfl⟩ := hcs
    simp only [Prod.mk.injEq] at hx
    have hmx : n ≤ 9223372036854775807 := by unfold maxLen at hm; omega
    by_cases h0 : n = 0
    · exact ⟨_, _, _, fun _ => wn0, rfl, hmx, .inl h0⟩
    have hw : ∀ (i : Nat) (hi : i < elems.length), ∀ k ∈ (elems[i]'hi).1.weights Tryz.prog 44, k ≤ reachBytes := by
      intro i hi k hk
      have h1 : k ∈ DataW.weightsAll Tryz.prog 44 (elems.map (·.1)) := weights_all (List.mem_map.2 ⟨elems[i], List.getElem_mem hi, rfl⟩) k hk
      have h2 : k ∈ d.weights Tryz.prog 27 := by
        rw [hx.1]
        simp only [DataW.weights, Tryz.underlying27, List.mem_cons, List.mem_append]
        exact .inr (.inl h1)
      exact of_decide_eq_true (List.all_eq_true.1 hsz _ (DataW.weights_mem_each ht hj _ h2))
    have each : ∀ i, i < n → ∃ s : Wn, W.cell? (ad.add (i * 4)) = some (.int .i64 s.v.x) ∧ W.cell? (ad.add (i * 4 + 1)) = some (.int .i64 s.v.y) ∧ W.cell? (ad.add (i * 4 + 2)) = some (.int .i64 s.v.c) ∧ W.cell? (ad.add (i * 4 + 3)) = some (.slice s.a s.n s.c) ∧ YtihbhbeaihdgnaaGreat.Knd.Ints W s.a s.n s.c s.v.ps ∧ s.n ≤ 17592186044000 := by
      intro i hi
      have h1 := hel i hi
      rw [ocellsW, List.getElem?_eq_getElem (by omega), Option.bind_eq_some_iff] at h1
      obtain ⟨cs, hc, ht1⟩ := h1
      obtain ⟨-, hcl, hce⟩ := World.cells?_some hc
      obtain ⟨xs, k, _, hx1, hl1, hxs, hall⟩ := DataW.trod_struct Tryz.underlying44 ht1
      have hwi := hw i (by omega)
      have hlen1 : xs.length = 4 := hxs
      obtain ⟨c0, c1, c2, c3, rfl⟩ : ∃ c0 c1 c2 c3, cs = [c0, c1, c2, c3] := by
        match cs, hcl with
        | [a, b, c, d], _ => exact ⟨a, b, c, d, rfl⟩
      obtain ⟨y0, y1, y2, y3, rfl⟩ : ∃ y0 y1 y2 y3, xs = [y0, y1, y2, y3] := by
        match xs, hlen1 with
        | [a, b, c, d], _ => exact ⟨a, b, c, d, rfl⟩
      have f0 := hall 0 _ rfl
      have f1 := hall 1 _ rfl
      have f2 := hall 2 _ rfl
      have f3 := hall 3 _ rfl
      obtain ⟨x0, rfl⟩ := field_int (v := c0) f0 rfl
      obtain ⟨x1, rfl⟩ := field_int (v := c1) f1 rfl
      obtain ⟨x2, rfl⟩ := field_int (v := c2) f2 rfl
      obtain ⟨a', n', k', zs, rfl, hI, hd⟩ := open_nums (v := c3) f3
      have e0 := hce 0 (by omega)
      have e1 := hce 1 (by omega)
      have e2 := hce 2 (by omega)
      have e3 := hce 3 (by omega)
      rw [Deep.add_add] at e0 e1 e2 e3
      refine ⟨⟨⟨x0, x1, x2, zs⟩, a', n', k'⟩, by simpa using e0, by simpa using e1, by simpa using e2, by simpa using e3, hI, ?_⟩
      rcases hd with ⟨_, rfl⟩ | ⟨els, spare, h5, rfl⟩
      · exact Nat.zero_le _
      · have hmem : (els.length + spare.length) * Tryz.prog.bytesOf 3 ∈ (elems[i]'(by omega)).1.weights Tryz.prog 44 := by
          rw [hx1]
          simp [DataW.weights, Tryz.underlying44, DataW.weightsEach, Tryz.underlying42, h5]
        have := hwi _ hmem
        rw [obytesI] at this
        simp only [reachBytes] at this
        show els.length ≤ _
        omega
    have each2 : ∃ S : Nat → Wn, ∀ i, i < n → W.cell? (ad.add (i * 4)) = some (.int .i64 (S i).v.x) ∧ W.cell? (ad.add (i * 4 + 1)) = some (.int .i64 (S i).v.y) ∧ W.cell? (ad.add (i * 4 + 2)) = some (.int .i64 (S i).v.c) ∧ W.cell? (ad.add (i * 4 + 3)) = some (.slice (S i).a (S i).n (S i).c) ∧ YtihbhbeaihdgnaaGreat.Knd.Ints W (S i).a (S i).n (S i).c (S i).v.ps ∧ (S i).n ≤ 17592186044000 := by
      refine ⟨fun i => if hi : i < n then (each i hi).choose else wn0, fun i hi => ?_⟩
      simp only [dif_pos hi]
      exact (each i hi).choose_spec
    obtain ⟨S, hS⟩ := each2
    obtain ⟨b, off, spot⟩ := ad
    have hspot : spot = none := by simpa [Addr.add] using World.cell?_spot (hS 0 (by omega)).1
    subst hspot
    refine ⟨_, n, _, S, rfl, hmx, .inr ⟨b, off, rfl, World.block_lt_of_cell? W _ (by simpa [Addr.add] using (hS 0 (by omega)).1), fun i hi => ?_⟩⟩
    obtain ⟨h1, h2, h3, h4, h5, h6⟩ := hS i hi
    rw [Addr.add_lit] at h1 h2 h3 h4
    exact ⟨h1, by rw [Nat.add_assoc]; exact h2, by rw [Nat.add_assoc]; exact h3, by rw [Nat.add_assoc]; exact h4, h5, h6⟩

end Go.Proofs.Vmm

/-
  The document's Run; a round's state in ChainRuns.
-/
namespace Go.Proofs.Chn
open Go.RowKit Go.IntWalk YtihbhbeaihdgnaaGreat.Knd
open YtihbhbeaihdgnaaGreat (Wd wdA Fits)
open Cde (In i0 ia kd cd Ins is6 four_of two_of has_new1 vaZ TwP own_later own_mono owns_other tw_ints getD_pre below_dN)
open Vfy (vfE)
set_option linter.unusedVariables false

set_option maxRecDepth 100000 in
set_option maxHeartbeats 4000000 in
theorem grun2_any {f d out : Int} (v : Wd) {a pa : Option Addr} {n cap pl pc : Nat} {L : List In} {W : World} (hL : Ins W a n cap L) (hP : Ints W pa pl pc v.ps) (h : vfE f d L out = 0) :
    Calls Tryz.prog 12 #[.agg (cd f d a n cap out), .agg (wdA v pa pl pc)] W fun e W' => e = .returned (hrV (vaZ f d v L out) out) ∧ Below W.heap.size W W' := by
  have hb1 := bel (bel1 W (.cells (cd f d a n cap out) 26)) (bel1 (W.alloc (.cells (cd f d a n cap out) 26)) (.cells (wdA v pa pl pc) 44))
  have HC0 := hide ((HasC.new W 26 (cd f d a n cap out)).alloc (.cells (wdA v pa pl pc) 44))
  have HB0 := hide hb1
  have HG := hide (grun_any v (hL.later hb1) (hP.later hb1) h)
  have h2 := run_two h v
  clear hb1 hL hP h
  rcases h2 with ⟨-, D, h1, -, h3, h4, h5⟩ | ⟨-, h1⟩
  · rw [h1] at HG ⊢
    obtain ⟨q, rfl⟩ : ∃ q : Nat, out = q := ⟨out.toNat, by omega⟩
    obtain ⟨z, hz⟩ : ∃ z, D.getD q 0 = z := ⟨_, rfl⟩
    rw [show hrV (0, D) q = .tuple #[.int .i64 z, .int .i64 0] by simp [hrV, hrX, ← hz]]
    have HZ := hide hz
    have hq : q < D.length := by omega
    clear h1 h3 h4 h5 hz
    go_enter Tryz.func12, Tryz.ntmps12
    go_wp2_with fail
    refine HG.out.mono ?_
    rintro e V1 ⟨la, lc, rfl, hO, hb⟩
    have HC1 := hide (HC0.out.below hb)
    have HB1 := hide (bel HB0.out hb)
    obtain ⟨b, o, rfl, -, hat⟩ := (tw_ints hO).at (by dsimp only; omega)
    have px := hat q hq
    rw [HZ.out] at px
    obtain ⟨c0, c1, c2, c3⟩ := four_of HC1.out
    have i0 : (0 : Int) ≤ q := by omega
    have i1 : (q : Int) < D.length := by omega
    clear hb hO hat HG HC0 HB0
    go_wp2_with fail
    exact bodyPost_ret (v := .tuple #[.int .i64 z, .int .i64 0]) (by simp [results, Tryz.results12, go_sem]) rfl ⟨rfl, HB1.out⟩
  · rw [h1] at HG ⊢
    rw [show hrV (1, []) out = .tuple #[.int .i64 0, .int .i64 1] from rfl]
    clear h1
    go_enter Tryz.func12, Tryz.ntmps12
    go_wp2_with fail
    refine HG.out.mono ?_
    rintro e V1 ⟨la, lc, rfl, -, hb⟩
    have HB1 := hide (bel HB0.out hb)
    clear hb HG HC0 HB0
    go_wp2_with fail
    exact bodyPost_ret (v := .tuple #[.int .i64 0, .int .i64 1]) (by simp [results, Tryz.results12, go_sem]) rfl ⟨rfl, HB1.out⟩

theorem held_below {g pl : Nat} {pa : Option Addr} (pc : Nat) {zs : List Int} {V : World} (h1 : Ints V (some ⟨g, 0, none⟩) (pl + 40) (pl + 40) (zs ++ marks)) (h2 : Ints V pa pl pc zs) :
    Calls Tryz.prog 13 #[.slice (some ⟨g, 0, none⟩) pl (pl + 40), .slice pa pl pc] V fun e w' => e = .returned (.bool true) ∧ Below V.heap.size V w' :=
  (YtihbhbeaihdgnaaGreat.Knd.held_any g 0 pl (pl + 40) pa pc zs V h1 h2).mono fun e w' ⟨he, q, hq⟩ => ⟨he, by rw [hq]; exact below_dN V q⟩

/-- A round's window, copied, and its list in memory of its own with marks behind. -/
structure Rv (Vr V : World) (v : Wd) (pl g4 : Nat) : Prop where
  old : Below Vr.heap.size Vr V
  z : HasC V Vr.heap.size 44 (wdA v (some ⟨g4, 0, none⟩) pl (pl + 40))
  O : V.ownsRow Vr.heap.size 3 1 (.slice (some ⟨g4, 0, none⟩) (pl + 40) (pl + 40)) (pl + 40) (i64s (v.ps ++ marks))
  len : v.ps.length = pl
theorem Rv.name {Vr V : World} {v : Wd} {pl g4 : Nat} (h : Hid (Rv Vr V v pl g4)) : ∃ V2, V = V2 := ⟨V, rfl⟩
theorem Rv.later {Vr V V' : World} {v : Wd} {pl g4 : Nat} (h : Rv Vr V v pl g4) (hb : Below V.heap.size V V') : Rv Vr V' v pl g4 := ⟨bel h.old hb, h.z.below hb, own_later h.O hb, h.len⟩
theorem Rv.more {Vr V : World} {v : Wd} {pl g4 : Nat} (h : Rv Vr V v pl g4) : Ints V (some ⟨g4, 0, none⟩) (pl + 40) (pl + 40) (v.ps ++ marks) := by
  obtain ⟨a, c, e, hi, -⟩ := Ints.of_owns h.O
  cases e
  exact hi
theorem Rv.P2 {Vr V : World} {v : Wd} {pl g4 : Nat} (h : Rv Vr V v pl g4) : Ints V (some ⟨g4, 0, none⟩) pl (pl + 40) v.ps := by
  have h1 := h.more
  refine ⟨h.len, by omega, h1.max, (fun h => by cases h), ?_⟩
  rcases h1.cell with h0 | ⟨b, off, e, hc⟩
  · omega
  · refine .inr ⟨b, off, e, fun i hi => ?_⟩
    rw [hc i (by omega), getD_pre (by rw [h.len]; exact hi)]
theorem Rv.start {Vr V1 V2 : World} {v : Wd} {pa : Option Addr} {pl pc : Nat} (hz : HasC V1 Vr.heap.size 44 (wdA v pa pl pc)) (hb1 : Below Vr.heap.size Vr V1) (hO : V2.ownsRow (Vr.heap.size + 1) 3 1 (.slice (some ⟨Vr.heap.size + 1, 0, none⟩) (pl + 40) (pl + 40)) (pl + 40) (i64s (v.ps ++ marks))) (hb : Below V1.heap.size V1 V2) (hl : v.ps.length = pl) :
    Rv Vr (V2.setCell ⟨Vr.heap.size, 3, none⟩ (.slice (some ⟨Vr.heap.size + 1, 0, none⟩) pl (pl + 40))) v pl (Vr.heap.size + 1) := by
  have h2 := hz.below hb
  exact ⟨(bel hb1 hb).setCell (p := ⟨Vr.heap.size, 3, none⟩) (by simp) _, h2.set 3 _, own_mono (owns_other hO h2 (by decide) _) (by omega), hl⟩

end Go.Proofs.Chn

/-
  The walk of the function that kind.All answers: it goes over the places of the kind by their numbers, for every loop body that leaves alone what lies in the memory behind the loop's beginning.
-/
import Derived.Test.YtlhbgkaknfhlnaaGreatZKnA
import Derived.RangeFuncNested
import Derived.RangeFuncBound
import Derived.RangeFuncCalls
import Derived.RangeFuncLeaves
import Derived.Shelf.Abstract
import Derived.Shelf.RegionOpen
import Derived.OwnWalkIn
import Derived.TacticsInMore
import Derived.LoopNIn
import Derived.LoopIn
import Derived.Maps.OwnIn
import Derived.Maps.OwnSet
import Derived.DeepKeys4
namespace Go.Proofs.YtlhbgkaknfhlnaaGreat.Knd
open Go.RowKit Go.Shelf
set_option linter.unusedVariables false
attribute [local go_sem] Oper.semAt_some

/-- What a round that goes on keeps: the cells that lie at or behind B. -/
structure KeepsIn (B : Nat) (W W' : World) : Prop where
  size : W.heap.size ≤ W'.heap.size
  same : ∀ (k : Nat) (o : Obj), B ≤ k → W.heap[k]? = some o → o.isCells = true → W'.heap[k]? = some o

theorem KeepsIn.refl (B : Nat) (W : World) : KeepsIn B W W := ⟨Nat.le_refl _, fun _ _ _ h _ => h⟩
theorem KeepsIn.trans {B : Nat} {X Y Z : World} (h : KeepsIn B X Y) (k : KeepsIn B Y Z) : KeepsIn B X Z :=
  ⟨Nat.le_trans h.size k.size, fun i o hB hi ho => k.same i o hB (h.same i o hB hi ho) ho⟩
theorem KeepsIn.of_grownBy {B : Nat} {W W' : World} {row : Option Nat} (hg : W.grownBy W' row) (hrow : ∀ j, row = some j → j < B ∨ ∃ o, W.heap[j]? = some o ∧ o.isCells = false) : KeepsIn B W W' :=
  ⟨hg.size, fun k o hB hk ho => (hg.block k (Array.getElem?_eq_some_iff.1 hk).1 (fun e => by
    rcases hrow k e.symm with h | ⟨o', h1, h2⟩
    · omega
    · rw [hk] at h1; cases h1; rw [ho] at h2; cases h2)).trans hk⟩
theorem KeepsIn.of_below {B : Nat} {W W' : World} (h : Below W.heap.size W W') : KeepsIn B W W' :=
  ⟨h.size, fun k o _ hk _ => (h.block k (Array.getElem?_eq_some_iff.1 hk).1).trans hk⟩
theorem KeepsIn.setCell {B : Nat} (W : World) {p : Addr} (hp : p.block < B) (u : Value) : KeepsIn B W (W.setCell p u) :=
  ⟨by simp [World.setCell], fun k o hB hk _ => (Below.heap_setCell W p u k (by omega)).trans hk⟩
theorem keepsIn_b {B : Nat} {w : World} (W : World) (l : Nat) (o o' : Obj) (_ : w.heap.size ≤ l) (h : W.heap[l]? = some o) (hc : o.isCells = false) (_ : o.isWalk = false) : KeepsIn B W (W.putObj l o') :=
  KeepsIn.of_grownBy (grownBy_putObj' W l o') (fun j e => by cases e; exact .inr ⟨o, h, hc⟩)

theorem grownBy_none_of_below {W W' : World} (h : Below W.heap.size W W') : W.grownBy W' none := ⟨h.os, h.tape, h.output, h.size, fun k hk _ => h.block k hk⟩

def zp : Plc := ⟨0, 0, 0, 0⟩
/-- What yield is handed: a number and its place. -/
def encs (L : List Plc) (i : Fin 64) : Array Value :=
  #[.int .i64 (i.val : Int), .agg #[.int .i64 (L.getD i.val zp).back, .int .i64 (L.getD i.val zp).coords, .int .i64 (L.getD i.val zp).x, .int .i64 (L.getD i.val zp).y]]

theorem encs_of {L : List Plc} {N : Nat} (h : N < 64) {p : Plc} (hp : L[N]? = some p) : encs L ⟨N, h⟩ = #[.int .i64 (N : Int), .agg #[.int .i64 p.back, .int .i64 p.coords, .int .i64 p.x, .int .i64 p.y]] := by
  simp [encs, List.getD, hp]

/-- What the answer of blocks is in memory. -/
theorem rects {w2 : World} {base : Nat} {v : Value} {l : List Blk} (h : w2.ownsRow base 162 6 v l.length (bcells l)) :
    ∃ a cap, v = .slice a l.length cap ∧ (l = [] ∨ ∃ g cur, a = some ⟨g, 0, none⟩ ∧ base ≤ g ∧ w2.heap[g]? = some (.cells cur 162 (0, 0)) ∧ ∀ i, i < l.length * 6 → cur[i]? = (bcells l)[i]?) := by
  rcases h.2 with ⟨rfl, hl⟩ | ⟨g, cap, cur, rfl, hb, hg, _, _, hsz, htk⟩
  · exact ⟨none, 0, by rw [hl], .inl (List.eq_nil_of_length_eq_zero hl)⟩
  · refine ⟨_, _, rfl, .inr ⟨g, cur, rfl, hb, hg, fun i hi => ?_⟩⟩
    rw [← htk, List.getElem?_take, if_pos hi, Array.getElem?_toList]

theorem rect_cells {wr : World} {g : Nat} {cur : Array Value} {l : List Blk} (hg : wr.heap[g]? = some (.cells cur 162 (0, 0))) (hc : ∀ i, i < l.length * 6 → cur[i]? = (bcells l)[i]?) (j : Nat) (hj : j < l.length) :
    wr.cell? ⟨g, j * 6, none⟩ = some (.int .i64 l[j].back) ∧ wr.cell? ⟨g, j * 6 + 1, none⟩ = some (.int .i64 l[j].coords) ∧ wr.cell? ⟨g, j * 6 + 2, none⟩ = some (.int .i64 l[j].y0) ∧ wr.cell? ⟨g, j * 6 + 3, none⟩ = some (.int .i64 l[j].y1) ∧ wr.cell? ⟨g, j * 6 + 4, none⟩ = some (.int .i64 l[j].x0) ∧ wr.cell? ⟨g, j * 6 + 5, none⟩ = some (.int .i64 l[j].x1) := by
  have h := fun i (hi : i < 6) => (cell_of_row wr g (j * 6 + i) cur 162 (0, 0) hg).trans ((hc _ (by omega)).trans (bcells_at l j i hj hi))
  exact ⟨h 0 (by decide), h 1 (by decide), h 2 (by decide), h 3 (by decide), h 4 (by decide), h 5 (by decide)⟩

theorem box_cells {wr : World} {g : Nat} {b : Blk} (hg : wr.heap[g]? = some (.cells #[.int .i64 b.back, .int .i64 b.coords, .int .i64 b.y0, .int .i64 b.y1, .int .i64 b.x0, .int .i64 b.x1] 162 (0, 0))) :
    wr.cell? ⟨g, 0, none⟩ = some (.int .i64 b.back) ∧ wr.cell? ⟨g, 1, none⟩ = some (.int .i64 b.coords) ∧ wr.cell? ⟨g, 2, none⟩ = some (.int .i64 b.y0) ∧ wr.cell? ⟨g, 3, none⟩ = some (.int .i64 b.y1) ∧ wr.cell? ⟨g, 4, none⟩ = some (.int .i64 b.x0) ∧ wr.cell? ⟨g, 5, none⟩ = some (.int .i64 b.x1) := by
  have h := fun i => cell_of_row wr g i _ 162 (0, 0) hg
  exact ⟨h 0, h 1, h 2, h 3, h 4, h 5⟩

set_option maxRecDepth 100000 in
set_option maxHeartbeats 4000000 in
theorem all1_in (n : Nat) (hn : 1 ≤ n) (l Bk B : Nat) (f d : Int) (J Jx : List (Fin 64) → World → Prop) (W : World) (hB : B ≤ W.heap.size)
    (hJ : AbidesFrom W.heap.size J)
    (hY : ∀ pre x W1, J pre W1 → pre.length < (plcs f d).length → YieldAt Fence.wide (n - 1) Tryz.prog l (encs (plcs f d) x) W1 fun e W' =>
      (e = .returned (.bool true) ∧ J (pre ++ [x]) W' ∧ KeepsIn B W1 W') ∨ (e = .returned (.bool false) ∧ Jx (pre ++ [x]) W'))
    (hk0 : W.cell? ⟨Bk, 0, none⟩ = some (.int .i64 f)) (hk1 : W.cell? ⟨Bk, 1, none⟩ = some (.int .i64 d)) (h0 : J [] W) :
    CallsIn Fence.wide n Tryz.prog 142 #[.func (.yield l) #[] #[], .pointer (some ⟨Bk, 0, none⟩)] W fun e W' => (∃ v, e = .returned v) ∧
      ((∃ xs, xs = upto (plcs f d).length ∧ J xs W') ∨ (∃ pre, (∃ k, k ≤ (plcs f d).length ∧ pre = upto k) ∧ Jx pre W')) := by
  have hro : Fence.wide.round = none := rfl
  refine callsIn_of_wp Tryz.func142 rfl trivial ?_ hro
  simp only [Tryz.ntmps142, List.size_toArray, List.length_cons, List.length_nil, Nat.reduceAdd, Nat.reduceSub, Array.replicate_succ, Array.replicate_zero, List.push_toArray, List.append_toArray, List.nil_append, List.cons_append]
  gi_wp2_with (refine ⟨trivial, ?_⟩; gi_at_call 143; refine (callsIn_wide.2 (blocks_any f d _)).mono ?_; rintro e w2 ⟨v, rfl, hown, hb2⟩; obtain ⟨va, vc, rfl, hrect⟩ := rects hown; have HRect := hide hrect; have HB2 := hide hb2; clear hown hb2 hrect; obtain ⟨LL, hLL⟩ : ∃ LL, LL = blks f d := ⟨_, rfl⟩; rw [← hLL] at HRect ⊢; have HLL := hide hLL; clear hLL)
  have HJ2 : Hid (J (upto 0) w2) := hJ _ _ _ none h0 (grownBy_none_of_below HB2.out) (fun r e => by cases e)
  obtain ⟨hlen, h5, hbd⟩ := blks_bound f d
  rw [← HLL.out] at h5 hbd
  have HN := hide hlen
  have HBd := hide hbd
  have HY := hide hY
  clear hlen hbd hY
  gi_loopw [3, 11] (fun nv iv wr => ∃ j N : Nat, j ≤ LL.length ∧ iv = .int .i64 j ∧ nv = .int .i64 N ∧ N < 64 ∧ Hid (N = cnt LL j) ∧ Hid (J (upto N) wr) ∧ Hid (KeepsIn B w2 wr)) (fun _ iv _ => LL.length - (intOf iv).toNat)
  case atStart => exact ⟨0, 0, Nat.zero_le _, rfl, rfl, by decide, rfl, HJ2, KeepsIn.refl _ _⟩
  case round =>
    obtain ⟨j, N, hj, rfl, rfl, hN64, HNc, HJr, HKr⟩ := hrel
    by_cases hlt : j < LL.length
    · rcases HRect.out with hnil | ⟨g, cur, rfl, hgb, hgc, hcs⟩
      · rw [hnil] at hlt; simp at hlt
      have HG : Hid (wr.heap[g]? = some (.cells cur 162 (0, 0))) := HKr.out.same g _ (by omega) hgc rfl
      obtain ⟨c0, c1, c2, c3, c4, c5⟩ := rect_cells HG.out hcs j hlt
      have HCS := hide hcs
      have HGC := hide hgc
      clear hcs hgc HRect
      obtain ⟨bk, hbk⟩ : ∃ bk, bk = LL[j] := ⟨_, rfl⟩
      rw [← hbk] at c0 c1 c2 c3 c4 c5
      have HBK := hide hbk
      obtain ⟨q1, q2, q3, q4, q5, q6, q7, q8⟩ := HBd.out bk (by rw [hbk]; exact List.getElem_mem hlt)
      clear hbk
      have hbx : (wr.alloc (.cells #[.int .i64 bk.back, .int .i64 bk.coords, .int .i64 bk.y0, .int .i64 bk.y1, .int .i64 bk.x0, .int .i64 bk.x1] 162)).heap[wr.heap.size]? = some (.cells #[.int .i64 bk.back, .int .i64 bk.coords, .int .i64 bk.y0, .int .i64 bk.y1, .int .i64 bk.x0, .int .i64 bk.x1] 162 (0, 0)) := heap_alloc_new wr _
      have HBx := hide hbx
      have HJ3 : Hid (J (upto N) (wr.alloc (.cells #[.int .i64 bk.back, .int .i64 bk.coords, .int .i64 bk.y0, .int .i64 bk.y1, .int .i64 bk.x0, .int .i64 bk.x1] 162))) := hJ _ _ _ none HJr.out (World.grownBy_alloc _ _ none) (fun r e => by cases e)
      have HK3 : Hid (KeepsIn B w2 (wr.alloc (.cells #[.int .i64 bk.back, .int .i64 bk.coords, .int .i64 bk.y0, .int .i64 bk.y1, .int .i64 bk.x0, .int .i64 bk.x1] 162))) := HKr.out.trans (KeepsIn.of_below (bel1 _ _))
      have HBb : Hid (B ≤ wr.heap.size) := Nat.le_trans hB (Nat.le_trans HB2.out.size HKr.out.size)
      have HRows : Hid (N + bk.rows * bk.cols < 64 ∧ N + bk.rows * bk.cols = cnt LL (j + 1) ∧ cnt LL (j + 1) ≤ (plcs f d).length) := by
        have h1 := cnt_succ LL j hlt
        have h2 := cnt_mono LL (j + 1) hlt
        have h3 := HN.out
        have h4 := HNc.out
        unfold plcs at h3 ⊢
        rw [← HLL.out] at h3 ⊢
        rw [HBK.out]
        exact ⟨by omega, by omega, h2⟩
      clear hbx
      gi_wp2
      clear c0 c1 c2 c3 c4 c5 HG HJr HKr HJ2
      generalize (wr.alloc (.cells #[.int .i64 bk.back, .int .i64 bk.coords, .int .i64 bk.y0, .int .i64 bk.y1, .int .i64 bk.x0, .int .i64 bk.x1] 162)) = w3 at HBx HJ3 HK3 ⊢
      generalize wr.heap.size = Bb at HBx HBb ⊢
      gi_loopw [3, 6] (fun nv yv wt => ∃ (t M : Nat) (Y : Int), t ≤ bk.rows ∧ yv = .int .i64 Y ∧ -2 ≤ Y ∧ Y ≤ bk.y1 + 1 ∧ Hid (Y = bk.y0 + (t : Int)) ∧ nv = .int .i64 M ∧ M < 64 ∧ Hid (M = N + t * bk.cols) ∧ Hid (J (upto M) wt) ∧ Hid (KeepsIn B w2 wt) ∧ Hid (wt.heap[Bb]? = some (.cells #[.int .i64 bk.back, .int .i64 bk.coords, .int .i64 bk.y0, .int .i64 bk.y1, .int .i64 bk.x0, .int .i64 bk.x1] 162 (0, 0)))) (fun _ yv _ => (bk.y1 + 1 - intOf yv).toNat)
      case atStart => exact ⟨0, N, bk.y0, Nat.zero_le _, rfl, by omega, by omega, by unfold Hid; simp, rfl, hN64, by unfold Hid; simp, HJ3, HK3, HBx⟩
      case round =>
        obtain ⟨t, M, Y, ht, rfl, hY1, hY2, HYt, rfl, hM64, HM, HJt, HKt, HBt⟩ := hrel
        obtain ⟨b0, b1, b2, b3, b4, b5⟩ := box_cells HBt.out
        by_cases hle : Y ≤ bk.y1
        · have htr : t < bk.rows := by
            have := HYt.out
            unfold Blk.rows
            omega
          have HIdx : Hid (M + bk.cols < 64 ∧ M + bk.cols = N + (t + 1) * bk.cols ∧ ∀ s, s < bk.cols → M + s < (plcs f d).length ∧ (plcs f d)[M + s]? = some ⟨bk.back, bk.coords, bk.x0 + (s : Int), Y⟩) := by
            obtain ⟨r1, r2, r3⟩ := HRows.out
            have h1 : (t + 1) * bk.cols ≤ bk.rows * bk.cols := Nat.mul_le_mul_right _ htr
            have h2 := HM.out
            have h3 : (t + 1) * bk.cols = t * bk.cols + bk.cols := Nat.succ_mul _ _
            refine ⟨by omega, by omega, fun s hs => ⟨by omega, ?_⟩⟩
            have h4 := plsAll_at LL j t s hlt (by rw [← HBK.out]; exact htr) (by rw [← HBK.out]; exact hs)
            rw [← HBK.out, ← HNc.out, HLL.out] at h4
            rw [HYt.out, h2, show N + t * bk.cols + s = N + (t * bk.cols + s) by omega]
            exact h4
          clear b0 b1 b2
          gi_wp2
          clear b3 b4 b5
          generalize wr = wt at HJt HKt HBt ⊢
          gi_loopw [3, 7] (fun nv xv ws => ∃ (s R : Nat) (X : Int), s ≤ bk.cols ∧ xv = .int .i64 X ∧ -16 ≤ X ∧ X ≤ bk.x1 + 1 ∧ Hid (X = bk.x0 + (s : Int)) ∧ nv = .int .i64 R ∧ R < 64 ∧ Hid (R = M + s) ∧ Hid (J (upto R) ws) ∧ Hid (KeepsIn B w2 ws) ∧ Hid (ws.heap[Bb]? = some (.cells #[.int .i64 bk.back, .int .i64 bk.coords, .int .i64 bk.y0, .int .i64 bk.y1, .int .i64 bk.x0, .int .i64 bk.x1] 162 (0, 0)))) (fun _ xv _ => (bk.x1 + 1 - intOf xv).toNat)
          case atStart => exact ⟨0, M, bk.x0, Nat.zero_le _, rfl, by omega, by omega, by unfold Hid; simp, rfl, hM64, by unfold Hid; simp, HJt, HKt, HBt⟩
          case round =>
            obtain ⟨s, R, X, hs, rfl, hX1, hX2, HXs, rfl, hR64, HR, HJs, HKs, HBs⟩ := hrel
            obtain ⟨b0, b1, b2, b3, b4, b5⟩ := box_cells HBs.out
            by_cases hlx : X ≤ bk.x1
            · have hsc : s < bk.cols := by
                have := HXs.out
                unfold Blk.cols
                omega
              obtain ⟨i1, i2, i3⟩ := HIdx.out
              obtain ⟨i4, i5⟩ := i3 s hsc
              rw [← HXs.out, ← HR.out] at i5
              have hR1 : R + 1 < 64 := by have := HR.out; omega
              have HLen : Hid (R < (plcs f d).length) := by unfold Hid; have := HR.out; omega
              have hyy := HY.out (upto R) ⟨R, hR64⟩ wr HJs.out (by rw [upto_len R (by omega)]; exact HLen.out)
              rw [encs_of hR64 i5, ← upto_succ R hR64] at hyy
              obtain ⟨fn, tmps, assign, body, hy, hRd⟩ := hyy
              dsimp only at hy
              clear i1 i2 i3 i4 i5 b2 b3
              gi_wp2
              refine hRd.mono ?_
              rintro e W3 (⟨rfl, hJ3, hk3⟩ | ⟨rfl, hJx3⟩)
              · have HJ4 := hide hJ3
                have HK4 := hide hk3
                clear hJ3 hk3 b0 b1 b4 b5
                gi_wp2
                refine ⟨⟨s + 1, R + 1, X + 1, hsc, rfl, by omega, by omega, ?_, by go_num, hR1, ?_, HJ4, HKs.out.trans HK4.out, HK4.out.same Bb _ HBb.out HBs.out rfl⟩, ?_⟩
                · have := HXs.out
                  unfold Hid
                  omega
                · have := HR.out
                  unfold Hid
                  omega
                · simp [intOf]; omega
              · gi_wp2
                refine bodyPost_ret (results_none rfl _ _ _) rfl ?_
                exact ⟨⟨_, rfl⟩, .inr ⟨_, ⟨R + 1, HLen.out, rfl⟩, hJx3⟩⟩
            · have hsc : s = bk.cols := by
                have := HXs.out
                unfold Blk.cols at hs ⊢
                omega
              gi_wp2
              refine ⟨⟨t + 1, R, Y + 1, htr, rfl, by omega, by omega, ?_, rfl, hR64, ?_, HJs, HKs, HBs⟩, ?_⟩
              · have := HYt.out
                unfold Hid
                omega
              · have h1 := HR.out
                have h2 := HIdx.out.2.1
                unfold Hid
                omega
              · simp [intOf]; omega
        · have htr : t = bk.rows := by
            have := HYt.out
            unfold Blk.rows at ht ⊢
            omega
          gi_wp2
          refine ⟨⟨j + 1, M, hlt, by go_num, rfl, hM64, ?_, HJt, HKt⟩, ?_⟩
          · have h1 := HM.out
            have h2 := HRows.out.2.1
            unfold Hid
            rw [htr] at h1
            omega
          · simp [intOf]; omega
    · obtain rfl : j = LL.length := by omega
      gi_wp2
      go_end0
      refine ⟨⟨_, rfl⟩, .inl ⟨_, ?_, HJr.out⟩⟩
      rw [HNc.out, cnt_all, plcs, HLL.out]


/-- What kind.All answers goes over the numbers and places of the kind. -/
theorem all_stops (n : Nat) (hn : 1 ≤ n) (Bk B : Nat) (f d : Int) (w : World) (hBk : Bk < w.heap.size) (hB : B ≤ w.heap.size)
    (hk0 : w.cell? ⟨Bk, 0, none⟩ = some (.int .i64 f)) (hk1 : w.cell? ⟨Bk, 1, none⟩ = some (.int .i64 d)) :
    SeqStopsK Fence.wide n Tryz.prog 142 #[.pointer (some ⟨Bk, 0, none⟩)] (encs (plcs f d)) (KeepsIn B) (fun xs => xs = upto (plcs f d).length)
      (fun pre => ∃ k, k ≤ (plcs f d).length ∧ pre = upto k) (plcs f d).length w := fun l J Jx W hW hJ _ hY h0 =>
  all1_in n hn l Bk B f d J Jx W (Nat.le_trans hB hW.size) hJ hY ((hW.cell (p := ⟨Bk, 0, none⟩) hBk).trans hk0) ((hW.cell (p := ⟨Bk, 1, none⟩) hBk).trans hk1) h0

set_option maxRecDepth 100000 in
set_option maxHeartbeats 1000000 in
theorem all_any (f d : Int) (w : World) :
    Calls Tryz.prog 124 #[.agg #[.int .i64 f, .int .i64 d]] w fun e w' => e = .returned (.func (.func 142) #[] #[.pointer (some ⟨w.heap.size, 0, none⟩)]) ∧ w' = w.alloc (.cells #[.int .i64 f, .int .i64 d] 23) := by
  go_enter Tryz.func124, Tryz.ntmps124
  go_wp2
  go_ret
  exact ⟨rfl, rfl⟩

end Go.Proofs.YtlhbgkaknfhlnaaGreat.Knd

/-
  The walk of kind.At: the place of a number.
-/
namespace Go.Proofs.YtlhbgkaknfhlnaaGreat.Knd
open Go.RowKit Go.Shelf
set_option linter.unusedVariables false
attribute [local go_sem] Oper.semAt_some

/-- The block b holds just these cells. -/
def HasC (W : World) (b : Nat) (t : TypeId) (cs : Array Value) : Prop := W.heap[b]? = some (.cells cs t (0, 0))

theorem HasC.lt {W : World} {b : Nat} {t : TypeId} {cs : Array Value} (h : HasC W b t cs) : b < W.heap.size := (Array.getElem?_eq_some_iff.1 h).1
theorem HasC.new (W : World) (t : TypeId) (cs : Array Value) : HasC (W.alloc (.cells cs t)) W.heap.size t cs := heap_alloc_new W _
theorem HasC.kept {W W' : World} {row : Option Nat} {b : Nat} {t : TypeId} {cs : Array Value} (h : HasC W b t cs) (hg : W.grownBy W' row) (hne : some b ≠ row) : HasC W' b t cs := (hg.block b h.lt hne).trans h
theorem HasC.alloc {W : World} {b : Nat} {t : TypeId} {cs : Array Value} (h : HasC W b t cs) (o : Obj) : HasC (W.alloc o) b t cs := h.kept (World.grownBy_alloc W o none) (by simp)
theorem HasC.below {W W' : World} {b : Nat} {t : TypeId} {cs : Array Value} (h : HasC W b t cs) (hb : Below W.heap.size W W') : HasC W' b t cs := (hb.block b h.lt).trans h
theorem HasC.cell {W : World} {b : Nat} {t : TypeId} {cs : Array Value} (h : HasC W b t cs) (i : Nat) {v : Value} (hv : cs[i]? = some v) : W.cell? ⟨b, i, none⟩ = some v := (cell_of_row W b i cs t (0, 0) h).trans hv
theorem HasC.frozen {W : World} {b : Nat} {t : TypeId} {cs : Array Value} (h : HasC W b t cs) (i : Nat) : W.frozen? ⟨b, i, none⟩ = false := by
  simp [World.frozen?, show W.heap[b]? = _ from h]
theorem HasC.other {W : World} {b : Nat} {t : TypeId} {cs : Array Value} (h : HasC W b t cs) {p : Addr} (hne : b ≠ p.block) (u : Value) : HasC (W.setCell p u) b t cs := (Below.heap_setCell W p u b hne).trans h
theorem HasC.set {W : World} {b : Nat} {t : TypeId} {cs : Array Value} (h : HasC W b t cs) (i : Nat) (u : Value) : HasC (W.setCell ⟨b, i, none⟩ u) b t (cs.setIfInBounds i u) := by
  obtain ⟨hlt, hk⟩ := Array.getElem?_eq_some_iff.1 h
  show (W.heap.modify b _)[b]? = _
  rw [Array.getElem?_eq_getElem (by rw [Array.size_modify]; exact hlt), Array.getElem_modify_self, hk]
  rfl
theorem hasC_own {β : Type} (b : Nat) (t : TypeId) (f : β → Array Value) : Own (fun s W => HasC W b t (f s)) := fun s X Y row hs hg hrow =>
  hs.kept hg (fun e' => by obtain ⟨o, ho, hc⟩ := hrow b e'.symm; rw [show X.heap[b]? = _ from hs] at ho; cases ho; cases hc)

def pcells (p : Plc) : Array Value := #[.int .i64 p.back, .int .i64 p.coords, .int .i64 p.x, .int .i64 p.y]

/-- The place of a number, if there is one. -/
def atZ (f d n : Int) : Option Plc := if 0 ≤ n then (plcs f d)[n.toNat]? else none
def atV (f d n : Int) : Value := .tuple #[.agg (pcells ((atZ f d n).getD zp)), .bool (atZ f d n).isSome]

theorem ownFrom_hasC {β : Type} {B : Nat} (b : Nat) (t : TypeId) (f : β → Array Value) : OwnFrom B (fun s W => HasC W b t (f s)) := Own.from (hasC_own b t f) B

theorem stores5 (W : World) (b : Nat) (v0 v1 v2 v3 v4 : Value) : KeepsOthers W (((((W.setCell ⟨b, 0, none⟩ v0).setCell ⟨b, 1, none⟩ v1).setCell ⟨b, 2, none⟩ v2).setCell ⟨b, 3, none⟩ v3).setCell ⟨b + 1, 0, none⟩ v4) :=
  ((((KeepsOthers.setCell _ _ _).trans (KeepsOthers.setCell _ _ _)).trans (KeepsOthers.setCell _ _ _)).trans (KeepsOthers.setCell _ _ _)).trans (KeepsOthers.setCell _ _ _)
theorem below5 {w W : World} (h : Below w.heap.size w W) (v0 v1 v2 v3 v4 : Value) : Below w.heap.size w (((((W.setCell ⟨w.heap.size + 1 + 1, 0, none⟩ v0).setCell ⟨w.heap.size + 1 + 1, 1, none⟩ v1).setCell ⟨w.heap.size + 1 + 1, 2, none⟩ v2).setCell ⟨w.heap.size + 1 + 1, 3, none⟩ v3).setCell ⟨w.heap.size + 1 + 1 + 1, 0, none⟩ v4) :=
  ((((h.setCell (p := ⟨w.heap.size + 1 + 1, 0, none⟩) (by simp; omega) v0).setCell (p := ⟨w.heap.size + 1 + 1, 1, none⟩) (by simp; omega) v1).setCell (p := ⟨w.heap.size + 1 + 1, 2, none⟩) (by simp; omega) v2).setCell (p := ⟨w.heap.size + 1 + 1, 3, none⟩) (by simp; omega) v3).setCell (p := ⟨w.heap.size + 1 + 1 + 1, 0, none⟩) (by simp; omega) v4

end Go.Proofs.YtlhbgkaknfhlnaaGreat.Knd

/-
  A map whose keys are places: what a key reads as, and a table of numbers by their places.
-/
namespace Go.Proofs.YtlhbgkaknfhlnaaGreat.Knd
open Go.RowKit Go.Maps
set_option linter.unusedVariables false

set_option maxRecDepth 100000 in
theorem laidOut : laidOutB Tryz.prog = true := by kernel_rfl
theorem row30 : (76 : TypeId) < Tryz.prog.types.size := of_decide_eq_true (by kernel_rfl)
theorem wide30 : (match Tryz.prog.underlying 76 with | some (.array _ _) | some (.struct _) => true | _ => false) = true := by rw [Tryz.underlying76]
set_option maxRecDepth 100000 in
theorem law30 : Keyed Tryz.prog 76 := Keyed.of_law (deep_law_laid laidOut (m := 2) (by omega) row30 (by kernel_rfl) wide30)
theorem keyType30 : Tryz.prog.keyType 76 = true := by kernel_rfl
theorem cells30 : Tryz.prog.cellsOf 76 = 4 := by kernel_rfl

def wf64 (n : Int) : Prop := -9223372036854775808 ≤ n ∧ n ≤ 9223372036854775807
def Plc.wf (p : Plc) : Prop := wf64 p.back ∧ wf64 p.coords ∧ wf64 p.x ∧ wf64 p.y

theorem wf64_lit {n : Int} (h : wf64 n) : (Lit.int .i64 n).wf = true := by
  unfold wf64 at h; simp [Lit.wf, IntKind.min, IntKind.max, IntKind.bits, IntKind.signed]; omega

theorem cells3 : Tryz.prog.cellsOf 3 = 1 := by kernel_rfl

theorem lits3 (d : Nat) {n : Int} (h : wf64 n) : Tryz.prog.keyLits (d + 1) 3 [.int .i64 n] = some [.int .i64 n] := by
  unfold Program.keyLits
  rw [Tryz.underlying3]
  simp [wf64_lit h]

set_option maxRecDepth 100000 in
theorem lits30 (d : Nat) {p : Plc} (h : p.wf) : Tryz.prog.keyLits (d + 1 + 1) 76 (pcells p).toList = some [.int .i64 p.back, .int .i64 p.coords, .int .i64 p.x, .int .i64 p.y] := by
  obtain ⟨h0, h1, h2, h3⟩ := h
  unfold Program.keyLits
  simp only [Tryz.underlying76]
  simp [pcells, cells30, cells3, lits3 d h0, lits3 d h1, lits3 d h2, lits3 d h3]

noncomputable def kl (p : Plc) : Lit := (keyOf Tryz.prog 76 (.agg (pcells p))).getD (.bool false)

set_option maxRecDepth 100000 in
theorem key_some {p : Plc} (h : p.wf) : keyOf Tryz.prog 76 (.agg (pcells p)) = some (kl p) := by
  have : ∃ l, keyOf Tryz.prog 76 (.agg (pcells p)) = some l := by
    have hf : (Value.agg (pcells p)).formed Tryz.prog 76 = true := by
      simp only [Value.formed, Tryz.underlying76, cells30]
      rfl
    obtain ⟨k, hk⟩ : ∃ k, Tryz.prog.types.size + 1 = k + 1 + 1 := ⟨Tryz.prog.types.size - 1, by have h : (76 : Nat) < Tryz.prog.types.size := row30; omega⟩
    have hl := lits30 k h
    rw [← hk] at hl
    refine ⟨.string (keyBytes [.int .i64 p.back, .int .i64 p.coords, .int .i64 p.x, .int .i64 p.y]), ?_⟩
    unfold keyOf
    rw [Tryz.underlying76]
    simp only [keyType30, hf, Bool.and_self, if_true, Value.cells, hl, Option.map_some]
  obtain ⟨l, hl⟩ := this
  unfold kl
  rw [hl]; rfl

set_option maxRecDepth 100000 in
theorem kl_inj {p q : Plc} (hp : p.wf) (hq : q.wf) (h : kl p = kl q) : p = q := by
  have h1 := key_some hp
  have h2 := key_some hq
  rw [← h] at h2
  have := law30.inj h1 h2
  simp [pcells] at this
  cases p; cases q
  simp_all

set_option maxRecDepth 100000 in
theorem kl_key {p : Plc} (hp : p.wf) : WideAt.IsKeyLit (kl p) := law30.key (key_some hp)


/-- The number that was last put in for a place. -/
def look (L : List Plc) (pre : List (Fin 64)) (p : Plc) : Option Nat := pre.foldl (fun r i => if L.getD i.val zp = p then some i.val else r) none

theorem look_snoc (L : List Plc) (pre : List (Fin 64)) (i : Fin 64) (p : Plc) : look L (pre ++ [i]) p = if L.getD i.val zp = p then some i.val else look L pre p := by simp [look]

/-- The map D tells the numbers of pre by their places. -/
def Tab (L : List Plc) (pre : List (Fin 64)) (D : DataW Unit) : Prop :=
  IsMap D ∧ ∀ p : Plc, p.wf → has D (kl p) = (look L pre p).isSome ∧ D.atKey (kl p) (.lit (.int .i64 0)) = .lit (.int .i64 (((look L pre p).getD 0 : Nat) : Int))

set_option maxRecDepth 100000 in
theorem Tab.nil (L : List Plc) : Tab L [] (.map []) := ⟨⟨_, rfl⟩, fun p _ => ⟨rfl, rfl⟩⟩

set_option maxRecDepth 100000 in
theorem Tab.snoc {L : List Plc} {pre : List (Fin 64)} {D : DataW Unit} (h : Tab L pre D) (i : Fin 64) (hi : (L.getD i.val zp).wf) : Tab L (pre ++ [i]) (D.put (kl (L.getD i.val zp)) (.lit (.int .i64 ((i.val : Nat) : Int)))) := by
  refine ⟨h.1.put _ _, fun p hp => ?_⟩
  rw [look_snoc]
  by_cases e : L.getD i.val zp = p
  · rw [if_pos e, e, has_put_same h.1 (kl_key hp), atKey_put_same h.1 (kl_key hp)]
    exact ⟨rfl, rfl⟩
  · rw [if_neg e]
    have hne : kl p ≠ kl (L.getD i.val zp) := fun h' => e (kl_inj hp hi h').symm
    rw [has_put_other hne, atKey_put_other hne]
    exact h.2 p hp

set_option maxRecDepth 100000 in
theorem plcs_wf (f d : Int) : ∀ p ∈ plcs f d, p.wf := by
  unfold plcs
  rcases kind3 f d with ⟨hm, rfl⟩ | ⟨hm, rfl⟩ | hm
  · have e : blks 0 d = imageB := by simp [blks, hm]
    rw [e]; unfold Plc.wf wf64; decide
  · have e : blks 1 d = soundB := by simp [blks, hm]
    rw [e]; unfold Plc.wf wf64; decide
  · have e : blks f d = [] := by simp [blks, hm]
    rw [e]; simp [plsAll]

set_option maxRecDepth 100000 in
theorem getD_wf (f d : Int) (i : Nat) : ((plcs f d).getD i zp).wf := by
  by_cases h : i < (plcs f d).length
  · have e : (plcs f d).getD i zp = (plcs f d)[i] := by simp [List.getD, h]
    rw [e]; exact plcs_wf f d _ (List.getElem_mem h)
  · simp [List.getD, h, zp, Plc.wf, wf64]

end Go.Proofs.YtlhbgkaknfhlnaaGreat.Knd

/-
  The walk of the function that kind.All answers: it goes over the places of the kind by their numbers, for every loop body that leaves alone what lies in the memory behind the loop's beginning.
-/
import Derived.Test.YtinlknflkgijmaaPlc
import Derived.RangeFuncNested
import Derived.RangeFuncBound
import Derived.RangeFuncCalls
import Derived.RangeFuncLeaves
import Derived.Shelf.Abstract
import Derived.Shelf.RegionOpen
import Derived.OwnWalkIn
import Derived.TacticsInMore
import Derived.LoopNIn
import Derived.LoopIn
namespace Go.Proofs.Ytinlknflkgijmaa
open Go.RowKit Go.Shelf
set_option linter.unusedVariables false
attribute [local go_sem] Oper.semAt_some

/-- What a round that goes on keeps: the cells that lie at or behind B. -/
structure KeepsIn (B : Nat) (W W' : World) : Prop where
  size : W.heap.size ≤ W'.heap.size
  same : ∀ (k : Nat) (o : Obj), B ≤ k → W.heap[k]? = some o → o.isCells = true → W'.heap[k]? = some o

theorem KeepsIn.refl (B : Nat) (W : World) : KeepsIn B W W := ⟨Nat.le_refl _, fun _ _ _ h _ => h⟩
theorem KeepsIn.trans {B : Nat} {X Y Z : World} (h : KeepsIn B X Y) (k : KeepsIn B Y Z) : KeepsIn B X Z :=
  ⟨Nat.le_trans h.size k.size, fun i o hB hi ho => k.same i o hB (h.same i o hB hi ho) ho⟩
theorem KeepsIn.of_grownBy {B : Nat} {W W' : World} {row : Option Nat} (hg : W.grownBy W' row) (hrow : ∀ j, row = some j → j < B ∨ ∃ o, W.heap[j]? = some o ∧ o.isCells = false) : KeepsIn B W W' :=
  ⟨hg.size, fun k o hB hk ho => (hg.block k (Array.getElem?_eq_some_iff.1 hk).1 (fun e => by
    rcases hrow k e.symm with h | ⟨o', h1, h2⟩
    · omega
    · rw [hk] at h1; cases h1; rw [ho] at h2; cases h2)).trans hk⟩
theorem KeepsIn.of_below {B : Nat} {W W' : World} (h : Below W.heap.size W W') : KeepsIn B W W' :=
  ⟨h.size, fun k o _ hk _ => (h.block k (Array.getElem?_eq_some_iff.1 hk).1).trans hk⟩
theorem KeepsIn.setCell {B : Nat} (W : World) {p : Addr} (hp : p.block < B) (u : Value) : KeepsIn B W (W.setCell p u) :=
  ⟨by simp [World.setCell], fun k o hB hk _ => (Below.heap_setCell W p u k (by omega)).trans hk⟩
theorem keepsIn_b {B : Nat} {w : World} (W : World) (l : Nat) (o o' : Obj) (_ : w.heap.size ≤ l) (h : W.heap[l]? = some o) (hc : o.isCells = false) (_ : o.isWalk = false) : KeepsIn B W (W.putObj l o') :=
  KeepsIn.of_grownBy (grownBy_putObj' W l o') (fun j e => by cases e; exact .inr ⟨o, h, hc⟩)

theorem grownBy_none_of_below {W W' : World} (h : Below W.heap.size W W') : W.grownBy W' none := ⟨h.os, h.tape, h.output, h.size, fun k hk _ => h.block k hk⟩

def zp : Plc := ⟨0, 0, 0, 0⟩
/-- What yield is handed: a number and its place. -/
def encs (L : List Plc) (i : Fin 64) : Array Value :=
  #[.int .i64 (i.val : Int), .agg #[.int .i64 (L.getD i.val zp).back, .int .i64 (L.getD i.val zp).coords, .int .i64 (L.getD i.val zp).x, .int .i64 (L.getD i.val zp).y]]

theorem encs_of {L : List Plc} {N : Nat} (h : N < 64) {p : Plc} (hp : L[N]? = some p) : encs L ⟨N, h⟩ = #[.int .i64 (N : Int), .agg #[.int .i64 p.back, .int .i64 p.coords, .int .i64 p.x, .int .i64 p.y]] := by
  simp [encs, List.getD, hp]

/-- What the answer of blocks is in memory. -/
theorem rects {w2 : World} {base : Nat} {v : Value} {l : List Blk} (h : w2.ownsRow base 61 6 v l.length (bcells l)) :
    ∃ a cap, v = .slice a l.length cap ∧ (l = [] ∨ ∃ g cur, a = some ⟨g, 0, none⟩ ∧ base ≤ g ∧ w2.heap[g]? = some (.cells cur 61 (0, 0)) ∧ ∀ i, i < l.length * 6 → cur[i]? = (bcells l)[i]?) := by
  rcases h.2 with ⟨rfl, hl⟩ | ⟨g, cap, cur, rfl, hb, hg, _, _, hsz, htk⟩
  · exact ⟨none, 0, by rw [hl], .inl (List.eq_nil_of_length_eq_zero hl)⟩
  · refine ⟨_, _, rfl, .inr ⟨g, cur, rfl, hb, hg, fun i hi => ?_⟩⟩
    rw [← htk, List.getElem?_take, if_pos hi, Array.getElem?_toList]

theorem rect_cells {wr : World} {g : Nat} {cur : Array Value} {l : List Blk} (hg : wr.heap[g]? = some (.cells cur 61 (0, 0))) (hc : ∀ i, i < l.length * 6 → cur[i]? = (bcells l)[i]?) (j : Nat) (hj : j < l.length) :
    wr.cell? ⟨g, j * 6, none⟩ = some (.int .i64 l[j].back) ∧ wr.cell? ⟨g, j * 6 + 1, none⟩ = some (.int .i64 l[j].coords) ∧ wr.cell? ⟨g, j * 6 + 2, none⟩ = some (.int .i64 l[j].y0) ∧ wr.cell? ⟨g, j * 6 + 3, none⟩ = some (.int .i64 l[j].y1) ∧ wr.cell? ⟨g, j * 6 + 4, none⟩ = some (.int .i64 l[j].x0) ∧ wr.cell? ⟨g, j * 6 + 5, none⟩ = some (.int .i64 l[j].x1) := by
  have h := fun i (hi : i < 6) => (cell_of_row wr g (j * 6 + i) cur 61 (0, 0) hg).trans ((hc _ (by omega)).trans (bcells_at l j i hj hi))
  exact ⟨h 0 (by decide), h 1 (by decide), h 2 (by decide), h 3 (by decide), h 4 (by decide), h 5 (by decide)⟩

theorem box_cells {wr : World} {g : Nat} {b : Blk} (hg : wr.heap[g]? = some (.cells #[.int .i64 b.back, .int .i64 b.coords, .int .i64 b.y0, .int .i64 b.y1, .int .i64 b.x0, .int .i64 b.x1] 61 (0, 0))) :
    wr.cell? ⟨g, 0, none⟩ = some (.int .i64 b.back) ∧ wr.cell? ⟨g, 1, none⟩ = some (.int .i64 b.coords) ∧ wr.cell? ⟨g, 2, none⟩ = some (.int .i64 b.y0) ∧ wr.cell? ⟨g, 3, none⟩ = some (.int .i64 b.y1) ∧ wr.cell? ⟨g, 4, none⟩ = some (.int .i64 b.x0) ∧ wr.cell? ⟨g, 5, none⟩ = some (.int .i64 b.x1) := by
  have h := fun i => cell_of_row wr g i _ 61 (0, 0) hg
  exact ⟨h 0, h 1, h 2, h 3, h 4, h 5⟩

set_option maxRecDepth 100000 in
set_option maxHeartbeats 4000000 in
theorem all1_in (n : Nat) (hn : 1 ≤ n) (l Bk B : Nat) (f d : Int) (J Jx : List (Fin 64) → World → Prop) (W : World) (hB : B ≤ W.heap.size)
    (hJ : AbidesFrom W.heap.size J)
    (hY : ∀ pre x W1, J pre W1 → pre.length < (plcs f d).length → YieldAt Fence.wide (n - 1) Try.prog l (encs (plcs f d) x) W1 fun e W' =>
      (e = .returned (.bool true) ∧ J (pre ++ [x]) W' ∧ KeepsIn B W1 W') ∨ (e = .returned (.bool false) ∧ Jx (pre ++ [x]) W'))
    (hk0 : W.cell? ⟨Bk, 0, none⟩ = some (.int .i64 f)) (hk1 : W.cell? ⟨Bk, 1, none⟩ = some (.int .i64 d)) (h0 : J [] W) :
    CallsIn Fence.wide n Try.prog 40 #[.func (.yield l) #[] #[], .pointer (some ⟨Bk, 0, none⟩)] W fun e W' => (∃ v, e = .returned v) ∧
      ((∃ xs, xs = upto (plcs f d).length ∧ J xs W') ∨ (∃ pre, (∃ k, k ≤ (plcs f d).length ∧ pre = upto k) ∧ Jx pre W')) := by
  have hro : Fence.wide.round = none := rfl
  refine callsIn_of_wp Try.func40 rfl trivial ?_ hro
  simp only [Try.ntmps40, List.size_toArray, List.length_cons, List.length_nil, Nat.reduceAdd, Nat.reduceSub, Array.replicate_succ, Array.replicate_zero, List.push_toArray, List.append_toArray, List.nil_append, List.cons_append]
  gi_wp2_with (refine ⟨trivial, ?_⟩; gi_at_call 41; refine (callsIn_wide.2 (blocks_any f d _)).mono ?_; rintro e w2 ⟨v, rfl, hown, hb2⟩; obtain ⟨va, vc, rfl, hrect⟩ := rects hown; have HRect := hide hrect; have HB2 := hide hb2; clear hown hb2 hrect; obtain ⟨LL, hLL⟩ : ∃ LL, LL = blks f d := ⟨_, rfl⟩; rw [← hLL] at HRect ⊢; have HLL := hide hLL; clear hLL)
  have HJ2 : Hid (J (upto 0) w2) := hJ _ _ _ none h0 (grownBy_none_of_below HB2.out) (fun r e => by cases e)
  obtain ⟨hlen, h5, hbd⟩ := blks_bound f d
  rw [← HLL.out] at h5 hbd
  have HN := hide hlen
  have HBd := hide hbd
  have HY := hide hY
  clear hlen hbd hY
  gi_loopw [3, 11] (fun nv iv wr => ∃ j N : Nat, j ≤ LL.length ∧ iv = .int .i64 j ∧ nv = .int .i64 N ∧ N < 64 ∧ Hid (N = cnt LL j) ∧ Hid (J (upto N) wr) ∧ Hid (KeepsIn B w2 wr)) (fun _ iv _ => LL.length - (intOf iv).toNat)
  case atStart => exact ⟨0, 0, Nat.zero_le _, rfl, rfl, by decide, rfl, HJ2, KeepsIn.refl _ _⟩
  case round =>
    obtain ⟨j, N, hj, rfl, rfl, hN64, HNc, HJr, HKr⟩ := hrel
    by_cases hlt : j < LL.length
    · rcases HRect.out with hnil | ⟨g, cur, rfl, hgb, hgc, hcs⟩
      · rw [hnil] at hlt; simp at hlt
      have HG : Hid (wr.heap[g]? = some (.cells cur 61 (0, 0))) := HKr.out.same g _ (by omega) hgc rfl
      obtain ⟨c0, c1, c2, c3, c4, c5⟩ := rect_cells HG.out hcs j hlt
      have HCS := hide hcs
      have HGC := hide hgc
      clear hcs hgc HRect
      obtain ⟨bk, hbk⟩ : ∃ bk, bk = LL[j] := ⟨_, rfl⟩
      rw [← hbk] at c0 c1 c2 c3 c4 c5
      have HBK := hide hbk
      obtain ⟨q1, q2, q3, q4, q5, q6, q7, q8⟩ := HBd.out bk (by rw [hbk]; exact List.getElem_mem hlt)
      clear hbk
      have hbx : (wr.alloc (.cells #[.int .i64 bk.back, .int .i64 bk.coords, .int .i64 bk.y0, .int .i64 bk.y1, .int .i64 bk.x0, .int .i64 bk.x1] 61)).heap[wr.heap.size]? = some (.cells #[.int .i64 bk.back, .int .i64 bk.coords, .int .i64 bk.y0, .int .i64 bk.y1, .int .i64 bk.x0, .int .i64 bk.x1] 61 (0, 0)) := heap_alloc_new wr _
      have HBx := hide hbx
      have HJ3 : Hid (J (upto N) (wr.alloc (.cells #[.int .i64 bk.back, .int .i64 bk.coords, .int .i64 bk.y0, .int .i64 bk.y1, .int .i64 bk.x0, .int .i64 bk.x1] 61))) := hJ _ _ _ none HJr.out (World.grownBy_alloc _ _ none) (fun r e => by cases e)
      have HK3 : Hid (KeepsIn B w2 (wr.alloc (.cells #[.int .i64 bk.back, .int .i64 bk.coords, .int .i64 bk.y0, .int .i64 bk.y1, .int .i64 bk.x0, .int .i64 bk.x1] 61))) := HKr.out.trans (KeepsIn.of_below (bel1 _ _))
      have HBb : Hid (B ≤ wr.heap.size) := Nat.le_trans hB (Nat.le_trans HB2.out.size HKr.out.size)
      have HRows : Hid (N + bk.rows * bk.cols < 64 ∧ N + bk.rows * bk.cols = cnt LL (j + 1) ∧ cnt LL (j + 1) ≤ (plcs f d).length) := by
        have h1 := cnt_succ LL j hlt
        have h2 := cnt_mono LL (j + 1) hlt
        have h3 := HN.out
        have h4 := HNc.out
        unfold plcs at h3 ⊢
        rw [← HLL.out] at h3 ⊢
        rw [HBK.out]
        exact ⟨by omega, by omega, h2⟩
      clear hbx
      gi_wp2
      clear c0 c1 c2 c3 c4 c5 HG HJr HKr HJ2
      generalize (wr.alloc (.cells #[.int .i64 bk.back, .int .i64 bk.coords, .int .i64 bk.y0, .int .i64 bk.y1, .int .i64 bk.x0, .int .i64 bk.x1] 61)) = w3 at HBx HJ3 HK3 ⊢
      generalize wr.heap.size = Bb at HBx HBb ⊢
      gi_loopw [3, 6] (fun nv yv wt => ∃ (t M : Nat) (Y : Int), t ≤ bk.rows ∧ yv = .int .i64 Y ∧ -2 ≤ Y ∧ Y ≤ bk.y1 + 1 ∧ Hid (Y = bk.y0 + (t : Int)) ∧ nv = .int .i64 M ∧ M < 64 ∧ Hid (M = N + t * bk.cols) ∧ Hid (J (upto M) wt) ∧ Hid (KeepsIn B w2 wt) ∧ Hid (wt.heap[Bb]? = some (.cells #[.int .i64 bk.back, .int .i64 bk.coords, .int .i64 bk.y0, .int .i64 bk.y1, .int .i64 bk.x0, .int .i64 bk.x1] 61 (0, 0)))) (fun _ yv _ => (bk.y1 + 1 - intOf yv).toNat)
      case atStart => exact ⟨0, N, bk.y0, Nat.zero_le _, rfl, by omega, by omega, by unfold Hid; simp, rfl, hN64, by unfold Hid; simp, HJ3, HK3, HBx⟩
      case round =>
        obtain ⟨t, M, Y, ht, rfl, hY1, hY2, HYt, rfl, hM64, HM, HJt, HKt, HBt⟩ := hrel
        obtain ⟨b0, b1, b2, b3, b4, b5⟩ := box_cells HBt.out
        by_cases hle : Y ≤ bk.y1
        · have htr : t < bk.rows := by
            have := HYt.out
            unfold Blk.rows
            omega
          have HIdx : Hid (M + bk.cols < 64 ∧ M + bk.cols = N + (t + 1) * bk.cols ∧ ∀ s, s < bk.cols → M + s < (plcs f d).length ∧ (plcs f d)[M + s]? = some ⟨bk.back, bk.coords, bk.x0 + (s : Int), Y⟩) := by
            obtain ⟨r1, r2, r3⟩ := HRows.out
            have h1 : (t + 1) * bk.cols ≤ bk.rows * bk.cols := Nat.mul_le_mul_right _ htr
            have h2 := HM.out
            have h3 : (t + 1) * bk.cols = t * bk.cols + bk.cols := Nat.succ_mul _ _
            refine ⟨by omega, by omega, fun s hs => ⟨by omega, ?_⟩⟩
            have h4 := plsAll_at LL j t s hlt (by rw [← HBK.out]; exact htr) (by rw [← HBK.out]; exact hs)
            rw [← HBK.out, ← HNc.out, HLL.out] at h4
            rw [HYt.out, h2, show N + t * bk.cols + s = N + (t * bk.cols + s) by omega]
            exact h4
          clear b0 b1 b2
          gi_wp2
          clear b3 b4 b5
          generalize wr = wt at HJt HKt HBt ⊢
          gi_loopw [3, 7] (fun nv xv ws => ∃ (s R : Nat) (X : Int), s ≤ bk.cols ∧ xv = .int .i64 X ∧ -16 ≤ X ∧ X ≤ bk.x1 + 1 ∧ Hid (X = bk.x0 + (s : Int)) ∧ nv = .int .i64 R ∧ R < 64 ∧ Hid (R = M + s) ∧ Hid (J (upto R) ws) ∧ Hid (KeepsIn B w2 ws) ∧ Hid (ws.heap[Bb]? = some (.cells #[.int .i64 bk.back, .int .i64 bk.coords, .int .i64 bk.y0, .int .i64 bk.y1, .int .i64 bk.x0, .int .i64 bk.x1] 61 (0, 0)))) (fun _ xv _ => (bk.x1 + 1 - intOf xv).toNat)
          case atStart => exact ⟨0, M, bk.x0, Nat.zero_le _, rfl, by omega, by omega, by unfold Hid; simp, rfl, hM64, by unfold Hid; simp, HJt, HKt, HBt⟩
          case round =>
            obtain ⟨s, R, X, hs, rfl, hX1, hX2, HXs, rfl, hR64, HR, HJs, HKs, HBs⟩ := hrel
            obtain ⟨b0, b1, b2, b3, b4, b5⟩ := box_cells HBs.out
            by_cases hlx : X ≤ bk.x1
            · have hsc : s < bk.cols := by
                have := HXs.out
                unfold Blk.cols
                omega
              obtain ⟨i1, i2, i3⟩ := HIdx.out
              obtain ⟨i4, i5⟩ := i3 s hsc
              rw [← HXs.out, ← HR.out] at i5
              have hR1 : R + 1 < 64 := by have := HR.out; omega
              have HLen : Hid (R < (plcs f d).length) := by unfold Hid; have := HR.out; omega
              have hyy := HY.out (upto R) ⟨R, hR64⟩ wr HJs.out (by rw [upto_len R (by omega)]; exact HLen.out)
              rw [encs_of hR64 i5, ← upto_succ R hR64] at hyy
              obtain ⟨fn, tmps, assign, body, hy, hRd⟩ := hyy
              dsimp only at hy
              clear i1 i2 i3 i4 i5 b2 b3
              gi_wp2
              refine hRd.mono ?_
              rintro e W3 (⟨rfl, hJ3, hk3⟩ | ⟨rfl, hJx3⟩)
              · have HJ4 := hide hJ3
                have HK4 := hide hk3
                clear hJ3 hk3 b0 b1 b4 b5
                gi_wp2
                refine ⟨⟨s + 1, R + 1, X + 1, hsc, rfl, by omega, by omega, ?_, by go_num, hR1, ?_, HJ4, HKs.out.trans HK4.out, HK4.out.same Bb _ HBb.out HBs.out rfl⟩, ?_⟩
                · have := HXs.out
                  unfold Hid
                  omega
                · have := HR.out
                  unfold Hid
                  omega
                · simp [intOf]; omega
              · gi_wp2
                refine bodyPost_ret (results_none rfl _ _ _) rfl ?_
                exact ⟨⟨_, rfl⟩, .inr ⟨_, ⟨R + 1, HLen.out, rfl⟩, hJx3⟩⟩
            · have hsc : s = bk.cols := by
                have := HXs.out
                unfold Blk.cols at hs ⊢
                omega
              gi_wp2
              refine ⟨⟨t + 1, R, Y + 1, htr, rfl, by omega, by omega, ?_, rfl, hR64, ?_, HJs, HKs, HBs⟩, ?_⟩
              · have := HYt.out
                unfold Hid
                omega
              · have h1 := HR.out
                have h2 := HIdx.out.2.1
                unfold Hid
                omega
              · simp [intOf]; omega
        · have htr : t = bk.rows := by
            have := HYt.out
            unfold Blk.rows at ht ⊢
            omega
          gi_wp2
          refine ⟨⟨j + 1, M, hlt, by go_num, rfl, hM64, ?_, HJt, HKt⟩, ?_⟩
          · have h1 := HM.out
            have h2 := HRows.out.2.1
            unfold Hid
            rw [htr] at h1
            omega
          · simp [intOf]; omega
    · obtain rfl : j = LL.length := by omega
      gi_wp2
      go_end0
      refine ⟨⟨_, rfl⟩, .inl ⟨_, ?_, HJr.out⟩⟩
      rw [HNc.out, cnt_all, plcs, HLL.out]


/-- What kind.All answers goes over the numbers and places of the kind. -/
theorem all_stops (n : Nat) (hn : 1 ≤ n) (Bk B : Nat) (f d : Int) (w : World) (hBk : Bk < w.heap.size) (hB : B ≤ w.heap.size)
    (hk0 : w.cell? ⟨Bk, 0, none⟩ = some (.int .i64 f)) (hk1 : w.cell? ⟨Bk, 1, none⟩ = some (.int .i64 d)) :
    SeqStopsK Fence.wide n Try.prog 40 #[.pointer (some ⟨Bk, 0, none⟩)] (encs (plcs f d)) (KeepsIn B) (fun xs => xs = upto (plcs f d).length)
      (fun pre => ∃ k, k ≤ (plcs f d).length ∧ pre = upto k) (plcs f d).length w := fun l J Jx W hW hJ _ hY h0 =>
  all1_in n hn l Bk B f d J Jx W (Nat.le_trans hB hW.size) hJ hY ((hW.cell (p := ⟨Bk, 0, none⟩) hBk).trans hk0) ((hW.cell (p := ⟨Bk, 1, none⟩) hBk).trans hk1) h0

set_option maxHeartbeats 1000000 in
theorem all_any (f d : Int) (w : World) :
    Calls Try.prog 30 #[.agg #[.int .i64 f, .int .i64 d]] w fun e w' => e = .returned (.func (.func 40) #[] #[.pointer (some ⟨w.heap.size, 0, none⟩)]) ∧ w' = w.alloc (.cells #[.int .i64 f, .int .i64 d] 23) := by
  go_enter Try.func30, Try.ntmps30
  go_wp2
  go_ret
  exact ⟨rfl, rfl⟩

end Go.Proofs.Ytinlknflkgijmaa

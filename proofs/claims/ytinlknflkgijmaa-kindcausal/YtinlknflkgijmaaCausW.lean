/-
  The walk of KindCausal.
-/
import Derived.Test.YtinlknflkgijmaaCaus0
import Derived.Test.YtinlknflkgijmaaRAt
import Derived.Lib.QuietBelowIn
import Derived.Laws.EntriesVeiled
import Derived.RegionIn
import Derived.Shelf.RegionOpen
import Derived.Test.YtinlknflkgijmaaLast
namespace Go.Proofs.Ytinlknflkgijmaa
open Go.RowKit Go.Shelf Go.Sort
set_option linter.unusedVariables false
attribute [local go_sem] Oper.semAt_some

set_option maxRecDepth 100000 in
set_option maxHeartbeats 16000000 in
theorem causal_in (m : Nat) (hm : 12 ≤ m) (f d stop : Int) (w : World) :
    CallsIn Fence.wide m Try.prog 7 #[.agg #[.int .i64 f, .int .i64 d], .int .i64 stop] w fun e w' => e = .returned (.bool true) ∧ Below w.heap.size w w' := by
  have h1 : 1 ≤ m := by omega
  have hro : Fence.wide.round = none := rfl
  have hfn := run_eql_func
  have HB1 := hide (((bel1 w (.cells #[.int .i64 f, .int .i64 d] 23)).alloc (by simp) (.cells #[.int .i64 stop] 3)).alloc (by simp; omega) (.cells #[.bool false] 4))
  have HK1 := hide (((HasC.new w 23 #[.int .i64 f, .int .i64 d]).alloc (.cells #[.int .i64 stop] 3)).alloc (.cells #[.bool false] 4))
  have hS := (HasC.new (w.alloc (.cells #[.int .i64 f, .int .i64 d] 23)) 3 #[.int .i64 stop]).alloc (.cells #[.bool false] 4)
  have hR := HasC.new ((w.alloc (.cells #[.int .i64 f, .int .i64 d] 23)).alloc (.cells #[.int .i64 stop] 3)) 4 #[.bool false]
  simp only [World.size_alloc] at hS hR
  have HS1 := hide hS
  have HR1 := hide hR
  clear hS hR
  refine callsIn_of_wp_marks Try.func7 rfl trivial ?_ hro
  simp only [Try.ntmps7, List.size_toArray, List.length_cons, List.length_nil, Nat.reduceAdd, Nat.reduceSub, Array.replicate_succ, Array.replicate_zero, List.push_toArray, List.append_toArray, List.nil_append, List.cons_append]
  gi_wp2_with (refine ⟨trivial, ?_⟩; gi_at_call 10; refine (callsIn_wide.2 (awake_any _)).mono ?_; rintro e w2 ⟨rfl, hb2⟩; have HK2 := hide (HK1.out.below hb2); have HS2 := hide (HS1.out.below hb2); have HR2 := hide (HR1.out.below hb2); have HB2 := hide (bel HB1.out hb2); clear hb2; obtain ⟨x2, y2, -, -⟩ := facts2 HK2.out)
  refine ⟨trivial, ?_⟩
  refine (callsIn_wide.2 (all_any f d _)).mono ?_
  rintro e w3 ⟨rfl, rfl⟩
  gi_wp2
  have hz2 := HR2.out.lt
  have HA := hide (((HasC.new w2 23 #[.int .i64 f, .int .i64 d]).alloc (.cells #[.func (.func 40) #[] #[.pointer (some ⟨w2.heap.size, 0, none⟩)]] 49)).alloc (.cells #[.int .i64 0] 3))
  have hWk := (HasC.new (w2.alloc (.cells #[.int .i64 f, .int .i64 d] 23)) 49 #[.func (.func 40) #[] #[.pointer (some ⟨w2.heap.size, 0, none⟩)]]).alloc (.cells #[.int .i64 0] 3)
  have hN := HasC.new ((w2.alloc (.cells #[.int .i64 f, .int .i64 d] 23)).alloc (.cells #[.func (.func 40) #[] #[.pointer (some ⟨w2.heap.size, 0, none⟩)]] 49)) 3 #[.int .i64 0]
  simp only [World.size_alloc] at hWk hN
  have HWk := hide hWk
  have HNb := hide hN
  have HKo := hide (((HK2.out.alloc (.cells #[.int .i64 f, .int .i64 d] 23)).alloc (.cells #[.func (.func 40) #[] #[.pointer (some ⟨w2.heap.size, 0, none⟩)]] 49)).alloc (.cells #[.int .i64 0] 3))
  have HSo := hide (((HS2.out.alloc (.cells #[.int .i64 f, .int .i64 d] 23)).alloc (.cells #[.func (.func 40) #[] #[.pointer (some ⟨w2.heap.size, 0, none⟩)]] 49)).alloc (.cells #[.int .i64 0] 3))
  have HRo := hide (((HR2.out.alloc (.cells #[.int .i64 f, .int .i64 d] 23)).alloc (.cells #[.func (.func 40) #[] #[.pointer (some ⟨w2.heap.size, 0, none⟩)]] 49)).alloc (.cells #[.int .i64 0] 3))
  have HBo := hide (((HB2.out.alloc HB2.out.size (.cells #[.int .i64 f, .int .i64 d] 23)).alloc (by have := HB2.out.size; simp; omega) (.cells #[.func (.func 40) #[] #[.pointer (some ⟨w2.heap.size, 0, none⟩)]] 49)).alloc (by have := HB2.out.size; simp; omega) (.cells #[.int .i64 0] 3))
  have hsz : (((w2.alloc (.cells #[.int .i64 f, .int .i64 d] 23)).alloc (.cells #[.func (.func 40) #[] #[.pointer (some ⟨w2.heap.size, 0, none⟩)]] 49)).alloc (.cells #[.int .i64 0] 3)).heap.size = w2.heap.size + 3 := by simp
  clear hWk hN HK1 HS1 HR1 HB1 HK2 HS2 HR2 HB2 x2 y2
  obtain ⟨Z, hZ⟩ : ∃ Z, w2.heap.size = Z := ⟨_, rfl⟩
  rw [hZ] at HA HWk HNb HKo HSo HRo HBo hsz hz2 ⊢
  obtain ⟨W0, hW0⟩ : ∃ W0, ((w2.alloc (.cells #[.int .i64 f, .int .i64 d] 23)).alloc (.cells #[.func (.func 40) #[] #[.pointer (some ⟨Z, 0, none⟩)]] 49)).alloc (.cells #[.int .i64 0] 3) = W0 := ⟨_, rfl⟩
  rw [hW0] at HA HWk HNb HKo HSo HRo HBo hsz ⊢
  clear hW0 hZ
  have HB : Hid (Bs w f d stop Z W0) := ⟨HA.out, HWk.out, HKo.out, HSo.out, HRo.out, HBo.out⟩
  clear HA HWk HKo HSo HRo HBo
  obtain ⟨L, hL⟩ : ∃ L, L = plcs f d := ⟨_, rfl⟩
  have HL := hide hL
  have hle : L.length < 64 := by have := (blks_bound f d).1; rw [hL]; exact this
  have hseq := all_stops (m - 1) (by omega) Z W0.heap.size f d W0 (by omega) (Nat.le_refl _) (HB.out.a.cell 0 rfl) (HB.out.a.cell 1 rfl)
  rw [← hL] at hseq
  clear hL
  refine wpIn_rangeFunc_ownH hro h1 (gf := 40) (lb := #[.pointer (some ⟨Z, 0, none⟩)]) rfl trivial (enters_of Try.func40 (by kernel_rfl) rfl)
    hseq (fun h k => h.trans k) keepsIn_b (Below.refl _ _) (fun _ => rfl)
    (fun pre W => (∃ k : Nat, (k ≤ L.length ∧ pre = upto k) ∧ HasC W (Z + 1 + 1) 3 #[.int .i64 (k : Int)]) ∧ Bs w f d stop Z W)
    (fun c pre W => c = .ret ∧ ¬ ∃ j, j ≤ 63 ∧ pre = upto j)
    (OwnFrom.and (fun s X Y row hs hg hr => by
      obtain ⟨k, hk, h⟩ := hs
      exact ⟨k, hk, hasC_own _ 3 (fun (_ : Unit) => #[.int .i64 (k : Int)]) () X Y row h hg (fun r e => (hr r e).2)⟩) (Bs.own (by omega)))
    (fun c => ownFrom_pure _ _)
    ⟨⟨0, ⟨Nat.zero_le _, rfl⟩, HNb.out⟩, HB.out⟩
    (fun x a' W => ∃ Bx, Z + 1 + 1 < Bx ∧ HasC W Bx 30 (pcells (L.getD x.val zp)) ∧ a' = { tmps := #[.agg #[.int .i64 f, .int .i64 d], .int .i64 stop, .pointer (some ⟨w.heap.size, 0, none⟩), .pointer (some ⟨w.heap.size + 1, 0, none⟩), .pointer (some ⟨w.heap.size + 1 + 1, 0, none⟩), .pointer (some ⟨Z + 1, 0, none⟩), .pointer (some ⟨Z + 1 + 1, 0, none⟩), .int .i64 (x.val : Int), .pointer (some ⟨Bx, 0, none⟩), undef, undef, undef, undef, undef, undef, undef, undef, undef, undef, .bool true, .bool false, .agg #[.int .i64 f, .int .i64 d], .func (.func 40) #[] #[.pointer (some ⟨Z, 0, none⟩)], .func (.func 40) #[] #[.pointer (some ⟨Z, 0, none⟩)], .bool false, .func (.func 40) #[] #[.pointer (some ⟨Z, 0, none⟩)], .int .i64 (x.val : Int), .agg (pcells (L.getD x.val zp)), undef, undef, undef, undef, undef, undef, undef, undef, undef, undef, undef, undef, undef, undef, undef, undef, undef, undef, undef, undef, undef, undef, undef, undef, undef, undef, undef, undef, undef, undef, undef, undef, undef, undef, undef, undef, undef, undef, undef, undef, undef, undef, undef, undef, undef, undef, undef, undef, undef, undef, undef, undef, undef, undef, undef, undef, undef, undef, undef, undef, undef, undef, undef, undef, undef, undef, undef, undef, undef, undef, undef, undef, undef, undef, undef, undef, undef, undef, undef, undef, undef, undef, undef, undef, undef, undef, undef, undef, undef, undef, undef, undef, undef, undef, undef, undef], defers := [] })
    (fun x a' _ X Y row hs hg hr => by obtain ⟨Bx, h1, h2, h3⟩ := hs; exact ⟨Bx, h1, hasC_own Bx 30 (fun (_ : Unit) => pcells (L.getD x.val zp)) () X Y row h2 hg (fun r e => (hr r e).2), h3⟩)
    ?assign ?body ?done ?stop
  case assign =>
    rintro l pre x W K ⟨⟨k, hk, hn⟩, hB⟩ hK
    simp only [encs]
    gi_wp2
    exact hK _ _ ((KeepsOthers.alloc _ _).from _) (KeepsIn.of_below (bel1 _ _)) ⟨⟨k, hk, hn.alloc _⟩, hB.alloc _⟩ ⟨W.heap.size, hn.lt, HasC.new W 30 _, rfl⟩
  case body =>
    rintro l pre x a' W hl ⟨r, hr⟩ ⟨⟨k, ⟨hk, rfl⟩, hn⟩, hB⟩ ⟨Bx, hBx, hX, rfl⟩ hlt
    rw [upto_len k (by omega)] at hlt
    have h1' : 1 ≤ m - 1 - 1 := by omega
    have HN0 := hide hn
    have HB0 := hide hB
    have HR := hide hr
    obtain ⟨px, hpx⟩ : ∃ px, px = L.getD x.val zp := ⟨_, rfl⟩
    rw [← hpx] at hX ⊢
    have HPX := hide hpx
    have HX0 := hide hX
    have HWF : Hid px.wf := by unfold Hid; rw [hpx, HL.out]; exact getD_wf f d _
    clear hn hB hr hX hpx
    obtain ⟨a1, a2, -, -⟩ := facts2 HB0.out.k
    gi_wp2
    refine ⟨trivial, ?_⟩
    refine (CallsIn.inRound l (callsIn_wide.2 (at_any f d _ _))).mono ?_
    rintro e w1 ⟨rfl, hb1⟩
    simp only [atV, pcells]
    obtain ⟨q, hq⟩ : ∃ q, (atZ f d ((x.val : Nat) : Int)).getD zp = q := ⟨_, rfl⟩
    obtain ⟨okq, hok⟩ : ∃ okq, (atZ f d ((x.val : Nat) : Int)).isSome = okq := ⟨_, rfl⟩
    rw [hq, hok]
    have HQ := hide hq
    have HOK := hide hok
    clear hq hok a1 a2
    have HG1 := hide (hb1.alloc hb1.size (.cells (pcells q) 30))
    have HQ1 := hide (HasC.new w1 30 (pcells q))
    clear hb1
    obtain ⟨gq, hgq⟩ : ∃ gq, w1.heap.size = gq := ⟨_, rfl⟩
    obtain ⟨w2, hw2⟩ : ∃ w2, w1.alloc (.cells (pcells q) 30) = w2 := ⟨_, rfl⟩
    rw [hw2] at HG1 HQ1
    rw [hgq] at HQ1
    have hw2' := hw2
    simp only [pcells] at hw2'
    obtain ⟨b1, b2, -, -⟩ := facts2 (HB0.out.later HG1.out).k
    obtain ⟨p0, p1, p2, p3, -, -, -, -⟩ := facts4 (HX0.out.below HG1.out)
    clear hw2
    gi_wp2
    clear b1 b2 p0 p1 p2 p3 hw2' hgq
    refine ⟨trivial, ?_⟩
    refine (CallsIn.inRound l (callsIn_wide.2 (number_any f d px HWF.out _))).mono ?_
    rintro e w3 ⟨rfl, hb3⟩
    simp only [numV]
    obtain ⟨c, hc⟩ : ∃ c : Int, (((numZ f d px).getD 0 : Nat) : Int) = c := ⟨_, rfl⟩
    obtain ⟨okc, hoc⟩ : ∃ okc, (numZ f d px).isSome = okc := ⟨_, rfl⟩
    rw [hc, hoc]
    have HVC : Hid (numV f d px = .tuple #[.int .i64 c, .bool okc]) := by unfold Hid; rw [numV, hc, hoc]
    clear hc hoc
    have HG3 := hide (bel HG1.out hb3)
    have HQ3 := hide (HQ1.out.below hb3)
    clear hb3 HG1 HQ1
    have HB3 := hide (HB0.out.later HG3.out)
    have HX3 := hide (HX0.out.below HG3.out)
    have HN3 := hide (HN0.out.below HG3.out)
    obtain ⟨b1, b2, -, -⟩ := facts2 HB3.out.k
    obtain ⟨p0, p1, p2, p3, -, -, -, -⟩ := facts4 HX3.out
    obtain ⟨q0, q1, q2, q3, -, -, -, -⟩ := facts4 HQ3.out
    have n0 : w3.cell? ⟨Z + 1 + 1, 0, none⟩ = some (.int .i64 (k : Int)) := HN3.out.cell 0 rfl
    have n1 := HN3.out.frozen 0
    have r0 : w3.cell? ⟨w.heap.size + 1 + 1, 0, none⟩ = some (.bool false) := HB3.out.r.cell 0 rfl
    have r1 := HB3.out.r.frozen 0
    by_cases hxk : x.val = k
    · subst hxk
      obtain ⟨pz, hpz, _, hbef, hf01, hat, hnum⟩ := plc_facts f d x.val (by rw [← HL.out]; exact hlt)
      have e1 : pz = px := by rw [HPX.out, HL.out]; exact hpz.symm
      subst e1
      have e2 : q = pz ∧ okq = true := by
        rw [atV, HQ.out, HOK.out] at hat
        simp [pcells] at hat
        obtain ⟨⟨g1, g2, g3, g4⟩, g5⟩ := hat
        exact ⟨by cases q; cases pz; simp_all, g5⟩
      obtain ⟨rfl, rfl⟩ := e2
      have e3 : c = ((x.val : Nat) : Int) ∧ okc = true := by
        rw [HVC.out] at hnum
        simpa using hnum
      obtain ⟨rfl, rfl⟩ := e3
      have HBE := hide hbef
      have hx99 : ((x.val : Nat) : Int) ≤ 99 := by omega
      clear hat hnum hpz hbef HQ HOK HVC HPX
      gi_wp2
      refine ⟨trivial, ?_⟩
      refine (CallsIn.inRound l (callsIn_wide.2 (before_ok f d q hf01 HBE.out _))).mono ?_
      rintro e w4 ⟨rfl, hb4⟩
      clear b1 b2 p0 p1 p2 p3 q0 q1 q2 q3 n0 n1 r0 r1
      have HB4 := hide (HB3.out.later hb4)
      have HN4 := hide (HN3.out.below hb4)
      have HG4 := hide (bel HG3.out hb4)
      clear hb4 HB3 HX3 HN3 HG3 HQ3
      have n0 : w4.cell? ⟨Z + 1 + 1, 0, none⟩ = some (.int .i64 ((x.val : Nat) : Int)) := HN4.out.cell 0 rfl
      have v0 := ((HB4.out.alloc (.cells #[.int .i64 0] 3)).wk.cell 0 rfl)
      gi_wp2
      clear n0 v0
      have HG5 := hide (HG4.out.alloc HG4.out.size (.cells #[.int .i64 0] 3))
      have HI5 := hide (HasC.new w4 3 #[.int .i64 0])
      have HR5 : Hid (Rs w f d stop Z W0.heap.size ((x.val : Nat) : Int) W (w4.alloc (.cells #[.int .i64 0] 3))) := ⟨HB4.out.alloc _, HN4.out.alloc _, KeepsIn.of_below HG5.out, keepsFrom_below HG5.out⟩
      have hWZ : Z + 1 + 1 < W.heap.size := HN0.out.lt
      have hr' : (w4.alloc (.cells #[.int .i64 0] 3)).heap[l]? = some (.loop r) := (HG5.out.block l ((Array.getElem?_eq_some_iff.1 HR.out).1)).trans HR.out
      have hBi : W.heap.size ≤ w4.heap.size := HG4.out.size
      have hwW : w.heap.size ≤ W.heap.size := HB0.out.b.size
      obtain ⟨Bi, hBi0⟩ : ∃ Bi, w4.heap.size = Bi := ⟨_, rfl⟩
      have hs5 : (w4.alloc (.cells #[.int .i64 0] 3)).heap.size = Bi + 1 := by simp [hBi0]
      rw [hBi0] at HI5 hBi ⊢
      obtain ⟨w5, hw5⟩ : ∃ w5, w4.alloc (.cells #[.int .i64 0] 3) = w5 := ⟨_, rfl⟩
      rw [hw5] at HG5 HI5 HR5 hr' hs5 ⊢
      clear hw5 hBi0 HG4 HB4 HN4
      have hseq2 := all_stops (m - 1 - 1 - 1) (by omega) Z w5.heap.size f d w5 (by have := HR5.out.n.lt; omega) (Nat.le_refl _) (HR5.out.b.a.cell 0 rfl) (HR5.out.b.a.cell 1 rfl)
      rw [← HL.out] at hseq2
      refine wpIn_rangeFunc_ownN (l₀ := l) (r₀ := r) rfl hr' h1' (gf := 40) (lb := #[.pointer (some ⟨Z, 0, none⟩)]) rfl trivial (enters_of Try.func40 (by kernel_rfl) rfl)
        (hseq2.inRound l) (fun h k => h.trans k) keepsIn_b (Below.refl _ _) (fun _ => rfl)
        (fun pre' W' => (∃ j : Nat, (j ≤ L.length ∧ pre' = upto j) ∧ HasC W' Bi 3 #[.int .i64 (j : Int)]) ∧ Rs w f d stop Z W0.heap.size ((x.val : Nat) : Int) W W')
        (fun c pre' W' => (c = .ret ∧ ¬ ∃ j, j ≤ 63 ∧ pre' = upto j) ∨ (c = .exit 2 ∧ HasC W' Bi 3 #[.int .i64 stop] ∧ Rs w f d stop Z W0.heap.size ((x.val : Nat) : Int) W W'))
        (OwnFrom.and (fun s X Y row hs hg hr => by
          obtain ⟨k, hk, h⟩ := hs
          exact ⟨k, hk, hasC_own _ 3 (fun (_ : Unit) => #[.int .i64 (k : Int)]) () X Y row h hg (fun r e => (hr r e).2)⟩) (Rs.own (by omega) (by omega)))
        (fun c s X Y row hs hg hr => by
          rcases hs with h | ⟨h1, h2, h3⟩
          · exact .inl h
          · exact .inr ⟨h1, hasC_own _ 3 (fun (_ : Unit) => #[.int .i64 stop]) () X Y row h2 hg (fun r e => (hr r e).2), Rs.own (β := Unit) (by omega) (by omega) () X Y row h3 hg hr⟩)
        ⟨⟨0, ⟨Nat.zero_le _, rfl⟩, HI5.out⟩, HR5.out⟩
        (fun y a'' _ => a'' = { tmps := #[.agg #[.int .i64 f, .int .i64 d], .int .i64 stop, .pointer (some ⟨w.heap.size, 0, none⟩), .pointer (some ⟨w.heap.size + 1, 0, none⟩), .pointer (some ⟨w.heap.size + 1 + 1, 0, none⟩), .pointer (some ⟨Z + 1, 0, none⟩), .pointer (some ⟨Z + 1 + 1, 0, none⟩), .int .i64 ((x.val : Nat) : Int), .pointer (some ⟨Bx, 0, none⟩), .pointer (some ⟨gq, 0, none⟩), .bool true, .int .i64 ((x.val : Nat) : Int), .bool true, .pointer (some ⟨Bi, 0, none⟩), .int .i64 ((y.val : Nat) : Int), undef, undef, undef, undef, .bool true, .bool false, .agg #[.int .i64 f, .int .i64 d], .func (.func 40) #[] #[.pointer (some ⟨Z, 0, none⟩)], .func (.func 40) #[] #[.pointer (some ⟨Z, 0, none⟩)], .bool false, .func (.func 40) #[] #[.pointer (some ⟨Z, 0, none⟩)], .int .i64 ((x.val : Nat) : Int), .agg #[.int .i64 q.back, .int .i64 q.coords, .int .i64 q.x, .int .i64 q.y], .tuple #[.agg #[.int .i64 q.back, .int .i64 q.coords, .int .i64 q.x, .int .i64 q.y], .bool true], .agg #[.int .i64 f, .int .i64 d], .int .i64 ((x.val : Nat) : Int), .tuple #[.agg #[.int .i64 q.back, .int .i64 q.coords, .int .i64 q.x, .int .i64 q.y], .bool true], .agg #[.int .i64 q.back, .int .i64 q.coords, .int .i64 q.x, .int .i64 q.y], .bool true, .tuple #[.int .i64 ((x.val : Nat) : Int), .bool true], .agg #[.int .i64 f, .int .i64 d], .agg #[.int .i64 q.back, .int .i64 q.coords, .int .i64 q.x, .int .i64 q.y], .tuple #[.int .i64 ((x.val : Nat) : Int), .bool true], .int .i64 ((x.val : Nat) : Int), .bool true, .int .i64 ((x.val : Nat) : Int), .int .i64 ((x.val : Nat) : Int), .bool false, .bool false, .agg #[.int .i64 q.back, .int .i64 q.coords, .int .i64 q.x, .int .i64 q.y], .agg #[.int .i64 q.back, .int .i64 q.coords, .int .i64 q.x, .int .i64 q.y], .bool false, .bool false, .bool false, .int .i64 ((x.val : Nat) : Int), .int .i64 ((x.val : Nat) : Int), .bool false, .bool false, .bool false, .bool true, .bool false, .bool false, .bool false, .bool true, .bool false, .bool false, .bool false, .agg #[.int .i64 f, .int .i64 d], .agg #[.int .i64 q.back, .int .i64 q.coords, .int .i64 q.x, .int .i64 q.y], .bool true, .bool false, .bool false, .bool false, .int .i64 ((x.val : Nat) : Int), .bool (decide (99 < ((x.val : Nat) : Int))), .bool (decide (99 < ((x.val : Nat) : Int))), .func (.func 40) #[] #[.pointer (some ⟨Z, 0, none⟩)], .int .i64 ((y.val : Nat) : Int), .agg #[.int .i64 (L.getD y.val zp).back, .int .i64 (L.getD y.val zp).coords, .int .i64 (L.getD y.val zp).x, .int .i64 (L.getD y.val zp).y], undef, undef, undef, undef, undef, undef, undef, undef, undef, undef, undef, undef, undef, undef, undef, undef, undef, undef, undef, undef, undef, undef, undef, undef, undef, undef, undef, undef, undef, undef, undef, undef, undef, undef, undef, undef, undef, undef, undef, undef, undef, undef, undef, undef, undef, undef, undef, undef, undef, undef], defers := [] })
        (fun _ _ _ _ _ _ hs _ _ => hs)
        ?assign2 ?body2 ?done2 ?stop2
      case assign2 =>
        rintro l2 pre' y W' K hi hK
        simp only [encs]
        gi_wp2
        exact hK _ _ (KeepsFrom.refl _ _) (KeepsIn.refl _ _) hi rfl
      case body2 =>
        rintro l2 pre' y a'' W' _ _ ⟨⟨j, ⟨hj, rfl⟩, hJ⟩, hRs⟩ rfl hlt2
        rw [upto_len j (by omega)] at hlt2
        have HRs := hide hRs
        have HJ := hide hJ
        clear hRs hJ
        have i0 : W'.cell? ⟨Bi, 0, none⟩ = some (.int .i64 (j : Int)) := HJ.out.cell 0 rfl
        have i1 := HJ.out.frozen 0
        have s0 : W'.cell? ⟨w.heap.size + 1, 0, none⟩ = some (.int .i64 stop) := HRs.out.b.s.cell 0 rfl
        have r0 : W'.cell? ⟨w.heap.size + 1 + 1, 0, none⟩ = some (.bool false) := HRs.out.b.r.cell 0 rfl
        have r1 := HRs.out.b.r.frozen 0
        have hBs : w.heap.size + 1 ≠ Bi := by omega
        by_cases hyj : y.val = j
        · subst hyj
          by_cases hst : ((y.val : Nat) : Int) + 1 = stop
          · gi_wp2
            have hJ2 : HasC (W'.setCell ⟨Bi, 0, none⟩ (.int .i64 stop)) Bi 3 #[.int .i64 stop] := HJ.out.set 0 (.int .i64 stop)
            have hR2 := HRs.out.setNew hz2 (p := ⟨Bi, 0, none⟩) (by simpa using hBi) hWZ (.int .i64 stop)
            exact ⟨(KeepsOthers.setCell _ _ _).from _, .inr ⟨rfl, by first | exact hJ2 | (rw [hst]; exact hJ2), by first | exact hR2 | (rw [hst]; exact hR2)⟩⟩
          · gi_wp2
            exact ⟨(KeepsOthers.setCell _ _ _).from _, KeepsIn.setCell _ (by simp; omega) _, ⟨y.val + 1, ⟨hlt2, (upto_succ y.val y.isLt).symm⟩, HJ.out.set 0 _⟩, HRs.out.setNew hz2 (by simpa using hBi) hWZ _⟩
        · have hne2 : (((y.val : Nat) : Int) != (j : Int)) = true := by simp; omega
          gi_wp2
          exact ⟨(KeepsOthers.setCell _ _ _).from _, .inl ⟨rfl, upto_next (by omega) hyj⟩⟩
      case done2 =>
        rintro ys W' rfl ⟨⟨j, ⟨hj, hj2⟩, hJ⟩, hRs⟩
        have ej : L.length = j := upto_inj (by omega) (by omega) hj2
        subst ej
        have HRs := hide hRs
        have HJ := hide hJ
        clear hRs hJ hj2
        have i0 : W'.cell? ⟨Bi, 0, none⟩ = some (.int .i64 (L.length : Int)) := HJ.out.cell 0 rfl
        have s0 : W'.cell? ⟨w.heap.size + 1, 0, none⟩ = some (.int .i64 stop) := HRs.out.b.s.cell 0 rfl
        obtain ⟨a1, a2, -, -⟩ := facts2 HRs.out.b.k
        by_cases hst : (L.length : Int) = stop
        · rw [hst] at i0
          have hmx : Try.prog.follows .mixedOrders = true := by kernel_rfl
          have n0 : W'.drew.cell? ⟨Z + 1 + 1, 0, none⟩ = some (.int .i64 ((x.val : Nat) : Int)) := by rw [cell_drew_own]; exact HRs.out.n.cell 0 rfl
          have n1 : W'.drew.frozen? ⟨Z + 1 + 1, 0, none⟩ = false := by rw [frozen_drew_own]; exact HRs.out.n.frozen 0
          have HE := (HRs.out.later (drewB W')).next hz2 (by omega) (.int .i64 (((x.val : Nat) : Int) + 1))
          gi_wp2
          gi_region_with_o (refine ⟨trivial, ?_⟩)
          all_goals gi_wp2
          all_goals (try go_bits)
          all_goals exact ⟨HE.1, HE.2.1, ⟨x.val + 1, ⟨hlt, (upto_succ x.val x.isLt).symm⟩, HE.2.2.1⟩, HE.2.2.2⟩
        · have hne : ((L.length : Int) != stop) = true := by simpa using hst
          have hmx : Try.prog.follows .mixedOrders = true := by kernel_rfl
          have hcz : countZ f d = (L.length : Int) := by rw [HL.out]; exact (plcs_len f d).symm
          gi_wp2
          gi_region_with_o (refine ⟨trivial, ?_⟩; gi_at_call 18; refine (CallsIn.inRound l (callsIn_wide.2 (count_any f d _))).mono ?_; rintro e w9 ⟨rfl, hb9⟩; rw [hcz]; have HR9 := hide (HRs.out.later (bel (drewB W') hb9)); have i9 : w9.cell? ⟨Bi, 0, none⟩ = some (.int .i64 (L.length : Int)) := (HJ.out.below (bel (drewB W') hb9)).cell 0 rfl; have n9 : w9.cell? ⟨Z + 1 + 1, 0, none⟩ = some (.int .i64 ((x.val : Nat) : Int)) := HR9.out.n.cell 0 rfl; have n9' := HR9.out.n.frozen 0)
          all_goals gi_wp2
          all_goals (try go_bits)
          all_goals exact (have HE := HR9.out.next hz2 (by omega) (.int .i64 (((x.val : Nat) : Int) + 1)); ⟨HE.1, HE.2.1, ⟨x.val + 1, ⟨hlt, (upto_succ x.val x.isLt).symm⟩, HE.2.2.1⟩, HE.2.2.2⟩)
      case stop2 =>
        rintro c pre' W' ⟨k', hk', rfl⟩ (⟨rfl, h⟩ | ⟨rfl, hJ, hRs⟩)
        · exact absurd ⟨k', by omega, rfl⟩ h
        have HRs := hide hRs
        have HJ := hide hJ
        clear hRs hJ
        have i0 : W'.cell? ⟨Bi, 0, none⟩ = some (.int .i64 stop) := HJ.out.cell 0 rfl
        have s0 : W'.cell? ⟨w.heap.size + 1, 0, none⟩ = some (.int .i64 stop) := HRs.out.b.s.cell 0 rfl
        obtain ⟨a1, a2, -, -⟩ := facts2 HRs.out.b.k
        have hmx : Try.prog.follows .mixedOrders = true := by kernel_rfl
        have n0 : W'.drew.cell? ⟨Z + 1 + 1, 0, none⟩ = some (.int .i64 ((x.val : Nat) : Int)) := by rw [cell_drew_own]; exact HRs.out.n.cell 0 rfl
        have n1 : W'.drew.frozen? ⟨Z + 1 + 1, 0, none⟩ = false := by rw [frozen_drew_own]; exact HRs.out.n.frozen 0
        have HE := (HRs.out.later (drewB W')).next hz2 (by omega) (.int .i64 (((x.val : Nat) : Int) + 1))
        gi_wp2
        gi_region_with_o (refine ⟨trivial, ?_⟩)
        all_goals gi_wp2
        all_goals (try go_bits)
        all_goals exact ⟨HE.1, HE.2.1, ⟨x.val + 1, ⟨hlt, (upto_succ x.val x.isLt).symm⟩, HE.2.2.1⟩, HE.2.2.2⟩
    · have hne : (((x.val : Nat) : Int) != (k : Int)) = true := by simp; omega
      gi_wp2
      refine ⟨trivial, ?_⟩
      gi_wp2
      exact ⟨(keepsFrom_below HG3.out).trans ((KeepsOthers.setCell _ _ _).from _), rfl, upto_next (by omega) hxk⟩
  case done =>
    rintro D xs W hD rfl ⟨⟨k, ⟨hk, hk2⟩, hn⟩, hB⟩ hK
    have ek : L.length = k := upto_inj (by omega) (by omega) hk2
    subst ek
    have HN := hide hn
    have HBs := hide hB
    clear hn hB hk2
    have hmx : Try.prog.follows .mixedOrders = true := by kernel_rfl
    have hcz : countZ f d = (L.length : Int) := by rw [HL.out]; exact (plcs_len f d).symm
    obtain ⟨c, hc⟩ : ∃ c : Int, (L.length : Int) = c := ⟨_, rfl⟩
    have hno : atV f d c = .tuple #[.agg #[.int .i64 0, .int .i64 0, .int .i64 0, .int .i64 0], .bool false] := by
      have : atZ f d c = none := by
        unfold atZ
        rw [if_pos (by omega), ← HL.out, show c.toNat = L.length by omega]
        simp
      rw [atV, this]; rfl
    have hno1 : atV f d (-1) = .tuple #[.agg #[.int .i64 0, .int .i64 0, .int .i64 0, .int .i64 0], .bool false] := by
      have : atZ f d (-1) = none := by
        unfold atZ
        rw [if_neg (by decide)]
      rw [atV, this]; rfl
    rw [hc] at hcz HN
    have hchk : ∃ e : Int, (decide (0 < c) == (e == 0)) = true ∧ ∀ w, Calls Try.prog 9 #[.agg #[.int .i64 f, .int .i64 d]] w fun x w' => x = .returned (.int .i64 e) ∧ Below w.heap.size w w' := by
      rcases kind3 f d with ⟨hm, rfl⟩ | ⟨hm, rfl⟩ | hm
      · exact ⟨0, by rw [← hcz, (zs0 hm).2.2.2]; decide, fun w => check_ok _ _ w hm⟩
      · exact ⟨0, by rw [← hcz, (zs1 hm).2.2.2]; decide, fun w => check_ok _ _ w hm⟩
      · exact ⟨1, by rw [← hcz, countZ, if_neg hm]; decide, fun w => check_bad _ _ w hm⟩
    obtain ⟨ec, hec, hcall⟩ := hchk
    have n0 : W.cell? ⟨Z + 1 + 1, 0, none⟩ = some (.int .i64 c) := HN.out.cell 0 rfl
    obtain ⟨a1, a2, -, -⟩ := facts2 HBs.out.k
    gi_wp2
    refine ⟨trivial, ?_⟩
    refine (callsIn_wide.2 (at_any f d c _)).mono ?_
    rintro e w6 ⟨rfl, hb6⟩
    rw [hno]
    have HG6 := hide (hb6.alloc hb6.size (.cells #[.int .i64 0, .int .i64 0, .int .i64 0, .int .i64 0] 30))
    clear n0 a1 a2 hb6
    obtain ⟨a1, a2, -, -⟩ := facts2 (HBs.out.later HG6.out).k
    gi_wp2
    refine ⟨trivial, ?_⟩
    refine (callsIn_wide.2 (at_any f d (-1) _)).mono ?_
    rintro e w7 ⟨rfl, hb7⟩
    rw [hno1]
    have HG7 := hide ((bel HG6.out hb7).alloc (bel HG6.out hb7).size (.cells #[.int .i64 0, .int .i64 0, .int .i64 0, .int .i64 0] 30))
    clear a1 a2 hb7 HG6
    gi_wp2
    obtain ⟨w8, hw8⟩ : ∃ w8, w7.alloc (.cells #[.int .i64 0, .int .i64 0, .int .i64 0, .int .i64 0] 30) = w8 := ⟨_, rfl⟩
    have HG8 : Hid (Below W.heap.size W w8) := by rw [← hw8]; exact HG7
    rw [hw8]
    clear hw8 HG7
    have n8 : w8.cell? ⟨Z + 1 + 1, 0, none⟩ = some (.int .i64 c) := (HN.out.below HG8.out).cell 0 rfl
    obtain ⟨a1, a2, -, -⟩ := facts2 (HBs.out.later HG8.out).k
    have k8 := cell_regrown n8
    have k1 := cell_regrown a1
    have k2 := cell_regrown a2
    have cC : ∀ dd os, CallsIn Fence.wide (m - 1) Try.prog 18 #[.agg #[.int .i64 f, .int .i64 d]] (grow (redrawn w8 dd) os) fun e w'' => e = .returned (.int .i64 c) ∧ ∃ p : Regrown, w'' = grow (redrawn w8 p.d) p.os := fun dd os => CallsIn.regrown_of (callsIn_wide.2 (by rw [← hcz]; exact count_any f d _))
    have cK : ∀ dd os, CallsIn Fence.wide (m - 1) Try.prog 9 #[.agg #[.int .i64 f, .int .i64 d]] (grow (redrawn w8 dd) os) fun e w'' => e = .returned (.int .i64 ec) ∧ ∃ p : Regrown, w'' = grow (redrawn w8 p.d) p.os := fun dd os => CallsIn.regrown_of (callsIn_wide.2 (hcall _))
    refine wpIn_region_quiet_last_lit (hf := (List.dropLast_concat_getLast (by simp)).symm) rfl hmx (by kernel_rfl) rfl (by kernel_rfl) (by kernel_rfl) (by kernel_rfl) (by kernel_rfl) (by kernel_rfl) ?_
    simp only [List.dropLast_cons_cons, List.dropLast_singleton, List.getLast_cons_cons, List.getLast_singleton]
    repeat (refine wpQuietIn_step (fun _ _ _ _ => trivial) (fun K hK => ?_); go_simp; first | (refine hK _ ?_; clear hK K) | (apply Exists.intro; refine ⟨fun _ => ?_, hK _ ?_⟩; (first | exact cC _ _ | exact cK _ _ | exact ⟨trivial, cC _ _⟩ | exact ⟨trivial, cK _ _⟩); clear hK K))
    refine wpQuietIn_nil ?_
    intro _ hw'
    obtain ⟨⟨dq, osq⟩, hw''⟩ := hw'
    subst hw''
    have HG9 := hide (bel HG8.out (below_regrown w8 dq osq))
    have r9 : (grow (redrawn w8 dq) osq).cell? ⟨w.heap.size + 1 + 1, 0, none⟩ = some (.bool false) := (HBs.out.later HG9.out).r.cell 0 rfl
    have r9' := (HBs.out.later HG9.out).r.frozen 0
    gi_wp2
    have hf : HasC _ _ 4 #[.bool true] := (HBs.out.later HG9.out).r.set 0 (.bool true)
    have hb9 := (HBs.out.later HG9.out).b.setCell (p := ⟨w.heap.size + 1 + 1, 0, none⟩) (by simp; omega) (.bool true)
    have hK9 : (grow (redrawn w8 dq) osq).heap[D]? = some (.deferred (some [])) := (HG9.out.block D ((Array.getElem?_eq_some_iff.1 hK).1)).trans hK
    have hK' := (KeepsOthers.setCell (grow (redrawn w8 dq) osq) ⟨w.heap.size + 1 + 1, 0, none⟩ (.bool true)).same D _ hK9 rfl
    refine ⟨by simp, .inl ⟨_, _, rfl, run_takeDeferred hK', ?_⟩⟩
    generalize (grow (redrawn w8 dq) osq).setCell ⟨w.heap.size + 1 + 1, 0, none⟩ (.bool true) = Wf at hf hb9 hK' ⊢
    have k1 := hasC_own _ 4 (fun (_ : Unit) => #[.bool true]) () _ _ _ hf (grownBy_putObj' Wf D (.deferred none)) (fun r e => by cases e; exact ⟨_, hK', rfl⟩)
    refine ⟨.bool true, ?_, rfl, hb9.trans (belowK_b (w := w) (Nat.le_refl _) _ D _ _ (by omega) hK' rfl rfl)⟩
    have c4 := k1.cell 0 rfl
    simp at c4
    simp [results, Try.f7, go_sem, c4]
  case stop =>
    rintro D c pre W hD ⟨k, hk, rfl⟩ ⟨rfl, h⟩ _
    exact absurd ⟨k, by omega, rfl⟩ h

/-- The walk of KindCausal. -/
theorem causal_walk (f d stop : Int) (w : World) :
    Calls Try.prog 7 #[.agg #[.int .i64 f, .int .i64 d], .int .i64 stop] w fun e w' => e = .returned (.bool true) ∧ Below w.heap.size w w' :=
  callsIn_wide.1 (causal_in 12 (Nat.le_refl _) f d stop w)

end Go.Proofs.Ytinlknflkgijmaa

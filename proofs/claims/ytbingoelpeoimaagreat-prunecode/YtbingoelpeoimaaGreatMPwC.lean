/-
  PruneCode's walk.
-/
import Derived.Test.YtbingoelpeoimaaGreatMPg
import Derived.Test.YtbingoelpeoimaaGreatMKnRoomy
import Derived.Test.YtbingoelpeoimaaGreatMCdApart
import Derived.Test.YtbingoelpeoimaaGreatMApI
import Derived.Test.YtbingoelpeoimaaGreatMPD
import Derived.Test.YtbingoelpeoimaaGreatMCdE
namespace Go.Proofs.Prn
open Go.RowKit Go.IntWalk YtbingoelpeoimaaGreat.Knd
open Cde (In i0 ia kd cd Ins four_of is6 mk7 sameB)
open Vfy (vfE)
open Cde (or_t ord_of below_drew)
open Rdc (mixedF)
set_option linter.unusedVariables false

theorem roomy_ins {W : World} {base g n c : Nat} {L : List In} (hO : W.ownsRow base 44 6 (.slice (some ⟨g, 0, none⟩) (n + 1) c) (n + 1) (is6 (L ++ [mk7]))) : Ins W (some ⟨g, 0, none⟩) (n + 1) c (L ++ [mk7]) := by
  obtain ⟨a', c', e, hI, -⟩ := Ins.of_owns hO
  cases e
  exact hI
theorem ins_left {W : World} {a : Option Addr} {n c : Nat} {L : List In} (h : Ins W a (n + 1) c (L ++ [mk7])) : Ins W a n c L := by
  have hl := h.len
  simp at hl
  have h3 := h.take (k := n) (by omega)
  rw [← hl, List.take_left, hl] at h3
  exact h3
theorem own_lt' {V : World} {base size n q : Nat} {e : TypeId} {v : Value} {xs : List Value} (h : V.ownsRow base e size v n xs) (hq : V.heap.size ≤ q) : v.ownBlock ≠ some q := fun e => by
  have := (h.lt q e).2
  omega
/-- The argument and what Roomy made of it, in a later world. -/
structure Xq (W V : World) (f d out : Int) (a : Option Addr) (n cap g c pd : Nat) (L : List In) : Prop where
  old : Below W.heap.size W V
  li : Ins V a n cap L
  ro : V.ownsRow W.heap.size 44 6 (.slice (some ⟨g, 0, none⟩) (n + 1) c) (n + 1) (is6 (L ++ [mk7]))
  cb : HasC V W.heap.size 26 (cd f d a n cap out)
  db : HasC V pd 26 (cd f d (some ⟨g, 0, none⟩) n c out)
theorem Xq.later {W V V' : World} {f d out : Int} {a : Option Addr} {n cap g c pd : Nat} {L : List In} (h : Xq W V f d out a n cap g c pd L) (hb : Below V.heap.size V V') : Xq W V' f d out a n cap g c pd L :=
  ⟨bel h.old hb, h.li.later hb, Cde.own_later h.ro hb, h.cb.below hb, h.db.below hb⟩
/-- A code that the law holds: its box, its row. -/
structure Hc (V : World) (lo b : Nat) (f d : Int) (I : List In) (o : Int) (a : Option Addr) (n c : Nat) : Prop where
  b : HasC V b 26 (cd f d a n c o)
  s : V.ownsRow lo 44 6 (.slice a n c) n (is6 I)
theorem Hc.later {V V' : World} {lo b : Nat} {f d : Int} {I : List In} {o : Int} {a : Option Addr} {n c : Nat} (h : Hc V lo b f d I o a n c) (hb : Below V.heap.size V V') : Hc V' lo b f d I o a n c := ⟨h.b.below hb, Cde.own_later h.s hb⟩
theorem Hc.ins {V : World} {lo b : Nat} {f d : Int} {I : List In} {o : Int} {a : Option Addr} {n c : Nat} (h : Hc V lo b f d I o a n c) : Ins V a n c I := by
  obtain ⟨a', c', e1, hI, -⟩ := Ins.of_owns h.s
  cases e1
  exact hI
theorem foI_few (f d : Int) (L : List In) (out : Int) : (foI f d L out).length ≤ 200 := by
  unfold foI
  split
  · rename_i h
    obtain ⟨mc, -⟩ := Vfy.vf_parts (pr_taken h)
    exact (Cde.mc_parts mc).2.2.1
  · simp
abbrev c3 (f d : Int) (a : Option Addr) (n c : Nat) (o : Int) (a2 : Option Addr) (c2 : Nat) (F D : Int) (g m c' : Nat) (out : Int) : Array Value :=
  #[.int .i64 f, .int .i64 d, .slice a n c, .int .i64 o, .int .i64 f, .int .i64 d, .slice a2 n c2, .int .i64 o, .int .i64 F, .int .i64 D, .slice (some ⟨g, 0, none⟩) m c', .int .i64 out]
/-- Three codes, the instructions of each in memory of its own, in a list. -/
theorem three_lists {V : World} {lo lo1 lo2 b b2 : Nat} {f d o F D out : Int} {I L : List In} {a a2 : Option Addr} {n c c2 g m c' : Nat} (h0 : V.ownsRow lo 44 6 (.slice (some ⟨g, 0, none⟩) (m + 1) c') (m + 1) (is6 (L ++ [mk7]))) (h : Hc V lo1 b f d I o a n c) (h2 : Hc V lo2 b2 f d I o a2 n c2)
    (hg : g < lo1) (hg2 : g < lo2) (hd : ∀ k, (Value.slice a n c).ownBlock = some k → k < lo2) (hf : n ≤ 200) (hm : m ≤ 2932031007317) (hL : L.length = m) :
    Fld.Ai.Lists (V.alloc (.cells (c3 f d a n c o a2 c2 F D g m c' out) 26)) V.heap.size 3 (fun i => if i = 0 then .slice a n c else if i = 1 then .slice a2 n c2 else .slice (some ⟨g, 0, none⟩) m c') (fun i => if i = 2 then m else n) := by
  have hn := HasC.new V 26 (c3 f d a n c o a2 c2 F D g m c' out)
  have thr : ∀ i, i < 3 → i = 0 ∨ i = 1 ∨ i = 2 := fun i hi => by omega
  have hr : V.ownsRow lo 44 6 (.slice (some ⟨g, 0, none⟩) m c') m (is6 L) := by
    rw [Cde.is6_snoc] at h0
    exact Fld.Ai.owns_head h0 (by rw [Cde.is6_len, hL])
  have o1 : ∀ k, (Value.slice a n c).ownBlock = some k → lo1 ≤ k := fun k hk => (h.s.lt k hk).1
  have o2 : ∀ k, (Value.slice a2 n c2).ownBlock = some k → lo2 ≤ k := fun k hk => (h2.s.lt k hk).1
  have o3 : ∀ k, (Value.slice (some ⟨g, 0, none⟩) m c').ownBlock = some k → k = g := fun k hk => by simp [Value.ownBlock] at hk; exact hk.symm
  refine ⟨hn.lt, fun i hi => ?_, fun i hi => ?_, fun i j hi hj hij k hk e => ?_, fun i hi => ?_, fun i hi => ?_, by decide⟩
  · rcases thr i hi with rfl | rfl | rfl
    · exact hn.cell 2 rfl
    · exact hn.cell 6 rfl
    · exact hn.cell 10 rfl
  · rcases thr i hi with rfl | rfl | rfl
    · exact ⟨I, Cde.own_mono (h.s.alloc _) (Nat.zero_le _)⟩
    · exact ⟨I, Cde.own_mono (h2.s.alloc _) (Nat.zero_le _)⟩
    · exact ⟨L, Cde.own_mono (hr.alloc _) (Nat.zero_le _)⟩
  · rcases thr i hi with rfl | rfl | rfl <;> rcases thr j hj with rfl | rfl | rfl
    · exact hij rfl
    · have := hd k hk; have := o2 k e; omega
    · have := o1 k hk; have := o3 k e; omega
    · have := o2 k hk; have := hd k e; omega
    · exact hij rfl
    · have := o2 k hk; have := o3 k e; omega
    · have := o3 k hk; have := o1 k e; omega
    · have := o3 k hk; have := o2 k e; omega
    · exact hij rfl
  · rcases thr i hi with rfl | rfl | rfl
    · exact own_lt' h.s (Nat.le_refl _)
    · exact own_lt' h2.s (Nat.le_refl _)
    · exact own_lt' hr (Nat.le_refl _)
  · rcases thr i hi with rfl | rfl | rfl
    · show n ≤ _; omega
    · show n ≤ _; omega
    · exact hm

/-- The region that asks Live twice, by which of its operations are done. -/
structure Lq (V : World) (f d out : Int) (g n c ll : Nat) (Z : List Int) (q : Nat → Bool) (y0 y1 y2 y3 y4 y5 : Value) (w : World) : Prop where
  b : Below V.heap.size V w
  f0 : q 0 = true → y0 = .agg (cd f d (some ⟨g, 0, none⟩) n c out)
  f1 : q 1 = true → ∃ a1 c1, y1 = .slice a1 ll c1 ∧ w.ownsRow V.heap.size 3 1 (.slice a1 ll c1) ll (i64s Z)
  f2 : q 2 = true → y2 = .agg (cd f d (some ⟨g, 0, none⟩) n c out)
  f3 : q 3 = true → q 1 = true ∧ ∃ a1 c1 a2 c2, y1 = .slice a1 ll c1 ∧ y3 = .slice a2 ll c2 ∧ w.ownsRow V.heap.size 3 1 (.slice a1 ll c1) ll (i64s Z) ∧ w.ownsRow V.heap.size 3 1 (.slice a2 ll c2) ll (i64s Z) ∧ ∀ k, (Value.slice a1 ll c1).ownBlock = some k → (Value.slice a2 ll c2).ownBlock ≠ some k
  f4 : q 4 = true → q 1 = true ∧ y4 = y1
  f5 : q 5 = true → q 3 = true ∧ y5 = y3
theorem liZ_few (f d : Int) (L : List In) (out : Int) : (liZ f d L out).length ≤ 200 := by
  unfold liZ
  split
  · rename_i h
    have := (Cde.mc_parts h).2.2.1
    have := lvL_few L out
    rw [lvZ_len]
    omega
  · simp
/-- Two lists of one's own, apart, in a list. -/
theorem two_lists {V : World} {lo ll c1 c2 : Nat} {Z : List Int} {a1 a2 : Option Addr} (h1 : V.ownsRow lo 3 1 (.slice a1 ll c1) ll (i64s Z)) (h2 : V.ownsRow lo 3 1 (.slice a2 ll c2) ll (i64s Z)) (hd : ∀ k, (Value.slice a1 ll c1).ownBlock = some k → (Value.slice a2 ll c2).ownBlock ≠ some k) (hl : ll ≤ 200) :
    Cde.Ap.Lists (V.alloc (.cells #[.slice a1 ll c1, .slice a2 ll c2] 33)) V.heap.size 2 (fun i => if i = 0 then .slice a1 ll c1 else .slice a2 ll c2) (fun _ => ll) := by
  have hn := HasC.new V 33 #[.slice a1 ll c1, .slice a2 ll c2]
  have two : ∀ i, i < 2 → i = 0 ∨ i = 1 := fun i hi => by omega
  refine ⟨hn.lt, fun i hi => ?_, fun i hi => ?_, fun i j hi hj hij k hk e => ?_, fun i hi => ?_, fun i hi => ?_, by decide⟩
  · rcases two i hi with rfl | rfl
    · exact hn.cell 0 rfl
    · exact hn.cell 1 rfl
  · rcases two i hi with rfl | rfl
    · exact ⟨_, Cde.own_mono (h1.alloc _) (Nat.zero_le _)⟩
    · exact ⟨_, Cde.own_mono (h2.alloc _) (Nat.zero_le _)⟩
  · rcases two i hi with rfl | rfl <;> rcases two j hj with rfl | rfl
    · exact hij rfl
    · exact hd k hk e
    · exact hd k e hk
    · exact hij rfl
  · rcases two i hi with rfl | rfl
    · exact own_lt' h1 (Nat.le_refl _)
    · exact own_lt' h2 (Nat.le_refl _)
  · show ll ≤ _; omega

set_option maxRecDepth 100000 in
set_option maxHeartbeats 16000000 in
theorem pcode_walk (f d out : Int) {a : Option Addr} {n cap : Nat} {L : List In} {W : World} (hL : Ins W a n cap L) (hs : n ≤ 2932031007317) :
    Calls Tryz.prog 3 #[.agg (cd f d a n cap out)] W fun e W' => e = .returned (.bool true) ∧ Below W.heap.size W W' := by
  have hb0 := bel1 W (.cells (cd f d a n cap out) 26)
  have HR := hide (Cde.roomyC_any f d out (hL.later hb0) (by omega))
  have HC0 := hide (HasC.new W 26 (cd f d a n cap out))
  have HL0 := hide (hL.later hb0)
  have HLn := hide hL.len
  have HB0 := hide hb0
  have HA := hide fun V => pawake_any V
  have HE := hide fun (V : World) (g c pd : Nat) (h : Xq W V f d out a n cap g c pd L) => pprune_any f d out (ins_left (roomy_ins h.ro))
  have HJ := hide fun (V : World) (g c pd : Nat) (h : Xq W V f d out a n cap g c pd L) => gprune_any f d out h.li
  have HLv := hide fun (V : World) (g c pd : Nat) (h : Xq W V f d out a n cap g c pd L) => plive_any f d out (ins_left (roomy_ins h.ro))
  have HLd := hide fun (V : World) (h : Ins V a n cap L) => glive_any f d out h
  have HZw := hide (liZ_few f d L out)
  obtain ⟨Z, hZ⟩ : ∃ Z, liZ f d L out = Z := ⟨_, rfl⟩
  rw [hZ] at HLv HLd HZw
  obtain ⟨ll, hll⟩ : ∃ ll, Z.length = ll := ⟨_, rfl⟩
  rw [hll] at HLv HLd HZw
  have HZl := hide hll
  clear hZ hll
  have HFw := hide (foI_few f d L out)
  unfold FoP at HE HJ
  obtain ⟨I, hI⟩ : ∃ I, foI f d L out = I := ⟨_, rfl⟩
  rw [hI] at HE HJ HFw
  obtain ⟨il, hil⟩ : ∃ il, I.length = il := ⟨_, rfl⟩
  rw [hil] at HE HJ HFw
  generalize foU f d L out = u at *
  generalize foK f d L out f = kf at *
  generalize foK f d L out d = kd' at *
  generalize vfE f d L out = er at *
  have HSm := hide fun (V : World) (a b : Option Addr) (c k : Nat) (h1 : Ins V a il c I) (h2 : Ins V b il k I) => Cde.xsame_any kf kd' u kf kd' u h1 h2
  rw [Cde.sameB_self] at HSm
  clear hL hb0 hI hil
  go_enter Tryz.func3, Tryz.ntmps3
  go_wp2_with fail
  refine HR.out.mono ?_
  clear HR
  rintro e V ⟨g, c, rfl, hO, hb⟩
  have hba := bel1 V (.cells (cd f d (some ⟨g, 0, none⟩) n c out) 26)
  have hbb := bel hb hba
  have HC : Hid (Xq W (V.alloc (.cells (cd f d (some ⟨g, 0, none⟩) n c out) 26)) f d out a n cap g c V.heap.size L) := hide ⟨bel HB0.out hbb, HL0.out.later hbb, Cde.own_mono (Cde.own_later hO hba) HB0.out.size, HC0.out.below hbb, HasC.new _ _ _⟩
  have HGl := hide (show g < (V.alloc (.cells (cd f d (some ⟨g, 0, none⟩) n c out) 26)).heap.size from by have := (hO.lt g rfl).2; have := hba.size; omega)
  clear hO hb hba hbb HL0 HC0 HB0
  go_wp2_with fail
  obtain ⟨pd, hpd⟩ : ∃ p, V.heap.size = p := ⟨_, rfl⟩
  obtain ⟨V1, hV1⟩ : ∃ X, V.alloc (.cells (cd f d (some ⟨g, 0, none⟩) n c out) 26) = X := ⟨_, rfl⟩
  rw [hV1] at HC HGl ⊢
  rw [hpd] at HC ⊢
  clear hV1 hpd
  refine (HE.out V1 _ _ _ HC.out).mono ?_
  rintro e V2 ⟨a1, e1, rfl, hO, hb⟩
  have hba := bel1 V2 (.cells (cd kf kd' a1 il e1 u) 26)
  have HC2 := hide (HC.out.later (bel hb hba))
  have HA2 := hide (show Hc (V2.alloc (.cells (cd kf kd' a1 il e1 u) 26)) V1.heap.size V2.heap.size kf kd' I u a1 il e1 from ⟨HasC.new _ _ _, Cde.own_later hO hba⟩)
  have HD := hide (show ∀ k, (Value.slice a1 il e1).ownBlock = some k → k < (V2.alloc (.cells (cd kf kd' a1 il e1 u) 26)).heap.size from fun k hk => by have := (hO.lt k hk).2; have := hba.size; omega)
  have HZ1 := hide (show W.heap.size ≤ V1.heap.size from HC.out.old.size)
  have HZ13 := hide (show V1.heap.size ≤ (V2.alloc (.cells (cd kf kd' a1 il e1 u) 26)).heap.size from (bel hb hba).size)
  obtain ⟨t0, t1, t2, t3⟩ := four_of (HC.out.later hb).cb
  have zT := (HC.out.later hb).cb.lt
  clear hba hb hO HC
  go_wp2_with fail
  obtain ⟨pa, hpa⟩ : ∃ p, V2.heap.size = p := ⟨_, rfl⟩
  obtain ⟨V3, hV3⟩ : ∃ X, V2.alloc (.cells (cd kf kd' a1 il e1 u) 26) = X := ⟨_, rfl⟩
  rw [hV3] at HC2 HA2 HD HZ13 ⊢
  rw [hpa] at HA2 ⊢
  clear hV3 hpa t0 t1 t2 t3 zT
  refine (HJ.out V3 _ _ _ HC2.out).mono ?_
  rintro e V4 ⟨a2, e2, rfl, hO, hb⟩
  have hba := bel1 V4 (.cells (cd kf kd' a2 il e2 u) 26)
  have hbb := bel hb hba
  have HC4 := hide (HC2.out.later hbb)
  have HA4 := hide (HA2.out.later hbb)
  have HB4 := hide (show Hc (V4.alloc (.cells (cd kf kd' a2 il e2 u) 26)) V3.heap.size V4.heap.size kf kd' I u a2 il e2 from ⟨HasC.new _ _ _, Cde.own_later hO hba⟩)
  have HZ3 := hide (show V3.heap.size ≤ (V4.alloc (.cells (cd kf kd' a2 il e2 u) 26)).heap.size from hbb.size)
  obtain ⟨t0, t1, t2, t3⟩ := four_of (HC2.out.later hb).db
  have zT := (HC2.out.later hb).db.lt
  clear hba hbb hb hO HC2 HA2
  go_wp2_with fail
  obtain ⟨pb, hpb⟩ : ∃ p, V4.heap.size = p := ⟨_, rfl⟩
  obtain ⟨V5, hV5⟩ : ∃ X, V4.alloc (.cells (cd kf kd' a2 il e2 u) 26) = X := ⟨_, rfl⟩
  rw [hV5] at HC4 HA4 HB4 HZ3 ⊢
  rw [hpb] at HB4 ⊢
  clear hV5 hpb t0 t1 t2 t3 zT
  refine (HE.out V5 _ _ _ HC4.out).mono ?_
  rintro e V6 ⟨a3, e3, rfl, hO, hb⟩
  have hba := bel1 V6 (.cells (cd kf kd' a3 il e3 u) 26)
  have hbb := bel hb hba
  have HC6 := hide (HC4.out.later hbb)
  have HA6 := hide (HA4.out.later hbb)
  have HB6 := hide (HB4.out.later hbb)
  have HG6 := hide (show Hc (V6.alloc (.cells (cd kf kd' a3 il e3 u) 26)) V5.heap.size V6.heap.size kf kd' I u a3 il e3 from ⟨HasC.new _ _ _, Cde.own_later hO hba⟩)
  have HZ5 := hide (show W.heap.size ≤ V5.heap.size from HC4.out.old.size)
  clear hba hbb hb hO HC4 HA4 HB4
  have HD5 := hide (show ∀ k, (Value.slice a1 il e1).ownBlock = some k → k < V5.heap.size from fun k hk => Nat.lt_of_lt_of_le (HD.out k hk) HZ3.out)
  have HG5 := hide (show g < V5.heap.size from Nat.lt_of_lt_of_le HGl.out (Nat.le_trans HZ13.out HZ3.out))
  clear HD HZ3 HE HJ HZ13
  go_wp2_with fail
  obtain ⟨pc, hpc⟩ : ∃ p, V6.heap.size = p := ⟨_, rfl⟩
  obtain ⟨V7, hV7⟩ : ∃ X, V6.alloc (.cells (cd kf kd' a3 il e3 u) 26) = X := ⟨_, rfl⟩
  rw [hV7] at HC6 HA6 HB6 HG6 ⊢
  rw [hpc] at HG6 ⊢
  clear hV7 hpc
  refine wp_flags3' mixedF (ord_of (by kernel_rfl)) (fun a0 q A w => ∃ y0 y1 y2 y3 y4 y5, A = ⟨((((((a0.tmps.setIfInBounds 29 y0).setIfInBounds 30 y1).setIfInBounds 31 y2).setIfInBounds 32 y3).setIfInBounds 10 y4).setIfInBounds 11 y5), a0.defers⟩ ∧ Lq V7 f d out g n c ll Z q y0 y1 y2 y3 y4 y5 w) ?_ ?_ ?_
  · simp only [List.setIfInBounds_toArray, List.set_cons_succ, List.set_cons_zero]
    refine ⟨_, _, _, _, _, _, rfl, below_drew V7, ?_, ?_, ?_, ?_, ?_, ?_⟩
    all_goals (intro h; cases h; done)
  · rintro q A w i op ⟨y0, y1, y2, y3, y4, y5, rfl, C⟩ hdi ho haft Q' hk'
    simp only [List.setIfInBounds_toArray, List.set_cons_succ, List.set_cons_zero] at hk' ⊢
    have HK := hide hk'
    clear hk'
    have hi : i < 6 := (Array.getElem?_eq_some_iff.1 ho).1
    match i, hi with
    | 0, _ =>
      obtain rfl := (Option.some.inj ho)
      clear haft ho
      obtain ⟨q0, q1, q2, q3⟩ := four_of (HC6.out.later C.b).db
      have C := hide C
      go_wp2
      have C := C.out
      exact HK.out _ _ ⟨_, y1, y2, y3, y4, y5, rfl, ⟨C.b, (fun _ => rfl), C.f1, C.f2, (fun h => ⟨or_t (C.f3 h).1, (C.f3 h).2⟩), (fun h => ⟨or_t (C.f4 h).1, (C.f4 h).2⟩), (fun h => ⟨or_t (C.f5 h).1, (C.f5 h).2⟩)⟩⟩
    | 1, _ =>
      obtain rfl := (Option.some.inj ho)
      have g0 : q 0 = true := haft ⟨0, .data⟩ (by simp) rfl
      clear haft ho
      have e1 := C.f0 g0
      subst e1
      have HLw := hide (HLv.out w _ _ _ (HC6.out.later C.b))
      have C := hide C
      go_wp2_with fail
      refine HLw.out.mono ?_
      rintro e w' ⟨al, cl, rfl, hO, hb⟩
      have HOw := hide hO
      have HBw := hide hb
      clear hO hb
      go_wp2_with fail
      have C := C.out
      have hb := HBw.out
      have hO := HOw.out
      exact HK.out _ _ ⟨_, _, y2, y3, y4, y5, rfl, ⟨(bel C.b hb), C.f0, (fun _ => ⟨al, cl, rfl, Cde.own_mono hO C.b.size⟩), C.f2, (fun h => by have h2 := (C.f3 h).1; rw [hdi] at h2; cases h2), (fun h => by have h2 := (C.f4 h).1; rw [hdi] at h2; cases h2), (fun h => by have h2 := (C.f3 (C.f5 h).1).1; rw [hdi] at h2; cases h2)⟩⟩
    | 2, _ =>
      obtain rfl := (Option.some.inj ho)
      clear haft ho
      obtain ⟨q0, q1, q2, q3⟩ := four_of (HC6.out.later C.b).db
      have C := hide C
      go_wp2
      have C := C.out
      exact HK.out _ _ ⟨y0, y1, _, y3, y4, y5, rfl, ⟨C.b, C.f0, C.f1, (fun _ => rfl), (fun h => ⟨or_t (C.f3 h).1, (C.f3 h).2⟩), (fun h => ⟨or_t (C.f4 h).1, (C.f4 h).2⟩), (fun h => ⟨or_t (C.f5 h).1, (C.f5 h).2⟩)⟩⟩
    | 3, _ =>
      obtain rfl := (Option.some.inj ho)
      have g2 : q 2 = true := haft ⟨2, .data⟩ (by simp) rfl
      have g1 : q 1 = true := haft ⟨1, .chain⟩ (by simp) rfl
      clear haft ho
      have e1 := C.f2 g2
      subst e1
      obtain ⟨ax, cx, e2, hx⟩ := C.f1 g1
      subst e2
      have HLw := hide (HLv.out w _ _ _ (HC6.out.later C.b))
      have C := hide C
      go_wp2_with fail
      refine HLw.out.mono ?_
      rintro e w' ⟨al, cl, rfl, hO, hb⟩
      have HOw := hide hO
      have HBw := hide hb
      clear hO hb
      go_wp2_with fail
      have C := C.out
      have hb := HBw.out
      have hO := HOw.out
      exact HK.out _ _ ⟨y0, _, _, _, y4, y5, rfl, ⟨(bel C.b hb), C.f0, (fun h => by obtain ⟨a1, c1, e, h1⟩ := C.f1 h; exact ⟨a1, c1, e, Cde.own_later h1 hb⟩), C.f2, (fun _ => ⟨or_t g1, ax, cx, al, cl, rfl, rfl, Cde.own_later hx hb, Cde.own_mono hO C.b.size, fun k hk e => by have h1 := (hx.lt k hk).2; have h2 := (hO.lt k e).1; omega⟩), (fun h => ⟨or_t (C.f4 h).1, (C.f4 h).2⟩), (fun h => by have h2 := (C.f5 h).1; rw [hdi] at h2; cases h2)⟩⟩
    | 4, _ =>
      obtain rfl := (Option.some.inj ho)
      have g1 : q 1 = true := haft ⟨1, .data⟩ (by simp) rfl
      clear haft ho
      have C := hide C
      go_wp2
      have C := C.out
      exact HK.out _ _ ⟨y0, y1, y2, y3, _, y5, rfl, ⟨C.b, C.f0, C.f1, C.f2, (fun h => ⟨or_t (C.f3 h).1, (C.f3 h).2⟩), (fun _ => ⟨or_t g1, rfl⟩), (fun h => ⟨or_t (C.f5 h).1, (C.f5 h).2⟩)⟩⟩
    | 5, _ =>
      obtain rfl := (Option.some.inj ho)
      have g3 : q 3 = true := haft ⟨3, .data⟩ (by simp) rfl
      clear haft ho
      have C := hide C
      go_wp2
      have C := C.out
      exact HK.out _ _ ⟨y0, y1, y2, y3, y4, _, rfl, ⟨C.b, C.f0, C.f1, C.f2, (fun h => ⟨or_t (C.f3 h).1, (C.f3 h).2⟩), (fun h => ⟨or_t (C.f4 h).1, (C.f4 h).2⟩), (fun _ => ⟨or_t g3, rfl⟩)⟩⟩
  rintro q A V8 ⟨y0, y1, y2, y3, y4, y5, rfl, C⟩ hall
  simp only [List.setIfInBounds_toArray, List.set_cons_succ, List.set_cons_zero]
  have D : ∀ i, i < 6 → q i = true := hall
  obtain ⟨-, la, lc, ma, mc, e1, e3, hl8, hm8, hd8⟩ := C.f3 (D 3 (by omega))
  obtain ⟨-, e4⟩ := C.f4 (D 4 (by omega))
  obtain ⟨-, e5⟩ := C.f5 (D 5 (by omega))
  subst e1 e3 e4 e5
  have HK8 := hide C.b
  have HL8 := hide hl8
  have HM8 := hide hm8
  have HD8 := hide hd8
  have hi8 := fun (V : World) (aq : Option Addr) (cq : Nat) (lo : Nat) (h : V.ownsRow lo 3 1 (.slice aq ll cq) ll (i64s Z)) => (show Ints V aq ll cq Z by
    obtain ⟨a', c', e, hI, -⟩ := Ints.of_owns h
    cases e
    exact hI)
  have HI8 := hide hi8
  clear hl8 hm8 hd8 D hall C hi8
  go_wp2_with fail
  refine (HA.out _).mono ?_
  rintro e V9 ⟨rfl, hb⟩
  have HK9 := hide (bel HK8.out hb)
  have HL9 := hide (Cde.own_later HL8.out hb)
  have HM9 := hide (Cde.own_later HM8.out hb)
  have HX9 := hide (HC6.out.later (bel HK8.out hb))
  clear hb HK8 HL8 HM8 HA
  obtain ⟨x0, x1, x2, x3⟩ := four_of HX9.out.cb
  go_wp2_with fail
  refine (HLd.out _ HX9.out.li).mono ?_
  rintro e V10 ⟨da, dc, rfl, hO, hb⟩
  have HK10 := hide (bel HK9.out hb)
  have HL10 := hide (Cde.own_later HL9.out hb)
  have HM10 := hide (Cde.own_later HM9.out hb)
  have HJ10 := hide (HI8.out _ _ _ _ HL10.out)
  have HN10 := hide (HI8.out _ _ _ _ HM10.out)
  have HD10 := hide (HI8.out _ _ _ _ hO)
  clear hb hO HK9 HL9 HM9 HX9 x0 x1 x2 x3 HLd
  have HS1 := hide (sameI_self la da ll ll lc dc Z V10 HJ10.out HD10.out)
  go_wp2_with fail
  refine HS1.out.mono ?_
  rintro e V11 ⟨rfl, qn, rfl⟩
  have hb := Cde.below_dN V10 qn
  generalize V10.drewN qn = V11 at *
  have HK11 := hide (bel HK10.out hb)
  have HL11 := hide (Cde.own_later HL10.out hb)
  have HM11 := hide (Cde.own_later HM10.out hb)
  have HJ11 := hide (HI8.out _ _ _ _ HL11.out)
  have HN11 := hide (HI8.out _ _ _ _ HM11.out)
  clear hb HK10 HL10 HM10 HJ10 HN10 HD10 HS1
  have HS2 := hide (sameI_self ma la ll ll mc lc Z V11 HN11.out HJ11.out)
  go_wp2_with fail
  refine HS2.out.mono ?_
  rintro e V12 ⟨rfl, qn2, rfl⟩
  have hb := Cde.below_dN V11 qn2
  generalize V11.drewN qn2 = V12 at *
  have HK12 := hide (bel HK11.out hb)
  have HL12 := hide (Cde.own_later HL11.out hb)
  have HM12 := hide (Cde.own_later HM11.out hb)
  clear hb HK11 HL11 HM11 HJ11 HN11 HS2 HI8
  have HLs2 := hide (two_lists HL12.out HM12.out HD8.out HZw.out)
  have HOf2 : Hid (∀ k, Cde.Ap.Of 2 (fun i => if i = 0 then .slice la ll lc else .slice ma ll mc) k → V7.heap.size ≤ k) := hide fun k ⟨i, hi, hk⟩ => by
    rcases (show i = 0 ∨ i = 1 by omega) with rfl | rfl
    · exact (HL12.out.lt k hk).1
    · exact (HM12.out.lt k hk).1
  have HAp2 := hide (Cde.Ap.apart_any V12.heap.size 2 2 _ _ _ HLs2.out)
  go_wp2_with fail
  refine HAp2.out.mono ?_
  rintro e V13 ⟨rfl, hk⟩
  have hb13 : Below V7.heap.size V7 V13 := (bel HK12.out (bel1 V12 _)).trans (hk.below (by have := HK12.out.size; simp only [World.size_alloc]; omega) HOf2.out)
  have HC8 := hide (HC6.out.later hb13)
  have HA8 := hide (HA6.out.later hb13)
  have HB8 := hide (HB6.out.later hb13)
  have HG8 := hide (HG6.out.later hb13)
  clear hk hb13 HC6 HA6 HB6 HG6 HK12 HL12 HM12 HD8 HLs2 HOf2 HAp2 HLv
  have hee : (er == er) = true := by simp
  obtain ⟨x0, x1, x2, x3⟩ := four_of HA8.out.b
  obtain ⟨y0, y1, y2, y3⟩ := four_of HB8.out.b
  go_wp2_with fail
  refine (HSm.out _ _ _ _ _ HA8.out.ins HB8.out.ins).mono ?_
  rintro e V14 ⟨rfl, hb⟩
  have HC9 := hide (HC8.out.later hb)
  have HA9 := hide (HA8.out.later hb)
  have HB9 := hide (HB8.out.later hb)
  have HG9 := hide (HG8.out.later hb)
  clear hb HC8 HA8 HB8 HG8 x0 x1 x2 x3 y0 y1 y2 y3
  obtain ⟨x0, x1, x2, x3⟩ := four_of HG9.out.b
  obtain ⟨y0, y1, y2, y3⟩ := four_of HB9.out.b
  go_wp2_with fail
  refine (HSm.out _ _ _ _ _ HG9.out.ins HB9.out.ins).mono ?_
  rintro e V10 ⟨rfl, hb⟩
  have HC10 := hide (HC9.out.later hb)
  have HA10 := hide (HA9.out.later hb)
  have HG10 := hide (HG9.out.later hb)
  clear hb HC9 HA9 HB9 HG9 HSm x0 x1 x2 x3 y0 y1 y2 y3
  obtain ⟨x0, x1, x2, x3⟩ := four_of HC10.out.cb
  obtain ⟨y0, y1, y2, y3⟩ := four_of HC10.out.db
  have HH := hide (Cde.heldC_any f d out (roomy_ins HC10.out.ro) HC10.out.li)
  go_wp2_with fail
  refine HH.out.mono ?_
  rintro e V11 ⟨rfl, hb⟩
  have HC11 := hide (HC10.out.later hb)
  have HA11 := hide (HA10.out.later hb)
  have HG11 := hide (HG10.out.later hb)
  clear hb HC10 HA10 HG10 HH x0 x1 x2 x3 y0 y1 y2 y3
  obtain ⟨x0, x1, x2, x3⟩ := four_of HA11.out.b
  obtain ⟨y0, y1, y2, y3⟩ := four_of HG11.out.b
  obtain ⟨w0, w1, w2, w3⟩ := four_of HC11.out.db
  have HLs := hide (three_lists (F := f) (D := d) (out := out) HC11.out.ro HA11.out HG11.out HGl.out HG5.out HD5.out HFw.out hs HLn.out)
  have HOf : Hid (∀ k, Fld.Ai.Of 3 (fun i => if i = 0 then .slice a1 il e1 else if i = 1 then .slice a3 il e3 else .slice (some ⟨g, 0, none⟩) n c) k → W.heap.size ≤ k) := hide fun k ⟨i, hi, hk⟩ => by
    rcases (show i = 0 ∨ i = 1 ∨ i = 2 by omega) with rfl | rfl | rfl
    · have := (HA11.out.s.lt k hk).1; have := HZ1.out; omega
    · have := (HG11.out.s.lt k hk).1; have := HZ5.out; omega
    · have h1 := (HC11.out.ro.lt g rfl).1
      simp [Value.ownBlock] at hk
      omega
  have HAp := hide (Fld.Ai.xapart_any _ 3 3 _ _ _ HLs.out)
  have HB11 := hide HC11.out.old
  go_wp2_with fail
  refine HAp.out.mono ?_
  rintro e V12 ⟨rfl, hk⟩
  have HB12 : Hid (Below W.heap.size W V12) := hide ((bel HB11.out (bel1 _ _)).trans (hk.below (by have := HB11.out.size; simp only [World.size_alloc]; omega) HOf.out))
  clear hk
  go_wp2_with fail
  go_ret
  exact ⟨rfl, HB12.out⟩

end Go.Proofs.Prn

/-
 The document's own Cost, Leaf and Same of layer 9.
-/
import Derived.Test.YtbgmljmpmemfcaaGreatYE4
import Derived.Test.YtbgmljmpmemfcaaGreatYKnD
import Derived.Deep.QuietTactic
import Derived.BigQuiet
import Derived.Test.YtbgmljmpmemfcaaGreatYEaB
import Derived.Test.YtbgmljmpmemfcaaGreatYCw
import Derived.Test.YtbgmljmpmemfcaaGreatYSqF
import Derived.Test.YtbgmljmpmemfcaaGreatYKnE
import Derived.Test.YtbgmljmpmemfcaaGreatYQsS
namespace Go.Proofs.YtbgmljmpmemfcaaGreat
open Go.RowKit Go.IntWalk Lx Pz
set_option linter.unusedVariables false

set_option maxHeartbeats 1000000 in
theorem jcost_any (o : Int) (W : World) : Calls Tryz.prog 15 #[.int .i64 o] W fun e W' => e = .returned (.int .i64 (coZ o)) ∧ W' = W := by
 by_cases h1 : o = 4
 ·subst h1
  go_enter Tryz.func15, Tryz.ntmps15
  go_wp2
  go_ret
  exact ⟨rfl, rfl⟩
 by_cases h2 : o = 11
 ·subst h2
  go_enter Tryz.func15, Tryz.ntmps15
  go_wp2
  go_ret
  exact ⟨rfl, rfl⟩
 by_cases h3 : o = 12
 ·subst h3
  go_enter Tryz.func15, Tryz.ntmps15
  go_wp2
  go_ret
  exact ⟨rfl, rfl⟩
 have e : coZ o = 1 := by unfold coZ; rw [if_neg h1, if_neg h2, if_neg h3]
 rw [e]
 have e1 : (o == 4) = false := by simpa using h1
 have e2 : (o == 11) = false := by simpa using h2
 have e3 : (o == 12) = false := by simpa using h3
 clear h1 h2 h3 e
 go_enter Tryz.func15, Tryz.ntmps15
 go_wp2
 go_ret
 exact ⟨rfl, rfl⟩

/-- What the document's Leaf answers. -/
def lfZ (f d op k : Int) : (Int × Int) × Bool :=
 if op = 1 then ((k, k), true) else if op = 2 then ((Knd.inZ f d k).getD (0, 0), (Knd.inZ f d k).isSome) else if op = 3 then ((Knd.lowZ f d, Knd.highZ f d), true) else ((0, 0), false)
abbrev lfV (Z : (Int × Int) × Bool) : Value := .tuple #[.agg #[.int .i64 Z.1.1, .int .i64 Z.1.2], .bool Z.2]

set_option maxRecDepth 100000 in
set_option maxHeartbeats 4000000 in
theorem jleaf_any (f d op k : Int) (W : World) : Calls Tryz.prog 29 #[.agg (kdA f d), .int .i64 op, .int .i64 k] W fun e W' => e = .returned (lfV (lfZ f d op k)) ∧ Below W.heap.size W W' := by
 have hb1 := bel1 W (.cells (kdA f d) 23)
 have HB0 := hide (bel hb1 (bel1 (W.alloc (.cells (kdA f d) 23)) (.cells #[.int .i64 0, .int .i64 0] 43)))
 have HK0 := hide ((HasC.new W 23 (kdA f d)).alloc (.cells #[.int .i64 0, .int .i64 0] 43))
 have HR0 : Hid (HasC ((W.alloc (.cells (kdA f d) 23)).alloc (.cells #[.int .i64 0, .int .i64 0] 43)) (W.heap.size + 1) 43 #[.int .i64 0, .int .i64 0]) := by
  have := HasC.new (W.alloc (.cells (kdA f d) 23)) 43 #[.int .i64 0, .int .i64 0]
  simp only [World.size_alloc] at this
  exact hide this
 have HBk := hide hb1
 clear hb1
 by_cases h1 : op = 1
 ·subst h1
  rw [show lfZ f d 1 k = ((k, k), true) from rfl]
  go_enter Tryz.func29, Tryz.ntmps29
  go_wp2
  exact bodyPost_ret (v := .tuple #[.agg #[.int .i64 k, .int .i64 k], .bool true]) (by simp [results, Tryz.results29, go_sem]) rfl ⟨rfl, bel HBk.out (bel1 _ _)⟩
 by_cases h2 : op = 2
 ·subst h2
  rw [show lfZ f d 2 k = ((Knd.inZ f d k).getD (0, 0), (Knd.inZ f d k).isSome) from rfl]
  have HI := hide fun w => Knd.rinput_any f d k w
  unfold Knd.inV at HI
  obtain ⟨⟨lo, hi⟩, hp⟩ : ∃ p, (Knd.inZ f d k).getD (0, 0) = p := ⟨_, rfl⟩
  rw [hp] at HI ⊢
  generalize (Knd.inZ f d k).isSome = q at HI ⊢
  clear hp h1
  go_enter Tryz.func29, Tryz.ntmps29
  go_wp2_with fail
  refine (HI.out _).mono ?_
  rintro e V1 ⟨rfl, hb⟩
  have HB1 := hide (bel HB0.out hb)
  obtain ⟨r0, r1, hB⟩ := put_two (HR0.out.below hb) HB1.out (by omega) lo hi
  obtain ⟨c0, c1, c2, c3⟩ := two_of (HR0.out.below hb)
  have HR1 := hide r0
  have HR2 := hide r1
  clear hb r0 r1
  go_wp2_with fail
  have r0 := HR1.out
  have r1 := HR2.out
  exact bodyPost_ret (v := .tuple #[.agg #[.int .i64 lo, .int .i64 hi], .bool q]) (by simp only [results, Tryz.results29]; simp [go_sem, r0, r1]) rfl ⟨rfl, hB⟩
 by_cases h3 : op = 3
 ·subst h3
  rw [show lfZ f d 3 k = ((Knd.lowZ f d, Knd.highZ f d), true) from rfl]
  have HLo := hide fun w => Knd.rlow_any f d w
  have HHi := hide fun w => Knd.rhigh_any f d w
  generalize Knd.lowZ f d = lo at *
  generalize Knd.highZ f d = hi at *
  have x0 := HK0.out.cell 0 rfl
  have y0 := HK0.out.cell 1 rfl
  clear h1 h2
  go_enter Tryz.func29, Tryz.ntmps29
  go_wp2_with fail
  obtain ⟨W0, hW0⟩ : ∃ W0, ((W.alloc (.cells (kdA f d) 23)).alloc (.cells #[.int .i64 0, .int .i64 0] 43)) = W0 := ⟨_, rfl⟩
  rw [hW0] at HR0 HK0 HB0 x0 y0 ⊢
  clear hW0
  have HRd : Hid (HasC W0.drew (W.heap.size + 1) 43 #[.int .i64 0, .int .i64 0]) := HR0.out
  have HKd : Hid (HasC W0.drew W.heap.size 23 (kdA f d)) := HK0.out
  have HBd := hide HB0.out.drew
  go_region_held3 (fun w' => w'.cell? ⟨W.heap.size, 0, none⟩ = some (.int .i64 f) ∧ w'.cell? ⟨W.heap.size, 1, none⟩ = some (.int .i64 d))
   (first | exact ⟨x0, y0⟩ | exact ⟨x3, y3⟩ | exact ⟨x4, y4⟩ | exact ⟨(oth2 HK4.out (by omega) _ _).cell 0 rfl, (oth2 HK4.out (by omega) _ _).cell 1 rfl⟩ | go_keep)
   ((first
    | (go_at_call 46; refine (HLo.out _).mono ?_; rintro e w3 ⟨rfl, hb3⟩; have HR3 := hide (HRd.out.below hb3); have HK3 := hide (HKd.out.below hb3); have HB3 := hide (bel HBd.out hb3); clear hb3; obtain ⟨x3, y3, -, -⟩ := two_of HK3.out)
    | (go_at_call 47; refine (HHi.out _).mono ?_; rintro e w4 ⟨rfl, hb4⟩; have HR4 := hide (HR3.out.below hb4); have HK4 := hide (HK3.out.below hb4); have HB4 := hide (bel HB3.out hb4); clear hb4; obtain ⟨x4, y4, -, -⟩ := two_of HK4.out; obtain ⟨g0, g1, g2, g3⟩ := two_of HR4.out)))
  all_goals
   obtain ⟨r0, r1, hB⟩ := put_two HR4.out HB4.out (by omega) lo hi
   go_wp2
   exact bodyPost_ret (v := .tuple #[.agg #[.int .i64 lo, .int .i64 hi], .bool true]) (by simp [results, Tryz.results29, go_sem, r0, r1]) rfl ⟨rfl, hB⟩
 have e1 : (op == 1) = false := by simpa using h1
 have e2 : (op == 2) = false := by simpa using h2
 have e3 : (op == 3) = false := by simpa using h3
 rw [show lfZ f d op k = ((0, 0), false) by unfold lfZ; rw [if_neg h1, if_neg h2, if_neg h3]]
 clear h1 h2 h3
 go_enter Tryz.func29, Tryz.ntmps29
 go_wp2
 exact bodyPost_ret (v := .tuple #[.agg #[.int .i64 0, .int .i64 0], .bool false]) (by simp [results, Tryz.results29, go_sem]) rfl ⟨rfl, bel HBk.out (bel1 _ _)⟩

set_option maxRecDepth 100000 in
set_option maxHeartbeats 4000000 in
theorem jsame_any {W : World} {a b : Option Addr} {n c1 c2 : Nat} {S : Sps} (co mx : Int) (hA : Spn.Spans W a n c1 S) (hB : Spn.Spans W b n c2 S) (hn : n ≤ 1024) :
  Calls Tryz.prog 12 #[.agg #[.slice a n c1, .int .i64 co, .int .i64 mx], .agg #[.slice b n c2, .int .i64 co, .int .i64 mx]] W fun e W' => e = .returned (.bool true) ∧ Below W.heap.size W W' := by
 have hb1 := bel1 W (.cells #[.slice a n c1, .int .i64 co, .int .i64 mx] 32)
 have hb2 := bel hb1 (bel1 (W.alloc (.cells #[.slice a n c1, .int .i64 co, .int .i64 mx] 32)) (.cells #[.slice b n c2, .int .i64 co, .int .i64 mx] 32))
 have HB0 := hide hb2
 have HA := hide (hA.later hb2)
 have HB := hide (hB.later hb2)
 have H1 := hide ((HasC.new W 32 #[.slice a n c1, .int .i64 co, .int .i64 mx]).alloc (.cells #[.slice b n c2, .int .i64 co, .int .i64 mx] 32))
 have H2 : Hid (HasC ((W.alloc (.cells #[.slice a n c1, .int .i64 co, .int .i64 mx] 32)).alloc (.cells #[.slice b n c2, .int .i64 co, .int .i64 mx] 32)) (W.heap.size + 1) 32 #[.slice b n c2, .int .i64 co, .int .i64 mx]) := by
  have := HasC.new (W.alloc (.cells #[.slice a n c1, .int .i64 co, .int .i64 mx] 32)) 32 #[.slice b n c2, .int .i64 co, .int .i64 mx]
  simp only [World.size_alloc] at this
  exact hide this
 have hcc : (co != co) = false := by simp
 have hmm : (mx != mx) = false := by simp
 clear hA hB hb1 hb2
 go_enter Tryz.func12, Tryz.ntmps12
 go_wp2_with fail
 obtain ⟨W0, hW0⟩ : ∃ W0, ((W.alloc (.cells #[.slice a n c1, .int .i64 co, .int .i64 mx] 32)).alloc (.cells #[.slice b n c2, .int .i64 co, .int .i64 mx] 32)) = W0 := ⟨_, rfl⟩
 rw [hW0] at HB0 HA HB H1 H2 ⊢
 clear hW0
 go_loopw [5] (fun iv wr => ∃ k : Nat, k ≤ n ∧ iv = .int .i64 k ∧ Hid (Below W0.heap.size W0 wr)) (fun iv _ => n - (intOf iv).toNat)
 case atStart => exact ⟨0, Nat.zero_le _, rfl, hide (Below.refl _ _)⟩
 case round =>
  obtain ⟨k, hk, rfl, HBw⟩ := hrel
  rename World => V
  have r1 := (H1.out.below HBw.out).cell 0 rfl
  have r2 := (H2.out.below HBw.out).cell 0 rfl
  by_cases hlt : k < n
  ·obtain ⟨b1, o1, rfl, -, h1⟩ := (HA.out.later HBw.out).at (by omega)
   obtain ⟨b2, o2, rfl, -, h2⟩ := (HB.out.later HBw.out).at (by omega)
   obtain ⟨d0, d1⟩ := h1 k hlt
   obtain ⟨d2, d3⟩ := h2 k hlt
   generalize S.getD k (0, 0) = p at *
   obtain ⟨lo, hi⟩ := p
   simp only at d0 d1 d2 d3
   have i0 : (0 : Int) ≤ k := by omega
   have i1 : (k : Int) < n := by omega
   clear h1 h2
   go_wp2_with fail
   go_quiet (fail)
   go_wp2_with fail
   go_roundw
   case rel => exact ⟨k + 1, by omega, by go_num, hide (bel HBw.out (below_drewN _ _))⟩
   case measure => simp [intOf]; omega
  ·obtain rfl : k = n := by omega
   go_wp2_with fail
   go_ret
   exact ⟨rfl, bel HB0.out HBw.out⟩

end Go.Proofs.YtbgmljmpmemfcaaGreat

/-
 The document's own Check: what it keeps in memory, round by round.
-/
namespace Go.Proofs.YtbgmljmpmemfcaaGreat
open Go.RowKit Go.IntWalk Lx Pz
set_option linter.unusedVariables false

theorem gset (W : World) (p : Addr) (u : Value) : W.grownBy (W.setCell p u) (some p.block) :=
 ⟨rfl, rfl, rfl, by simp, fun k hk hne => Below.heap_setCell W p u k (fun e => hne (by rw [e]))⟩
theorem own_ne' {W : World} {base b : Nat} {e t : TypeId} {size n : Nat} {v : Value} {xs : List Value} {cs : Array Value} (h : W.ownsRow base e size v n xs) (hb : HasC W b t cs) (ht : t ≠ e) : v.ownBlock ≠ some b := by
 intro hv
 obtain ⟨-, cs', fr, hc⟩ := owns_block h b hv
 have h2 := hb.symm.trans hc
 simp only [Option.some.injEq, Obj.cells.injEq] at h2
 exact ht h2.2.1

/-- What the document's Check keeps: the boxes of the kind, the tree, the answer, the report; the depths; the spans. -/
structure Rs (W : World) (f d : Int) (tv : Array Value) (q : Nat) (v : Value) (S : Sps) (co mx : Int) (D : List Int) (V : World) : Prop where
 bel : Below W.heap.size W V
 K : HasC V W.heap.size 23 (kdA f d)
 T : HasC V (W.heap.size + 1) 28 tv
 R : HasC V (W.heap.size + 1 + 1) 32 rep0
 O : HasC V q 32 #[v, .int .i64 co, .int .i64 mx]
 G : HasC V (q + 1) 3 (inA D)
 S : V.ownsRow W.heap.size 43 2 v S.length (Spn.sp64 S)
 hq : W.heap.size + 1 + 1 < q

section
variable {W V V' : World} {f d co mx : Int} {tv : Array Value} {q : Nat} {v : Value} {S : Sps} {D : List Int}
theorem Rs.later (h : Rs W f d tv q v S co mx D V) (hb : Below V.heap.size V V') : Rs W f d tv q v S co mx D V' :=
 ⟨h.bel.trans (hb.mono h.bel.size), h.K.below hb, h.T.below hb, h.R.below hb, h.O.below hb, h.G.below hb, h.S.kept (⟨hb.os, hb.tape, hb.output, hb.size, fun k hk _ => hb.block k hk⟩ : V.grownBy V' none) (by cases hv : v.ownBlock with | none => exact .inl rfl | some q => exact .inr (by simp)), h.hq⟩
/-- Something is made or written behind all that is kept. -/
theorem Rs.kept {row : Option Nat} {B : Nat} (h : Rs W f d tv q v S co mx D V) (hB : q + 1 < B) (hv : ∀ b, v.ownBlock = some b → b < B) (hg : V.grownBy V' row) (hr : ∀ r, row = some r → B ≤ r) : Rs W f d tv q v S co mx D V' := by
 have hne : ∀ b, b < B → some b ≠ row := fun b hb e => by have := hr b e.symm; omega
 have := h.hq
 refine ⟨h.bel.grown hg h.bel.size (fun k hk => by have := hr k hk; omega), h.K.kept hg (hne _ (by omega)), h.T.kept hg (hne _ (by omega)), h.R.kept hg (hne _ (by omega)), h.O.kept hg (hne _ (by omega)), h.G.kept hg (hne _ (by omega)), h.S.kept hg ?_, h.hq⟩
 cases hvb : v.ownBlock with
 | none => exact .inl rfl
 | some b => exact .inr (hne b (hv b hvb))
theorem Rs.vlt (h : Rs W f d tv q v S co mx D V) : ∀ b, v.ownBlock = some b → b < V.heap.size := fun b hb => (h.S.lt b hb).2
/-- A depth is written. -/
theorem Rs.deep {A Z : List Int} {z : Int} (h : Rs W f d tv q v S co mx (A ++ z :: Z) V) {k : Nat} (hk : A.length = k) (x : Int) : Rs W f d tv q v S co mx (A ++ x :: Z) (V.setCell ⟨q + 1, k, none⟩ (.int .i64 x)) := by
 have hq := h.hq
 have hg := gset V ⟨q + 1, k, none⟩ (.int .i64 x)
 refine ⟨h.bel.setCell (p := ⟨q + 1, k, none⟩) (by show W.heap.size ≤ q + 1; omega) _, h.K.other (p := ⟨q + 1, k, none⟩) (by show W.heap.size ≠ q + 1; omega) _, h.T.other (p := ⟨q + 1, k, none⟩) (by show W.heap.size + 1 ≠ q + 1; omega) _, h.R.other (p := ⟨q + 1, k, none⟩) (by show W.heap.size + 1 + 1 ≠ q + 1; omega) _, h.O.other (p := ⟨q + 1, k, none⟩) (by show q ≠ q + 1; omega) _, put_in h.G hk x, h.S.kept hg (.inr (own_ne' h.S h.G (by decide))), h.hq⟩
/-- A field of the report is written. -/
theorem Rs.cost (h : Rs W f d tv q v S co mx D V) (x : Int) : Rs W f d tv q v S x mx D (V.setCell ⟨q, 1, none⟩ (.int .i64 x)) := by
 have hq := h.hq
 have hg := gset V ⟨q, 1, none⟩ (.int .i64 x)
 exact ⟨h.bel.setCell (p := ⟨q, 1, none⟩) (by show W.heap.size ≤ q; omega) _, h.K.other (p := ⟨q, 1, none⟩) (by show W.heap.size ≠ q; omega) _, h.T.other (p := ⟨q, 1, none⟩) (by show W.heap.size + 1 ≠ q; omega) _, h.R.other (p := ⟨q, 1, none⟩) (by show W.heap.size + 1 + 1 ≠ q; omega) _, h.O.set 1 _, h.G.other (p := ⟨q, 1, none⟩) (by show q + 1 ≠ q; omega) _, h.S.kept hg (.inr (own_ne' h.S h.O (by decide))), h.hq⟩
theorem Rs.depth (h : Rs W f d tv q v S co mx D V) (x : Int) : Rs W f d tv q v S co x D (V.setCell ⟨q, 2, none⟩ (.int .i64 x)) := by
 have hq := h.hq
 have hg := gset V ⟨q, 2, none⟩ (.int .i64 x)
 exact ⟨h.bel.setCell (p := ⟨q, 2, none⟩) (by show W.heap.size ≤ q; omega) _, h.K.other (p := ⟨q, 2, none⟩) (by show W.heap.size ≠ q; omega) _, h.T.other (p := ⟨q, 2, none⟩) (by show W.heap.size + 1 ≠ q; omega) _, h.R.other (p := ⟨q, 2, none⟩) (by show W.heap.size + 1 + 1 ≠ q; omega) _, h.O.set 2 _, h.G.other (p := ⟨q, 2, none⟩) (by show q + 1 ≠ q; omega) _, h.S.kept hg (.inr (own_ne' h.S h.O (by decide))), h.hq⟩
/-- The spans, one more: the row grows, its new value is written to the report. -/
theorem Rs.grow (h : Rs W f d tv q v S co mx D V) {g cap : Nat} {x y : Int} (hown : V'.ownsRow W.heap.size 43 2 (.slice (some ⟨g, 0, none⟩) (S.length + 1) cap) (S.length + 1) (Spn.sp64 S ++ [.int .i64 x, .int .i64 y])) (hg : V.grownBy V' v.ownBlock) :
  Rs W f d tv q (.slice (some ⟨g, 0, none⟩) (S.length + 1) cap) (S ++ [(x, y)]) co mx D (V'.setCell ⟨q, 0, none⟩ (.slice (some ⟨g, 0, none⟩) (S.length + 1) cap)) := by
 have hq := h.hq
 have K := h.K.kept hg (fun e => own_ne' h.S h.K (by decide) e.symm)
 have T := h.T.kept hg (fun e => own_ne' h.S h.T (by decide) e.symm)
 have R := h.R.kept hg (fun e => own_ne' h.S h.R (by decide) e.symm)
 have O := h.O.kept hg (fun e => own_ne' h.S h.O (by decide) e.symm)
 have G := h.G.kept hg (fun e => own_ne' h.S h.G (by decide) e.symm)
 have hB := h.bel.grown hg h.bel.size (fun k hk => (h.S.lt k hk).1)
 refine ⟨hB.setCell (p := ⟨q, 0, none⟩) (by show W.heap.size ≤ q; omega) _, K.other (p := ⟨q, 0, none⟩) (by show W.heap.size ≠ q; omega) _, T.other (p := ⟨q, 0, none⟩) (by show W.heap.size + 1 ≠ q; omega) _, R.other (p := ⟨q, 0, none⟩) (by show W.heap.size + 1 + 1 ≠ q; omega) _, O.set 0 _, G.other (p := ⟨q, 0, none⟩) (by show q + 1 ≠ q; omega) _, ?_, h.hq⟩
 rw [Spn.sp64_snoc, List.length_append]
 exact hown.kept (gset V' ⟨q, 0, none⟩ _) (.inr (own_ne' hown O (by decide)))
end

theorem lf_leaf {f d : Int} {BS : List Int} {S : Sps} {i : Nat} {n : Nd} (hm : Knd.May f d) (hn : Wn BS i n) (h : n.op = 1 ∨ n.op = 2 ∨ n.op = 3) : (lfZ f d n.op n.k).2 = true ∧ spN f d BS S n = ((lfZ f d n.op n.k).1, 0) ∧ ∀ D, dpN BS D n = 1 := by
 have h4 : n.op ≠ 4 := by omega
 have hp : prts n = [] := by
  unfold prts
  rcases h with h | h | h <;> (rw [h]; rfl)
 refine ⟨?_, ?_, fun D => by unfold dpN; rw [if_neg h4, hp]; rfl⟩
 ·unfold lfZ
  by_cases h1 : n.op = 1
  ·rw [if_pos h1]
  rw [if_neg h1]
  by_cases h2 : n.op = 2
  ·rw [if_pos h2]
   have hk := hn.inp h2
   show (Knd.inZ f d n.k).isSome = true
   unfold Knd.inZ
   rw [if_neg (by simpa using hm)]
   repeat' split
   all_goals first | rfl | (exfalso; omega)
  ·rw [if_neg h2, if_pos (by omega)]
 ·unfold spN lfZ
  rw [if_neg h4]
  by_cases h1 : n.op = 1
  ·rw [if_pos h1, if_pos h1]
  rw [if_neg h1, if_neg h1]
  by_cases h2 : n.op = 2
  ·rw [if_pos h2, if_pos h2]
  ·rw [if_neg h2, if_neg h2, if_pos (by omega), if_pos (by omega)]
theorem lf_in (f d : Int) {n : Nd} (h : n.op = 4 ∨ 5 ≤ n.op) : lfZ f d n.op n.k = ((0, 0), false) := by
 unfold lfZ; rw [if_neg (by omega), if_neg (by omega), if_neg (by omega)]

end Go.Proofs.YtbgmljmpmemfcaaGreat

/-
 The document's own Check: appends of a span.
-/
namespace Go.Proofs.YtbgmljmpmemfcaaGreat
open Go.RowKit Go.IntWalk Lx Pz
set_option linter.unusedVariables false

/-- An append of one span, at a step of a plain region: the row, and what else is kept. -/
theorem app_list {V : World} {base : Nat} {v : Value} {n : Nat} {L : Sps} {ops : Array Oper} {rest : List Oper} {o : Oper} {a : Act} {Q : Exit → Act → World → Prop}
  (hgd : o.guard = none) (s x : Operand) (ho : o.op = .call { callee := .builtin .append, args := #[s, x], argTypes := #[30, 30] })
  (hs : a.eval s = v) (hen : V.ownsRow base 43 2 v n (Spn.sp64 L)) (hbase : base ≤ V.heap.size) (b : Nat) (p q : Int) (hx : a.eval x = .slice (some ⟨b, 0, none⟩) 1 1) (hc : HasC V b 43 #[.int .i64 p, .int .i64 q]) (h3 : n ≤ 8796093022001)
  (h : ∀ g cap w', w'.ownsRow base 43 2 (.slice (some ⟨g, 0, none⟩) (n + 1) cap) (n + 1) (Spn.sp64 L ++ [.int .i64 p, .int .i64 q]) → V.grownBy w' v.ownBlock → wpList Tryz.prog ops Q rest (a.put o.dst (.slice (some ⟨g, 0, none⟩) (n + 1) cap)) w') :
  wpList Tryz.prog ops Q (o :: rest) a V := by
 obtain ⟨i0, hi0, hz0, hz1, hz2⟩ := Spn.info_parts Spn.info26
 refine wpList_append_lies V hgd s x 30 ho base 43 i0 _ 2 16 Tryz.underlying30 hi0 hz0 hz1 hz2 rfl (by omega) v n (Spn.sp64 L) hs hen ⟨b, 0, none⟩ 1 1 [.int .i64 p, .int .i64 q] hx rfl (Spn.news_two hc) (by simp [Value.oneCell']) (by omega) (by unfold maxLen; omega) (by omega) hbase V.heap.size rfl ?_
 intro g cap w' hown hgrow hat hlt
 exact h g cap w' hown hgrow
/-- .. at a step of a region that draws. -/
theorem app_step {V : World} {base : Nat} {v : Value} {n : Nat} {L : Sps} {ops : Array Oper} {o : Oper} {a : Act} {K : Act → World → Prop} {Q : Exit → Act → World → Prop} {E : Prop}
  (hgd : o.guard = none) (s x : Operand) (ho : o.op = .call { callee := .builtin .append, args := #[s, x], argTypes := #[30, 30] })
  (hs : a.eval s = v) (hen : V.ownsRow base 43 2 v n (Spn.sp64 L)) (hbase : base ≤ V.heap.size) (b : Nat) (p q : Int) (hx : a.eval x = .slice (some ⟨b, 0, none⟩) 1 1) (hc : HasC V b 43 #[.int .i64 p, .int .i64 q]) (h3 : n ≤ 8796093022001)
  (h : ∀ g cap w', w'.ownsRow base 43 2 (.slice (some ⟨g, 0, none⟩) (n + 1) cap) (n + 1) (Spn.sp64 L ++ [.int .i64 p, .int .i64 q]) → V.grownBy w' v.ownBlock → K (a.put o.dst (.slice (some ⟨g, 0, none⟩) (n + 1) cap)) w') :
  if Region.wanted o (yielded ops a.tmps) = true then Oper.wp Tryz.prog o a V K Q else E := by
 obtain ⟨i0, hi0, hz0, hz1, hz2⟩ := Spn.info_parts Spn.info26
 refine step_append_lies V hgd s x 30 ho base 43 i0 _ 2 16 Tryz.underlying30 hi0 hz0 hz1 hz2 rfl (by omega) v n (Spn.sp64 L) hs hen ⟨b, 0, none⟩ 1 1 [.int .i64 p, .int .i64 q] hx rfl (Spn.news_two hc) (by simp [Value.oneCell']) (by omega) (by unfold maxLen; omega) (by omega) hbase V.heap.size rfl ?_
 intro g cap w' hown hgrow hat hlt
 exact h g cap w' hown hgrow

theorem own_put3 {V : World} {base b : Nat} {e t : TypeId} {size n : Nat} {v : Value} {xs : List Value} {cs : Array Value} (h : V.ownsRow base e size v n xs) (hb : HasC V b t cs) (ht : t ≠ e) (x y z : Value) : (((V.setCell ⟨b, 0, none⟩ x).setCell ⟨b, 1, none⟩ y).setCell ⟨b, 2, none⟩ z).ownsRow base e size v n xs := by
 have hn := own_ne' h hb ht
 exact ((h.kept (gset V ⟨b, 0, none⟩ x) (.inr hn)).kept (gset _ ⟨b, 1, none⟩ y) (.inr hn)).kept (gset _ ⟨b, 2, none⟩ z) (.inr hn)
theorem jcost_bel (o : Int) (W : World) : Calls Tryz.prog 15 #[.int .i64 o] W fun e W' => e = .returned (.int .i64 (coZ o)) ∧ Below W.heap.size W W' :=
 (jcost_any o W).mono fun e W' ⟨a, b⟩ => ⟨a, b ▸ Below.refl _ _⟩
theorem mx_snoc {D : List Int} {mx x : Int} (h : mxR D = mx) : mxR (D ++ [x]) = max mx x := by rw [← h]; unfold mxR; rw [List.foldl_append]; rfl

/-- What the document's Check answers. -/
def JkP (w : World) (f d : Int) (NM : List Txt) (BS : List Int) (NS : List Nd) (root : Int) (e : Ending) (W' : World) : Prop :=
 (ckE f d NM BS NS root ≠ 0 ∧ e = .returned (.tuple #[.agg rep0, .int .i64 (ckE f d NM BS NS root)]) ∧ Below w.heap.size w W') ∨
 (ckE f d NM BS NS root = 0 ∧ ∃ a cap, e = .returned (.tuple #[.agg #[.slice a NS.length cap, .int .i64 (coR NS), .int .i64 (mxR (dpR BS NS []))], .int .i64 0]) ∧ Spn.Spans W' a NS.length cap (spR f d BS NS []).1 ∧ Below w.heap.size w W' ∧ ∀ b off, a = some ⟨b, off, none⟩ → w.heap.size ≤ b)

end Go.Proofs.YtbgmljmpmemfcaaGreat

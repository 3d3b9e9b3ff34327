/-
  The walk of KindFits.
-/
import Derived.Test.YtinlknflkgijmaaRFits
import Derived.Test.YtinlknflkgijmaaRoomy
import Derived.Test.YtinlknflkgijmaaAwake
namespace Go.Proofs.Ytinlknflkgijmaa
open Go.RowKit
set_option linter.unusedVariables false

theorem fitE_iff (f d x y c : Int) (zs : List Int) : (Fit f d x y c zs ∧ fitE f d x y c zs = 0) ∨ (¬ Fit f d x y c zs ∧ fitE f d x y c zs = 1) := by
  unfold fitE
  by_cases h : Fit f d x y c zs
  · exact .inl ⟨h, if_pos h⟩
  · exact .inr ⟨h, if_neg h⟩

theorem grownBy_setCell3 (W : World) (b o : Nat) (v : Value) : W.grownBy (W.setCell ⟨b, o, none⟩ v) (some b) :=
  ⟨rfl, rfl, rfl, by simp [World.setCell], fun k _ hk => Below.heap_setCell _ _ _ k (fun e => hk (by rw [e]))⟩

theorem below_drewN {B : Nat} {a w : World} (h : Below B a w) (q : Nat) : Below B a (w.drewN q) := ⟨h.os, h.tape, h.output, h.size, h.block⟩

theorem room_ints {w : World} {base g n cap : Nat} {xs : List Int} (h : w.ownsRow base 3 1 (.slice (some ⟨g, 0, none⟩) n cap) n (i64s xs)) : Ints w (some ⟨g, 0, none⟩) n cap xs := by
  obtain ⟨a, c, hv, hI, _⟩ := Ints.of_owns h
  simp only [Value.slice.injEq] at hv
  obtain ⟨rfl, _, rfl⟩ := hv
  exact hI

set_option maxRecDepth 100000 in
set_option maxHeartbeats 4000000 in
theorem fits_walk (f d x y c : Int) (a : Option Addr) (n cap : Nat) (zs : List Int) (w : World) (hZ : Ints w a n cap zs) (hn : n ≤ 17592186044000) :
    Calls Try.prog 6 #[.agg #[.int .i64 f, .int .i64 d], .agg #[.int .i64 x, .int .i64 y, .int .i64 c, .slice a n cap]] w fun e w' => e = .returned (.bool true) ∧ Below w.heap.size w w' := by
  have HZ1 := hide hZ
  clear hZ
  have HB1 := hide (((bel1 w (.cells #[.int .i64 f, .int .i64 d] 23)).alloc (by simp) (.cells #[.int .i64 x, .int .i64 y, .int .i64 c, .slice a n cap] 43)).alloc (by simp; omega) (.cells #[.int .i64 x, .int .i64 y, .int .i64 c, .slice a n cap] 43))
  have HK1 := hide (((HasC.new w 23 #[.int .i64 f, .int .i64 d]).alloc (.cells #[.int .i64 x, .int .i64 y, .int .i64 c, .slice a n cap] 43)).alloc (.cells #[.int .i64 x, .int .i64 y, .int .i64 c, .slice a n cap] 43))
  have hP := (HasC.new (w.alloc (.cells #[.int .i64 f, .int .i64 d] 23)) 43 #[.int .i64 x, .int .i64 y, .int .i64 c, .slice a n cap]).alloc (.cells #[.int .i64 x, .int .i64 y, .int .i64 c, .slice a n cap] 43)
  have hI := HasC.new ((w.alloc (.cells #[.int .i64 f, .int .i64 d] 23)).alloc (.cells #[.int .i64 x, .int .i64 y, .int .i64 c, .slice a n cap] 43)) 43 #[.int .i64 x, .int .i64 y, .int .i64 c, .slice a n cap]
  simp only [World.size_alloc] at hP hI
  have HP1 := hide hP
  have HI1 := hide hI
  clear hP hI
  go_enter Try.func6, Try.ntmps6
  go_wp2_with fail
  obtain ⟨w1, hw1⟩ : ∃ w1, ((w.alloc (.cells #[.int .i64 f, .int .i64 d] 23)).alloc (.cells #[.int .i64 x, .int .i64 y, .int .i64 c, .slice a n cap] 43)).alloc (.cells #[.int .i64 x, .int .i64 y, .int .i64 c, .slice a n cap] 43) = w1 := ⟨_, rfl⟩
  rw [hw1] at HB1 HK1 HP1 HI1 ⊢
  clear hw1
  refine (roomy_any a n cap zs w1 (HZ1.out.later HB1.out) hn).mono ?_
  rintro e w2 ⟨rfl, hO2, hb2⟩
  obtain ⟨G, hG⟩ : ∃ G, w1.heap.size = G := ⟨_, rfl⟩
  have hGI := HI1.out.lt
  have hbG := hb2
  rw [hG] at hO2 hGI ⊢
  have HO2 := hide hO2
  have HK2 := hide (HK1.out.below hb2)
  have HP2 := hide (HP1.out.below hb2)
  have HI2 := hide (HI1.out.below hb2)
  have HB2 := hide (bel HB1.out hb2)
  clear hO2 hb2 hbG hG HK1 HP1 HI1 HB1
  have i3 : w2.cell? ⟨w.heap.size + 1 + 1, 3, none⟩ = some (.slice a n cap) := HI2.out.cell 3 rfl
  have i3f := HI2.out.frozen 3
  have HK3 := hide (HK2.out.other (p := ⟨w.heap.size + 1 + 1, 3, none⟩) (by simp; omega) (.slice (some ⟨G, 0, none⟩) n (n + 40)))
  have HP3 := hide (HP2.out.other (p := ⟨w.heap.size + 1 + 1, 3, none⟩) (by simp) (.slice (some ⟨G, 0, none⟩) n (n + 40)))
  have hI3 : HasC (w2.setCell ⟨w.heap.size + 1 + 1, 3, none⟩ (.slice (some ⟨G, 0, none⟩) n (n + 40))) (w.heap.size + 1 + 1) 43 #[.int .i64 x, .int .i64 y, .int .i64 c, .slice (some ⟨G, 0, none⟩) n (n + 40)] := HI2.out.set 3 (.slice (some ⟨G, 0, none⟩) n (n + 40))
  have HI3 := hide hI3
  have HB3 := hide (HB2.out.setCell (p := ⟨w.heap.size + 1 + 1, 3, none⟩) (by simp; omega) (.slice (some ⟨G, 0, none⟩) n (n + 40)))
  have HO3 := hide (HO2.out.kept (grownBy_setCell3 w2 (w.heap.size + 1 + 1) 3 (.slice (some ⟨G, 0, none⟩) n (n + 40))) (.inr (by simp [Value.ownBlock]; omega)))
  clear hI3 HK2 HP2 HI2 HO2
  obtain ⟨x3, y3, -, -⟩ := facts2 HK3.out
  obtain ⟨p3, q3, r3, t3⟩ := factsW HI3.out
  go_wp2_with fail
  have HR3 := hide (room_ints HO3.out)
  have hRt : Ints (w2.setCell ⟨w.heap.size + 1 + 1, 3, none⟩ (.slice (some ⟨G, 0, none⟩) n (n + 40))) (some ⟨G, 0, none⟩) n (n + 40) zs := by
    have h := HR3.out.take (k := n) (by omega)
    have hl := HZ1.out.len
    rw [← hl, List.take_left] at h
    rw [← hl]; exact h
  refine (fits_any f d x y c (some ⟨G, 0, none⟩) n (n + 40) zs _ hRt).mono ?_
  rintro e w4 ⟨rfl, hb4⟩
  have HK4 := hide (HK3.out.below hb4)
  have HP4 := hide (HP3.out.below hb4)
  have HI4 := hide (HI3.out.below hb4)
  have HB4 := hide (bel HB3.out hb4)
  have HR4 := hide (HR3.out.later hb4)
  clear hb4 hRt i3 i3f x3 y3 p3 q3 r3 t3 HK3 HP3 HI3 HB3 HO3 HR3 HB2
  obtain ⟨E, hE⟩ : ∃ E, fitE f d x y c zs = E := ⟨_, rfl⟩
  have HE := hide hE
  rw [hE]
  clear hE
  go_wp2_with fail
  refine (awake_any _).mono ?_
  rintro e w5 ⟨rfl, hb5⟩
  have HK5 := hide (HK4.out.below hb5)
  have HP5 := hide (HP4.out.below hb5)
  have HI5 := hide (HI4.out.below hb5)
  have HB5 := hide (bel HB4.out hb5)
  have HR5 := hide (HR4.out.later hb5)
  clear hb5 HK4 HP4 HI4 HB4 HR4
  obtain ⟨x5, y5, -, -⟩ := facts2 HK5.out
  obtain ⟨p5, q5, r5, t5⟩ := factsW HP5.out
  have hE01 : E = 0 ∨ E = 1 := by rcases fitE_iff f d x y c zs with ⟨_, h⟩ | ⟨_, h⟩ <;> rw [HE.out] at h <;> omega
  rcases hE01 with rfl | rfl
  all_goals
    go_wp2_with fail
    refine (rfits_any f d x y c a n cap zs _ (HZ1.out.later HB5.out)).mono ?_
    rintro e w6 ⟨⟨q, rfl, hq⟩, hb6⟩
  · have hq' : q = true := hq.2 (by rcases fitE_iff f d x y c zs with ⟨h, _⟩ | ⟨_, h⟩; exact h; rw [HE.out] at h; omega)
    subst hq'
    clear hq
    have HP6 := hide (HP5.out.below hb6)
    have HI6 := hide (HI5.out.below hb6)
    have HB6 := hide (bel HB5.out hb6)
    have HR6 := hide (HR5.out.later hb6)
    clear hb6 x5 y5 p5 q5 r5 t5
    obtain ⟨-, -, -, t6⟩ := factsW HP6.out
    obtain ⟨-, -, -, i6⟩ := factsW HI6.out
    go_wp2_with fail
    refine (held_any G 0 n (n + 40) a cap zs _ HR6.out (HZ1.out.later HB6.out)).mono ?_
    rintro e w7 ⟨rfl, q7, rfl⟩
    go_wp2
    go_ret
    exact ⟨rfl, below_drewN HB6.out q7⟩
  · have hq' : q = false := by
      cases q with
      | false => rfl
      | true => rcases fitE_iff f d x y c zs with ⟨_, h⟩ | ⟨h, _⟩; rw [HE.out] at h; omega; exact absurd (hq.1 rfl) h
    subst hq'
    clear hq
    have HP6 := hide (HP5.out.below hb6)
    have HI6 := hide (HI5.out.below hb6)
    have HB6 := hide (bel HB5.out hb6)
    have HR6 := hide (HR5.out.later hb6)
    clear hb6 x5 y5 p5 q5 r5 t5
    obtain ⟨-, -, -, t6⟩ := factsW HP6.out
    obtain ⟨-, -, -, i6⟩ := factsW HI6.out
    go_wp2_with fail
    refine (held_any G 0 n (n + 40) a cap zs _ HR6.out (HZ1.out.later HB6.out)).mono ?_
    rintro e w7 ⟨rfl, q7, rfl⟩
    go_wp2
    go_ret
    exact ⟨rfl, below_drewN HB6.out q7⟩

end Go.Proofs.Ytinlknflkgijmaa

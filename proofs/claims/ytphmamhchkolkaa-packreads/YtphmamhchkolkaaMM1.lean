/-
  pack's bytes: numbers, constants; lists of parts.
-/
import Derived.Test.YtphmamhchkolkaaMN3
import Derived.Test.YtphmamhchkolkaaMOcZ
import Derived.Test.YtphmamhchkolkaaMOcAppend
namespace Go.Proofs.Pck
open Ytphmamhchkolkaa
open Go.RowKit Go.IntWalk Ytphmamhchkolkaa.Knd
open Ytphmamhchkolkaa.Oct (vb vint lim scn scan pw rdU rdI zz uz)
open Ytphmamhchkolkaa.Ocm (Part joined u8s)
open Cde (In i0 ia cd is6 i6 Ins agL arN okI okT mcB ccE csB rgN rgs rgB abc zA six_of four_of at6 has_new1 below_drew)
set_option linter.unusedVariables false

/-- A list of bytes of the call's own. -/
def ByP (W : World) (zs : List Int) (en : Ending) (w' : World) : Prop := ∃ a c, en = .returned (.slice a zs.length c) ∧ w'.ownsRow W.heap.size 5 1 (.slice a zs.length c) zs.length (u8s zs) ∧ Below W.heap.size W w'
theorem ByP.of {W w' : World} {v : Value} {zs : List Int} (h : w'.ownsRow W.heap.size 5 1 v zs.length (u8s zs)) (hb : Below W.heap.size W w') : ByP W zs (.returned v) w' := by
  obtain ⟨a, c, rfl⟩ := own_slice h
  exact ⟨a, c, rfl, h, hb⟩
theorem ByP.nil {W w' : World} (hb : Below W.heap.size W w') : ByP W [] (.returned (.slice none 0 0)) w' := ByP.of ⟨rfl, .inl ⟨rfl, rfl⟩⟩ hb
theorem byt_own {W : World} {base n : Nat} {v : Value} {zs : List Int} (h : W.ownsRow base 5 1 v n (u8s zs)) (hz : Byts zs) : ∃ a c, v = .slice a n c ∧ Ocm.Bytes W a n c zs ∧ ∀ x, a = some x → base ≤ x.block ∧ x.block < W.heap.size := Ocm.Bytes.of_owns h hz
theorem join_by {W : World} {pa : Option Addr} {pn pc : Nat} {ps : List Part} (hp : Ocm.Parts W pa pn ps) (hm : pn ≤ maxLen) (hs : (joined ps).length ≤ 281474976710656) : Calls Try.prog 26 #[.slice pa pn pc] W (ByP W (joined ps)) :=
  (Ocm.join_any pa pn pc ps W hp hm hs).mono fun e w' ⟨h1, h2, h3⟩ => by subst h1; exact ByP.of h2 h3

set_option maxRecDepth 100000 in
set_option maxHeartbeats 1000000 in
theorem number_any (n : Int) (h0 : 0 ≤ n) (h1 : n ≤ 9223372036854775807) (W : World) : Calls Try.prog 23 #[.int .i64 n] W (ByP W (vint n)) := by
  have HU := hide (Ocm.uint_any n W h0 h1)
  go_enter Try.func23, Try.ntmps23
  go_wp2_with fail
  refine HU.out.mono ?_
  rintro en w1 ⟨v, rfl, hO, hb⟩
  have HO := hide hO
  have HB := hide hb
  clear hO hb
  go_wp2_with fail
  go_ret
  exact ByP.of HO.out HB.out
set_option maxRecDepth 100000 in
set_option maxHeartbeats 1000000 in
theorem natural_any (n : Int) (h0 : 0 ≤ n) (h1 : n ≤ 9223372036854775807) (W : World) : Calls Try.prog 28 #[.int .i64 n] W (ByP W (vint n)) := by
  have HU := hide (Ocm.refUint_any n W h0 h1)
  go_enter Try.func28, Try.ntmps28
  go_wp2_with fail
  refine HU.out.mono ?_
  rintro en w1 ⟨v, rfl, hO, hb⟩
  have HO := hide hO
  have HB := hide hb
  clear hO hb
  go_wp2_with fail
  go_ret
  exact ByP.of HO.out HB.out
theorem pint_any (n : Int) (h0 : -9223372036854775808 ≤ n) (h1 : n ≤ 9223372036854775807) (W : World) : Calls Try.prog 66 #[.int .i64 n] W (ByP W (vint (zz n))) :=
  (Ocm.int_any n W h0 h1).mono fun e w' ⟨v, h1, h2, h3⟩ => by subst h1; exact ByP.of h2 h3
theorem rint_any (n : Int) (h0 : -9223372036854775808 ≤ n) (h1 : n ≤ 9223372036854775807) (W : World) : Calls Try.prog 31 #[.int .i64 n] W (ByP W (vint (zz n))) :=
  (Ocm.refInt_any n W h0 h1).mono fun e w' ⟨v, h1, h2, h3⟩ => by subst h1; exact ByP.of h2 h3
set_option maxRecDepth 100000 in
set_option maxHeartbeats 1000000 in
theorem ahead_any (r i : Int) (h0 : 0 ≤ r) (h1 : 0 ≤ i - 1 - r) (h2 : i ≤ 1000) (W : World) : Calls Try.prog 25 #[.int .i64 r, .int .i64 i] W (ByP W (vint (i - 1 - r))) := by
  have HN := hide (number_any (i - 1 - r) h1 (by omega) W)
  go_enter Try.func25, Try.ntmps25
  go_wp2_with fail
  refine HN.out.mono ?_
  rintro en w1 ⟨a, c, rfl, hO, hb⟩
  have HO := hide hO
  have HB := hide hb
  clear hO hb
  go_wp2_with fail
  go_ret
  exact ⟨_, _, rfl, HO.out, HB.out⟩

/-- One byte in a box of its own. -/
theorem own_one {W : World} {g : Nat} {x : Int} (h : HasC W g 5 #[.int .u8 x]) (base : Nat) (hb : base ≤ g) : W.ownsRow base 5 1 (.slice (some ⟨g, 0, none⟩) 1 1) 1 (u8s [x]) :=
  ⟨rfl, .inr ⟨g, 1, #[.int .u8 x], rfl, hb, h, Nat.le_refl _, by decide, rfl, rfl⟩⟩
theorem two_parts {W : World} {p a1 n1 c1 a2 n2 c2} {z1 z2 : List Int} (hp : HasC W p 28 #[.slice a1 n1 c1, .slice a2 n2 c2]) (h1 : Ocm.Bytes W a1 n1 c1 z1) (h2 : Ocm.Bytes W a2 n2 c2 z2) : Ocm.Parts W (some ⟨p, 0, none⟩) 2 [⟨a1, n1, c1, z1⟩, ⟨a2, n2, c2, z2⟩] := by
  refine ⟨rfl, .inr ⟨p, 0, rfl, fun i hi => ?_⟩, fun q hq => ?_⟩
  · match i, hi with
    | 0, _ => exact hp.cell 0 rfl
    | 1, _ => exact hp.cell 1 rfl
  · simp at hq
    rcases hq with rfl | rfl
    · exact h1
    · exact h2
theorem two_join {W : World} {p a1 n1 c1 a2 n2 c2} {z1 z2 : List Int} (hp : HasC W p 28 #[.slice a1 n1 c1, .slice a2 n2 c2]) (h1 : Ocm.Bytes W a1 n1 c1 z1) (h2 : Ocm.Bytes W a2 n2 c2 z2) {Z : List Int} (hz : z1 ++ z2 = Z) (hs : z1.length + z2.length ≤ 281474976710656) : Calls Try.prog 26 #[.slice (some ⟨p, 0, none⟩) 2 2] W (ByP W Z) := by
  subst hz
  have := join_by (pc := 2) (two_parts hp h1 h2) (by decide) (by simpa [joined] using hs)
  simpa [joined] using this

theorem byte_of {x : Int} (h0 : 0 ≤ x) (h1 : x ≤ 255) : x % 256 = x := by omega
set_option maxRecDepth 100000 in
set_option maxHeartbeats 4000000 in
theorem constants_any {n : In} (h : csB n = true) (W : World) : Calls Try.prog 49 #[.agg (ia n)] W (ByP W (enK n)) := by
  have HN := hide (HasC.new W 51 (ia n))
  have HB := hide (bel1 W (.cells (ia n) 51))
  have hz : W.heap.size < W.heap.size + 1 := by omega
  rcases hw_cases h with ⟨e, a, b, c⟩ | ⟨e, a, b, c⟩ | ⟨e, a, b, c⟩ | ⟨e, a, b, c, d⟩ | ⟨e, a, b⟩
  · have HI := hide (pint_any n.k (by omega) (by omega) (W.alloc (.cells (ia n) 51)))
    rw [show enK n = vint (zz n.k) by simp [enK, e]]
    obtain ⟨o, q1, q2, q3, k, s⟩ := n
    dsimp only at *
    rcases hw_one e with rfl | rfl
    all_goals
      clear h e a b c
      go_enter Try.func49, Try.ntmps49
      go_wp2_with fail
      refine HI.out.mono ?_
      rintro en w1 ⟨x, c1, rfl, hO, hb⟩
      have HO := hide (Cde.own_mono hO HB.out.size)
      have HB1 := hide (bel HB.out hb)
      clear hO hb
      go_wp2_with fail
      go_ret
      exact ⟨_, _, rfl, HO.out, HB1.out⟩
  · rw [show enK n = [n.k] by simp [enK, e]]
    obtain ⟨o, q1, q2, q3, k, s⟩ := n
    dsimp only at *
    have hk := byte_of a b
    have HX := hide (has_new1 W (.cells (ia ⟨o, q1, q2, q3, k, s⟩) 51) 5 #[.int .u8 k])
    have HB1 := hide (bel HB.out (bel1 (W.alloc (.cells (ia ⟨o, q1, q2, q3, k, s⟩) 51)) (.cells #[.int .u8 k] 5)))
    rcases hw_two e with rfl | rfl | rfl | rfl
    all_goals
      clear h e a b c
      go_enter Try.func49, Try.ntmps49
      go_wp2_with fail
      go_ret
      exact ByP.of (own_one HX.out W.heap.size (by simp)) HB1.out
  · have HI := hide (number_any n.k (by omega) (by omega) (W.alloc (.cells (ia n) 51)))
    rw [show enK n = vint n.k by simp [enK, e]]
    obtain ⟨o, q1, q2, q3, k, s⟩ := n
    dsimp only at *
    obtain rfl := hw_thr e
    clear h e a b c
    go_enter Try.func49, Try.ntmps49
    go_wp2_with fail
    refine HI.out.mono ?_
    rintro en w1 ⟨x, c1, rfl, hO, hb⟩
    have HO := hide (Cde.own_mono hO HB.out.size)
    have HB1 := hide (bel HB.out hb)
    clear hO hb
    go_wp2_with fail
    go_ret
    exact ⟨_, _, rfl, HO.out, HB1.out⟩
  · have HI := hide (number_any n.k (by omega) (by omega))
    rw [show enK n = vint n.k ++ [n.s] by simp [enK, e]]
    obtain ⟨o, q1, q2, q3, k, s⟩ := n
    obtain ⟨Z, hZ⟩ : ∃ Z, vint k ++ [s] = Z := ⟨_, rfl⟩
    dsimp only
    rw [hZ]
    have HZZ := hide hZ
    clear hZ
    dsimp only at *
    obtain rfl := hw_fou e
    have hk : IntKind.u8.wrap s = s := by rw [IntKind.wrap_u8]; omega
    clear h e
    go_enter Try.func49, Try.ntmps49
    go_wp2_with fail
    obtain ⟨W1, hW1⟩ : ∃ W1, W.alloc (.cells (ia ⟨33, q1, q2, q3, k, s⟩) 51) = W1 := ⟨_, rfl⟩
    rw [hW1] at HN HB ⊢
    obtain ⟨nb, hnb⟩ : ∃ nb, W.heap.size = nb := ⟨_, rfl⟩
    have HS1 : Hid (HasC W1.drew W.heap.size 51 (ia ⟨33, q1, q2, q3, k, s⟩)) := hide (HN.out.below (below_drew W1))
    have HBd := hide (bel HB.out (below_drew W1))
    obtain ⟨W2, hW2⟩ : ∃ W2, W1.drew = W2 := ⟨_, rfl⟩
    refine wp_region_held_drew (S := fun w => HasC w W.heap.size 51 (ia ⟨33, q1, q2, q3, k, s⟩)) (by kernel_rfl) HS1.out (fun _ => ?_)
    rw [hW2] at HS1 HBd ⊢
    clear hW1 hW2 HN HB hz hnb
    refine wpAnyH_take (i := 0) (v := .pointer (some ⟨W.heap.size, 4, none⟩)) rfl (by kernel_rfl) (by kernel_rfl) (by kernel_rfl) (fun _ _ _ h => h) (Or.inl ⟨by rfl, fun w hS => by obtain ⟨e0, e1, e2, e3, e4, e5⟩ := six_of hS; go_simp⟩) HS1.out ?_
    refine wpAnyH_take (i := 1) (v := .int .i64 k) rfl (by kernel_rfl) (by kernel_rfl) (by kernel_rfl) (fun _ _ _ h => h) (Or.inl ⟨by rfl, fun w hS => by obtain ⟨e0, e1, e2, e3, e4, e5⟩ := six_of hS; go_simp⟩) HS1.out ?_
    refine wpAnyH_take (i := 3) (v := .pointer (some ⟨W.heap.size, 5, none⟩)) rfl (by kernel_rfl) (by kernel_rfl) (by kernel_rfl) (fun _ _ _ h => h) (Or.inl ⟨by rfl, fun w hS => by obtain ⟨e0, e1, e2, e3, e4, e5⟩ := six_of hS; go_simp⟩) HS1.out ?_
    refine wpAnyH_take (i := 4) (v := .int .i64 s) rfl (by kernel_rfl) (by kernel_rfl) (by kernel_rfl) (fun _ _ _ h => h) (Or.inl ⟨by rfl, fun w hS => by obtain ⟨e0, e1, e2, e3, e4, e5⟩ := six_of hS; go_simp⟩) HS1.out ?_
    refine wpAnyH_take (i := 5) (v := .int .u8 s) rfl (by kernel_rfl) (by kernel_rfl) (by kernel_rfl) (fun _ _ _ h => h) (Or.inl ⟨by rfl, fun w hS => by obtain ⟨e0, e1, e2, e3, e4, e5⟩ := six_of hS; go_simp⟩) HS1.out ?_
    refine wpAnyH_ready (rs := [2, 6]) (by kernel_rfl) (by simp) (AllReadyH.cons rfl (fun K hK => ?_) (AllReadyH.cons rfl (fun K hK => ?_) AllReadyH.nil))
    · go_simp
      refine (HI.out _).mono ?_
      rintro en w2 ⟨x, c1, rfl, hO, hb⟩
      have HO2 := hide hO
      have HB2 := hide (bel HBd.out hb)
      have HS2 := hide (HS1.out.below hb)
      clear hO hb
      refine hK.out _ _ HS2.out (fun _ => ?_)
      clear hK K
      refine wpAnyH_ready (rs := [6]) (by kernel_rfl) (by simp) (AllReadyH.cons rfl (fun K hK => ?_) AllReadyH.nil)
      go_simp
      have HS3 := hide (HS2.out.below (bel1 w2 (.cells #[.int .u8 s] 5)))
      have HB3 := hide (bel HB2.out (bel1 w2 (.cells #[.int .u8 s] 5)))
      have HX3 := hide (HasC.new w2 5 #[.int .u8 s])
      have HO3 := hide (HO2.out.alloc (.cells #[.int .u8 s] 5))
      refine hK.out _ _ HS3.out (fun _ => ?_)
      clear hK K
      refine wpAnyH_ready (rs := [7]) (by kernel_rfl) (by simp) (AllReadyH.cons rfl (fun K hK => ?_) AllReadyH.nil)
      go_simp
      obtain ⟨a', c', ea, hY, -⟩ := byt_own HO3.out (Byts.vint a (by omega))
      cases ea
      obtain ⟨a2', c2', ea, hY2, -⟩ := byt_own (own_one HX3.out 0 (Nat.zero_le _)) (Byts.one c (by omega))
      cases ea
      have HY4 := hide (hY.later (bel1 (w2.alloc (.cells #[.int .u8 s] 5)) (.cells #[.slice x (vint k).length c1, .slice (some ⟨w2.heap.size, 0, none⟩) 1 1] 28)))
      have HZ4 := hide (hY2.later (bel1 (w2.alloc (.cells #[.int .u8 s] 5)) (.cells #[.slice x (vint k).length c1, .slice (some ⟨w2.heap.size, 0, none⟩) 1 1] 28)))
      have HS4 := hide (HS3.out.below (bel1 (w2.alloc (.cells #[.int .u8 s] 5)) (.cells #[.slice x (vint k).length c1, .slice (some ⟨w2.heap.size, 0, none⟩) 1 1] 28)))
      have HB4 := hide (bel HB3.out (bel1 (w2.alloc (.cells #[.int .u8 s] 5)) (.cells #[.slice x (vint k).length c1, .slice (some ⟨w2.heap.size, 0, none⟩) 1 1] 28)))
      have HP4 := hide (has_new1 w2 (.cells #[.int .u8 s] 5) 28 #[.slice x (vint k).length c1, .slice (some ⟨w2.heap.size, 0, none⟩) 1 1])
      refine hK.out _ _ HS4.out (fun _ => ?_)
      clear hK K hY hY2
      refine wpAnyH_ready (rs := [8]) (by kernel_rfl) (by simp) (AllReadyH.cons rfl (fun K hK => ?_) AllReadyH.nil)
      go_simp
      refine (two_join HP4.out HY4.out HZ4.out HZZ.out (by have := (Oct.vint_len k).2; simp; omega)).mono ?_
      rintro en w6 ⟨y, c6, rfl, hO, hb⟩
      have HO6 := hide (Cde.own_mono hO HB4.out.size)
      have HB6 := hide (bel HB4.out hb)
      have HS6 := hide (HS4.out.below hb)
      clear hO hb
      refine hK.out _ _ HS6.out (fun _ => ?_)
      clear hK K
      refine wpAnyH_ready (rs := [9]) (by kernel_rfl) (by simp) (AllReadyH.cons rfl (fun K hK => ?_) AllReadyH.nil)
      go_simp
      refine hK.out _ _ HS6.out (fun _ => ?_)
      clear hK K
      refine wpAnyH_done (by kernel_rfl) ?_ _
      go_simp
      go_wp2_with fail
      go_ret
      exact ⟨_, _, rfl, HO6.out, HB6.out⟩
    · go_simp
      have HS2 := hide (HS1.out.below (bel1 W2 (.cells #[.int .u8 s] 5)))
      have HB2 := hide (bel HBd.out (bel1 W2 (.cells #[.int .u8 s] 5)))
      have HX2 := hide (HasC.new W2 5 #[.int .u8 s])
      refine hK.out _ _ HS2.out (fun _ => ?_)
      clear hK K
      refine wpAnyH_ready (rs := [2]) (by kernel_rfl) (by simp) (AllReadyH.cons rfl (fun K hK => ?_) AllReadyH.nil)
      go_simp
      refine (HI.out _).mono ?_
      rintro en w2 ⟨x, c1, rfl, hO, hb⟩
      have HO3 := hide hO
      have HB3 := hide (bel HB2.out hb)
      have HS3 := hide (HS2.out.below hb)
      have HX3 := hide (HX2.out.below hb)
      clear hO hb
      refine hK.out _ _ HS3.out (fun _ => ?_)
      clear hK K
      refine wpAnyH_ready (rs := [7]) (by kernel_rfl) (by simp) (AllReadyH.cons rfl (fun K hK => ?_) AllReadyH.nil)
      go_simp
      obtain ⟨a', c', ea, hY, -⟩ := byt_own HO3.out (Byts.vint a (by omega))
      cases ea
      obtain ⟨a2', c2', ea, hY2, -⟩ := byt_own (own_one HX3.out 0 (Nat.zero_le _)) (Byts.one c (by omega))
      cases ea
      have HY4 := hide (hY.later (bel1 (w2) (.cells #[.slice x (vint k).length c1, .slice (some ⟨W2.heap.size, 0, none⟩) 1 1] 28)))
      have HZ4 := hide (hY2.later (bel1 (w2) (.cells #[.slice x (vint k).length c1, .slice (some ⟨W2.heap.size, 0, none⟩) 1 1] 28)))
      have HS4 := hide (HS3.out.below (bel1 (w2) (.cells #[.slice x (vint k).length c1, .slice (some ⟨W2.heap.size, 0, none⟩) 1 1] 28)))
      have HB4 := hide (bel HB3.out (bel1 (w2) (.cells #[.slice x (vint k).length c1, .slice (some ⟨W2.heap.size, 0, none⟩) 1 1] 28)))
      have HP4 := hide (HasC.new (w2) 28 #[.slice x (vint k).length c1, .slice (some ⟨W2.heap.size, 0, none⟩) 1 1])
      refine hK.out _ _ HS4.out (fun _ => ?_)
      clear hK K hY hY2
      refine wpAnyH_ready (rs := [8]) (by kernel_rfl) (by simp) (AllReadyH.cons rfl (fun K hK => ?_) AllReadyH.nil)
      go_simp
      refine (two_join HP4.out HY4.out HZ4.out HZZ.out (by have := (Oct.vint_len k).2; simp; omega)).mono ?_
      rintro en w6 ⟨y, c6, rfl, hO, hb⟩
      have HO6 := hide (Cde.own_mono hO HB4.out.size)
      have HB6 := hide (bel HB4.out hb)
      have HS6 := hide (HS4.out.below hb)
      clear hO hb
      refine hK.out _ _ HS6.out (fun _ => ?_)
      clear hK K
      refine wpAnyH_ready (rs := [9]) (by kernel_rfl) (by simp) (AllReadyH.cons rfl (fun K hK => ?_) AllReadyH.nil)
      go_simp
      refine hK.out _ _ HS6.out (fun _ => ?_)
      clear hK K
      refine wpAnyH_done (by kernel_rfl) ?_ _
      go_simp
      go_wp2_with fail
      go_ret
      exact ⟨_, _, rfl, HO6.out, HB6.out⟩
  · rw [show enK n = [] by simp [enK, e]]
    obtain ⟨o, q1, q2, q3, k, s⟩ := n
    dsimp only at *
    obtain ⟨t1, t2, t3, t4, t5, t6, t7, t8⟩ := hw_zero e
    clear h e a b
    go_enter Try.func49, Try.ntmps49
    go_wp2_with fail
    go_ret
    exact ByP.nil HB.out

end Go.Proofs.Pck

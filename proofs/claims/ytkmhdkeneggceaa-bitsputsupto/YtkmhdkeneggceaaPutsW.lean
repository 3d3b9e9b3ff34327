/-
  The walk of BitsPuts.
-/
import Derived.Test.YtkmhdkeneggceaaPuts0
namespace Go.Proofs.Ytkmhdkeneggceaa
open Go.RowKit Bt
set_option linter.unusedVariables false

abbrev p1 (i : Nat) : Bool := !(((i : Int) % 4 == 3))
abbrev p2 (i : Nat) : Bool := ((i : Int) % 4 == 3)

theorem owns_drewN {w : World} {base e size n : Nat} {v : Value} {xs : List Value} (h : w.ownsRow base e size v n xs) (q : Nat) : (w.drewN q).ownsRow base e size v n xs := owns_later h (below_drewN (Below.refl _ _) q)
theorem bytes_drewN {w : World} {a : Option Addr} {n c : Nat} {zs : List Int} (h : Bytes w a n c zs) (q : Nat) : Bytes (w.drewN q) a n c zs := h.later (below_drewN (Below.refl _ _) q)

/-- How it stands when k steps of the script have been put. -/
abbrev Sta (B : Nat) (w wr : World) (R1 R2 : Nat) (v1 v2 vl vm : Value) (S : Nat → Stp) (k : Nat) : Prop :=
  St B w wr R1 v1 (mine S p1 k) R2 v2 (mine S p2 k) vl (mine S p1 k) vm (mine S p2 k)

def sel {α : Type} (x y z : α) (i : Nat) : α := if i = 0 then x else if i = 1 then y else z

theorem owns_zero {base e size n : Nat} {w : World} {v : Value} {xs : List Value} (h : w.ownsRow base e size v n xs) : w.ownsRow 0 e size v n xs := by
  obtain ⟨h1, h2⟩ := h
  refine ⟨h1, ?_⟩
  rcases h2 with h2 | ⟨g, cap, cur, hv, hg, r⟩
  · exact .inl h2
  · exact .inr ⟨g, cap, cur, hv, Nat.zero_le _, r⟩

theorem lists3 {w : World} {X Y Z : Value} {nx ny nz bx by' bz N1 N2 : Nat} {xs ys zs : List Value} (hX : w.ownsRow bx 5 1 X nx xs) (hY : w.ownsRow by' 5 1 Y ny ys) (hZ : w.ownsRow bz 5 1 Z nz zs)
    (hx : ∀ k, X.ownBlock = some k → k < N1) (hy : ∀ k, Y.ownBlock = some k → N1 ≤ k ∧ k < N2) (hz : ∀ k, Z.ownBlock = some k → N2 ≤ k) (hN : N1 ≤ N2) (sx : nx ≤ 35184372088832) (sy : ny ≤ 35184372088832) (sz : nz ≤ 35184372088832) :
    Lists (w.alloc (.cells #[X, Y, Z] 34)) w.heap.size 3 (sel X Y Z) (sel nx ny nz) := by
  have c3 : ∀ i, i < 3 → i = 0 ∨ i = 1 ∨ i = 2 := fun i hi => by omega
  refine ⟨by simp, fun i hi => ?_, fun i hi => ?_, fun i j hi hj hij k hk hk' => ?_, fun i hi hk => ?_, fun i hi => ?_, by decide⟩
  · rcases c3 i hi with rfl | rfl | rfl <;> simp [sel]
  · rcases c3 i hi with rfl | rfl | rfl
    · exact ⟨xs, owns_alloc (owns_zero hX) _⟩
    · exact ⟨ys, owns_alloc (owns_zero hY) _⟩
    · exact ⟨zs, owns_alloc (owns_zero hZ) _⟩
  · rcases c3 i hi with rfl | rfl | rfl <;> rcases c3 j hj with rfl | rfl | rfl <;> simp only [sel] at hk hk' <;> simp at hk hk'
    · exact hij rfl
    · have := hx k hk; have := hy k hk'; omega
    · have := hx k hk; have := hz k hk'; omega
    · have := hy k hk; have := hx k hk'; omega
    · exact hij rfl
    · have := hy k hk; have := hz k hk'; omega
    · have := hz k hk; have := hx k hk'; omega
    · have := hz k hk; have := hy k hk'; omega
    · exact hij rfl
  · rcases c3 i hi with rfl | rfl | rfl <;> simp only [sel] at hk <;> simp at hk
    · have := (hX.lt _ hk).2; omega
    · have := (hY.lt _ hk).2; omega
    · have := (hZ.lt _ hk).2; omega
  · rcases c3 i hi with rfl | rfl | rfl <;> simp [sel] <;> assumption

theorem of3 {X Y Z : Value} {B k : Nat} (h : Of 3 (sel X Y Z) k) (hx : ∀ k, X.ownBlock = some k → B ≤ k) (hy : ∀ k, Y.ownBlock = some k → B ≤ k) (hz : ∀ k, Z.ownBlock = some k → B ≤ k) : B ≤ k := by
  obtain ⟨i, hi, hk⟩ := h
  have c3 : i = 0 ∨ i = 1 ∨ i = 2 := by omega
  rcases c3 with rfl | rfl | rfl <;> simp only [sel] at hk <;> simp at hk
  · exact hx k hk
  · exact hy k hk
  · exact hz k hk

set_option maxHeartbeats 8000000 in
set_option maxRecDepth 100000 in
theorem puts_walk (sa : Option Addr) (sn sc : Nat) (S : Nat → Stp) (w : World) (hs : Script w sa sn S) (hfit : ∀ i, i < sn → (S i).n ≤ 9223372036854775807) (hsum : sn ≤ 1048576) :
    Calls Try.prog 3 #[.slice sa sn sc] w fun e w' => e = .returned (.bool true) ∧ Below w.heap.size w w' := by
  obtain ⟨i0, hi, hz0, hz1, hz2⟩ := info_parts info3
  have HS := hide hs
  have HF := hide hfit
  clear hs hfit
  go_enter Try.func3, Try.ntmps3
  go_wp2_with fail
  refine (new_any w.heap.size w (Nat.le_refl _)).mono ?_
  rintro e w1 ⟨rfl, hW1, hB1⟩
  have HW1 := hide hW1
  have HB1 := hide hB1
  clear hW1 hB1
  go_wp2_with fail
  refine (new_any w.heap.size w1 HB1.out.size).mono ?_
  rintro e w2 ⟨rfl, hW2, hB2⟩
  have HT2 := hide (two_new (Nat.le_refl _) HW1.out HB1.out hW2 hB2)
  have HB2 := hide (HB1.out.trans (hB2.mono HB1.out.size))
  clear hW2 hB2 HW1 HB1
  generalize hR2 : w1.heap.size = R2 at *
  generalize hR1 : w.heap.size = R1 at *
  go_wp2_with fail
  refine (awake_any w2).mono ?_
  rintro e w3 ⟨rfl, hB3⟩
  have HSt : Hid (Sta R1 w w3 R1 R2 (.slice none 0 0) (.slice none 0 0) (.slice none 0 0) (.slice none 0 0) S 0) := hide ⟨HT2.out.later hB3, ⟨rfl, .inl ⟨rfl, rfl⟩⟩, ⟨rfl, .inl ⟨rfl, rfl⟩⟩, fun g hg => by simp [Value.ownBlock] at hg, HB2.out.trans (hB3.mono (hR1 ▸ HB2.out.size))⟩
  clear HT2 HB2 hB3
  go_wp2_with fail
  go_loopw [5, 6, 7] (fun vl vm i wr => ∃ (k : Nat) (v1 v2 : Value), k ≤ sn ∧ i = .int .i64 (k : Nat) ∧ Sta R1 w wr R1 R2 v1 v2 vl vm S k) (fun _ _ i _ => sn - (intOf i).toNat)
  case atStart => exact ⟨0, _, _, Nat.zero_le _, rfl, HSt.out⟩
  case round =>
    clear HSt
    obtain ⟨k, v1, v2, hk, rfl, hSt⟩ := hrel
    have HSt : Hid (St R1 w wr R1 v1 (mine S p1 k) R2 v2 (mine S p2 k) u5 (mine S p1 k) u6 (mine S p2 k)) := hide hSt
    clear hSt
    have hl1 := mine_len S p1 k
    have hl2 := mine_len S p2 k
    by_cases hlt : k < sn
    · obtain ⟨b, off, rfl, -, -⟩ := (HS.out.below (hR1.symm ▸ HSt.out.below)).at (by omega)
      obtain ⟨s, hSk⟩ : ∃ s, S k = s := ⟨_, rfl⟩
      have hnk : s.n ≤ 9223372036854775807 := hSk ▸ HF.out k hlt
      have HCs : Hid (∀ w', Below R1 w w' → w'.cell? ⟨b, off + k * 3, none⟩ = some (.bool s.o) ∧ w'.cell? ⟨b, off + k * 3 + 1, none⟩ = some (.int .i64 s.n) ∧ w'.cell? ⟨b, off + k * 3 + 2, none⟩ = some (.int .i64 s.d)) := hide (fun w' hB => by
        obtain ⟨b', off', he', _, hc'⟩ := (HS.out.below (hR1.symm ▸ hB)).at (by omega)
        cases he'
        have := hc' k hlt
        rw [hSk] at this
        exact this)
      obtain ⟨c0, c1, c2⟩ := HCs.out wr HSt.out.below
      have HY1 : Hid (p1 k = true → mine S p1 (k + 1) = mine S p1 k ++ s.made) := hide (fun h => by rw [mine_yes h, hSk])
      have HY2 : Hid (p2 k = true → mine S p2 (k + 1) = mine S p2 k ++ s.made) := hide (fun h => by rw [mine_yes h, hSk])
      have HN1 : Hid (p1 k = false → mine S p1 (k + 1) = mine S p1 k) := hide (fun h => mine_no h)
      have HN2 : Hid (p2 k = false → mine S p2 (k + 1) = mine S p2 k) := hide (fun h => mine_no h)
      generalize hL1 : mine S p1 k = L1 at *
      generalize hL2 : mine S p2 k = L2 at *
      clear hL1 hL2
      clear hSk
      have hml := s.made_len
      have HBin := hide s.made_bin
      go_wp2_with fail
      refine (told_any s wr hnk).mono ?_
      rintro e w2 ⟨vt, rfl, ht, hb2⟩
      have HSt2 := hide (HSt.out.later hb2)
      clear HSt c0 c1 c2
      obtain ⟨c0, c1, c2⟩ := HCs.out w2 HSt2.out.below
      cases hok : s.ok with
      | true =>
        have he : s.err = 0 := by simp [Stp.err, hok]
        obtain ⟨md, hmd⟩ : ∃ md, s.made = md := ⟨_, rfl⟩
        have ht' := ht hok
        rw [hmd] at ht' hml
        obtain ⟨a, c, rfl, hI, _⟩ := Ints.of_owns ht'
        have HI := hide hI
        have hno : a = none → md.length = 0 ∧ c = 0 := fun h => by subst h; have := hI.none; exact ⟨this.1, this.2.1⟩
        have HNO := hide hno
        have HNW := hide hI.news
        have hnl : (i64s md).length = md.length * 1 := by simp
        have HMD := hide hmd
        have HMDL : Hid (md.length ≤ 65) := hide hml
        clear ht ht' hb2 hI hno hmd
        rcases Bool.eq_false_or_eq_true (((k : Int) % 4 == 3)) with h4 | h4
        · have HMY : Hid (mine S p1 (k + 1) = L1 ∧ mine S p2 (k + 1) = L2 ++ md) := hide ⟨HN1.out (by simp [p1, h4]), by rw [HY2.out (by simp [p2, h4]), HMD.out]⟩
          obtain ⟨LB, hLB⟩ : ∃ LB, LB = L2 ++ md := ⟨_, rfl⟩
          have HLB := hide hLB
          clear hLB
          go_wp2_with (at_builtin; refine wpList_append_kept _ rfl _ _ 26 rfl R1 3 i0 (.int .i64 0) 8 Try.underlying26 hi hz0 hz1 hz2 rfl u6 L2.length (i64s L2) rfl HSt2.out.m a md.length c (i64s md) rfl hnl HNO.out HNW.out (ints_oneCell _ _) (by unfold maxLen; omega) (by omega) HSt2.out.base ?_; intro vm' w3 hown3 hgr3; have HSt3 := hide (HSt2.out.swap.grow hown3 rfl hgr3); clear hown3 hgr3; obtain ⟨d0, d1, d2⟩ := HCs.out w3 HSt3.out.below)
          refine (puts_any R1 R2 v2 L2 s w3 HSt3.out.two.one (by omega)).mono ?_
          rintro e w4 ⟨rfl, v2', hW4, hG4⟩
          rw [HMD.out] at hW4
          have HSt4 := hide (HSt3.out.put hW4 hG4).swap
          clear hW4 hG4 HSt3
          rw [he]
          go_wp2_with fail
          go_roundw
          case rel => exact ⟨k + 1, v1, v2', by omega, by go_num, by unfold Sta; rw [HMY.out.1, HMY.out.2]; exact HSt4.out⟩
          case measure => simp [intOf]; omega
        · have HMY : Hid (mine S p1 (k + 1) = L1 ++ md ∧ mine S p2 (k + 1) = L2) := hide ⟨by rw [HY1.out (by simp [p1, h4]), HMD.out], HN2.out (by simp [p2, h4])⟩
          obtain ⟨LB, hLB⟩ : ∃ LB, L1 ++ md = LB := ⟨_, rfl⟩
          have HLB := hide hLB
          have hlb : LB.length ≤ 65 * k + 65 := by rw [← hLB, List.length_append]; have := HMDL.out; omega
          clear hLB
          go_wp2_with (at_builtin; refine wpList_append_kept _ rfl _ _ 26 rfl R1 3 i0 (.int .i64 0) 8 Try.underlying26 hi hz0 hz1 hz2 rfl u5 L1.length (i64s L1) rfl HSt2.out.l a md.length c (i64s md) rfl hnl HNO.out HNW.out (ints_oneCell _ _) (by unfold maxLen; omega) (by omega) HSt2.out.base ?_; intro vl' w3 hown3 hgr3; have HSt3 := hide (HSt2.out.grow hown3 rfl hgr3); clear hown3 hgr3; rw [HLB.out] at HSt3; obtain ⟨d0, d1, d2⟩ := HCs.out w3 HSt3.out.below; obtain ⟨al, cl, rfl, hIl, _⟩ := Ints.of_owns HSt3.out.l; have HIl := hide hIl; clear hIl)
          refine (puts_any R1 R1 v1 L1 s w3 HSt3.out.two.one (by omega)).mono ?_
          rintro e w4 ⟨rfl, v1', hW4, hG4⟩
          rw [HMD.out, HLB.out] at hW4
          have HSt4 := hide (HSt3.out.put hW4 hG4)
          clear hW4 hG4 HSt3 HIl d0 d1 d2 c0 c1 c2
          rw [he]
          go_wp2_with fail
          refine (len_any R1 R1 v1' LB w4 HSt4.out.two.one).mono ?_
          rintro e w5 ⟨rfl, rfl⟩
          go_wp2_with fail
          refine (wbytes_b R1 R1 v1' LB w5 HSt4.out.two.one (by omega)).mono ?_
          rintro e w6 ⟨ab, nb, cb, rfl, ho6, hy6, hb6⟩
          have HI6 : Hid (Ints w6 al LB.length cl LB) := hide (by
            obtain ⟨al', cl', e, hI', _⟩ := Ints.of_owns HSt4.out.l
            simp only [Value.slice.injEq, true_and] at e
            obtain ⟨rfl, rfl⟩ := e
            exact hI'.later hb6)
          have HO6 := hide ho6
          have HY6 := hide hy6
          have HB6 := hide hb6
          have HBi := hide HSt4.out.two.one.bin
          clear ho6 hy6 hb6
          go_wp2_with fail
          refine (refBytes_any al LB.length cl LB w6 HI6.out HBi.out (by omega)).mono ?_
          rintro e w7 ⟨vr, rfl, ho7, hb7⟩
          obtain ⟨ar, cr, rfl, hy7, _⟩ := Bytes.of_owns ho7 (pack_byte HBi.out)
          have HY7 := hide hy7
          have HO7 := hide (owns_later HO6.out hb7)
          have HYb := hide (HY6.out.later hb7)
          have HB7 := hide (below_step HB6.out hb7)
          clear ho7 hy7 hb7 HI6 HO6 HY6 HB6
          generalize (pack LB).length = PL at *
          go_wp2_with fail
          refine (same_self ab ar nb PL cb cr (pack LB) w7 HYb.out HY7.out).mono ?_
          rintro e w8 ⟨rfl, q, rfl⟩
          have HO8 := hide (owns_drewN HO7.out q)
          have HB8 := hide (below_drewN HB7.out q)
          have hnb : nb ≤ 9223372036854775807 := by have := HYb.out.le; have := HYb.out.max; unfold maxLen at this; omega
          generalize w7.drewN q = w8 at *
          clear HO7 HB7 HY7 HYb
          go_wp2_with fail
          go_loopw [12] (fun i wx => ∃ (t : Nat) (ys : List Value), t ≤ nb ∧ i = .int .i64 (t : Nat) ∧ wx.ownsRow w5.heap.size 5 1 (.slice ab nb cb) nb ys ∧ Below w5.heap.size w5 wx) (fun i _ => nb - (intOf i).toNat)
          case atStart => exact ⟨0, _, Nat.zero_le _, rfl, HO8.out, HB8.out⟩
          case round =>
            clear HO8 HB8
            obtain ⟨t, ys, ht, rfl, hoy, hby⟩ := hrel
            have HOY := hide hoy
            have HBY := hide hby
            have hyl : ys.length = nb := by simpa using hoy.1
            clear hoy hby
            by_cases htn : t < nb
            · obtain ⟨gb, cb', e⟩ := ownsRow_slice HOY.out (by omega)
              simp only [Value.slice.injEq, true_and] at e
              obtain ⟨rfl, rfl⟩ := e
              have cY := HOY.out.cellAt t (by omega)
              rw [List.getElem?_eq_getElem (show t < ys.length by omega)] at cY
              have fY := HOY.out.frozenAt t
              have HST := hide (HOY.out.stored t (.int .u8 255))
              have hgb := (HOY.out.lt gb rfl).1
              go_wp2_with fail
              go_roundw
              case rel => exact ⟨t + 1, _, by omega, by go_num, HST.out.1, HBY.out.grown HST.out.2 HBY.out.size (fun k h => by cases h; exact hgb)⟩
              case measure => simp [intOf]; omega
            · have HStE := hide (HSt4.out.later HBY.out)
              go_wp2_with fail
              go_roundw
              case rel => exact ⟨k + 1, v1', v2, by omega, by go_num, by unfold Sta; rw [HMY.out.1, HMY.out.2, HLB.out]; exact HStE.out⟩
              case measure => simp [intOf]; omega
      | false =>
        have he : s.err = 1 := by simp [Stp.err, hok]
        have hmd : s.made = [] := by simp [Stp.made, hok]
        have HMD : Hid (s.made = []) := hide hmd
        have HMDL : Hid (([] : List Int).length ≤ 65) := hide (by simp)
        clear ht hb2 hmd
        rcases Bool.eq_false_or_eq_true (((k : Int) % 4 == 3)) with h4 | h4
        · have HMY : Hid (mine S p1 (k + 1) = L1 ∧ mine S p2 (k + 1) = L2 ++ ([] : List Int)) := hide ⟨HN1.out (by simp [p1, h4]), by rw [HY2.out (by simp [p2, h4]), HMD.out]⟩
          obtain ⟨LB, hLB⟩ : ∃ LB, LB = L2 ++ ([] : List Int) := ⟨_, rfl⟩
          have HLB := hide hLB
          clear hLB
          go_wp2_with (at_builtin; refine wpList_append_kept _ rfl _ _ 26 rfl R1 3 i0 (.int .i64 0) 8 Try.underlying26 hi hz0 hz1 hz2 rfl u6 L2.length (i64s L2) rfl HSt2.out.m none 0 0 (i64s ([] : List Int)) rfl rfl (fun _ => ⟨rfl, rfl⟩) (fun ad h => by cases h) (ints_oneCell _ _) (by unfold maxLen; omega) (by omega) HSt2.out.base ?_; intro vm' w3 hown3 hgr3; have HSt3 := hide (HSt2.out.swap.grow hown3 rfl hgr3); clear hown3 hgr3; obtain ⟨d0, d1, d2⟩ := HCs.out w3 HSt3.out.below)
          refine (puts_any R1 R2 v2 L2 s w3 HSt3.out.two.one (by omega)).mono ?_
          rintro e w4 ⟨rfl, v2', hW4, hG4⟩
          rw [HMD.out] at hW4
          have HSt4 := hide (HSt3.out.put hW4 hG4).swap
          clear hW4 hG4 HSt3
          rw [he]
          go_wp2_with fail
          go_roundw
          case rel => exact ⟨k + 1, v1, v2', by omega, by go_num, by unfold Sta; rw [HMY.out.1, HMY.out.2]; exact HSt4.out⟩
          case measure => simp [intOf]; omega
        · have HMY : Hid (mine S p1 (k + 1) = L1 ++ ([] : List Int) ∧ mine S p2 (k + 1) = L2) := hide ⟨by rw [HY1.out (by simp [p1, h4]), HMD.out], HN2.out (by simp [p2, h4])⟩
          obtain ⟨LB, hLB⟩ : ∃ LB, L1 ++ ([] : List Int) = LB := ⟨_, rfl⟩
          have HLB := hide hLB
          have hlb : LB.length ≤ 65 * k + 65 := by rw [← hLB, List.length_append]; have := HMDL.out; omega
          clear hLB
          go_wp2_with (at_builtin; refine wpList_append_kept _ rfl _ _ 26 rfl R1 3 i0 (.int .i64 0) 8 Try.underlying26 hi hz0 hz1 hz2 rfl u5 L1.length (i64s L1) rfl HSt2.out.l none 0 0 (i64s ([] : List Int)) rfl rfl (fun _ => ⟨rfl, rfl⟩) (fun ad h => by cases h) (ints_oneCell _ _) (by unfold maxLen; omega) (by omega) HSt2.out.base ?_; intro vl' w3 hown3 hgr3; have HSt3 := hide (HSt2.out.grow hown3 rfl hgr3); clear hown3 hgr3; rw [HLB.out] at HSt3; obtain ⟨d0, d1, d2⟩ := HCs.out w3 HSt3.out.below; obtain ⟨al, cl, rfl, hIl, _⟩ := Ints.of_owns HSt3.out.l; have HIl := hide hIl; clear hIl)
          refine (puts_any R1 R1 v1 L1 s w3 HSt3.out.two.one (by omega)).mono ?_
          rintro e w4 ⟨rfl, v1', hW4, hG4⟩
          rw [HMD.out, HLB.out] at hW4
          have HSt4 := hide (HSt3.out.put hW4 hG4)
          clear hW4 hG4 HSt3 HIl d0 d1 d2 c0 c1 c2
          rw [he]
          go_wp2_with fail
          refine (len_any R1 R1 v1' LB w4 HSt4.out.two.one).mono ?_
          rintro e w5 ⟨rfl, rfl⟩
          go_wp2_with fail
          refine (wbytes_b R1 R1 v1' LB w5 HSt4.out.two.one (by omega)).mono ?_
          rintro e w6 ⟨ab, nb, cb, rfl, ho6, hy6, hb6⟩
          have HI6 : Hid (Ints w6 al LB.length cl LB) := hide (by
            obtain ⟨al', cl', e, hI', _⟩ := Ints.of_owns HSt4.out.l
            simp only [Value.slice.injEq, true_and] at e
            obtain ⟨rfl, rfl⟩ := e
            exact hI'.later hb6)
          have HO6 := hide ho6
          have HY6 := hide hy6
          have HB6 := hide hb6
          have HBi := hide HSt4.out.two.one.bin
          clear ho6 hy6 hb6
          go_wp2_with fail
          refine (refBytes_any al LB.length cl LB w6 HI6.out HBi.out (by omega)).mono ?_
          rintro e w7 ⟨vr, rfl, ho7, hb7⟩
          obtain ⟨ar, cr, rfl, hy7, _⟩ := Bytes.of_owns ho7 (pack_byte HBi.out)
          have HY7 := hide hy7
          have HO7 := hide (owns_later HO6.out hb7)
          have HYb := hide (HY6.out.later hb7)
          have HB7 := hide (below_step HB6.out hb7)
          clear ho7 hy7 hb7 HI6 HO6 HY6 HB6
          generalize (pack LB).length = PL at *
          go_wp2_with fail
          refine (same_self ab ar nb PL cb cr (pack LB) w7 HYb.out HY7.out).mono ?_
          rintro e w8 ⟨rfl, q, rfl⟩
          have HO8 := hide (owns_drewN HO7.out q)
          have HB8 := hide (below_drewN HB7.out q)
          have hnb : nb ≤ 9223372036854775807 := by have := HYb.out.le; have := HYb.out.max; unfold maxLen at this; omega
          generalize w7.drewN q = w8 at *
          clear HO7 HB7 HY7 HYb
          go_wp2_with fail
          go_loopw [12] (fun i wx => ∃ (t : Nat) (ys : List Value), t ≤ nb ∧ i = .int .i64 (t : Nat) ∧ wx.ownsRow w5.heap.size 5 1 (.slice ab nb cb) nb ys ∧ Below w5.heap.size w5 wx) (fun i _ => nb - (intOf i).toNat)
          case atStart => exact ⟨0, _, Nat.zero_le _, rfl, HO8.out, HB8.out⟩
          case round =>
            clear HO8 HB8
            obtain ⟨t, ys, ht, rfl, hoy, hby⟩ := hrel
            have HOY := hide hoy
            have HBY := hide hby
            have hyl : ys.length = nb := by simpa using hoy.1
            clear hoy hby
            by_cases htn : t < nb
            · obtain ⟨gb, cb', e⟩ := ownsRow_slice HOY.out (by omega)
              simp only [Value.slice.injEq, true_and] at e
              obtain ⟨rfl, rfl⟩ := e
              have cY := HOY.out.cellAt t (by omega)
              rw [List.getElem?_eq_getElem (show t < ys.length by omega)] at cY
              have fY := HOY.out.frozenAt t
              have HST := hide (HOY.out.stored t (.int .u8 255))
              have hgb := (HOY.out.lt gb rfl).1
              go_wp2_with fail
              go_roundw
              case rel => exact ⟨t + 1, _, by omega, by go_num, HST.out.1, HBY.out.grown HST.out.2 HBY.out.size (fun k h => by cases h; exact hgb)⟩
              case measure => simp [intOf]; omega
            · have HStE := hide (HSt4.out.later HBY.out)
              go_wp2_with fail
              go_roundw
              case rel => exact ⟨k + 1, v1', v2, by omega, by go_num, by unfold Sta; rw [HMY.out.1, HMY.out.2, HLB.out]; exact HStE.out⟩
              case measure => simp [intOf]; omega
    · obtain rfl : k = sn := by omega
      have hb1 := mine_bin S p1 k
      have hb2 := mine_bin S p2 k
      have HBN1 := hide hb1
      have HBN2 := hide hb2
      clear hb1 hb2
      generalize hL1 : mine S p1 k = L1 at *
      generalize hL2 : mine S p2 k = L2 at *
      clear hL1 hL2
      obtain ⟨al, cl, rfl, hIl, _⟩ := Ints.of_owns HSt.out.l
      obtain ⟨am, cm, rfl, hIm, _⟩ := Ints.of_owns HSt.out.m
      have HIl := hide hIl
      have HIm := hide hIm
      clear hIl hIm
      go_wp2_with fail
      refine (wbytes_b R1 R1 v1 L1 wr HSt.out.two.one (by omega)).mono ?_
      rintro e wa ⟨ax, nx, cx, rfl, hox, hyx, hbx⟩
      have HOx := hide hox
      have HYx := hide hyx
      have HBa := hide hbx
      have HSa := hide (HSt.out.later hbx)
      clear hox hyx hbx
      go_wp2_with fail
      refine (wbytes_b R1 R1 v1 L1 wa HSa.out.two.one (by omega)).mono ?_
      rintro e wb ⟨ay, ny, cy, rfl, hoy, hyy, hby⟩
      have HOy := hide hoy
      have HYy := hide hyy
      have HBb := hide (below_step HBa.out hby)
      have HSb := hide (HSa.out.later hby)
      have HXb := hide (owns_later HOx.out hby)
      have HYxb := hide (HYx.out.later hby)
      have HSZ := hide hby.size
      clear hoy hyy hby HYx
      go_wp2_with fail
      refine (wbytes_b R1 R2 v2 L2 wb HSb.out.two.two (by omega)).mono ?_
      rintro e wc ⟨az, nz, cz, rfl, hoz, hyz, hbz⟩
      have HOz := hide hoz
      have HYz := hide hyz
      have HBc := hide (below_step HBb.out hbz)
      have HSc := hide (HSb.out.later hbz)
      have HXc := hide (owns_later HXb.out hbz)
      have HYc := hide (owns_later HOy.out hbz)
      have HYxc := hide (HYxb.out.later hbz)
      have HYyc := hide (HYy.out.later hbz)
      clear hoz hyz hbz HYxb HYy HXb
      have hfx : ∀ k, (Value.slice ax nx cx).ownBlock = some k → wr.heap.size ≤ k ∧ k < wa.heap.size := fun k hk => HOx.out.lt k hk
      have hfy : ∀ k, (Value.slice ay ny cy).ownBlock = some k → wa.heap.size ≤ k ∧ k < wb.heap.size := fun k hk => HOy.out.lt k hk
      have hfz : ∀ k, (Value.slice az nz cz).ownBlock = some k → wb.heap.size ≤ k ∧ k < wc.heap.size := fun k hk => HOz.out.lt k hk
      have HFx := hide hfx
      have HFy := hide hfy
      have HFz := hide hfz
      have hs1 : wr.heap.size ≤ wa.heap.size := HBa.out.size
      have hs2 : wa.heap.size ≤ wb.heap.size := HSZ.out
      clear hfx hfy hfz
      go_wp2_with fail
      refine (len_any R1 R2 v2 L2 wc HSc.out.two.two).mono ?_
      rintro e wd ⟨rfl, rfl⟩
      go_wp2_with fail
      refine (refBytes_any al L1.length cl L1 wd (HIl.out.later HBc.out) HBN1.out (by omega)).mono ?_
      rintro e we ⟨vr, rfl, hor, hbr⟩
      obtain ⟨ar, cr, rfl, hyr, _⟩ := Bytes.of_owns hor (pack_byte HBN1.out)
      have HYr := hide hyr
      have HBe := hide (below_step HBc.out hbr)
      have HXe := hide (owns_later HXc.out hbr)
      have HYe := hide (owns_later HYc.out hbr)
      have HZe := hide (owns_later HOz.out hbr)
      have HYxe := hide (HYxc.out.later hbr)
      have HYye := hide (HYyc.out.later hbr)
      have HYze := hide (HYz.out.later hbr)
      clear hor hbr hyr HXc HYc HYxc HYyc HYz
      generalize (pack L1).length = PL at *
      go_wp2_with fail
      refine (same_self ax ar nx PL cx cr (pack L1) we HYxe.out HYr.out).mono ?_
      rintro e wf ⟨rfl, q, rfl⟩
      have hq := below_drewN (Below.refl we.heap.size we) q
      have HBf := hide (below_step HBe.out hq)
      have HXf := hide (owns_later HXe.out hq)
      have HYf := hide (owns_later HYe.out hq)
      have HZf := hide (owns_later HZe.out hq)
      have HYxf := hide (HYxe.out.later hq)
      have HYyf := hide (HYye.out.later hq)
      have HYzf := hide (HYze.out.later hq)
      clear hq HXe HYe HZe HYxe HYye HYze HYr HBe
      generalize we.drewN q = wf at *
      go_wp2_with fail
      refine (same_self ay ax ny nx cy cx (pack L1) wf HYyf.out HYxf.out).mono ?_
      rintro e wg ⟨rfl, q, rfl⟩
      have hq := below_drewN (Below.refl wf.heap.size wf) q
      have HBg := hide (below_step HBf.out hq)
      have HXg := hide (owns_later HXf.out hq)
      have HYg := hide (owns_later HYf.out hq)
      have HZg := hide (owns_later HZf.out hq)
      have HYxg := hide (HYxf.out.later hq)
      have HYyg := hide (HYyf.out.later hq)
      have HYzg := hide (HYzf.out.later hq)
      clear hq HXf HYf HZf HYxf HYyf HYzf HBf
      generalize wf.drewN q = wg at *
      go_wp2_with fail
      refine (refBytes_any am L2.length cm L2 wg (HIm.out.later HBg.out) HBN2.out (by omega)).mono ?_
      rintro e wh ⟨vr2, rfl, hor, hbr⟩
      obtain ⟨ar2, cr2, rfl, hyr, _⟩ := Bytes.of_owns hor (pack_byte HBN2.out)
      have HYr := hide hyr
      have HBh := hide (below_step HBg.out hbr)
      have HXh := hide (owns_later HXg.out hbr)
      have HYh := hide (owns_later HYg.out hbr)
      have HZh := hide (owns_later HZg.out hbr)
      have HYxh := hide (HYxg.out.later hbr)
      have HYyh := hide (HYyg.out.later hbr)
      have HYzh := hide (HYzg.out.later hbr)
      clear hor hbr hyr HXg HYg HZg HYxg HYyg HYzg HBg
      generalize (pack L2).length = PL2 at *
      go_wp2_with fail
      refine (same_self az ar2 nz PL2 cz cr2 (pack L2) wh HYzh.out HYr.out).mono ?_
      rintro e wi ⟨rfl, q, rfl⟩
      have hq := below_drewN (Below.refl wh.heap.size wh) q
      have HBi := hide (below_step HBh.out hq)
      have HXi := hide (owns_later HXh.out hq)
      have HYi := hide (owns_later HYh.out hq)
      have HZi := hide (owns_later HZh.out hq)
      have hnx : nx ≤ 35184372088832 := by have := HYxh.out.len; rw [pack_len] at this; omega
      have hny : ny ≤ 35184372088832 := by have := HYyh.out.len; rw [pack_len] at this; omega
      have hnz : nz ≤ 35184372088832 := by have := HYzh.out.len; rw [pack_len] at this; omega
      clear hq HXh HYh HZh HYxh HYyh HYzh HYr HBh
      generalize wh.drewN q = wi at *
      have HLi := hide (lists3 HXi.out HYi.out HZi.out (fun k hk => (HFx.out k hk).2) (fun k hk => HFy.out k hk) (fun k hk => (HFz.out k hk).1) hs2 hnx hny hnz)
      have HBj := hide (HBi.out.alloc HBi.out.size (.cells #[.slice ax nx cx, .slice ay ny cy, .slice az nz cz] 34))
      go_wp2_with fail
      refine (apart_any wi.heap.size 3 3 _ _ _ HLi.out).mono ?_
      rintro e wj ⟨rfl, hkj⟩
      have HBk := hide (HBj.out.trans (hkj.below HBj.out.size (fun k hk => of3 hk (fun k hk => (HFx.out k hk).1) (fun k hk => by have := (HFy.out k hk).1; omega) (fun k hk => by have := (HFz.out k hk).1; omega))))
      have HSk := hide (HSt.out.later HBk.out)
      clear hkj
      go_wp2_with fail
      refine (wbytes_b R1 R1 v1 L1 wj HSk.out.two.one (by omega)).mono ?_
      rintro e wl ⟨au, nu, cu, rfl, hou, hyu, hbu⟩
      have HYu := hide hyu
      have HBl := hide (below_step HBk.out hbu)
      have HRl := hide (HSk.out.below.trans (hbu.mono HSk.out.base))
      have HSZ2 := hide HSk.out.base
      clear hou hyu hbu
      go_wp2_with fail
      refine (refBytes_any al L1.length cl L1 wl (HIl.out.later HBl.out) HBN1.out (by omega)).mono ?_
      rintro e wm ⟨vr3, rfl, hor, hbr⟩
      obtain ⟨ar3, cr3, rfl, hyr, _⟩ := Bytes.of_owns hor (pack_byte HBN1.out)
      have HYr := hide hyr
      have HYum := hide (HYu.out.later hbr)
      have HRm := hide (HRl.out.trans (hbr.mono (hR1 ▸ HRl.out.size)))
      clear hor hbr hyr
      generalize (pack L1).length = PL3 at *
      go_wp2_with fail
      refine (same_self au ar3 nu PL3 cu cr3 (pack L1) wm HYum.out HYr.out).mono ?_
      rintro e wn ⟨rfl, q, rfl⟩
      have HRn := hide (below_drewN HRm.out q)
      go_wp2_with fail
      go_ret
      exact ⟨rfl, by rw [hR1]; exact HRn.out⟩

end Go.Proofs.Ytkmhdkeneggceaa

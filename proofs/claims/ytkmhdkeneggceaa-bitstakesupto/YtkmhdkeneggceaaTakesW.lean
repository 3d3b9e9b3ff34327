/-
  The walk of BitsTakes.
-/
import Derived.Test.YtkmhdkeneggceaaRef3
import Derived.Test.YtkmhdkeneggceaaRoomy
namespace Go.Proofs.Ytkmhdkeneggceaa
open Go.RowKit Bt
set_option linter.unusedVariables false

/-- The tail of a list of numbers. -/
theorem tail_ints {w : World} {g n c k off' cap' : Nat} {xs : List Int} (h : Ints w (some ⟨g, 0, none⟩) n c xs) (hk : k ≤ n) (hc1 : n - k ≤ cap') (hc2 : cap' ≤ c) (ho : n - k = 0 ∨ off' = k) : Ints w (some ⟨g, off', none⟩) (n - k) cap' (xs.drop k) := by
  have hl := h.len
  refine ⟨by simp [hl], hc1, Nat.le_trans hc2 h.max, (fun h => by cases h), ?_⟩
  rcases ho with h0 | rfl
  · exact .inl h0
  · by_cases h0 : n - off' = 0
    · exact .inl h0
    · obtain ⟨b, o, e, _, hc⟩ := h.at (by omega)
      cases e
      refine .inr ⟨g, off', rfl, fun i hi => ?_⟩
      have := hc (off' + i) (by omega)
      rw [Nat.zero_add] at this
      rw [this]
      simp [List.getD]

/-- How it stands at a step. -/
structure Sx (B : Nat) (w wr : World) (r : Nat) (vr vl : Value) (zs : List Int) (at' : Nat) : Prop where
  rd : Rd B wr r vr zs at'
  l : OwnI B wr vl (unpack zs)
  below : Below B w wr

theorem Sx.later {B : Nat} {w wr w' : World} {r : Nat} {vr vl : Value} {zs : List Int} {at' : Nat} (h : Sx B w wr r vr vl zs at') (hb : Below wr.heap.size wr w') : Sx B w w' r vr vl zs at' :=
  ⟨h.rd.later hb, (Keeps.of_below (S := fun _ => False) hb (fun k hk h' => by omega)).owns h.l (fun _ _ hf => hf), h.below.trans (hb.mono (Nat.le_trans h.rd.base (Nat.le_of_lt h.rd.lt)))⟩

theorem Sx.drewN {B : Nat} {w wr : World} {r : Nat} {vr vl : Value} {zs : List Int} {at' : Nat} (h : Sx B w wr r vr vl zs at') (q : Nat) : Sx B w (wr.drewN q) r vr vl zs at' := h.later (below_drewN (Below.refl _ _) q)

theorem Sx.moved {B : Nat} {w wr w' : World} {r : Nat} {vr vl : Value} {zs : List Int} {at' at2 : Nat} (h : Sx B w wr r vr vl zs at') (hR : Rd B w' r vr zs at2) (hg : wr.grownBy w' (some r)) : Sx B w w' r vr vl zs at2 :=
  ⟨hR, h.l.kept hg (.inr (owns_not h.l h.rd.heap (by decide))), h.below.grown hg (Nat.le_trans h.rd.base (Nat.le_of_lt h.rd.lt)) (fun k hk => by cases hk; exact h.rd.base)⟩

theorem fn_drop (zs : List Int) {at' : Nat} (h : at' ≤ 8 * zs.length) : ∀ i, i < 8 * zs.length - at' → bitAt zs (at' + i) = fn ((unpack zs).drop at') (0 + i) := by
  intro i hi
  rw [← unpack_getD zs (by omega)]
  simp [fn, List.getD]

theorem drop_bin {xs : List Int} (h : Bin xs) (k : Nat) : Bin (xs.drop k) := fun b hb => h b (List.mem_of_mem_drop hb)

theorem tk_err {f : Nat → Int} {a l : Nat} {d : Int} (h : (tk f a l d).2.2 ≠ 0) : (tk f a l d).2.1 = 0 := by
  unfold tk at h ⊢
  split
  · rfl
  · split
    · rfl
    · rename_i h1 h2
      rw [if_neg h1, if_neg h2] at h
      exact absurd rfl h
theorem tk_wd {f : Nat → Int} {a l : Nat} {d : Int} (h : (tk f a l d).2.2 = 0) : ((tk f a l d).2.1 : Int) = d := by
  unfold tk at h ⊢
  split
  · rename_i h1; rw [if_pos h1] at h; exact absurd h (by decide)
  · rename_i h1
    split
    · rename_i h2; rw [if_neg h1, if_pos h2] at h; exact absurd h (by decide)
    · show ((d.toNat : Nat) : Int) = d
      omega
theorem ct_err {f : Nat → Int} {a l : Nat} {d : Int} (h : (ct f a l d).2.2 ≠ 0) : (ct f a l d).2.1 = 0 := by
  unfold ct at h ⊢
  split
  · rfl
  · rename_i h1
    rw [if_neg h1] at h
    split
    · rename_i h2; rw [if_pos h2] at h; exact absurd rfl h
    · rename_i h2
      rw [if_neg h2] at h
      split
      · rfl
      · rename_i h3; rw [if_neg h3] at h; exact absurd rfl h

theorem Ints.drewN {w : World} {a : Option Addr} {n c : Nat} {xs : List Int} (h : Ints w a n c xs) (q : Nat) : Ints (w.drewN q) a n c xs := h.later (below_drewN (Below.refl _ _) q)

theorem drew_drewN (w : World) (m : Nat) : (w.drewN m).drew = (w.drewN m).drewN 1 := rfl

/-- What the calls that only look answer. -/
theorem Sx.calls {B : Nat} {w wx : World} {r : Nat} {vr vl : Value} {zs : List Int} {y LN : Nat} (h : Sx B w wx r vr vl zs y) (hLN : LN = 8 * zs.length) {ta : Option Addr} {tn tc : Nat} (hT : Ints wx ta tn tc ((unpack zs).drop y)) (htn : tn = LN - y) :
    ∃ E : Int, ∀ m, (Calls Try.prog 25 #[.pointer (some ⟨r, 0, none⟩)] (wx.drewN m) fun e w' => e = .returned (.int .i64 (y : Nat)) ∧ w' = wx.drewN m) ∧
      (Calls Try.prog 26 #[.pointer (some ⟨r, 0, none⟩)] (wx.drewN m) fun e w' => e = .returned (.int .i64 ((LN : Int) - (y : Int))) ∧ ∃ q, w' = (wx.drewN m).drewN q) ∧
      (Calls Try.prog 27 #[.pointer (some ⟨r, 0, none⟩)] (wx.drewN m) fun e w' => e = .returned (.int .i64 E) ∧ ∃ q, w' = (wx.drewN m).drewN q) ∧
      (Calls Try.prog 28 #[.slice ta tn tc] (wx.drewN m) fun e w' => e = .returned (.int .i64 E) ∧ w' = wx.drewN m) := by
  subst htn
  have hle := h.rd.le
  refine ⟨en (bitAt zs) y (LN - y), fun m => ⟨rat_any B r vr zs y _ (h.drewN m).rd, ?_, ?_, ?_⟩⟩
  · refine (left_any B r vr zs y _ (h.drewN m).rd).mono ?_
    rintro e w' ⟨rfl, rfl⟩
    exact ⟨ret_int (by omega), 1, rfl⟩
  · refine (rend_any B r vr zs y _ (h.drewN m).rd).mono ?_
    rintro e w' ⟨rfl, rfl⟩
    exact ⟨by rw [hLN], 1, rfl⟩
  · refine (refEnd_any ta (LN - y) tc _ _ (hT.drewN m)).mono ?_
    rintro e w' ⟨rfl, rfl⟩
    exact ⟨by rw [hLN, en_congr (fn_drop zs hle)], rfl⟩

theorem Sx.count {B : Nat} {w wx : World} {r : Nat} {vr vl : Value} {zs : List Int} {x LN : Nat} (h : Sx B w wx r vr vl zs x) (hLN : LN = 8 * zs.length) {ta : Option Addr} {tn tc : Nat} (hT : Ints wx ta tn tc ((unpack zs).drop x)) (htn : tn = LN - x) (d : Int) (m : Nat) :
    Calls Try.prog 21 #[.slice ta tn tc, .int .i64 d] (wx.drewN m) fun e w' => e = .returned (.tuple #[.int .i64 (ct (bitAt zs) x (8 * zs.length - x) d).1, .int .i64 ((ct (bitAt zs) x (8 * zs.length - x) d).2.1 : Nat), .int .i64 (ct (bitAt zs) x (8 * zs.length - x) d).2.2]) ∧ w' = wx.drewN m := by
  subst htn
  subst hLN
  rw [ct_congr (fn_drop zs h.rd.le)]
  exact refCount_any ta _ tc _ d _ (hT.drewN m) (drop_bin (unpack_bin zs) x)
theorem Sx.take {B : Nat} {w wx : World} {r : Nat} {vr vl : Value} {zs : List Int} {x LN : Nat} (h : Sx B w wx r vr vl zs x) (hLN : LN = 8 * zs.length) {ta : Option Addr} {tn tc : Nat} (hT : Ints wx ta tn tc ((unpack zs).drop x)) (htn : tn = LN - x) (d : Int) (m : Nat) :
    Calls Try.prog 23 #[.slice ta tn tc, .int .i64 d] (wx.drewN m) fun e w' => e = .returned (.tuple #[.int .i64 (tk (bitAt zs) x (8 * zs.length - x) d).1, .int .i64 (tk (bitAt zs) x (8 * zs.length - x) d).2.2]) ∧ w' = wx.drewN m := by
  subst htn
  subst hLN
  rw [tk_congr (fn_drop zs h.rd.le)]
  exact refTake_any ta _ tc _ d _ (hT.drewN m) (drop_bin (unpack_bin zs) x)

theorem Sx.tail_some {B : Nat} {w wr : World} {r : Nat} {vr : Value} {ad : Addr} {LN cl x : Nat} {zs : List Int} (h : Sx B w wr r vr (.slice (some ad) LN cl) zs x) (hLN : LN = 8 * zs.length) (hx : x ≤ LN) :
    Ints wr (if cl = x then some ad else some (ad.add x)) (LN - x) (cl - x) ((unpack zs).drop x) := by
  obtain ⟨a', c', e, hI, _⟩ := Ints.of_owns h.l
  have hle := hI.le
  simp only [Value.slice.injEq] at e
  obtain ⟨rfl, e2, rfl⟩ := e
  rw [← e2] at hI hle
  obtain ⟨g, cap, e, _⟩ : ∃ g cap, Value.slice (some ad) LN cl = .slice (some ⟨g, 0, none⟩) LN cap ∧ True := by
    rcases h.l.2 with ⟨e, _⟩ | ⟨g, cap, cur, e, _⟩
    · cases e
    · rw [← e2] at e; exact ⟨g, cap, e, trivial⟩
  simp only [Value.slice.injEq, Option.some.injEq, true_and] at e
  obtain ⟨rfl, _⟩ := e
  by_cases hc : cl = x
  · rw [if_pos hc]
    exact tail_ints hI hx (by omega) (by omega) (.inl (by omega))
  · rw [if_neg hc, Addr.add_lit, Nat.zero_add]
    exact tail_ints hI hx (by omega) (by omega) (.inr rfl)

theorem Sx.tail_none {B : Nat} {w wr : World} {r : Nat} {vr : Value} {LN cl x : Nat} {zs : List Int} (h : Sx B w wr r vr (.slice none LN cl) zs x) (hLN : LN = 8 * zs.length) :
    LN = 0 ∧ cl = 0 ∧ Ints wr none 0 0 ((unpack zs).drop x) := by
  obtain ⟨a', c', e, hI, _⟩ := Ints.of_owns h.l
  simp only [Value.slice.injEq] at e
  obtain ⟨rfl, e2, rfl⟩ := e
  obtain ⟨h1, h2, h3⟩ := hI.none
  refine ⟨by omega, h2, ?_⟩
  rw [h3, List.drop_nil]
  exact ⟨rfl, Nat.le_refl _, Nat.zero_le _, fun _ => rfl, .inl rfl⟩

set_option maxHeartbeats 8000000 in
set_option maxRecDepth 100000 in
theorem takes_walk (a : Option Addr) (n c : Nat) (zs : List Int) (sa : Option Addr) (sn sc : Nat) (S : Nat → Stp) (w : World) (hb : Bytes w a n c zs) (hsum : n ≤ 1048576) (hs : Script w sa sn S) :
    Calls Try.prog 4 #[.slice a n c, .slice sa sn sc] w fun e w' => e = .returned (.bool true) ∧ Below w.heap.size w w' := by
  have HB := hide hb
  have HS := hide hs
  have hl := hb.len
  have hsm := hs.max
  clear hb hs
  go_enter Try.func4, Try.ntmps4
  go_wp2_with fail
  refine (roomy_any a n c zs _ HB.out (by omega)).mono ?_
  rintro e w1 ⟨rfl, hown1, hb1⟩
  have HO1 := hide hown1
  have HB1 := hide hb1
  have hBin : Bytes w1 (some ⟨w.heap.size, 0, none⟩) n (n + 40) zs := by
    have h := (room_bytes hown1 HB.out.byte).take (k := n) (by omega)
    have e : (zs ++ marks).take n = zs := by rw [← hl]; exact List.take_left
    rw [e] at h
    exact h
  have HBin := hide hBin
  clear hown1 hb1 hBin
  go_wp2_with fail
  refine (open_any (some ⟨w.heap.size, 0, none⟩) n (n + 40) zs _ HBin.out (by omega)).mono ?_
  rintro e w2 ⟨r, vr, rfl, hR2, hb2⟩
  have HR2 := hide hR2
  have HB2 := hide (below_step HB1.out hb2)
  have HO2 := hide ((Keeps.of_below (S := fun _ => False) hb2 (fun k hk h' => by omega)).owns HO1.out (fun _ _ h => h))
  have hw1 : w.heap.size < w1.heap.size := (HO1.out.lt w.heap.size rfl).2
  clear hR2 hb2 HO1 HBin HB1
  go_wp2_with fail
  refine (awake_any w2).mono ?_
  rintro e w3 ⟨rfl, hb3⟩
  have HR3 := hide (HR2.out.later hb3)
  have HB3 := hide (below_step HB2.out hb3)
  have HO3 := hide ((Keeps.of_below (S := fun _ => False) hb3 (fun k hk h' => by omega)).owns HO2.out (fun _ _ h => h))
  clear hb3 HO2 HB2 HR2
  go_wp2_with fail
  refine (held_any w.heap.size 0 n (n + 40) a c zs _ (room_bytes HO3.out HB.out.byte) (HB.out.later HB3.out)).mono ?_
  rintro e w4 ⟨rfl, q, rfl⟩
  have hq := below_drewN (Below.refl w3.heap.size w3) q
  have HR4 := hide (HR3.out.later hq)
  have HB4 := hide (below_step HB3.out hq)
  have HO4 := hide ((Keeps.of_below (S := fun _ => False) hq (fun k hk h' => by omega)).owns HO3.out (fun _ _ h => h))
  clear hq HO3 HB3 HR3
  generalize w3.drewN q = w4 at *
  generalize hW1 : w1.heap.size = W1 at *
  go_wp2_with fail
  go_loopw [7] (fun i wr => ∃ (k : Nat) (ys : List Int), k ≤ n ∧ i = .int .i64 (k : Nat) ∧ wr.ownsRow w.heap.size 5 1 (.slice (some ⟨w.heap.size, 0, none⟩) (n + 40) (n + 40)) (n + 40) (u8s ys) ∧ Rd W1 wr r vr zs 0 ∧ Below w.heap.size w wr)
    (fun i _ => n - (intOf i).toNat)
  case atStart => exact ⟨0, _, Nat.zero_le _, rfl, HO4.out, HR4.out, HB4.out⟩
  case round =>
    clear HO4 HR4 HB4
    obtain ⟨k, ys, hk, rfl, hown, hRr, hbr⟩ := hrel
    have HO := hide hown
    have HRr := hide hRr
    have HBr := hide hbr
    clear hown hRr hbr
    by_cases hlt : k < n
    · have hyl : ys.length = n + 40 := by have := HO.out.1; simpa using this
      have hu : wr.cell? ⟨w.heap.size, k, none⟩ = some (.int .u8 (ys.getD k 0)) := by
        rw [HO.out.cellAt k (by omega)]
        simp [List.getD, show k < ys.length by omega]
      have hfz := HO.out.frozenAt k
      generalize ys.getD k 0 = y at hu
      clear hyl
      go_wp2_with fail
      have hst := HO.out.stored k (.int .u8 (bits BinOp.xor IntKind.u8 y 170))
      have e2 : (u8s ys).set k (.int .u8 (bits BinOp.xor IntKind.u8 y 170)) = u8s (ys.set k (bits BinOp.xor IntKind.u8 y 170)) := by simp [List.map_set]
      rw [e2] at hst
      have hR' := ((Keeps.refl _ (fun g => g = w.heap.size)).grown hst.2 (fun k h => by cases h; exact .inl rfl)).rd HRr.out (fun g hI hg => by
        subst hg
        rcases hI with hI | hI
        · have := HRr.out.base; omega
        · have := (HRr.out.own.lt _ hI).1; omega)
      go_roundw
      case rel => exact ⟨k + 1, _, by omega, by go_num, hst.1, hR', HBr.out.grown hst.2 HBr.out.size (fun k h => by cases h; exact Nat.le_refl _)⟩
      case measure => simp [intOf]; omega
    · clear HO
      go_wp2_with fail
      refine (refBits_any a n c zs wr (HB.out.later HBr.out) hsum).mono ?_
      rintro e w5 ⟨vl, rfl, hol, hb5⟩
      have HSx : Hid (Sx w.heap.size w w5 r vr vl zs 0) := hide ⟨(HRr.out.later hb5).mono (by omega), owns_mono hol HBr.out.size, HBr.out.trans (hb5.mono HBr.out.size)⟩
      obtain ⟨al, cl, rfl, hIl, _⟩ := Ints.of_owns hol
      clear hol hb5 hIl HRr HBr
      generalize hLN : (unpack zs).length = LN at *
      go_wp2_with fail
      have HLN : Hid (LN = 8 * zs.length) := hide (by rw [← hLN]; exact unpack_len zs)
      have hLNs : LN ≤ 8388608 := by have := HLN.out; omega
      have HLL := hide hl
      clear hl
      clear hLN
      go_loopw [9, 10] (fun at' i wr => ∃ k x : Nat, k ≤ sn ∧ x ≤ LN ∧ i = .int .i64 (k : Nat) ∧ at' = .int .i64 (x : Nat) ∧ Sx w.heap.size w wr r vr (.slice al LN cl) zs x) (fun _ i _ => sn - (intOf i).toNat)
      case atStart => exact ⟨0, 0, Nat.zero_le _, Nat.zero_le _, rfl, rfl, HSx.out⟩
      case round =>
        clear HSx
        obtain ⟨k, x, hk, hx, rfl, rfl, hSx⟩ := hrel
        have HSx := hide hSx
        clear hSx
        cases al with
        | none =>
          obtain ⟨hn1, hn2, hn3⟩ := HSx.out.tail_none HLN.out
          have HTl := hide hn3
          clear hn3
          obtain rfl : LN = 0 := hn1
          obtain rfl : cl = 0 := hn2
          obtain rfl : x = 0 := by omega
          by_cases hlt : k < sn
          · obtain ⟨b, off, rfl, -, -⟩ := (HS.out.below HSx.out.below).at (by omega)
            obtain ⟨s, hSk⟩ : ∃ s, S k = s := ⟨_, rfl⟩
            have HCs : Hid (∀ w', Below w.heap.size w w' → w'.cell? ⟨b, off + k * 3, none⟩ = some (.bool s.o) ∧ w'.cell? ⟨b, off + k * 3 + 1, none⟩ = some (.int .i64 s.n) ∧ w'.cell? ⟨b, off + k * 3 + 2, none⟩ = some (.int .i64 s.d)) := hide (fun w' hB => by
              obtain ⟨b', off', he', _, hc'⟩ := (HS.out.below hB).at (by omega)
              cases he'
              have := hc' k hlt
              rw [hSk] at this
              exact this)
            obtain ⟨c0, c1, c2⟩ := HCs.out _ HSx.out.below
            clear hSk
            rcases Bool.eq_false_or_eq_true s.o with ho | ho
            · rw [ho] at c0
              have hqq := HSx.out.count HLN.out HTl.out rfl s.d
              have hcall0 := fun w6 (h : Rd w.heap.size w6 r vr zs 0) => rones_any w.heap.size r vr zs 0 s.d w6 h
              have her := @ct_err (bitAt zs) 0 (8 * zs.length - 0) s.d
              obtain ⟨C, hC⟩ : ∃ C, ct (bitAt zs) 0 (8 * zs.length - 0) s.d = C := ⟨_, rfl⟩
              rw [hC] at hqq her
              rw [hC] at hcall0
              have HQ := hide hqq
              have HC0 := hide hcall0
              have HER := hide her
              clear hC hqq hcall0 her
              go_wp2_with fail
              go_quiet ((go_at_call 21; exact Calls.quiet_of_same (HQ.out _)))
              generalize hw6 : wr.drewN _ = w6
              have HSy : Hid (Sx w.heap.size w w6 r vr (.slice none 0 0) zs 0) := hide (by rw [← hw6]; exact HSx.out.drewN _)
              have hcall := HC0.out w6 HSy.out.rd
              clear hw6
              obtain ⟨d0, d1, d2⟩ := HCs.out _ HSy.out.below
              go_wp2_with fail
              refine hcall.mono ?_
              rintro e w7 ⟨rfl, hR7, hg7⟩
              have HSz := hide (HSy.out.moved hR7 hg7)
              clear hR7 hg7 hcall d0 d1 d2
              by_cases hf : C.2.2 = 0
              · have hft : (C.2.2 == 0) = true := by simp [hf]
                have hc21 : C.2.1 = 0 := by have := HSz.out.rd.le; have := HLN.out; omega
                have HSq : Hid (Sx w.heap.size w w7 r vr (.slice none 0 0) zs 0) := hide (by have h := HSz.out; rw [hc21] at h; exact h)
                have HTy := hide (HSq.out.tail_none HLN.out).2.2
                obtain ⟨E, hE⟩ := HSq.out.calls HLN.out HTy.out rfl
                have HE := hide hE
                clear hE
                go_wp2_with fail
                go_quiet ((first | (go_at_call 25; exact Calls.quiet_of_same (HE.out _).1) | (go_at_call 26; exact Calls.quiet_of (HE.out _).2.1) | (go_at_call 27; exact Calls.quiet_of (HE.out _).2.2.1) | (go_at_call 28; exact Calls.quiet_of_same (HE.out _).2.2.2)))
                generalize hw8 : w7.drewN _ = w8
                have HSw : Hid (Sx w.heap.size w w8 r vr (.slice none 0 0) zs 0) := hide (by rw [← hw8]; exact HSq.out.drewN _)
                clear hw8
                go_wp2_with fail
                go_roundw
                case rel => exact ⟨k + 1, 0, by omega, by omega, by go_num, by first | rfl | (congr 1; omega), HSw.out⟩
                case measure => simp [intOf]; omega
              · have hft : (C.2.2 == 0) = false := by simp [hf]
                have hc21 : C.2.1 = 0 := HER.out hf
                have HSq : Hid (Sx w.heap.size w w7 r vr (.slice none 0 0) zs 0) := hide (by have h := HSz.out; rw [hc21] at h; exact h)
                have HTy := hide (HSq.out.tail_none HLN.out).2.2
                obtain ⟨E, hE⟩ := HSq.out.calls HLN.out HTy.out rfl
                have HE := hide hE
                clear hE
                go_wp2_with fail
                go_quiet ((first | (go_at_call 25; exact Calls.quiet_of_same (HE.out _).1) | (go_at_call 26; exact Calls.quiet_of (HE.out _).2.1) | (go_at_call 27; exact Calls.quiet_of (HE.out _).2.2.1) | (go_at_call 28; exact Calls.quiet_of_same (HE.out _).2.2.2)))
                generalize hw8 : w7.drewN _ = w8
                have HSw : Hid (Sx w.heap.size w w8 r vr (.slice none 0 0) zs 0) := hide (by rw [← hw8]; exact HSq.out.drewN _)
                clear hw8
                go_wp2_with fail
                go_roundw
                case rel => exact ⟨k + 1, 0, by omega, by omega, by go_num, by first | rfl | (congr 1; omega), HSw.out⟩
                case measure => simp [intOf]; omega
            · rw [ho] at c0
              have hqq := HSx.out.take HLN.out HTl.out rfl s.d
              have hcall0 := fun w6 (h : Rd w.heap.size w6 r vr zs 0) => take_any w.heap.size r vr zs 0 s.d w6 h
              have her := @tk_err (bitAt zs) 0 (8 * zs.length - 0) s.d
              have hwd := @tk_wd (bitAt zs) 0 (8 * zs.length - 0) s.d
              obtain ⟨C, hC⟩ : ∃ C, tk (bitAt zs) 0 (8 * zs.length - 0) s.d = C := ⟨_, rfl⟩
              rw [hC] at hqq her hwd
              rw [hC] at hcall0
              have HQ := hide hqq
              have HC0 := hide hcall0
              have HER := hide her
              have HWD := hide hwd
              clear hwd
              clear hC hqq hcall0 her
              go_wp2_with fail
              go_quiet ((go_at_call 23; exact Calls.quiet_of_same (HQ.out _)))
              generalize hw6 : wr.drewN _ = w6
              have HSy : Hid (Sx w.heap.size w w6 r vr (.slice none 0 0) zs 0) := hide (by rw [← hw6]; exact HSx.out.drewN _)
              have hcall := HC0.out w6 HSy.out.rd
              clear hw6
              obtain ⟨d0, d1, d2⟩ := HCs.out _ HSy.out.below
              go_wp2_with fail
              refine hcall.mono ?_
              rintro e w7 ⟨rfl, hR7, hg7⟩
              have HSz := hide (HSy.out.moved hR7 hg7)
              clear hR7 hg7 hcall d0 d1 d2
              by_cases hf : C.2.2 = 0
              · have hft : (C.2.2 == 0) = true := by simp [hf]
                have hc21 : C.2.1 = 0 := by have := HSz.out.rd.le; have := HLN.out; omega
                have hsd : s.d = 0 := by have := HWD.out hf; omega
                have HSq : Hid (Sx w.heap.size w w7 r vr (.slice none 0 0) zs 0) := hide (by have h := HSz.out; rw [hc21] at h; exact h)
                have HTy := hide (HSq.out.tail_none HLN.out).2.2
                obtain ⟨E, hE⟩ := HSq.out.calls HLN.out HTy.out rfl
                have HE := hide hE
                clear hE
                go_wp2_with fail
                go_quiet ((first | (go_at_call 25; exact Calls.quiet_of_same (HE.out _).1) | (go_at_call 26; exact Calls.quiet_of (HE.out _).2.1) | (go_at_call 27; exact Calls.quiet_of (HE.out _).2.2.1) | (go_at_call 28; exact Calls.quiet_of_same (HE.out _).2.2.2)))
                generalize hw8 : w7.drewN _ = w8
                have HSw : Hid (Sx w.heap.size w w8 r vr (.slice none 0 0) zs 0) := hide (by rw [← hw8]; exact HSq.out.drewN _)
                clear hw8
                go_wp2_with fail
                go_roundw
                case rel => exact ⟨k + 1, 0, by omega, by omega, by go_num, by first | rfl | (congr 1; omega), HSw.out⟩
                case measure => simp [intOf]; omega
              · have hft : (C.2.2 == 0) = false := by simp [hf]
                have hc21 : C.2.1 = 0 := HER.out hf
                have HSq : Hid (Sx w.heap.size w w7 r vr (.slice none 0 0) zs 0) := hide (by have h := HSz.out; rw [hc21] at h; exact h)
                have HTy := hide (HSq.out.tail_none HLN.out).2.2
                obtain ⟨E, hE⟩ := HSq.out.calls HLN.out HTy.out rfl
                have HE := hide hE
                clear hE
                go_wp2_with fail
                go_quiet ((first | (go_at_call 25; exact Calls.quiet_of_same (HE.out _).1) | (go_at_call 26; exact Calls.quiet_of (HE.out _).2.1) | (go_at_call 27; exact Calls.quiet_of (HE.out _).2.2.1) | (go_at_call 28; exact Calls.quiet_of_same (HE.out _).2.2.2)))
                generalize hw8 : w7.drewN _ = w8
                have HSw : Hid (Sx w.heap.size w w8 r vr (.slice none 0 0) zs 0) := hide (by rw [← hw8]; exact HSq.out.drewN _)
                clear hw8
                go_wp2_with fail
                go_roundw
                case rel => exact ⟨k + 1, 0, by omega, by omega, by go_num, by first | rfl | (congr 1; omega), HSw.out⟩
                case measure => simp [intOf]; omega
          · obtain ⟨E, hE⟩ := HSx.out.calls HLN.out HTl.out rfl
            have HE := hide hE
            clear hE
            go_wp2_with fail
            go_quiet ((first | (go_at_call 25; exact Calls.quiet_of_same (HE.out _).1) | (go_at_call 26; exact Calls.quiet_of (HE.out _).2.1) | (go_at_call 27; exact Calls.quiet_of (HE.out _).2.2.1) | (go_at_call 28; exact Calls.quiet_of_same (HE.out _).2.2.2)))
            generalize hw8 : wr.drewN _ = w8
            have HSw : Hid (Below w.heap.size w w8) := hide (by rw [← hw8]; exact below_drewN HSx.out.below _)
            clear hw8
            go_wp2_with fail
            go_ret
            exact ⟨rfl, HSw.out⟩
        | some ad =>
          obtain ⟨ta, hta⟩ : ∃ ta, (if cl = x then some ad else some (ad.add x)) = ta := ⟨_, rfl⟩
          have htl := HSx.out.tail_some HLN.out hx
          rw [hta] at htl
          have HTl := hide htl
          clear htl
          by_cases hlt : k < sn
          · obtain ⟨b, off, rfl, -, -⟩ := (HS.out.below HSx.out.below).at (by omega)
            obtain ⟨s, hSk⟩ : ∃ s, S k = s := ⟨_, rfl⟩
            have HCs : Hid (∀ w', Below w.heap.size w w' → w'.cell? ⟨b, off + k * 3, none⟩ = some (.bool s.o) ∧ w'.cell? ⟨b, off + k * 3 + 1, none⟩ = some (.int .i64 s.n) ∧ w'.cell? ⟨b, off + k * 3 + 2, none⟩ = some (.int .i64 s.d)) := hide (fun w' hB => by
              obtain ⟨b', off', he', _, hc'⟩ := (HS.out.below hB).at (by omega)
              cases he'
              have := hc' k hlt
              rw [hSk] at this
              exact this)
            obtain ⟨c0, c1, c2⟩ := HCs.out _ HSx.out.below
            clear hSk
            rcases Bool.eq_false_or_eq_true s.o with ho | ho
            · rw [ho] at c0
              have hqq := HSx.out.count HLN.out HTl.out rfl s.d
              have hcall0 := fun w6 (h : Rd w.heap.size w6 r vr zs x) => rones_any w.heap.size r vr zs x s.d w6 h
              have her := @ct_err (bitAt zs) x (8 * zs.length - x) s.d
              obtain ⟨C, hC⟩ : ∃ C, ct (bitAt zs) x (8 * zs.length - x) s.d = C := ⟨_, rfl⟩
              rw [hC] at hqq her
              rw [hC] at hcall0
              have HQ := hide hqq
              have HC0 := hide hcall0
              have HER := hide her
              clear hC hqq hcall0 her
              go_wp2_with fail
              go_quiet ((go_at_call 21; exact Calls.quiet_of_same (HQ.out _)))
              generalize hw6 : wr.drewN _ = w6
              have HSy : Hid (Sx w.heap.size w w6 r vr (.slice (some ad) LN cl) zs x) := hide (by rw [← hw6]; exact HSx.out.drewN _)
              have hcall := HC0.out w6 HSy.out.rd
              clear hw6
              obtain ⟨d0, d1, d2⟩ := HCs.out _ HSy.out.below
              go_wp2_with fail
              refine hcall.mono ?_
              rintro e w7 ⟨rfl, hR7, hg7⟩
              have HSz := hide (HSy.out.moved hR7 hg7)
              clear hR7 hg7 hcall d0 d1 d2
              by_cases hf : C.2.2 = 0
              · have hft : (C.2.2 == 0) = true := by simp [hf]
                obtain ⟨y, hy⟩ : ∃ y, y = x + C.2.1 := ⟨_, rfl⟩
                rw [← hy] at HSz
                have hy' : (x : Int) + (C.2.1 : Int) = (y : Int) := by omega
                have hyL : y ≤ LN := by have := HSz.out.rd.le; have := HLN.out; omega
                clear hy
                obtain ⟨ty, hty⟩ : ∃ ty, (if cl = y then some ad else some (ad.add y)) = ty := ⟨_, rfl⟩
                have hty' := HSz.out.tail_some HLN.out hyL
                rw [hty] at hty'
                have HTy := hide hty'
                clear hty' 
                obtain ⟨E, hE⟩ := HSz.out.calls HLN.out HTy.out rfl
                have HE := hide hE
                clear hE
                go_wp2_with fail
                go_quiet ((first | (go_at_call 25; exact Calls.quiet_of_same (HE.out _).1) | (go_at_call 26; exact Calls.quiet_of (HE.out _).2.1) | (go_at_call 27; exact Calls.quiet_of (HE.out _).2.2.1) | (go_at_call 28; exact Calls.quiet_of_same (HE.out _).2.2.2)))
                generalize hw8 : w7.drewN _ = w8
                have HSw : Hid (Sx w.heap.size w w8 r vr (.slice (some ad) LN cl) zs y) := hide (by rw [← hw8]; exact HSz.out.drewN _)
                clear hw8
                go_wp2_with fail
                go_roundw
                case rel => exact ⟨k + 1, y, by omega, by omega, by go_num, by first | rfl | (congr 1; omega), HSw.out⟩
                case measure => simp [intOf]; omega
              · have hft : (C.2.2 == 0) = false := by simp [hf]
                have hy : x + C.2.1 = x := by rw [HER.out hf]; rfl
                rw [hy] at HSz
                clear hy
                have hty' := HSz.out.tail_some HLN.out hx
                rw [hta] at hty'
                have HTy := hide hty'
                clear hty' 
                obtain ⟨E, hE⟩ := HSz.out.calls HLN.out HTy.out rfl
                have HE := hide hE
                clear hE
                go_wp2_with fail
                go_quiet ((first | (go_at_call 25; exact Calls.quiet_of_same (HE.out _).1) | (go_at_call 26; exact Calls.quiet_of (HE.out _).2.1) | (go_at_call 27; exact Calls.quiet_of (HE.out _).2.2.1) | (go_at_call 28; exact Calls.quiet_of_same (HE.out _).2.2.2)))
                generalize hw8 : w7.drewN _ = w8
                have HSw : Hid (Sx w.heap.size w w8 r vr (.slice (some ad) LN cl) zs x) := hide (by rw [← hw8]; exact HSz.out.drewN _)
                clear hw8
                go_wp2_with fail
                go_roundw
                case rel => exact ⟨k + 1, x, by omega, by omega, by go_num, by first | rfl | (congr 1; omega), HSw.out⟩
                case measure => simp [intOf]; omega
            · rw [ho] at c0
              have hqq := HSx.out.take HLN.out HTl.out rfl s.d
              have hcall0 := fun w6 (h : Rd w.heap.size w6 r vr zs x) => take_any w.heap.size r vr zs x s.d w6 h
              have her := @tk_err (bitAt zs) x (8 * zs.length - x) s.d
              have hwd := @tk_wd (bitAt zs) x (8 * zs.length - x) s.d
              obtain ⟨C, hC⟩ : ∃ C, tk (bitAt zs) x (8 * zs.length - x) s.d = C := ⟨_, rfl⟩
              rw [hC] at hqq her hwd
              rw [hC] at hcall0
              have HQ := hide hqq
              have HC0 := hide hcall0
              have HER := hide her
              have HWD := hide hwd
              clear hwd
              clear hC hqq hcall0 her
              go_wp2_with fail
              go_quiet ((go_at_call 23; exact Calls.quiet_of_same (HQ.out _)))
              generalize hw6 : wr.drewN _ = w6
              have HSy : Hid (Sx w.heap.size w w6 r vr (.slice (some ad) LN cl) zs x) := hide (by rw [← hw6]; exact HSx.out.drewN _)
              have hcall := HC0.out w6 HSy.out.rd
              clear hw6
              obtain ⟨d0, d1, d2⟩ := HCs.out _ HSy.out.below
              go_wp2_with fail
              refine hcall.mono ?_
              rintro e w7 ⟨rfl, hR7, hg7⟩
              have HSz := hide (HSy.out.moved hR7 hg7)
              clear hR7 hg7 hcall d0 d1 d2
              by_cases hf : C.2.2 = 0
              · have hft : (C.2.2 == 0) = true := by simp [hf]
                obtain ⟨y, hy⟩ : ∃ y, y = x + C.2.1 := ⟨_, rfl⟩
                rw [← hy] at HSz
                have hy' : (x : Int) + s.d = (y : Int) := by have := HWD.out hf; omega
                have hyL : y ≤ LN := by have := HSz.out.rd.le; have := HLN.out; omega
                clear hy
                obtain ⟨ty, hty⟩ : ∃ ty, (if cl = y then some ad else some (ad.add y)) = ty := ⟨_, rfl⟩
                have hty' := HSz.out.tail_some HLN.out hyL
                rw [hty] at hty'
                have HTy := hide hty'
                clear hty' 
                obtain ⟨E, hE⟩ := HSz.out.calls HLN.out HTy.out rfl
                have HE := hide hE
                clear hE
                go_wp2_with fail
                go_quiet ((first | (go_at_call 25; exact Calls.quiet_of_same (HE.out _).1) | (go_at_call 26; exact Calls.quiet_of (HE.out _).2.1) | (go_at_call 27; exact Calls.quiet_of (HE.out _).2.2.1) | (go_at_call 28; exact Calls.quiet_of_same (HE.out _).2.2.2)))
                generalize hw8 : w7.drewN _ = w8
                have HSw : Hid (Sx w.heap.size w w8 r vr (.slice (some ad) LN cl) zs y) := hide (by rw [← hw8]; exact HSz.out.drewN _)
                clear hw8
                go_wp2_with fail
                go_roundw
                case rel => exact ⟨k + 1, y, by omega, by omega, by go_num, by first | rfl | (congr 1; omega), HSw.out⟩
                case measure => simp [intOf]; omega
              · have hft : (C.2.2 == 0) = false := by simp [hf]
                have hy : x + C.2.1 = x := by rw [HER.out hf]; rfl
                rw [hy] at HSz
                clear hy
                have hty' := HSz.out.tail_some HLN.out hx
                rw [hta] at hty'
                have HTy := hide hty'
                clear hty' 
                obtain ⟨E, hE⟩ := HSz.out.calls HLN.out HTy.out rfl
                have HE := hide hE
                clear hE
                go_wp2_with fail
                go_quiet ((first | (go_at_call 25; exact Calls.quiet_of_same (HE.out _).1) | (go_at_call 26; exact Calls.quiet_of (HE.out _).2.1) | (go_at_call 27; exact Calls.quiet_of (HE.out _).2.2.1) | (go_at_call 28; exact Calls.quiet_of_same (HE.out _).2.2.2)))
                generalize hw8 : w7.drewN _ = w8
                have HSw : Hid (Sx w.heap.size w w8 r vr (.slice (some ad) LN cl) zs x) := hide (by rw [← hw8]; exact HSz.out.drewN _)
                clear hw8
                go_wp2_with fail
                go_roundw
                case rel => exact ⟨k + 1, x, by omega, by omega, by go_num, by first | rfl | (congr 1; omega), HSw.out⟩
                case measure => simp [intOf]; omega
          · obtain ⟨E, hE⟩ := HSx.out.calls HLN.out HTl.out rfl
            have HE := hide hE
            clear hE
            go_wp2_with fail
            go_quiet ((first | (go_at_call 25; exact Calls.quiet_of_same (HE.out _).1) | (go_at_call 26; exact Calls.quiet_of (HE.out _).2.1) | (go_at_call 27; exact Calls.quiet_of (HE.out _).2.2.1) | (go_at_call 28; exact Calls.quiet_of_same (HE.out _).2.2.2)))
            generalize hw8 : wr.drewN _ = w8
            have HSw : Hid (Below w.heap.size w w8) := hide (by rw [← hw8]; exact below_drewN HSx.out.below _)
            clear hw8
            go_wp2_with fail
            go_ret
            exact ⟨rfl, HSw.out⟩

end Go.Proofs.Ytkmhdkeneggceaa

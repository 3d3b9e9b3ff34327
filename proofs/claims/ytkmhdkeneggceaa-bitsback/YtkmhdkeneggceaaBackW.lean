/-
  The walk of BitsBack.
-/
import Derived.Test.YtkmhdkeneggceaaBack0
namespace Go.Proofs.Ytkmhdkeneggceaa
open Go.RowKit Bt
set_option linter.unusedVariables false

theorem info30 : (Try.prog.info? 30).map (fun i => (i.zero, i.size, i.bytes)) = some (some (.agg #[.bool false, .int .i64 0, .int .i64 0]), 3, 24) := by kernel_rfl

/-- How it stands when k steps of the script have been put. -/
structure Stand (B : Nat) (w wr : World) (R : Nat) (v vd : Value) (S : Nat → Stp) (k : Nat) : Prop where
  wri : Wr B wr R v (bitsOf (doneOf S k))
  own : wr.ownsRow B 30 3 vd (doneOf S k).length (cellsOf (doneOf S k))
  below : Below B w wr

/-- The step is put; not yet noted. -/
structure Mid (B : Nat) (w wr : World) (R : Nat) (v vd : Value) (D : List Stp) (s : Stp) : Prop where
  wri : Wr B wr R v (bitsOf D ++ s.made)
  own : wr.ownsRow B 30 3 vd D.length (cellsOf D)
  below : Below B w wr

theorem Stand.put {B : Nat} {w wr w3 : World} {R : Nat} {v v' vd : Value} {S : Nat → Stp} {k : Nat} {s : Stp} (h : Stand B w wr R v vd S k) (hW : Wr B w3 R v' (bitsOf (doneOf S k) ++ s.made)) (hG : Goes wr w3 R v v') : Mid B w w3 R v' vd (doneOf S k) s :=
  ⟨hW, hG.keeps.owns h.own (fun g hg hI => by
    rcases hI with rfl | hI
    · exact owns_not h.own h.wri.heap (by decide) hg
    · rcases owns_apart h.own h.wri.own (by decide) with h' | h'
      · rw [h'] at hg; cases hg
      · exact h' (by rw [hg, hI])), h.below.trans (hG.below h.wri)⟩

theorem Mid.skip {B : Nat} {w wr : World} {R : Nat} {v vd : Value} {S : Nat → Stp} {k : Nat} {s : Stp} (h : Mid B w wr R v vd (doneOf S k) s) (hs : S k = s) (hk : s.ok = false) : Stand B w wr R v vd S (k + 1) := by
  have e := doneOf_bad (S := S) (i := k) (by rw [hs]; exact hk)
  have h1 := h.wri
  rw [made_bad hk, List.append_nil] at h1
  exact ⟨by rw [e]; exact h1, by rw [e]; exact h.own, h.below⟩

theorem Mid.note {B : Nat} {w w3 w4 : World} {R : Nat} {v vd vd' : Value} {S : Nat → Stp} {k : Nat} {s : Stp} (h : Mid B w w3 R v vd (doneOf S k) s) (hs : S k = s) (hk : s.ok = true)
    (hown : w4.ownsRow B 30 3 vd' ((doneOf S k).length + 1) (cellsOf (doneOf S k) ++ s.cells)) (hgr : (w3.alloc (.cells #[.bool s.o, .int .i64 s.n, .int .i64 s.d] 30)).grownBy w4 vd.ownBlock) : Stand B w w4 R v vd' S (k + 1) := by
  have e := doneOf_ok (S := S) (i := k) (by rw [hs]; exact hk)
  rw [hs] at e
  have hb : Below w3.heap.size w3 (w3.alloc (.cells #[.bool s.o, .int .i64 s.n, .int .i64 s.d] 30)) := (Below.refl _ _).alloc (Nat.le_refl _) _
  have hW := h.wri.later hb
  have ho := h.own.kept (World.grownBy_alloc w3 (.cells #[.bool s.o, .int .i64 s.n, .int .i64 s.d] 30) none) (Decidable.em _)
  have hbase : B ≤ w3.heap.size := Nat.le_trans h.wri.base (Nat.le_of_lt h.wri.lt)
  have hk2 := (Keeps.refl _ (fun g => vd.ownBlock = some g)).grown hgr (fun k hk => .inl hk)
  refine ⟨?_, ?_, ?_⟩
  · rw [e, bitsOf_snoc]
    refine hk2.wr hW (fun g hI hg => ?_)
    rcases hI with rfl | hI
    · exact owns_not ho hW.heap (by decide) hg
    · rcases owns_apart ho hW.own (by decide) with h' | h'
      · rw [h'] at hg; cases hg
      · exact h' (by rw [hg, hI])
  · rw [e, cellsOf_snoc, List.length_append]; exact hown
  · exact (h.below.trans (hb.mono hbase)).trans (hk2.below (by simp; omega) (fun g hg => (ho.lt g hg).1))

theorem Stand.drew {B : Nat} {w wr : World} {R : Nat} {v vd : Value} {S : Nat → Stp} {k : Nat} (h : Stand B w wr R v vd S k) : Stand B w wr.drew R v vd S k :=
  ⟨⟨h.wri.heap, h.wri.own, h.wri.base, h.wri.bin⟩, h.own, ⟨h.below.os, h.below.tape, h.below.output, h.below.size, h.below.block⟩⟩

theorem step_news (w : World) (s : Stp) : ∀ j u, s.cells[j]? = some u → (w.alloc (.cells #[.bool s.o, .int .i64 s.n, .int .i64 s.d] 30)).cell? ((⟨w.heap.size, 0, none⟩ : Addr).add j) = some u := by
  intro j u hu
  match j, hu with
  | 0, hu => simp at hu; subst hu; simp [Addr.add]
  | 1, hu => simp at hu; subst hu; simp [Addr.add]
  | 2, hu => simp at hu; subst hu; simp [Addr.add]
  | j + 3, hu => simp at hu

theorem owns_slice {base e size n : Nat} {w : World} {v : Value} {xs : List Value} (h : w.ownsRow base e size v n xs) : ∃ a cap, v = .slice a n cap ∧ (n ≠ 0 → ∃ g, a = some ⟨g, 0, none⟩) := by
  rcases h.2 with ⟨rfl, rfl⟩ | ⟨g, cap, cur, rfl, _⟩
  · exact ⟨none, 0, rfl, fun h => absurd rfl h⟩
  · exact ⟨some ⟨g, 0, none⟩, cap, rfl, fun _ => ⟨g, rfl⟩⟩

theorem cellsOf_len (D : List Stp) : (cellsOf D).length = 3 * D.length := by
  induction D with
  | nil => rfl
  | cons s D ih => simp only [cellsOf, List.flatMap_cons, List.length_append, List.length_cons] at *; simp at *; omega
theorem cellsOf_get (D : List Stp) {j : Nat} (hj : j < D.length) {t : Nat} (ht : t < 3) : (cellsOf D)[j * 3 + t]? = (D[j].cells)[t]? := by
  induction D generalizing j with
  | nil => simp at hj
  | cons s D ih =>
    have e : cellsOf (s :: D) = s.cells ++ cellsOf D := by simp [cellsOf]
    rw [e]
    cases j with
    | zero => rw [List.getElem?_append_left (by simp; omega)]; simp
    | succ j =>
      rw [List.getElem?_append_right (by simp; omega)]
      have := ih (j := j) (by simpa using hj)
      simp only [List.getElem_cons_succ]
      rw [← this]
      congr 1
      simp
      omega

/-- How it stands when j steps have been read back. -/
structure Readg (B : Nat) (w wr : World) (r : Nat) (vr vd : Value) (D : List Stp) (j : Nat) : Prop where
  rd : Rd B wr r vr (pack (bitsOf D)) (bitsOf (D.take j)).length
  own : wr.ownsRow B 30 3 vd D.length (cellsOf D)
  below : Below B w wr

theorem Readg.step {B : Nat} {w wr w' : World} {r : Nat} {vr vd : Value} {D : List Stp} {j m : Nat} (h : Readg B w wr r vr vd D j) (hj : j < D.length) (hm : m = D[j].made.length)
    (hR : Rd B w' r vr (pack (bitsOf D)) ((bitsOf (D.take j)).length + m)) (hg : wr.grownBy w' (some r)) : Readg B w w' r vr vd D (j + 1) := by
  subst hm
  refine ⟨by rw [bitsOf_take D hj, List.length_append]; exact hR, h.own.kept hg (.inr (owns_not h.own h.rd.heap (by decide))), h.below.grown hg (Nat.le_trans h.rd.base (Nat.le_of_lt h.rd.lt)) (fun k hk => by cases hk; exact h.rd.base)⟩

theorem Readg.cell {B : Nat} {w wr : World} {r g cap : Nat} {vr : Value} {D : List Stp} {j : Nat} (h : Readg B w wr r vr (.slice (some ⟨g, 0, none⟩) D.length cap) D j) {i : Nat} (hi : i < D.length) :
    wr.cell? ⟨g, i * 3, none⟩ = some (.bool D[i].o) ∧ wr.cell? ⟨g, i * 3 + 1, none⟩ = some (.int .i64 D[i].n) ∧ wr.cell? ⟨g, i * 3 + 2, none⟩ = some (.int .i64 D[i].d) := by
  have hl := cellsOf_len D
  refine ⟨?_, ?_, ?_⟩
  · rw [h.own.cellAt (i * 3) (by omega), ← Nat.add_zero (i * 3), cellsOf_get D hi (by omega)]; rfl
  · rw [h.own.cellAt (i * 3 + 1) (by omega), cellsOf_get D hi (by omega)]; rfl
  · rw [h.own.cellAt (i * 3 + 2) (by omega), cellsOf_get D hi (by omega)]; rfl

/-- What the next step answers. -/
theorem Readg.takes {B : Nat} {w wr : World} {r : Nat} {vr vd : Value} {D : List Stp} {j : Nat} (h : Readg B w wr r vr vd D j) (hj : j < D.length) (hok : D[j].ok = true) :
    (D[j].o = true → ct (bitAt (pack (bitsOf D))) (bitsOf (D.take j)).length (8 * (pack (bitsOf D)).length - (bitsOf (D.take j)).length) D[j].d = (D[j].n, D[j].made.length, 0)) ∧
    (D[j].o = false → tk (bitAt (pack (bitsOf D))) (bitsOf (D.take j)).length (8 * (pack (bitsOf D)).length - (bitsOf (D.take j)).length) D[j].d = (D[j].n, D[j].made.length, 0)) := by
  have hsp := bitsOf_split D hj
  have hf : ∀ k, bitAt (pack (bitsOf D)) k = (bitsOf (D.take j) ++ D[j].made ++ bitsOf (D.drop (j + 1))).getD k 0 := fun k => by rw [bitAt_pack (bitsOf_bin D), ← hsp]
  have hl : D[j].made.length ≤ 8 * (pack (bitsOf D)).length - (bitsOf (D.take j)).length := by
    have := congrArg List.length hsp
    rw [List.length_append, List.length_append] at this
    rw [pack_len]
    omega
  exact ⟨fun ho => read_ones ho hok hf hl, fun ho => read_plain ho hok hf hl⟩

set_option maxHeartbeats 4000000 in
set_option maxRecDepth 100000 in
theorem back_walk (sa : Option Addr) (sn sc : Nat) (S : Nat → Stp) (w : World) (hs : Script w sa sn S) (hsum : sn * 24 ≤ 140737488351232) :
    Calls Try.prog 5 #[.slice sa sn sc] w fun e w' => e = .returned (.bool true) ∧ Below w.heap.size w w' := by
  obtain ⟨i1, hi, hz0, hz1, hz2⟩ := info_parts info30
  have HS := hide hs
  clear hs
  go_enter Try.func5, Try.ntmps5
  go_wp2_with fail
  refine (new_any w.heap.size w (Nat.le_refl _)).mono ?_
  rintro e w1 ⟨rfl, hW1, hB1⟩
  have HW1 := hide hW1
  have HB1 := hide hB1
  clear hW1 hB1
  go_wp2_with fail
  refine (awake_any w1).mono ?_
  rintro e w2 ⟨rfl, hB2⟩
  have HD : Hid (Stand w.heap.size w w2 w.heap.size (.slice none 0 0) (.slice none 0 0) S 0) := hide ⟨HW1.out.later hB2, ⟨rfl, .inl ⟨rfl, rfl⟩⟩, HB1.out.trans (hB2.mono HB1.out.size)⟩
  clear hB2 HB1 HW1
  go_wp2_with fail
  go_loopw [4, 5, 6] (fun vd n i wr => ∃ (k : Nat) (v : Value), k ≤ sn ∧ i = .int .i64 (k : Nat) ∧ n = .int .i64 ((bitsOf (doneOf S k)).length : Nat) ∧ Stand w.heap.size w wr w.heap.size v vd S k) (fun _ _ i _ => sn - (intOf i).toNat)
  case atStart => exact ⟨0, _, Nat.zero_le _, rfl, rfl, HD.out⟩
  case round =>
    obtain ⟨k, v, hk, rfl, rfl, hD⟩ := hrel
    have HD := hide hD
    clear hD
    have hdl := doneOf_len S k
    have hbl := bitsOf_len (doneOf S k)
    by_cases hlt : k < sn
    · have HSr := hide (HS.out.below HD.out.below)
      obtain ⟨b, off, rfl, hblt, hc⟩ := HSr.out.at (by omega)
      obtain ⟨c0, c1, c2⟩ := hc k hlt
      clear hc
      generalize hL : (bitsOf (doneOf S k)).length = L at *
      generalize hDl : (doneOf S k).length = DL at *
      go_wp2_with fail
      refine (puts_any w.heap.size w.heap.size v _ (S k) wr HD.out.wri (by omega)).mono ?_
      rintro e w3 ⟨rfl, v3, hW3, hG3⟩
      have HM := hide (HD.out.put hW3 hG3)
      clear hW3 hG3 HD
      generalize hSk : S k = s at *
      cases hok : s.ok with
      | false =>
        have he : s.err = 1 := by simp [Stp.err, hok]
        have HD2 := hide (HM.out.skip hSk hok)
        have HL2 : Hid ((bitsOf (doneOf S (k + 1))).length = L) := hide (by rw [doneOf_bad (by rw [hSk]; exact hok)]; exact hL)
        rw [he]
        go_wp2_with fail
        go_roundw
        case rel => exact ⟨k + 1, v3, by omega, by go_num, by rw [HL2.out], HD2.out⟩
        case measure => simp [intOf]; omega
      | true =>
        have he : s.err = 0 := by simp [Stp.err, hok]
        rw [he]
        have HN := hide (step_news w3 s)
        have hnc : ∀ u ∈ s.cells, u.oneCell' = true := by simp [Value.oneCell']
        have HO : Hid ((w3.alloc (.cells #[.bool s.o, .int .i64 s.n, .int .i64 s.d] 30)).ownsRow w.heap.size 30 3 u4 DL (cellsOf (doneOf S k))) := hide (by rw [← hDl]; exact HM.out.own.kept (World.grownBy_alloc w3 _ none) (Decidable.em _))
        have hsz : w.heap.size ≤ w3.heap.size := HM.out.below.size
        obtain ⟨hr1, hr2, hr3, hr4⟩ := ok_range hok
        have HCs : Hid (∀ w', Below w.heap.size w w' → w'.cell? ⟨b, off + k * 3, none⟩ = some (.bool s.o) ∧ w'.cell? ⟨b, off + k * 3 + 1, none⟩ = some (.int .i64 s.n) ∧ w'.cell? ⟨b, off + k * 3 + 2, none⟩ = some (.int .i64 s.d)) := hide (fun w' hB => by
          obtain ⟨b', off', he', _, hc'⟩ := (HS.out.below hB).at (by omega)
          cases he'
          have := hc' k hlt
          rw [hSk] at this
          exact this)
        obtain ⟨c0', c1', c2'⟩ := HCs.out w3 HM.out.below
        clear c0 c1 c2
        have HL2 : Hid ((bitsOf (doneOf S (k + 1))).length = L + s.made.length) := hide (by rw [doneOf_ok (by rw [hSk]; exact hok), hSk, bitsOf_snoc, List.length_append, hL])
        rcases Bool.eq_false_or_eq_true s.o with ho0 | ho0
        · have HML := hide (made_ones ho0 hok)
          have ho := hide ho0
          clear ho0
          by_cases hnd : s.n < s.d
          · have HML2 : Hid ((s.made.length : Int) = s.n + 1) := hide (by rw [HML.out, if_pos hnd])
            go_wp2_with (at_builtin; refine wpList_append_own _ rfl _ _ 22 rfl w.heap.size 30 i1 (.agg #[.bool false, .int .i64 0, .int .i64 0]) 3 24 Try.underlying22 hi hz0 hz1 hz2 rfl (by decide) u4 DL (cellsOf (doneOf S k)) rfl HO.out ⟨w3.heap.size, 0, none⟩ 1 1 s.cells rfl rfl HN.out hnc (by unfold maxLen; omega) (by omega) (by simp; omega) ?_; intro vd' w4 hown4 hgr4 _; rw [← hDl] at hown4; have HD4 := hide (HM.out.note hSk hok hown4 hgr4); clear hown4 hgr4; obtain ⟨d0, d1, d2⟩ := HCs.out w4 HD4.out.below; rw [ho.out] at d0)
            go_region
            go_wp2_with fail
            go_roundw
            case rel => exact ⟨k + 1, v3, by omega, by go_num, by rw [HL2.out]; congr 1; have := HML2.out; omega, HD4.out.drew⟩
            case measure => simp [intOf]; omega
          · have HML2 : Hid ((s.made.length : Int) = s.n) := hide (by rw [HML.out, if_neg hnd, Int.add_zero])
            go_wp2_with (at_builtin; refine wpList_append_own _ rfl _ _ 22 rfl w.heap.size 30 i1 (.agg #[.bool false, .int .i64 0, .int .i64 0]) 3 24 Try.underlying22 hi hz0 hz1 hz2 rfl (by decide) u4 DL (cellsOf (doneOf S k)) rfl HO.out ⟨w3.heap.size, 0, none⟩ 1 1 s.cells rfl rfl HN.out hnc (by unfold maxLen; omega) (by omega) (by simp; omega) ?_; intro vd' w4 hown4 hgr4 _; rw [← hDl] at hown4; have HD4 := hide (HM.out.note hSk hok hown4 hgr4); clear hown4 hgr4; obtain ⟨d0, d1, d2⟩ := HCs.out w4 HD4.out.below; rw [ho.out] at d0)
            go_region
            go_wp2_with fail
            go_roundw
            case rel => exact ⟨k + 1, v3, by omega, by go_num, by rw [HL2.out]; congr 1; have := HML2.out; omega, HD4.out.drew⟩
            case measure => simp [intOf]; omega
        · have HML := hide (made_plain ho0 hok)
          have ho := hide ho0
          clear ho0
          go_wp2_with (at_builtin; refine wpList_append_own _ rfl _ _ 22 rfl w.heap.size 30 i1 (.agg #[.bool false, .int .i64 0, .int .i64 0]) 3 24 Try.underlying22 hi hz0 hz1 hz2 rfl (by decide) u4 DL (cellsOf (doneOf S k)) rfl HO.out ⟨w3.heap.size, 0, none⟩ 1 1 s.cells rfl rfl HN.out hnc (by unfold maxLen; omega) (by omega) (by simp; omega) ?_; intro vd' w4 hown4 hgr4 _; rw [← hDl] at hown4; have HD4 := hide (HM.out.note hSk hok hown4 hgr4); clear hown4 hgr4; obtain ⟨d0, d1, d2⟩ := HCs.out w4 HD4.out.below; rw [ho.out] at d0)
          go_roundw
          case rel => exact ⟨k + 1, v3, by omega, by go_num, by rw [HL2.out]; congr 1; have := HML.out; omega, HD4.out⟩
          case measure => simp [intOf]; omega
    · obtain rfl : k = sn := by omega
      generalize hD0 : doneOf S k = D at *
      have hall : ∀ s ∈ D, s.ok = true := by rw [← hD0]; exact doneOf_all S k
      have HALL := hide hall
      have HSt : Hid (Wr w.heap.size wr w.heap.size v (bitsOf D) ∧ wr.ownsRow w.heap.size 30 3 u4 D.length (cellsOf D) ∧ Below w.heap.size w wr) := hide (by rw [← hD0]; exact ⟨HD.out.wri, HD.out.own, HD.out.below⟩)
      clear HD hall hD0
      generalize hbs : bitsOf D = bs at *
      generalize hL : bs.length = L at *
      go_wp2_with fail
      refine (wbytes_any w.heap.size w.heap.size v bs wr HSt.out.1 (by omega)).mono ?_
      rintro e w5 ⟨v5, rfl, ho5, hb5⟩
      rw [hL] at ho5
      obtain ⟨a5, c5, rfl, hy5, _⟩ := Bytes.of_owns ho5 (pack_byte HSt.out.1.bin)
      have HW5 := hide (HSt.out.1.later hb5)
      have HO5 := hide ((Keeps.of_below (S := fun _ => False) hb5 (fun k hk h' => by omega)).owns HSt.out.2.1 (fun _ _ h => h))
      have HB5 := hide (HSt.out.2.2.trans (hb5.mono HSt.out.2.2.size))
      have HY5 := hide hy5
      clear ho5 hb5 hy5 HSt
      go_wp2_with fail
      refine (open_any a5 _ c5 _ w5 HY5.out (by omega)).mono ?_
      rintro e w6 ⟨r, vr, rfl, hR6, hb6⟩
      have HW6 := hide (HW5.out.later hb6)
      have HO6 := hide ((Keeps.of_below (S := fun _ => False) hb6 (fun k hk h' => by omega)).owns HO5.out (fun _ _ h => h))
      have HB6 := hide (HB5.out.trans (hb6.mono HB5.out.size))
      have HR6 := hide (hR6.mono HB5.out.size)
      clear hb6 hR6 HW5 HO5 HB5 HY5
      have hq : ((((L + 7) / 8 : Nat) : Int) != ((L : Int) + 7) / 8) = false := by simp
      obtain ⟨ad, cd, rfl, had⟩ := owns_slice HO6.out
      generalize hDl : D.length = DL at *
      go_wp2_with fail
      refine (len_any w.heap.size _ _ _ w6 HW6.out).mono ?_
      rintro e w7 ⟨rfl, rfl⟩
      rw [hL]
      go_wp2_with fail
      subst hbs
      have HRg : Hid (Readg w.heap.size w w7 r vr (.slice ad DL cd) D 0) := hide ⟨by simpa [bitsOf] using HR6.out, by rw [hDl]; exact HO6.out, HB6.out⟩
      clear HR6 HO6 HB6 HW6
      go_loopw [10] (fun i wr => ∃ j : Nat, j ≤ DL ∧ i = .int .i64 (j : Nat) ∧ Readg w.heap.size w wr r vr (.slice ad DL cd) D j) (fun i _ => DL - (intOf i).toNat)
      case atStart => exact ⟨0, Nat.zero_le _, rfl, HRg.out⟩
      case round =>
        clear HRg
        obtain ⟨j, hj, rfl, hRg⟩ := hrel
        have HRg := hide hRg
        clear hRg
        by_cases hlt2 : j < DL
        · obtain ⟨g, rfl⟩ := had (by omega)
          have hjD : j < D.length := by omega
          have HCell : Hid (∀ w' j', Readg w.heap.size w w' r vr (.slice (some ⟨g, 0, none⟩) DL cd) D j' → w'.cell? ⟨g, j * 3, none⟩ = some (.bool D[j].o) ∧ w'.cell? ⟨g, j * 3 + 1, none⟩ = some (.int .i64 D[j].n) ∧ w'.cell? ⟨g, j * 3 + 2, none⟩ = some (.int .i64 D[j].d)) := hide (fun w' j' h => by rw [← hDl] at h; exact h.cell hjD)
          obtain ⟨c0, c1, c2⟩ := HCell.out _ _ HRg.out
          have hokj := HALL.out _ (List.getElem_mem hjD)
          have HT := hide (HRg.out.takes hjD hokj)
          have HST := hide (fun m w' => HRg.out.step (m := m) (w' := w') hjD)
          obtain ⟨hr1, hr2, hr3, hr4⟩ := ok_range hokj
          clear hokj
          generalize D[j] = s at *
          rcases Bool.eq_false_or_eq_true s.o with ho | ho
          · have hcall := rones_any w.heap.size r vr (pack (bitsOf D)) (bitsOf (D.take j)).length s.d _ HRg.out.rd
            rw [HT.out.1 ho] at hcall
            rw [ho] at c0
            go_wp2_with fail
            refine hcall.mono ?_
            rintro e w8 ⟨rfl, hR8, hg8⟩
            have HR8 := hide (HST.out _ _ rfl hR8 hg8)
            obtain ⟨d0, d1, d2⟩ := HCell.out _ _ HR8.out
            clear hR8 hg8 hcall c0 c1 c2
            go_wp2_with fail
            go_roundw
            case rel => exact ⟨j + 1, by omega, by go_num, HR8.out⟩
            case measure => simp [intOf]; omega
          · have hcall := take_any w.heap.size r vr (pack (bitsOf D)) (bitsOf (D.take j)).length s.d _ HRg.out.rd
            rw [HT.out.2 ho] at hcall
            rw [ho] at c0
            go_wp2_with fail
            refine hcall.mono ?_
            rintro e w8 ⟨rfl, hR8, hg8⟩
            have HR8 := hide (HST.out _ _ rfl hR8 hg8)
            obtain ⟨d0, d1, d2⟩ := HCell.out _ _ HR8.out
            clear hR8 hg8 hcall c0 c1 c2
            go_wp2_with fail
            go_roundw
            case rel => exact ⟨j + 1, by omega, by go_num, HR8.out⟩
            case measure => simp [intOf]; omega
        · obtain rfl : j = DL := by omega
          have HE : Hid (D.take j = D) := hide (List.take_of_length_le (by omega))
          have HR9 := hide HRg.out.rd
          rw [HE.out] at HR9
          have HB9 := hide HRg.out.below
          go_wp2_with fail
          refine (rat_any w.heap.size r vr _ _ _ HR9.out).mono ?_
          rintro e w9 ⟨rfl, rfl⟩
          rw [hL]
          go_wp2_with fail
          refine (rend_any w.heap.size r vr _ _ _ HR9.out).mono ?_
          rintro e w10 ⟨rfl, rfl⟩
          rw [end_clean (bitsOf_bin D)]
          go_wp2_with fail
          go_ret
          exact ⟨rfl, ⟨HB9.out.os, HB9.out.tape, HB9.out.output, HB9.out.size, HB9.out.block⟩⟩

end Go.Proofs.Ytkmhdkeneggceaa

/-
  pack.Decode: what it answers.
-/
import Derived.Test.YtphmamhchkolkaaMN3
import Derived.Test.YtphmamhchkolkaaMOcY
namespace Go.Proofs.Pck
open Ytphmamhchkolkaa
open Go.RowKit Go.IntWalk Ytphmamhchkolkaa.Knd
open Ytphmamhchkolkaa.Oct (vb vint lim scn scan pw rdU rdI zz uz)
open Cde (In i0 ia cd is6 i6 Ins agL arN okI okT mcB ccE csB rgN rgs rgB abc zA six_of four_of at6 has_new1 below_drew ccheck_any)
set_option linter.unusedVariables false

theorem dec_end {zs zs' : List Int} {f d o e' e3 : Int} {L : List In} (hl : zs.length ≤ 4096) (h : Out coD 0 zs (f, d, L, o) e' zs') (h3 : fs (fs e' (Ocm.doneE zs'.length)) (ccE f d L o) = e3) : (e3 ≠ 0 → deC zs = (e3, c0)) ∧ (e3 = 0 → deC zs = (0, (f, d, L, o))) := by
  obtain ⟨h1, h2⟩ := h.2 rfl
  have hl' : ¬ 4096 < zs.length := by omega
  unfold deC
  rw [if_neg hl']
  by_cases he : e' = 0
  · obtain ⟨hx, hz⟩ := h2 he
    rw [he, fs_zero] at h3
    rw [if_neg (by rw [← h1]; simpa using he), ← hx, ← hz]
    dsimp only
    by_cases ht : zs' = []
    · subst ht
      rw [show Ocm.doneE ([] : List Int).length = 0 from rfl, fs_zero] at h3
      rw [if_neg (by simp)]
      unfold ccE at h3
      by_cases hm : mcB f d L o = true
      · rw [if_pos hm] at h3 ⊢
        exact ⟨fun h => absurd h3.symm h, fun _ => rfl⟩
      · rw [if_neg hm] at h3 ⊢
        exact ⟨fun _ => by rw [h3], fun h => by rw [h] at h3; cases h3⟩
    · have h5 : Ocm.doneE zs'.length = 5 := by
        unfold Ocm.doneE
        rw [if_neg (by simpa using ht)]
      rw [h5, fs_bad (by decide)] at h3
      rw [if_pos ht]
      exact ⟨fun _ => by rw [h3], fun h => by rw [h] at h3; cases h3⟩
  · rw [fs_bad he, fs_bad he] at h3
    rw [if_pos (by rw [← h1]; exact he), ← h1, h3]
    exact ⟨fun _ => rfl, fun h => absurd (h3.trans h) he⟩
theorem dec_long {zs : List Int} (h : 4096 < zs.length) : deC zs = (4, c0) := by unfold deC; rw [if_pos h]

/-- What Decode answers. -/
def DcP (W : World) (R : Int × C4) (en : Ending) (w' : World) : Prop := ∃ a n c, en = .returned (.tuple #[.agg (cd R.2.1 R.2.2.1 a n c R.2.2.2.2), .int .i64 R.1]) ∧ w'.ownsRow W.heap.size 51 6 (.slice a n c) n (is6 R.2.2.2.1) ∧ Below W.heap.size W w'
theorem DcP.mk {W w' : World} {f d o er : Int} {L : List In} {a : Option Addr} {n c : Nat} (hs : w'.ownsRow W.heap.size 51 6 (.slice a n c) n (is6 L)) (hb : Below W.heap.size W w') : DcP W (er, (f, d, L, o)) (.returned (.tuple #[.agg (cd f d a n c o), .int .i64 er])) w' := ⟨a, n, c, rfl, hs, hb⟩
theorem DcP.bad {W w' : World} {er : Int} (hb : Below W.heap.size W w') : DcP W (er, c0) (.returned (.tuple #[.agg cdz, .int .i64 er])) w' := ⟨none, 0, 0, rfl, ⟨rfl, .inl ⟨rfl, rfl⟩⟩, hb⟩
set_option maxRecDepth 100000 in
theorem dec_res {W : World} {tm : Array Value} {A : Nat} {f d o er : Int} {v : Value} (h : HasC W A 26 (cdv f d v o)) (ht : tm.getD 2 undef = pt A) (he : tm.getD 3 undef = .int .i64 er) : (results Try.f16 tm).run Try.prog W = .ok (.tuple #[.agg (cdv f d v o), .int .i64 er]) W := by
  obtain ⟨p0, p1, p2, p3⟩ := four_of h
  have ht' : tm[2]?.getD undef = pt A := by rw [← ht]; simp
  have he' : tm[3]?.getD undef = .int .i64 er := by rw [← he]; simp
  simp [results, Try.results16, go_sem, ht', he', p0, p1, p2, p3]
/-- Four values are laid into a box. -/
theorem put_four {w V : World} {b : Nat} {t : TypeId} {cs : Array Value} (h : HasC V b t cs) (hc : cs.size = 4) (hB : Below w.heap.size w V) (hb : w.heap.size ≤ b) (x0 x1 x2 x3 : Value) :
    HasC ((((V.setCell ⟨b, 0, none⟩ x0).setCell ⟨b, 1, none⟩ x1).setCell ⟨b, 2, none⟩ x2).setCell ⟨b, 3, none⟩ x3) b t #[x0, x1, x2, x3] ∧
    Below w.heap.size w ((((V.setCell ⟨b, 0, none⟩ x0).setCell ⟨b, 1, none⟩ x1).setCell ⟨b, 2, none⟩ x2).setCell ⟨b, 3, none⟩ x3) := by
  obtain ⟨l⟩ := cs
  match l, hc with
  | [c0, c1, c2, c3], _ =>
  exact ⟨(((h.set 0 x0).set 1 x1).set 2 x2).set 3 x3, (((hB.setCell (p := ⟨b, 0, none⟩) hb _).setCell (p := ⟨b, 1, none⟩) hb _).setCell (p := ⟨b, 2, none⟩) hb _).setCell (p := ⟨b, 3, none⟩) hb _⟩
theorem own_four {V : World} {base b : Nat} {e t : TypeId} {size n : Nat} {v : Value} {xs : List Value} {cs : Array Value} (h : V.ownsRow base e size v n xs) (hb : HasC V b t cs) (ht : t ≠ e) (x0 x1 x2 x3 : Value) : ((((V.setCell ⟨b, 0, none⟩ x0).setCell ⟨b, 1, none⟩ x1).setCell ⟨b, 2, none⟩ x2).setCell ⟨b, 3, none⟩ x3).ownsRow base e size v n xs := by
  have hne := own_ne h hb ht
  exact ownsRow_setCell_other (ownsRow_setCell_other (ownsRow_setCell_other (ownsRow_setCell_other h (a := ⟨b, 0, none⟩) hne x0) (a := ⟨b, 1, none⟩) hne x1) (a := ⟨b, 2, none⟩) hne x2) (a := ⟨b, 3, none⟩) hne x3

theorem Rp.far {V : World} {q r g base n size : Nat} {e : Int} {zs : List Int} {v : Value} {xs : List Value} (h : Rp V q r g e zs) (ho : V.ownsRow base 51 size v n xs) : ∀ k, v.ownBlock = some k → ¬ Qr q r k := by
  rintro k hk (rfl | rfl)
  · exact own_ne ho h.box (by decide) hk
  · obtain ⟨off, n, c, h1, -⟩ := h.rd
    exact own_ne ho (t := 85) h1 (by decide) hk

set_option maxRecDepth 100000 in
set_option maxHeartbeats 4000000 in
theorem decode_any {a : Option Addr} {n c : Nat} {zs : List Int} {W : World} (h : Ocm.Bytes W a n c zs) : Calls Try.prog 16 #[.slice a n c] W (DcP W (deC zs)) := by
  have HL := hide h.len
  by_cases hn : 4096 < n
  · have j : (4096 : Int) < n := by omega
    have hA := HasC.new W 26 cdz
    obtain ⟨k0, k1, k2, k3⟩ := four_of hA
    obtain ⟨y0, y1, y2, y3⟩ := four_fr hA
    have HG1 := hide hA
    have HG2 := hide (bel1 W (.cells cdz 26))
    clear hA
    rw [dec_long (by rw [HL.out]; exact hn)]
    go_enter Try.func16, Try.ntmps16
    go_wp2_with fail
    exact bodyPost_ret (dec_res HG1.out rfl rfl) rfl (DcP.bad HG2.out)
  · have j : ¬ (4096 : Int) < n := by omega
    have hl : zs.length ≤ 4096 := by rw [HL.out]; omega
    have HN := hide (Ocm.new_any a n c zs (W.alloc (.cells cdz 26)) (h.later (bel1 W _)) (by omega))
    have HA0 := hide (HasC.new W 26 cdz)
    have HB0 := hide (bel1 W (.cells cdz 26))
    have HLe := hide hl
    clear h hn hl HL
    go_enter Try.func16, Try.ntmps16
    go_wp2_with fail
    refine HN.out.mono ?_
    rintro en w1 ⟨r, g, rfl, hR, hr1, hg1, hr2, hb⟩
    have hsz := HA0.out.lt
    have HA1 := hide (HA0.out.below hb)
    have HB1 := hide (bel HB0.out hb)
    have hr0 : W.heap.size < r := by simp at hr1; omega
    have hglt := hR.lt.1
    have HRp : Hid (Rp (w1.alloc (.cells #[pt r, .int .i64 0] 63)) w1.heap.size r g 0 zs) := hide ⟨HasC.new _ _ _, hR.later (bel1 w1 _), by omega, by omega⟩
    have HA2 := hide (HA1.out.below (bel1 w1 (.cells #[pt r, .int .i64 0] 63)))
    have HB2 := hide (bel HB1.out (bel1 w1 (.cells #[pt r, .int .i64 0] 63)))
    have hq0 : W.heap.size < w1.heap.size := HA1.out.lt
    have HWh := hide (whole_any HRp.out)
    obtain ⟨q, hq⟩ : ∃ q, w1.heap.size = q := ⟨_, rfl⟩
    rw [hq] at HRp HWh hq0
    have HQ := hide hq
    clear hR hr1 hg1 hr2 hb HN HA0 HB0 hsz HA1 HB1 hglt hq
    go_wp2_with fail
    rw [HQ.out]
    refine HWh.out.mono ?_
    rintro en w3 ⟨f, d, a3, n3, c3, L, o, e3, z3, rfl, hR3, hK3, hO3, hOut⟩
    have HA3 := hide (Keeps.has hK3 HA2.out (by rintro (h1 | h1) <;> omega))
    have HB3 : Hid (Below W.heap.size W w3) := hide (HB2.out.trans (hK3.below HB2.out.size (by rintro k (h1 | h1) <;> omega)))
    have HR3 := hide hR3
    have HO3 := hide (Cde.own_mono hO3 HB2.out.size)
    have HOut := hide hOut
    clear hR3 hK3 hO3 hOut HA2 HB2 HRp HWh HQ
    have HA4 := hide (HA3.out.alloc (.cells (cdv f d (.slice a3 n3 c3) o) 26))
    have HB4 := hide (bel HB3.out (bel1 w3 (.cells (cdv f d (.slice a3 n3 c3) o) 26)))
    have HR4 := hide (HR3.out.below (bel1 w3 (.cells (cdv f d (.slice a3 n3 c3) o) 26)))
    have HO4 := hide (HO3.out.alloc (.cells (cdv f d (.slice a3 n3 c3) o) 26))
    have HC4 := hide (HasC.new w3 26 (cdv f d (.slice a3 n3 c3) o))
    have HD := hide (Ocm.rDone_any r g z3 _ HR4.out.rd)
    have HH := hide (hold_any (Ocm.doneE z3.length) HR4.out)
    have b0 := HR3.out.box.cell 0 rfl
    have zq := HR3.out.box.lt
    have zr := HR3.out.rd.lt.2
    have hqA := HA3.out.lt
    go_wp2_with fail
    refine HD.out.mono ?_
    rintro en w4 ⟨rfl, rfl⟩
    obtain ⟨p, hp⟩ : ∃ p, w3.heap.size = p := ⟨_, rfl⟩
    obtain ⟨w4, hw4⟩ : ∃ w4, w3.alloc (.cells (cdv f d (.slice a3 n3 c3) o) 26) = w4 := ⟨_, rfl⟩
    rw [hp] at HC4 zq hqA zr
    rw [hw4] at HA4 HB4 HR4 HO4 HC4 HH
    have HP := hide hp
    have HW := hide hw4
    clear HD HA3 HB3 HR3 HO3 b0 hp hw4
    go_wp2_with fail
    rw [HP.out, HW.out]
    refine HH.out.mono ?_
    rintro en w5 ⟨rfl, hR5, hK5⟩
    have HA5 := hide (Keeps.has hK5 HA4.out (by rintro (h1 | h1) <;> omega))
    have HC5 := hide (Keeps.has hK5 HC4.out (by rintro (h1 | h1) <;> omega))
    have HO5 := hide (Keeps.own hK5 HO4.out (HR4.out.far HO4.out))
    have HB5 : Hid (Below W.heap.size W w5) := hide (HB4.out.trans (hK5.below HB4.out.size (by rintro k (h1 | h1) <;> omega)))
    have HR5 := hide hR5
    obtain ⟨a', c', ea, hI, -⟩ := Ins.of_owns HO5.out
    cases ea
    have HCk := hide (ccheck_any f d o hI)
    obtain ⟨k0, k1, k2, k3⟩ := four_of HC5.out
    clear hR5 hK5 hI HH HR4 HC4 HA4 HB4 HO4 HP HW
    go_wp2_with fail
    refine HCk.out.mono ?_
    rintro en w6 ⟨rfl, hb⟩
    have HA6 := hide (HA5.out.below hb)
    have HC6 := hide (HC5.out.below hb)
    have HO6 := hide (Cde.own_later HO5.out hb)
    have HB6 := hide (bel HB5.out hb)
    have HR6 := hide (HR5.out.below hb)
    have HH := hide (hold_any (ccE f d L o) HR6.out)
    clear hb HCk HA5 HC5 HO5 HB5 HR5 k0 k1 k2 k3
    go_wp2_with fail
    refine HH.out.mono ?_
    rintro en w7 ⟨rfl, hR7, hK7⟩
    have HA7 := hide (Keeps.has hK7 HA6.out (by rintro (h1 | h1) <;> omega))
    have HC7 := hide (Keeps.has hK7 HC6.out (by rintro (h1 | h1) <;> omega))
    have HO7 := hide (Keeps.own hK7 HO6.out (HR6.out.far HO6.out))
    have HB7 : Hid (Below W.heap.size W w7) := hide (HB6.out.trans (hK7.below HB6.out.size (by rintro k (h1 | h1) <;> omega)))
    have b1 := hR7.box.cell 1 rfl
    obtain ⟨er, her⟩ : ∃ er, fs (fs e3 (Ocm.doneE z3.length)) (ccE f d L o) = er := ⟨_, rfl⟩
    obtain ⟨hE1, hE2⟩ := dec_end HLe.out HOut.out her
    have HE1 := hide hE1
    have HE2 := hide hE2
    rw [her] at b1
    clear hR7 hK7 HH HR6 HA6 HC6 HO6 HB6 HOut HLe her hE1 hE2
    obtain ⟨k0, k1, k2, k3⟩ := four_of HC7.out
    obtain ⟨a0, a1, a2, a3'⟩ := four_of HA7.out
    obtain ⟨y0, y1, y2, y3⟩ := four_fr HA7.out
    by_cases he : er = 0
    · subst he
      have HE := hide (HE2.out rfl)
      obtain ⟨g1, g2⟩ := put_four (w := W) HA7.out rfl HB7.out (Nat.le_refl _) (.int .i64 f) (.int .i64 d) (.slice a3 n3 c3) (.int .i64 o)
      have g3 := own_four HO7.out HA7.out (by decide) (.int .i64 f) (.int .i64 d) (.slice a3 n3 c3) (.int .i64 o)
      have HG1 := hide g1
      have HG2 := hide g2
      have HG3 := hide g3
      clear g1 g2 g3 HA7 HC7 HO7 HB7 HE1 HE2
      go_wp2_with fail
      rw [HE.out]
      exact bodyPost_ret (dec_res HG1.out rfl rfl) rfl (DcP.mk HG3.out HG2.out)
    · have j1 : (er != 0) = true := by simpa using he
      have HE := hide (HE1.out he)
      obtain ⟨g1, g2⟩ := put_four (w := W) (HA7.out.below (below_drew w7)) rfl (bel HB7.out (below_drew w7)) (Nat.le_refl _) (.int .i64 0) (.int .i64 0) (.slice none 0 0) (.int .i64 0)
      have HG1 := hide g1
      have HG2 := hide g2
      have zA := HA7.out.lt
      clear he g1 g2 HA7 HC7 HO7 HB7 HE1 HE2
      go_wp2_with fail
      go_region
      all_goals
        go_wp2_with fail
        rw [HE.out]
        exact bodyPost_ret (dec_res HG1.out rfl rfl) rfl (DcP.bad HG2.out)


end Go.Proofs.Pck

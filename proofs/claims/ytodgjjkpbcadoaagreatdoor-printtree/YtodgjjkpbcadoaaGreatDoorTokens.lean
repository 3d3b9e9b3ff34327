/-
  lex.Tokens: the tokens of a text.
-/
import Derived.Test.YtodgjjkpbcadoaaGreatDoorToks
import Derived.Deep.LoopGhost
import Derived.WalkMore
namespace Go.Proofs.YtodgjjkpbcadoaaGreatDoor
open Go.RowKit Go.IntWalk Lx
set_option linter.unusedVariables false

theorem ne_of_nat {c : UInt8} {n : Nat} (h : ((c.toNat : Int) == (n : Int)) = false) (m : UInt8) (hm : m.toNat = n) : c ≠ m := by
  intro e
  subst e
  rw [hm] at h
  simp at h
theorem eq_of_nat {c : UInt8} {n : Nat} (h : ((c.toNat : Int) == (n : Int)) = true) (m : UInt8) (hm : m.toNat = n) : c = m := by
  simp only [beq_iff_eq] at h
  exact UInt8.toNat_inj.1 (by omega)
theorem text_at (s : ByteArray) (k n : Nat) : (s.extract k s.size).extract 0 n = sB (((bs s).drop k).take n) := by
  rw [← sB_bs ((s.extract k s.size).extract 0 n), bs_to, bs_from]

theorem nl_of {c : UInt8} (h : ((c.toNat : Int) == 10) = false) : nl c = true := by
  have := ne_of_nat (n := 10) h 10 rfl
  simp [nl, this]

set_option maxHeartbeats 4000000 in
set_option maxRecDepth 100000 in
theorem tokens_any (s : ByteArray) (w : World) : Calls Tryz.prog 33 #[.string s] w fun e w' => TP w (bs s) e w' := by
  by_cases hbig : 1024 < s.size
  · have hn : tks (bs s) = none := by unfold tks; rw [bs_len, if_pos hbig]
    have hn' := hide hn
    clear hn
    go_enter Tryz.func33, Tryz.ntmps33
    go_wp2
    go_step3
    go_wp2
    try rw [Exit.noGoto_ret]
    go_ret2
    exact .inl ⟨hn'.out, rfl, Below.refl _ _⟩
  · have hs : s.size ≤ 1024 := by omega
    have htk := hide (show tks (bs s) = sc (bs s) 0 by unfold tks; rw [bs_len, if_neg hbig])
    clear hbig
    go_enter Tryz.func33, Tryz.ntmps33
    go_wp2
    go_step3
    go_wp2
    go_step3
    go_wp2
    go_loopg [4, 5] s.size (fun g v i W => ∃ k n : Nat, ∃ T : List Tok, k + g = s.size ∧ n ≤ k ∧ i = .int .i64 k ∧ Hid (Es w W v n T) ∧ Hid (Inv (bs s) k T))
    case atStart => exact ⟨0, 0, [], by omega, Nat.le_refl _, rfl, hide (Es.start w), hide (Inv.start _)⟩
    case round =>
      obtain ⟨k, n, T, hk, hnk, rfl, HE, HI⟩ := hrel
      by_cases hlt : k < s.size
      · have hc := hide (bs_at hlt)
        by_cases hb : bl s[k] = true
        · have HI2 := hide (HI.out.blank hc.out hb)
          have hw : ((s[k].toNat : Int) == 32) = true ∨ (((s[k].toNat : Int) == 32) = false ∧ ((s[k].toNat : Int) == 9) = true) ∨ (((s[k].toNat : Int) == 32) = false ∧ ((s[k].toNat : Int) == 9) = false ∧ ((s[k].toNat : Int) == 10) = true) := by
            simp only [bl, Bool.or_eq_true, beq_iff_eq] at hb
            rcases hb with (h | h) | h <;> rw [h] <;> simp
          clear hb
          rcases hw with h1 | ⟨h1, h2⟩ | ⟨h1, h2, h3⟩
          all_goals
            go_wp2
            go_roundg (gk - 1)
            case measure => omega
            case rel => exact ⟨k + 1, n, T, by omega, by omega, by go_num, HE, HI2⟩
        · have hb' : bl s[k] = false := by simpa using hb
          have h1 : ((s[k].toNat : Int) == 32) = false := by
            cases h : ((s[k].toNat : Int) == 32)
            · rfl
            · rw [eq_of_nat (n := 32) h 32 rfl] at hb'; exact absurd hb' (by decide)
          have h2 : ((s[k].toNat : Int) == 9) = false := by
            cases h : ((s[k].toNat : Int) == 9)
            · rfl
            · rw [eq_of_nat (n := 9) h 9 rfl] at hb'; exact absurd hb' (by decide)
          have h3 : ((s[k].toNat : Int) == 10) = false := by
            cases h : ((s[k].toNat : Int) == 10)
            · rfl
            · rw [eq_of_nat (n := 10) h 10 rfl] at hb'; exact absurd hb' (by decide)
          have HB' := hide hb'
          clear hb hb'
          cases h4 : ((s[k].toNat : Int) == 35) with
          | true =>
            have H35 := hide (show (bs s)[k]? = some 35 by rw [hc.out, eq_of_nat (n := 35) h4 35 rfl])
            go_wp2
            go_loopg [5] (s.size - k) (fun g2 i wy => ∃ j : Nat, j + g2 = s.size ∧ k ≤ j ∧ i = .int .i64 j ∧ Hid ((((bs s).drop k).take (j - k)).all nl = true) ∧ wy = wr)
            case atStart => exact ⟨k, by omega, Nat.le_refl _, rfl, hide (by simp), rfl⟩
            case round =>
              obtain ⟨j, hj, hkj, rfl, HA, rfl⟩ := hrel
              by_cases hjl : j < s.size
              · have hcj := hide (bs_at hjl)
                cases h10 : ((s[j].toNat : Int) == 10) with
                | true =>
                  have hne : k < j := by
                    rcases Nat.lt_or_ge k j with h | h
                    · exact h
                    · obtain rfl : j = k := by omega
                      rw [h10] at h3; cases h3
                  have HI2 := hide (HI.out.rem H35.out hne (by rw [bs_len]; omega) HA.out (by intro c h; rw [hcj.out] at h; cases h; exact eq_of_nat (n := 10) h10 10 rfl))
                  go_wp2
                  go_roundg (s.size - j)
                  case measure => omega
                  case rel => exact ⟨j, n, T, by omega, by omega, rfl, HE, HI2⟩
                | false =>
                  have HA2 := hide (all_snoc (l := (bs s).drop k) (k := j - k) (c := s[j]) HA.out (by rw [List.getElem?_drop, show k + (j - k) = j by omega]; exact hcj.out) (nl_of h10))
                  rw [show j - k + 1 = j + 1 - k by omega] at HA2
                  go_wp2
                  go_roundg (s.size - (j + 1))
                  case measure => omega
                  case rel => exact ⟨j + 1, by omega, by omega, by go_num, HA2, rfl⟩
              · have HI2 := hide (HI.out.rem H35.out (j := j) (by omega) (by rw [bs_len]; omega) HA.out (by intro c h; rw [List.getElem?_eq_none (by rw [bs_len]; omega)] at h; cases h))
                go_wp2
                try rw [Exit.noGoto_ret]
                go_ret2
                have hT := HI2.out.ends (by rw [bs_len]; omega)
                have hE := HE.out
                exact .inr ⟨T, _, htk.out.trans hT, rfl, by rw [hE.len]; exact hE.a, hE.bel⟩
          | false =>
            have h35 := hide (ne_of_nat (n := 35) h4 35 rfl)
            have HG := fun w => begun_any (s.extract k s.size) w (by simp; omega) (by simp; omega)
            simp only [text_at, bs_from] at HG
            have hzl : sz ((bs s).drop k) ≤ s.size - k := by
              have := sz_le (l := (bs s).drop k) (by rw [drop_cons hc.out]; simp)
              rw [List.length_drop, bs_len] at this
              exact this
            cases hg : gd ((bs s).drop k) with
            | false =>
              have hN := hide (HI.out.bad hc.out HB'.out h35.out hg)
              rw [hg] at HG
              have HG' := hide HG
              clear HG hg
              go_wp2_with fail
              refine (HG'.out _).mono ?_
              rintro e w1 ⟨rfl, hb1⟩
              have HBl := hide (bel HE.out.bel (bel hb1 (bel1 w1 (.cells (tc (kd ((bs s).drop k)) (sB (((bs s).drop k).take (sz ((bs s).drop k)))) 0) 89))))
              clear hb1
              go_wp2_with fail
              try rw [Exit.noGoto_ret]
              go_ret2
              exact .inl ⟨htk.out.trans hN.out, rfl, HBl.out⟩
            | true =>
              have hpos := gd_pos hg
              have HI2 := hide (HI.out.tok hc.out HB'.out h35.out hg)
              have hXl : (((bs s).drop k).take (sz ((bs s).drop k))).length = sz ((bs s).drop k) := by rw [List.length_take, List.length_drop, bs_len]; omega
              rw [hg] at HG
              obtain ⟨K, hK⟩ : ∃ K, kd ((bs s).drop k) = K := ⟨_, rfl⟩
              obtain ⟨X, hX⟩ : ∃ X, ((bs s).drop k).take (sz ((bs s).drop k)) = X := ⟨_, rfl⟩
              rw [hX] at hXl
              rw [hK, hX, ← hXl] at HI2
              rw [hK, hX] at HG
              rw [← hXl] at hpos hzl
              have HG' := hide HG
              clear HG hg hK hX hXl
              have hsz : (sB X).size = X.length := by simp [ByteArray.size]
              go_wp2_with fail
              refine (HG'.out _).mono ?_
              rintro e w1 ⟨rfl, hb1⟩
              have HE1 := hide (HE.out.later hb1)
              have HN := hide (HasC.new (w1.alloc (.cells (tc K (sB X) k) 89)) 89 (tc K (sB X) k))
              simp only [World.size_alloc] at HN
              clear hb1 HE
              go_wp2_with (at_builtin; refine list_tok rfl _ _ rfl rfl ((HE1.out.alloc _).alloc _) (w1.heap.size + 1) ⟨K, X, k⟩ rfl HN.out (by omega) ?_; intro g cap w2 hE2 hsz2)
              go_roundg (s.size - (k + X.length))
              case measure => omega
              case rel => exact ⟨k + X.length, n + 1, _, by omega, by omega, by go_num, hide hE2, HI2⟩
      · go_wp2
        try rw [Exit.noGoto_ret]
        go_ret2
        have hT := HI.out.ends (by rw [bs_len]; omega)
        have hE := HE.out
        exact .inr ⟨T, _, htk.out.trans hT, rfl, by rw [hE.len]; exact hE.a, hE.bel⟩

end Go.Proofs.YtodgjjkpbcadoaaGreatDoor

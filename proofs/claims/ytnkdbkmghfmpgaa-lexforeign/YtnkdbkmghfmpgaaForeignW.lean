/-
  The walk of LexForeign.
-/
import Derived.Test.YtnkdbkmghfmpgaaAwake
import Derived.Test.YtnkdbkmghfmpgaaPure2
import Derived.Laws.BytesString
import Derived.Laws.IdiomStrings
import Derived.Deep.RegionHeld3
namespace Go.Proofs.Ytnkdbkmghfmpgaa
open Go.RowKit Go.IntWalk Lx
set_option linter.unusedVariables false

theorem nat_no {c : UInt8} (h1 : (c.toNat : Int) ≠ 32) (h2 : (c.toNat : Int) ≠ 9) (h3 : (c.toNat : Int) ≠ 10) (h4 : (c.toNat : Int) ≠ 33) (h5 : lt c.toNat = false) (h6 : dg c.toNat = false) (h7 : (c.toNat : Int) ≠ 95) (h8 : amg c.toNat sh = false) : nat c = false := by
  have e : ∀ m : UInt8, (c.toNat : Int) ≠ (m.toNat : Int) → (c == m) = false := fun m h => by
    rw [beq_eq_false_iff_ne]
    intro h'
    subst h'
    exact h rfl
  rw [amg_sh] at h8
  simp only [nat, bl, W, wi, h5, h6, h8, e 32 h1, e 9 h2, e 10 h3, e 33 h4, beq_eq_false_iff_ne.2 h7, Bool.or_false]

theorem not_mem_snoc {l : List UInt8} {k : Nat} {b c : UInt8} (h : c ∉ l.take k) (hb : l[k]? = some b) (hn : b ≠ c) : c ∉ l.take (k + 1) := by
  rw [List.take_add_one, hb]
  intro h'
  rcases List.mem_append.1 h' with h' | h'
  · exact h h'
  · simp at h'
    exact hn h'.symm

abbrev one8 (c : UInt8) : ByteArray := ⟨#[c]⟩

theorem conv_one (W : World) (b : Nat) (c : UInt8) (h : W.cell? ⟨b, 0, none⟩ = some (.int .u8 (c.toNat : Nat))) :
    (convert 35 9 (.slice (some ⟨b, 0, none⟩) 1 1)).run Try.prog W = .ok (.string (one8 c)) W := by
  have h0 := run_convert_bytes_back (P := Try.prog) W 35 9 5 ⟨b, 0, none⟩ 1 [c] Try.underlying35 Try.underlying5 Try.underlying9 (by
    intro j hj
    obtain rfl : j = 0 := by simp at hj; omega
    exact h)
  exact h0

theorem full_bs (s : ByteArray) (p : Nat) (c : UInt8) : bs (s.extract 0 p ++ one8 c ++ s.extract p s.size) = (bs s).take p ++ [c] ++ (bs s).drop p := by
  show (s.extract 0 p ++ one8 c ++ s.extract p s.size).data.toList = _
  rw [ByteArray.data_append, ByteArray.data_append, Array.toList_append, Array.toList_append]
  rw [show (s.extract 0 p).data.toList = _ from bs_to s p, show (s.extract p s.size).data.toList = _ from bs_from s p]

theorem tks_full {s : ByteArray} {p : Nat} {c : UInt8} (h35 : 35 ∉ bs s) (hc : c ≠ 35) (hn : nat c = false) : tks (bs (s.extract 0 p ++ one8 c ++ s.extract p s.size)) = none := by
  rw [full_bs]
  refine tks_foreign (c := c) ?_ (by simp) hn
  intro h
  rcases List.mem_append.1 h with h | h
  · rcases List.mem_append.1 h with h | h
    · exact h35 (List.mem_of_mem_take h)
    · simp at h; exact hc h.symm
  · exact h35 (List.mem_of_mem_drop h)

/-- Tokens of such a text. -/
theorem tokens_none (s : ByteArray) (w : World) (h : tks (bs s) = none) : Calls Try.prog 8 #[.string s] w fun e w' => e = .returned (.tuple #[.slice none 0 0, .int .i64 10]) ∧ Below w.heap.size w w' := by
  refine (tokens_any s w).mono ?_
  rintro e w' (⟨-, h1, h2⟩ | ⟨T, v, hT, -⟩)
  · exact ⟨h1, h2⟩
  · rw [h] at hT; cases hT

set_option maxHeartbeats 4000000 in
set_option maxRecDepth 100000 in
theorem foreign_walk0 (s : ByteArray) (c : UInt8) (at_ : Int) (w : World) (hs : s.size ≤ 140737488355328) :
    Calls Try.prog 7 #[.string s, .int .u8 (c.toNat : Nat), .int .i64 at_] w fun e w' => e = .returned (.bool true) ∧ Below w.heap.size w w' := by
  go_enter Try.func7, Try.ntmps7
  go_wp2
  go_loop [7] (fun i => ∃ k : Nat, k ≤ s.size ∧ i = .int .i64 k ∧ Hid (35 ∉ (bs s).take k)) (fun i => s.size - (intOf i).toNat)
  case atStart => exact ⟨0, Nat.zero_le _, rfl, hide (by simp)⟩
  case round =>
    obtain ⟨k, hk, rfl, ha⟩ := hrel
    by_cases hlt : k < s.size
    · have hc := hide (bs_at hlt)
      cases hd : ((s[k].toNat : Int) == 35) with
      | true =>
        go_wp2_with fail
        refine (awake_any _).mono ?_
        rintro e w1 ⟨rfl, hb⟩
        have HB := hide hb
        clear hb
        go_wp2_with fail
        go_ret
        exact ⟨rfl, HB.out⟩
      | false =>
        have H2 := hide (not_mem_snoc ha.out hc.out (ne_of_nat (n := 35) hd 35 rfl))
        go_wp2
        go_round
        case rel => exact ⟨k + 1, by omega, by go_num, H2⟩
        case measure => simp [intOf]; omega
    · have h35 := hide (show 35 ∉ bs s by have := ha.out; rw [List.take_of_length_le (by rw [bs_len]; omega)] at this; exact this)
      clear ha
      have hlt' : ¬ (k : Int) < (s.size : Int) := by omega
      clear hlt
      cases e1 : ((c.toNat : Int) == 35) with
      | true =>
        go_wp2_with fail
        refine (awake_any _).mono ?_
        rintro e w1 ⟨rfl, hb⟩
        have HB := hide hb
        clear hb
        go_wp2_with fail
        go_ret
        exact ⟨rfl, HB.out⟩
      | false =>
        cases e2 : ((c.toNat : Int) == 32) with
        | true =>
          go_wp2_with fail
          refine (awake_any _).mono ?_
          rintro e w1 ⟨rfl, hb⟩
          have HB := hide hb
          clear hb
          go_wp2_with fail
          go_ret
          exact ⟨rfl, HB.out⟩
        | false =>
          cases e3 : ((c.toNat : Int) == 9) with
          | true =>
            go_wp2_with fail
            refine (awake_any _).mono ?_
            rintro e w1 ⟨rfl, hb⟩
            have HB := hide hb
            clear hb
            go_wp2_with fail
            go_ret
            exact ⟨rfl, HB.out⟩
          | false =>
            cases e4 : ((c.toNat : Int) == 10) with
            | true =>
              go_wp2_with fail
              refine (awake_any _).mono ?_
              rintro e w1 ⟨rfl, hb⟩
              have HB := hide hb
              clear hb
              go_wp2_with fail
              go_ret
              exact ⟨rfl, HB.out⟩
            | false =>
              cases e5 : ((c.toNat : Int) == 33) with
              | true =>
                go_wp2_with fail
                refine (awake_any _).mono ?_
                rintro e w1 ⟨rfl, hb⟩
                have HB := hide hb
                clear hb
                go_wp2_with fail
                go_ret
                exact ⟨rfl, HB.out⟩
              | false =>
                have ways : (97 ≤ (c.toNat : Int) ∧ (c.toNat : Int) ≤ 122) ∨ (¬ 97 ≤ (c.toNat : Int) ∧ 48 ≤ (c.toNat : Int) ∧ (c.toNat : Int) ≤ 57) ∨ (¬ 97 ≤ (c.toNat : Int) ∧ ¬ 48 ≤ (c.toNat : Int)) ∨ (¬ 97 ≤ (c.toNat : Int) ∧ 48 ≤ (c.toNat : Int) ∧ ¬ (c.toNat : Int) ≤ 57) ∨ (97 ≤ (c.toNat : Int) ∧ ¬ (c.toNat : Int) ≤ 122 ∧ 48 ≤ (c.toNat : Int) ∧ ¬ (c.toNat : Int) ≤ 57) := by omega
                rcases ways with ⟨f1, f2⟩ | ⟨f1, f2, f3⟩ | ⟨f1, f2⟩ | ⟨f1, f2, f3⟩ | ⟨f1, f2, f3, f4⟩
                · go_wp2_with fail
                  refine (awake_any _).mono ?_
                  rintro e w1 ⟨rfl, hb⟩
                  have HB := hide hb
                  clear hb
                  go_wp2_with fail
                  go_ret
                  exact ⟨rfl, HB.out⟩
                · go_wp2_with fail
                  refine (awake_any _).mono ?_
                  rintro e w1 ⟨rfl, hb⟩
                  have HB := hide hb
                  clear hb
                  go_wp2_with fail
                  go_ret
                  exact ⟨rfl, HB.out⟩
                all_goals
                  have e6 := hide (show lt (c.toNat : Int) = false by simp [lt]; omega)
                  have e7 := hide (show dg (c.toNat : Int) = false by simp [dg]; omega)
                  cases e8 : ((c.toNat : Int) == 95) with
                  | true =>
                    go_wp2_with fail
                    refine (awake_any _).mono ?_
                    rintro e w1 ⟨rfl, hb⟩
                    have HB := hide hb
                    clear hb
                    go_wp2_with fail
                    go_ret
                    exact ⟨rfl, HB.out⟩
                  | false =>
                    by_cases p1 : at_ < 0
                    · go_wp2_with fail
                      refine (awake_any _).mono ?_
                      rintro e w1 ⟨rfl, hb⟩
                      have HB := hide hb
                      clear hb
                      go_wp2_with fail
                      go_ret
                      exact ⟨rfl, HB.out⟩
                    · obtain ⟨p, rfl⟩ : ∃ p : Nat, at_ = p := ⟨at_.toNat, by omega⟩
                      clear p1
                      by_cases p2 : s.size < p
                      · go_wp2_with fail
                        refine (awake_any _).mono ?_
                        rintro e w1 ⟨rfl, hb⟩
                        have HB := hide hb
                        clear hb
                        go_wp2_with fail
                        go_ret
                        exact ⟨rfl, HB.out⟩
                      · have p3 : p ≤ s.size := by omega
                        clear p2
                        have hp4 : ¬ (s.size : Int) < (p : Int) := by omega
                        go_wp2_with fail
                        obtain ⟨M, hM⟩ : ∃ M, (⟨#[43, 45, 42, 47, 37, 40, 41, 44, 59, 61, 63, 58, 60, 62, 38, 124, 94]⟩ : ByteArray) = M := ⟨_, rfl⟩
                        have HM := hide (show bs M = sh by rw [← hM]; rfl)
                        have hMs : M.size = 17 := by rw [← hM]; rfl
                        rw [hM]
                        clear hM
                        go_loop [9] (fun i => ∃ q : Nat, q ≤ 17 ∧ i = .int .i64 q ∧ Hid (amg c.toNat ((bs M).take q) = false)) (fun i => 17 - (intOf i).toNat)
                        case atStart => exact ⟨0, Nat.zero_le _, rfl, hide rfl⟩
                        case round =>
                          obtain ⟨q, hq, rfl, hA⟩ := hrel
                          by_cases hql : q < M.size
                          · have hcq := hide (bs_at hql)
                            cases hd : ((M[q].toNat : Int) == (c.toNat : Int)) with
                            | true =>
                              go_wp2_with fail
                              refine (awake_any _).mono ?_
                              rintro e w1 ⟨rfl, hb⟩
                              have HB := hide hb
                              clear hb
                              go_wp2_with fail
                              go_ret
                              exact ⟨rfl, HB.out⟩
                            | false =>
                              have H2 := hide (amg_snoc hA.out hcq.out hd)
                              go_wp2
                              go_round
                              case rel => exact ⟨q + 1, by omega, by go_num, H2⟩
                              case measure => simp [intOf]; omega
                          · have hsh : amg c.toNat sh = false := by have := hA.out; rw [List.take_of_length_le (by rw [bs_len]; omega), HM.out] at this; exact this
                            have hnat := nat_no (c := c) (by simpa using e2) (by simpa using e3) (by simpa using e4) (by simpa using e5) e6.out e7.out (by simpa using e8) hsh
                            have hnone := hide (tks_full (p := p) h35.out (ne_of_nat (n := 35) e1 35 rfl) hnat)
                            have hql' : ¬ (q : Int) < 17 := by omega
                            clear hsh hnat hA hql
                            obtain ⟨A1, h1⟩ : ∃ A, s.extract 0 p = A := ⟨_, rfl⟩
                            obtain ⟨A3, h3⟩ : ∃ A, s.extract p s.size = A := ⟨_, rfl⟩
                            have z1 : A1.size = p := by rw [← h1]; simp; omega
                            have z3 : A3.size = s.size - p := by rw [← h3]; simp
                            rw [h1, h3] at hnone
                            obtain ⟨A2, h2⟩ : ∃ A, A1 ++ one8 c = A := ⟨_, rfl⟩
                            have z2 : A2.size = p + 1 := by rw [← h2, ByteArray.size_append, z1]; rfl
                            rw [h2] at hnone
                            obtain ⟨F, hF⟩ : ∃ A, A2 ++ A3 = A := ⟨_, rfl⟩
                            rw [hF] at hnone
                            have HT := hide fun w => tokens_none F w hnone.out
                            have hcv := fun W b h => conv_one W b c h
                            have ha1 : ∀ W, (Op.stringOp .add A1 (one8 c)).run Try.prog W = .ok (.string A2) W := fun W => by rw [run_string_add_sum W _ _ (by rw [z1]; show p + 1 ≤ _; omega), h2]
                            have ha2 : ∀ W, (Op.stringOp .add A2 A3).run Try.prog W = .ok (.string F) W := fun W => by rw [run_string_add_sum W _ _ (by rw [z2, z3]; omega), hF]
                            go_wp2_with fail
                            go_region_with (go_at_call 8; refine (HT.out _).mono ?_; rintro e' w3 ⟨rfl, hb3⟩)
                            have HB3 := hide (bel (bel (bel1 w (.cells #[.int .u8 (c.toNat : Nat)] 5)) (below_drew _)) hb3)
                            clear hb3 hcv ha1 ha2 h1 h2 h3 hF z1 z2 z3 HT hnone
                            go_wp2_with fail
                            refine (awake_any _).mono ?_
                            rintro e w4 ⟨rfl, hb⟩
                            have HB4 := hide (bel HB3.out hb)
                            clear hb
                            go_wp2_with fail
                            go_ret
                            exact ⟨rfl, HB4.out⟩
                        

theorem foreign_walk (s : ByteArray) (c : Int) (at_ : Int) (w : World) (hs : s.data.toList.length ≤ reachBytes) (hc : 0 ≤ c ∧ c ≤ 255) :
    Calls Try.prog 7 #[.string s, .int .u8 c, .int .i64 at_] w fun e w' => e = .returned (.bool true) ∧ Below w.heap.size w w' := by
  have h := foreign_walk0 s c.toNat.toUInt8 at_ w (by rw [← bs_len]; unfold reachBytes at hs; exact Nat.le_trans hs (by decide))
  rw [show ((c.toNat.toUInt8.toNat : Nat) : Int) = c by
    have : c.toNat < 256 := by omega
    simp [Nat.mod_eq_of_lt this]; omega] at h
  exact h

end Go.Proofs.Ytnkdbkmghfmpgaa

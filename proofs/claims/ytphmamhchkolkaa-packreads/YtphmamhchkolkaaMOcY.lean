/-
  The walk of octet.Join: what it returns owns, in new memory, the bytes of all parts one behind the other.
-/
import Derived.Test.YtphmamhchkolkaaMOcX
import Derived.Test.YtphmamhchkolkaaMOcParts
namespace Go.Proofs.Ytphmamhchkolkaa.Ocm
open Go.RowKit Oct
set_option linter.unusedVariables false

set_option maxRecDepth 100000 in
set_option maxHeartbeats 800000 in
theorem join_any (pa : Option Addr) (pn pc : Nat) (ps : List Part) (w : World) (hp : Parts w pa pn ps) (hmax : pn ≤ maxLen) (hsum : (joined ps).length ≤ 281474976710656) :
    Calls Try.prog 26 #[.slice pa pn pc] w fun e w' => e = .returned (.slice (some ⟨w.heap.size, 0, none⟩) (joined ps).length (joined ps).length) ∧
      w'.ownsRow w.heap.size 5 1 (.slice (some ⟨w.heap.size, 0, none⟩) (joined ps).length (joined ps).length) (joined ps).length (u8s (joined ps)) ∧ Below w.heap.size w w' := by
  obtain ⟨i0, hi, hz0, hz1, hz2⟩ := info_parts info5
  have hmx : pn ≤ 9223372036854775807 := by unfold maxLen at hmax; exact hmax
  have hlen := hp.len
  have HLEN : Hid (ps.length = pn) := hlen
  clear hlen hmax
  go_enter Try.func26, Try.ntmps26
  go_wp2_with fail
  go_loop [3, 11] (fun s i => ∃ k : Nat, k ≤ pn ∧ i = .int .i64 k ∧ s = .int .i64 ((joined (ps.take k)).length : Nat)) (fun _ i => pn - (intOf i).toNat)
  case atStart => exact ⟨0, Nat.zero_le _, rfl, rfl⟩
  case round =>
    obtain ⟨k, hk, rfl, rfl⟩ := hrel
    by_cases hlt : k < pn
    · obtain ⟨b, off, rfl, _, hc⟩ := hp.at (by omega)
      have hk' : k < ps.length := by rw [HLEN.out]; exact hlt
      have g := hc k hk'
      have hj := joined_succ hk'
      have hle := joined_le ps (k + 1)
      have hpart := hp.part _ (List.getElem_mem hk')
      generalize ps[k] = p at *
      have hpl := hpart.len
      have HJ : Hid ((joined (ps.take (k + 1))).length = (joined (ps.take k)).length + p.n) := by
        show _ = _
        rw [hj, List.length_append, hpl]
      have hle2 : (joined (ps.take k)).length + p.n ≤ 281474976710656 := by have := HJ.out; omega
      clear hj hle hpart hpl hc
      generalize et : (joined (ps.take k)).length = T at *
      clear et
      go_wp2_with fail
      go_round
      case rel => exact ⟨k + 1, by omega, by go_num, congrArg (Value.int .i64) (by rw [HJ.out]; simp)⟩
      case measure => simp [intOf]; omega
    · have ek : k = pn := by omega
      subst ek
      have et : ps.take k = ps := List.take_of_length_le (by rw [HLEN.out]; exact Nat.le_refl _)
      rw [et]
      clear et hlt hk
      generalize eS : (joined ps).length = S at hsum ⊢
      have ES : Hid ((joined ps).length = S) := eS
      clear eS
      go_wp2_with (at_make; refine wpList_make_own _ rfl _ _ 28 rfl w.heap.size 5 i0 (.int .u8 0) 1 Try.underlying28 hi hz0 hz1 .i64 .i64 (S : Int) S rfl rfl rfl (by rw [hz2]; omega) (by unfold maxLen; omega) (Nat.le_refl _) ?_; intro w1 hown hgrow)
      have hb : Below w.heap.size w w1 := (Below.refl _ _).grown hgrow (Nat.le_refl _) (fun k h => by cases h)
      clear hgrow
      go_loopw [6, 24] (fun v i wr => ∃ j : Nat, j ≤ k ∧ i = .int .i64 j ∧ v = .slice (some ⟨w.heap.size, 0, none⟩) (joined (ps.take j)).length S ∧
          wr.ownsRow w.heap.size 5 1 (.slice (some ⟨w.heap.size, 0, none⟩) (joined (ps.take j)).length S) (joined (ps.take j)).length (u8s (joined (ps.take j))) ∧ Below w.heap.size w wr)
        (fun _ i _ => k - (intOf i).toNat)
      case atStart => exact ⟨0, Nat.zero_le _, rfl, rfl, hown, hb⟩
      case round =>
        clear hb hown
        obtain ⟨j, hj, rfl, rfl, hownr, hbr⟩ := hrel
        by_cases hlt : j < k
        · obtain ⟨b, off, rfl, hblt, hc⟩ := hp.at (by omega)
          have hj' : j < ps.length := by rw [HLEN.out]; exact hlt
          have g : wr.cell? ⟨b, off + j, none⟩ = some ps[j].v := (hbr.cell (p := ⟨b, off + j, none⟩) hblt).trans (hc j hj')
          have hjs := joined_succ hj'
          have hle := joined_le ps (j + 1)
          have hpart := (hp.part _ (List.getElem_mem hj')).later hbr
          generalize ps[j] = p at *
          have hpl := hpart.len
          have HJ : Hid (joined (ps.take (j + 1)) = joined (ps.take j) ++ p.zs) := hjs
          have hle2 : (joined (ps.take j)).length + p.n ≤ S := by
            have h := ES.out
            have h2 := congrArg List.length hjs
            rw [List.length_append] at h2
            omega
          have hnone : p.a = none → p.n = 0 ∧ p.c = 0 := fun h => by have h1 := hpart.nil h; have h2 := hpart.le; omega
          have hnews := hpart.news
          have hnl : (u8s p.zs).length = p.n * 1 := by simp [hpl]
          have HB : Hid (Bytes wr p.a p.n p.c p.zs) := hpart
          clear hjs hle hpart hpl hc
          go_wp2_with (at_builtin; refine wpList_append_fits_any _ rfl _ _ 28 rfl w.heap.size 5 i0 1 Try.underlying28 hi hz1 w.heap.size (joined (ps.take j)).length S (u8s (joined (ps.take j))) rfl hownr p.a p.n p.c (u8s p.zs) rfl hnl hnone hnews (ints_oneCell _ _) hle2 ?_; intro w2 hown2 hgrow2)
          have hb2 : Below w.heap.size w w2 := hbr.grown hgrow2 hbr.size (fun k h => by cases h; exact Nat.le_refl _)
          have el : (joined (ps.take (j + 1))).length = (joined (ps.take j)).length + p.n := by rw [HJ.out, List.length_append, HB.out.len]
          have eu : u8s (joined (ps.take (j + 1))) = u8s (joined (ps.take j)) ++ u8s p.zs := by rw [HJ.out]; simp
          rw [← el, ← eu] at hown2
          go_roundw
          case rel => exact ⟨j + 1, by omega, by go_num, by rw [el], hown2, hb2⟩
          case measure => simp [intOf]; omega
        · have ej : j = k := by omega
          subst ej
          have et : ps.take j = ps := List.take_of_length_le (by rw [HLEN.out]; exact Nat.le_refl _)
          rw [et, ES.out] at hownr
          rw [et, ES.out]
          go_wp2_with fail
          go_ret
          rw [ES.out]
          exact ⟨rfl, hownr, hbr⟩

end Go.Proofs.Ytphmamhchkolkaa.Ocm

/-
  The walk of octet.New: a reader that stands at the beginning of a copy of the bytes.
-/
namespace Go.Proofs.Ytphmamhchkolkaa.Ocm
open Go.RowKit Oct
set_option linter.unusedVariables false

/-- The reader in block r: its bytes lie in block g; what is left reads as zs. -/
def Rd (w : World) (r g : Nat) (zs : List Int) : Prop :=
  ∃ off n c, w.heap[r]? = some (.cells #[.slice (some ⟨g, off, none⟩) n c] 85 (0, 0)) ∧ Bytes w (some ⟨g, off, none⟩) n c zs ∧ g ≠ r ∧ g < w.heap.size

theorem Rd.open {w : World} {r g : Nat} {zs : List Int} (h : Rd w r g zs) :
    ∃ a n c, w.heap[r]? = some (.cells #[.slice a n c] 85 (0, 0)) ∧ Bytes w a n c zs ∧ (∀ x, a = some x → x.block = g) ∧ g ≠ r ∧ g < w.heap.size := by
  obtain ⟨off, n, c, hr, hb, hne, hlt⟩ := h
  exact ⟨_, n, c, hr, hb, fun x hx => by cases hx; rfl, hne, hlt⟩

/-- Bytes in a block that is not written. -/
theorem Bytes.kept {w w' : World} {row : Option Nat} {a : Option Addr} {n c : Nat} {zs : List Int} (h : Bytes w a n c zs) (hg : w.grownBy w' row) (hne : ∀ x, a = some x → n ≠ 0 → some x.block ≠ row) : Bytes w' a n c zs := by
  refine h.of_cells fun b off ha hn i hi => ?_
  obtain ⟨b', off', ha', hlt, _⟩ := h.at hn
  rw [ha] at ha'
  cases ha'
  exact World.cell?_of_block (a := ⟨b, off + i, none⟩) (hg.block b hlt (hne _ ha hn))

theorem Rd.kept {w w' : World} {row : Option Nat} {r g : Nat} {zs : List Int} (h : Rd w r g zs) (hg : w.grownBy w' row) (h1 : some r ≠ row) (h2 : some g ≠ row) : Rd w' r g zs := by
  obtain ⟨off, n, c, hr, hb, hne, hlt⟩ := h
  refine ⟨off, n, c, ?_, hb.kept hg (fun x hx _ => by cases hx; exact h2), hne, Nat.lt_of_lt_of_le hlt hg.size⟩
  rw [hg.block r (Array.getElem?_eq_some_iff.1 hr).1 h1]
  exact hr

theorem join_one (b : Nat) (a : Option Addr) (n c : Nat) (zs : List Int) (w : World) (hc : w.cell? ⟨b, 0, none⟩ = some (.slice a n c)) (hb : Bytes w a n c zs) (hsum : n ≤ 281474976710656) :
    Calls Try.prog 26 #[.slice (some ⟨b, 0, none⟩) 1 1] w fun e w' => e = .returned (.slice (some ⟨w.heap.size, 0, none⟩) n n) ∧
      w'.ownsRow w.heap.size 5 1 (.slice (some ⟨w.heap.size, 0, none⟩) n n) n (u8s zs) ∧ Below w.heap.size w w' := by
  have e : joined [⟨a, n, c, zs⟩] = zs := by simp [joined]
  have hl := hb.len
  have h := join_any (some ⟨b, 0, none⟩) 1 1 [⟨a, n, c, zs⟩] w ⟨rfl, .inr ⟨b, 0, rfl, fun i hi => by
    have : i = 0 := by simpa using hi
    subst this
    exact hc⟩, fun p hp => by simp at hp; subst hp; exact hb⟩ (by decide) (by rw [e, hl]; exact hsum)
  rw [e, hl] at h
  exact h

theorem rd_new {w1 : World} {g n : Nat} {zs : List Int} {base : Nat} (hown : w1.ownsRow base 5 1 (.slice (some ⟨g, 0, none⟩) n n) n (u8s zs)) (hz : ∀ z ∈ zs, 0 ≤ z ∧ z ≤ 255) :
    Rd (w1.alloc (.cells #[.slice (some ⟨g, 0, none⟩) n n] 85)) w1.heap.size g zs := by
  have hlt := (hown.lt g rfl).2
  obtain ⟨a, cap, hv, hB, _⟩ := Bytes.of_owns hown hz
  simp only [Value.slice.injEq] at hv
  obtain ⟨rfl, _, rfl⟩ := hv
  exact ⟨0, n, n, heap_alloc_new w1 _, hB.later ((Below.refl _ _).alloc (Nat.le_refl _) _), by omega, by simp; omega⟩

set_option maxRecDepth 100000 in
set_option maxHeartbeats 400000 in
theorem new_any (a : Option Addr) (n c : Nat) (zs : List Int) (w : World) (hb : Bytes w a n c zs) (hsum : n ≤ 281474976710656) :
    Calls Try.prog 32 #[.slice a n c] w fun e w' => ∃ r g, e = .returned (.pointer (some ⟨r, 0, none⟩)) ∧ Rd w' r g zs ∧ w.heap.size ≤ r ∧ w.heap.size ≤ g ∧ r < w'.heap.size ∧ Below w.heap.size w w' := by
  go_enter Try.func32, Try.ntmps32
  go_wp2_with fail
  refine (join_one w.heap.size a n c zs _ (by simp) (hb.later ((Below.refl _ _).alloc (Nat.le_refl _) _)) hsum).mono ?_
  rintro e w1 ⟨rfl, hown, hbel⟩
  have hR := rd_new hown hb.byte
  have hsz : w.heap.size + 1 ≤ w1.heap.size := by have := hbel.size; simpa using this
  have hB : Below w.heap.size w w1 := ((Below.refl _ _).alloc (Nat.le_refl _) _).trans (hbel.mono (by simp))
  clear hown hbel
  go_wp2_with fail
  go_ret
  exact ⟨w1.heap.size, w.heap.size + 1, rfl, by simpa using hR, by omega, by omega, by simp, hB.alloc (by omega) _⟩

end Go.Proofs.Ytphmamhchkolkaa.Ocm

/-
  The walk of octet.scan: the number whose varint stands at the beginning, how many bytes it has, the error.
-/
namespace Go.Proofs.Ytphmamhchkolkaa.Ocm
open Go.RowKit Oct
set_option linter.unusedVariables false

theorem join_bits (k : Nat) (X c : Int) (hX0 : 0 ≤ X) (hX1 : X < pw k) (hc0 : 0 ≤ c) (hk : k ≤ 8 ∨ k ≤ 9 ∧ c ≤ 1) :
    bits BinOp.or IntKind.u64 X (IntKind.u64.wrap (c % 128 * 2 ^ (7 * k))) = X + c % 128 * pw k ∧ X + c % 128 * pw k < 128 * pw k ∧ X + c % 128 * pw k < 18446744073709551616 := by
  have hp := pw_pos k
  have hd : 0 ≤ c % 128 ∧ c % 128 ≤ 127 := by omega
  have hy0 : 0 ≤ c % 128 * pw k := Int.mul_nonneg hd.1 (by omega)
  have hy1 : c % 128 * pw k ≤ 127 * pw k := Int.mul_le_mul_of_nonneg_right hd.2 (by omega)
  have hlt : X + c % 128 * pw k < 18446744073709551616 := by
    rcases hk with hk | ⟨hk, hc⟩
    · have := pw_le8 hk; omega
    · have h1 := pw_le9 hk
      have h2 : c % 128 * pw k ≤ 1 * pw k := Int.mul_le_mul_of_nonneg_right (by omega) (by omega)
      omega
  refine ⟨?_, by omega, hlt⟩
  rw [← pw_pow, IntKind.wrap_u64, Int.emod_eq_of_lt hy0 (by omega), u64_or X _ hX0 (by omega) hy0 (by omega)]
  obtain ⟨x, rfl⟩ := Int.eq_ofNat_of_zero_le hX0
  obtain ⟨d, hdd⟩ := Int.eq_ofNat_of_zero_le hd.1
  have e : (c % 128 * pw k) = ((d * 2 ^ (7 * k) : Nat) : Int) := by rw [hdd, pw_pow]; simp
  rw [e, Int.toNat_natCast, Int.toNat_natCast, Nat.or_comm, nat_join (7 * k) _ _ (Nat.mul_mod_left _ _) (by
    have := hX1; rw [pw_pow] at this; exact_mod_cast this)]
  omega

theorem ret3 {a a' b b' c c' : Int} (h : (a, b, c) = (a', b', c')) : Ending.returned (.tuple #[.int .u64 a, .int .i64 b, .int .i64 c]) = .returned (.tuple #[.int .u64 a', .int .i64 b', .int .i64 c']) := by
  simp only [Prod.mk.injEq] at h
  obtain ⟨rfl, rfl, rfl⟩ := h
  rfl

set_option maxRecDepth 100000 in
set_option maxHeartbeats 1000000 in
theorem scan_any (a : Option Addr) (n cap : Nat) (zs : List Int) (w : World) (hb : Bytes w a n cap zs) :
    Calls Try.prog 69 #[.slice a n cap] w fun e w' => e = .returned (.tuple #[.int .u64 (scan zs).1, .int .i64 (scan zs).2.1, .int .i64 (scan zs).2.2]) ∧ w' = w := by
  have hmx : n ≤ 9223372036854775807 := by have := hb.le; have := hb.max; unfold maxLen at this; omega
  have HL : Hid (zs.length = n) := hb.len
  go_enter Try.func69, Try.ntmps69
  go_wp2_with fail
  go_loop [2, 9] (fun x i => ∃ (k : Nat) (X : Int), k ≤ n ∧ k ≤ 9 ∧ i = .int .i64 k ∧ x = .int .u64 X ∧ 0 ≤ X ∧ X < pw k ∧ scan zs = scn k X (pw k) (zs.drop k)) (fun _ i => n - (intOf i).toNat)
  case atStart => exact ⟨0, 0, Nat.zero_le _, by omega, rfl, rfl, by omega, by simp [pw], rfl⟩
  case round =>
    obtain ⟨k, X, hk, hk9, rfl, rfl, hX0, hX1, hs⟩ := hrel
    have HS : Hid (scan zs = scn k X (pw k) (zs.drop k)) := hs
    have HX : Hid (X < pw k) := hX1
    clear hs hX1
    have hpw : X ≤ 18446744073709551615 := by have := HX.out; have := pw_le9 hk9; omega
    by_cases hlt : k < n
    · obtain ⟨b, off, rfl, _, hc⟩ := hb.at (by omega)
      have g := hc k hlt
      have hby := getD_byte hb.byte k
      have HD : Hid (zs.drop k = zs.getD k 0 :: zs.drop (k + 1)) := drop_cons (by rw [HL.out]; exact hlt)
      generalize zs.getD k 0 = c at *
      clear hc
      obtain ⟨hc0, hc1⟩ := hby
      by_cases hbad : k = 9 ∧ 1 < c
      · obtain ⟨h9, h1c⟩ := hbad
        have h9' : ((k : Int) == 9) = true := by simp; omega
        have HF : Hid (scan zs = (0, 0, 3)) := by show _ = _; rw [HS.out, HD.out, scn, if_pos ⟨h9, h1c⟩]
        have H9 : Hid (k = 9) := h9
        clear h9
        go_wp2_with fail
        go_ret3
        rw [HF.out]
        exact ⟨rfl, rfl⟩
      · have hkc : k ≤ 8 ∨ k ≤ 9 ∧ c ≤ 1 := by omega
        obtain ⟨hj1, hj2, hj3⟩ := join_bits k X c hX0 HX.out hc0 hkc
        have HJ : Hid (bits BinOp.or IntKind.u64 X (IntKind.u64.wrap (c % 128 * 2 ^ (7 * k))) = X + c % 128 * pw k) := hj1
        have HP : Hid (X + c % 128 * pw k < 128 * pw k) := hj2
        clear hj1 hj2 hj3
        have hpos : 0 ≤ X + c % 128 * pw k := by have := pw_pos k; have : 0 ≤ c % 128 * pw k := Int.mul_nonneg (by omega) (by omega); omega
        have HB : Hid (¬ (k = 9 ∧ 1 < c)) := hbad
        by_cases h128 : 128 ≤ c
        · have h9' : ((k : Int) == 9) = false := by simp; omega
          have HF : Hid (scan zs = scn (k + 1) (X + c % 128 * pw k) (pw (k + 1)) (zs.drop (k + 1))) := by show _ = _; rw [HS.out, HD.out, scn, if_neg hbad, if_pos h128]; rfl
          clear hbad
          go_wp2_with fail
          go_round
          case rel => exact ⟨k + 1, X + c % 128 * pw k, by omega, by omega, by go_num, congrArg (Value.int .u64) HJ.out, hpos, HP.out, HF.out⟩
          case measure => simp [intOf]; omega
        · by_cases hz : c = 0 ∧ 0 < k
          · obtain ⟨hz0, hzk⟩ := hz
            have hz0' : (c == 0) = true := by simpa using hz0
            have HF : Hid (scan zs = (0, 0, 3)) := by show _ = _; rw [HS.out, HD.out, scn, if_neg hbad, if_neg h128, if_pos ⟨hz0, hzk⟩]
            have hc1' : ¬ 1 < c := by omega
            clear hbad hz0
            by_cases h9 : k = 9
            · have h9' : ((k : Int) == 9) = true := by simp; omega
              clear h9
              go_wp2_with fail
              go_ret3
              rw [HF.out]
              exact ⟨rfl, rfl⟩
            · have h9' : ((k : Int) == 9) = false := by simp; omega
              go_wp2_with fail
              go_ret3
              rw [HF.out]
              exact ⟨rfl, rfl⟩
          · have HF : Hid (scan zs = (X + c % 128 * pw k, (k : Int) + 1, 0)) := by show _ = _; rw [HS.out, HD.out, scn, if_neg hbad, if_neg h128, if_neg hz]
            by_cases hz0 : c = 0
            · have hk0 : k = 0 := by omega
              have hz0' : (c == 0) = true := by simpa using hz0
              have h9' : ((k : Int) == 9) = false := by simp; omega
              have hk0' : ¬ (0 : Int) < (k : Int) := by omega
              clear hbad hz hz0 hk0
              go_wp2_with fail
              go_ret3
              rw [HF.out]
              exact ⟨ret3 (by rw [HJ.out]), rfl⟩
            · have hz0' : (c == 0) = false := by simpa using hz0
              clear hbad hz hz0
              by_cases h9 : k = 9
              · have h9' : ((k : Int) == 9) = true := by simp; omega
                have hc1' : ¬ 1 < c := by have := HB.out; omega
                clear h9
                go_wp2_with fail
                go_ret3
                rw [HF.out]
                exact ⟨ret3 (by rw [HJ.out]), rfl⟩
              · have h9' : ((k : Int) == 9) = false := by simp; omega
                go_wp2_with fail
                go_ret3
                rw [HF.out]
                exact ⟨ret3 (by rw [HJ.out]), rfl⟩
    · have HF : Hid (scan zs = (0, 0, 2)) := by
        show _ = _
        rw [HS.out, List.drop_eq_nil_of_le (by rw [HL.out]; omega)]; rfl
      go_wp2_with fail
      go_ret3
      rw [HF.out]
      exact ⟨rfl, rfl⟩

end Go.Proofs.Ytphmamhchkolkaa.Ocm

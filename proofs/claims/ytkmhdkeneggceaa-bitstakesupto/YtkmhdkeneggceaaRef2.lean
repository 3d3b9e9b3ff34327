/-
  The walks of damaskref02.Bits, Take, Count and End: the bits of bytes, and what is read of a list of bits, by definition.
-/
import Derived.Test.YtkmhdkeneggceaaRef
namespace Go.Proofs.Ytkmhdkeneggceaa
open Go.RowKit Bt
set_option linter.unusedVariables false

def unpack (zs : List Int) : List Int := zs.flatMap (fun z => binw z 8)

theorem unpack_len (zs : List Int) : (unpack zs).length = 8 * zs.length := by
  induction zs with
  | nil => rfl
  | cons z zs ih => simp only [unpack, List.flatMap_cons, List.length_append, List.length_cons, binw_len] at *; omega
theorem unpack_bin (zs : List Int) : Bin (unpack zs) := by
  intro b hb
  simp only [unpack, List.mem_flatMap] at hb
  obtain ⟨z, _, h⟩ := hb
  exact binw_bin z 8 b h
theorem unpack_snoc (zs : List Int) (z : Int) : unpack (zs ++ [z]) = unpack zs ++ binw z 8 := by simp [unpack]

theorem unpack_getD (zs : List Int) {k : Nat} (hk : k < 8 * zs.length) : (unpack zs).getD k 0 = bitAt zs k := by
  induction zs generalizing k with
  | nil => simp at hk
  | cons z zs ih =>
    have e : unpack (z :: zs) = binw z 8 ++ unpack zs := by simp [unpack]
    rw [e]
    by_cases h : k < 8
    · have h1 : (binw z 8 ++ unpack zs).getD k 0 = (binw z 8).getD k 0 := by
        simp only [List.getD]; rw [List.getElem?_append_left (by rw [binw_len]; exact h)]
      rw [h1]
      unfold bitAt
      rw [show k / 8 = 0 by omega, show k % 8 = k by omega]
      simp [binw, List.getD, h, wt]
    · have h1 : (binw z 8 ++ unpack zs).getD k 0 = (unpack zs).getD (k - 8) 0 := by
        simp only [List.getD]; rw [List.getElem?_append_right (by rw [binw_len]; omega), binw_len]
      rw [h1, ih (by simp only [List.length_cons] at hk; omega)]
      unfold bitAt
      rw [show k / 8 = (k - 8) / 8 + 1 by omega, show (k - 8) % 8 = k % 8 by omega]
      simp [List.getD]

theorem byte_lt {z : Int} (h0 : 0 ≤ z) (h1 : z ≤ 255) : true = decide (0 ≤ (8 : Int) ∧ (8 : Int) ≤ 32 ∧ 0 ≤ z ∧ z < 2 ^ (8 : Int).toNat) := by
  have : (2 : Int) ^ (8 : Int).toNat = 256 := by decide
  rw [this]
  exact (decide_eq_true (by omega)).symm

theorem ownI_app {B : Nat} {w : World} {v : Value} {xs ys : List Int} {n : Nat} (hn : ys.length = n) (h : w.ownsRow B 3 1 v (xs.length + n) (i64s xs ++ i64s ys)) : OwnI B w v (xs ++ ys) := by
  unfold OwnI
  rw [List.length_append, hn]
  simpa using h

set_option maxHeartbeats 1000000 in
theorem refBits_any (a : Option Addr) (n c : Nat) (zs : List Int) (w : World) (hb : Bytes w a n c zs) (hn : n ≤ 1048576) :
    Calls Try.prog 20 #[.slice a n c] w fun e w' => ∃ v, e = .returned v ∧ OwnI w.heap.size w' v (unpack zs) ∧ Below w.heap.size w w' := by
  obtain ⟨i0, hi, hz0, hz1, hz2⟩ := info_parts info3
  have HB := hide hb
  have hl := hb.len
  clear hb
  go_enter Try.func20, Try.ntmps20
  go_wp2_with fail
  go_loopw [3, 4] (fun v i wr => ∃ k : Nat, k ≤ n ∧ i = .int .i64 (k : Nat) ∧ OwnI w.heap.size wr v (unpack (zs.take k)) ∧ Below w.heap.size w wr) (fun _ i _ => n - (intOf i).toNat)
  case atStart => exact ⟨0, Nat.zero_le _, rfl, ⟨rfl, .inl ⟨rfl, rfl⟩⟩, Below.refl _ _⟩
  case round =>
    obtain ⟨k, hk, rfl, hown, hbel⟩ := hrel
    have HO := hide hown
    have HBel := hide hbel
    have hul : (unpack (zs.take k)).length ≤ 8 * k := by rw [unpack_len, List.length_take]; omega
    clear hown hbel
    by_cases hlt : k < n
    · obtain ⟨b, off, rfl, _, hc⟩ := (HB.out.later HBel.out).at (by omega)
      have c0 := hc k hlt
      obtain ⟨hx0, hx1⟩ := getD_byte HB.out.byte k
      have HT : Hid (unpack (zs.take (k + 1)) = unpack (zs.take k) ++ binw (zs.getD k 0) 8) := hide (by
        rw [List.take_succ_eq_append_getElem (by omega), unpack_snoc]
        simp [List.getD, show k < zs.length by omega])
      clear hc
      generalize zs.getD k 0 = z at *
      generalize unpack (zs.take k) = U at *
      go_wp2_with fail
      refine (plain_any z 8 wr (by omega) true (byte_lt hx0 hx1)).mono ?_
      rintro e w2 ⟨vt, rfl, hot, hb2⟩
      have hot' := hot rfl
      have HO2 := hide ((Keeps.of_below (S := fun _ => False) hb2 (fun k hk h' => by omega)).owns HO.out (fun _ _ h => h))
      have HB2 := hide (HBel.out.trans (hb2.mono HBel.out.size))
      obtain ⟨at', ct', rfl, hI, _⟩ := Ints.of_owns (n := 8) hot'
      have HI := hide hI
      have hno : at' = none → 8 = 0 ∧ ct' = 0 := fun h => by subst h; exact absurd hI.none.1 (by decide)
      have HNO := hide hno
      have HNW := hide hI.news
      have hnl : (i64s (binw z 8)).length = 8 * 1 := by simp [binw_len]
      have hbs : w.heap.size ≤ w2.heap.size := HB2.out.size
      clear hot hot' hb2 hI hno c0
      have HLN : Hid ((8 : Int).toNat = 8) := hide rfl
      cases at' with
      | none => exact absurd (HNO.out rfl).1 (by decide)
      | some ad =>
        go_wp2_with (at_builtin; refine wpList_append_own _ rfl _ _ 26 rfl w.heap.size 3 i0 (.int .i64 0) 1 8 Try.underlying26 hi hz0 hz1 hz2 rfl (by decide) u3 U.length (i64s U) rfl HO2.out ad 8 ct' (i64s (binw z 8)) rfl hnl (HNW.out ad rfl) (ints_oneCell _ _) (by unfold maxLen; omega) (by omega) hbs ?_; intro v' w3 hown3 hgr3 _; have HO3 := hide (ownI_app (by simp [binw_len]) hown3); have HB3 := hide (below_append' HB2.out hbs HO2.out hgr3); clear hown3 hgr3)
        go_roundw
        case rel => exact ⟨k + 1, by omega, by go_num, by rw [HT.out]; exact HO3.out, HB3.out⟩
        case measure => simp [intOf]; omega
    · obtain rfl : k = n := by omega
      have HT : Hid (zs.take k = zs) := hide (List.take_of_length_le (by omega))
      go_wp2_with fail
      go_ret
      exact ⟨_, rfl, by rw [HT.out] at HO; exact HO.out, HBel.out⟩

end Go.Proofs.Ytkmhdkeneggceaa

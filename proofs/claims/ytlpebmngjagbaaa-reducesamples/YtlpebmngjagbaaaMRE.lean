/-
  ReduceSamples' code, reduced: it is taken.
-/
import Derived.Test.YtlpebmngjagbaaaMRC
namespace Go.Proofs.Rdc
open Go.RowKit Go.IntWalk Ytlpebmngjagbaaa.Knd
open Cde (In i0 okI okT mcB coL coZ csB vlI vaZ)
open Vfy (Sps ahI vfE vfS vf_parts w32 sgF sgS sgI asS myE)
open Ytlpebmngjagbaaa (Wd wdA Fits inpV)
open Fld (Rv gv rg thI exR av1 av2 vlI_op two_ex one_ex)
set_option linter.unusedVariables false

def smP (d : Int) : List In := [⟨3, 0, 0, 0, 3, 0⟩, ⟨1, 0, 0, 0, d, 0⟩]
def smC (d : Int) : List In := [⟨3, 0, 0, 0, 3, 0⟩, ⟨1, 0, 0, 0, d, 0⟩, ⟨11, 0, 1, 0, 0, 0⟩, ⟨15, 1, 0, 0, 0, 0⟩, ⟨10, 1, 2, 0, 0, 0⟩, ⟨9, 0, 4, 0, 0, 0⟩, ⟨25, 5, 3, 0, 0, 0⟩]
/-- What the quotient's registers are. -/
structure Qs (f dd lo hi d : Int) (Q : List In) (SQ : Sps) (qa qb : Int) : Prop where
  eq : dvL lo hi 0 d 2 = some Q
  sl : SQ.length = Q.length
  l1 : 1 ≤ Q.length
  l4 : Q.length ≤ 4
  sg : sgF f dd (smP d ++ Q) = (0, [(lo, hi), (d, d)] ++ SQ)
  at' : ([(lo, hi), (d, d)] ++ SQ).getD (2 + Q.length - 1) (0, 0) = (qa, qb)
  le : qa ≤ qb
  ge : -300000 ≤ qa * d
  ub : qb * d ≤ 300000
  ops : ∀ n ∈ Q, n.op ≠ 3 ∧ n.op ≠ 10 ∧ n.op ≠ 11 ∧ n.op ≠ 15
theorem dv_sg {f dd lo hi d : Int} (hP : sgF f dd (smP d) = (0, [(lo, hi), (d, d)])) (hw : Wh lo hi) (hlo : -32768 ≤ lo) (hhi : hi ≤ 65535) (hd : 2 ≤ d) (hd2 : d ≤ 65535) : ∃ Q SQ qa qb, Qs f dd lo hi d Q SQ qa qb := by
  have hw' := hw
  obtain ⟨w1, w2, w3, w4, w5⟩ := hw'
  rcases pw_cases d with hp | ⟨n, hn, hp, hdn⟩
  · have hsm : (mgZ (max (-lo) hi) d).2.2 = true := mg_small hd (by omega) (by omega) (by omega)
    obtain ⟨⟨k, s, b⟩, hk⟩ : ∃ z, mgZ (max (-lo) hi) d = z := ⟨_, rfl⟩
    rw [hk] at hsm
    dsimp only at hsm
    subst hsm
    obtain ⟨u, rfl, hu, hk1, hk2, hk3, -, apos, aneg⟩ := mg_div hk (x := lo) (by omega) (by omega)
    obtain ⟨u', hu', -, -, -, -, -, bpos, bneg⟩ := mg_div hk (x := hi) (by omega) (by omega)
    obtain rfl : u = u' := by omega
    have hm1 : max lo (-lo) * k ≤ 4611686018427387904 := by
      have : max lo (-lo) * k ≤ max (-lo) hi * k := Int.mul_le_mul_of_nonneg_right (by omega) (by omega)
      rw [Int.mul_comm k] at hk3
      omega
    have hm2 : max hi (-hi) * k ≤ 4611686018427387904 := by
      have : max hi (-hi) * k ≤ max (-lo) hi * k := Int.mul_le_mul_of_nonneg_right (by omega) (by omega)
      rw [Int.mul_comm k] at hk3
      omega
    have hle : lo * k / 2 ^ u ≤ hi * k / 2 ^ u := Int.ediv_le_ediv (pow_pos' u) (Int.mul_le_mul_of_nonneg_right w1 (by omega))
    have la := td_le (x := lo) ⟨w2, w3⟩ hd
    have lb := td_le (x := hi) ⟨w4, w5⟩ hd
    obtain ⟨ma, ma'⟩ := td_mul (x := lo) (show 0 < d by omega)
    obtain ⟨mb, mb'⟩ := td_mul (x := hi) (show 0 < d by omega)
    have hA : lo * k / 2 ^ u = lo.tdiv d ∨ (lo < 0 ∧ lo * k / 2 ^ u = lo.tdiv d - 1) := by
      by_cases h : 0 ≤ lo
      · exact .inl (apos h)
      · have := aneg (by omega)
        exact .inr ⟨by omega, by omega⟩
    have hB : hi * k / 2 ^ u = hi.tdiv d ∨ (hi < 0 ∧ hi * k / 2 ^ u = hi.tdiv d - 1) := by
      by_cases h : 0 ≤ hi
      · exact .inl (bpos h)
      · have := bneg (by omega)
        exact .inr ⟨by omega, by omega⟩
    have hWq : Wh (lo * k / 2 ^ u) (hi * k / 2 ^ u) := ⟨hle, by omega, by omega, by omega, by omega⟩
    have s1 := sg_step (n := ⟨33, 0, 0, 0, k, u⟩) (s := (lo * k / 2 ^ u, hi * k / 2 ^ u)) hP (by
      rw [sg1 (by decide)]
      exact of_muls (s := (u : Int)) ⟨hk1, hk2⟩ (by omega) hw hm1 hm2 hWq)
    have mA : lo * k / 2 ^ u * d = lo.tdiv d * d ∨ (lo < 0 ∧ lo * k / 2 ^ u * d = lo.tdiv d * d - d) := by
      rcases hA with e | ⟨e0, e⟩
      · exact .inl (by rw [e])
      · exact .inr ⟨e0, by rw [e, Int.sub_mul, Int.one_mul]⟩
    have mB : hi * k / 2 ^ u * d = hi.tdiv d * d ∨ (hi < 0 ∧ hi * k / 2 ^ u * d = hi.tdiv d * d - d) := by
      rcases hB with e | ⟨e0, e⟩
      · exact .inl (by rw [e])
      · exact .inr ⟨e0, by rw [e, Int.sub_mul, Int.one_mul]⟩
    have hdv : dvL lo hi 0 d 2 = if 0 ≤ lo then some [⟨33, 0, 0, 0, k, u⟩] else some [⟨33, 0, 0, 0, k, u⟩, ⟨30, 0, 0, 0, 31, 0⟩, ⟨9, 2, 2 + 1, 0, 0, 0⟩] := by
      unfold dvL
      rw [hp, if_neg (by omega), hk, if_pos rfl]
    generalize hqa : lo * k / 2 ^ u = qa at *
    generalize hqb : hi * k / 2 ^ u = qb at *
    by_cases h0 : 0 ≤ lo
    · refine ⟨_, [(qa, qb)], qa, qb, by rw [hdv, if_pos h0], rfl, by simp, by simp, s1, rfl, hle, ?_, ?_, ?_⟩
      · have := ma h0
        omega
      · have := mb (by omega)
        omega
      · intro x hx
        simp only [List.mem_cons, List.not_mem_nil, or_false] at hx
        subst hx
        simp
    · obtain ⟨e31, w31⟩ := of_shr (k := 31) (by omega) hw
      have v31 : lo / 2 ^ (31 : Int).toNat = -1 ∧ -1 ≤ hi / 2 ^ (31 : Int).toNat ∧ hi / 2 ^ (31 : Int).toNat ≤ 0 := by
        have e : (2 : Int) ^ (31 : Int).toNat = 2147483648 := by decide
        rw [e]
        omega
      have s2 := sg_step (n := ⟨30, 0, 0, 0, 31, 0⟩) (s := (lo / 2 ^ (31 : Int).toNat, hi / 2 ^ (31 : Int).toNat)) s1 (by
        rw [sg1 (by decide)]
        exact e31)
      generalize lo / 2 ^ (31 : Int).toNat = p at *
      generalize hi / 2 ^ (31 : Int).toNat = q at *
      have hW3 : Wh (qa - q) (qb - p) := ⟨by omega, by omega, by omega, by omega, by omega⟩
      have s3 := sg_step (n := ⟨9, 2, 2 + 1, 0, 0, 0⟩) (s := (qa - q, qb - p)) s2 (by
        rw [sg2 (by decide)]
        exact of_two (.inr rfl) hWq w31 rfl hW3)
      have ha := ma' (by omega)
      refine ⟨_, [(qa, qb), (p, q), (qa - q, qb - p)], qa - q, qb - p, by rw [hdv, if_neg h0], rfl, by simp, by simp, by simpa using s3, rfl, by omega, ?_, ?_, ?_⟩
      · rw [Int.sub_mul]
        have h1 : q * d ≤ 0 := by
          have := Int.mul_le_mul_of_nonneg_right v31.2.2 (show 0 ≤ d by omega)
          omega
        omega
      · rw [Int.sub_mul, v31.1]
        by_cases h : 0 ≤ hi
        · have := mb h
          omega
        · have := mb' (by omega)
          omega
      · intro x hx
        simp only [List.mem_cons, List.not_mem_nil, or_false] at hx
        rcases hx with rfl | rfl | rfl <;> simp
  · have hn0 : n ≠ 0 := by
      rintro rfl
      rw [Int.pow_zero] at hdn
      omega
    have hdv : dvL lo hi 0 d 2 = if 0 ≤ lo then some [⟨30, 0, 0, 0, n, 0⟩] else some [⟨30, 0, 0, 0, 31, 0⟩, ⟨31, 2, 0, 0, d - 1, 0⟩, ⟨8, 0, 2 + 1, 0, 0, 0⟩, ⟨30, 2 + 2, 0, 0, n, 0⟩] := by
      unfold dvL
      rw [hp, if_pos (by omega), if_pos (show hi + d - 1 ≤ 2147483647 by omega)]
    by_cases h0 : 0 ≤ lo
    · obtain ⟨e1, wq⟩ := of_shr (k := (n : Int)) (by omega) hw
      rw [Int.toNat_natCast, ← hdn] at e1 wq
      have s1 := sg_step (n := ⟨30, 0, 0, 0, n, 0⟩) (s := (lo / d, hi / d)) hP (by
        rw [sg1 (by decide)]
        exact e1)
      have f1 := fl_mul (x := lo) (show 0 < d by omega)
      have f2 := fl_mul (x := hi) (show 0 < d by omega)
      refine ⟨_, [(lo / d, hi / d)], lo / d, hi / d, by rw [hdv, if_pos h0], rfl, by simp, by simp, s1, rfl, wq.1, by omega, by omega, ?_⟩
      intro x hx
      simp only [List.mem_cons, List.not_mem_nil, or_false] at hx
      subst hx
      simp
    · obtain ⟨e31, w31⟩ := of_shr (k := 31) (by omega) hw
      have s1 := sg_step (n := ⟨30, 0, 0, 0, 31, 0⟩) (s := (lo / 2 ^ (31 : Int).toNat, hi / 2 ^ (31 : Int).toNat)) hP (by
        rw [sg1 (by decide)]
        exact e31)
      generalize lo / 2 ^ (31 : Int).toNat = p at *
      generalize hi / 2 ^ (31 : Int).toNat = q at *
      obtain ⟨y, ey, y0, y1⟩ := of_andk (k := d - 1) (by omega) w31
      have s2 := sg_step (n := ⟨31, 2, 0, 0, d - 1, 0⟩) (s := (0, y)) s1 (by
        rw [sg1 (by decide)]
        exact ey)
      have s3 := sg_step (n := ⟨8, 0, 2 + 1, 0, 0, 0⟩) (s := (lo + 0, hi + y)) s2 (by
        rw [sg2 (by decide)]
        exact of_two (.inl rfl) hw ⟨y0, by omega, by omega, by omega, by omega⟩ rfl ⟨by omega, by omega, by omega, by omega, by omega⟩)
      obtain ⟨e4, w4'⟩ := of_shr (k := (n : Int)) (by omega) (show Wh (lo + 0) (hi + y) from ⟨by omega, by omega, by omega, by omega, by omega⟩)
      rw [Int.toNat_natCast, ← hdn] at e4 w4'
      have s4 := sg_step (n := ⟨30, 2 + 2, 0, 0, n, 0⟩) (s := ((lo + 0) / d, (hi + y) / d)) s3 (by
        rw [sg1 (by decide)]
        exact e4)
      have f1 := fl_mul (x := lo + 0) (show 0 < d by omega)
      have f2 := fl_mul (x := hi + y) (show 0 < d by omega)
      refine ⟨_, [(p, q), (0, y), (lo + 0, hi + y), ((lo + 0) / d, (hi + y) / d)], (lo + 0) / d, (hi + y) / d, by rw [hdv, if_neg h0], rfl, by simp, by simp, by simpa using s4, rfl, w4'.1, by omega, by omega, ?_⟩
      intro x hx
      simp only [List.mem_cons, List.not_mem_nil, or_false] at hx
      rcases hx with rfl | rfl | rfl | rfl <;> simp

/-- The reduced code. -/
def smN (d : Int) (Q : List In) : List In := smP d ++ Q ++ [⟨31, 0, 0, 0, d, 0⟩] ++ [tmI (2 + Q.length - 1) d] ++ [⟨9, 0, 2 + Q.length + 1, 0, 0, 0⟩] ++ [⟨25, 2 + Q.length + 2, 2 + Q.length, 0, 0, 0⟩]
theorem rdS_of {L : List In} {S : Sps} {M : List In} {T : List Int} {n : In} {W : List In} {m : Nat} (hm : M.length = m) (h : rdW L S T n m = W) : rdS L S (M, T) n = (M ++ W, T ++ [((m + W.length : Nat) : Int) - 1]) := by
  subst hm
  unfold rdS
  rw [h]
theorem sm_rd {lo hi d : Int} {S : Sps} (hS : S.getD 0 (0, 0) = (lo, hi)) (hd : 0 ≤ d) {Q : List In} (hQ : dvL lo hi 0 d 2 = some Q) : (rdF (smC d) S (smC d)).1 = smN d Q ∧ (rdF (smC d) S (smC d)).2.getD 6 0 = 2 + Q.length + 3 := by
  have e : rdF (smC d) S (smC d) = rdS (smC d) S (rdS (smC d) S (rdS (smC d) S (rdS (smC d) S (rdS (smC d) S (rdS (smC d) S (rdS (smC d) S ([], []) ⟨3, 0, 0, 0, 3, 0⟩) ⟨1, 0, 0, 0, d, 0⟩) ⟨11, 0, 1, 0, 0, 0⟩) ⟨15, 1, 0, 0, 0, 0⟩) ⟨10, 1, 2, 0, 0, 0⟩) ⟨9, 0, 4, 0, 0, 0⟩) ⟨25, 5, 3, 0, 0, 0⟩ := rfl
  have a1 : rdS (smC d) S ([], []) ⟨3, 0, 0, 0, 3, 0⟩ = ([⟨3, 0, 0, 0, 3, 0⟩], [0]) := rdS_of (m := 0) (W := [⟨3, 0, 0, 0, 3, 0⟩]) rfl rfl
  have a2 : rdS (smC d) S ([⟨3, 0, 0, 0, 3, 0⟩], [0]) ⟨1, 0, 0, 0, d, 0⟩ = (smP d, [0, 1]) := rdS_of (m := 1) (W := [⟨1, 0, 0, 0, d, 0⟩]) rfl rfl
  have a3 : rdS (smC d) S (smP d, [0, 1]) ⟨11, 0, 1, 0, 0, 0⟩ = (smP d ++ Q, [0, 1] ++ [((2 + Q.length : Nat) : Int) - 1]) := rdS_of (m := 2) (W := Q) rfl (by
    have : qkL (smC d) S [0, 1] ⟨11, 0, 1, 0, 0, 0⟩ 2 = dvL (S.getD 0 (0, 0)).1 (S.getD 0 (0, 0)).2 0 d 2 := rfl
    show (qkL (smC d) S [0, 1] ⟨11, 0, 1, 0, 0, 0⟩ 2).getD _ = Q
    rw [this, hS, hQ]
    rfl)
  obtain ⟨x2, hx2⟩ : ∃ x2 : Int, ((2 + Q.length : Nat) : Int) - 1 = x2 := ⟨_, rfl⟩
  rw [hx2] at a3
  obtain ⟨m2, hm2⟩ : ∃ m2 : Nat, 2 + Q.length = m2 := ⟨_, rfl⟩
  have hl : (smP d ++ Q).length = m2 := by rw [← hm2, List.length_append]; rfl
  have a4 : rdS (smC d) S (smP d ++ Q, [0, 1, x2]) ⟨15, 1, 0, 0, 0, 0⟩ = (smP d ++ Q ++ [⟨31, 0, 0, 0, d, 0⟩], [0, 1, x2] ++ [((m2 + 1 : Nat) : Int) - 1]) := rdS_of (W := [⟨31, 0, 0, 0, d, 0⟩]) hl (by
    have e1 : qkL (smC d) S [0, 1, x2] ⟨15, 1, 0, 0, 0, 0⟩ m2 = if (1 : Int) = 1 ∧ 0 ≤ d then some [⟨31, 0, 0, 0, d, 0⟩] else none := rfl
    show (qkL (smC d) S [0, 1, x2] ⟨15, 1, 0, 0, 0, 0⟩ m2).getD _ = _
    rw [e1, if_pos ⟨rfl, hd⟩]
    rfl)
  obtain ⟨x3, hx3⟩ : ∃ x3 : Int, ((m2 + 1 : Nat) : Int) - 1 = x3 := ⟨_, rfl⟩
  rw [hx3] at a4
  have a5 : rdS (smC d) S (smP d ++ Q ++ [⟨31, 0, 0, 0, d, 0⟩], [0, 1, x2, x3]) ⟨10, 1, 2, 0, 0, 0⟩ = (smP d ++ Q ++ [⟨31, 0, 0, 0, d, 0⟩] ++ [tmI x2 d], [0, 1, x2, x3] ++ [((m2 + 1 + 1 : Nat) : Int) - 1]) := rdS_of (m := m2 + 1) (W := [tmI x2 d]) (by rw [List.length_append, hl]; rfl) rfl
  obtain ⟨x4, hx4⟩ : ∃ x4 : Int, ((m2 + 1 + 1 : Nat) : Int) - 1 = x4 := ⟨_, rfl⟩
  rw [hx4] at a5
  have a6 : rdS (smC d) S (smP d ++ Q ++ [⟨31, 0, 0, 0, d, 0⟩] ++ [tmI x2 d], [0, 1, x2, x3, x4]) ⟨9, 0, 4, 0, 0, 0⟩ = (smP d ++ Q ++ [⟨31, 0, 0, 0, d, 0⟩] ++ [tmI x2 d] ++ [⟨9, 0, x4, 0, 0, 0⟩], [0, 1, x2, x3, x4] ++ [((m2 + 2 + 1 : Nat) : Int) - 1]) := rdS_of (m := m2 + 2) (W := [⟨9, 0, x4, 0, 0, 0⟩]) (by rw [List.length_append, List.length_append, hl]; rfl) rfl
  obtain ⟨x5, hx5⟩ : ∃ x5 : Int, ((m2 + 2 + 1 : Nat) : Int) - 1 = x5 := ⟨_, rfl⟩
  rw [hx5] at a6
  have a7 : rdS (smC d) S (smP d ++ Q ++ [⟨31, 0, 0, 0, d, 0⟩] ++ [tmI x2 d] ++ [⟨9, 0, x4, 0, 0, 0⟩], [0, 1, x2, x3, x4, x5]) ⟨25, 5, 3, 0, 0, 0⟩ = (smP d ++ Q ++ [⟨31, 0, 0, 0, d, 0⟩] ++ [tmI x2 d] ++ [⟨9, 0, x4, 0, 0, 0⟩] ++ [⟨25, x5, x3, 0, 0, 0⟩], [0, 1, x2, x3, x4, x5] ++ [((m2 + 3 + 1 : Nat) : Int) - 1]) := rdS_of (m := m2 + 3) (W := [⟨25, x5, x3, 0, 0, 0⟩]) (by rw [List.length_append, List.length_append, List.length_append, hl]; rfl) rfl
  have hr : rdF (smC d) S (smC d) = (smP d ++ Q ++ [⟨31, 0, 0, 0, d, 0⟩] ++ [tmI x2 d] ++ [⟨9, 0, x4, 0, 0, 0⟩] ++ [⟨25, x5, x3, 0, 0, 0⟩], [0, 1, x2, x3, x4, x5] ++ [((m2 + 3 + 1 : Nat) : Int) - 1]) := by
    rw [e, a1, a2, a3]
    rw [show ([0, 1] ++ [x2] : List Int) = [0, 1, x2] from rfl, a4]
    rw [show ([0, 1, x2] ++ [x3] : List Int) = [0, 1, x2, x3] from rfl, a5]
    rw [show ([0, 1, x2, x3] ++ [x4] : List Int) = [0, 1, x2, x3, x4] from rfl, a6]
    rw [show ([0, 1, x2, x3, x4] ++ [x5] : List Int) = [0, 1, x2, x3, x4, x5] from rfl, a7]
  have b2 : x2 = 2 + Q.length - 1 := by omega
  have b3 : x3 = 2 + Q.length := by omega
  have b4 : x4 = 2 + Q.length + 1 := by omega
  have b5 : x5 = 2 + Q.length + 2 := by omega
  rw [hr]
  refine ⟨?_, ?_⟩
  · show _ = smN d Q
    rw [b2, b3, b4, b5]
    rfl
  · show ((m2 + 3 + 1 : Nat) : Int) - 1 = _
    omega

theorem smP_sg (f dd d : Int) : sgF f dd (smP d) = (0, [(lowZ f dd, highZ f dd), (d, d)]) := rfl
theorem getS_last (S : Sps) (p : Int × Int) {m : Nat} (h : S.length = m) : (S ++ [p]).getD m (0, 0) = p := by subst h; simp [List.getD_eq_getElem?_getD]
/-- The reduced code's spans. -/
theorem sm_sg {f dd lo hi d qa qb : Int} {Q : List In} {SQ : Sps} (h : Qs f dd lo hi d Q SQ qa qb) (hw : Wh lo hi) (hlo : -32768 ≤ lo) (hhi : hi ≤ 65535) (hd : 2 ≤ d) (hd2 : d ≤ 65535) : (sgF f dd (smN d Q)).1 = 0 := by
  obtain ⟨-, h2, h3, h4, h5, h6, h7, h8, h9, -⟩ := h
  have hql := h2
  obtain ⟨w1, w2, w3, w4, w5⟩ := hw
  have hab : qa * d ≤ qb * d := Int.mul_le_mul_of_nonneg_right h7 (by omega)
  have na := of_mul_le (q := qa) (B := 300000) hd h8 (by omega) (by omega)
  have nb := of_mul_le (q := qb) (B := 300000) hd (by omega) h9 (by omega)
  have hWq : Wh qa qb := ⟨h7, by omega, by omega, by omega, by omega⟩
  have hWp : Wh (qa * d) (qb * d) := ⟨hab, by omega, by omega, by omega, by omega⟩
  generalize hS2 : [(lo, hi), (d, d)] ++ SQ = S2 at *
  have hl2 : S2.length = 2 + Q.length := by rw [← hS2]; simp; omega
  have g0 : ∀ Z : Sps, (S2 ++ Z).getD 0 (0, 0) = (lo, hi) := by intro Z; rw [← hS2]; rfl
  obtain ⟨y, ey, y0, y1⟩ := of_andk (k := d) (by omega) (show Wh lo hi from ⟨w1, w2, w3, w4, w5⟩)
  have s1 := sg_step (n := ⟨31, 0, 0, 0, d, 0⟩) (s := (0, y)) h5 (by
    rw [sg1 (by decide)]
    have := g0 []
    rw [List.append_nil] at this
    show Ytlpebmngjagbaaa.Spn.ofZ 31 d 0 [S2.getD 0 (0, 0)] = _
    rw [this]
    exact ey)
  have gq : (S2 ++ [(0, y)]).getD (2 + (Q.length : Int) - 1).toNat (0, 0) = (qa, qb) := by
    have e : (2 + (Q.length : Int) - 1).toNat = 2 + Q.length - 1 := by omega
    rw [e, Vfy.getS_pre (by omega)]
    exact h6
  have s2 := sg_step (n := tmI (2 + Q.length - 1) d) (s := (qa * d, qb * d)) s1 (by
    unfold tmI
    rcases pw_cases d with hp | ⟨n, hn, hp, hdn⟩
    · rw [hp, if_neg (by omega), sg1 (by decide), gq]
      exact of_mulk (by omega) hWq hWp
    · rw [hp, if_pos (by omega), sg1 (by decide), gq]
      have := of_shl (k := (n : Int)) (by omega) hWq (by rw [Int.toNat_natCast, ← hdn]; exact hWp)
      rw [Int.toNat_natCast, ← hdn] at this
      exact this)
  have g4 : (S2 ++ [(0, y)] ++ [(qa * d, qb * d)]).getD (2 + (Q.length : Int) + 1).toNat (0, 0) = (qa * d, qb * d) := by
    have e : (2 + (Q.length : Int) + 1).toNat = 2 + Q.length + 1 := by omega
    rw [e]
    exact getS_last _ _ (by simp [hl2])
  generalize qa * d = A at *
  generalize qb * d = B at *
  have s3 := sg_step (n := ⟨9, 0, 2 + Q.length + 1, 0, 0, 0⟩) (s := (lo - B, hi - A)) s2 (by
    rw [sg2 (by decide), g4]
    show Ytlpebmngjagbaaa.Spn.ofZ 9 0 0 [(S2 ++ [(0, y)] ++ [(A, B)]).getD 0 (0, 0), (A, B)] = _
    rw [List.append_assoc, g0]
    exact of_two (.inr rfl) ⟨w1, w2, w3, w4, w5⟩ hWp rfl ⟨by omega, by omega, by omega, by omega, by omega⟩)
  have g5 : (S2 ++ [(0, y)] ++ [(A, B)] ++ [(lo - B, hi - A)]).getD (2 + (Q.length : Int) + 2).toNat (0, 0) = (lo - B, hi - A) := by
    have e : (2 + (Q.length : Int) + 2).toNat = 2 + Q.length + 2 := by omega
    rw [e]
    exact getS_last _ _ (by simp [hl2])
  have g3 : (S2 ++ [(0, y)] ++ [(A, B)] ++ [(lo - B, hi - A)]).getD (2 + (Q.length : Int)).toNat (0, 0) = (0, y) := by
    have e : (2 + (Q.length : Int)).toNat = 2 + Q.length := by omega
    rw [e, Vfy.getS_pre (by simp [hl2]), Vfy.getS_pre (by simp [hl2])]
    exact getS_last _ _ hl2
  have s4 := sg_step (n := ⟨25, 2 + Q.length + 2, 2 + Q.length, 0, 0, 0⟩) (s := (max (lo - B) 0, max (hi - A) y)) s3 (by
    rw [sg2 (by decide), g5, g3]
    exact of_max ⟨by omega, by omega, by omega, by omega, by omega⟩ ⟨by omega, by omega, by omega, by omega, by omega⟩)
  show (sgF f dd (smN d Q)).1 = 0
  unfold smN
  rw [s4]

/-- The reduced code is taken, and has no operator of those. -/
theorem sm_new {f dd d : Int} (hd : 2 ≤ d) (hd2 : d ≤ 65535) (h : vfE f dd (smC d) 6 = 0) : vfE f dd (rdN f dd (smC d) 6) (rdO f dd (smC d) 6) = 0 ∧ ∀ n ∈ rdN f dd (smC d) 6, n.op ≠ 10 ∧ n.op ≠ 11 ∧ n.op ≠ 15 := by
  obtain ⟨m, ha, ⟨S, hS, hSl, hs⟩, hco, -⟩ := vf_parts h
  obtain ⟨hm, -, -, -, -, -⟩ := Cde.mc_parts m
  obtain ⟨hw, hlo, hhi⟩ := lh_bounds hm
  have hP := smP_sg f dd d
  obtain ⟨Z, hZ⟩ := sg_pre [⟨11, 0, 1, 0, 0, 0⟩, ⟨15, 1, 0, 0, 0, 0⟩, ⟨10, 1, 2, 0, 0, 0⟩, ⟨9, 0, 4, 0, 0, 0⟩, ⟨25, 5, 3, 0, 0, 0⟩] (smP d) _ S hP hS
  obtain ⟨Q, SQ, qa, qb, hQ⟩ := dv_sg hP hw hlo hhi hd hd2
  have h0 : S.getD 0 (0, 0) = (lowZ f dd, highZ f dd) := by rw [hZ]; rfl
  obtain ⟨r1, r2⟩ := sm_rd h0 (by omega) hQ.eq
  have hN : rdN f dd (smC d) 6 = smN d Q := by rw [rdN, hs]; exact r1
  have hO : rdO f dd (smC d) 6 = 2 + Q.length + 3 := by rw [rdO, hs]; exact r2
  have hlen : (smN d Q).length = 2 + Q.length + 4 := by simp [smN, smP]; omega
  have htm : (tmI (2 + Q.length - 1) d).op = 29 ∨ (tmI (2 + Q.length - 1) d).op = 32 := by
    unfold tmI
    split
    · exact .inl rfl
    · exact .inr rfl
  have hmem : ∀ n ∈ smN d Q, n = ⟨3, 0, 0, 0, 3, 0⟩ ∨ (n.op ≠ 3 ∧ n.op ≠ 10 ∧ n.op ≠ 11 ∧ n.op ≠ 15) := by
    intro n hn
    simp only [smN, smP, List.mem_append, List.mem_cons, List.not_mem_nil, or_false] at hn
    rcases hn with (((((rfl | rfl) | hn) | rfl) | rfl) | rfl) | rfl
    · exact .inl rfl
    · exact .inr (by simp)
    · exact .inr (hQ.ops n hn)
    · exact .inr (by simp)
    · exact .inr (by omega)
    · exact .inr (by simp)
    · exact .inr (by simp)
  have hl1 := hQ.l1
  have hl4 := hQ.l4
  rw [hN, hO]
  constructor
  · rw [Vfy.vf_zero]
    refine ⟨Vfy.my_zero.2 ⟨?_, ?_⟩, sm_sg hQ hw hlo hhi hd hd2, ?_⟩
    · obtain ⟨V, -, -, hOd⟩ := od_of h (Fld.wd0_fits hm)
      obtain ⟨U, hU⟩ := rd_vals hOd (smC d).length (Nat.le_refl _)
      rw [List.take_length, hs, r1] at hU
      simp only [mcB, Bool.and_eq_true, decide_eq_true_eq, Ytlpebmngjagbaaa.Spn.inB_iff, hlen]
      refine ⟨⟨⟨hm, by omega⟩, by omega⟩, ?_⟩
      have hok := hU.rv.ok
      rw [hlen] at hok
      unfold okT
      rw [List.all_eq_true]
      intro i hi
      exact hok i (by simpa using hi)
    · rw [List.any_eq_false]
      intro n hn
      rcases hmem n hn with rfl | ⟨h3, -⟩
      · have hc : 3 < countZ f dd := by
          have hm' := hm
          unfold countZ
          rw [if_pos hm']
          split <;> omega
        simp [ahI]
        omega
      · simp [ahI, h3]
    · have := rdF_cost (smC d) S (smC d).length (Nat.le_refl _)
      rw [List.take_length, r1] at this
      omega
  · intro n hn
    rcases hmem n hn with rfl | ⟨-, h2⟩
    · simp
    · exact h2

/-- What it answers of samples that are all x. -/
theorem sm_val {f dd d x : Int} {v : Wd} {V : List Int} (h : Rv f dd v (smC d) V) (h0 : d ≠ 0) (hp : v.ps.getD 3 0 = x) : V.getD 6 0 = max (x.tmod d) (bits .and .i64 x d) := by
  have r0 := h.val 0 (by simp [smC])
  have r1 := h.val 1 (by simp [smC])
  have r2 := h.val 2 (by simp [smC])
  have r3 := h.val 3 (by simp [smC])
  have r4 := h.val 4 (by simp [smC])
  have r5 := h.val 5 (by simp [smC])
  have r6 := h.val 6 (by simp [smC])
  change vlI f dd v V ⟨3, 0, 0, 0, 3, 0⟩ = _ at r0
  change vlI f dd v V ⟨1, 0, 0, 0, d, 0⟩ = _ at r1
  change vlI f dd v V ⟨11, 0, 1, 0, 0, 0⟩ = _ at r2
  change vlI f dd v V ⟨15, 1, 0, 0, 0, 0⟩ = _ at r3
  change vlI f dd v V ⟨10, 1, 2, 0, 0, 0⟩ = _ at r4
  change vlI f dd v V ⟨9, 0, 4, 0, 0, 0⟩ = _ at r5
  change vlI f dd v V ⟨25, 5, 3, 0, 0, 0⟩ = _ at r6
  have q0 : v.ps.getD 3 0 = V.getD 0 0 := by
    have e : vlI f dd v V ⟨3, 0, 0, 0, 3, 0⟩ = if countZ f dd ≤ 3 then (0, 11) else (v.ps.getD 3 0, 0) := rfl
    rw [e] at r0
    split at r0
    · cases (congrArg Prod.snd r0)
    · exact congrArg Prod.fst r0
  have q1 : d = V.getD 1 0 := congrArg Prod.fst r1
  rw [vlI_op (by decide), av2 (by decide)] at r2 r3 r4 r5 r6
  have q2 : (if gv V 1 = 0 then ((0 : Int), (12 : Int)) else ((gv V 0).tdiv (gv V 1), 0)) = (V.getD 2 0, 0) := (two_ex r2).2.2
  change (if V.getD 1 0 = 0 then ((0 : Int), (12 : Int)) else ((V.getD 0 0).tdiv (V.getD 1 0), 0)) = _ at q2
  have q3 : bits .and .i64 (V.getD 1 0) (V.getD 0 0) = V.getD 3 0 := congrArg Prod.fst (two_ex r3).2.2
  have q4 : V.getD 1 0 * V.getD 2 0 = V.getD 4 0 := congrArg Prod.fst (two_ex r4).2.2
  have q5 : V.getD 0 0 - V.getD 4 0 = V.getD 5 0 := congrArg Prod.fst (two_ex r5).2.2
  have q6 : max (V.getD 5 0) (V.getD 3 0) = V.getD 6 0 := congrArg Prod.fst (two_ex r6).2.2
  rw [← q1, ← q0, hp] at q2 q3
  rw [if_neg h0] at q2
  have q2' : x.tdiv d = V.getD 2 0 := congrArg Prod.fst q2
  rw [← q1, ← q2'] at q4
  rw [← q0, hp, ← q4] at q5
  have hmd := Int.tmod_add_mul_tdiv x d
  have hc : bits .and .i64 d x = bits .and .i64 x d := by
    have h1 := Ytlpebmngjagbaaa.Spn.bw_eq .and d x
    have h2 := Ytlpebmngjagbaaa.Spn.bw_eq .and x d
    simp only [Ytlpebmngjagbaaa.Spn.Bop.bv] at h1 h2
    refine h1.trans (Eq.trans ?_ h2.symm)
    rw [BitVec.and_comm]
  rw [← q6, ← q3, hc, ← q5]
  congr 1
  omega

end Go.Proofs.Rdc

/-
  Windows of the laws, and what the reduced code answers on them.
-/
namespace Go.Proofs.Rdc
open Go.RowKit Go.IntWalk Ytlpebmngjagbaaa.Knd
open Cde (In i0 okI okT mcB coL coZ csB vlI vaZ)
open Vfy (Sps ahI vfE vfS vf_parts w32 sgF sgS sgI asS myE)
open Ytlpebmngjagbaaa (Wd wdA Fits inpV)
open Fld (Rv gv rg)
set_option linter.unusedVariables false

theorem wds_fits {f d : Int} (hm : May f d) {ps : List Int} (hl : (ps.length : Int) = countZ f d) (hb : ∀ z ∈ ps, lowZ f d ≤ z ∧ z ≤ highZ f d) : Fits f d ⟨0, 0, 0, ps⟩ := by
  have e0 : inZ f d 0 = some (0, colZ f - 1) := by unfold inZ; rw [if_neg (by simpa using hm)]; rfl
  have e1 : inZ f d 1 = some (0, rowZ f - 1) := by unfold inZ; rw [if_neg (by simpa using hm)]; rfl
  have e2 : inZ f d 2 = some (0, 3) := by unfold inZ; rw [if_neg (by simpa using hm)]; rfl
  have hc : 1 ≤ colZ f ∧ 1 ≤ rowZ f := by unfold colZ rowZ; constructor <;> split <;> omega
  exact ⟨⟨⟨⟨0, colZ f - 1, e0, Int.le_refl _, by show (0 : Int) ≤ _; omega⟩, ⟨0, rowZ f - 1, e1, Int.le_refl _, by show (0 : Int) ≤ _; omega⟩⟩, ⟨0, 3, e2, Int.le_refl _, by show (0 : Int) ≤ _; omega⟩⟩, hl, hb⟩
/-- What the reduced code answers: what the code's own values are. -/
theorem rx_val {f d : Int} {L : List In} {out : Int} {v : Wd} (h : vfE f d L out = 0) (hF : Fits f d v) : ∃ V U, Rv f d v L V ∧ vaZ f d v (rxL f d L out) (rxO f d L out) = (0, U) ∧ U.length = (rxL f d L out).length ∧ 0 ≤ rxO f d L out ∧ (rxO f d L out).toNat < (rxL f d L out).length ∧ U.getD (rxO f d L out).toNat 0 = V.getD out.toNat 0 := by
  obtain ⟨-, -, -, hv⟩ := rx_means h
  obtain ⟨V, U, h1, h2, -, h4, h5, h6, h7⟩ := hv v hF
  obtain ⟨V', h8, -, h9⟩ := od_of h hF
  rw [h1] at h8
  cases h8
  exact ⟨V, U, h9.rv, h2, h4, h5, h6, h7⟩
/-- A number's lower 16 bits. -/
theorem low_16 (x : Int) : bits .and .i64 x 65535 = x % 65536 := by
  have hb := Ytlpebmngjagbaaa.Spn.bw_eq .and x 65535
  simp only [Ytlpebmngjagbaaa.Spn.Bop.bv] at hb
  refine Eq.trans hb ?_
  have e1 : (BitVec.ofInt 64 x &&& BitVec.ofInt 64 65535).toNat = ((x % 65536).toNat) := by
    rw [BitVec.toNat_and]
    have e2 : (BitVec.ofInt 64 65535).toNat = 2 ^ 16 - 1 := by decide
    rw [e2, Nat.and_two_pow_sub_one_eq_mod, BitVec.toNat_ofInt]
    omega
  have h1 := Int.emod_nonneg x (show (65536 : Int) ≠ 0 by decide)
  have h2 := Int.emod_lt_of_pos x (show (0 : Int) < 65536 by decide)
  rw [BitVec.toInt_eq_toNat_cond, e1, if_pos (by omega)]
  omega
def dvPs (a b : Int) : List Int := List.replicate 14 0 ++ [b, a] ++ List.replicate 15 0
theorem dvPs_set (a b : Int) : ((Cde.zA (List.replicate 31 0)).setIfInBounds 15 (.int .i64 a)).setIfInBounds 14 (.int .i64 b) = Cde.zA (dvPs a b) := rfl
/-- ReduceDivides' code on its window. -/
theorem dv_all {op d x : Int} (hop : op = 11 ∨ op = 12) (hd : w32 d) (hx : w32 x) (h0 : d ≠ 0) (h1 : d ≠ -1) : ∃ U, vaZ 1 16 ⟨0, 0, 0, dvPs (x / 65536) (x % 65536 - 32768)⟩ (rxL 1 16 (dvC op d) 7) (rxO 1 16 (dvC op d) 7) = (0, U) ∧ U.length = (rxL 1 16 (dvC op d) 7).length ∧ 0 ≤ rxO 1 16 (dvC op d) 7 ∧ (rxO 1 16 (dvC op d) 7).toNat < (rxL 1 16 (dvC op d) 7).length ∧ U.getD (rxO 1 16 (dvC op d) 7).toNat 0 = if op = 11 then x.tdiv d else x.tmod d := by
  have hm : May 1 16 := by unfold May; omega
  obtain ⟨x1, x2⟩ := hx
  have hF : Fits 1 16 ⟨0, 0, 0, dvPs (x / 65536) (x % 65536 - 32768)⟩ := by
    refine wds_fits hm (by rw [show (dvPs (x / 65536) (x % 65536 - 32768)).length = 31 from rfl]; decide) ?_
    intro z hz
    have el : lowZ 1 16 = -32768 := by decide
    have eh : highZ 1 16 = 32767 := by decide
    rw [el, eh]
    simp only [dvPs, List.mem_append, List.mem_cons, List.not_mem_nil, or_false, List.mem_replicate] at hz
    rcases hz with (⟨-, rfl⟩ | rfl | rfl) | ⟨-, rfl⟩ <;> omega
  obtain ⟨V, U, r1, r2, r3, r4, r5, r6⟩ := rx_val (dvc_taken hop hd h0 h1) hF
  exact ⟨U, r2, r3, r4, r5, r6.trans (dvc_val hop r1 h0 rfl rfl)⟩
/-- ReduceSamples' code on its window. -/
theorem sm_all {f dd d x : Int} {n : Nat} (hn : (n : Int) = countZ f dd) (hd : 2 ≤ d) (hd2 : d ≤ 65535) (h : vfE f dd (smC d) 6 = 0) (hx1 : lowZ f dd ≤ x) (hx2 : x ≤ highZ f dd) : ∃ U, vaZ f dd ⟨0, 0, 0, List.replicate n x⟩ (rxL f dd (smC d) 6) (rxO f dd (smC d) 6) = (0, U) ∧ U.length = (rxL f dd (smC d) 6).length ∧ 0 ≤ rxO f dd (smC d) 6 ∧ (rxO f dd (smC d) 6).toNat < (rxL f dd (smC d) 6).length ∧ U.getD (rxO f dd (smC d) 6).toNat 0 = max (x.tmod d) (bits .and .i64 x d) := by
  obtain ⟨m, -⟩ := vf_parts h
  obtain ⟨hm, -, -, -, -, -⟩ := Cde.mc_parts m
  have hc : 3 < countZ f dd := by
    unfold countZ
    rw [if_pos hm]
    split <;> omega
  have hF : Fits f dd ⟨0, 0, 0, List.replicate n x⟩ := by
    refine wds_fits hm (by rw [List.length_replicate]; exact hn) ?_
    intro z hz
    rw [List.eq_of_mem_replicate hz]
    exact ⟨hx1, hx2⟩
  obtain ⟨V, U, r1, r2, r3, r4, r5, r6⟩ := rx_val h hF
  refine ⟨U, r2, r3, r4, r5, r6.trans (sm_val r1 (by omega) ?_)⟩
  show (List.replicate n x).getD 3 0 = x
  rw [List.getD_eq_getElem?_getD, List.getElem?_replicate, if_pos (by omega)]
  rfl
/-- .. it has no operator of those. -/
theorem sm_ops {f dd d : Int} (hd : 2 ≤ d) (hd2 : d ≤ 65535) (h : vfE f dd (smC d) 6 = 0) : ∀ n ∈ rxL f dd (smC d) 6, n.op ≠ 10 ∧ n.op ≠ 11 ∧ n.op ≠ 15 := by
  obtain ⟨h1, h2⟩ := sm_new hd hd2 h
  rw [rxL, if_pos h1]
  exact h2

end Go.Proofs.Rdc

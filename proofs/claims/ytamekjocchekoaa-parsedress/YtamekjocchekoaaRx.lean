/-
  The reader of package parse: number and offset.
-/
import Derived.Test.YtamekjocchekoaaLk
import Derived.Test.YtamekjocchekoaaRnode
namespace Go.Proofs.Ytamekjocchekoaa
open Go.RowKit Go.IntWalk Lx Pz
set_option linter.unusedVariables false

theorem foldl_pow : ∀ (r : List UInt8) (n : Int), r.all D = true → 1 ≤ n → 10 ^ r.length * n ≤ r.foldl (fun n c => 10 * n + ((c.toNat : Int) - 48)) n
  | [], n, _, _ => by simp
  | c :: r, n, h, hn => by
    simp only [List.all_cons, Bool.and_eq_true] at h
    have hc := D_iff.1 h.1
    have := foldl_pow r (10 * n + ((c.toNat : Int) - 48)) h.2 (by omega)
    simp only [List.foldl_cons, List.length_cons]
    have h2 : (10 : Int) ^ r.length * (10 * n) ≤ 10 ^ r.length * (10 * n + ((c.toNat : Int) - 48)) := Int.mul_le_mul_of_nonneg_left (by omega) (Int.pow_nonneg (by decide))
    rw [Int.pow_succ, Int.mul_assoc]
    omega
theorem num_len {s : Txt} (h : num s = true) : s.length ≤ 10 := by
  cases s with
  | nil => simp
  | cons c r =>
    have hd : (c :: r).all D = true := by simp only [num, Bool.and_eq_true] at h; exact h.1.1.2
    have hv : vl (c :: r) ≤ 2147483647 := by simp only [num, Bool.and_eq_true, decide_eq_true_eq] at h; exact h.2
    have hz : ((c :: r).headD 0 == 48 && decide (1 < (c :: r).length)) = false := by simp only [num, Bool.and_eq_true, Bool.not_eq_true'] at h; exact h.1.2
    cases r with
    | nil => simp
    | cons d r =>
      have h1 : c ≠ 48 := by
        intro e; subst e; simp at hz
      have hc := D_iff.1 (by simp at hd; exact hd.1 : D c = true)
      have h48 : (c.toNat : Int) ≠ 48 := fun e => h1 (UInt8.toNat_inj.1 (by simpa using (by omega : c.toNat = 48)))
      have h2 : 10 ^ (d :: r).length * ((c.toNat : Int) - 48) ≤ vl (c :: d :: r) := by
        have := foldl_pow (d :: r) ((c.toNat : Int) - 48) (by simp at hd ⊢; exact hd.2) (by omega)
        have e : vl (c :: d :: r) = (d :: r).foldl (fun n c => 10 * n + ((c.toNat : Int) - 48)) ((c.toNat : Int) - 48) := by simp [vl]
        rw [e]; exact this
      rcases Nat.lt_or_ge (d :: r).length 10 with hl | hl
      · simp at hl ⊢; omega
      · exfalso
        have h3 : (10 : Int) ^ 10 ≤ 10 ^ (d :: r).length := by
          have := Nat.pow_le_pow_right (n := 10) (by decide) hl
          exact_mod_cast this
        have h4 : (10 : Int) ^ (d :: r).length * 1 ≤ 10 ^ (d :: r).length * ((c.toNat : Int) - 48) := Int.mul_le_mul_of_nonneg_left (by omega) (Int.pow_nonneg (by decide))
        have : (10 : Int) ^ 10 = 10000000000 := by decide
        omega
theorem wf_len {t : Tok} (h : Wf t) : t.text.length ≤ 16 := by
  rcases h with ⟨hk, hn⟩ | ⟨hk, hn⟩ | ⟨hk, hn⟩
  · have := num_len hn; omega
  · simp only [wrd, Bool.and_eq_true, decide_eq_true_eq] at hn; exact hn.1.1.2
  · have key : ∀ a ∈ marks.map (·.1), a.length ≤ 16 := by decide
    exact key _ hn
theorem sB_size (l : List UInt8) : (sB l).size = l.length := by simp [ByteArray.size]

def NumP (w W : World) (b : Nat) (T : List Tok) (NM : List Txt) (BS : List Int) (NS : List Nd) (e : Ending) (W' : World) : Prop :=
  ((∀ v r, T.map ab ≠ .num v :: r) ∧ e = pan ∧ Below w.heap.size w W') ∨ (∃ v t T', T = t :: T' ∧ ab t = .num v ∧ e = .returned (.int .i64 v) ∧ (∃ m', Rd w W' b m' T' NM BS NS) ∧ Kp SX W W')

theorem nv_of {s : Txt} (h : num s = true) : nv s = vl s := by unfold nv; rw [if_pos h]

set_option maxRecDepth 100000 in
set_option maxHeartbeats 1000000 in
theorem number_rd {w W : World} {b : Nat} {m : Mm} {T : List Tok} {NM : List Txt} {BS : List Int} {NS : List Nd} (h : Rd w W b m T NM BS NS) :
    Calls Try.prog 88 #[ptr b] W fun e W' => NumP w W b T NM BS NS e W' := by
  have HW := hide h
  have F1 := fldT1
  clear h
  go_enter Try.func88, Try.ntmps88
  go_wp2_with fail
  refine (next_any HW.out).mono ?_
  rintro e W1 (⟨rfl, rfl, hb⟩ | ⟨t, T', rfl, hwf, rfl, hR, hk⟩)
  · have HB := hide hb
    clear hb
    go_wp2_with fail
    exact ⟨rfl, .inl ⟨fun v r e => by simp at e, rfl, HB.out⟩⟩
  · have HR := hide hR
    have HK := hide hk
    have HWf := hide hwf
    have hn := fun w => number_any (sB t.text) w (by rw [sB_size]; have := wf_len hwf; unfold maxLen; omega)
    rw [bs_sB] at hn
    have HN := hide hn
    clear hR hk hwf hn
    by_cases hv : ∃ v, ab t = .num v
    · obtain ⟨v, hv⟩ := hv
      obtain ⟨h1, h2, h3⟩ := kind1 HWf.out hv
      rw [nv_of h2, h2, h3] at HN
      have HV := hide hv
      clear h1 h2 h3 hv
      go_wp2_with fail
      refine (HN.out _).mono ?_
      rintro e W2 ⟨rfl, rfl⟩
      go_wp2_with fail
      go_ret
      exact .inr ⟨v, t, T', rfl, HV.out, rfl, HR.out, HK.out⟩
    · have hv' : ∀ v, ab t ≠ .num v := fun v e => hv ⟨v, e⟩
      rw [num_no_mark HWf.out hv'] at HN
      have HV := hide hv'
      clear hv hv'
      go_wp2_with fail
      refine (HN.out _).mono ?_
      rintro e W2 ⟨rfl, rfl⟩
      go_wp2_with fail
      obtain ⟨m', hm'⟩ := HR.out
      exact ⟨rfl, .inl ⟨fun v r e => by simp at e; exact HV.out v e.1, rfl, hm'.old⟩⟩

def OffP (w W : World) (b : Nat) (T : List Tok) (NM : List Txt) (BS : List Int) (NS : List Nd) (e : Ending) (W' : World) : Prop :=
  (off (T.map ab) = none ∧ e = pan ∧ Below w.heap.size w W') ∨ (∃ x P T', off (T.map ab) = some (x, T'.map ab) ∧ T = P ++ T' ∧ e = .returned (.int .i64 x) ∧ (∃ m', Rd w W' b m' T' NM BS NS) ∧ Kp SX W W')

theorem off_none {l : List Tk} (h1 : ∀ v r, l ≠ .num v :: r) (h2 : l.head? ≠ some (.op 5 9)) : off l = none := by
  unfold off
  split
  · exact absurd rfl (h1 _ _)
  · rename_i k o v r
    split
    · rename_i hk
      obtain ⟨rfl, rfl⟩ := hk
      exact absurd rfl h2
    · rfl
  · rfl
theorem off_minus {l : List Tk} (h : ∀ v r, l ≠ .num v :: r) : off (.op 5 9 :: l) = none := by
  unfold off
  split
  · rename_i heq; cases heq
  · rename_i heq; cases heq; exact absurd rfl (h _ _)
  · rfl

set_option maxRecDepth 100000 in
set_option maxHeartbeats 1000000 in
theorem offset_rd {w W : World} {b : Nat} {m : Mm} {T : List Tok} {NM : List Txt} {BS : List Int} {NS : List Nd} (h : Rd w W b m T NM BS NS) :
    Calls Try.prog 93 #[ptr b] W fun e W' => OffP w W b T NM BS NS e W' := by
  have HW := hide h
  have hw := h.wf
  clear h
  by_cases hm : (T.map ab).head? = some (.op 5 9)
  · obtain ⟨r, hr⟩ : ∃ r, T.map ab = .op 5 9 :: r := by
      cases hT : T.map ab with
      | nil => rw [hT] at hm; cases hm
      | cons a r => rw [hT] at hm; simp at hm; exact ⟨r, by rw [hm]⟩
    obtain ⟨t, T1, rfl, ht, hr1⟩ := hd_eq (s := [45]) hw (by decide) (r := r) hr
    have HH := hide (show ab t = .op 5 9 from (text_iff (hw t (by simp)) (s := [45]) (by decide)).1 ht)
    have ht := hide ht
    clear hm hr hr1 hw
    go_enter Try.func93, Try.ntmps93
    go_wp2_with fail
    refine (pass_yes HW.out _ ht.out).mono ?_
    rintro e W1 ⟨rfl, ⟨m1, hR⟩, hk⟩
    have HR := hide hR
    have HK := hide hk
    clear hR hk
    go_wp2_with fail
    refine (number_rd HR.out).mono ?_
    rintro e W2 (⟨hn, rfl, hb⟩ | ⟨v, t2, T2, rfl, hv, rfl, hR, hk⟩)
    · have HB := hide hb
      have hn := hide hn
      clear hb
      go_wp2_with fail
      exact ⟨rfl, .inl ⟨by rw [List.map_cons, HH.out]; exact off_minus hn.out, rfl, HB.out⟩⟩
    · have HR2 := hide hR
      have HK2 := hide (HK.out.trans hk)
      have hv := hide hv
      have hb := hide (show 0 ≤ v ∧ v ≤ 2147483647 by
        obtain ⟨-, h2, h3⟩ := kind1 (HR.out.wf t2 (by simp)) hv.out
        simp only [num, Bool.and_eq_true, decide_eq_true_eq] at h2
        rw [← h3]
        exact ⟨vl_nonneg h2.1.1.2, h2.2⟩)
      obtain ⟨v0, v1⟩ := hb.out
      clear hR hk
      go_wp2_with fail
      go_ret
      exact .inr ⟨-v, [t, t2], T2, by simp [HH.out, hv.out, off], rfl, rfl, HR2.out, HK2.out⟩
  · have hs := hide (hd_ne (s := [45]) hw (by decide) hm)
    have hm := hide hm
    clear hw
    go_enter Try.func93, Try.ntmps93
    go_wp2_with fail
    refine (pass_no HW.out _ hs.out).mono ?_
    rintro e W1 ⟨rfl, hb⟩
    have HR := hide (HW.out.later hb)
    have HK := hide (Kp.of_below SX hb)
    clear hb
    go_wp2_with fail
    refine (number_rd HR.out).mono ?_
    rintro e W2 (⟨hn, rfl, hb⟩ | ⟨v, t2, T2, rfl, hv, rfl, hR, hk⟩)
    · have HB := hide hb
      have hn := hide hn
      clear hb
      go_wp2_with fail
      exact ⟨rfl, .inl ⟨off_none hn.out hm.out, rfl, HB.out⟩⟩
    · have HR2 := hide hR
      have HK2 := hide (HK.out.trans hk)
      have hv := hide hv
      clear hR hk
      go_wp2_with fail
      go_ret
      exact .inr ⟨v, [t2], T2, by simp [hv.out, off], rfl, rfl, HR2.out, HK2.out⟩

end Go.Proofs.Ytamekjocchekoaa

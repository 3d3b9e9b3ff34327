/-
  The reader of package parse: number and offset.
-/
import Derived.Test.YtodgjjkpbcadoaaGreatDoorOprLk
import Derived.Test.YtodgjjkpbcadoaaGreatDoorRnode
namespace Go.Proofs.YtodgjjkpbcadoaaGreatDoor
open Go.RowKit Go.IntWalk Lx Pz
set_option linter.unusedVariables false

theorem foldl_pow : ∀ (r : List UInt8) (n : Int), r.all D = true → 1 ≤ n → 10 ^ r.length * n ≤ r.foldl (fun n c => 10 * n + ((c.toNat : Int) - 48)) n
  | [], n, _, _ => by simp
  | c :: r, n, h, hn => by
    simp only [List.all_cons, Bool.and_eq_true] at h
    have hc := D_iff.1 h.1
    have := foldl_pow r (10 * n + ((c.toNat : Int) - 48)) h.2 (by omega)
    simp only [List.foldl_cons, List.length_cons]
    have h2 : (10 : Int) ^ r.length * (10 * n) ≤ 10 ^ r.length * (10 * n + ((c.toNat : Int) - 48)) := Int.mul_le_mul_of_nonneg_left (by omega) (Int.pow_nonneg (by decide))
    rw [Int.pow_succ, Int.mul_assoc]
    omega
theorem num_len {s : Txt} (h : num s = true) : s.length ≤ 10 := by
  cases s with
  | nil => simp
  | cons c r =>
    have hd : (c :: r).all D = true := by simp only [num, Bool.and_eq_true] at h; exact h.1.1.2
    have hv : vl (c :: r) ≤ 2147483647 := by simp only [num, Bool.and_eq_true, decide_eq_true_eq] at h; exact h.2
    have hz : ((c :: r).headD 0 == 48 && decide (1 < (c :: r).length)) = false := by simp only [num, Bool.and_eq_true, Bool.not_eq_true'] at h; exact h.1.2
    cases r with
    | nil => simp
    | cons d r =>
      have h1 : c ≠ 48 := by
        intro e; subst e; simp at hz
      have hc := D_iff.1 (by simp at hd; exact hd.1 : D c = true)
      have h48 : (c.toNat : Int) ≠ 48 := fun e => h1 (UInt8.toNat_inj.1 (by simpa using (by omega : c.toNat = 48)))
      have h2 : 10 ^ (d :: r).length * ((c.toNat : Int) - 48) ≤ vl (c :: d :: r) := by
        have := foldl_pow (d :: r) ((c.toNat : Int) - 48) (by simp at hd ⊢; exact hd.2) (by omega)
        have e : vl (c :: d :: r) = (d :: r).foldl (fun n c => 10 * n + ((c.toNat : Int) - 48)) ((c.toNat : Int) - 48) := by simp [vl]
        rw [e]; exact this
      rcases Nat.lt_or_ge (d :: r).length 10 with hl | hl
      · simp at hl ⊢; omega
      · exfalso
        have h3 : (10 : Int) ^ 10 ≤ 10 ^ (d :: r).length := by
          have := Nat.pow_le_pow_right (n := 10) (by decide) hl
          exact_mod_cast this
        have h4 : (10 : Int) ^ (d :: r).length * 1 ≤ 10 ^ (d :: r).length * ((c.toNat : Int) - 48) := Int.mul_le_mul_of_nonneg_left (by omega) (Int.pow_nonneg (by decide))
        have : (10 : Int) ^ 10 = 10000000000 := by decide
        omega
theorem wf_len {t : Tok} (h : Wf t) : t.text.length ≤ 16 := by
  rcases h with ⟨hk, hn⟩ | ⟨hk, hn⟩ | ⟨hk, hn⟩
  · have := num_len hn; omega
  · simp only [wrd, Bool.and_eq_true, decide_eq_true_eq] at hn; exact hn.1.1.2
  · have key : ∀ a ∈ marks.map (·.1), a.length ≤ 16 := by decide
    exact key _ hn
theorem sB_size (l : List UInt8) : (sB l).size = l.length := by simp [ByteArray.size]

def NumP (w W : World) (b : Nat) (T : List Tok) (NM : List Txt) (BS : List Int) (NS : List Nd) (e : Ending) (W' : World) : Prop :=
  ((∀ v r, T.map ab ≠ .num v :: r) ∧ e = pan ∧ Below w.heap.size w W') ∨ (∃ v t T', T = t :: T' ∧ ab t = .num v ∧ e = .returned (.int .i64 v) ∧ (∃ m', Rd w W' b m' T' NM BS NS) ∧ Kp SX W W')

theorem nv_of {s : Txt} (h : num s = true) : nv s = vl s := by unfold nv; rw [if_pos h]

set_option maxRecDepth 100000 in
set_option maxHeartbeats 1000000 in
theorem number_rd {w W : World} {b : Nat} {m : Mm} {T : List Tok} {NM : List Txt} {BS : List Int} {NS : List Nd} (h : Rd w W b m T NM BS NS) :
    Calls Tryz.prog 95 #[ptr b] W fun e W' => NumP w W b T NM BS NS e W' := by
  have HW := hide h
  have F1 := fldT1
  clear h
  go_enter Tryz.func95, Tryz.ntmps95
  go_wp2_with fail
  refine (next_any HW.out).mono ?_
  rintro e W1 (⟨rfl, rfl, hb⟩ | ⟨t, T', rfl, hwf, rfl, hR, hk⟩)
  · have HB := hide hb
    clear hb
    go_wp2_with fail
    exact ⟨rfl, .inl ⟨fun v r e => by simp at e, rfl, HB.out⟩⟩
  · have HR := hide hR
    have HK := hide hk
    have HWf := hide hwf
    have hn := fun w => number_any (sB t.text) w (by rw [sB_size]; have := wf_len hwf; unfold maxLen; omega)
    rw [bs_sB] at hn
    have HN := hide hn
    clear hR hk hwf hn
    by_cases hv : ∃ v, ab t = .num v
    · obtain ⟨v, hv⟩ := hv
      obtain ⟨h1, h2, h3⟩ := kind1 HWf.out hv
      rw [nv_of h2, h2, h3] at HN
      have HV := hide hv
      clear h1 h2 h3 hv
      go_wp2_with fail
      refine (HN.out _).mono ?_
      rintro e W2 ⟨rfl, rfl⟩
      go_wp2_with fail
      go_ret
      exact .inr ⟨v, t, T', rfl, HV.out, rfl, HR.out, HK.out⟩
    · have hv' : ∀ v, ab t ≠ .num v := fun v e => hv ⟨v, e⟩
      rw [num_no_mark HWf.out hv'] at HN
      have HV := hide hv'
      clear hv hv'
      go_wp2_with fail
      refine (HN.out _).mono ?_
      rintro e W2 ⟨rfl, rfl⟩
      go_wp2_with fail
      obtain ⟨m', hm'⟩ := HR.out
      exact ⟨rfl, .inl ⟨fun v r e => by simp at e; exact HV.out v e.1, rfl, hm'.old⟩⟩

def OffP (w W : World) (b : Nat) (T : List Tok) (NM : List Txt) (BS : List Int) (NS : List Nd) (e : Ending) (W' : World) : Prop :=
  (off (T.map ab) = none ∧ e = pan ∧ Below w.heap.size w W') ∨ (∃ x P T', off (T.map ab) = some (x, T'.map ab) ∧ T = P ++ T' ∧ e = .returned (.int .i64 x) ∧ (∃ m', Rd w W' b m' T' NM BS NS) ∧ Kp SX W W')

theorem off_none {l : List Tk} (h1 : ∀ v r, l ≠ .num v :: r) (h2 : l.head? ≠ some (.op 5 9)) : off l = none := by
  unfold off
  split
  · exact absurd rfl (h1 _ _)
  · rename_i k o v r
    split
    · rename_i hk
      obtain ⟨rfl, rfl⟩ := hk
      exact absurd rfl h2
    · rfl
  · rfl
theorem off_minus {l : List Tk} (h : ∀ v r, l ≠ .num v :: r) : off (.op 5 9 :: l) = none := by
  unfold off
  split
  · rename_i heq; cases heq
  · rename_i heq; cases heq; exact absurd rfl (h _ _)
  · rfl

set_option maxRecDepth 100000 in
set_option maxHeartbeats 1000000 in
theorem offset_rd {w W : World} {b : Nat} {m : Mm} {T : List Tok} {NM : List Txt} {BS : List Int} {NS : List Nd} (h : Rd w W b m T NM BS NS) :
    Calls Tryz.prog 107 #[ptr b] W fun e W' => OffP w W b T NM BS NS e W' := by
  have HW := hide h
  have hw := h.wf
  clear h
  by_cases hm : (T.map ab).head? = some (.op 5 9)
  · obtain ⟨r, hr⟩ : ∃ r, T.map ab = .op 5 9 :: r := by
      cases hT : T.map ab with
      | nil => rw [hT] at hm; cases hm
      | cons a r => rw [hT] at hm; simp at hm; exact ⟨r, by rw [hm]⟩
    obtain ⟨t, T1, rfl, ht, hr1⟩ := hd_eq (s := [45]) hw (by decide) (r := r) hr
    have HH := hide (show ab t = .op 5 9 from (text_iff (hw t (by simp)) (s := [45]) (by decide)).1 ht)
    have ht := hide ht
    clear hm hr hr1 hw
    go_enter Tryz.func107, Tryz.ntmps107
    go_wp2_with fail
    refine (pass_yes HW.out _ ht.out).mono ?_
    rintro e W1 ⟨rfl, ⟨m1, hR⟩, hk⟩
    have HR := hide hR
    have HK := hide hk
    clear hR hk
    go_wp2_with fail
    refine (number_rd HR.out).mono ?_
    rintro e W2 (⟨hn, rfl, hb⟩ | ⟨v, t2, T2, rfl, hv, rfl, hR, hk⟩)
    · have HB := hide hb
      have hn := hide hn
      clear hb
      go_wp2_with fail
      exact ⟨rfl, .inl ⟨by rw [List.map_cons, HH.out]; exact off_minus hn.out, rfl, HB.out⟩⟩
    · have HR2 := hide hR
      have HK2 := hide (HK.out.trans hk)
      have hv := hide hv
      have hb := hide (show 0 ≤ v ∧ v ≤ 2147483647 by
        obtain ⟨-, h2, h3⟩ := kind1 (HR.out.wf t2 (by simp)) hv.out
        simp only [num, Bool.and_eq_true, decide_eq_true_eq] at h2
        rw [← h3]
        exact ⟨vl_nonneg h2.1.1.2, h2.2⟩)
      obtain ⟨v0, v1⟩ := hb.out
      clear hR hk
      go_wp2_with fail
      go_ret
      exact .inr ⟨-v, [t, t2], T2, by simp [HH.out, hv.out, off], rfl, rfl, HR2.out, HK2.out⟩
  · have hs := hide (hd_ne (s := [45]) hw (by decide) hm)
    have hm := hide hm
    clear hw
    go_enter Tryz.func107, Tryz.ntmps107
    go_wp2_with fail
    refine (pass_no HW.out _ hs.out).mono ?_
    rintro e W1 ⟨rfl, hb⟩
    have HR := hide (HW.out.later hb)
    have HK := hide (Kp.of_below SX hb)
    clear hb
    go_wp2_with fail
    refine (number_rd HR.out).mono ?_
    rintro e W2 (⟨hn, rfl, hb⟩ | ⟨v, t2, T2, rfl, hv, rfl, hR, hk⟩)
    · have HB := hide hb
      have hn := hide hn
      clear hb
      go_wp2_with fail
      exact ⟨rfl, .inl ⟨off_none hn.out hm.out, rfl, HB.out⟩⟩
    · have HR2 := hide hR
      have HK2 := hide (HK.out.trans hk)
      have hv := hide hv
      clear hR hk
      go_wp2_with fail
      go_ret
      exact .inr ⟨v, [t2], T2, by simp [hv.out, off], rfl, rfl, HR2.out, HK2.out⟩

end Go.Proofs.YtodgjjkpbcadoaaGreatDoor

/-
  The reader of package parse: what an expression's function comes to; a variable beside the reader.
-/
namespace Go.Proofs.YtodgjjkpbcadoaaGreatDoor
open Go.RowKit Go.IntWalk Lx Pz
set_option linter.unusedVariables false

theorem Kp.store_new {S : List TypeId} {W V : World} (h : Kp S W V) {p : Addr} (hp : W.heap.size ≤ p.block) (u : Value) : Kp S W (V.setCell p u) :=
  ⟨by have := h.size; simp [World.setCell]; omega, fun k cs t fr hk ht => (Below.heap_setCell V p u k (by have := (Array.getElem?_eq_some_iff.1 hk).1; omega)).trans (h.block k cs t fr hk ht)⟩
theorem Rd.kp {w W W' : World} {b : Nat} {m : Mm} {T : List Tok} {NM : List Txt} {BS : List Int} {NS : List Nd} (h : Rd w W b m T NM BS NS) {t : TypeId} (hk : Kp [t] W W') (ht : t ≠ 73 ∧ t ≠ 89 ∧ t ≠ 9 ∧ t ≠ 3 ∧ t ≠ 39) (hb : Below w.heap.size w W') : Rd w W' b m T NM BS NS := by
  obtain ⟨h1, h2, h3, h4, h5⟩ := ht
  exact ⟨h.blk.kp hk (by simpa using Ne.symm h1), h.base, h.toks.kp hk (by simpa using Ne.symm h2), owns_kp h.names hk (by simpa using Ne.symm h3), owns_kp h.binds hk (by simpa using Ne.symm h4), owns_kp h.nodes hk (by simpa using Ne.symm h5), h.wf, hb⟩

/-- A variable of the call's own beside the reader. -/
structure Pl (w W V : World) (b : Nat) (T : List Tok) (NM : List Txt) (BS : List Int) (NS : List Nd) (q : Nat) (ty : TypeId) (cs : Array Value) : Prop where
  rd : ∃ m, Rd w V b m T NM BS NS
  kp : Kp SX W V
  va : HasC V q ty cs
  q0 : W.heap.size ≤ q
  w0 : w.heap.size ≤ W.heap.size
theorem Pl.store {w W V : World} {b : Nat} {T : List Tok} {NM : List Txt} {BS : List Int} {NS : List Nd} {q : Nat} {ty : TypeId} {cs : Array Value} (h : Pl w W V b T NM BS NS q ty cs) (ht : ty ≠ 73 ∧ ty ≠ 89 ∧ ty ≠ 9 ∧ ty ≠ 3 ∧ ty ≠ 39) (i : Nat) (u : Value) :
    Pl w W (V.setCell ⟨q, i, none⟩ u) b T NM BS NS q ty (cs.setIfInBounds i u) := by
  obtain ⟨m, hm⟩ := h.rd
  exact ⟨⟨m, hm.kp (Kp.set h.va (by simp) i u) ht (hm.old.setCell (by have := h.q0; have := h.w0; show w.heap.size ≤ q; omega) u)⟩, h.kp.store_new h.q0 u, h.va.set i u, h.q0, h.w0⟩
theorem Pl.step {w W V V' : World} {b : Nat} {T T' : List Tok} {NM : List Txt} {BS : List Int} {NS NS' : List Nd} {q : Nat} {ty : TypeId} {cs : Array Value} (h : Pl w W V b T NM BS NS q ty cs) (ht : ty ≠ 73 ∧ ty ≠ 89 ∧ ty ≠ 9 ∧ ty ≠ 3 ∧ ty ≠ 39)
    (hr : ∃ m, Rd w V' b m T' NM BS NS') (hk : Kp SX V V') : Pl w W V' b T' NM BS NS' q ty cs :=
  ⟨hr, h.kp.trans hk, h.va.kp hk (by obtain ⟨h1, h2, h3, h4, h5⟩ := ht; simp [h1, h5]), h.q0, h.w0⟩
theorem Pl.later {w W V V' : World} {b : Nat} {T : List Tok} {NM : List Txt} {BS : List Int} {NS : List Nd} {q : Nat} {ty : TypeId} {cs : Array Value} (h : Pl w W V b T NM BS NS q ty cs) (hb : Below V.heap.size V V') : Pl w W V' b T NM BS NS q ty cs := by
  obtain ⟨m, hm⟩ := h.rd
  exact ⟨⟨m, hm.later hb⟩, h.kp.trans (Kp.of_below SX hb), h.va.below hb, h.q0, h.w0⟩
theorem Pl.begin {w W : World} {b : Nat} {m : Mm} {T : List Tok} {NM : List Txt} {BS : List Int} {NS : List Nd} (h : Rd w W b m T NM BS NS) (ty : TypeId) (cs : Array Value) : Pl w W (W.alloc (.cells cs ty)) b T NM BS NS W.heap.size ty cs :=
  ⟨⟨m, h.later (bel1 _ _)⟩, Kp.of_below SX (bel1 _ _), HasC.new _ _ _, Nat.le_refl _, h.old.size⟩

/-- What an expression's function comes to. -/
def Ok (w W : World) (b : Nat) (T : List Tok) (NM : List Txt) (BS : List Int) (NS : List Nd) (res : Option (E × List Tk)) (e : Ending) (W' : World) : Prop :=
  (res = none ∧ e = pan ∧ Below w.heap.size w W') ∨
  (∃ ex P T', res = some (ex, T'.map ab) ∧ T = P ++ T' ∧ e = .returned (.int .i64 ((NS.length + ex.size : Nat) - 1 : Int)) ∧ (∃ m', Rd w W' b m' T' NM BS (NS ++ ex.flat NS.length)) ∧ Kp SX W W')

theorem ret_size {n : Nat} (e : E) (h : e.size = 1) : Ending.returned (.int .i64 n) = .returned (.int .i64 ((n + e.size : Nat) - 1 : Int)) := ret_int (by omega)

theorem hd_cons {T : List Tok} {x : Tk} (h : (T.map ab).head? = some x) : ∃ t T', T = t :: T' ∧ ab t = x := by
  cases T with
  | nil => simp at h
  | cons t T => simp at h; exact ⟨t, T, rfl, h⟩

end Go.Proofs.YtodgjjkpbcadoaaGreatDoor

/-
  One place, one input: what Check and Eval answer of them, plainly.
-/
import Derived.Test.YtlhbgkaknfhlnaaGreatZVaB
import Derived.Test.YtlhbgkaknfhlnaaGreatZSpH
import Derived.Lib.QuietBelow
import Derived.BigQuiet
namespace Go.Proofs.YtlhbgkaknfhlnaaGreat
open Lx Pz
set_option linter.unusedVariables false

abbrev plN (p : Knd.Plc) : Nd := lf 3 0 p.back p.coords p.x p.y
abbrev inN (k : Int) : Nd := lf 2 k 0 0 0 0

theorem fits_may {f d : Int} {v : Wd} (h : Fits f d v) : Knd.May f d := by
  obtain ⟨⟨⟨⟨lo, hi, hz, -⟩, -⟩, -⟩, -⟩ := h
  apply Classical.byContradiction
  intro hm
  unfold Knd.inZ at hz
  rw [if_pos hm] at hz
  cases hz
theorem may_cases {f d : Int} (h : Knd.May f d) : f = 0 ∨ f = 1 := h.1
theorem may18 : Knd.May 1 8 := by decide
theorem ck_one {f d : Int} {n : Nd} (hm : Knd.May f d) (hs : chkP [] [] [n] 0 = true) (ha : ahB f d n = false) (h : n.op = 2 ∨ n.op = 3) : ckE f d [] [] [n] 0 = 0 := by
  have e1 : (spN f d [] [] n).2 = 0 := by
    unfold spN
    rcases h with h | h
    · rw [if_neg (by omega), if_neg (by omega), if_pos h]
    · rw [if_neg (by omega), if_neg (by omega), if_neg (by omega), if_pos h]
  have hp : prts n = [] := by
    unfold prts
    rcases h with h | h
    · rw [h]; rfl
    · rw [h]; rfl
  refine ck_zero.2 ⟨hm, hs, by simp [ha], ?_, ?_, ?_⟩
  · simp only [spR]; rw [if_pos e1]
  · have := (coR_in [n]).2; simp only [List.length_cons, List.length_nil] at this; omega
  · simp only [dpR, dpN, hp]
    rw [if_neg (by omega)]
    decide
theorem ck_in {f d k : Int} (hm : Knd.May f d) (h0 : 0 ≤ k) (h5 : k ≤ 5) : ckE f d [] [] [inN k] 0 = 0 := by
  refine ck_one hm ?_ rfl (.inl rfl)
  rcases (show k = 0 ∨ k = 1 ∨ k = 2 ∨ k = 3 ∨ k = 4 ∨ k = 5 by omega) with rfl | rfl | rfl | rfl | rfl | rfl <;> decide +kernel
theorem pl_sound0 : ∀ i : Fin 44, chkP [] [] [plN ((Knd.plcs 0 8).getD i.val Knd.zp)] 0 = true ∧ Knd.numZ 0 8 ((Knd.plcs 0 8).getD i.val Knd.zp) = some i.val := by decide +kernel
theorem pl_sound1 : ∀ i : Fin 31, chkP [] [] [plN ((Knd.plcs 1 8).getD i.val Knd.zp)] 0 = true ∧ Knd.numZ 1 8 ((Knd.plcs 1 8).getD i.val Knd.zp) = some i.val := by decide +kernel
theorem pl_sound {f d : Int} (hm : Knd.May f d) {i : Nat} {p : Knd.Plc} (h : (Knd.plcs f d)[i]? = some p) : chkP [] [] [plN p] 0 = true ∧ Knd.numZ f d p = some i ∧ i < (Knd.plcs f d).length := by
  have hl := (List.getElem?_eq_some_iff.1 h).1
  have hc := Knd.plcs_len f d
  have hg : (Knd.plcs f d).getD i Knd.zp = p := by rw [List.getD_eq_getElem?_getD, h]; rfl
  rcases hm.1 with rfl | rfl
  · rw [(Knd.zs0 hm).2.2.2] at hc
    have := pl_sound0 ⟨i, by omega⟩
    rw [plcs_same hm may8] at hg
    simp only [hg] at this
    exact ⟨this.1, by rw [num_same hm may8]; exact this.2, hl⟩
  · rw [(Knd.zs1 hm).2.2.2] at hc
    have := pl_sound1 ⟨i, by omega⟩
    rw [plcs_same hm may18] at hg
    simp only [hg] at this
    exact ⟨this.1, by rw [num_same hm may18]; exact this.2, hl⟩
theorem pl_none {f d : Int} : ckE f d [] [] [plN Knd.zp] 0 ≠ 0 := by
  intro h
  have hm := (ck_zero.1 h).1
  obtain ⟨q, hq⟩ := ck_num h (n := plN Knd.zp) (by simp) rfl
  rcases hm.1 with rfl | rfl
  · rw [num_same hm may8] at hq
    revert hq
    rw [show Knd.numZ 0 8 (plOf (plN Knd.zp)) = none by decide +kernel]
    intro hq; cases hq
  · rw [num_same hm may18] at hq
    revert hq
    rw [show Knd.numZ 1 8 (plOf (plN Knd.zp)) = none by decide +kernel]
    intro hq; cases hq

/-- What Eval tells of the place with a number. -/
theorem look_bad {f d n : Int} {v : Wd} (h : ¬ (Fits f d v ∧ (Knd.atZ f d n).isSome = true)) : evE f d v [] [] [plN ((Knd.atZ f d n).getD Knd.zp)] 0 ≠ 0 ∧ evV f d v [] [] [plN ((Knd.atZ f d n).getD Knd.zp)] 0 = 0 := by
  have h1 : evE f d v [] [] [plN ((Knd.atZ f d n).getD Knd.zp)] 0 ≠ 0 := by
    intro h0
    obtain ⟨h2, h3⟩ := evE_zero.1 h0
    cases hz : Knd.atZ f d n with
    | some p => exact h ⟨h3, by rw [hz]; rfl⟩
    | none => rw [hz] at h2; exact pl_none h2
  exact ⟨h1, by unfold evV; rw [if_neg h1]⟩
theorem look_ok {f d n : Int} {v : Wd} (h : Fits f d v) (hs : (Knd.atZ f d n).isSome = true) : 0 ≤ n ∧ n.toNat < v.ps.length ∧ evE f d v [] [] [plN ((Knd.atZ f d n).getD Knd.zp)] 0 = 0 ∧ evV f d v [] [] [plN ((Knd.atZ f d n).getD Knd.zp)] 0 = v.ps.getD n.toNat 0 := by
  have hm := fits_may h
  cases hz : Knd.atZ f d n with
  | none => rw [hz] at hs; cases hs
  | some p =>
    unfold Knd.atZ at hz
    split at hz
    · rename_i h0
      obtain ⟨a1, a2, a3⟩ := pl_sound hm hz
      have hc := Knd.plcs_len f d
      have hl := h.2.1
      have he := evE_zero.2 ⟨ck_one hm a1 (by unfold ahB; rw [show plOf (plN p) = p from rfl, a2]; rfl) (.inr rfl), h⟩
      refine ⟨h0, by omega, he, ?_⟩
      unfold evV
      rw [Option.getD_some, if_pos he]
      simp only [vaR, List.nil_append]
      rw [show vaN f d v [] [] (plN p) = smpV f d v (plN p) from rfl]
      unfold smpV
      rw [show plOf (plN p) = p from rfl, a2]
      rfl
    · cases hz
theorem look_in {f d k : Int} {v : Wd} (h : Fits f d v) (h0 : 0 ≤ k) (h5 : k ≤ 5) : evE f d v [] (bdL [] 0) (nodesOf [] (.leaf (inN k))) (rootOf [] (.leaf (inN k))) = 0 ∧ evV f d v [] (bdL [] 0) (nodesOf [] (.leaf (inN k))) (rootOf [] (.leaf (inN k))) = inpV f d v k := by
  rw [show bdL [] 0 = [] from rfl, show nodesOf [] (.leaf (inN k)) = [inN k] from rfl, show rootOf [] (.leaf (inN k)) = 0 from rfl]
  have he := evE_zero.2 ⟨ck_in (fits_may h) h0 h5, h⟩
  refine ⟨he, ?_⟩
  unfold evV
  rw [if_pos he]
  rfl

/-- The inputs' words. -/
def inW : List Txt := [[120], [121], [99], [108, 111], [104, 105], [109, 105, 100]]
theorem in_ak : ∀ i : Fin 6, ak (inW.getD i.val []) = some [.word (inW.getD i.val [])] := by
  intro i
  have h : wrd (inW.getD i.val []) = true := by revert i; decide +kernel
  have := ak_wrd h [] fo_nil
  rw [List.append_nil] at this
  rw [this, ak_nil]
  rfl
theorem in_gp : ∀ i : Fin 6, GP [] [] [.word (inW.getD i.val [])] ([], [], .leaf (inN (i.val : Int))) := by
  intro i
  refine GP.last (G.ups (G.word ?_ ?_ ?_ ?_) (by omega) (by omega))
  · revert i; decide +kernel
  · revert i; decide +kernel
  · revert i; decide +kernel
  · exact match i with | ⟨0, _⟩ => rfl | ⟨1, _⟩ => rfl | ⟨2, _⟩ => rfl | ⟨3, _⟩ => rfl | ⟨4, _⟩ => rfl | ⟨5, _⟩ => rfl
theorem in_len : ∀ i : Fin 6, (sB (inW.getD i.val [])).size ≤ 1024 := by decide +kernel

end Go.Proofs.YtlhbgkaknfhlnaaGreat

/-
  Each node lies in its span, plainly.
-/
namespace Go.Proofs.YtlhbgkaknfhlnaaGreat
open Lx Pz
set_option linter.unusedVariables false

/-- Numbers that lie in spans, and have 32 bits. -/
def Inn (V : List Int) (S : Sps) : Prop := V.length = S.length ∧ ∀ i, i < S.length → (S.getD i (0, 0)).1 ≤ V.getD i 0 ∧ V.getD i 0 ≤ (S.getD i (0, 0)).2 ∧ w32 (V.getD i 0)
theorem Inn.snoc {V : List Int} {S : Sps} {x : Int} {p : Int × Int} (h : Inn V S) (h1 : p.1 ≤ x) (h2 : x ≤ p.2) (h3 : w32 x) : Inn (V ++ [x]) (S ++ [p]) := by
  have hl := h.1
  refine ⟨by simp [hl], fun i hi => ?_⟩
  simp only [List.length_append, List.length_cons, List.length_nil] at hi
  by_cases e : i < S.length
  · rw [getD_pre e, getI_pre (by omega)]
    exact h.2 i e
  · have e2 : i = S.length := by omega
    subst e2
    rw [show (S ++ [p]).getD S.length (0, 0) = p by simp [List.getD_eq_getElem?_getD], show (V ++ [x]).getD S.length 0 = x by rw [← hl]; simp [List.getD_eq_getElem?_getD]]
    exact ⟨h1, h2, h3⟩
theorem Inn.ins {V : List Int} {S : Sps} (h : Inn V S) : ∀ (P : List Int), (∀ p ∈ P, p.toNat < S.length) → Spn.Ins (P.map fun p => V.getD p.toNat 0) (P.map fun p => S.getD p.toNat (0, 0))
  | [], _ => trivial
  | p :: P, hp => by
    obtain ⟨h1, h2, -⟩ := h.2 p.toNat (hp p (by simp))
    exact ⟨⟨h1, h2⟩, Inn.ins h P fun q hq => hp q (by simp [hq])⟩
theorem kd_bounds (f d : Int) : w32 (Knd.lowZ f d) ∧ w32 (Knd.highZ f d) ∧ w32 (Knd.borderZ f d) := by
  rcases Knd.kind3 f d with ⟨hm, rfl⟩ | ⟨hm, rfl⟩ | hm
  · have := Knd.pw_le (d - 1) (by have := hm.2.2; omega)
    obtain ⟨a, b, c, -⟩ := Knd.zs0 hm
    rw [a, b, c]; unfold w32; omega
  · have := Knd.pw_le (d - 1) (by have := hm.2.2; omega)
    obtain ⟨a, b, c, -⟩ := Knd.zs1 hm
    rw [a, b, c]; unfold w32; omega
  · obtain ⟨a, b, c, -⟩ := Knd.zs2 hm
    rw [a, b, c]; unfold w32; omega
theorem val_w32 {op k s x : Int} {xs : List Int} (h : Spn.valZ op k s xs = (x, 0)) : w32 x := by
  unfold Spn.valZ at h
  split at h
  · split at h
    · split at h
      · rename_i hw
        cases h
        exact Spn.wd_iff.1 hw
      · cases h
    · rename_i h1
      exact absurd (congrArg Prod.snd h) h1
  · cases h
theorem col_row (f : Int) : Knd.colZ f ≤ 2147483647 ∧ Knd.rowZ f ≤ 2147483647 := by
  unfold Knd.colZ Knd.rowZ
  constructor <;> (repeat' split) <;> omega
theorem inp_in {f d k : Int} {v : Wd} (hF : Fits f d v) (h0 : 0 ≤ k) (h5 : k ≤ 5) : ((Knd.inZ f d k).getD (0, 0)).1 ≤ inpV f d v k ∧ inpV f d v k ≤ ((Knd.inZ f d k).getD (0, 0)).2 ∧ w32 (inpV f d v k) := by
  have hm := fits_may hF
  obtain ⟨⟨⟨⟨a1, a2, e1, g1, g2⟩, ⟨b1, b2, e2, g3, g4⟩⟩, ⟨c1, c2, e3, g5, g6⟩⟩, -⟩ := hF
  obtain ⟨w1, w2, w3⟩ := kd_bounds f d
  have hcr := col_row f
  rcases (show k = 0 ∨ k = 1 ∨ k = 2 ∨ k = 3 ∨ k = 4 ∨ k = 5 by omega) with rfl | rfl | rfl | rfl | rfl | rfl
  · rw [e1]
    have e : Knd.inZ f d 0 = some (0, Knd.colZ f - 1) := by unfold Knd.inZ; rw [if_neg (by simpa using hm)]; rfl
    rw [e] at e1
    cases e1
    exact ⟨g1, g2, by show w32 v.x; unfold w32; omega⟩
  · rw [e2]
    have e : Knd.inZ f d 1 = some (0, Knd.rowZ f - 1) := by unfold Knd.inZ; rw [if_neg (by simpa using hm)]; rfl
    rw [e] at e2
    cases e2
    exact ⟨g3, g4, by show w32 v.y; unfold w32; omega⟩
  · rw [e3]
    have e : Knd.inZ f d 2 = some (0, 3) := by unfold Knd.inZ; rw [if_neg (by simpa using hm)]; rfl
    rw [e] at e3
    cases e3
    exact ⟨g5, g6, by show w32 v.c; unfold w32; omega⟩
  · have e : Knd.inZ f d 3 = some (Knd.lowZ f d, Knd.lowZ f d) := by unfold Knd.inZ; rw [if_neg (by simpa using hm)]; rfl
    rw [e]; exact ⟨Int.le_refl _, Int.le_refl _, w1⟩
  · have e : Knd.inZ f d 4 = some (Knd.highZ f d, Knd.highZ f d) := by unfold Knd.inZ; rw [if_neg (by simpa using hm)]; rfl
    rw [e]; exact ⟨Int.le_refl _, Int.le_refl _, w2⟩
  · have e : Knd.inZ f d 5 = some (Knd.borderZ f d, Knd.borderZ f d) := by unfold Knd.inZ; rw [if_neg (by simpa using hm)]; rfl
    rw [e]; exact ⟨Int.le_refl _, Int.le_refl _, w3⟩
theorem smp_in {f d : Int} {v : Wd} {n : Nd} (hF : Fits f d v) (hn : ∃ q, Knd.numZ f d (plOf n) = some q) : Knd.lowZ f d ≤ smpV f d v n ∧ smpV f d v n ≤ Knd.highZ f d ∧ w32 (smpV f d v n) := by
  obtain ⟨q, hq⟩ := hn
  have hl := num_lt hF hq
  have h := hF.2.2 (smpV f d v n) (by
    unfold smpV
    rw [hq, Option.getD_some, List.getD_eq_getElem?_getD, List.getElem?_eq_getElem hl]
    exact List.getElem_mem hl)
  obtain ⟨w1, w2, -⟩ := kd_bounds f d
  exact ⟨h.1, h.2, by unfold w32 at *; omega⟩
theorem vaN_in {f d : Int} {v : Wd} {BS V : List Int} {S : Sps} {n : Nd} (hF : Fits f d v) (hI : Inn V S) (hn : Wn BS S.length n) (ha : n.op = 3 → ∃ q, Knd.numZ f d (plOf n) = some q) (h : (spN f d BS S n).2 = 0) :
    (spN f d BS S n).1.1 ≤ vaN f d v BS V n ∧ vaN f d v BS V n ≤ (spN f d BS S n).1.2 ∧ w32 (vaN f d v BS V n) := by
  unfold vaN
  unfold spN at h ⊢
  by_cases h4 : n.op = 4
  · rw [if_pos h4] at h ⊢
    rw [if_pos h4]
    exact hI.2 _ (hn.use h4).2.2.2
  rw [if_neg h4] at h ⊢
  rw [if_neg h4]
  by_cases h1 : n.op = 1
  · rw [if_pos h1] at h ⊢
    rw [if_pos h1]
    have := hn.num h1
    exact ⟨Int.le_refl _, Int.le_refl _, by unfold w32; omega⟩
  rw [if_neg h1] at h ⊢
  rw [if_neg h1]
  by_cases h2 : n.op = 2
  · rw [if_pos h2] at h ⊢
    rw [if_pos h2]
    exact inp_in hF (hn.inp h2).1 (hn.inp h2).2
  rw [if_neg h2] at h ⊢
  rw [if_neg h2]
  by_cases h3 : n.op = 3
  · rw [if_pos h3] at h ⊢
    rw [if_pos h3]
    exact smp_in hF (ha h3)
  rw [if_neg h3] at h ⊢
  rw [if_neg h3]
  obtain ⟨x, h5, h6, h7⟩ := Spn.holds_all (Prod.ext rfl h : Spn.ofZ n.op 0 0 ((prts n).map fun p => S.getD p.toNat (0, 0)) = ((_, _), 0)) (hI.ins (prts n) fun p hp => (hn.prt p hp).2)
  unfold opV
  rw [h5]
  exact ⟨h6, h7, val_w32 h5⟩
theorem vaR_in {f d : Int} {v : Wd} {BS : List Int} (hF : Fits f d v) : ∀ (NS : List Nd) (V : List Int) (S T : Sps), Inn V S → Wl BS S.length NS → (∀ n ∈ NS, n.op = 3 → ∃ q, Knd.numZ f d (plOf n) = some q) → spR f d BS NS S = (T, 0) → Inn (vaR f d v BS NS V) T
  | [], V, S, T, hI, _, _, h => by cases h; exact hI
  | n :: NS, V, S, T, hI, hw, ha, h => by
    simp only [spR] at h
    split at h
    · rename_i h1
      obtain ⟨a, b, c⟩ := vaN_in hF hI hw.1 (ha n (by simp)) h1
      exact vaR_in hF NS _ _ T (hI.snoc a b c) (by simpa using hw.2) (fun m hm => ha m (by simp [hm])) h
    · rename_i h1; exact absurd (congrArg Prod.snd h) h1
/-- Where the check takes a program and the window fits, each node lies in its span. -/
theorem holds_va {f d : Int} {v : Wd} {NM : List Txt} {BS : List Int} {NS : List Nd} {root : Int} (h : ckE f d NM BS NS root = 0) (hF : Fits f d v) : Inn (vaR f d v BS NS []) (spR f d BS NS []).1 := by
  obtain ⟨a1, a2, a3, a4, -⟩ := ck_zero.1 h
  obtain ⟨es, ex, hD⟩ := chk_dec.1 a2
  exact vaR_in hF NS [] [] _ ⟨rfl, fun i hi => by simp at hi⟩ hD.wl (fun n hn h3 => ck_num h hn h3) (Prod.ext rfl a4)

end Go.Proofs.YtlhbgkaknfhlnaaGreat

/-
  EvalHolds' walk.
-/
namespace Go.Proofs.YtlhbgkaknfhlnaaGreat
open Go.RowKit Go.IntWalk Lx Pz
set_option linter.unusedVariables false

theorem tx_nil' (W : World) : Tx W none 0 0 [] := ⟨rfl, Nat.le_refl _, Nat.zero_le _, .inl rfl⟩
theorem iz_nil' (W : World) : Iz W none 0 0 [] := ⟨rfl, Nat.le_refl _, Nat.zero_le _, .inl rfl⟩
theorem nz_nil' (W : World) : Nz W none 0 0 [] := ⟨rfl, Nat.le_refl _, Nat.zero_le _, .inl rfl⟩
/-- What Parse answers, of every text: a tree in memory; behind an error one that is not sound. -/
theorem parse_tree (s : ByteArray) (w : World) : Calls Tryz.prog 11 #[.string s] w fun e W' =>
    ∃ NM BS NS root na nl nc ba bl bc da dl dc er, e = .returned (.tuple #[.agg (tr4 (.slice na nl nc) (.slice ba bl bc) (.slice da dl dc) (.int .i64 root)), .int .i64 er]) ∧
      (er ≠ 0 → chkP NM BS NS root = false) ∧ (∀ s ∈ NM, s.length ≤ 9223372036854775807) ∧ Tx W' na nl nc NM ∧ Iz W' ba bl bc BS ∧ Nz W' da dl dc NS ∧ Below w.heap.size w W' := by
  refine (parse_full s w).mono ?_
  rintro e W1 (⟨h1, h2⟩ | ⟨A, NM, es, ex, na, nc, ba, bc, da, dc, ha, hg, hD, rfl, hX, hI, hN, hb⟩)
  · exact ⟨[], [], [], 0, none, 0, 0, none, 0, 0, none, 0, 0, 10, h1, fun _ => by decide, by simp, tx_nil' _, iz_nil' _, nz_nil' _, h2⟩
  · exact ⟨NM, _, _, _, na, _, nc, ba, _, bc, da, _, dc, 0, rfl, fun h => absurd rfl h, nm_short hD.ok, hX, hI, hN, hb⟩

theorem mixedH : Tryz.prog.follows .mixedOrders = true := by kernel_rfl

end Go.Proofs.YtlhbgkaknfhlnaaGreat

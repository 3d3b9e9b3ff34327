/-
  Tokens of joined texts, one after another (after the print round's text Px1, without what is printed).
-/
import Derived.Lib.ItoaNum
import Derived.Test.YtlhbgkaknfhlnaaGreatZJoA
import Derived.Test.YtlhbgkaknfhlnaaGreatZEaB
namespace Go.Proofs.YtlhbgkaknfhlnaaGreat
open Lx Pz
open Go.Lib (decDigits itoa)
set_option linter.unusedVariables false

/- digits -/
theorem dec_small {u : Nat} (h : u < 10) : decDigits u = [UInt8.ofNat (48 + u)] := by rw [decDigits, dif_pos h]
theorem dec_big {u : Nat} (h : ¬ u < 10) : decDigits u = decDigits (u / 10) ++ [UInt8.ofNat (48 + u % 10)] := by rw [decDigits, dif_neg h]
theorem dg_nat {d : Nat} (h : d < 10) : (UInt8.ofNat (48 + d)).toNat = 48 + d := UInt8.toNat_ofNat_of_lt (show 48 + d < 256 by omega)
theorem dg_D {d : Nat} (h : d < 10) : D (UInt8.ofNat (48 + d)) = true := D_iff.2 (by rw [dg_nat h]; omega)
theorem dec_ne (u : Nat) : decDigits u ≠ [] := by
  by_cases h : u < 10
  · rw [dec_small h]; simp
  · rw [dec_big h]; simp
theorem dec_all (u : Nat) : (decDigits u).all D = true := by
  induction u using Nat.strongRecOn with
  | _ u ih =>
    by_cases h : u < 10
    · rw [dec_small h, List.all_cons, dg_D h]; rfl
    · rw [dec_big h, List.all_append, ih (u / 10) (by omega), List.all_cons, dg_D (by omega)]; rfl
theorem dec_vl (u : Nat) : vl (decDigits u) = u := by
  induction u using Nat.strongRecOn with
  | _ u ih =>
    by_cases h : u < 10
    · rw [dec_small h]
      simp only [vl, List.foldl_cons, List.foldl_nil, dg_nat h]
      omega
    · rw [dec_big h, vl_snoc, ih (u / 10) (by omega), dg_nat (by omega)]
      omega
theorem dec_head (u : Nat) (h0 : 0 < u) : (decDigits u).headD 0 ≠ 48 := by
  induction u using Nat.strongRecOn with
  | _ u ih =>
    by_cases h : u < 10
    · rw [dec_small h]
      simp only [List.headD_cons]
      intro e
      have := congrArg UInt8.toNat e
      rw [dg_nat h] at this
      simp at this
      omega
    · rw [dec_big h]
      have h1 := ih (u / 10) (by omega) (by omega)
      cases hd : decDigits (u / 10) with
      | nil => exact absurd hd (dec_ne _)
      | cons a l => rw [hd] at h1; simpa using h1
theorem dec_num {u : Nat} (h : u ≤ 2147483647) : num (decDigits u) = true := by
  refine num_yes (dec_ne u) (dec_all u) ?_ (by rw [dec_vl]; omega)
  by_cases h0 : u = 0
  · subst h0; rw [dec_small (by omega)]; rfl
  · have := dec_head u (by omega)
    simp only [Bool.and_eq_false_iff, beq_eq_false_iff_ne]
    exact .inl this

/- what may follow -/
def Fo (r : Txt) : Prop := ∀ d, r.head? = some d → W d = false
def St (r : Txt) : Prop := ∀ d, r.head? = some d → d ≠ 60 ∧ d ≠ 61 ∧ d ≠ 62
def Tr (r : Txt) : Prop := True
theorem fo_nil : Fo [] := fun d h => by simp at h
theorem fo_cons {c : UInt8} (h : W c = false) (r : Txt) : Fo (c :: r) := fun d hd => by simp at hd; subst hd; exact h
theorem W_D {d : UInt8} (h : W d = false) : D d = false := by
  cases hd : D d with
  | false => rfl
  | true =>
    have : dg d.toNat = true := hd
    simp [W, wi, this] at h

def AkP (P : Txt → Prop) (x : Txt) (ts : List Tk) : Prop := ∀ r, P r → ak (x ++ r) = (ak r).map (ts ++ ·)
theorem AkP.seq {P Q : Txt → Prop} {x y : Txt} {ts us : List Tk} (h1 : AkP P x ts) (h2 : AkP Q y us) (h : ∀ r, Q r → P (y ++ r)) : AkP Q (x ++ y) (ts ++ us) := by
  intro r hr
  rw [List.append_assoc, h1 _ (h r hr), h2 r hr, Option.map_map]
  congr 1
  funext l
  simp
theorem AkP.tr {P : Txt → Prop} {x : Txt} {ts : List Tk} (h : AkP Tr x ts) : AkP P x ts := fun r _ => h r trivial
theorem AkP.nil (P : Txt → Prop) : AkP P [] [] := fun r _ => by simp

theorem ak_piece {k : Int} {x r : Txt} {c : UInt8} {t : Txt} (hx : x = c :: t) (h1 : bl c = false) (h2 : c ≠ 35) (hk : kd (x ++ r) = k) (hz : sz (x ++ r) = x.length) (hm : may k x = true) : ak (x ++ r) = (ak r).map ([ab ⟨k, x, 0⟩] ++ ·) := by
  subst hx
  have ht : ((c :: t) ++ r).take (c :: t).length = c :: t := List.take_left
  have hd : ((c :: t) ++ r).drop (c :: t).length = r := List.drop_left
  have hg : gd ((c :: t) ++ r) = true := by unfold gd; rw [hk, hz, ht]; exact hm
  rw [List.cons_append] at hg hk hz ht hd ⊢
  rw [ak_tok h1 h2 hg, hz, hk, ht, hd]
  rfl
theorem ak_wrd {x : Txt} (hw : wrd x = true) : AkP Fo x [.word x] := by
  intro r hr
  cases x with
  | nil => simp [wrd] at hw
  | cons c t =>
    have hA : A c = true := by simp [wrd] at hw; exact hw.1.2
    have hall : (c :: t).all W = true := by simp only [wrd, Bool.and_eq_true] at hw; exact hw.2
    have h3 := A_not hA
    refine ak_piece (k := 2) rfl h3.1 h3.2.1 ?_ ?_ hw
    · simp [kd, hA, h3.2.2.1]
    · simp only [sz, List.cons_append, List.headD_cons, hA, h3.2.2.1, if_true, Bool.false_eq_true, if_false]
      rw [← List.cons_append, rn, takeWhile_app W _ _ hall hr]
theorem ak_dec {u : Nat} (h : u ≤ 2147483647) : AkP Fo (decDigits u) [.num u] := by
  intro r hr
  have hn := dec_num h
  have hv := dec_vl u
  have hall := dec_all u
  generalize decDigits u = x at *
  cases x with
  | nil => simp [num] at hn
  | cons c t =>
    have hD : D c = true := by simp at hall; exact hall.1
    have h3 := D_not hD
    have := ak_piece (k := 1) (x := c :: t) (r := r) rfl h3.1 h3.2 (by simp [kd, hD]) (by
      simp only [sz, List.cons_append, List.headD_cons, hD, if_true]
      rw [← List.cons_append, rn, takeWhile_app D _ _ hall (fun a ha => W_D (hr a ha))]) hn
    rw [this]
    simp only [ab, if_true, hv]
theorem ak_m (c : UInt8) (k : Tk) (hc : sh.contains c = true) (h60 : c ≠ 60) (h61 : c ≠ 61) (h62 : c ≠ 62) (h33 : c ≠ 33) (hk : mkT [c] = k) : AkP Tr [c] [k] := by
  intro r _
  rw [List.singleton_append, ak_mark hc h60 h61 h62 h33 r, hk]
  rfl
theorem ak_eq : AkP St [61] [.eq] := by
  intro r hr
  refine ak_piece (k := 3) rfl (by decide) (by decide) (by rfl) ?_ (by decide)
  cases r with
  | nil => rfl
  | cons d r =>
    obtain ⟨h1, h2, h3⟩ := hr d rfl
    simp [sz, mk, D, A, dg, lt, two, sh, h1, h2, h3]
theorem ak_lp : AkP Tr [40] [.lp] := ak_m 40 _ (by decide) (by decide) (by decide) (by decide) (by decide) (by decide)
theorem ak_rp : AkP Tr [41] [.rp] := ak_m 41 _ (by decide) (by decide) (by decide) (by decide) (by decide) (by decide)
theorem ak_comma : AkP Tr [44] [.comma] := ak_m 44 _ (by decide) (by decide) (by decide) (by decide) (by decide) (by decide)
theorem ak_semi : AkP Tr [59] [.semi] := ak_m 59 _ (by decide) (by decide) (by decide) (by decide) (by decide) (by decide)
theorem ak_ques : AkP Tr [63] [.ques] := ak_m 63 _ (by decide) (by decide) (by decide) (by decide) (by decide) (by decide)
theorem ak_colon : AkP Tr [58] [.colon] := ak_m 58 _ (by decide) (by decide) (by decide) (by decide) (by decide) (by decide)
theorem ak_minus : AkP Tr [45] [.op 5 9] := ak_m 45 _ (by decide) (by decide) (by decide) (by decide) (by decide) (by decide)

end Go.Proofs.YtlhbgkaknfhlnaaGreat

/-
  Texts: what Parse answers, what the law's 'of' answers; awake.
-/
namespace Go.Proofs.YtlhbgkaknfhlnaaGreat
open Go.RowKit Go.IntWalk Lx Pz
set_option linter.unusedVariables false

abbrev nodesOf (es : List E) (ex : E) : List Nd := flL es 0 ++ ex.flat (szL es)
abbrev rootOf (es : List E) (ex : E) : Int := ((szL es + ex.size : Nat) : Int) - 1

theorem dec_parse {l : List UInt8} {T : List Tok} {NM : List Txt} {es : List E} {ex : E} (hT : tks l = some T) (hg : GP [] [] (T.map ab) (NM, es, ex)) (hl : NM.length = es.length) (hz : szL es + ex.size ≤ T.length) :
    Dec NM (bdL es 0) (nodesOf es ex) (rootOf es ex) es ex := by
  have hok : (T.map ab).all okT = true := by
    rw [List.all_map, List.all_eq_true]
    intro t ht
    exact okT_ab (tks_wf hT t ht)
  obtain ⟨h1, h2, h3⟩ := gp_gd hg hok rfl (by intro j e h; simp at h) rfl
  have h4 := tks_len hT
  exact ⟨rfl, rfl, hl, h1, h2, h3, by rw [List.length_append, flL_len, E.flat_len], by rw [List.length_append, flL_len, E.flat_len]; omega⟩
theorem nm_short {NM : List Txt} (h : nmB NM = true) : ∀ s ∈ NM, s.length ≤ 9223372036854775807 := by
  intro s hs
  simp only [nmB, Bool.and_eq_true, List.all_eq_true] at h
  have h1 := h.1 s hs
  have h2 : wrd s = true := h1.1
  simp only [wrd, Bool.and_eq_true, decide_eq_true_eq] at h2
  have := h2.1.1.2
  omega

/-- What Parse answers, of every text. -/
theorem parse_full (s : ByteArray) (w : World) : Calls Tryz.prog 11 #[.string s] w fun e W' =>
    (e = .returned (.tuple #[.agg nil4, .int .i64 10]) ∧ Below w.heap.size w W') ∨
    (∃ A NM es ex na nc ba bc da dc, ak (bs s) = some A ∧ GP [] [] A (NM, es, ex) ∧ Dec NM (bdL es 0) (nodesOf es ex) (rootOf es ex) es ex ∧
      e = .returned (.tuple #[.agg (tr4 (.slice na es.length nc) (.slice ba es.length bc) (.slice da (szL es + ex.size) dc) (.int .i64 (rootOf es ex))), .int .i64 0]) ∧ Tx W' na es.length nc NM ∧ Iz W' ba es.length bc (bdL es 0) ∧
      Nz W' da (szL es + ex.size) dc (nodesOf es ex) ∧ Below w.heap.size w W') := by
  refine (parse_read s w).mono ?_
  rintro e W1 (⟨h1, h2, -⟩ | ⟨T, NM, es, ex, na, nc, ba, bc, da, dc, hT, hA, h3, h4, rfl, h6, h7, h8, h9⟩)
  · exact .inl ⟨h1, h2⟩
  · have hg := (hA (NM, es, ex)).1 rfl
    exact .inr ⟨T.map ab, NM, es, ex, na, nc, ba, bc, da, dc, (ak_of hT).1, hg, dec_parse hT hg h3 h4, rfl, h6, h7, h8, h9⟩
theorem parse_dec {s : ByteArray} {A : List Tk} {NM : List Txt} {es : List E} {ex : E} (ha : ak (bs s) = some A) (hl : s.size ≤ 1024) (hg : GP [] [] A (NM, es, ex)) (w : World) :
    Calls Tryz.prog 11 #[.string s] w fun e W' => ∃ na nc ba bc da dc, Dec NM (bdL es 0) (nodesOf es ex) (rootOf es ex) es ex ∧
      e = .returned (.tuple #[.agg (tr4 (.slice na es.length nc) (.slice ba es.length bc) (.slice da (szL es + ex.size) dc) (.int .i64 (rootOf es ex))), .int .i64 0]) ∧ Tx W' na es.length nc NM ∧ Iz W' ba es.length bc (bdL es 0) ∧
      Nz W' da (szL es + ex.size) dc (nodesOf es ex) ∧ Below w.heap.size w W' := by
  obtain ⟨T0, hT0, hab⟩ := tks_ak ha (by rw [bs_len]; exact hl)
  refine (parse_read s w).mono ?_
  rintro e W1 (⟨-, -, hbad⟩ | ⟨T, NM', es', ex', na, nc, ba, bc, da, dc, hT, hA, h3, h4, rfl, h6, h7, h8, h9⟩)
  · exfalso
    rw [hT0] at hbad
    rcases hbad with h | ⟨T, h, h2⟩
    · cases h
    · cases h
      rw [hab] at h2
      have := (h2 _).2 hg
      cases this
  · have hd := dec_parse hT ((hA _).1 rfl) h3 h4
    rw [hT0] at hT
    cases hT
    rw [hab] at hA
    have := (hA _).2 hg
    cases this
    exact ⟨na, nc, ba, bc, da, dc, hd, rfl, h6, h7, h8, h9⟩

end Go.Proofs.YtlhbgkaknfhlnaaGreat

/-
  awake.
-/
namespace Go.Proofs.YtlhbgkaknfhlnaaGreat
open Go.RowKit Go.IntWalk Lx Pz
set_option linter.unusedVariables false

/- the text that the document names -/
def awT : Txt := [109, 101, 100, 40, 112, 40, 45, 49, 44, 48, 41, 44, 112, 40, 48, 44, 45, 49, 41, 44, 112, 40, 45, 49, 44, 48, 41, 43, 112, 40, 48, 44, 45, 49, 41, 45, 112, 40, 45, 49, 44, 45, 49, 41, 41]
def wMed : Txt := [109, 101, 100]
abbrev plA : List Tk := [.word wP, .lp, .op 5 9, .num 1, .comma, .num 0, .rp]
abbrev plB : List Tk := [.word wP, .lp, .num 0, .comma, .op 5 9, .num 1, .rp]
abbrev plC : List Tk := [.word wP, .lp, .op 5 9, .num 1, .comma, .op 5 9, .num 1, .rp]
def awK : List Tk := .word wMed :: .lp :: (plA ++ .comma :: (plB ++ .comma :: (((plA ++ .op 5 8 :: plB) ++ .op 5 9 :: plC) ++ [.rp])))
def awE : E := .tri 27 (.leaf (lf 3 0 0 2 (-1) 0)) (.leaf (lf 3 0 0 2 0 (-1))) (.bin 9 (.bin 8 (.leaf (lf 3 0 0 2 (-1) 0)) (.leaf (lf 3 0 0 2 0 (-1)))) (.leaf (lf 3 0 0 2 (-1) (-1))))
theorem aw_ak : ak awT = some awK := by
  have d1 : ∀ d : Nat, d < 10 → ∀ r, Fo r → ak (UInt8.ofNat (48 + d) :: r) = (ak r).map ([.num d] ++ ·) := fun d hd r hr => by
    have := ak_dec (u := d) (by omega) r hr
    rwa [dec_small hd] at this
  have n1c : ∀ r, ak (49 :: 44 :: r) = (ak (44 :: r)).map ([.num 1] ++ ·) := fun r => d1 1 (by decide) _ (fo_cons (by decide) r)
  have n1r : ∀ r, ak (49 :: 41 :: r) = (ak (41 :: r)).map ([.num 1] ++ ·) := fun r => d1 1 (by decide) _ (fo_cons (by decide) r)
  have n0c : ∀ r, ak (48 :: 44 :: r) = (ak (44 :: r)).map ([.num 0] ++ ·) := fun r => d1 0 (by decide) _ (fo_cons (by decide) r)
  have n0r : ∀ r, ak (48 :: 41 :: r) = (ak (41 :: r)).map ([.num 0] ++ ·) := fun r => d1 0 (by decide) _ (fo_cons (by decide) r)
  have pl : ∀ r, ak (112 :: 40 :: r) = (ak (40 :: r)).map ([.word wP] ++ ·) := fun r => ak_wrd (x := wP) (by decide) (40 :: r) (fo_cons (by decide) r)
  have md : ∀ r, ak (109 :: 101 :: 100 :: 40 :: r) = (ak (40 :: r)).map ([.word wMed] ++ ·) := fun r => ak_wrd (x := wMed) (by decide) (40 :: r) (fo_cons (by decide) r)
  have lp : ∀ r, ak (40 :: r) = (ak r).map ([.lp] ++ ·) := fun r => ak_lp r trivial
  have rp : ∀ r, ak (41 :: r) = (ak r).map ([.rp] ++ ·) := fun r => ak_rp r trivial
  have cm : ∀ r, ak (44 :: r) = (ak r).map ([.comma] ++ ·) := fun r => ak_comma r trivial
  have mi : ∀ r, ak (45 :: r) = (ak r).map ([.op 5 9] ++ ·) := fun r => ak_minus r trivial
  have pp : ∀ r, ak (43 :: r) = (ak r).map ([.op 5 8] ++ ·) := fun r => ak_m 43 _ (by decide) (by decide) (by decide) (by decide) (by decide) (by decide) r trivial
  unfold awT
  simp only [md, pl, n1c, n1r, n0c, n0r, lp, rp, cm, mi, pp, ak_nil, Option.map_some]
  rfl
theorem aw_gp : GP [] [] awK ([], [], awE) := by
  refine GP.last ?_
  have a8 : G [] 8 plA (.leaf (lf 3 0 0 2 (-1) 0)) := G.place (s := wP) (.inl rfl) rfl
  have b8 : G [] 8 plB (.leaf (lf 3 0 0 2 0 (-1))) := G.place (s := wP) (.inl rfl) rfl
  have c8 : G [] 8 plC (.leaf (lf 3 0 0 2 (-1) (-1))) := G.place (s := wP) (.inl rfl) rfl
  have s6 : G [] 6 (plA ++ .op 5 8 :: plB) _ := G.bin (k := 5) (o := 8) (by omega) (G.ups a8 (by decide) (by decide)) (G.ups b8 (by decide) (by decide))
  have d6 : G [] 6 ((plA ++ .op 5 8 :: plB) ++ .op 5 9 :: plC) _ := G.bin (k := 5) (o := 9) (by omega) s6 (G.ups c8 (by decide) (by decide))
  have m8 : G [] 8 awK awE := G.call3 (s := wMed) (by decide) (G.ups a8 (by decide) (by decide)) (G.ups b8 (by decide) (by decide)) (G.ups d6 (by decide) (by decide))
  exact G.ups m8 (by omega) (by omega)
theorem aw_ck : ckE 0 8 [] (bdL [] 0) (nodesOf [] awE) (rootOf [] awE) = 0 := by decide +kernel
theorem aw_co : coR (nodesOf [] awE) = 8 ∧ mxR (dpR (bdL [] 0) (nodesOf [] awE) []) = 4 ∧ (nodesOf [] awE).length = 8 := by decide +kernel
theorem aw_sp : (spR 0 8 (bdL [] 0) (nodesOf [] awE) []).1.length = 8 ∧ (spR 0 8 (bdL [] 0) (nodesOf [] awE) []).1.getD 6 (0, 0) = (-255, 510) := by decide +kernel

theorem awB : (⟨awT.toArray⟩ : ByteArray).size ≤ 1024 := by decide
end Go.Proofs.YtlhbgkaknfhlnaaGreat

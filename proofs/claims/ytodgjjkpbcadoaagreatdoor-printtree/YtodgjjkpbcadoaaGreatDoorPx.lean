/-
  The tokens of a tree's text.
-/
import Derived.Test.YtodgjjkpbcadoaaGreatDoorPgPn
import Derived.Test.YtodgjjkpbcadoaaGreatDoorGrJS
namespace Go.Proofs.YtodgjjkpbcadoaaGreatDoor
open Lx Pz
open Go.Lib (decDigits itoa)
set_option linter.unusedVariables false

/- digits -/
theorem dec_small {u : Nat} (h : u < 10) : decDigits u = [UInt8.ofNat (48 + u)] := by rw [decDigits, dif_pos h]
theorem dec_big {u : Nat} (h : ¬ u < 10) : decDigits u = decDigits (u / 10) ++ [UInt8.ofNat (48 + u % 10)] := by rw [decDigits, dif_neg h]
theorem dg_nat {d : Nat} (h : d < 10) : (UInt8.ofNat (48 + d)).toNat = 48 + d := UInt8.toNat_ofNat_of_lt (show 48 + d < 256 by omega)
theorem dg_D {d : Nat} (h : d < 10) : D (UInt8.ofNat (48 + d)) = true := D_iff.2 (by rw [dg_nat h]; omega)
theorem dec_ne (u : Nat) : decDigits u ≠ [] := by
  by_cases h : u < 10
  · rw [dec_small h]; simp
  · rw [dec_big h]; simp
theorem dec_all (u : Nat) : (decDigits u).all D = true := by
  induction u using Nat.strongRecOn with
  | _ u ih =>
    by_cases h : u < 10
    · rw [dec_small h, List.all_cons, dg_D h]; rfl
    · rw [dec_big h, List.all_append, ih (u / 10) (by omega), List.all_cons, dg_D (by omega)]; rfl
theorem dec_vl (u : Nat) : vl (decDigits u) = u := by
  induction u using Nat.strongRecOn with
  | _ u ih =>
    by_cases h : u < 10
    · rw [dec_small h]
      simp only [vl, List.foldl_cons, List.foldl_nil, dg_nat h]
      omega
    · rw [dec_big h, vl_snoc, ih (u / 10) (by omega), dg_nat (by omega)]
      omega
theorem dec_head (u : Nat) (h0 : 0 < u) : (decDigits u).headD 0 ≠ 48 := by
  induction u using Nat.strongRecOn with
  | _ u ih =>
    by_cases h : u < 10
    · rw [dec_small h]
      simp only [List.headD_cons]
      intro e
      have := congrArg UInt8.toNat e
      rw [dg_nat h] at this
      simp at this
      omega
    · rw [dec_big h]
      have h1 := ih (u / 10) (by omega) (by omega)
      cases hd : decDigits (u / 10) with
      | nil => exact absurd hd (dec_ne _)
      | cons a l => rw [hd] at h1; simpa using h1
theorem dec_num {u : Nat} (h : u ≤ 2147483647) : num (decDigits u) = true := by
  refine num_yes (dec_ne u) (dec_all u) ?_ (by rw [dec_vl]; omega)
  by_cases h0 : u = 0
  · subst h0; rw [dec_small (by omega)]; rfl
  · have := dec_head u (by omega)
    simp only [Bool.and_eq_false_iff, beq_eq_false_iff_ne]
    exact .inl this

/- what may follow -/
def Fo (r : Txt) : Prop := ∀ d, r.head? = some d → W d = false
def St (r : Txt) : Prop := ∀ d, r.head? = some d → d ≠ 60 ∧ d ≠ 61 ∧ d ≠ 62
def Tr (r : Txt) : Prop := True
theorem fo_nil : Fo [] := fun d h => by simp at h
theorem fo_cons {c : UInt8} (h : W c = false) (r : Txt) : Fo (c :: r) := fun d hd => by simp at hd; subst hd; exact h
theorem W_D {d : UInt8} (h : W d = false) : D d = false := by
  cases hd : D d with
  | false => rfl
  | true =>
    have : dg d.toNat = true := hd
    simp [W, wi, this] at h

def AkP (P : Txt → Prop) (x : Txt) (ts : List Tk) : Prop := ∀ r, P r → ak (x ++ r) = (ak r).map (ts ++ ·)
theorem AkP.seq {P Q : Txt → Prop} {x y : Txt} {ts us : List Tk} (h1 : AkP P x ts) (h2 : AkP Q y us) (h : ∀ r, Q r → P (y ++ r)) : AkP Q (x ++ y) (ts ++ us) := by
  intro r hr
  rw [List.append_assoc, h1 _ (h r hr), h2 r hr, Option.map_map]
  congr 1
  funext l
  simp
theorem AkP.tr {P : Txt → Prop} {x : Txt} {ts : List Tk} (h : AkP Tr x ts) : AkP P x ts := fun r _ => h r trivial
theorem AkP.nil (P : Txt → Prop) : AkP P [] [] := fun r _ => by simp

theorem ak_piece {k : Int} {x r : Txt} {c : UInt8} {t : Txt} (hx : x = c :: t) (h1 : bl c = false) (h2 : c ≠ 35) (hk : kd (x ++ r) = k) (hz : sz (x ++ r) = x.length) (hm : may k x = true) : ak (x ++ r) = (ak r).map ([ab ⟨k, x, 0⟩] ++ ·) := by
  subst hx
  have ht : ((c :: t) ++ r).take (c :: t).length = c :: t := List.take_left
  have hd : ((c :: t) ++ r).drop (c :: t).length = r := List.drop_left
  have hg : gd ((c :: t) ++ r) = true := by unfold gd; rw [hk, hz, ht]; exact hm
  rw [List.cons_append] at hg hk hz ht hd ⊢
  rw [ak_tok h1 h2 hg, hz, hk, ht, hd]
  rfl
theorem ak_wrd {x : Txt} (hw : wrd x = true) : AkP Fo x [.word x] := by
  intro r hr
  cases x with
  | nil => simp [wrd] at hw
  | cons c t =>
    have hA : A c = true := by simp [wrd] at hw; exact hw.1.2
    have hall : (c :: t).all W = true := by simp only [wrd, Bool.and_eq_true] at hw; exact hw.2
    have h3 := A_not hA
    refine ak_piece (k := 2) rfl h3.1 h3.2.1 ?_ ?_ hw
    · simp [kd, hA, h3.2.2.1]
    · simp only [sz, List.cons_append, List.headD_cons, hA, h3.2.2.1, if_true, Bool.false_eq_true, if_false]
      rw [← List.cons_append, rn, takeWhile_app W _ _ hall hr]
theorem ak_dec {u : Nat} (h : u ≤ 2147483647) : AkP Fo (decDigits u) [.num u] := by
  intro r hr
  have hn := dec_num h
  have hv := dec_vl u
  have hall := dec_all u
  generalize decDigits u = x at *
  cases x with
  | nil => simp [num] at hn
  | cons c t =>
    have hD : D c = true := by simp at hall; exact hall.1
    have h3 := D_not hD
    have := ak_piece (k := 1) (x := c :: t) (r := r) rfl h3.1 h3.2 (by simp [kd, hD]) (by
      simp only [sz, List.cons_append, List.headD_cons, hD, if_true]
      rw [← List.cons_append, rn, takeWhile_app D _ _ hall (fun a ha => W_D (hr a ha))]) hn
    rw [this]
    simp only [ab, if_true, hv]
theorem ak_m (c : UInt8) (k : Tk) (hc : sh.contains c = true) (h60 : c ≠ 60) (h61 : c ≠ 61) (h62 : c ≠ 62) (h33 : c ≠ 33) (hk : mkT [c] = k) : AkP Tr [c] [k] := by
  intro r _
  rw [List.singleton_append, ak_mark hc h60 h61 h62 h33 r, hk]
  rfl
theorem ak_eq : AkP St [61] [.eq] := by
  intro r hr
  refine ak_piece (k := 3) rfl (by decide) (by decide) (by rfl) ?_ (by decide)
  cases r with
  | nil => rfl
  | cons d r =>
    obtain ⟨h1, h2, h3⟩ := hr d rfl
    simp [sz, mk, D, A, dg, lt, two, sh, h1, h2, h3]
theorem ak_op {k : Nat} (h : 8 ≤ k ∧ k ≤ 23) : AkP St (otx k) [.op (ork k - 1) k] := by
  intro r hr
  rcases (show k = 8 ∨ k = 9 ∨ k = 10 ∨ k = 11 ∨ k = 12 ∨ k = 13 ∨ k = 14 ∨ k = 15 ∨ k = 16 ∨ k = 17 ∨ k = 18 ∨ k = 19 ∨ k = 20 ∨ k = 21 ∨ k = 22 ∨ k = 23 by omega) with rfl | rfl | rfl | rfl | rfl | rfl | rfl | rfl | rfl | rfl | rfl | rfl | rfl | rfl | rfl | rfl
  · exact ak_m 43 _ (by decide) (by decide) (by decide) (by decide) (by decide) (by decide) r trivial
  · exact ak_m 45 _ (by decide) (by decide) (by decide) (by decide) (by decide) (by decide) r trivial
  · exact ak_m 42 _ (by decide) (by decide) (by decide) (by decide) (by decide) (by decide) r trivial
  · exact ak_m 47 _ (by decide) (by decide) (by decide) (by decide) (by decide) (by decide) r trivial
  · exact ak_m 37 _ (by decide) (by decide) (by decide) (by decide) (by decide) (by decide) r trivial
  · exact ak_piece (k := 3) (x := [60, 60]) rfl (by decide) (by decide) rfl (by simp [sz, mk, D, A, dg, lt, two]) (by decide)
  · exact ak_piece (k := 3) (x := [62, 62]) rfl (by decide) (by decide) rfl (by simp [sz, mk, D, A, dg, lt, two]) (by decide)
  · exact ak_m 38 _ (by decide) (by decide) (by decide) (by decide) (by decide) (by decide) r trivial
  · exact ak_m 124 _ (by decide) (by decide) (by decide) (by decide) (by decide) (by decide) r trivial
  · exact ak_m 94 _ (by decide) (by decide) (by decide) (by decide) (by decide) (by decide) r trivial
  · refine ak_piece (k := 3) (x := [60]) rfl (by decide) (by decide) rfl ?_ (by decide)
    cases r with
    | nil => rfl
    | cons d r => obtain ⟨h1, h2, h3⟩ := hr d rfl; simp [sz, mk, D, A, dg, lt, two, sh, h1, h2, h3]
  · exact ak_piece (k := 3) (x := [60, 61]) rfl (by decide) (by decide) rfl (by simp [sz, mk, D, A, dg, lt, two]) (by decide)
  · refine ak_piece (k := 3) (x := [62]) rfl (by decide) (by decide) rfl ?_ (by decide)
    cases r with
    | nil => rfl
    | cons d r => obtain ⟨h1, h2, h3⟩ := hr d rfl; simp [sz, mk, D, A, dg, lt, two, sh, h1, h2, h3]
  · exact ak_piece (k := 3) (x := [62, 61]) rfl (by decide) (by decide) rfl (by simp [sz, mk, D, A, dg, lt, two]) (by decide)
  · exact ak_piece (k := 3) (x := [61, 61]) rfl (by decide) (by decide) rfl (by simp [sz, mk, D, A, dg, lt, two]) (by decide)
  · exact ak_piece (k := 3) (x := [33, 61]) rfl (by decide) (by decide) rfl (by simp [sz, mk, D, A, dg, lt, two]) (by decide)

theorem ak_lp : AkP Tr [40] [.lp] := ak_m 40 _ (by decide) (by decide) (by decide) (by decide) (by decide) (by decide)
theorem ak_rp : AkP Tr [41] [.rp] := ak_m 41 _ (by decide) (by decide) (by decide) (by decide) (by decide) (by decide)
theorem ak_comma : AkP Tr [44] [.comma] := ak_m 44 _ (by decide) (by decide) (by decide) (by decide) (by decide) (by decide)
theorem ak_semi : AkP Tr [59] [.semi] := ak_m 59 _ (by decide) (by decide) (by decide) (by decide) (by decide) (by decide)
theorem ak_ques : AkP Tr [63] [.ques] := ak_m 63 _ (by decide) (by decide) (by decide) (by decide) (by decide) (by decide)
theorem ak_colon : AkP Tr [58] [.colon] := ak_m 58 _ (by decide) (by decide) (by decide) (by decide) (by decide) (by decide)
theorem ak_minus : AkP Tr [45] [.op 5 9] := ak_m 45 _ (by decide) (by decide) (by decide) (by decide) (by decide) (by decide)

end Go.Proofs.YtodgjjkpbcadoaaGreatDoor

/-
  A tree's text is read as that tree.
-/
namespace Go.Proofs.YtodgjjkpbcadoaaGreatDoor
open Lx Pz
open Go.Lib (decDigits itoa)
set_option linter.unusedVariables false

def ofK (x : Int) : List Tk := if x < 0 then [.op 5 9] ++ [.num (-x)] else [.num x]
def plK (n : Nd) : List Tk := (if n.back = 0 then [.word wP] ++ [.lp] else [.word wQ] ++ ([.lp] ++ ([.num n.back] ++ [.comma]))) ++ (ofK n.x ++ ((if n.co = 2 then [.comma] ++ ofK n.y else []) ++ [.rp]))
def lfK (nm : List Txt) (n : Nd) : List Tk := if n.op = 1 then [.num n.k] else if n.op = 2 then [.word (inTx.getD n.k.toNat [])] else if n.op = 4 then [.word (nm.getD n.k.toNat [])] else plK n
def brK (b : Bool) (l : List Tk) : List Tk := if b then [.lp] ++ (l ++ [.rp]) else l
def etk (nm : List Txt) : E → List Tk
  | .leaf n => lfK nm n
  | .un o a => if o = 5 then [.op 5 9] ++ brK (decide (rkE a < 8)) (etk nm a) else [.word (otx o)] ++ ([.lp] ++ (etk nm a ++ [.rp]))
  | .bin o a b => if o = 24 ∨ o = 25 then [.word (otx o)] ++ ([.lp] ++ (etk nm a ++ ([.comma] ++ (etk nm b ++ [.rp])))) else brK (decide (rkE a < lfk o)) (etk nm a) ++ ([.op (ork o - 1) o] ++ brK (decide (rkE b < ork o + 1)) (etk nm b))
  | .tri o a b c => if o = 28 then brK (decide (rkE a < 1)) (etk nm a) ++ ([.ques] ++ (etk nm b ++ ([.colon] ++ etk nm c))) else [.word (otx o)] ++ ([.lp] ++ (etk nm a ++ ([.comma] ++ (etk nm b ++ ([.comma] ++ (etk nm c ++ [.rp]))))))

/- how a text begins -/
def Bg (l : Txt) : Prop := ∃ c t, l = c :: t ∧ c ≠ 60 ∧ c ≠ 61 ∧ c ≠ 62
theorem Bg.st {l : Txt} (h : Bg l) (r : Txt) : St (l ++ r) := by
  obtain ⟨c, t, rfl, h⟩ := h
  intro d hd
  simp at hd
  subst hd
  exact h
theorem Bg.app {l : Txt} (h : Bg l) (r : Txt) : Bg (l ++ r) := by
  obtain ⟨c, t, rfl, h⟩ := h
  exact ⟨c, t ++ r, rfl, h⟩
theorem Bg.brk {l : Txt} (h : Bg l) (x : Bool) : Bg (brk x l) := by
  unfold Pz.brk
  split
  · exact ⟨40, _, rfl, by decide, by decide, by decide⟩
  · exact h
theorem bg_wrd {x : Txt} (h : wrd x = true) : Bg x := by
  cases x with
  | nil => simp [wrd] at h
  | cons c t =>
    have hA : A c = true := by simp [wrd] at h; exact h.1.2
    have h' : 97 ≤ (c.toNat : Int) ∧ (c.toNat : Int) ≤ 122 := by simpa [A, lt] using hA
    refine ⟨c, t, rfl, ?_, ?_, ?_⟩ <;> (intro e; subst e; simp at h')
theorem bg_dec (u : Nat) : Bg (decDigits u) := by
  have h := dec_all u
  have h0 := dec_ne u
  cases hx : decDigits u with
  | nil => exact absurd hx h0
  | cons c t =>
    rw [hx] at h
    have hD : D c = true := by simp at h; exact h.1
    have h' := D_iff.1 hD
    refine ⟨c, t, rfl, ?_, ?_, ?_⟩ <;> (intro e; subst e; simp at h')
theorem bg_itoa (n : Int) : Bg (itoa n) := by
  unfold itoa
  split
  · exact ⟨45, _, rfl, by decide, by decide, by decide⟩
  · exact bg_dec _

theorem otx_call {o : Int} (h : o = 6 ∨ o = 7 ∨ o = 24 ∨ o = 25 ∨ o = 26 ∨ o = 27) : wrd (otx o) = true := by
  rcases h with rfl | rfl | rfl | rfl | rfl | rfl <;> decide
theorem in_wrd {k : Nat} (h : k < 6) : wrd (inTx.getD k []) = true := by
  have : ∀ k, k < 6 → wrd (inTx.getD k []) = true := by decide
  exact this k h
theorem nm_at {NM : List Txt} (hn : nmB NM = true) {k : Nat} (hk : k < NM.length) : wrd (NM.getD k []) = true ∧ resv (NM.getD k []) = false := by
  rw [List.getD_eq_getElem?_getD, List.getElem?_eq_getElem hk]
  exact nm_wrd hn (List.getElem_mem hk)

theorem bg_etx {NM : List Txt} (hn : nmB NM = true) {bd : Nat} (hb : bd ≤ NM.length) : ∀ (e : E), Gd bd e → Bg (etx NM e)
  | .leaf n, hg => by
    obtain ⟨-, -, -, h⟩ := gd_leaf hg
    simp only [etx]
    unfold leafT
    split
    · exact bg_itoa _
    split
    · exact bg_wrd (in_wrd (by omega))
    split
    · exact bg_wrd (nm_at hn (by omega)).1
    · unfold plT
      refine Bg.app ?_ _
      split
      · exact ⟨112, _, rfl, by decide, by decide, by decide⟩
      · exact ⟨113, _, rfl, by decide, by decide, by decide⟩
  | .un o a, hg => by
    simp only [etx]
    split
    · exact ⟨45, _, rfl, by decide, by decide, by decide⟩
    · have := pr_one hg.1
      exact (bg_wrd (otx_call (by omega))).app _
  | .bin o a b, hg => by
    simp only [etx]
    split
    · exact (bg_wrd (otx_call (by omega))).app _
    · exact ((bg_etx hn hb a hg.2.1).brk _).app _
  | .tri o a b c, hg => by
    simp only [etx]
    split
    · exact ((bg_etx hn hb a hg.2.1).brk _).app _
    · have := pr_three hg.1
      exact (bg_wrd (otx_call (by omega))).app _

theorem tr_any {r : Txt} : Tr r := trivial
theorem ak_brk {x : Txt} {ts : List Tk} (h : AkP Fo x ts) (b : Bool) : AkP Fo (brk b x) (brK b ts) := by
  unfold brk brK
  cases b with
  | false => exact h
  | true => exact ak_lp.seq (h.seq ak_rp.tr (fun r _ => fo_cons (by decide) r)) (fun _ _ => trivial)
theorem ak_itoa {z : Int} (h0 : -2147483647 ≤ z) (h1 : z ≤ 2147483647) : AkP Fo (itoa z) (ofK z) := by
  unfold itoa ofK
  split
  · have := ak_dec (u := z.natAbs) (by omega)
    rw [show ((z.natAbs : Nat) : Int) = -z by omega] at this
    exact ak_minus.seq this (fun _ _ => trivial)
  · have := ak_dec (u := z.toNat) (by omega)
    rw [show ((z.toNat : Nat) : Int) = z by omega] at this
    exact this
theorem fo_app {c : UInt8} {t : Txt} (h : W c = false) {l : Txt} (hl : l = c :: t) (r : Txt) : Fo (l ++ r) := by
  subst hl
  exact fo_cons h _

theorem ak_plT {n : Nd} (h0 : 0 ≤ n.back ∧ n.back ≤ 2147483647) (h1 : -2147483647 ≤ n.x ∧ n.x ≤ 2147483647) (h2 : -2147483647 ≤ n.y ∧ n.y ≤ 2147483647) : AkP Fo (plT n) (plK n) := by
  have hx := ak_itoa h1.1 h1.2
  have hy := ak_itoa h2.1 h2.2
  have hend : AkP Fo ((if n.co = 2 then 44 :: itoa n.y else []) ++ [41]) ((if n.co = 2 then [.comma] ++ ofK n.y else []) ++ [.rp]) ∧ ∀ r, Fo ((if n.co = 2 then 44 :: itoa n.y else []) ++ [41] ++ r) := by
    split
    · exact ⟨(ak_comma.seq hy (fun _ _ => trivial)).seq ak_rp.tr (fun r _ => fo_cons (by decide) r), fun r => fo_cons (by decide) _⟩
    · exact ⟨ak_rp.tr, fun r => fo_cons (by decide) _⟩
  have hxe := hx.seq hend.1 (fun r _ => hend.2 r)
  unfold plT plK
  split
  · have hp : AkP Fo [112] [.word wP] := ak_wrd (by decide)
    exact AkP.seq (P := Tr) (hp.seq ak_lp (fun r _ => fo_cons (by decide) r)) hxe (fun _ _ => trivial)
  · have hq : AkP Fo [113] [.word wQ] := ak_wrd (by decide)
    have hb := ak_itoa (z := n.back) (by omega) (by omega)
    rw [show ofK n.back = [.num n.back] by unfold ofK; rw [if_neg (by omega)]] at hb
    exact AkP.seq (P := Tr) (hq.seq (ak_lp.seq (hb.seq ak_comma (fun r _ => fo_cons (by decide) r)) (fun _ _ => trivial)) (fun r _ => fo_cons (by decide) _)) hxe (fun _ _ => trivial)

theorem ak_etx {NM : List Txt} (hn : nmB NM = true) {bd : Nat} (hb : bd ≤ NM.length) : ∀ (e : E), Gd bd e → AkP Fo (etx NM e) (etk NM e)
  | .leaf n, hg => by
    obtain ⟨-, -, -, h⟩ := gd_leaf hg
    simp only [etx, etk]
    unfold leafT lfK
    split
    · have := ak_itoa (z := n.k) (by omega) (by omega)
      rwa [show ofK n.k = [.num n.k] by unfold ofK; rw [if_neg (by omega)]] at this
    split
    · exact ak_wrd (in_wrd (by omega))
    split
    · exact ak_wrd (nm_at hn (by omega)).1
    · exact ak_plT (by omega) (by omega) (by omega)
  | .un o a, hg => by
    have ha := ak_etx hn hb a hg.2
    simp only [etx, etk]
    split
    · exact ak_minus.seq (ak_brk ha _) (fun _ _ => trivial)
    · have := pr_one hg.1
      exact (ak_wrd (otx_call (by omega))).seq (ak_lp.seq (ha.seq ak_rp.tr (fun r _ => fo_cons (by decide) r)) (fun _ _ => trivial)) (fun r _ => fo_cons (by decide) _)
  | .bin o a b, hg => by
    have ha := ak_etx hn hb a hg.2.1
    have hc := ak_etx hn hb b hg.2.2
    simp only [etx, etk]
    split
    · exact (ak_wrd (otx_call (by omega))).seq (ak_lp.seq (ha.seq (ak_comma.seq (hc.seq ak_rp.tr (fun r _ => fo_cons (by decide) r)) (fun _ _ => trivial)) (fun r _ => fo_cons (by decide) _)) (fun _ _ => trivial)) (fun r _ => fo_cons (by decide) _)
    · have h2 := pr_two hg.1
      obtain ⟨k, rfl⟩ : ∃ k : Nat, o = k := ⟨o.toNat, by omega⟩
      have ho := ak_op (k := k) (by omega)
      refine (ak_brk ha _).seq (ho.seq (ak_brk hc _) (fun r _ => ((bg_etx hn hb b hg.2.2).brk _).st r)) (fun r _ => ?_)
      have : ∀ j, j < 16 → ∃ c t, otx ((8 + j : Nat) : Int) = c :: t ∧ W c = false := by
        intro j hj
        have key : ∀ j, j < 16 → otx ((8 + j : Nat) : Int) ≠ [] ∧ W ((otx ((8 + j : Nat) : Int)).headD 0) = false := by decide
        obtain ⟨h1, h2⟩ := key j hj
        cases hx : otx ((8 + j : Nat) : Int) with
        | nil => exact absurd hx h1
        | cons c t => rw [hx] at h2; exact ⟨c, t, rfl, h2⟩
      obtain ⟨c, t, h1, h2⟩ := this (k - 8) (by omega)
      rw [show 8 + (k - 8) = k by omega] at h1
      rw [h1, List.append_assoc]
      exact fo_cons h2 _
  | .tri o a b c, hg => by
    have ha := ak_etx hn hb a hg.2.1
    have hc := ak_etx hn hb b hg.2.2.1
    have hd := ak_etx hn hb c hg.2.2.2
    simp only [etx, etk]
    split
    · exact (ak_brk ha _).seq (ak_ques.seq (hc.seq (ak_colon.seq hd (fun _ _ => trivial)) (fun r _ => fo_cons (by decide) _)) (fun _ _ => trivial)) (fun r _ => fo_cons (by decide) _)
    · have := pr_three hg.1
      exact (ak_wrd (otx_call (by omega))).seq (ak_lp.seq (ha.seq (ak_comma.seq (hc.seq (ak_comma.seq (hd.seq ak_rp.tr (fun r _ => fo_cons (by decide) r)) (fun _ _ => trivial)) (fun r _ => fo_cons (by decide) _)) (fun _ _ => trivial)) (fun r _ => fo_cons (by decide) _)) (fun _ _ => trivial)) (fun r _ => fo_cons (by decide) _)

end Go.Proofs.YtodgjjkpbcadoaaGreatDoor

/-
  A tree's text is read as that tree: the grammar.
-/
namespace Go.Proofs.YtodgjjkpbcadoaaGreatDoor
open Lx Pz
open Go.Lib (decDigits itoa)
set_option linter.unusedVariables false

theorem nod_nodup {L : List Txt} (h : nodB L = true) : ∀ i j, i < L.length → j < L.length → L.getD i [] = L.getD j [] → i = j := by
  have key : ∀ (L : List Txt), nodB L = true → L.Nodup := by
    intro L h
    induction L with
    | nil => exact List.nodup_nil
    | cons a l ih =>
      simp only [nodB, Bool.and_eq_true, Bool.not_eq_true', List.contains_eq_mem, decide_eq_false_iff_not] at h
      exact List.nodup_cons.2 ⟨h.1, ih h.2⟩
  intro i j hi hj e
  rw [List.getD_eq_getElem?_getD, List.getD_eq_getElem?_getD, List.getElem?_eq_getElem hi, List.getElem?_eq_getElem hj] at e
  exact (List.getElem_inj (key L h)).1 (by simpa using e)

theorem pos_at {NM : List Txt} (hn : nmB NM = true) {bd k : Nat} (hk : k < bd) (hb : bd ≤ NM.length) : (NM.take bd).contains (NM.getD k []) = true ∧ pos (NM.take bd) (NM.getD k []) = k := by
  have hnod : nodB NM = true := by simp only [nmB, Bool.and_eq_true] at hn; exact hn.2
  have hlt : k < (NM.take bd).length := by rw [List.length_take]; omega
  have he : (NM.take bd)[k] = NM.getD k [] := by
    rw [List.getElem_take, List.getD_eq_getElem?_getD, List.getElem?_eq_getElem (by omega)]; rfl
  refine ⟨?_, ?_⟩
  · rw [List.contains_iff_mem, ← he]; exact List.getElem_mem hlt
  · unfold pos
    rw [List.findIdx_eq hlt]
    refine ⟨by rw [he]; simp, fun j hj => ?_⟩
    simp only [beq_eq_false_iff_ne]
    intro e
    rw [List.getElem_take] at e
    have := nod_nodup hnod j k (by omega) (by omega) (by rw [List.getD_eq_getElem?_getD, List.getElem?_eq_getElem (by omega)]; exact e)
    omega

theorem resv_no {s : Txt} (h : resv s = false) : s ≠ wP ∧ s ≠ wQ ∧ calO s = 0 ∧ ¬ 0 ≤ inK s ∧ s ≠ wLet := by
  simp only [resv, Bool.or_eq_false_iff, beq_eq_false_iff_ne, bne_eq_false_iff_eq, decide_eq_false_iff_not] at h
  exact ⟨h.1.1.1.2, h.1.1.2, h.1.2, h.2, h.1.1.1.1⟩

theorem off_ofK {x : Int} (r : List Tk) : off (ofK x ++ r) = some (x, r) := by
  unfold ofK
  split
  · show (if (5 = 5 ∧ (9 : Int) = 9) then some (-(-x), r) else none) = _
    rw [if_pos ⟨rfl, rfl⟩, Int.neg_neg]
  · rfl

theorem g_place {nm : List Txt} {n : Nd} (ha : n.a = 0) (hb : n.b = 0) (hc : n.c = 0) (ho : n.op = 3) (hk : n.k = 0) (hco : n.co = 2 ∨ (n.co = 1 ∧ n.y = 0)) (hba : 0 ≤ n.back) : G nm 8 (plK n) (.leaf n) := by
  have hoffs : ∀ back, offs back (ofK n.x ++ ((if n.co = 2 then [.comma] ++ ofK n.y else []) ++ [.rp])) = some (.leaf ⟨3, 0, 0, 0, 0, back, n.co, n.x, n.y⟩, []) := by
    intro back
    unfold offs
    rw [off_ofK]
    rcases hco with h | ⟨h, hy⟩
    · rw [if_pos h]
      simp only [List.cons_append, List.nil_append]
      rw [off_ofK]
      rw [h]
    · rw [if_neg (by omega)]
      simp only [List.nil_append]
      rw [h, hy]
  have he : n = ⟨3, 0, 0, 0, 0, n.back, n.co, n.x, n.y⟩ := nd_eq ho ha hb hc hk rfl rfl rfl rfl
  unfold plK
  split
  · rename_i h0
    refine G.place (s := wP) (.inl rfl) ?_
    show plc (wP == wQ) (.lp :: (ofK n.x ++ _)) = _
    rw [show (wP == wQ) = false by decide]
    simp only [plc, Bool.false_eq_true, if_false]
    rw [hoffs, he, h0]
  · rename_i h0
    refine G.place (s := wQ) (.inr rfl) ?_
    show plc (wQ == wQ) (.lp :: .num n.back :: .comma :: (ofK n.x ++ _)) = _
    rw [show (wQ == wQ) = true by decide]
    simp only [plc, if_true]
    rw [if_neg h0, hoffs]
    exact congrArg (fun z => some (E.leaf z, ([] : List Tk))) he.symm

theorem cal_otx {o : Int} (h : o = 6 ∨ o = 7 ∨ o = 24 ∨ o = 25 ∨ o = 26 ∨ o = 27) : calO (otx o) = o := by
  rcases h with rfl | rfl | rfl | rfl | rfl | rfl <;> decide

theorem lf_k {o : Int} (ho : 8 ≤ o ∧ o ≤ 23) : 1 ≤ ork o ∧ ork o ≤ 7 ∧ lefts (ork o - 1) = lfk o := by
  obtain ⟨k, rfl⟩ : ∃ k : Nat, o = k := ⟨o.toNat, by omega⟩
  have key : ∀ j, j < 16 → 1 ≤ ork ((8 + j : Nat) : Int) ∧ ork ((8 + j : Nat) : Int) ≤ 7 ∧ lefts (ork ((8 + j : Nat) : Int) - 1) = lfk ((8 + j : Nat) : Int) := by decide
  have := key (k - 8) (by omega)
  rwa [show 8 + (k - 8) = k by omega] at this

theorem rk_leaf {bd : Nat} {n : Nd} (h : Gd bd (.leaf n)) : rkE (.leaf n) = 9 := by
  obtain ⟨-, -, -, h⟩ := gd_leaf h
  have : n.op = 1 ∨ n.op = 2 ∨ n.op = 3 ∨ n.op = 4 := by omega
  simp only [rkE]
  rcases this with h | h | h | h <;> rw [h] <;> rfl

theorem g_part {nm : List Txt} {NM : List Txt} {e : E} (h : ∀ c, c ≤ 8 → c ≤ rkE e → G nm c (etk NM e) e) (c : Nat) (hc : c ≤ 8) : G nm c (brK (decide (rkE e < c)) (etk NM e)) e := by
  unfold brK
  split
  · exact G.ups (G.par (h 0 (by omega) (by omega))) hc (by omega)
  · rename_i h0
    simp only [decide_eq_true_eq] at h0
    exact h c hc (by omega)

theorem g_etk {NM : List Txt} (hn : nmB NM = true) {bd : Nat} (hb : bd ≤ NM.length) : ∀ (e : E), Gd bd e → ∀ c, c ≤ 8 → c ≤ rkE e → G (NM.take bd) c (etk NM e) e
  | .leaf n, hg, c, hc, _ => by
    refine G.ups (c := 8) ?_ hc (by omega)
    obtain ⟨ha, h1, h2, h⟩ := gd_leaf hg
    simp only [etk]
    unfold lfK
    split
    · rename_i ho
      have : n = lf 1 n.k 0 0 0 0 := by
        rcases h with h | ⟨h5, h6, h7, h8, -⟩
        · omega
        · exact nd_eq ho ha h1 h2 rfl h5 h6 h7 h8
      rw [this]
      exact G.num _
    split
    · rename_i ho1 ho
      rcases h with h | ⟨h5, h6, h7, h8, hk⟩
      · omega
      obtain ⟨k, hk2⟩ : ∃ k : Nat, n.k = k := ⟨n.k.toNat, by omega⟩
      have hk6 : k < 6 := by omega
      have e : n = lf 2 k 0 0 0 0 := nd_eq ho ha h1 h2 hk2 h5 h6 h7 h8
      rw [hk2, show ((k : Int)).toNat = k by omega, e]
      have key : ∀ k, k < 6 → (inTx.getD k [] ≠ wP ∧ inTx.getD k [] ≠ wQ ∧ calO (inTx.getD k []) = 0 ∧ inK (inTx.getD k []) = (k : Int)) := by decide
      obtain ⟨i1, i2, i3, i4⟩ := key k hk6
      refine G.word i1 i2 i3 ?_
      unfold wd
      rw [i4, if_pos (by omega)]
    split
    · rename_i ho1 ho2 ho
      rcases h with h | ⟨h5, h6, h7, h8, hk⟩
      · omega
      obtain ⟨k, hk2⟩ : ∃ k : Nat, n.k = k := ⟨n.k.toNat, by omega⟩
      have e : n = lf 4 k 0 0 0 0 := nd_eq ho ha h1 h2 hk2 h5 h6 h7 h8
      rw [hk2, show ((k : Int)).toNat = k by omega, e]
      obtain ⟨-, hr⟩ := nm_at hn (k := k) (by omega)
      obtain ⟨r1, r2, r3, r4, -⟩ := resv_no hr
      obtain ⟨p1, p2⟩ := pos_at hn (bd := bd) (k := k) (by omega) hb
      refine G.word r1 r2 r3 ?_
      unfold wd
      rw [if_neg r4, if_pos p1, p2]
    · rename_i ho1 ho2 ho
      rcases h with ⟨h3, hk, hco, hr⟩ | h
      · exact g_place ha h1 h2 h3 hk hco hr.1
      · omega
  | .un o a, hg, c, hc, hr => by
    have ha := g_etk hn hb a hg.2
    have hp := pr_one hg.1
    simp only [etk]
    split
    · rename_i ho
      subst ho
      exact G.ups (G.neg (g_part ha 8 (by omega))) hc (by omega)
    · have h1 := cal_otx (o := o) (by omega)
      have h2 : ari (calO (otx o)) = 1 := by rw [h1]; rcases hp with rfl | rfl | rfl <;> first | rfl | contradiction
      have := G.call1 h2 (ha 0 (by omega) (by omega))
      rw [h1] at this
      exact G.ups this hc (by omega)
  | .bin o a b, hg, c, hc, hr => by
    have ha := g_etk hn hb a hg.2.1
    have hbb := g_etk hn hb b hg.2.2
    have hp := pr_two hg.1
    simp only [etk]
    split
    · rename_i ho
      have h1 := cal_otx (o := o) (by omega)
      have h2 : ari (calO (otx o)) = 2 := by rw [h1]; rcases ho with rfl | rfl <;> rfl
      have := G.call2 h2 (ha 0 (by omega) (by omega)) (hbb 0 (by omega) (by omega))
      rw [h1] at this
      exact G.ups this hc (by omega)
    · obtain ⟨k1, k2, k3⟩ := lf_k (o := o) (by omega)
      have hl : lfk o ≤ 8 := by unfold lfk; split <;> omega
      have g1 := g_part ha (lfk o) hl
      have g2 := g_part hbb (ork o + 1) (by omega)
      rw [← k3] at g1
      have := G.bin (k := ork o - 1) (o := o) (by omega) g1 (by rw [show ork o - 1 + 2 = ork o + 1 by omega]; exact g2)
      rw [k3] at this
      exact G.ups (c := ork o - 1 + 1) (by simpa using this) (by simp only [rkE] at hr; omega) (by omega)
  | .tri o a b d, hg, c, hc, hr => by
    have ha := g_etk hn hb a hg.2.1
    have hbb := g_etk hn hb b hg.2.2.1
    have hd := g_etk hn hb d hg.2.2.2
    have hp := pr_three hg.1
    simp only [etk]
    split
    · rename_i ho
      subst ho
      have h0 : c = 0 := by
        have : rkE (E.tri 28 a b d) = 0 := rfl
        omega
      subst h0
      exact G.sel (g_part ha 1 (by omega)) (hbb 0 (by omega) (by omega)) (hd 0 (by omega) (by omega))
    · have h1 := cal_otx (o := o) (by omega)
      have h2 : ari (calO (otx o)) = 3 := by rw [h1]; rcases hp with rfl | rfl | rfl <;> first | rfl | contradiction
      have := G.call3 h2 (ha 0 (by omega) (by omega)) (hbb 0 (by omega) (by omega)) (hd 0 (by omega) (by omega))
      rw [h1] at this
      exact G.ups this hc (by omega)

/- whole programs -/
def letK (nm : List Txt) : List Txt → List E → List Tk
  | s :: ns, e :: es => ([.word wLet] ++ []) ++ ([.word s] ++ ([.eq] ++ (etk nm e ++ ([.semi] ++ letK nm ns es))))
  | _, _ => []
theorem letT_snoc (nm : List Txt) (s : Txt) (e : E) : ∀ (ns : List Txt) (es : List E), ns.length = es.length → letT nm (ns ++ [s]) (es ++ [e]) = letT nm ns es ++ ([108, 101, 116, 32] ++ (s ++ 61 :: (etx nm e ++ [59])))
  | [], [], _ => by simp [letT]
  | a :: ns, b :: es, h => by
    have := letT_snoc nm s e ns es (by simpa using h)
    simp only [List.cons_append, letT, this]
    simp
theorem ltT_let {NM : List Txt} {es : List E} (hl : NM.length = es.length) : ∀ k, k ≤ es.length → ltT NM es k = letT NM (NM.take k) (es.take k)
  | 0, _ => by simp [ltT, letT]
  | k + 1, h => by
    rw [ltT_succ, ltT_let hl k (by omega), List.take_succ_eq_append_getElem (by omega : k < NM.length), List.take_succ_eq_append_getElem (by omega : k < es.length), letT_snoc _ _ _ _ _ (by simp; omega)]
    rw [List.getD_eq_getElem?_getD, List.getElem?_eq_getElem (by omega), List.getD_eq_getElem?_getD, List.getElem?_eq_getElem (by omega)]
    rfl
theorem whole_let {NM : List Txt} {es : List E} {ex : E} (hl : NM.length = es.length) : whole NM es ex = letT NM NM es ++ etx NM ex := by
  unfold whole
  rw [ltT_let hl _ (Nat.le_refl _), List.take_length, ← hl, List.take_length]

theorem ak_sp : AkP Tr [32] [] := by
  intro r _
  rw [List.singleton_append, ak_blank (by decide)]
  simp
theorem ak_let {NM : List Txt} (hn : nmB NM = true) : ∀ (ns : List Txt) (es : List E) (y : Txt) (us : List Tk), (∀ s ∈ ns, wrd s = true) → (∀ e ∈ es, ∃ bd, bd ≤ NM.length ∧ Gd bd e) → AkP Fo y us → AkP Fo (letT NM ns es ++ y) (letK NM ns es ++ us)
  | [], es, y, us, _, _, hy => by simpa [letT, letK] using hy
  | s :: ns, [], y, us, _, _, hy => by simpa [letT, letK] using hy
  | s :: ns, e :: es, y, us, hs, he, hy => by
    have ih := ak_let hn ns es y us (fun x hx => hs x (by simp [hx])) (fun x hx => he x (by simp [hx])) hy
    obtain ⟨bd, h1, h2⟩ := he e (by simp)
    have hw : AkP Fo wLet [.word wLet] := ak_wrd (by decide)
    have h3 := (hw.seq ak_sp (fun r _ => fo_cons (by decide) r)).seq ((ak_wrd (hs s (by simp))).seq (ak_eq.seq ((ak_etx hn h1 e h2).seq (ak_semi.seq ih (fun _ _ => trivial)) (fun r _ => fo_cons (by decide) _)) (fun r _ => by rw [List.append_assoc]; exact (bg_etx hn h1 e h2).st _)) (fun r _ => fo_cons (by decide) _)) (fun _ _ => trivial)
    have e1 : letT NM (s :: ns) (e :: es) ++ y = wLet ++ [32] ++ (s ++ ([61] ++ (etx NM e ++ ([59] ++ (letT NM ns es ++ y))))) := by simp [letT, wLet]
    have e2 : letK NM (s :: ns) (e :: es) ++ us = [.word wLet] ++ [] ++ ([.word s] ++ ([.eq] ++ (etk NM e ++ ([.semi] ++ (letK NM ns es ++ us))))) := by simp [letK]
    rw [e1, e2]
    exact h3

theorem gp_let {NM : List Txt} (hn : nmB NM = true) {es : List E} {ex : E} (hl : NM.length = es.length) (hg : ∀ j e, es[j]? = some e → Gd j e) (hx : Gd es.length ex) :
    ∀ (m : Nat) (k : Nat), k + m = es.length → GP (NM.take k) (es.take k) (letK NM (NM.drop k) (es.drop k) ++ etk NM ex) (NM, es, ex)
  | 0, k, h => by
    rw [List.drop_of_length_le (by omega), List.drop_of_length_le (by omega), List.take_of_length_le (by omega), List.take_of_length_le (by omega)]
    have := g_etk hn (bd := es.length) (by omega) ex hx 0 (by omega) (by omega)
    rw [← hl, List.take_length] at this
    exact GP.last this
  | m + 1, k, h => by
    have ih := gp_let hn hl hg hx m (k + 1) (by omega)
    have h1 : k < NM.length := by omega
    have h2 : k < es.length := by omega
    rw [List.take_succ_eq_append_getElem h1, List.take_succ_eq_append_getElem h2] at ih
    rw [List.drop_eq_getElem_cons h1, List.drop_eq_getElem_cons h2]
    have hw := nm_wrd hn (List.getElem_mem h1)
    have hc : (NM.take k).contains NM[k] = false := by
      rw [Bool.eq_false_iff]
      intro hc
      rw [List.contains_iff_mem] at hc
      obtain ⟨j, hj, he⟩ := List.getElem_of_mem hc
      rw [List.length_take] at hj
      rw [List.getElem_take] at he
      have hnod : nodB NM = true := by simp only [nmB, Bool.and_eq_true] at hn; exact hn.2
      have := nod_nodup hnod j k (by omega) h1 (by rw [List.getD_eq_getElem?_getD, List.getD_eq_getElem?_getD, List.getElem?_eq_getElem (by omega), List.getElem?_eq_getElem h1]; exact he)
      omega
    have hgk := g_etk hn (bd := k) (by omega) es[k] (hg k _ (List.getElem?_eq_getElem h2)) 0 (by omega) (by omega)
    have := GP.bind hw.2 hc hgk ih
    simpa [letK] using this

/-- What is printed is read as the same tree. -/
theorem whole_reads {NM : List Txt} {BS : List Int} {NS : List Nd} {root : Int} {es : List E} {ex : E} (hD : Dec NM BS NS root es ex) : ∃ A, ak (whole NM es ex) = some A ∧ GP [] [] A (NM, es, ex) := by
  refine ⟨letK NM NM es ++ etk NM ex, ?_, ?_⟩
  · rw [whole_let hD.names]
    have h := ak_let hD.ok NM es (etx NM ex) (etk NM ex) (fun s hs => (nm_wrd hD.ok hs).1) (fun e he => ?_) (ak_etx hD.ok (bd := es.length) (by rw [hD.names]; omega) ex hD.gx) [] fo_nil
    · rw [List.append_nil, ak_nil] at h
      rw [h]
      simp
    · obtain ⟨j, hj, rfl⟩ := List.getElem_of_mem he
      exact ⟨j, by rw [hD.names]; omega, hD.gd j _ (List.getElem?_eq_getElem hj)⟩
  · have := gp_let hD.ok hD.names hD.gd hD.gx es.length 0 (by omega)
    simpa using this

end Go.Proofs.YtodgjjkpbcadoaaGreatDoor

/-
  No text that is read as a tree is shorter than the printed one.
-/
namespace Go.Proofs.YtodgjjkpbcadoaaGreatDoor
open Lx Pz
open Go.Lib (decDigits itoa)
set_option linter.unusedVariables false

/-- How long a token is at least. -/
def tl : Tk → Nat
  | .num v => (decDigits v.toNat).length
  | .word s => s.length
  | .op _ o => (otx o).length
  | _ => 1
def wg (l : List Tk) : Nat := (l.map tl).sum
theorem wg_nil : wg [] = 0 := rfl
theorem wg_cons (t : Tk) (l : List Tk) : wg (t :: l) = tl t + wg l := by simp [wg]
theorem wg_app (a b : List Tk) : wg (a ++ b) = wg a + wg b := by simp [wg]

def okK : Tk → Bool
  | .num v => decide (0 ≤ v)
  | .op k o => decide (8 ≤ o) && (decide (o ≤ 23) && (k + 1 == ork o))
  | _ => true
theorem okK_ab {t : Tok} (h : Wf t) : okK (ab t) = true := by
  rcases h with ⟨hk, h⟩ | ⟨hk, h⟩ | ⟨hk, h⟩
  · simp only [ab, hk, if_true, okK, decide_eq_true_eq]
    simp only [num, Bool.and_eq_true] at h
    exact vl_nonneg h.1.1.2
  · simp [ab, hk, okK]
  · have key : ∀ x ∈ marks.map (·.1), okK (mkT x) = true := by decide
    simp only [ab, hk]
    exact key _ h

theorem prp_zero (NM : List Txt) (e : E) : prp NM 0 e = etx NM e := by simp [prp, brk]
theorem prp_up {NM : List Txt} {c : Nat} {e : E} (h : c ≤ rkE e) : prp NM c e = etx NM e := by
  unfold prp brk
  rw [decide_eq_false (by omega)]
  rfl
theorem prp_mono (NM : List Txt) (c : Nat) (e : E) : (prp NM c e).length ≤ (prp NM (c + 1) e).length := by
  by_cases h : c ≤ rkE e
  · rw [prp_up h]; exact brk_len _ _
  · unfold prp brk
    rw [decide_eq_true (by omega), decide_eq_true (by omega)]
    exact Nat.le_refl _

theorem dec_itoa {v : Int} (h : 0 ≤ v) : itoa v = decDigits v.toNat := by unfold itoa; rw [if_neg (by omega)]
theorem itoa_neg {v : Int} (h : 0 ≤ v) : (itoa (-v)).length ≤ 1 + (decDigits v.toNat).length := by
  unfold itoa
  split
  · rw [show (-v).natAbs = v.toNat by omega, List.length_cons]; omega
  · rw [show (-v).toNat = v.toNat by omega]; omega

theorem off_wg {l r : List Tk} {x : Int} (h : off l = some (x, r)) (hl : l.all okK = true) : (itoa x).length + wg r ≤ wg l ∧ r.all okK = true := by
  unfold off at h
  split at h
  · cases h
    simp only [List.all_cons, okK, Bool.and_eq_true, decide_eq_true_eq] at hl
    rw [wg_cons, dec_itoa hl.1]
    exact ⟨Nat.le_refl _, hl.2⟩
  · split at h
    · rename_i hko
      cases h
      obtain ⟨rfl, rfl⟩ := hko
      simp only [List.all_cons, okK, Bool.and_eq_true, decide_eq_true_eq] at hl
      rw [wg_cons, wg_cons]
      have := itoa_neg hl.2.1
      have h1 : tl (.op 5 9) = 1 := rfl
      exact ⟨by simp only [tl] at *; omega, hl.2.2⟩
    · cases h
  · cases h
/-- A place's text behind its first number. -/
def plE (n : Nd) : Txt := itoa n.x ++ ((if n.co = 2 then 44 :: itoa n.y else []) ++ [41])
theorem offs_wg {back : Int} {l r : List Tk} {e : E} (h : offs back l = some (e, r)) (hl : l.all okK = true) : ∃ n, e = .leaf n ∧ n.op = 3 ∧ n.back = back ∧ (plE n).length + wg r ≤ wg l := by
  unfold offs at h
  split at h
  · rename_i x r0 ho
    cases h
    obtain ⟨h1, -⟩ := off_wg ho hl
    refine ⟨_, rfl, rfl, rfl, ?_⟩
    rw [wg_cons] at h1
    simp only [plE, List.length_append, tl] at *
    simp at *
    omega
  · rename_i x r0 ho
    split at h
    · rename_i y r2 hy
      cases h
      obtain ⟨h1, h2⟩ := off_wg ho hl
      simp only [List.all_cons, Bool.and_eq_true] at h2
      obtain ⟨h3, -⟩ := off_wg hy h2.2
      refine ⟨_, rfl, rfl, rfl, ?_⟩
      rw [wg_cons] at h1 h3
      simp only [plE, List.length_append, tl, if_true, List.length_cons, List.length_nil] at *
      omega
    · cases h
  · cases h
theorem plc_wg {q : Bool} {l r : List Tk} {e : E} (h : plc q l = some (e, r)) (hl : l.all okK = true) : ∃ n, e = .leaf n ∧ n.op = 3 ∧ (plT n).length + wg r ≤ 1 + wg l := by
  unfold plc at h
  split at h
  · rename_i r0
    simp only [List.all_cons, Bool.and_eq_true] at hl
    split at h
    · split at h
      · rename_i v r1
        split at h
        · cases h
        · rename_i hv
          simp only [List.all_cons, Bool.and_eq_true, okK, decide_eq_true_eq] at hl
          obtain ⟨n, rfl, h1, h2, h3⟩ := offs_wg h hl.2.2.2
          refine ⟨n, rfl, h1, ?_⟩
          have hd := dec_itoa hl.2.1
          rw [wg_cons, wg_cons, wg_cons]
          unfold plE at h3
          unfold plT
          rw [h2, if_neg hv, hd]
          simp only [tl, List.length_append, List.length_cons, List.length_nil] at *
          omega
      · cases h
    · obtain ⟨n, rfl, h1, h2, h3⟩ := offs_wg h hl.2
      refine ⟨n, rfl, h1, ?_⟩
      rw [wg_cons]
      unfold plE at h3
      unfold plT
      rw [h2, if_pos rfl]
      simp only [tl, List.length_append, List.length_cons, List.length_nil] at *
      omega
  · cases h

theorem otx_cal {s : Txt} (h : calO s ≠ 0) : otx (calO s) = s ∧ ork (calO s) = 9 ∧ (calO s = 6 ∨ calO s = 7 ∨ calO s = 24 ∨ calO s = 25 ∨ calO s = 26 ∨ calO s = 27) := by
  unfold calO at h ⊢
  split
  · subst s; decide
  split
  · subst s; decide
  split
  · subst s; decide
  split
  · subst s; decide
  split
  · subst s; decide
  split
  · subst s; decide
  · rename_i h1 h2 h3 h4 h5 h6
    rw [if_neg h1, if_neg h2, if_neg h3, if_neg h4, if_neg h5, if_neg h6] at h
    exact absurd rfl h
theorem inTx_in {s : Txt} (h : 0 ≤ inK s) : inTx.getD (inK s).toNat [] = s := by
  unfold inK at h ⊢
  split
  · subst s; decide
  split
  · subst s; decide
  split
  · subst s; decide
  split
  · subst s; decide
  split
  · subst s; decide
  split
  · subst s; decide
  · rename_i h1 h2 h3 h4 h5 h6
    rw [if_neg h1, if_neg h2, if_neg h3, if_neg h4, if_neg h5, if_neg h6] at h
    omega
theorem ari_one {s : Txt} (h : ari (calO s) = 1) : calO s = 6 ∨ calO s = 7 := by
  have h1 := (otx_cal (s := s) (ari_ne (by omega))).2.2
  rcases h1 with e | e | e | e | e | e <;> rw [e] at h ⊢ <;> first | exact .inl rfl | exact .inr rfl | exact absurd h (by decide)
theorem ari_two {s : Txt} (h : ari (calO s) = 2) : calO s = 24 ∨ calO s = 25 := by
  have h1 := (otx_cal (s := s) (ari_ne (by omega))).2.2
  rcases h1 with e | e | e | e | e | e <;> rw [e] at h ⊢ <;> first | exact .inl rfl | exact .inr rfl | exact absurd h (by decide)
theorem ari_three {s : Txt} (h : ari (calO s) = 3) : calO s = 26 ∨ calO s = 27 := by
  have h1 := (otx_cal (s := s) (ari_ne (by omega))).2.2
  rcases h1 with e | e | e | e | e | e <;> rw [e] at h ⊢ <;> first | exact .inl rfl | exact .inr rfl | exact absurd h (by decide)

theorem g_wg {nm NM : List Txt} (hp : ∀ s, nm.contains s = true → NM.getD (pos nm s) [] = s) {c : Nat} {l : List Tk} {e : E} (h : G nm c l e) : l.all okK = true → (prp NM c e).length ≤ wg l := by
  induction h with
  | @up c l e hc _ ih => intro hl; exact Nat.le_trans (prp_mono NM c e) (ih hl)
  | @sel l1 l2 l3 a b c _ _ _ ih1 ih2 ih3 =>
    intro hl
    simp only [List.all_append, List.all_cons, Bool.and_eq_true] at hl
    have h1 := ih1 hl.1
    have h2 := ih2 hl.2.2.1
    have h3 := ih3 hl.2.2.2.2
    rw [prp_zero] at h2 h3 ⊢
    simp only [etx, wg_app, wg_cons, tl, if_true]
    unfold prp at h1
    simp only [List.length_append, List.length_cons]
    omega
  | @bin k o l1 l2 a b hk _ _ ih1 ih2 =>
    intro hl
    simp only [List.all_append, List.all_cons, Bool.and_eq_true, okK, decide_eq_true_eq, beq_iff_eq] at hl
    have h1 := ih1 hl.1
    have h2 := ih2 hl.2.2
    obtain ⟨o1, o2, ho⟩ := hl.2.1
    obtain ⟨k1, k2, k3⟩ := lf_k (o := o) ⟨o1, o2⟩
    rw [show k = ork o - 1 by omega, k3] at h1
    rw [show k + 2 = ork o + 1 by omega] at h2
    rw [prp_up (by simp only [rkE]; omega)]
    simp only [etx, wg_app, wg_cons, tl]
    rw [if_neg (by omega)]
    unfold prp at h1 h2
    simp only [List.length_append]
    omega
  | @neg l a _ ih =>
    intro hl
    simp only [List.all_cons, Bool.and_eq_true] at hl
    have h1 := ih hl.2
    rw [prp_up (show 8 ≤ ork 5 by decide)]
    simp only [etx, if_true, wg_cons, List.length_cons]
    unfold prp at h1
    have : tl (.op 5 9) = 1 := rfl
    omega
  | @par l e _ ih =>
    intro hl
    simp only [List.all_cons, List.all_append, Bool.and_eq_true] at hl
    have h1 := ih hl.2.1
    rw [prp_zero] at h1
    have h2 := brk_le (decide (rkE e < 8)) (etx NM e)
    simp only [wg_cons, wg_app, wg_nil, tl]
    unfold prp
    omega
  | num v =>
    intro hl
    simp only [List.all_cons, List.all_nil, Bool.and_true, okK, decide_eq_true_eq] at hl
    rw [prp_up (show 8 ≤ ork 1 by decide)]
    simp only [etx, leafT, if_true, wg_cons, wg_nil, tl]
    rw [dec_itoa hl]
    omega
  | @word s e h1 h2 h3 h4 =>
    intro hl
    simp only [wg_cons, wg_nil, tl, Nat.add_zero]
    unfold wd at h4
    split at h4
    · rename_i hi
      cases h4
      rw [prp_up (show 8 ≤ ork 2 by decide)]
      simp only [etx, leafT]
      rw [if_neg (by decide), if_pos trivial, inTx_in hi]
      exact Nat.le_refl _
    · split at h4
      · rename_i hc
        cases h4
        rw [prp_up (show 8 ≤ ork 4 by decide)]
        simp only [etx, leafT]
        rw [if_neg (by decide), if_neg (by decide), if_pos trivial, Int.toNat_natCast, hp s hc]
        exact Nat.le_refl _
      · cases h4
  | @place s l e h1 h2 =>
    intro hl
    simp only [List.all_cons, Bool.and_eq_true] at hl
    obtain ⟨n, rfl, ho, hw⟩ := plc_wg h2 hl.2
    rw [prp_up (by simp only [rkE, ho]; decide)]
    simp only [etx, leafT, ho, wg_cons, wg_nil, tl] at *
    rw [if_neg (by decide), if_neg (by decide), if_neg (by decide)]
    have : s.length = 1 := by rcases h1 with rfl | rfl <;> rfl
    omega
  | @call1 s l a ha _ ih =>
    intro hl
    simp only [List.all_cons, List.all_append, Bool.and_eq_true] at hl
    have h1 := ih hl.2.2.1
    obtain ⟨c1, c2, -⟩ := otx_cal (ari_ne (by omega : 0 < ari (calO s)))
    have c3 := ari_one ha
    rw [prp_zero] at h1
    rw [prp_up (by simp only [rkE, c2]; decide)]
    simp only [etx, wg_cons, wg_app, wg_nil, tl]
    rw [if_neg (by omega), c1]
    simp only [List.length_append, List.length_cons, List.length_nil]
    omega
  | @call2 s l l2 a b ha _ _ ih ih2 =>
    intro hl
    simp only [List.all_cons, List.all_append, Bool.and_eq_true] at hl
    have h1 := ih hl.2.2.1
    have h2 := ih2 hl.2.2.2.2.1
    obtain ⟨c1, c2, -⟩ := otx_cal (ari_ne (by omega : 0 < ari (calO s)))
    have c3 := ari_two ha
    rw [prp_zero] at h1 h2
    rw [prp_up (by simp only [rkE, c2]; decide)]
    simp only [etx, wg_cons, wg_app, wg_nil, tl]
    rw [if_pos c3, c1]
    simp only [List.length_append, List.length_cons, List.length_nil]
    omega
  | @call3 s l l2 l3 a b c ha _ _ _ ih ih2 ih3 =>
    intro hl
    simp only [List.all_cons, List.all_append, Bool.and_eq_true] at hl
    have h1 := ih hl.2.2.1
    have h2 := ih2 hl.2.2.2.2.1
    have h3 := ih3 hl.2.2.2.2.2.2.1
    obtain ⟨c1, c2, -⟩ := otx_cal (ari_ne (by omega : 0 < ari (calO s)))
    have c3 := ari_three ha
    rw [prp_zero] at h1 h2 h3
    rw [prp_up (by simp only [rkE, c2]; decide)]
    simp only [etx, wg_cons, wg_app, wg_nil, tl]
    rw [if_neg (by omega), c1]
    simp only [List.length_append, List.length_cons, List.length_nil]
    omega

/- how long a text is at least -/
def isW : Tk → Bool
  | .word _ => true
  | _ => false
def hdW : List Tk → Bool
  | t :: _ => isW t
  | [] => false
/-- How many words stand right behind a word. -/
def adj : List Tk → Nat
  | [] => 0
  | t :: r => (if isW t && hdW r then 1 else 0) + adj r
theorem adj_cons (t : Tk) (r : List Tk) : adj r ≤ adj (t :: r) := by simp only [adj]; omega
theorem hdW_app {a : List Tk} (b : List Tk) (h : hdW a = true) : hdW (a ++ b) = true := by
  cases a with
  | nil => cases h
  | cons t a => exact h
theorem adj_app (a b : List Tk) : adj a + adj b ≤ adj (a ++ b) := by
  induction a with
  | nil => simp [adj]
  | cons t a ih =>
    simp only [List.cons_append, adj]
    cases h1 : isW t with
    | false => simp; omega
    | true =>
      cases h2 : hdW a with
      | false => simp; omega
      | true => simp [hdW_app b h2]; omega

theorem dec_len : ∀ (n : Nat) (x : Txt), x.length ≤ n → x.all D = true → x ≠ [] → (decDigits (vl x).toNat).length ≤ x.length
  | 0, x, h, _, h0 => absurd (List.length_eq_zero_iff.1 (by omega)) h0
  | n + 1, x, h, hD, h0 => by
    obtain ⟨y, c, rfl⟩ : ∃ y c, x = y ++ [c] := ⟨x.dropLast, x.getLast h0, (List.dropLast_concat_getLast h0).symm⟩
    rw [List.all_append, Bool.and_eq_true] at hD
    have hc := D_iff.1 (show D c = true by simpa using hD.2)
    have hy := vl_nonneg hD.1
    rw [vl_snoc, List.length_append, List.length_singleton]
    by_cases h10 : (10 * vl y + ((c.toNat : Int) - 48)).toNat < 10
    · rw [dec_small h10]; simp
    · rw [dec_big h10, List.length_append, List.length_singleton]
      have hne : y ≠ [] := by
        intro e
        subst e
        simp [vl] at h10
        omega
      have := dec_len n y (by rw [List.length_append] at h; simp at h; omega) hD.1 hne
      rw [show (10 * vl y + ((c.toNat : Int) - 48)).toNat / 10 = (vl y).toNat by omega]
      omega
theorem tl_le {k : Int} {x : Txt} (hf : Fm k x) (hm : may k x = true) : tl (ab ⟨k, x, 0⟩) ≤ x.length := by
  have hw : Wf ⟨k, x, 0⟩ := wf_of hf hm
  rcases hw with ⟨hk, h⟩ | ⟨hk, h⟩ | ⟨hk, h⟩
  · simp only at hk h
    simp only [ab, hk, if_true, tl]
    simp only [num, Bool.and_eq_true] at h
    exact dec_len x.length x (Nat.le_refl _) h.1.1.2 hf.1
  · simp only at hk
    simp [ab, hk, tl]
  · simp only at hk h
    have key : ∀ x ∈ marks.map (·.1), tl (mkT x) ≤ x.length := by decide
    simp only [ab, hk]
    exact key x h
theorem ab_isW {k : Int} {x : Txt} (hf : Fm k x) (hm : may k x = true) (h : isW (ab ⟨k, x, 0⟩) = true) : k = 2 := by
  have hw : Wf ⟨k, x, 0⟩ := wf_of hf hm
  rcases hw with ⟨hk, h'⟩ | ⟨hk, h'⟩ | ⟨hk, h'⟩
  · simp only at hk
    simp [ab, hk, isW] at h
  · exact hk
  · simp only at hk h'
    have key : ∀ x ∈ marks.map (·.1), isW (mkT x) = false := by decide
    simp only [ab, hk] at h
    rw [show (if (3 : Int) = 1 then Tk.num (vl x) else if (3 : Int) = 2 then Tk.word x else mkT x) = mkT x from rfl, key x h'] at h
    cases h

theorem ak_len : ∀ (n : Nat) (l : Txt), l.length ≤ n → ∀ (T : List Tk), ak l = some T → wg T + adj T ≤ l.length ∧ ((∀ d, l.head? = some d → A d = false) → hdW T = true → wg T + adj T + 1 ≤ l.length) := by
  intro n
  induction n with
  | zero =>
    intro l hl T hT
    obtain rfl : l = [] := List.length_eq_zero_iff.1 (by omega)
    rw [ak_nil] at hT
    cases hT
    exact ⟨Nat.le_refl _, fun _ h => by cases h⟩
  | succ n ih =>
    intro l hl T hT
    cases l with
    | nil =>
      rw [ak_nil] at hT
      cases hT
      exact ⟨Nat.le_refl _, fun _ h => by cases h⟩
    | cons c r =>
      simp only [List.length_cons] at hl ⊢
      by_cases h1 : bl c = true
      · rw [ak_blank h1] at hT
        have := (ih r (by omega) T hT).1
        exact ⟨by omega, fun _ _ => by omega⟩
      simp only [Bool.not_eq_true] at h1
      by_cases h2 : c = 35
      · subst h2
        rw [ak_rem] at hT
        have h3 := dropWhile_le nl r
        have := (ih _ (by omega) T hT).1
        exact ⟨by omega, fun _ _ => by omega⟩
      by_cases h3 : gd (c :: r) = true
      · rw [ak_tok h1 h2 h3] at hT
        obtain ⟨hf, hm⟩ := form_of_good (by simp) h3
        have hpos := gd_pos h3
        have htl := tl_le hf hm
        have haw := ab_isW hf hm
        have hlen : ((c :: r).take (sz (c :: r))).length + ((c :: r).drop (sz (c :: r))).length = r.length + 1 := by
          rw [← List.length_append, List.take_append_drop]; rfl
        have hdl : ((c :: r).drop (sz (c :: r))).length ≤ n := by rw [List.length_drop, List.length_cons]; omega
        cases hA : ak ((c :: r).drop (sz (c :: r))) with
        | none => rw [hA] at hT; cases hT
        | some T2 =>
          rw [hA] at hT
          cases hT
          obtain ⟨i1, i2⟩ := ih _ hdl T2 hA
          constructor
          · simp only [wg_cons, adj]
            by_cases hw : (isW (ab ⟨kd (c :: r), (c :: r).take (sz (c :: r)), 0⟩) && hdW T2) = true
            · rw [if_pos hw]
              simp only [Bool.and_eq_true] at hw
              have hk := haw hw.1
              have hc : D c = false ∧ A c = true := by
                have hk2 : (if D c = true then (1 : Int) else if A c = true then 2 else 3) = 2 := hk
                cases hDc : D c with
                | true => rw [hDc, if_pos rfl] at hk2; exact absurd hk2 (by decide)
                | false =>
                  cases hAc : A c with
                  | true => exact ⟨rfl, rfl⟩
                  | false => rw [hDc, hAc] at hk2; exact absurd hk2 (by decide)
              have hz : sz (c :: r) = rn W (c :: r) := by simp only [sz, List.headD_cons, hc.1, hc.2, if_true, Bool.false_eq_true, if_false]
              have := i2 (fun d hd => ?_) hw.2
              · omega
              · rw [hz, rn_drop] at hd
                have hW : W d = false := by
                  have := List.head?_dropWhile_not W (c :: r)
                  rw [hd] at this
                  simpa using this
                cases hAd : A d with
                | false => rfl
                | true => rw [(A_not hAd).2.2.2] at hW; cases hW
            · rw [if_neg hw]
              omega
          · intro hh hw
            exfalso
            have hk := haw hw
            have hA := hh c rfl
            have hk2 : (if D c = true then (1 : Int) else if A c = true then 2 else 3) = 2 := hk
            rw [hA] at hk2
            cases hDc : D c with
            | true => rw [hDc] at hk2; exact absurd hk2 (by decide)
            | false => rw [hDc] at hk2; exact absurd hk2 (by decide)
      · simp only [Bool.not_eq_true] at h3
        rw [ak_bad h1 h2 h3] at hT
        cases hT

theorem gp_take {nm : List Txt} {es : List E} {l : List Tk} {o : Out} (h : GP nm es l o) : nm = o.1.take nm.length ∧ es = o.2.1.take es.length := by
  induction h with
  | last _ => simp
  | @bind nm es s l1 l2 e o _ _ _ _ ih =>
    obtain ⟨h1, h2⟩ := ih
    rw [List.length_append, List.length_singleton] at h1 h2
    constructor
    · have := congrArg (List.take nm.length) h1
      rw [List.take_left, List.take_take, Nat.min_eq_left (by omega)] at this
      exact this
    · have := congrArg (List.take es.length) h2
      rw [List.take_left, List.take_take, Nat.min_eq_left (by omega)] at this
      exact this
theorem pos_take {NM : List Txt} {k : Nat} {s : Txt} (h : (NM.take k).contains s = true) : NM.getD (pos (NM.take k) s) [] = s := by
  rw [List.contains_iff_mem] at h
  have hlt : List.findIdx (fun x => x == s) (NM.take k) < (NM.take k).length := List.findIdx_lt_length_of_exists ⟨s, h, by simp⟩
  have e := List.findIdx_getElem (w := hlt)
  simp only [beq_iff_eq] at e
  unfold pos
  generalize List.findIdx (fun x => x == s) (NM.take k) = p at *
  rw [List.getElem_take] at e
  rw [List.length_take] at hlt
  rw [List.getD_eq_getElem?_getD, List.getElem?_eq_getElem (by omega)]
  exact e

theorem gp_wg {nm : List Txt} {es : List E} {l : List Tk} {o : Out} (h : GP nm es l o) : nm.length = es.length → l.all okK = true → (letT o.1 (o.1.drop nm.length) (o.2.1.drop es.length) ++ etx o.1 o.2.2).length ≤ wg l + adj l := by
  induction h with
  | @last nm es l e g =>
    intro hle hl
    have := g_wg (NM := nm) (fun s hs => by have := pos_take (NM := nm) (k := nm.length) (s := s) (by rw [List.take_length]; exact hs); rwa [List.take_length] at this) g hl
    rw [prp_zero] at this
    simp only [List.drop_length, letT, List.nil_append]
    omega
  | @bind nm es s l1 l2 e o h1 h2 g gp ih =>
    intro hle hl
    obtain ⟨t1, t2⟩ := gp_take gp
    simp only [List.all_cons, List.all_append, Bool.and_eq_true] at hl
    have ih2 := ih (by simp [hle]) hl.2.2.2.2.2
    simp only [List.length_append, List.length_singleton] at ih2 t1 t2
    have k1 : nm.length < o.1.length := by
      have := congrArg List.length t1
      rw [List.length_append, List.length_singleton, List.length_take] at this
      omega
    have k2 : es.length < o.2.1.length := by
      have := congrArg List.length t2
      rw [List.length_append, List.length_singleton, List.length_take] at this
      omega
    have e1 : nm = o.1.take nm.length ∧ o.1[nm.length] = s := by
      rw [List.take_succ_eq_append_getElem k1] at t1
      have := List.append_inj t1 (by simp; omega)
      exact ⟨this.1, by simpa using this.2.symm⟩
    have e2 : o.2.1[es.length] = e := by
      rw [List.take_succ_eq_append_getElem k2] at t2
      have := List.append_inj t2 (by simp; omega)
      simpa using this.2.symm
    have hg := g_wg (NM := o.1) (fun x hx => by rw [e1.1] at hx ⊢; exact pos_take hx) g hl.2.2.2.1
    rw [prp_zero] at hg
    rw [List.drop_eq_getElem_cons k1, List.drop_eq_getElem_cons k2, e1.2, e2]
    simp only [letT, wg_cons, wg_app, tl]
    have a1 := adj_app l1 (.semi :: l2)
    have a2 := adj_cons .semi l2
    have a3 : adj (.word wLet :: .word s :: .eq :: (l1 ++ .semi :: l2)) = 1 + adj (l1 ++ .semi :: l2) := by simp [adj, isW, hdW]
    rw [a3]
    have hwl : wLet.length = 3 := rfl
    simp only [List.length_append, List.length_cons, List.length_nil] at *
    omega

/-- No text that is read as a tree is shorter than the printed one. -/
theorem tight {l : Txt} {A : List Tk} {NM : List Txt} {es : List E} {ex : E} {T : List Tok} (hT : tks l = some T) (hg : GP [] [] (T.map ab) (NM, es, ex)) (hl : NM.length = es.length) : (whole NM es ex).length ≤ l.length := by
  obtain ⟨h1, -⟩ := ak_of hT
  have h2 := (ak_len l.length l (Nat.le_refl _) _ h1).1
  have hok : (T.map ab).all okK = true := by
    rw [List.all_map, List.all_eq_true]
    intro t ht
    exact okK_ab (tks_wf hT t ht)
  have h3 := gp_wg hg rfl hok
  rw [whole_let hl]
  simp only [List.length_nil, List.drop_zero] at h3
  omega

end Go.Proofs.YtodgjjkpbcadoaaGreatDoor

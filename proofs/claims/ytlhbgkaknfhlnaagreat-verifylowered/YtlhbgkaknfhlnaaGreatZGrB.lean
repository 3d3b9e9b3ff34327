/-
  The parts of a call, read from the left; how long expressions are.
-/
import Derived.Test.YtlhbgkaknfhlnaaGreatZGrA
import Derived.Test.YtlhbgkaknfhlnaaGreatZRplace
import Derived.Deep.Cut
namespace Pz
open Lx
set_option linter.unusedVariables false

theorem wd_leaf {nm : List Txt} {s : Txt} {e : E} (h : wd nm s = some e) : ∃ n, e = .leaf n := by
  unfold wd at h
  split at h
  · cases h; exact ⟨_, rfl⟩
  · split at h
    · cases h; exact ⟨_, rfl⟩
    · cases h
theorem g_len {nm : List Txt} {c : Nat} {l : List Tk} {e : E} (h : G nm c l e) : e.size ≤ l.length := by
  induction h with
  | up _ _ ih => exact ih
  | sel _ _ _ ih1 ih2 ih3 => simp [E.size]; omega
  | bin _ _ _ ih1 ih2 => simp [E.size]; omega
  | neg _ ih => simp [E.size]; omega
  | par _ ih => simp; omega
  | num v => simp [E.size]
  | word _ _ _ h => obtain ⟨n, rfl⟩ := wd_leaf h; simp [E.size]
  | place _ h => obtain ⟨m, -, -, ⟨n, rfl, -⟩, -⟩ := plc_split h; simp [E.size]
  | call1 _ _ ih => simp [E.size]; omega
  | call2 _ _ _ ih ih2 => simp [E.size]; omega
  | call3 _ _ _ _ ih ih2 ih3 => simp [E.size]; omega
theorem r_len {nm : List Txt} {c : Nat} {l r : List Tk} {e : E} (h : R nm (.at c) l (some (e, r))) : e.size + r.length ≤ l.length := by
  obtain ⟨p, rfl, hg⟩ := sound h e r rfl
  have := g_len hg
  rw [List.length_append]; omega

/-- The sizes, the nodes and the numbers of a call's parts. -/
def szL : List E → Nat
  | [] => 0
  | a :: es => a.size + szL es
def flL : List E → Nat → List Nd
  | [], _ => []
  | a :: es, s => a.flat s ++ flL es (s + a.size)
theorem szL_snoc (es : List E) (a : E) : szL (es ++ [a]) = szL es + a.size := by
  induction es with
  | nil => simp [szL]
  | cons b es ih => simp [szL, ih]; omega
theorem flL_snoc : ∀ (es : List E) (a : E) (s : Nat), flL (es ++ [a]) s = flL es s ++ a.flat (s + szL es)
  | [], a, s => by simp [flL, szL]
  | b :: es, a, s => by simp [flL, szL, flL_snoc es a, Nat.add_assoc]
theorem flL_len : ∀ (es : List E) (s : Nat), (flL es s).length = szL es
  | [], s => rfl
  | a :: es, s => by simp [flL, szL, E.flat_len, flL_len es]
/-- The numbers of the parts, 0 where there is none. -/
def p1 : List E → Nat → Int
  | [], _ => 0
  | a :: _, s => (s + a.size : Nat) - 1
def p2 : List E → Nat → Int
  | a :: b :: _, s => (s + a.size + b.size : Nat) - 1
  | _, _ => 0
def p3 : List E → Nat → Int
  | a :: b :: c :: _, s => (s + a.size + b.size + c.size : Nat) - 1
  | _, _ => 0
def mkE (o : Int) : List E → E
  | [a] => .un o a
  | [a, b] => .bin o a b
  | a :: b :: c :: _ => .tri o a b c
  | _ => .leaf (lf o 0 0 0 0 0)
theorem mkE_flat {o : Int} {es : List E} (h : es.length = 1 ∨ es.length = 2 ∨ es.length = 3) (s : Nat) : (mkE o es).flat s = flL es s ++ [⟨o, p1 es s, p2 es s, p3 es s, 0, 0, 0, 0, 0⟩] ∧ (mkE o es).size = szL es + 1 := by
  match es, h with
  | [a], _ => simp [mkE, E.flat, E.size, flL, szL, p1, p2, p3]
  | [a, b], _ => simp [mkE, E.flat, E.size, flL, szL, p1, p2, p3]
  | [a, b, c], _ => simp [mkE, E.flat, E.size, flL, szL, p1, p2, p3, Nat.add_assoc]
  | [], h => simp at h
  | _ :: _ :: _ :: _ :: _, h => simp at h

/-- So many parts have been read. -/
inductive AR (nm : List Txt) (l0 : List Tk) : List E → List Tk → Prop
  | nil : AR nm l0 [] l0
  | one {a : E} {r : List Tk} : R nm (.at 0) l0 (some (a, r)) → AR nm l0 [a] r
  | more {es : List E} {a : E} {l r : List Tk} : es ≠ [] → AR nm l0 es (.comma :: l) → R nm (.at 0) l (some (a, r)) → AR nm l0 (es ++ [a]) r

theorem AR.len {nm : List Txt} {l0 : List Tk} {es : List E} {l : List Tk} (h : AR nm l0 es l) : szL es + l.length ≤ l0.length := by
  induction h with
  | nil => simp [szL]
  | one h => have := r_len h; simp [szL]; omega
  | more _ _ h ih => have := r_len h; rw [szL_snoc]; simp at ih; omega
theorem AR.nil_inv {nm : List Txt} {l0 l : List Tk} (h : AR nm l0 [] l) : l = l0 := by
  generalize hx : ([] : List E) = x at h
  cases h with
  | nil => rfl
  | one _ => cases hx
  | more _ _ _ => simp at hx
theorem AR.one_inv {nm : List Txt} {l0 l : List Tk} {a : E} (h : AR nm l0 [a] l) : R nm (.at 0) l0 (some (a, l)) := by
  generalize hx : [a] = x at h
  cases h with
  | nil => cases hx
  | one h => cases hx; exact h
  | @more es a' _ _ h1 _ _ =>
    cases es with
    | nil => exact absurd rfl h1
    | cons b es => simp at hx
theorem AR.two_inv {nm : List Txt} {l0 l : List Tk} {a b : E} (h : AR nm l0 [a, b] l) : ∃ r, R nm (.at 0) l0 (some (a, .comma :: r)) ∧ R nm (.at 0) r (some (b, l)) := by
  generalize hx : [a, b] = x at h
  cases h with
  | nil => cases hx
  | one h => cases hx
  | @more es a' _ _ h1 h2 h3 =>
    match es, hx, h2 with
    | [], hx, _ => simp at hx
    | [c], hx, h2 => simp at hx; obtain ⟨rfl, rfl⟩ := hx; exact ⟨_, h2.one_inv, h3⟩
    | _ :: _ :: _, hx, _ => simp at hx
theorem AR.three_inv {nm : List Txt} {l0 l : List Tk} {a b c : E} (h : AR nm l0 [a, b, c] l) : ∃ r r2, R nm (.at 0) l0 (some (a, .comma :: r)) ∧ R nm (.at 0) r (some (b, .comma :: r2)) ∧ R nm (.at 0) r2 (some (c, l)) := by
  generalize hx : [a, b, c] = x at h
  cases h with
  | nil => cases hx
  | one h => cases hx
  | @more es a' _ _ h1 h2 h3 =>
    match es, hx, h2 with
    | [], hx, _ => simp at hx
    | [_], hx, _ => simp at hx
    | [c, d], hx, h2 => simp at hx; obtain ⟨rfl, rfl, rfl⟩ := hx; obtain ⟨r, h4, h5⟩ := h2.two_inv; exact ⟨_, _, h4, h5, h3⟩
    | _ :: _ :: _ :: _, hx, _ => simp at hx

theorem eat_no {t : Tk} {a : E} {l : List Tk} (h : l.head? ≠ some t) : eat t (some (a, l)) = none := by
  unfold eat
  split
  · rename_i heq
    cases heq
    split
    · rename_i hk; subst hk; exact absurd rfl h
    · rfl
  · rfl

/-- A comma is missing. -/
theorem AR.no_comma {nm : List Txt} {l0 l : List Tk} {es : List E} (h : AR nm l0 es l) {s : Txt} (h0 : 0 < es.length) (h1 : es.length < ari (calO s)) (hc : l.head? ≠ some .comma) : R nm (.at 8) (.word s :: .lp :: l0) none := by
  have h3 : ari (calO s) ≤ 3 := by
    have := calO_ari (ari_ne (by omega : 0 < ari (calO s))); omega
  match es, h with
  | [], _ => simp at h0
  | [a], h => exact R.calln (by simp at h1; omega) h.one_inv (eat_no hc)
  | [a, b], h =>
    obtain ⟨r, h4, h5⟩ := h.two_inv
    exact R.call3n (by simp at h1; omega) h4 (eat_mk _ _ _) h5 (eat_no hc)
  | _ :: _ :: _ :: _, _ => simp at h1; omega
/-- A part is none. -/
theorem AR.no_part {nm : List Txt} {l0 l : List Tk} {es : List E} (h : AR nm l0 es l) {s : Txt} (h1 : es.length < ari (calO s)) {l' : List Tk} (hl : (es = [] ∧ l' = l) ∨ (es ≠ [] ∧ l = .comma :: l')) (hr : R nm (.at 0) l' none) : R nm (.at 8) (.word s :: .lp :: l0) none := by
  have h3 := calO_ari (ari_ne (by omega : 0 < ari (calO s)))
  match es, h with
  | [], h =>
    have hl' : l' = l0 := by
      rcases hl with ⟨-, e⟩ | ⟨e, -⟩
      · rw [e]; exact h.nil_inv
      · exact absurd rfl e
    subst hl'
    rcases h3 with h3 | h3
    · have := R.call1 h3 hr; exact this
    · exact R.calln (by omega) hr rfl
  | [a], h =>
    obtain rfl : l = .comma :: l' := by
      rcases hl with ⟨e, -⟩ | ⟨-, e⟩
      · cases e
      · exact e
    simp at h1
    rcases h3 with h3 | h3 | h3
    · omega
    · have := R.call2 h3 h.one_inv (eat_mk _ _ _) hr; exact this
    · exact R.call3n h3 h.one_inv (eat_mk _ _ _) hr rfl
  | [a, b], h =>
    obtain rfl : l = .comma :: l' := by
      rcases hl with ⟨e, -⟩ | ⟨-, e⟩
      · cases e
      · exact e
    simp at h1
    obtain ⟨r, h4, h5⟩ := h.two_inv
    have := R.call3 (s := s) (by omega) h4 (eat_mk _ _ _) h5 (eat_mk _ _ _) hr
    exact this
  | _ :: _ :: _ :: _, _ => simp at h1; omega
/-- All parts have been read. -/
theorem AR.ends {nm : List Txt} {l0 l : List Tk} {es : List E} (h : AR nm l0 es l) {s : Txt} (h0 : 0 < es.length) (h1 : es.length = ari (calO s)) : R nm (.at 8) (.word s :: .lp :: l0) ((eat .rp (some (mkE (calO s) es, l)))) := by
  have h3 : ari (calO s) ≤ 3 := by
    have := calO_ari (ari_ne (by omega : 0 < ari (calO s))); omega
  have key : ∀ (f : E → E) (a : E), Option.map (fun p : E × List Tk => (f p.1, p.2)) (eat .rp (some (a, l))) = eat .rp (some (f a, l)) := by
    intro f a
    cases l with
    | nil => rfl
    | cons t l =>
      simp only [eat]
      split <;> rfl
  match es, h with
  | [], _ => simp at h0
  | [a], h =>
    have := R.call1 (nm := nm) h1.symm h.one_inv
    unfold mapU at this
    rw [key (fun e => .un (calO s) e)] at this
    exact this
  | [a, b], h =>
    obtain ⟨r, h4, h5⟩ := h.two_inv
    have := R.call2 (nm := nm) h1.symm h4 (eat_mk _ _ _) h5
    unfold mapB at this
    rw [key (fun e => .bin (calO s) a e)] at this
    exact this
  | [a, b, c], h =>
    obtain ⟨r, r2, h4, h5, h6⟩ := h.three_inv
    have := R.call3 (nm := nm) h1.symm h4 (eat_mk _ _ _) h5 (eat_mk _ _ _) h6
    unfold mapT at this
    rw [key (fun e => .tri (calO s) a b e)] at this
    exact this
  | _ :: _ :: _ :: _ :: _, _ => simp at h1; omega

end Pz

/-
  The reader of package parse: call, given what choice comes to on fewer tokens.
-/
namespace Go.Proofs.YtlhbgkaknfhlnaaGreat
open Go.RowKit Go.IntWalk Lx Pz
set_option linter.unusedVariables false

/-- What choice comes to, on fewer than n tokens. -/
def CH (w : World) (b : Nat) (NM : List Txt) (BS : List Int) (n : Nat) : Prop := ∀ (W : World) (m : Mm) (T : List Tok) (NS : List Nd), T.length < n → NS.length + T.length ≤ 2000 → Rd w W b m T NM BS NS →
  Calls Tryz.prog 50 #[ptr b] W fun e W' => ∃ res, R NM (.at 0) (T.map ab) res ∧ Ok w W b T NM BS NS res e W'

theorem ari_arZ {s : Txt} (h : calO s ≠ 0) : arZ (calO s) = (ari (calO s) : Int) := by
  unfold calO at h ⊢
  split
  · rfl
  split
  · rfl
  split
  · rfl
  split
  · rfl
  split
  · rfl
  split
  · rfl
  · rename_i h1 h2 h3 h4 h5 h6
    rw [if_neg h1, if_neg h2, if_neg h3, if_neg h4, if_neg h5, if_neg h6] at h
    exact absurd rfl h

/-- The numbers of the parts, es they lie. -/
abbrev prt (es : List E) (s : Nat) : Array Value := #[.int .i64 (p1 es s), .int .i64 (p2 es s), .int .i64 (p3 es s)]
theorem prt_snoc {es : List E} (h : es.length < 3) (a : E) (s : Nat) : (prt es s).setIfInBounds es.length (.int .i64 ((s + szL es + a.size : Nat) - 1 : Int)) = prt (es ++ [a]) s := by
  match es, h with
  | [], _ => simp [prt, p1, p2, p3, szL]
  | [b], _ => simp [prt, p1, p2, p3, szL]
  | [b, c], _ => simp [prt, p1, p2, p3, szL, Nat.add_assoc]
  | _ :: _ :: _ :: _, h => simp at h; omega

set_option maxRecDepth 100000 in
set_option maxHeartbeats 4000000 in
theorem call_rd {w W : World} {b n : Nat} {m : Mm} {T : List Tok} {NM : List Txt} {BS : List Int} {NS : List Nd} (hch : CH w b NM BS n) (h : Rd w W b m T NM BS NS) (hT : T.length ≤ n) (hN : NS.length + T.length ≤ 1999) (s : Txt) (hs : calO s ≠ 0) :
    Calls Tryz.prog 165 #[ptr b, .int .i64 (calO s)] W fun e W' => ∃ res, R NM (.at 8) (.word s :: T.map ab) res ∧ Ok w W b T NM BS NS res e W' := by
  have HC := hide hch
  have HS := hide hs
  have hw := hide h.wf
  have HA := hide fun V => arity_any (calO s) V
  rw [ari_arZ hs] at HA
  have HAR := hide (calO_ari hs)
  have HP0 := hide (Pl.begin h 135 (prt [] NS.length))
  obtain ⟨o, ho⟩ : ∃ o, calO s = o := ⟨_, rfl⟩
  obtain ⟨A, hA⟩ : ∃ A, ari (calO s) = A := ⟨_, rfl⟩
  have HO := hide ho
  have HAA := hide hA
  rw [hA] at HA HAR
  rw [ho] at HA ⊢
  have hA3 : A ≤ 3 := by have := HAR.out; omega
  have hA1 : 1 ≤ A := by have := HAR.out; omega
  clear h hs ho hA hch
  go_enter Tryz.func165, Tryz.ntmps165
  go_upto_region 2 with fail
  obtain ⟨q, hq⟩ : ∃ q, W.heap.size = q := ⟨_, rfl⟩
  rw [hq] at HP0 ⊢
  generalize hV0 : W.alloc (.cells (prt [] NS.length) 135) = V0 at HP0
  rw [show W.alloc (.cells #[.int .i64 0, .int .i64 0, .int .i64 0] 135) = V0 from hV0]
  clear hq hV0
  obtain ⟨m0, hm0⟩ := HP0.out.rd
  have HM0 := hide hm0
  clear hm0
  by_cases hl : (T.map ab).head? = some .lp
  · obtain ⟨t1, T1, rfl, h1⟩ := hd_cons hl
    have hs1 := hide ((text_iff (hw.out t1 (by simp)) (s := [40]) (by decide)).2 h1)
    have H1 := hide (show (t1 :: T1).map ab = .lp :: T1.map ab by rw [List.map_cons, h1])
    rw [List.length_cons] at hT hN
    clear hl h1 hw
    go_wp2_with fail
    refine (need_yes HM0.out _ hs1.out).mono ?_
    rintro e V1 ⟨rfl, hR, hk⟩
    have HP := hide (HP0.out.step (by decide) hR hk)
    clear hR hk HP0 HM0
    go_wp2_with fail
    refine (HA.out _).mono ?_
    rintro e V2 ⟨rfl, rfl⟩
    go_wp2_with fail
    go_loopw [11] (fun k V => ∃ (i : Nat) (es : List E) (P T' : List Tok), i ≤ A ∧ k = .int .i64 i ∧ Hid (es.length = i) ∧ Hid (T1 = P ++ T') ∧ Hid (AR NM (T1.map ab) es (T'.map ab)) ∧ Hid (Pl w W V b T' NM BS (NS ++ flL es NS.length) q 135 (prt es NS.length))) (fun k _ => A - (intOf k).toNat)
    case atStart => exact ⟨0, [], [], T1, by omega, rfl, hide rfl, hide rfl, hide AR.nil, hide (by simpa [flL] using HP.out)⟩
    case round =>
      obtain ⟨i, es, P, T', hi, rfl, HL, HT, HR, HPl⟩ := hrel
      have HLn := hide HR.out.len
      have hTl : T'.length ≤ T1.length := by rw [HT.out, List.length_append]; omega
      rename World => V3
      obtain ⟨m3, hm3⟩ := HPl.out.rd
      have HM3 := hide hm3
      have hw3 := hide hm3.wf
      clear hm3
      by_cases hlt : i < A
      · have hlt3 : i < 3 := by omega
        by_cases h0 : i = 0
        · subst h0
          have hes : es = [] := List.length_eq_zero_iff.1 HL.out
          have HE := hide hes
          clear hes
          go_wp2_with fail
          refine (HC.out V3 m3 T' (NS ++ flL es NS.length) (by omega) (by rw [List.length_append, flL_len]; have := HLn.out; simp at this; omega) HM3.out).mono ?_
          rintro e V5 ⟨res, hres, (⟨rfl, rfl, hb⟩ | ⟨a, P5, T5, rfl, hsp, rfl, hR, hk⟩)⟩
          · have HB := hide hb
            have HN := hide hres
            clear hb hres
            go_wp2_with fail
            exact ⟨rfl, none, by rw [H1.out]; exact HR.out.no_part (by rw [HAA.out, HL.out]; exact hlt) (.inl ⟨HE.out, rfl⟩) HN.out, .inl ⟨rfl, rfl, HB.out⟩⟩
          · have HRES := hide hres
            have HSP := hide hsp
            have HP5 := hide (HPl.out.step (by decide) hR hk)
            have e5 : (NS ++ flL es NS.length).length = NS.length + szL es := by rw [List.length_append, flL_len]
            rw [e5, List.append_assoc, ← flL_snoc] at HP5
            rw [e5]
            obtain ⟨d0, d1, d2⟩ := facts3 HP5.out.va
            obtain ⟨y0, y1, y2⟩ := free3 HP5.out.va
            have HP6 := hide (HP5.out.store (by decide) es.length (.int .i64 ((NS.length + szL es + a.size : Nat) - 1 : Int)))
            rw [prt_snoc (by rw [HL.out]; omega), HL.out] at HP6
            generalize (((NS.length + szL es + a.size : Nat) : Int) - 1) = z at HP6 ⊢
            clear hR hk hres hsp e5
            go_upto_region 9 with fail
            generalize V5.setCell ⟨q, 0, none⟩ (.int .i64 z) = V6 at HP6 ⊢
            clear d0 d1 d2 y0 y1 y2
            go_wp2_with fail
            go_roundw
            case rel => exact ⟨1, es ++ [a], P ++ P5, T5, by omega, rfl, hide (by simp [HL.out]), hide (by rw [HT.out, HSP.out, List.append_assoc]), hide (by rw [HE.out] at HR ⊢; rw [← HR.out.nil_inv]; exact AR.one HRES.out), HP6⟩
            case measure => simp [intOf]; omega
        · have hpos : (0 : Int) < i := by omega
          have HNE := hide (show es ≠ [] from fun e => by have := HL.out; rw [e] at this; simp at this; omega)
          by_cases hc : (T'.map ab).head? = some .comma
          · obtain ⟨t4, T4, rfl, h4⟩ := hd_cons hc
            have hs4 := hide ((text_iff (hw3.out t4 (by simp)) (s := [44]) (by decide)).2 h4)
            have H4 := hide (show (t4 :: T4).map ab = .comma :: T4.map ab by rw [List.map_cons, h4])
            rw [List.length_cons] at hTl
            clear hc h4 hw3 h0
            go_wp2_with fail
            refine (need_yes HM3.out _ hs4.out).mono ?_
            rintro e V4 ⟨rfl, hR, hk⟩
            have HP4 := hide (HPl.out.step (by decide) hR hk)
            clear hR hk HPl HM3
            obtain ⟨m4, hm4⟩ := HP4.out.rd
            have HM4 := hide hm4
            clear hm4
            go_wp2_with fail
            refine (HC.out V4 m4 T4 (NS ++ flL es NS.length) (by omega) (by rw [List.length_append, flL_len]; have := HLn.out; simp at this; omega) HM4.out).mono ?_
            rintro e V5 ⟨res, hres, (⟨rfl, rfl, hb⟩ | ⟨a, P5, T5, rfl, hsp, rfl, hR, hk⟩)⟩
            · have HB := hide hb
              have HN := hide hres
              clear hb hres
              go_wp2_with fail
              exact ⟨rfl, none, by rw [H1.out]; exact HR.out.no_part (by rw [HAA.out, HL.out]; exact hlt) (.inr ⟨HNE.out, H4.out⟩) HN.out, .inl ⟨rfl, rfl, HB.out⟩⟩
            · have HRES := hide hres
              have HSP := hide hsp
              have HP5 := hide (HP4.out.step (by decide) hR hk)
              have e5 : (NS ++ flL es NS.length).length = NS.length + szL es := by rw [List.length_append, flL_len]
              rw [e5, List.append_assoc, ← flL_snoc] at HP5
              rw [e5]
              obtain ⟨d0, d1, d2⟩ := facts3 HP5.out.va
              obtain ⟨y0, y1, y2⟩ := free3 HP5.out.va
              have HP6 := hide (HP5.out.store (by decide) es.length (.int .i64 ((NS.length + szL es + a.size : Nat) - 1 : Int)))
              rw [prt_snoc (by rw [HL.out]; omega), HL.out] at HP6
              generalize (((NS.length + szL es + a.size : Nat) : Int) - 1) = z at HP6 ⊢
              clear hR hk hres hsp e5
              have hi0 : (0 : Int) ≤ i := by omega
              have hi3 : (i : Int) < 3 := by omega
              have hlt2 : i < 3 := by omega
              have HC5 := hide HP5.out.va
              have di : ∃ u, V5.cell? ⟨q, i, none⟩ = some u := by
                rcases (show i = 0 ∨ i = 1 ∨ i = 2 by omega) with rfl | rfl | rfl
                · exact ⟨_, d0⟩
                · exact ⟨_, d1⟩
                · exact ⟨_, d2⟩
              obtain ⟨u, di⟩ := di
              have yi : V5.frozen? ⟨q, i, none⟩ = false := HC5.out.frozen i
              clear d0 d1 d2 y0 y1 y2
              go_upto_region 9 with fail
              generalize V5.setCell ⟨q, i, none⟩ (.int .i64 z) = V6 at HP6 ⊢
              clear di yi
              go_wp2_with fail
              go_roundw
              case rel => exact ⟨i + 1, es ++ [a], P ++ t4 :: P5, T5, by omega, by go_num, hide (by simp [HL.out]), hide (by rw [HT.out, HSP.out]; simp), hide (AR.more HNE.out (by rw [← H4.out]; exact HR.out) HRES.out), HP6⟩
              case measure => simp [intOf]; omega
          · have hs4 := hide (hd_ne (s := [44]) hw3.out (by decide) hc)
            have HCM := hide hc
            clear hc hw3 h0
            go_wp2_with fail
            refine (need_no HM3.out _ hs4.out).mono ?_
            rintro e V4 ⟨rfl, hb⟩
            have HB := hide (bel HM3.out.old hb)
            clear hb
            go_wp2_with fail
            exact ⟨rfl, none, by rw [H1.out]; exact HR.out.no_comma (by rw [HL.out]; omega) (by rw [HAA.out, HL.out]; exact hlt) HCM.out, .inl ⟨rfl, rfl, HB.out⟩⟩
      · obtain rfl : i = A := by omega
        by_cases hr : (T'.map ab).head? = some .rp
        · obtain ⟨t8, T8, rfl, h8⟩ := hd_cons hr
          have hs8 := hide ((text_iff (hw3.out t8 (by simp)) (s := [41]) (by decide)).2 h8)
          have H8 := hide (show (t8 :: T8).map ab = .rp :: T8.map ab by rw [List.map_cons, h8])
          clear hr h8 hw3
          go_wp2_with fail
          refine (need_yes HM3.out _ hs8.out).mono ?_
          rintro e V8 ⟨rfl, hR, hk⟩
          have HP8 := hide (HPl.out.step (by decide) hR hk)
          clear hR hk HPl HM3
          obtain ⟨m8, hm8⟩ := HP8.out.rd
          have HM8 := hide hm8
          clear hm8
          obtain ⟨d0, d1, d2⟩ := facts3 HP8.out.va
          go_wp2_with fail
          refine (node_any HM8.out ⟨o, p1 es NS.length, p2 es NS.length, p3 es NS.length, 0, 0, 0, 0, 0⟩ (by rw [List.length_append, flL_len]; have := HLn.out; simp at this; omega)).mono ?_
          rintro e V9 ⟨rfl, hR, hk⟩
          have hfl := mkE_flat (o := o) (es := es) (by rw [HL.out]; exact HAR.out) NS.length
          rw [List.append_assoc, ← hfl.1] at hR
          have HZ := hide hfl.2
          have HR9 := hide hR
          have HK9 := hide (HP8.out.kp.trans hk)
          rw [show (NS ++ flL es NS.length).length = NS.length + szL es by rw [List.length_append, flL_len]]
          clear hR hk d0 d1 d2 hfl
          go_wp2_with fail
          go_ret
          refine ⟨some (mkE o es, T8.map ab), ?_, .inr ⟨mkE o es, t1 :: (P ++ [t8]), T8, rfl, by rw [HT.out]; simp, ret_int (by rw [HZ.out]; omega), HR9.out, HK9.out⟩⟩
          have := HR.out.ends (s := s) (by rw [HL.out]; omega) (by rw [HL.out, HAA.out])
          rw [H8.out, eat_mk, HO.out] at this
          rw [H1.out]
          exact this
        · have hs8 := hide (hd_ne (s := [41]) hw3.out (by decide) hr)
          have HRP := hide hr
          clear hr hw3
          go_wp2_with fail
          refine (need_no HM3.out _ hs8.out).mono ?_
          rintro e V8 ⟨rfl, hb⟩
          have HB := hide (bel HM3.out.old hb)
          clear hb
          go_wp2_with fail
          refine ⟨rfl, none, ?_, .inl ⟨rfl, rfl, HB.out⟩⟩
          have := HR.out.ends (s := s) (by rw [HL.out]; omega) (by rw [HL.out, HAA.out])
          rw [eat_no HRP.out] at this
          rw [H1.out]
          exact this
  · have hs1 := hide (hd_ne (s := [40]) hw.out (by decide) hl)
    have HL := hide hl
    clear hl hw
    go_wp2_with fail
    refine (need_no HM0.out _ hs1.out).mono ?_
    rintro e V1 ⟨rfl, hb⟩
    have HB := hide (bel HM0.out.old hb)
    clear hb
    go_wp2_with fail
    exact ⟨rfl, none, R.callx HS.out HL.out, .inl ⟨rfl, rfl, HB.out⟩⟩

end Go.Proofs.YtlhbgkaknfhlnaaGreat

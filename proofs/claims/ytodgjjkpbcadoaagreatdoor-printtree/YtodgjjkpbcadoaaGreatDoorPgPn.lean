/-
  What Print answers.
-/
import Derived.Test.YtodgjjkpbcadoaaGreatDoorNdW
import Derived.Test.YtodgjjkpbcadoaaGreatDoorGr5P
namespace Go.Proofs.YtodgjjkpbcadoaaGreatDoor
open Go.RowKit Go.IntWalk Lx Pz Go.Sort
set_option linter.unusedVariables false

theorem gd_op {bd : Nat} {e : E} (h : Gd bd e) : 1 ≤ opE e ∧ opE e ≤ 28 := by
  cases e with
  | leaf n => have := gd_leaf h; simp only [opE]; omega
  | un o a => have := pr_one h.1; simp only [opE]; omega
  | bin o a b => have := pr_two h.1; simp only [opE]; omega
  | tri o a b c => have := pr_three h.1; simp only [opE]; omega

theorem nd_eq {n : Nd} {op a b c k back co x y : Int} (h0 : n.op = op) (h1 : n.a = a) (h2 : n.b = b) (h3 : n.c = c) (h4 : n.k = k) (h5 : n.back = back) (h6 : n.co = co) (h7 : n.x = x) (h8 : n.y = y) : n = ⟨op, a, b, c, k, back, co, x, y⟩ := by
  cases n; simp_all

theorem xnode_any {w : World} {t : Tv} {NM : List Txt} {BS : List Int} {NS : List Nd} {root : Int} {b : Nat} (hE : Env w t NM BS NS root) {bd : Nat} (hbd : bd ≤ NM.length) : ∀ (e : E), Gd bd e → NodeC w t b NM NS e
  | .leaf n, hg => by
    intro W out i hP hL hlen
    obtain ⟨ha, hb, hc, h⟩ := gd_leaf hg
    rcases h with ⟨ho, hk, -, hr⟩ | ⟨h5, h6, h7, h8, ⟨ho, hk⟩ | ⟨ho, hk⟩ | ⟨ho, hk⟩⟩
    · have e : n = ⟨3, 0, 0, 0, 0, n.back, n.co, n.x, n.y⟩ := nd_eq ho ha hb hc hk rfl rfl rfl rfl
      have ht : etx NM (.leaf n) = plT n := by simp only [etx, leafT, ho]; rfl
      rw [ht] at hlen ⊢
      have hi : NS[i]? = some n := hL
      rw [e] at hi hlen ⊢
      exact xnode_3 hE n.back n.co n.x n.y ⟨hr.1, hr.2.1⟩ ⟨hr.2.2.1, hr.2.2.2.1⟩ ⟨hr.2.2.2.2.1, hr.2.2.2.2.2⟩ W out i hP hi hlen
    · have e : n = ⟨1, 0, 0, 0, n.k, 0, 0, 0, 0⟩ := nd_eq ho ha hb hc rfl h5 h6 h7 h8
      have ht : etx NM (.leaf n) = Lib.itoa n.k := by simp only [etx, leafT, ho]; rfl
      rw [ht] at hlen ⊢
      have hi : NS[i]? = some n := hL
      rw [e] at hi
      exact xnode_1 hE n.k hk W out i hP hi hlen
    · obtain ⟨k, hk2⟩ : ∃ k : Nat, n.k = k := ⟨n.k.toNat, by omega⟩
      have e : n = ⟨2, 0, 0, 0, ((k : Nat) : Int), 0, 0, 0, 0⟩ := nd_eq ho ha hb hc hk2 h5 h6 h7 h8
      have ht : etx NM (.leaf n) = inTx.getD k [] := by simp only [etx, leafT, ho, hk2]; rfl
      rw [ht] at hlen ⊢
      have hi : NS[i]? = some n := hL
      rw [e] at hi
      exact xnode_2 hE k (by omega) W out i hP hi hlen
    · obtain ⟨k, hk2⟩ : ∃ k : Nat, n.k = k := ⟨n.k.toNat, by omega⟩
      have e : n = ⟨4, 0, 0, 0, ((k : Nat) : Int), 0, 0, 0, 0⟩ := nd_eq ho ha hb hc hk2 h5 h6 h7 h8
      have ht : etx NM (.leaf n) = NM.getD k [] := by simp only [etx, leafT, ho, hk2]; rfl
      rw [ht] at hlen ⊢
      have hi : NS[i]? = some n := hL
      rw [e] at hi
      exact xnode_4 hE k (by omega) W out i hP hi hlen
  | .un o x, hg => by
    intro W out i hP hL hlen
    have hx := xnode_any (b := b) hE hbd x hg.2
    obtain ⟨p, hi, lx⟩ := hL
    rcases pr_one hg.1 with rfl | rfl | rfl
    · exact xnode_5 hE hx (gd_op hg.2) p lx W out i hP hi hlen
    · exact xnode_6 hE hx p lx W out i hP hi hlen
    · exact xnode_7 hE hx p lx W out i hP hi hlen
  | .bin o x y, hg => by
    intro W out i hP hL hlen
    have hx := xnode_any (b := b) hE hbd x hg.2.1
    have hy := xnode_any (b := b) hE hbd y hg.2.2
    obtain ⟨p, q, hi, lx, ly⟩ := hL
    have ho := pr_two hg.1
    by_cases h24 : o = 24
    · subst h24; exact xnode_24 hE hx hy p q lx ly W out i hP hi hlen
    by_cases h25 : o = 25
    · subst h25; exact xnode_25 hE hx hy p q lx ly W out i hP hi hlen
    obtain ⟨k, rfl⟩ : ∃ k : Nat, o = k := ⟨o.toNat, by omega⟩
    exact xnode_k hE k (by omega) hx hy (gd_op hg.2.1) (gd_op hg.2.2) p q lx ly W out i hP hi hlen
  | .tri o x y z, hg => by
    intro W out i hP hL hlen
    have hx := xnode_any (b := b) hE hbd x hg.2.1
    have hy := xnode_any (b := b) hE hbd y hg.2.2.1
    have hz := xnode_any (b := b) hE hbd z hg.2.2.2
    obtain ⟨p, q, r, hi, lx, ly, lz⟩ := hL
    rcases pr_three hg.1 with rfl | rfl | rfl
    · exact xnode_26 hE hx hy hz p q r lx ly lz W out i hP hi hlen
    · exact xnode_27 hE hx hy hz p q r lx ly lz W out i hP hi hlen
    · exact xnode_28 hE hx hy hz (gd_op hg.2.1) p q r lx ly lz W out i hP hi hlen

/-- The lets of the first k names. -/
def ltT (NM : List Txt) (es : List E) (k : Nat) : Txt := (List.range k).flatMap fun j => [108, 101, 116, 32] ++ (NM.getD j [] ++ 61 :: (etx NM (es.getD j z0) ++ [59]))
theorem ltT_succ (NM : List Txt) (es : List E) (k : Nat) : ltT NM es (k + 1) = ltT NM es k ++ ([108, 101, 116, 32] ++ (NM.getD k [] ++ 61 :: (etx NM (es.getD k z0) ++ [59]))) := by simp [ltT, List.range_succ]
theorem ltT_mono (NM : List Txt) (es : List E) {k n : Nat} (h : k ≤ n) : (ltT NM es k).length ≤ (ltT NM es n).length := by
  induction n with
  | zero => rw [show k = 0 by omega]; exact Nat.le_refl _
  | succ n ih =>
    by_cases e : k = n + 1
    · rw [e]; exact Nat.le_refl _
    · rw [ltT_succ, List.length_append]; have := ih (by omega); omega

set_option maxHeartbeats 8000000 in
set_option maxRecDepth 100000 in
theorem xprogram_any {w : World} {t : Tv} {NM : List Txt} {BS : List Int} {NS : List Nd} {b : Nat} {r : Nat} (hE : Env w t NM BS NS (r : Int)) (es : List E) (ex : E) (n : Nat) (hnm : NM.length = n) (hbs : BS.length = n) (hn : n ≤ 1024)
    (hN : ∀ j, j < n → NodeC w t b NM NS (es.getD j z0)) (hps : ∀ j, j < n → ∃ p : Nat, BS.getD j 0 = p ∧ Lies NS (es.getD j z0) p) (hR : NodeC w t b NM NS ex) (hlr : Lies NS ex r)
    (W : World) (hP : Pb w W b t []) (hlen : (ltT NM es n).length + (etx NM ex).length ≤ 1099511627776) :
    Calls Tryz.prog 11 #[ptr b] W fun e W' => e = .returned (.tuple #[]) ∧ Pb w W' b t (ltT NM es n ++ etx NM ex) := by
  obtain ⟨na, nl, nc, hnv, hTx⟩ := hE.names
  obtain ⟨ba, bl, bc, hbv, hIz⟩ := hE.binds
  have h1 := hTx.len
  have h2 := hIz.len
  have h3 := hTx.le
  have h4 := hTx.max
  have h5 := hIz.le
  obtain rfl : nl = n := by omega
  obtain rfl : bl = nl := by omega
  have hrv := hE.root
  obtain ⟨nv, bv, dv, rv⟩ := t
  simp only at hnv hbv hrv
  subst hnv hbv hrv
  obtain ⟨p0, v0, hp0, hb0, -⟩ := hP.ex
  have c2 : W.cell? ⟨b, 2, none⟩ = some (.slice na bl nc) := hb0.cell 2 rfl
  have HP0 := hide hP
  have HTx := hide hTx
  have HIz := hide hIz
  have HN := hide hN
  have HPS := hide hps
  have HR := hide hR
  have HLR := hide hlr
  have HL := hide hlen
  clear hP hTx hIz hN hps hR hlr hlen hE h1 h2 hnm hbs hp0 hb0
  go_enter Tryz.func11, Tryz.ntmps11
  go_wp2_with fail
  go_loopw [10] (fun i wr => ∃ k : Nat, k ≤ bl ∧ i = .int .i64 k ∧ Hid (Pb w wr b ⟨.slice na bl nc, .slice ba bl bc, dv, .int .i64 r⟩ (ltT NM es k))) (fun i _ => bl - (intOf i).toNat)
  case atStart => exact ⟨0, Nat.zero_le _, rfl, HP0⟩
  case round =>
    obtain ⟨j, hj, rfl, HPj⟩ := hrel
    rename World => V
    clear HP0 c2
    by_cases hlt : j < bl
    · obtain ⟨gn, ofn, rfl, e1⟩ : ∃ gn ofn, na = some ⟨gn, ofn, none⟩ ∧ V.cell? ⟨gn, ofn + j, none⟩ = some (.string (sB (NM.getD j []))) := by
        rcases (HTx.out.later HPj.out.old).cell with h0 | ⟨gn, ofn, ha, hc⟩
        · omega
        · exact ⟨gn, ofn, ha, hc j hlt⟩
      have HNj := hide (HN.out j hlt)
      obtain ⟨pj, hpj, hlj⟩ := HPS.out j hlt
      have HLj := hide hlj
      have HPJ := hide hpj
      have hm := ltT_mono NM es (show j + 1 ≤ bl from hlt)
      rw [ltT_succ] at hm
      have HM := hide hm
      have HJ := hide (ltT_succ NM es j)
      clear hm hpj hlj
      generalize es.getD j z0 = ej at *
      generalize NM.getD j [] = tx at *
      have hj1 : (j : Int) < bl := by omega
      go_wp2_with fail
      refine (writeString_any HPj.out _ (by have := HL.out; have := HM.out; simp [bs] at *; omega)).mono ?_
      rintro e V1 ⟨rfl, hP, -⟩
      have HP1 := hide hP
      clear hP e1
      go_wp2_with fail
      refine (writeString_any HP1.out _ (by have := HL.out; have := HM.out; simp [bs] at *; omega)).mono ?_
      rintro e V2 ⟨rfl, hP, -⟩
      have HP2 := hide hP
      clear hP HP1
      go_wp2_with fail
      refine (writeByte_any HP2.out 61 (by decide) (by have := HL.out; have := HM.out; simp [bs] at *; omega)).mono ?_
      rintro e V3 ⟨rfl, hP, -⟩
      have HP3 := hide hP
      clear hP HP2
      obtain ⟨p0, v0, hp0, hb0, -⟩ := HP3.out.ex
      have c3 : V3.cell? ⟨b, 3, none⟩ = some (.slice ba bl bc) := hb0.cell 3 rfl
      obtain ⟨gb, ofb, rfl, e2⟩ : ∃ gb ofb, ba = some ⟨gb, ofb, none⟩ ∧ V3.cell? ⟨gb, ofb + j, none⟩ = some (.int .i64 (pj : Int)) := by
        rcases (HIz.out.later HP3.out.old).cell with h0 | ⟨gb, ofb, ha, -, hc⟩
        · omega
        · have := hc j hlt
          rw [HPJ.out] at this
          exact ⟨gb, ofb, ha, this⟩
      clear hp0 hb0
      go_wp2_with fail
      refine (HNj.out V3 _ pj HP3.out HLj.out (by have := HL.out; have := HM.out; simp [bs] at *; omega)).mono ?_
      rintro e V4 ⟨rfl, hP, -⟩
      have HP4 := hide hP
      clear hP HP3 c3 e2
      go_wp2_with fail
      refine (writeByte_any HP4.out 59 (by decide) (by have := HL.out; have := HM.out; simp [bs] at *; omega)).mono ?_
      rintro e V5 ⟨rfl, hP, -⟩
      rw [show ltT NM es j ++ bs { data := #[108, 101, 116, 32] } ++ bs (sB tx) ++ [UInt8.ofNat 61] ++ etx NM ej ++ [UInt8.ofNat 59] = ltT NM es (j + 1) by rw [HJ.out, bs_sB]; simp [bs]] at hP
      have HP5 := hide hP
      clear hP HP4
      go_wp2_with fail
      go_roundw
      case rel => exact ⟨j + 1, by omega, by go_num, HP5⟩
      case measure => simp [intOf]; omega
    · obtain rfl : j = bl := by omega
      obtain ⟨p0, v0, hp0, hb0, -⟩ := HPj.out.ex
      have c5 : V.cell? ⟨b, 5, none⟩ = some (.int .i64 (r : Int)) := hb0.cell 5 rfl
      clear hp0 hb0
      go_wp2_with fail
      refine (HR.out V _ r HPj.out HLR.out (by have := HL.out; omega)).mono ?_
      rintro e V1 ⟨rfl, hP, -⟩
      have HP4 := hide hP
      clear hP
      go_wp2_with fail
      go_end0
      exact ⟨rfl, HP4.out⟩

end Go.Proofs.YtodgjjkpbcadoaaGreatDoor

/-
  What Print answers.
-/
namespace Go.Proofs.YtodgjjkpbcadoaaGreatDoor
open Go.RowKit Go.IntWalk Lx Pz Go.Sort
set_option linter.unusedVariables false

/-- A sound tree, by its expressions. -/
structure Dec (NM : List Txt) (BS : List Int) (NS : List Nd) (root : Int) (es : List E) (ex : E) : Prop where
  nodes : NS = flL es 0 ++ ex.flat (szL es)
  binds : BS = bdL es 0
  names : NM.length = es.length
  gd : ∀ j e, es[j]? = some e → Gd j e
  gx : Gd es.length ex
  ok : nmB NM = true
  root : root = (NS.length : Int) - 1
  few : NS.length ≤ 1024

theorem chk_dec {NM : List Txt} {BS : List Int} {NS : List Nd} {root : Int} : chkP NM BS NS root = true ↔ ∃ es ex, Dec NM BS NS root es ex := by
  constructor
  · intro h
    simp only [chkP, Bool.and_eq_true, beq_iff_eq] at h
    obtain ⟨h1, h2, h3, h4⟩ := h
    simp only [endsP, wthn, Bool.and_eq_true, decide_eq_true_eq, beq_iff_eq] at h2
    obtain ⟨es, ex, e1, e2, e3, e4⟩ := ord_good.1 h3
    refine ⟨es, ex, e1, e2, ?_, e3, e4, h4, h2.2, by omega⟩
    rw [h1, e2, bdL_len]
  · rintro ⟨es, ex, h⟩
    simp only [chkP, Bool.and_eq_true, beq_iff_eq]
    refine ⟨by rw [h.names, h.binds, bdL_len], ?_, ord_good.2 ⟨es, ex, h.nodes, h.binds, h.gd, h.gx⟩, h.ok⟩
    simp only [endsP, wthn, Bool.and_eq_true, decide_eq_true_eq, beq_iff_eq]
    have := h.few
    have h2 : 1 ≤ NS.length := by rw [h.nodes, List.length_append, E.flat_len]; have := ex.size_pos; omega
    exact ⟨⟨by omega, by omega⟩, h.root⟩

/- how long a text is at most -/
theorem wrd_len {s : Txt} (h : wrd s = true) : s.length ≤ 16 := by simp only [wrd, Bool.and_eq_true, decide_eq_true_eq] at h; exact h.1.1.2
theorem nm_wrd {NM : List Txt} (h : nmB NM = true) {s : Txt} (hs : s ∈ NM) : wrd s = true ∧ resv s = false := by
  simp only [nmB, Bool.and_eq_true, List.all_eq_true] at h
  have := h.1 s hs
  simpa using this
theorem nm_get {NM : List Txt} (h : nmB NM = true) (k : Nat) : (NM.getD k []).length ≤ 16 := by
  rw [List.getD_eq_getElem?_getD]
  cases hk : NM[k]? with
  | none => simp
  | some s => exact wrd_len (nm_wrd h (List.mem_of_getElem? hk)).1
theorem otx_len (o : Int) : (otx o).length ≤ 5 := by
  unfold otx
  have : ∀ x ∈ opTab, x.1.length ≤ 5 := by decide
  rw [List.getD_eq_getElem?_getD]
  cases h : opTab[o.toNat]? with
  | none => simp
  | some x => exact this x (List.mem_of_getElem? h)
theorem in_len (k : Nat) : (inTx.getD k []).length ≤ 5 := by
  have : ∀ x ∈ inTx, x.length ≤ 5 := by decide
  rw [List.getD_eq_getElem?_getD]
  cases h : inTx[k]? with
  | none => simp
  | some x => exact this x (List.mem_of_getElem? h)
theorem brk_le (x : Bool) (l : Txt) : (brk x l).length ≤ l.length + 2 := by unfold brk; split <;> simp
theorem etx_len {NM : List Txt} (hn : nmB NM = true) {bd : Nat} : ∀ (e : E), Gd bd e → (etx NM e).length ≤ 80 * e.size
  | .leaf n, hg => by
    obtain ⟨-, -, -, h⟩ := gd_leaf hg
    simp only [etx, E.size]
    have h1 := nm_get hn n.k.toNat
    have h2 := in_len n.k.toNat
    unfold leafT
    split
    · have := itoa_len (n := n.k) (by omega) (by omega); omega
    split
    · omega
    split
    · omega
    · rename_i h3 h4 h5
      have hb := itoa_len (n := n.back) (by omega) (by omega)
      have hx := itoa_len (n := n.x) (by omega) (by omega)
      have hy := itoa_len (n := n.y) (by omega) (by omega)
      unfold plT
      split <;> split <;> simp <;> omega
  | .un o a, hg => by
    have h1 := etx_len hn a hg.2
    have h2 := otx_len o
    have h3 := brk_le (decide (rkE a < 8)) (etx NM a)
    simp only [etx, E.size]
    split <;> simp <;> omega
  | .bin o a b, hg => by
    have h1 := etx_len hn a hg.2.1
    have h1b := etx_len hn b hg.2.2
    have h2 := otx_len o
    have h3 := brk_le (decide (rkE a < lfk o)) (etx NM a)
    have h4 := brk_le (decide (rkE b < ork o + 1)) (etx NM b)
    simp only [etx, E.size]
    split <;> simp only [List.length_append, List.length_cons, List.length_nil] <;> omega
  | .tri o a b c, hg => by
    have h1 := etx_len hn a hg.2.1
    have h1b := etx_len hn b hg.2.2.1
    have h1c := etx_len hn c hg.2.2.2
    have h2 := otx_len o
    have h3 := brk_le (decide (rkE a < 1)) (etx NM a)
    simp only [etx, E.size]
    split <;> simp only [List.length_append, List.length_cons, List.length_nil] <;> omega

theorem getD_es {es : List E} {j : Nat} (h : j < es.length) : es[j]? = some (es.getD j z0) := by
  rw [List.getD_eq_getElem?_getD, List.getElem?_eq_getElem h]; rfl
theorem szL_pre : ∀ (es : List E) (k : Nat), k < es.length → szL (es.take (k + 1)) = szL (es.take k) + (es.getD k z0).size
  | [], k, h => by simp at h
  | a :: es, 0, h => by simp [szL]
  | a :: es, k + 1, h => by
    have := szL_pre es k (by simpa using h)
    simp only [List.take_succ_cons, szL, this, List.getD_cons_succ]
    omega
theorem szL_le (es : List E) (k : Nat) : szL (es.take k) ≤ szL es := by
  induction es generalizing k with
  | nil => simp
  | cons a es ih => cases k with
    | zero => simp [szL]
    | succ k => simp only [List.take_succ_cons, szL]; have := ih k; omega
theorem ltT_len {NM : List Txt} (hn : nmB NM = true) {es : List E} (hg : ∀ j e, es[j]? = some e → Gd j e) : ∀ k, k ≤ es.length → (ltT NM es k).length ≤ 22 * k + 80 * szL (es.take k)
  | 0, _ => by simp [ltT]
  | k + 1, h => by
    have h1 := ltT_len hn hg k (by omega)
    have h2 := etx_len hn _ (hg k _ (getD_es (by omega)))
    have h3 := nm_get hn k
    rw [ltT_succ, szL_pre es k (by omega)]
    simp only [List.length_append, List.length_cons, List.length_nil]
    omega

/-- The whole text. -/
def whole (NM : List Txt) (es : List E) (ex : E) : Txt := ltT NM es es.length ++ etx NM ex
theorem Dec.short {NM : List Txt} {BS : List Int} {NS : List Nd} {root : Int} {es : List E} {ex : E} (h : Dec NM BS NS root es ex) : (whole NM es ex).length ≤ 200000 := by
  have h1 := ltT_len h.ok h.gd es.length (Nat.le_refl _)
  have h2 := etx_len h.ok ex h.gx
  have h3 := h.few
  rw [h.nodes, List.length_append, E.flat_len, flL_len] at h3
  have h4 : es.length ≤ szL es := by
    clear h h1 h2 h3
    induction es with
    | nil => simp
    | cons a es ih => have := a.size_pos; simp only [List.length_cons, szL]; omega
  unfold whole
  rw [List.length_append]
  rw [List.take_length] at h1
  omega
theorem leaf_ne {NM : List Txt} {bd : Nat} (hn : nmB NM = true) (hb : bd ≤ NM.length) : ∀ (e : E), Gd bd e → etx NM e ≠ []
  | .leaf n, hg => by
    obtain ⟨-, -, -, h⟩ := gd_leaf hg
    simp only [etx]
    have hi : ∀ z : Int, Lib.itoa z ≠ [] := by
      intro z
      unfold Lib.itoa
      split
      · simp
      · unfold Lib.decDigits; split <;> simp
    unfold leafT
    split
    · exact hi _
    split
    · have : ∀ k, k < 6 → inTx.getD k [] ≠ [] := by decide
      exact this _ (by omega)
    split
    · have hk : n.k.toNat < NM.length := by omega
      rw [List.getD_eq_getElem?_getD, List.getElem?_eq_getElem hk]
      have := (nm_wrd hn (List.getElem_mem hk)).1
      intro e
      simp only [Option.getD_some] at e
      rw [e] at this
      exact absurd this (by decide)
    · unfold plT; split <;> simp
  | .un o a, hg => by simp only [etx]; split <;> simp
  | .bin o a b, hg => by
    have h1 := leaf_ne hn hb a hg.2.1
    have h2 : ∀ x, brk x (etx NM a) ≠ [] := by intro x; unfold brk; split <;> simp [h1]
    simp only [etx]; split
    · simp
    · intro e; exact h2 _ (List.append_eq_nil_iff.1 e).1
  | .tri o a b c, hg => by simp only [etx]; split <;> simp
theorem whole_ne {NM : List Txt} {BS : List Int} {NS : List Nd} {root : Int} {es : List E} {ex : E} (h : Dec NM BS NS root es ex) : whole NM es ex ≠ [] := by
  intro e
  exact leaf_ne h.ok (by rw [h.names]; exact Nat.le_refl _) ex h.gx (List.append_eq_nil_iff.1 e).2

abbrev treeV (na ba da : Option Addr) (nl nc bl bc dl dc : Nat) (root : Int) : Value := .agg (tr4 (.slice na nl nc) (.slice ba bl bc) (.slice da dl dc) (.int .i64 root))

set_option maxHeartbeats 4000000 in
set_option maxRecDepth 100000 in
theorem print_bad {W : World} {na ba da : Option Addr} {nl nc bl bc dl dc : Nat} {root : Int} {NM : List Txt} {BS : List Int} {NS : List Nd} (hX : Tx W na nl nc NM) (hB : Iz W ba bl bc BS) (hN : Nz W da dl dc NS) (hs : ∀ s ∈ NM, s.length ≤ 9223372036854775807) (hc : chkP NM BS NS root = false) :
    Calls Tryz.prog 5 #[treeV na ba da nl nc bl bc dl dc root] W fun e W' => e = .returned (.tuple #[.string ⟨#[]⟩, .int .i64 3]) ∧ Below W.heap.size W W' := by
  have hb0 := bel1 W (.cells (tr4 (.slice na nl nc) (.slice ba bl bc) (.slice da dl dc) (.int .i64 root)) 26)
  have HB := hide hb0
  have HC := hide (check_any (root := root) (hX.later hb0) (hB.later hb0) (hN.later hb0) hs)
  rw [hc] at HC
  clear hX hB hN hs hb0 hc
  go_enter Tryz.func5, Tryz.ntmps5
  go_wp2_with fail
  refine HC.out.mono ?_
  rintro e W1 ⟨rfl, hb⟩
  have HB1 := hide (bel HB.out hb)
  clear hb
  go_wp2_with fail
  go_ret2
  exact ⟨rfl, HB1.out⟩

theorem pb_new (W : World) (t : Tv) : Pb W (W.alloc (.cells (pcs (.pointer none) (.slice none 0 0) t) 46)) W.heap.size t [] :=
  ⟨⟨_, _, .inl rfl, HasC.new W 46 _, ⟨rfl, .inl ⟨rfl, rfl⟩⟩⟩, Nat.le_refl _, bel1 _ _⟩

set_option maxHeartbeats 4000000 in
set_option maxRecDepth 100000 in
theorem print_ok {W : World} {na ba da : Option Addr} {nl nc bl bc dl dc : Nat} {root : Int} {NM : List Txt} {BS : List Int} {NS : List Nd} (hX : Tx W na nl nc NM) (hB : Iz W ba bl bc BS) (hN : Nz W da dl dc NS) (hG : Gl W) {es : List E} {ex : E} (hD : Dec NM BS NS root es ex) :
    Calls Tryz.prog 5 #[treeV na ba da nl nc bl bc dl dc root] W fun e W' => e = .returned (.tuple (if 1024 < (whole NM es ex).length then #[.string ⟨#[]⟩, .int .i64 4] else #[.string (sB (whole NM es ex)), .int .i64 0])) ∧ Below W.heap.size W W' := by
  have hs : ∀ s ∈ NM, s.length ≤ 9223372036854775807 := fun s h => by have := wrd_len (nm_wrd hD.ok h).1; omega
  have hb0 := bel1 W (.cells (tr4 (.slice na nl nc) (.slice ba bl bc) (.slice da dl dc) (.int .i64 root)) 26)
  have HC := hide (check_any (root := root) (hX.later hb0) (hB.later hb0) (hN.later hb0) hs)
  rw [chk_dec.2 ⟨es, ex, hD⟩] at HC
  have HV := hide (fun (V : World) (hV : Below W.heap.size W V) => (show Env V ⟨.slice na nl nc, .slice ba bl bc, .slice da dl dc, .int .i64 root⟩ NM BS NS root from ⟨⟨_, _, _, rfl, hX.later hV⟩, ⟨_, _, _, rfl, hB.later hV⟩, ⟨_, _, _, rfl, hN.later hV⟩, rfl, hG.later hV, hD.few⟩))
  have hnl := hX.len
  have hbl := hB.len
  obtain ⟨r, hr⟩ : ∃ r : Nat, root = r := ⟨NS.length - 1, by
    have h2 : 1 ≤ NS.length := by rw [hD.nodes, List.length_append, E.flat_len]; have := ex.size_pos; omega
    rw [hD.root]; omega⟩
  have hH := HasC.new W 26 (tr4 (.slice na nl nc) (.slice ba bl bc) (.slice da dl dc) (.int .i64 root))
  have HB := hide hb0
  have HH := hide hH
  have HP := hide (fun (V : World) (hV : Below W.heap.size W V) => show Calls Tryz.prog 11 #[ptr V.heap.size] (V.alloc (.cells (pcs (.pointer none) (.slice none 0 0) ⟨.slice na nl nc, .slice ba bl bc, .slice da dl dc, .int .i64 root⟩) 46)) fun e W' => e = .returned (.tuple #[]) ∧ Pb V W' V.heap.size ⟨.slice na nl nc, .slice ba bl bc, .slice da dl dc, .int .i64 root⟩ (whole NM es ex) from by
    have hE := HV.out V hV
    have hsh := hD.short
    unfold whole at hsh ⊢
    rw [List.length_append] at hsh
    have hle : es.length ≤ 1024 := by
      have h3 := hD.few
      have h4 : BS.length ≤ NS.length := ord_len (ord_good.2 ⟨es, ex, hD.nodes, hD.binds, hD.gd, hD.gx⟩)
      rw [hD.binds, bdL_len] at h4
      omega
    subst hr
    refine xprogram_any hE es ex es.length hD.names (by rw [hD.binds, bdL_len]) hle (fun j hj => xnode_any hE (bd := j) (by rw [hD.names]; omega) _ (hD.gd j _ (getD_es hj))) (fun j hj => ?_) (xnode_any hE (bd := es.length) (by rw [hD.names]; exact Nat.le_refl _) ex hD.gx) ?_ _ (pb_new V _) (by omega)
    · obtain ⟨p, h1, h2⟩ := lies_list es [] (ex.flat (szL es)) j _ (getD_es hj)
      refine ⟨p, ?_, ?_⟩
      · rw [hD.binds, List.getD_eq_getElem?_getD]
        simp only [List.length_nil] at h1
        rw [h1]; rfl
      · rw [hD.nodes]
        simpa using h2
    · have h1 := lies_flat ex (flL es 0) []
      rw [flL_len, List.append_nil, ← hD.nodes] at h1
      have h2 := hD.root
      rw [hD.nodes, List.length_append, E.flat_len, flL_len] at h2
      have h3 := ex.size_pos
      rw [show r = szL es + ex.size - 1 by omega]
      exact h1)
  have HS := hide (fun (V W' : World) (hP : Pb V W' V.heap.size ⟨.slice na nl nc, .slice ba bl bc, .slice da dl dc, .int .i64 root⟩ (whole NM es ex)) => (And.intro (len_any hP) (string_any hP (whole_ne hD))))
  clear hX hB hN hs hb0 hD hG HV hnl hbl hr hH
  generalize whole NM es ex = T at *
  by_cases hlen : 1024 < T.length
  · rw [if_pos hlen]
    go_enter Tryz.func5, Tryz.ntmps5
    go_wp2_with fail
    refine HC.out.mono ?_
    rintro e W1 ⟨rfl, hb⟩
    have HB1 := hide (bel HB.out hb)
    have HH1 := hide (HH.out.below hb)
    obtain ⟨c0, c1, c2, c3⟩ := facts4 HH1.out
    clear hb HB HH HC
    go_wp2_with fail
    refine (HP.out W1 HB1.out).mono ?_
    rintro e W2 ⟨rfl, hP⟩
    have HP2 := hide hP
    clear hP c0 c1 c2 c3 HH1 HP
    go_wp2_with fail
    refine (HS.out W1 W2 HP2.out).1.mono ?_
    rintro e W3 ⟨rfl, rfl⟩
    go_wp2_with fail
    go_ret2
    exact ⟨rfl, bel HB1.out HP2.out.old⟩
  · rw [if_neg hlen]
    go_enter Tryz.func5, Tryz.ntmps5
    go_wp2_with fail
    refine HC.out.mono ?_
    rintro e W1 ⟨rfl, hb⟩
    have HB1 := hide (bel HB.out hb)
    have HH1 := hide (HH.out.below hb)
    obtain ⟨c0, c1, c2, c3⟩ := facts4 HH1.out
    clear hb HB HH HC
    go_wp2_with fail
    refine (HP.out W1 HB1.out).mono ?_
    rintro e W2 ⟨rfl, hP⟩
    have HP2 := hide hP
    clear hP c0 c1 c2 c3 HH1 HP
    go_wp2_with fail
    refine (HS.out W1 W2 HP2.out).1.mono ?_
    rintro e W3 ⟨rfl, rfl⟩
    go_wp2_with fail
    refine (HS.out W1 W3 HP2.out).2.mono ?_
    rintro e W4 ⟨rfl, hb⟩
    go_wp2_with fail
    go_ret2
    exact ⟨rfl, bel HB1.out hb⟩

end Go.Proofs.YtodgjjkpbcadoaaGreatDoor

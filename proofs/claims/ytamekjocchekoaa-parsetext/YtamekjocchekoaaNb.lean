/-
  ref.making.neighbour: numbers between commas.
-/
import Derived.Test.YtamekjocchekoaaClP
import Derived.Test.YtamekjocchekoaaGtA
namespace Go.Proofs.Ytamekjocchekoaa
open Go.RowKit Go.IntWalk Lx Pz
set_option linter.unusedVariables false
set_option linter.unusedSimpArgs false

/-- As PP, of any test of expressions. -/
def PX (Gx : E → Prop) (w W : World) (b : Nat) (nv bv : Value) (root : Int) (NM : List Txt) (BS : List Int) (NS : List Nd) (e : Ending) (W' : World) : Prop :=
  (∃ ex, Gx ex ∧ e = .returned (.tuple #[.int .i64 (((NS.length + ex.size : Nat) : Int) - 1), .bool true]) ∧ (∃ dv', Mk w W' b nv bv dv' root NM BS (NS ++ ex.flat NS.length)) ∧ Kp SM W W') ∨
  ((∀ ex, ¬ Gx ex) ∧ (∃ z, e = .returned (.tuple #[.int .i64 z, .bool false])) ∧ Below w.heap.size w W')
theorem PX.no {Gx : E → Prop} {w W W' : World} {b : Nat} {nv bv : Value} {root : Int} {NM : List Txt} {BS : List Int} {NS : List Nd} {z : Int} (hg : ∀ ex, ¬ Gx ex) (hb : Below w.heap.size w W') : PX Gx w W b nv bv root NM BS NS (.returned (.tuple #[.int .i64 z, .bool false])) W' := .inr ⟨hg, ⟨z, rfl⟩, hb⟩
theorem PX.pp {w W W' : World} {b : Nat} {nv bv : Value} {root : Int} {NM : List Txt} {BS : List Int} {NS : List Nd} {c : Nat} {L : List Tk} {e : Ending} {Gx : E → Prop} (hg : ∀ ex, Gx ex ↔ G NM c L ex) (h : PX Gx w W b nv bv root NM BS NS e W') : PP w W b nv bv root NM BS NS c L e W' := by
  rcases h with ⟨ex, h1, h2⟩ | ⟨h1, h2⟩
  · exact .inl ⟨ex, (hg ex).1 h1, h2⟩
  · exact .inr ⟨fun ex hx => h1 ex ((hg ex).2 hx), h2⟩
theorem PX.from {Gx : E → Prop} {w W V W' : World} {b : Nat} {nv bv : Value} {root : Int} {NM : List Txt} {BS : List Int} {NS : List Nd} {e : Ending} (hk : Kp SM W V) (h : PX Gx w V b nv bv root NM BS NS e W') : PX Gx w W b nv bv root NM BS NS e W' := by
  rcases h with ⟨ex, h1, h2, h3, h4⟩ | h
  · exact .inl ⟨ex, h1, h2, h3, hk.trans h4⟩
  · exact .inr h

theorem wf_num {t : Tok} (h : Wf t) (hk : t.kind = 1) : num t.text = true ∧ ab t = .num (vl t.text) := by
  rcases h with ⟨_, hn⟩ | ⟨h2, _⟩ | ⟨h3, _⟩
  · exact ⟨hn, by simp [ab, hk]⟩
  · rw [hk] at h2; cases h2
  · rw [hk] at h3; cases h3
theorem not_num {t : Tok} (h : Wf t) (hk : t.kind ≠ 1) : ∀ v, ab t ≠ .num v := by
  intro v
  rcases h with ⟨h1, hn⟩ | ⟨h2, _⟩ | ⟨h3, hm⟩
  · exact absurd h1 hk
  · simp [ab, h2]
  · have key : ∀ s ∈ marks.map (·.1), (match mkT s with | .num _ => false | _ => true) = true := by decide
    have := key _ hm
    intro e
    rw [show ab t = mkT t.text by simp [ab, h3]] at e
    rw [e] at this
    cases this
theorem num_bound {s : Txt} (h : num s = true) : s.length ≤ 100 ∧ 0 ≤ vl s ∧ vl s ≤ 2147483647 := by
  refine ⟨by have := num_len h; omega, ?_, ?_⟩
  · simp only [num, Bool.and_eq_true] at h
    exact vl_nonneg h.1.1.2
  · simp only [num, Bool.and_eq_true, decide_eq_true_eq] at h
    exact h.2

theorem it_nil (m : Bool) : it1 m [] = none := rfl
theorem it_minus {r : List Tk} {v : Int} : it1 true (.op 5 9 :: .num v :: r) = some (-v, r) := by simp [it1]
theorem it_minus_end {m : Bool} : it1 m [.op 5 9] = none := rfl
theorem it_minus_bad {m : Bool} {t : Tk} {r : List Tk} (h : ∀ v, t ≠ .num v) : it1 m (.op 5 9 :: t :: r) = none := by
  cases t <;> first | rfl | exact absurd rfl (h _)
theorem it_minus_no {r : List Tk} : it1 false (.op 5 9 :: r) = none := by
  cases r with
  | nil => rfl
  | cons t r => cases t <;> first | rfl | (simp [it1])
theorem it_num {m : Bool} {v : Int} {r : List Tk} : it1 m (.num v :: r) = some (v, r) := rfl
theorem it_bad {m : Bool} {t : Tk} {r : List Tk} (h : ∀ v, t ≠ .num v) (h2 : t ≠ .op 5 9) : it1 m (t :: r) = none := by
  cases t with
  | num v => exact absurd rfl (h v)
  | op k o =>
    cases r with
    | nil => rfl
    | cons u r =>
      cases u <;> first | rfl | (simp only [it1]; rw [if_neg]; rintro ⟨rfl, rfl, -⟩; exact h2 rfl)
  | _ => rfl
theorem drop_at {L : List Tk} {k : Nat} {t : Tk} (h : L[k]? = some t) : L.drop k = t :: L.drop (k + 1) := by
  have hk := (List.getElem?_eq_some_iff.1 h).1
  rw [List.drop_eq_getElem_cons hk]
  rw [List.getElem?_eq_getElem hk] at h
  rw [Option.some.inj h]

def NbQ (q : Bool) (L : List Tk) (ex : E) : Prop := plc q (.lp :: (L ++ [.rp])) = some (ex, [])
theorem nb_no {q : Bool} {L : List Tk} (h : sqN (!q) L = none) : ∀ ex, ¬ NbQ q L ex := by
  intro ex hx
  obtain ⟨ns, h1, -⟩ := nb_iff.1 hx
  rw [h] at h1
  cases h1
theorem nb_fin {q : Bool} {L : List Tk} {ns : List Int} (h : sqN (!q) L = some ns) (hf : finN q ns = none) : ∀ ex, ¬ NbQ q L ex := by
  intro ex hx
  obtain ⟨ns', h1, h2⟩ := nb_iff.1 hx
  rw [h] at h1
  cases h1
  rw [hf] at h2
  cases h2
theorem nb_yes {q : Bool} {L : List Tk} {ns : List Int} {ex : E} (h : sqN (!q) L = some ns) (hf : finN q ns = some ex) : NbQ q L ex := nb_iff.2 ⟨ns, h, hf⟩
theorem own_caps' {w : World} {base : Nat} {e : TypeId} {size g n cap : Nat} {xs : List Value} (h : w.ownsRow base e size (.slice (some ⟨g, 0, none⟩) n cap) n xs) : n ≤ cap ∧ cap ≤ maxLen := by
  rcases h.2 with ⟨h1, -⟩ | ⟨g', cap', cur, hv, -, -, h3, h4, -⟩
  · cases h1
  · cases hv
    exact ⟨h3, h4⟩
theorem ints_at {V : World} {base g cap : Nat} {ns : List Int} (h : V.ownsRow base 3 1 (.slice (some ⟨g, 0, none⟩) ns.length cap) ns.length (in64 ns)) {i : Nat} {x : Int} (hi : ns[i]? = some x) : V.cell? ⟨g, i, none⟩ = some (.int .i64 x) := by
  have := h.cells (g := g) rfl i (.int .i64 x) (by simp [in64, hi])
  rw [Addr.add_lit, Nat.zero_add] at this
  exact this

theorem facts4p {V : World} {p : Nat} {b c x y : Int} (h : HasC V p 35 (pl4 b c x y)) : V.cell? ⟨p, 0, none⟩ = some (.int .i64 b) ∧ V.cell? ⟨p, 1, none⟩ = some (.int .i64 c) ∧ V.cell? ⟨p, 2, none⟩ = some (.int .i64 x) ∧ V.cell? ⟨p, 3, none⟩ = some (.int .i64 y) := ⟨h.cell 0 rfl, h.cell 1 rfl, h.cell 2 rfl, h.cell 3 rfl⟩
theorem free4p {V : World} {p : Nat} {b c x y : Int} (h : HasC V p 35 (pl4 b c x y)) : V.frozen? ⟨p, 0, none⟩ = false ∧ V.frozen? ⟨p, 1, none⟩ = false ∧ V.frozen? ⟨p, 2, none⟩ = false ∧ V.frozen? ⟨p, 3, none⟩ = false := ⟨h.frozen 0, h.frozen 1, h.frozen 2, h.frozen 3⟩
/-- The state behind the loop: the place, the numbers, the tree. -/
structure Na (w W V : World) (b : Nat) (nv bv dv : Value) (root : Int) (NM : List Txt) (BS : List Int) (NS : List Nd) (F : List Int) (g cap p : Nat) (pb pc px py : Int) : Prop where
  ma' : Mk w V b nv bv dv root NM BS NS
  row : V.ownsRow W.heap.size 3 1 (.slice (some ⟨g, 0, none⟩) F.length cap) F.length (in64 F)
  pl : HasC V p 35 (pl4 pb pc px py)
  kp : Kp SM W V
  hp : W.heap.size ≤ p
theorem Na.set {w W V : World} {b : Nat} {nv bv dv : Value} {root : Int} {NM : List Txt} {BS : List Int} {NS : List Nd} {F : List Int} {g cap p : Nat} {pb pc px py pb' pc' px' py' : Int} (h : Na w W V b nv bv dv root NM BS NS F g cap p pb pc px py) (hw : w.heap.size ≤ W.heap.size) (i : Nat) (u : Int) (he : (pl4 pb pc px py).setIfInBounds i (.int .i64 u) = pl4 pb' pc' px' py') : Na w W (V.setCell ⟨p, i, none⟩ (.int .i64 u)) b nv bv dv root NM BS NS F g cap p pb' pc' px' py' := by
  have ks : Kp [35] V (V.setCell ⟨p, i, none⟩ (.int .i64 u)) := Kp.set h.pl (by simp) i _
  refine ⟨⟨h.ma'.blk.kp ks (by decide), h.ma'.base, owns_kp h.ma'.names ks (by decide), owns_kp h.ma'.binds ks (by decide), owns_kp h.ma'.nodes ks (by decide), h.ma'.old.setCell (Nat.le_trans hw h.hp) _⟩, owns_kp h.row ks (by decide), he ▸ h.pl.set i _, ⟨?_, ?_⟩, h.hp⟩
  · exact Nat.le_trans h.kp.size ks.size
  · intro k cs t fr hk ht
    have h1 := h.kp.block k cs t fr hk ht
    have hlt : k < W.heap.size := (Array.getElem?_eq_some_iff.1 hk).1
    exact (Below.heap_setCell _ _ _ k (by have := h.hp; simp; omega)).trans h1
theorem Na.later {w W V V' : World} {b : Nat} {nv bv dv : Value} {root : Int} {NM : List Txt} {BS : List Int} {NS : List Nd} {F : List Int} {g cap p : Nat} {pb pc px py : Int} (h : Na w W V b nv bv dv root NM BS NS F g cap p pb pc px py) (hb : Below V.heap.size V V') : Na w W V' b nv bv dv root NM BS NS F g cap p pb pc px py :=
  ⟨h.ma'.later hb, owns_kp h.row (Kp.of_below [] hb) (by simp), h.pl.below hb, h.kp.trans (Kp.of_below SM hb), h.hp⟩
theorem na_cap {w W V : World} {b : Nat} {nv bv dv : Value} {root : Int} {NM : List Txt} {BS : List Int} {NS : List Nd} {F : List Int} {g cap p : Nat} {pb pc px py : Int} (h : Na w W V b nv bv dv root NM BS NS F g cap p pb pc px py) : F.length ≤ cap ∧ cap ≤ 9223372036854775807 := by
  obtain ⟨h1, h2⟩ := own_caps' h.row
  unfold maxLen at h2
  exact ⟨h1, h2⟩

/-- All that neighbour reads. -/
structure Nb (w W V : World) (b : Nat) (nv bv dv : Value) (root : Int) (NM : List Txt) (BS : List Int) (NS : List Nd) (a : Option Addr) (n cap : Nat) (T : List Tok) : Prop where
  ma' : Mk w V b nv bv dv root NM BS NS
  tz : Tz V a n cap T
  bel : Below W.heap.size W V
theorem Nb.later {w W V V' : World} {b : Nat} {nv bv dv : Value} {root : Int} {NM : List Txt} {BS : List Int} {NS : List Nd} {a : Option Addr} {n cap : Nat} {T : List Tok} (h : Nb w W V b nv bv dv root NM BS NS a n cap T) (hb : Below V.heap.size V V') : Nb w W V' b nv bv dv root NM BS NS a n cap T :=
  ⟨h.ma'.later hb, h.tz.later hb, Go.Proofs.Ytamekjocchekoaa.bel h.bel hb⟩
theorem Nb.of_start {w W V' : World} {b : Nat} {nv bv dv : Value} {root : Int} {NM : List Txt} {BS : List Int} {NS : List Nd} {a : Option Addr} {n cap : Nat} {T : List Tok} (h : Nb w W W b nv bv dv root NM BS NS a n cap T) (hb : Below W.heap.size W V') : Nb w W V' b nv bv dv root NM BS NS a n cap T := h.later hb

set_option maxRecDepth 100000 in
set_option maxHeartbeats 16000000 in
theorem neighbour_rd {w W : World} {b : Nat} {nv bv dv : Value} {root : Int} {NM : List Txt} {BS : List Int} {NS : List Nd} {a : Option Addr} {n cap : Nat} (q : Bool) (T : List Tok) (hM : Mk w W b nv bv dv root NM BS NS) (hT : Tz W a n cap T) (hw : ∀ t ∈ T, Wf t) (hn : NS.length + n ≤ 2000) :
    Calls Try.prog 81 #[ptr b, .slice a n cap, .bool q] W fun e W' => PX (NbQ q (T.map ab)) w W b nv bv root NM BS NS e W' := by
  have HN0 := hide (show Nb w W W b nv bv dv root NM BS NS a n cap T from ⟨hM, hT, Below.refl _ _⟩)
  have HWf := hide hw
  have HTl := hide hT.t.len
  obtain ⟨L, hL⟩ : ∃ L, T.map ab = L := ⟨_, rfl⟩
  have HL := hide hL
  have HLl := hide (show L.length = n by rw [← hL, List.length_map, HTl.out])
  rw [hL]
  clear hL hM hT hw
  go_enter Try.func81, Try.ntmps81
  go_wp2_with fail
  go_loopw [8, 9] (fun v i wr => ∃ (k : Nat) (ns : List Int) (l : Nat), k ≤ n ∧ l ≤ k ∧ i = .int .i64 (k : Int) ∧ Hid (ns.length = l) ∧ Hid (wr.ownsRow W.heap.size 3 1 v ns.length (in64 ns)) ∧ Hid (sqN (!q) L = (sqN (!q || ns.length != 0) (L.drop k)).map (ns ++ ·)) ∧ Hid (Nb w W wr b nv bv dv root NM BS NS a n cap T)) (fun _ i _ => n + 1 - (intOf i).toNat)
  case atStart => exact ⟨0, [], 0, Nat.zero_le _, Nat.le_refl _, rfl, hide rfl, hide (World.ownsRow_nil _ _ _ _), hide (by simp), hide HN0.out⟩
  case round =>
    obtain ⟨k, ns, l, hk, hlk, rfl, HNl, HO, HSq, HP⟩ := hrel
    rename World => V
    obtain ⟨oa, oc, rfl, hOi⟩ := Iz.of_owns HO.out
    clear hOi
    have hnl := HNl.out
    obtain ⟨m, hm⟩ : ∃ m, (!q || ns.length != 0) = m := ⟨_, rfl⟩
    have HMm := hide hm
    rw [hm] at HSq
    rw [hnl] at hm ⊢
    by_cases hlt : k < n
    · obtain ⟨g, off, rfl, e0, e1, e2⟩ := HP.out.tz.at hlt
      obtain ⟨hwf, hab⟩ := wf_at HWf.out (i := k) (by rw [HTl.out]; exact hlt)
      rw [HL.out] at hab
      have HD := hide (drop_at hab)
      have HW1 := hide hwf
      have HM1 := hide (mark_ab hwf (s := [45]) (by decide))
      rw [show mkT [45] = .op 5 9 by decide] at HM1
      have hk3 : (k : Int) < n := by omega
      have hk4 : (0 : Int) ≤ k := by omega
      clear hab hwf
      generalize htq : T.getD k t0 = t at *
      clear htq
      obtain ⟨kd, X, ps⟩ := t
      simp only at e0 e1 e2 HM1
      have HF := hide fun V' (hb : Below V.heap.size V V') => And.intro ((hb.cell (World.block_lt_of_cell? V _ e0)).trans e0) (And.intro ((hb.cell (World.block_lt_of_cell? V _ e1)).trans e1) ((hb.cell (World.block_lt_of_cell? V _ e2)).trans e2))
      have HQ1 := hide (qmark_any kd ps X [45] V)
      rw [HM1.out] at HQ1
      by_cases h1 : ab ⟨kd, X, ps⟩ = .op 5 9
      · rw [decide_eq_true h1] at HQ1
        rw [h1] at HD
        have hkd : (kd != 1) = true := by
          by_cases hk1 : kd = 1
          · have := (wf_num HW1.out hk1).2
            rw [h1] at this
            cases this
          · simpa using hk1
        clear h1 HM1
        cases m with
        | false =>
          obtain ⟨rfl, hl0⟩ : q = true ∧ l = 0 := by
            cases q <;> simp at hm
            exact ⟨rfl, hm⟩
          subst hl0
          have HNo := hide (nb_no (show sqN (!true) L = none by rw [HSq.out, HD.out, sqN_none it_minus_no]; rfl))
          clear hm
          go_wp2_with fail
          refine HQ1.out.mono ?_
          rintro e V2 ⟨rfl, hb⟩
          obtain ⟨f0, f1, f2⟩ := HF.out V2 hb
          have HP2 := hide (HP.out.later hb)
          clear hb HP e0 e1 e2
          go_wp2_with fail
          go_ret2
          exact PX.no HNo.out HP2.out.ma'.old
        | true =>
          have hm2 : q = false ∨ 0 < l := by
            cases q
            · exact .inl rfl
            · right
              simp at hm
              omega
          clear hm
          cases q with
          | false =>
            clear hm2
            go_wp2_with fail
            refine HQ1.out.mono ?_
            rintro e V2 ⟨rfl, hb⟩
            have HP2 := hide (HP.out.later hb)
            have HO2 := hide (show V2.ownsRow W.heap.size 3 1 (.slice oa l oc) ns.length (in64 ns) by have h := owns_kp HO.out (Kp.of_below [] hb) (by simp); rw [hnl] at h ⊢; exact h)
            clear hb HP HO e0 e1 e2 HF
            by_cases hlt1 : k + 1 < n
            · obtain ⟨gu, offu, hequ, u0, u1, u2⟩ := HP2.out.tz.at hlt1
              cases hequ
              obtain ⟨hwfu, habu⟩ := wf_at HWf.out (i := k + 1) (by rw [HTl.out]; exact hlt1)
              rw [HL.out] at habu
              have HDu := hide (drop_at habu)
              have HWu := hide hwfu
              have hk5 : (0 : Int) ≤ ((k + 1 : Nat) : Int) := by omega
              have hk6 : ((k + 1 : Nat) : Int) < n := by omega
              have hk7 : (0 : Int) ≤ (k : Int) + 1 := by omega
              have hk8 : (k : Int) + 1 < n := by omega
              clear habu hwfu
              generalize htu : T.getD (k + 1) t0 = tu at *
              clear htu
              obtain ⟨ku, Xu, pu⟩ := tu
              simp only at u0 u1 u2
              by_cases hku : ku = 1
              · subst hku
                obtain ⟨hnum, habn⟩ := wf_num HWu.out rfl
                rw [habn] at HDu
                have hbd := num_bound hnum
                have hnv := nv_of hnum
                simp only at hnum habn hbd hnv
                have HNm := hide fun W => rnumber_any (sB Xu) W (by rw [sB_size]; unfold maxLen; omega)
                rw [bs_sB, hnv, hnum] at HNm
                generalize hxv : vl Xu = xv at *
                have HIt := hide (show it1 true (L.drop k) = some (-xv, L.drop (k + 2)) by rw [HD.out, HDu.out]; exact it_minus)
                obtain ⟨hbd0, hbd1, hbd2⟩ := hbd
                have hng : IntKind.i64.wrap (-xv) = -xv := IntWalk.i64_in _ ⟨by omega, by omega⟩
                clear habn hnv hnum hxv hbd0
                go_wp2_with fail
                refine (HNm.out _).mono ?_
                rintro e V3 ⟨rfl, rfl⟩
                clear u0 u1 u2
                by_cases hend : k + 2 = n
                · have HFi := hide (show sqN (!false) L = some (ns ++ [-xv]) by rw [HSq.out, sqN_last (by rw [HIt.out, List.drop_of_length_le (by rw [HLl.out]; omega)])]; rfl)
                  have HFl := hide (show (ns ++ [-xv]).length = l + 1 by rw [List.length_append, HNl.out]; rfl)
                  have hendi : (((k + 2 : Nat) : Int) == (n : Int)) = true := by rw [beq_iff_eq]; omega
                  have hendj : ((k : Int) + 1 + 1) = (n : Int) := by omega
                  clear HSq HIt HD
                  go_upto_region 17 with (at_builtin; refine list_in (A := ns) rfl _ _ rfl rfl (HO2.out.alloc _) (by have := HP2.out.bel.size; simp; omega) _ (-xv) rfl (HasC.new _ _ _) (by rw [HNl.out]; omega) ?_; intro g4 cap4 V4 hown hk4 hold; have HP4 := hide (HN0.out.of_start (hold W (bel HP2.out.bel (bel1 _ _)) rfl)); have HR4 := hide (show V4.ownsRow W.heap.size 3 1 (.slice (some ⟨g4, 0, none⟩) (ns ++ [-xv]).length cap4) (ns ++ [-xv]).length (in64 (ns ++ [-xv])) by rw [List.length_append] at hown ⊢; exact hown); clear hown hk4 hold; rw [HNl.out])
                  rw [show l + 1 = (ns ++ [-xv]).length from HFl.out.symm]
                  generalize ns ++ [-xv] = F at *
                  clear hend hendi hendj
                  go_upto_region 18 with fail
                  have HNa : Hid (Na w W (V4.alloc (.cells (pl4 0 0 0 0) 35)) b nv bv dv root NM BS NS F g4 cap4 V4.heap.size 0 0 0 0) := hide ⟨HP4.out.ma'.later (bel1 _ _), HR4.out.alloc _, HasC.new _ _ _, Kp.of_below SM (bel HP4.out.bel (bel1 _ _)), HP4.out.bel.size⟩
                  clear HR4 HP4
                  generalize V4.heap.size = p at *
                  generalize V4.alloc (.cells (pl4 0 0 0 0) 35) = V5 at *
                  have hfl := HFl.out
                  match F, HFi, HNa, hfl with
                  | [], HFi, HNa, hfl => exact absurd HFi.out sqN_ne
                  | [x0], HFi, HNa, hfl =>
                    simp only [List.length_cons, List.length_nil, Nat.zero_add, Nat.reduceAdd] at ⊢
                    clear hfl HFl
                    have c0 := ints_at HNa.out.row (i := 0) (x := x0) rfl
                    obtain ⟨p0, p1, p2, p3⟩ := facts4p HNa.out.pl
                    obtain ⟨s0, s1, s2, s3⟩ := free4p HNa.out.pl
                    have hca := na_cap HNa.out
                    simp only [List.length_cons, List.length_nil, Nat.zero_add, Nat.reduceAdd] at hca
                    obtain ⟨hca1, hca2⟩ := hca
                    have hw0 : w.heap.size ≤ W.heap.size := HN0.out.ma'.old.size
                    have HNy := hide (nb_yes HFi.out (ex := .leaf (lf 3 0 0 1 x0 0)) rfl)
                    have HN1 := hide HNa.out
                    clear HNa
                    obtain ⟨V6, hV6⟩ : ∃ V, V5 = V := ⟨_, rfl⟩
                    subst hV6
                    have HN2 := hide (((HN1.out.set hw0 1 1 (pb' := 0) (pc' := 1) (px' := 0) (py' := 0) rfl).set hw0 2 x0 (pb' := 0) (pc' := 1) (px' := x0) (py' := 0) rfl).later (below_drew _))
                    have k0 := ints_at (HN1.out.set hw0 1 1 (pb' := 0) (pc' := 1) (px' := 0) (py' := 0) rfl).row (i := 0) (x := x0) rfl
                    go_wp2_with fail
                    go_region
                    clear k0
                    clear HN1 p0 p1 p2 p3 s0 s1 s2 s3 c0
                    generalize hV7 : ((V5.setCell ⟨p, 1, none⟩ (.int .i64 1)).setCell ⟨p, 2, none⟩ (.int .i64 x0)).drew = V7 at *
                    clear hV7
                    have c0 := ints_at HN2.out.row (i := 0) (x := x0) rfl
                    obtain ⟨p0, p1, p2, p3⟩ := facts4p HN2.out.pl
                    obtain ⟨s0, s1, s2, s3⟩ := free4p HN2.out.pl
                    have HAd := hide (madd_any HN2.out.ma' (lf 3 0 0 1 x0 0) (by omega))
                    go_wp2_with fail
                    refine HAd.out.mono ?_
                    rintro e V9 ⟨rfl, ⟨dv9, hm9⟩, hk9⟩
                    have HM9 := hide hm9
                    have HK9 := hide (HN2.out.kp.trans hk9)
                    clear hm9 hk9
                    go_wp2_with fail
                    refine bodyPost_ret (v := .tuple #[.int .i64 (NS.length : Int), .bool true]) (by simp [results, Try.results81, go_sem]) rfl (.inl ⟨_, HNy.out, ?_, ⟨dv9, HM9.out⟩, HK9.out⟩)
                    exact ret_pt (by simp only [E.size]; omega)
                  | [x0, y0], HFi, HNa, hfl =>
                    simp only [List.length_cons, List.length_nil, Nat.zero_add, Nat.reduceAdd] at ⊢
                    clear hfl HFl
                    have c0 := ints_at HNa.out.row (i := 0) (x := x0) rfl
                    have c1 := ints_at HNa.out.row (i := 1) (x := y0) rfl
                    obtain ⟨p0, p1, p2, p3⟩ := facts4p HNa.out.pl
                    obtain ⟨s0, s1, s2, s3⟩ := free4p HNa.out.pl
                    have hca := na_cap HNa.out
                    simp only [List.length_cons, List.length_nil, Nat.zero_add, Nat.reduceAdd] at hca
                    obtain ⟨hca1, hca2⟩ := hca
                    have hw0 : w.heap.size ≤ W.heap.size := HN0.out.ma'.old.size
                    have HNy := hide (nb_yes HFi.out (ex := .leaf (lf 3 0 0 2 x0 y0)) rfl)
                    have HN1 := hide HNa.out
                    clear HNa
                    obtain ⟨V6, hV6⟩ : ∃ V, V5 = V := ⟨_, rfl⟩
                    subst hV6
                    have HN2 := hide (((HN1.out.set hw0 1 2 (pb' := 0) (pc' := 2) (px' := 0) (py' := 0) rfl).set hw0 2 x0 (pb' := 0) (pc' := 2) (px' := x0) (py' := 0) rfl).later (below_drew _))
                    have k0 := ints_at (HN1.out.set hw0 1 2 (pb' := 0) (pc' := 2) (px' := 0) (py' := 0) rfl).row (i := 0) (x := x0) rfl
                    go_wp2_with fail
                    go_region
                    clear k0
                    clear HN1 p0 p1 p2 p3 s0 s1 s2 s3 c0 c1
                    generalize hV7 : ((V5.setCell ⟨p, 1, none⟩ (.int .i64 2)).setCell ⟨p, 2, none⟩ (.int .i64 x0)).drew = V7 at *
                    clear hV7
                    have c0 := ints_at HN2.out.row (i := 0) (x := x0) rfl
                    have c1 := ints_at HN2.out.row (i := 1) (x := y0) rfl
                    obtain ⟨p0, p1, p2, p3⟩ := facts4p HN2.out.pl
                    obtain ⟨s0, s1, s2, s3⟩ := free4p HN2.out.pl
                    have HN3 := hide (HN2.out.set hw0 3 y0 (pb' := 0) (pc' := 2) (px' := x0) (py' := y0) rfl)
                    go_upto_region 28 with fail
                    clear HN2 p0 p1 p2 p3 s0 s1 s2 s3 c0 c1
                    generalize V7.setCell ⟨p, 3, none⟩ (.int .i64 y0) = V8 at *
                    obtain ⟨p0, p1, p2, p3⟩ := facts4p HN3.out.pl
                    have HAd := hide (madd_any HN3.out.ma' (lf 3 0 0 2 x0 y0) (by omega))
                    go_wp2_with fail
                    refine HAd.out.mono ?_
                    rintro e V9 ⟨rfl, ⟨dv9, hm9⟩, hk9⟩
                    have HM9 := hide hm9
                    have HK9 := hide (HN3.out.kp.trans hk9)
                    clear hm9 hk9
                    go_wp2_with fail
                    refine bodyPost_ret (v := .tuple #[.int .i64 (NS.length : Int), .bool true]) (by simp [results, Try.results81, go_sem]) rfl (.inl ⟨_, HNy.out, ?_, ⟨dv9, HM9.out⟩, HK9.out⟩)
                    exact ret_pt (by simp only [E.size]; omega)
                  | x0 :: y0 :: z0 :: r, HFi, HNa, hfl =>
                    have HNo := hide (nb_fin HFi.out (by simp [finN]))
                    obtain ⟨fl, hfl2⟩ : ∃ m, (x0 :: y0 :: z0 :: r).length = m := ⟨_, rfl⟩
                    have hf3 : 3 ≤ fl := by rw [← hfl2]; simp
                    rw [hfl2]
                    clear hfl HFl
                    have h2 : ¬ ((fl : Int) < 1) := by omega
                    have h3 : (2 : Int) < (fl : Int) := by omega
                    clear hfl2
                    go_wp2_with fail
                    go_ret2
                    exact PX.no HNo.out HNa.out.ma'.old

                · have hlt2 : k + 2 < n := by omega
                  obtain ⟨hwf2, hab2⟩ := wf_at HWf.out (i := k + 2) (by rw [HTl.out]; exact hlt2)
                  rw [HL.out] at hab2
                  have HD2 := hide (drop_at hab2)
                  have HMc := hide (mark_ab hwf2 (s := [44]) (by decide))
                  rw [show mkT [44] = .comma by decide] at HMc
                  have hnei : (((k + 2 : Nat) : Int) == (n : Int)) = false := by rw [beq_eq_false_iff_ne]; omega
                  have hp1 : (0 : Int) ≤ ((k + 2 : Nat) : Int) := by omega
                  have hp2 : ((k + 2 : Nat) : Int) < n := by omega
                  clear hab2 hwf2 hend
                  generalize htp : T.getD (k + 2) t0 = tp at *
                  obtain ⟨kp, Xp, pp⟩ := tp
                  simp only at HMc
                  go_wp2_with (at_builtin; refine list_in (A := ns) rfl _ _ rfl rfl (HO2.out.alloc _) (by have := HP2.out.bel.size; simp; omega) _ (-xv) rfl (HasC.new _ _ _) (by rw [HNl.out]; omega) ?_; intro g4 cap4 V4 hown hk4 hold; have HP4 := hide (HN0.out.of_start (hold W (bel HP2.out.bel (bel1 _ _)) rfl)); have HR4 := hide (show V4.ownsRow W.heap.size 3 1 (.slice (some ⟨g4, 0, none⟩) (ns ++ [-xv]).length cap4) (ns ++ [-xv]).length (in64 (ns ++ [-xv])) by rw [List.length_append] at hown ⊢; exact hown); clear hown hk4 hold; rw [HNl.out]; obtain ⟨gp, offp, heqp, r0, r1, r2⟩ := HP4.out.tz.at hlt2; cases heqp; rw [htp] at r0 r1 r2; simp only at r0 r1 r2)
                  refine (qmark_any kp pp Xp [44] _).mono ?_
                  rw [HMc.out]
                  rintro e V5 ⟨rfl, hb⟩
                  have HP5 := hide (HP4.out.later hb)
                  have HR5 := hide (owns_kp HR4.out (Kp.of_below [] hb) (by simp))
                  clear hb HP4 HR4 r0 r1 r2
                  by_cases hc : ab ⟨kp, Xp, pp⟩ = .comma
                  · rw [decide_eq_true hc]
                    rw [hc] at HD2
                    have HSq2 := hide (show sqN (!false) L = (sqN (!false || (ns ++ [-xv]).length != 0) (L.drop (k + 2 + 1))).map ((ns ++ [-xv]) ++ ·) by
                      rw [HSq.out, sqN_more (by rw [HIt.out, HD2.out])]
                      have e1 : (!false || (ns ++ [-xv]).length != 0) = true := by simp
                      rw [e1]
                      cases sqN true (L.drop (k + 2 + 1)) <;> simp)
                    clear hc HSq HIt
                    go_wp2_with fail
                    go_roundw
                    case rel => exact ⟨k + 2 + 1, ns ++ [-xv], l + 1, by omega, by omega, by first | rfl | go_num, hide (by rw [List.length_append, HNl.out]; rfl), hide (by have h := HR5.out; rw [List.length_append, HNl.out] at h ⊢; exact h), hide HSq2.out, hide HP5.out⟩
                    case measure => simp [intOf]; omega
                  · rw [decide_eq_false hc]
                    have HNo := hide (nb_no (show sqN (!false) L = none by rw [HSq.out, sqN_bad (by rw [HIt.out, HD2.out]) hc]; rfl))
                    clear hc
                    go_wp2_with fail
                    go_ret2
                    exact PX.no HNo.out HP5.out.ma'.old

              · have HNo := hide (nb_no (show sqN (!false) L = none by rw [HSq.out, HD.out, HDu.out, sqN_none (it_minus_bad (not_num HWu.out hku))]; rfl))
                have hku' : (ku != 1) = true := by simpa using hku
                clear hku
                go_wp2_with fail
                go_ret2
                exact PX.no HNo.out HP2.out.ma'.old
            · obtain rfl : n = k + 1 := by omega
              have HNo := hide (nb_no (show sqN (!false) L = none by rw [HSq.out, HD.out, List.drop_of_length_le (by rw [HLl.out]; exact Nat.le_refl _), sqN_none it_minus_end]; rfl))
              go_wp2_with fail
              go_ret2
              exact PX.no HNo.out HP2.out.ma'.old
          | true =>
            have hl1 : (0 : Int) < (l : Int) := by rcases hm2 with h | h; cases h; omega
            clear hm2
            go_wp2_with fail
            refine HQ1.out.mono ?_
            rintro e V2 ⟨rfl, hb⟩
            have HP2 := hide (HP.out.later hb)
            have HO2 := hide (show V2.ownsRow W.heap.size 3 1 (.slice oa l oc) ns.length (in64 ns) by have h := owns_kp HO.out (Kp.of_below [] hb) (by simp); rw [hnl] at h ⊢; exact h)
            clear hb HP HO e0 e1 e2 HF
            by_cases hlt1 : k + 1 < n
            · obtain ⟨gu, offu, hequ, u0, u1, u2⟩ := HP2.out.tz.at hlt1
              cases hequ
              obtain ⟨hwfu, habu⟩ := wf_at HWf.out (i := k + 1) (by rw [HTl.out]; exact hlt1)
              rw [HL.out] at habu
              have HDu := hide (drop_at habu)
              have HWu := hide hwfu
              have hk5 : (0 : Int) ≤ ((k + 1 : Nat) : Int) := by omega
              have hk6 : ((k + 1 : Nat) : Int) < n := by omega
              have hk7 : (0 : Int) ≤ (k : Int) + 1 := by omega
              have hk8 : (k : Int) + 1 < n := by omega
              clear habu hwfu
              generalize htu : T.getD (k + 1) t0 = tu at *
              clear htu
              obtain ⟨ku, Xu, pu⟩ := tu
              simp only at u0 u1 u2
              by_cases hku : ku = 1
              · subst hku
                obtain ⟨hnum, habn⟩ := wf_num HWu.out rfl
                rw [habn] at HDu
                have hbd := num_bound hnum
                have hnv := nv_of hnum
                simp only at hnum habn hbd hnv
                have HNm := hide fun W => rnumber_any (sB Xu) W (by rw [sB_size]; unfold maxLen; omega)
                rw [bs_sB, hnv, hnum] at HNm
                generalize hxv : vl Xu = xv at *
                have HIt := hide (show it1 true (L.drop k) = some (-xv, L.drop (k + 2)) by rw [HD.out, HDu.out]; exact it_minus)
                obtain ⟨hbd0, hbd1, hbd2⟩ := hbd
                have hng : IntKind.i64.wrap (-xv) = -xv := IntWalk.i64_in _ ⟨by omega, by omega⟩
                clear habn hnv hnum hxv hbd0
                go_wp2_with fail
                refine (HNm.out _).mono ?_
                rintro e V3 ⟨rfl, rfl⟩
                clear u0 u1 u2
                by_cases hend : k + 2 = n
                · have HFi := hide (show sqN (!true) L = some (ns ++ [-xv]) by rw [HSq.out, sqN_last (by rw [HIt.out, List.drop_of_length_le (by rw [HLl.out]; omega)])]; rfl)
                  have HFl := hide (show (ns ++ [-xv]).length = l + 1 by rw [List.length_append, HNl.out]; rfl)
                  have hendi : (((k + 2 : Nat) : Int) == (n : Int)) = true := by rw [beq_iff_eq]; omega
                  have hendj : ((k : Int) + 1 + 1) = (n : Int) := by omega
                  clear HSq HIt HD
                  go_upto_region 17 with (at_builtin; refine list_in (A := ns) rfl _ _ rfl rfl (HO2.out.alloc _) (by have := HP2.out.bel.size; simp; omega) _ (-xv) rfl (HasC.new _ _ _) (by rw [HNl.out]; omega) ?_; intro g4 cap4 V4 hown hk4 hold; have HP4 := hide (HN0.out.of_start (hold W (bel HP2.out.bel (bel1 _ _)) rfl)); have HR4 := hide (show V4.ownsRow W.heap.size 3 1 (.slice (some ⟨g4, 0, none⟩) (ns ++ [-xv]).length cap4) (ns ++ [-xv]).length (in64 (ns ++ [-xv])) by rw [List.length_append] at hown ⊢; exact hown); clear hown hk4 hold; rw [HNl.out])
                  rw [show l + 1 = (ns ++ [-xv]).length from HFl.out.symm]
                  generalize ns ++ [-xv] = F at *
                  clear hend hendi hendj
                  go_upto_region 18 with fail
                  have HNa : Hid (Na w W (V4.alloc (.cells (pl4 0 0 0 0) 35)) b nv bv dv root NM BS NS F g4 cap4 V4.heap.size 0 0 0 0) := hide ⟨HP4.out.ma'.later (bel1 _ _), HR4.out.alloc _, HasC.new _ _ _, Kp.of_below SM (bel HP4.out.bel (bel1 _ _)), HP4.out.bel.size⟩
                  clear HR4 HP4
                  generalize V4.heap.size = p at *
                  generalize V4.alloc (.cells (pl4 0 0 0 0) 35) = V5 at *
                  have hfl := HFl.out
                  match F, HFi, HNa, hfl with
                  | [], HFi, HNa, hfl => exact absurd HFi.out sqN_ne
                  | [b0], HFi, HNa, hfl =>
                    have HNo := hide (nb_fin HFi.out rfl)
                    simp only [List.length_cons, List.length_nil, Nat.zero_add, Nat.reduceAdd] at ⊢
                    clear hfl HFl
                    have c0 := ints_at HNa.out.row (i := 0) (x := b0) rfl
                    obtain ⟨p0, p1, p2, p3⟩ := facts4p HNa.out.pl
                    obtain ⟨s0, s1, s2, s3⟩ := free4p HNa.out.pl
                    have hw0 : w.heap.size ≤ W.heap.size := HN0.out.ma'.old.size
                    have HN1 := hide (HNa.out.set hw0 0 b0 (pb' := b0) (pc' := 0) (px' := 0) (py' := 0) rfl)
                    have q0 := HN1.out.pl.cell 0 rfl
                    by_cases hcn : cap4 = 1
                    · subst hcn
                      go_wp2_with fail
                      all_goals
                        go_ret2
                        exact PX.no HNo.out HN1.out.ma'.old
                    · go_wp2_with fail
                      all_goals
                        go_ret2
                        exact PX.no HNo.out HN1.out.ma'.old
                  | [b0, x0], HFi, HNa, hfl =>
                    simp only [List.length_cons, List.length_nil, Nat.zero_add, Nat.reduceAdd] at ⊢
                    clear hfl HFl
                    have c0 := ints_at HNa.out.row (i := 0) (x := b0) rfl
                    have c1 := ints_at HNa.out.row (i := 1) (x := x0) rfl
                    obtain ⟨p0, p1, p2, p3⟩ := facts4p HNa.out.pl
                    obtain ⟨s0, s1, s2, s3⟩ := free4p HNa.out.pl
                    have hca := na_cap HNa.out
                    simp only [List.length_cons, List.length_nil, Nat.zero_add, Nat.reduceAdd] at hca
                    obtain ⟨hca1, hca2⟩ := hca
                    have hw0 : w.heap.size ≤ W.heap.size := HN0.out.ma'.old.size
                    have hcn : ¬ cap4 = 1 := by omega
                    by_cases hb0 : b0 = 0
                    · subst hb0
                      have HNo := hide (nb_fin HFi.out rfl)
                      have HOl := hide (HNa.out.set hw0 0 0 rfl).ma'.old
                      have q0 := (HNa.out.set hw0 0 0 (pb' := 0) (pc' := 0) (px' := 0) (py' := 0) rfl).pl.cell 0 rfl
                      go_wp2_with fail
                      go_ret2
                      exact PX.no HNo.out HOl.out
                    · have HNy := hide (nb_yes HFi.out (ex := .leaf (lf 3 0 b0 1 x0 0)) (by simp [finN, hb0]))
                      have hb1 : (b0 == 0) = false := by simpa using hb0
                      have HN1 := hide (HNa.out.set hw0 0 b0 (pb' := b0) (pc' := 0) (px' := 0) (py' := 0) rfl)
                      have q0 := HN1.out.pl.cell 0 rfl
                      go_upto_region 23 with fail
                      clear HNa p0 p1 p2 p3 s0 s1 s2 s3 q0 c0 c1 hb0 hb1
                      generalize V5.setCell ⟨p, 0, none⟩ (.int .i64 b0) = V6 at *
                      have c0 := ints_at HN1.out.row (i := 0) (x := b0) rfl
                      have c1 := ints_at HN1.out.row (i := 1) (x := x0) rfl
                      obtain ⟨p0, p1, p2, p3⟩ := facts4p HN1.out.pl
                      obtain ⟨s0, s1, s2, s3⟩ := free4p HN1.out.pl
                      have HN2 := hide (((HN1.out.set hw0 1 1 (pb' := b0) (pc' := 1) (px' := 0) (py' := 0) rfl).set hw0 2 x0 (pb' := b0) (pc' := 1) (px' := x0) (py' := 0) rfl).later (below_drew _))
                      have k0 := ints_at (HN1.out.set hw0 1 1 (pb' := b0) (pc' := 1) (px' := 0) (py' := 0) rfl).row (i := 1) (x := x0) rfl
                      go_wp2_with fail
                      go_region
                      clear k0
                      clear HN1 p0 p1 p2 p3 s0 s1 s2 s3 c0 c1
                      generalize hV7 : ((V6.setCell ⟨p, 1, none⟩ (.int .i64 1)).setCell ⟨p, 2, none⟩ (.int .i64 x0)).drew = V7 at *
                      clear hV7
                      have c0 := ints_at HN2.out.row (i := 0) (x := b0) rfl
                      have c1 := ints_at HN2.out.row (i := 1) (x := x0) rfl
                      obtain ⟨p0, p1, p2, p3⟩ := facts4p HN2.out.pl
                      obtain ⟨s0, s1, s2, s3⟩ := free4p HN2.out.pl
                      have HAd := hide (madd_any HN2.out.ma' (lf 3 0 b0 1 x0 0) (by omega))
                      go_wp2_with fail
                      refine HAd.out.mono ?_
                      rintro e V9 ⟨rfl, ⟨dv9, hm9⟩, hk9⟩
                      have HM9 := hide hm9
                      have HK9 := hide (HN2.out.kp.trans hk9)
                      clear hm9 hk9
                      go_wp2_with fail
                      refine bodyPost_ret (v := .tuple #[.int .i64 (NS.length : Int), .bool true]) (by simp [results, Try.results81, go_sem]) rfl (.inl ⟨_, HNy.out, ?_, ⟨dv9, HM9.out⟩, HK9.out⟩)
                      exact ret_pt (by simp only [E.size]; omega)
                  | [b0, x0, y0], HFi, HNa, hfl =>
                    simp only [List.length_cons, List.length_nil, Nat.zero_add, Nat.reduceAdd] at ⊢
                    clear hfl HFl
                    have c0 := ints_at HNa.out.row (i := 0) (x := b0) rfl
                    have c1 := ints_at HNa.out.row (i := 1) (x := x0) rfl
                    have c2 := ints_at HNa.out.row (i := 2) (x := y0) rfl
                    obtain ⟨p0, p1, p2, p3⟩ := facts4p HNa.out.pl
                    obtain ⟨s0, s1, s2, s3⟩ := free4p HNa.out.pl
                    have hca := na_cap HNa.out
                    simp only [List.length_cons, List.length_nil, Nat.zero_add, Nat.reduceAdd] at hca
                    obtain ⟨hca1, hca2⟩ := hca
                    have hw0 : w.heap.size ≤ W.heap.size := HN0.out.ma'.old.size
                    have hcn : ¬ cap4 = 1 := by omega
                    by_cases hb0 : b0 = 0
                    · subst hb0
                      have HNo := hide (nb_fin HFi.out rfl)
                      have HOl := hide (HNa.out.set hw0 0 0 rfl).ma'.old
                      have q0 := (HNa.out.set hw0 0 0 (pb' := 0) (pc' := 0) (px' := 0) (py' := 0) rfl).pl.cell 0 rfl
                      go_wp2_with fail
                      go_ret2
                      exact PX.no HNo.out HOl.out
                    · have HNy := hide (nb_yes HFi.out (ex := .leaf (lf 3 0 b0 2 x0 y0)) (by simp [finN, hb0]))
                      have hb1 : (b0 == 0) = false := by simpa using hb0
                      have HN1 := hide (HNa.out.set hw0 0 b0 (pb' := b0) (pc' := 0) (px' := 0) (py' := 0) rfl)
                      have q0 := HN1.out.pl.cell 0 rfl
                      go_upto_region 23 with fail
                      clear HNa p0 p1 p2 p3 s0 s1 s2 s3 q0 c0 c1 c2 hb0 hb1
                      generalize V5.setCell ⟨p, 0, none⟩ (.int .i64 b0) = V6 at *
                      have c0 := ints_at HN1.out.row (i := 0) (x := b0) rfl
                      have c1 := ints_at HN1.out.row (i := 1) (x := x0) rfl
                      have c2 := ints_at HN1.out.row (i := 2) (x := y0) rfl
                      obtain ⟨p0, p1, p2, p3⟩ := facts4p HN1.out.pl
                      obtain ⟨s0, s1, s2, s3⟩ := free4p HN1.out.pl
                      have HN2 := hide (((HN1.out.set hw0 1 2 (pb' := b0) (pc' := 2) (px' := 0) (py' := 0) rfl).set hw0 2 x0 (pb' := b0) (pc' := 2) (px' := x0) (py' := 0) rfl).later (below_drew _))
                      have k0 := ints_at (HN1.out.set hw0 1 2 (pb' := b0) (pc' := 2) (px' := 0) (py' := 0) rfl).row (i := 1) (x := x0) rfl
                      go_wp2_with fail
                      go_region
                      clear k0
                      clear HN1 p0 p1 p2 p3 s0 s1 s2 s3 c0 c1 c2
                      generalize hV7 : ((V6.setCell ⟨p, 1, none⟩ (.int .i64 2)).setCell ⟨p, 2, none⟩ (.int .i64 x0)).drew = V7 at *
                      clear hV7
                      have c0 := ints_at HN2.out.row (i := 0) (x := b0) rfl
                      have c1 := ints_at HN2.out.row (i := 1) (x := x0) rfl
                      have c2 := ints_at HN2.out.row (i := 2) (x := y0) rfl
                      obtain ⟨p0, p1, p2, p3⟩ := facts4p HN2.out.pl
                      obtain ⟨s0, s1, s2, s3⟩ := free4p HN2.out.pl
                      have HN3 := hide (HN2.out.set hw0 3 y0 (pb' := b0) (pc' := 2) (px' := x0) (py' := y0) rfl)
                      go_upto_region 28 with fail
                      clear HN2 p0 p1 p2 p3 s0 s1 s2 s3 c0 c1 c2
                      generalize V7.setCell ⟨p, 3, none⟩ (.int .i64 y0) = V8 at *
                      obtain ⟨p0, p1, p2, p3⟩ := facts4p HN3.out.pl
                      have HAd := hide (madd_any HN3.out.ma' (lf 3 0 b0 2 x0 y0) (by omega))
                      go_wp2_with fail
                      refine HAd.out.mono ?_
                      rintro e V9 ⟨rfl, ⟨dv9, hm9⟩, hk9⟩
                      have HM9 := hide hm9
                      have HK9 := hide (HN3.out.kp.trans hk9)
                      clear hm9 hk9
                      go_wp2_with fail
                      refine bodyPost_ret (v := .tuple #[.int .i64 (NS.length : Int), .bool true]) (by simp [results, Try.results81, go_sem]) rfl (.inl ⟨_, HNy.out, ?_, ⟨dv9, HM9.out⟩, HK9.out⟩)
                      exact ret_pt (by simp only [E.size]; omega)
                  | b0 :: x0 :: y0 :: z0 :: r, HFi, HNa, hfl =>
                    have HNo := hide (nb_fin HFi.out (by simp [finN]))
                    obtain ⟨fl, hfl2⟩ : ∃ m, (b0 :: x0 :: y0 :: z0 :: r).length = m := ⟨_, rfl⟩
                    have hf3 : 4 ≤ fl := by rw [← hfl2]; simp
                    rw [hfl2]
                    clear hfl HFl
                    have c0 := ints_at HNa.out.row (i := 0) (x := b0) rfl
                    obtain ⟨p0, p1, p2, p3⟩ := facts4p HNa.out.pl
                    obtain ⟨s0, s1, s2, s3⟩ := free4p HNa.out.pl
                    have hw0 : w.heap.size ≤ W.heap.size := HN0.out.ma'.old.size
                    have HN1 := hide (HNa.out.set hw0 0 b0 (pb' := b0) (pc' := 0) (px' := 0) (py' := 0) rfl)
                    have q0 := HN1.out.pl.cell 0 rfl
                    have hca := na_cap HNa.out
                    rw [hfl2] at hca
                    obtain ⟨hca1, hca2⟩ := hca
                    have hcn : ¬ cap4 = 1 := by omega
                    have h1 : (1 : Int) ≤ fl := by omega
                    have h2 : ¬ (((fl - 1 : Nat) : Int) < 1) := by omega
                    have h3 : (2 : Int) < ((fl - 1 : Nat) : Int) := by omega
                    clear hfl2
                    go_wp2_with fail
                    all_goals
                      go_ret2
                      exact PX.no HNo.out HN1.out.ma'.old

                · have hlt2 : k + 2 < n := by omega
                  obtain ⟨hwf2, hab2⟩ := wf_at HWf.out (i := k + 2) (by rw [HTl.out]; exact hlt2)
                  rw [HL.out] at hab2
                  have HD2 := hide (drop_at hab2)
                  have HMc := hide (mark_ab hwf2 (s := [44]) (by decide))
                  rw [show mkT [44] = .comma by decide] at HMc
                  have hnei : (((k + 2 : Nat) : Int) == (n : Int)) = false := by rw [beq_eq_false_iff_ne]; omega
                  have hp1 : (0 : Int) ≤ ((k + 2 : Nat) : Int) := by omega
                  have hp2 : ((k + 2 : Nat) : Int) < n := by omega
                  clear hab2 hwf2 hend
                  generalize htp : T.getD (k + 2) t0 = tp at *
                  obtain ⟨kp, Xp, pp⟩ := tp
                  simp only at HMc
                  go_wp2_with (at_builtin; refine list_in (A := ns) rfl _ _ rfl rfl (HO2.out.alloc _) (by have := HP2.out.bel.size; simp; omega) _ (-xv) rfl (HasC.new _ _ _) (by rw [HNl.out]; omega) ?_; intro g4 cap4 V4 hown hk4 hold; have HP4 := hide (HN0.out.of_start (hold W (bel HP2.out.bel (bel1 _ _)) rfl)); have HR4 := hide (show V4.ownsRow W.heap.size 3 1 (.slice (some ⟨g4, 0, none⟩) (ns ++ [-xv]).length cap4) (ns ++ [-xv]).length (in64 (ns ++ [-xv])) by rw [List.length_append] at hown ⊢; exact hown); clear hown hk4 hold; rw [HNl.out]; obtain ⟨gp, offp, heqp, r0, r1, r2⟩ := HP4.out.tz.at hlt2; cases heqp; rw [htp] at r0 r1 r2; simp only at r0 r1 r2)
                  refine (qmark_any kp pp Xp [44] _).mono ?_
                  rw [HMc.out]
                  rintro e V5 ⟨rfl, hb⟩
                  have HP5 := hide (HP4.out.later hb)
                  have HR5 := hide (owns_kp HR4.out (Kp.of_below [] hb) (by simp))
                  clear hb HP4 HR4 r0 r1 r2
                  by_cases hc : ab ⟨kp, Xp, pp⟩ = .comma
                  · rw [decide_eq_true hc]
                    rw [hc] at HD2
                    have HSq2 := hide (show sqN (!true) L = (sqN (!true || (ns ++ [-xv]).length != 0) (L.drop (k + 2 + 1))).map ((ns ++ [-xv]) ++ ·) by
                      rw [HSq.out, sqN_more (by rw [HIt.out, HD2.out])]
                      have e1 : (!true || (ns ++ [-xv]).length != 0) = true := by simp
                      rw [e1]
                      cases sqN true (L.drop (k + 2 + 1)) <;> simp)
                    clear hc HSq HIt
                    go_wp2_with fail
                    go_roundw
                    case rel => exact ⟨k + 2 + 1, ns ++ [-xv], l + 1, by omega, by omega, by first | rfl | go_num, hide (by rw [List.length_append, HNl.out]; rfl), hide (by have h := HR5.out; rw [List.length_append, HNl.out] at h ⊢; exact h), hide HSq2.out, hide HP5.out⟩
                    case measure => simp [intOf]; omega
                  · rw [decide_eq_false hc]
                    have HNo := hide (nb_no (show sqN (!true) L = none by rw [HSq.out, sqN_bad (by rw [HIt.out, HD2.out]) hc]; rfl))
                    clear hc
                    go_wp2_with fail
                    go_ret2
                    exact PX.no HNo.out HP5.out.ma'.old

              · have HNo := hide (nb_no (show sqN (!true) L = none by rw [HSq.out, HD.out, HDu.out, sqN_none (it_minus_bad (not_num HWu.out hku))]; rfl))
                have hku' : (ku != 1) = true := by simpa using hku
                clear hku
                go_wp2_with fail
                go_ret2
                exact PX.no HNo.out HP2.out.ma'.old
            · obtain rfl : n = k + 1 := by omega
              have HNo := hide (nb_no (show sqN (!true) L = none by rw [HSq.out, HD.out, List.drop_of_length_le (by rw [HLl.out]; exact Nat.le_refl _), sqN_none it_minus_end]; rfl))
              go_wp2_with fail
              go_ret2
              exact PX.no HNo.out HP2.out.ma'.old

      · rw [decide_eq_false h1] at HQ1
        by_cases hkd : kd = 1
        · subst hkd
          obtain ⟨hnum, habn⟩ := wf_num HW1.out rfl
          rw [habn] at HD
          have hbd := num_bound hnum
          have hnv := nv_of hnum
          simp only at hnum habn hbd hnv
          have HNm := hide fun W => rnumber_any (sB X) W (by rw [sB_size]; unfold maxLen; omega)
          rw [bs_sB, hnv, hnum] at HNm
          generalize hxv : vl X = xv at *
          have HIt := hide (show it1 m (L.drop k) = some (xv, L.drop (k + 1)) by rw [HD.out]; exact it_num)
          clear habn hnv hnum h1 hxv HM1 hm
          go_wp2_with fail
          refine HQ1.out.mono ?_
          rintro e V2 ⟨rfl, hb⟩
          obtain ⟨f0, f1, f2⟩ := HF.out V2 hb
          have HP2 := hide (HP.out.later hb)
          have HO2 := hide (show V2.ownsRow W.heap.size 3 1 (.slice oa l oc) ns.length (in64 ns) by have h := owns_kp HO.out (Kp.of_below [] hb) (by simp); rw [hnl] at h ⊢; exact h)
          clear hb HP HO e0 e1 e2
          go_wp2_with fail
          refine (HNm.out _).mono ?_
          rintro e V3 ⟨rfl, rfl⟩
          clear f0 f1 f2
          by_cases hend : k + 1 = n
          · have HFi := hide (show sqN (!q) L = some (ns ++ [xv]) by rw [HSq.out, sqN_last (by rw [HIt.out, List.drop_of_length_le (by rw [HLl.out]; omega)])]; rfl)
            have HFl := hide (show (ns ++ [xv]).length = l + 1 by rw [List.length_append, HNl.out]; rfl)
            have hendi : (((k + 1 : Nat) : Int) == (n : Int)) = true := by rw [beq_iff_eq]; omega
            have hendj : ((k : Int) + 1) = (n : Int) := by omega
            clear HSq HIt HD
            go_upto_region 17 with (at_builtin; refine list_in (A := ns) rfl _ _ rfl rfl (HO2.out.alloc _) (by have := HP2.out.bel.size; simp; omega) _ (xv) rfl (HasC.new _ _ _) (by rw [HNl.out]; omega) ?_; intro g4 cap4 V4 hown hk4 hold; have HP4 := hide (HN0.out.of_start (hold W (bel HP2.out.bel (bel1 _ _)) rfl)); have HR4 := hide (show V4.ownsRow W.heap.size 3 1 (.slice (some ⟨g4, 0, none⟩) (ns ++ [xv]).length cap4) (ns ++ [xv]).length (in64 (ns ++ [xv])) by rw [List.length_append] at hown ⊢; exact hown); clear hown hk4 hold; rw [HNl.out])
            rw [show l + 1 = (ns ++ [xv]).length from HFl.out.symm]
            generalize ns ++ [xv] = F at *
            clear hend hendi hendj
            go_upto_region 18 with fail
            have HNa : Hid (Na w W (V4.alloc (.cells (pl4 0 0 0 0) 35)) b nv bv dv root NM BS NS F g4 cap4 V4.heap.size 0 0 0 0) := hide ⟨HP4.out.ma'.later (bel1 _ _), HR4.out.alloc _, HasC.new _ _ _, Kp.of_below SM (bel HP4.out.bel (bel1 _ _)), HP4.out.bel.size⟩
            clear HR4 HP4
            generalize V4.heap.size = p at *
            generalize V4.alloc (.cells (pl4 0 0 0 0) 35) = V5 at *
            have hfl := HFl.out
            cases q with
            | false =>
              match F, HFi, HNa, hfl with
              | [], HFi, HNa, hfl => exact absurd HFi.out sqN_ne
              | [x0], HFi, HNa, hfl =>
                simp only [List.length_cons, List.length_nil, Nat.zero_add, Nat.reduceAdd] at ⊢
                clear hfl HFl
                have c0 := ints_at HNa.out.row (i := 0) (x := x0) rfl
                obtain ⟨p0, p1, p2, p3⟩ := facts4p HNa.out.pl
                obtain ⟨s0, s1, s2, s3⟩ := free4p HNa.out.pl
                have hca := na_cap HNa.out
                simp only [List.length_cons, List.length_nil, Nat.zero_add, Nat.reduceAdd] at hca
                obtain ⟨hca1, hca2⟩ := hca
                have hw0 : w.heap.size ≤ W.heap.size := HN0.out.ma'.old.size
                have HNy := hide (nb_yes HFi.out (ex := .leaf (lf 3 0 0 1 x0 0)) rfl)
                have HN1 := hide HNa.out
                clear HNa
                obtain ⟨V6, hV6⟩ : ∃ V, V5 = V := ⟨_, rfl⟩
                subst hV6
                have HN2 := hide (((HN1.out.set hw0 1 1 (pb' := 0) (pc' := 1) (px' := 0) (py' := 0) rfl).set hw0 2 x0 (pb' := 0) (pc' := 1) (px' := x0) (py' := 0) rfl).later (below_drew _))
                have k0 := ints_at (HN1.out.set hw0 1 1 (pb' := 0) (pc' := 1) (px' := 0) (py' := 0) rfl).row (i := 0) (x := x0) rfl
                go_wp2_with fail
                go_region
                clear k0
                clear HN1 p0 p1 p2 p3 s0 s1 s2 s3 c0
                generalize hV7 : ((V5.setCell ⟨p, 1, none⟩ (.int .i64 1)).setCell ⟨p, 2, none⟩ (.int .i64 x0)).drew = V7 at *
                clear hV7
                have c0 := ints_at HN2.out.row (i := 0) (x := x0) rfl
                obtain ⟨p0, p1, p2, p3⟩ := facts4p HN2.out.pl
                obtain ⟨s0, s1, s2, s3⟩ := free4p HN2.out.pl
                have HAd := hide (madd_any HN2.out.ma' (lf 3 0 0 1 x0 0) (by omega))
                go_wp2_with fail
                refine HAd.out.mono ?_
                rintro e V9 ⟨rfl, ⟨dv9, hm9⟩, hk9⟩
                have HM9 := hide hm9
                have HK9 := hide (HN2.out.kp.trans hk9)
                clear hm9 hk9
                go_wp2_with fail
                refine bodyPost_ret (v := .tuple #[.int .i64 (NS.length : Int), .bool true]) (by simp [results, Try.results81, go_sem]) rfl (.inl ⟨_, HNy.out, ?_, ⟨dv9, HM9.out⟩, HK9.out⟩)
                exact ret_pt (by simp only [E.size]; omega)
              | [x0, y0], HFi, HNa, hfl =>
                simp only [List.length_cons, List.length_nil, Nat.zero_add, Nat.reduceAdd] at ⊢
                clear hfl HFl
                have c0 := ints_at HNa.out.row (i := 0) (x := x0) rfl
                have c1 := ints_at HNa.out.row (i := 1) (x := y0) rfl
                obtain ⟨p0, p1, p2, p3⟩ := facts4p HNa.out.pl
                obtain ⟨s0, s1, s2, s3⟩ := free4p HNa.out.pl
                have hca := na_cap HNa.out
                simp only [List.length_cons, List.length_nil, Nat.zero_add, Nat.reduceAdd] at hca
                obtain ⟨hca1, hca2⟩ := hca
                have hw0 : w.heap.size ≤ W.heap.size := HN0.out.ma'.old.size
                have HNy := hide (nb_yes HFi.out (ex := .leaf (lf 3 0 0 2 x0 y0)) rfl)
                have HN1 := hide HNa.out
                clear HNa
                obtain ⟨V6, hV6⟩ : ∃ V, V5 = V := ⟨_, rfl⟩
                subst hV6
                have HN2 := hide (((HN1.out.set hw0 1 2 (pb' := 0) (pc' := 2) (px' := 0) (py' := 0) rfl).set hw0 2 x0 (pb' := 0) (pc' := 2) (px' := x0) (py' := 0) rfl).later (below_drew _))
                have k0 := ints_at (HN1.out.set hw0 1 2 (pb' := 0) (pc' := 2) (px' := 0) (py' := 0) rfl).row (i := 0) (x := x0) rfl
                go_wp2_with fail
                go_region
                clear k0
                clear HN1 p0 p1 p2 p3 s0 s1 s2 s3 c0 c1
                generalize hV7 : ((V5.setCell ⟨p, 1, none⟩ (.int .i64 2)).setCell ⟨p, 2, none⟩ (.int .i64 x0)).drew = V7 at *
                clear hV7
                have c0 := ints_at HN2.out.row (i := 0) (x := x0) rfl
                have c1 := ints_at HN2.out.row (i := 1) (x := y0) rfl
                obtain ⟨p0, p1, p2, p3⟩ := facts4p HN2.out.pl
                obtain ⟨s0, s1, s2, s3⟩ := free4p HN2.out.pl
                have HN3 := hide (HN2.out.set hw0 3 y0 (pb' := 0) (pc' := 2) (px' := x0) (py' := y0) rfl)
                go_upto_region 28 with fail
                clear HN2 p0 p1 p2 p3 s0 s1 s2 s3 c0 c1
                generalize V7.setCell ⟨p, 3, none⟩ (.int .i64 y0) = V8 at *
                obtain ⟨p0, p1, p2, p3⟩ := facts4p HN3.out.pl
                have HAd := hide (madd_any HN3.out.ma' (lf 3 0 0 2 x0 y0) (by omega))
                go_wp2_with fail
                refine HAd.out.mono ?_
                rintro e V9 ⟨rfl, ⟨dv9, hm9⟩, hk9⟩
                have HM9 := hide hm9
                have HK9 := hide (HN3.out.kp.trans hk9)
                clear hm9 hk9
                go_wp2_with fail
                refine bodyPost_ret (v := .tuple #[.int .i64 (NS.length : Int), .bool true]) (by simp [results, Try.results81, go_sem]) rfl (.inl ⟨_, HNy.out, ?_, ⟨dv9, HM9.out⟩, HK9.out⟩)
                exact ret_pt (by simp only [E.size]; omega)
              | x0 :: y0 :: z0 :: r, HFi, HNa, hfl =>
                have HNo := hide (nb_fin HFi.out (by simp [finN]))
                obtain ⟨fl, hfl2⟩ : ∃ m, (x0 :: y0 :: z0 :: r).length = m := ⟨_, rfl⟩
                have hf3 : 3 ≤ fl := by rw [← hfl2]; simp
                rw [hfl2]
                clear hfl HFl
                have h2 : ¬ ((fl : Int) < 1) := by omega
                have h3 : (2 : Int) < (fl : Int) := by omega
                clear hfl2
                go_wp2_with fail
                go_ret2
                exact PX.no HNo.out HNa.out.ma'.old
            | true =>
              match F, HFi, HNa, hfl with
              | [], HFi, HNa, hfl => exact absurd HFi.out sqN_ne
              | [b0], HFi, HNa, hfl =>
                have HNo := hide (nb_fin HFi.out rfl)
                simp only [List.length_cons, List.length_nil, Nat.zero_add, Nat.reduceAdd] at ⊢
                clear hfl HFl
                have c0 := ints_at HNa.out.row (i := 0) (x := b0) rfl
                obtain ⟨p0, p1, p2, p3⟩ := facts4p HNa.out.pl
                obtain ⟨s0, s1, s2, s3⟩ := free4p HNa.out.pl
                have hw0 : w.heap.size ≤ W.heap.size := HN0.out.ma'.old.size
                have HN1 := hide (HNa.out.set hw0 0 b0 (pb' := b0) (pc' := 0) (px' := 0) (py' := 0) rfl)
                have q0 := HN1.out.pl.cell 0 rfl
                by_cases hcn : cap4 = 1
                · subst hcn
                  go_wp2_with fail
                  all_goals
                    go_ret2
                    exact PX.no HNo.out HN1.out.ma'.old
                · go_wp2_with fail
                  all_goals
                    go_ret2
                    exact PX.no HNo.out HN1.out.ma'.old
              | [b0, x0], HFi, HNa, hfl =>
                simp only [List.length_cons, List.length_nil, Nat.zero_add, Nat.reduceAdd] at ⊢
                clear hfl HFl
                have c0 := ints_at HNa.out.row (i := 0) (x := b0) rfl
                have c1 := ints_at HNa.out.row (i := 1) (x := x0) rfl
                obtain ⟨p0, p1, p2, p3⟩ := facts4p HNa.out.pl
                obtain ⟨s0, s1, s2, s3⟩ := free4p HNa.out.pl
                have hca := na_cap HNa.out
                simp only [List.length_cons, List.length_nil, Nat.zero_add, Nat.reduceAdd] at hca
                obtain ⟨hca1, hca2⟩ := hca
                have hw0 : w.heap.size ≤ W.heap.size := HN0.out.ma'.old.size
                have hcn : ¬ cap4 = 1 := by omega
                by_cases hb0 : b0 = 0
                · subst hb0
                  have HNo := hide (nb_fin HFi.out rfl)
                  have HOl := hide (HNa.out.set hw0 0 0 rfl).ma'.old
                  have q0 := (HNa.out.set hw0 0 0 (pb' := 0) (pc' := 0) (px' := 0) (py' := 0) rfl).pl.cell 0 rfl
                  go_wp2_with fail
                  go_ret2
                  exact PX.no HNo.out HOl.out
                · have HNy := hide (nb_yes HFi.out (ex := .leaf (lf 3 0 b0 1 x0 0)) (by simp [finN, hb0]))
                  have hb1 : (b0 == 0) = false := by simpa using hb0
                  have HN1 := hide (HNa.out.set hw0 0 b0 (pb' := b0) (pc' := 0) (px' := 0) (py' := 0) rfl)
                  have q0 := HN1.out.pl.cell 0 rfl
                  go_upto_region 23 with fail
                  clear HNa p0 p1 p2 p3 s0 s1 s2 s3 q0 c0 c1 hb0 hb1
                  generalize V5.setCell ⟨p, 0, none⟩ (.int .i64 b0) = V6 at *
                  have c0 := ints_at HN1.out.row (i := 0) (x := b0) rfl
                  have c1 := ints_at HN1.out.row (i := 1) (x := x0) rfl
                  obtain ⟨p0, p1, p2, p3⟩ := facts4p HN1.out.pl
                  obtain ⟨s0, s1, s2, s3⟩ := free4p HN1.out.pl
                  have HN2 := hide (((HN1.out.set hw0 1 1 (pb' := b0) (pc' := 1) (px' := 0) (py' := 0) rfl).set hw0 2 x0 (pb' := b0) (pc' := 1) (px' := x0) (py' := 0) rfl).later (below_drew _))
                  have k0 := ints_at (HN1.out.set hw0 1 1 (pb' := b0) (pc' := 1) (px' := 0) (py' := 0) rfl).row (i := 1) (x := x0) rfl
                  go_wp2_with fail
                  go_region
                  clear k0
                  clear HN1 p0 p1 p2 p3 s0 s1 s2 s3 c0 c1
                  generalize hV7 : ((V6.setCell ⟨p, 1, none⟩ (.int .i64 1)).setCell ⟨p, 2, none⟩ (.int .i64 x0)).drew = V7 at *
                  clear hV7
                  have c0 := ints_at HN2.out.row (i := 0) (x := b0) rfl
                  have c1 := ints_at HN2.out.row (i := 1) (x := x0) rfl
                  obtain ⟨p0, p1, p2, p3⟩ := facts4p HN2.out.pl
                  obtain ⟨s0, s1, s2, s3⟩ := free4p HN2.out.pl
                  have HAd := hide (madd_any HN2.out.ma' (lf 3 0 b0 1 x0 0) (by omega))
                  go_wp2_with fail
                  refine HAd.out.mono ?_
                  rintro e V9 ⟨rfl, ⟨dv9, hm9⟩, hk9⟩
                  have HM9 := hide hm9
                  have HK9 := hide (HN2.out.kp.trans hk9)
                  clear hm9 hk9
                  go_wp2_with fail
                  refine bodyPost_ret (v := .tuple #[.int .i64 (NS.length : Int), .bool true]) (by simp [results, Try.results81, go_sem]) rfl (.inl ⟨_, HNy.out, ?_, ⟨dv9, HM9.out⟩, HK9.out⟩)
                  exact ret_pt (by simp only [E.size]; omega)
              | [b0, x0, y0], HFi, HNa, hfl =>
                simp only [List.length_cons, List.length_nil, Nat.zero_add, Nat.reduceAdd] at ⊢
                clear hfl HFl
                have c0 := ints_at HNa.out.row (i := 0) (x := b0) rfl
                have c1 := ints_at HNa.out.row (i := 1) (x := x0) rfl
                have c2 := ints_at HNa.out.row (i := 2) (x := y0) rfl
                obtain ⟨p0, p1, p2, p3⟩ := facts4p HNa.out.pl
                obtain ⟨s0, s1, s2, s3⟩ := free4p HNa.out.pl
                have hca := na_cap HNa.out
                simp only [List.length_cons, List.length_nil, Nat.zero_add, Nat.reduceAdd] at hca
                obtain ⟨hca1, hca2⟩ := hca
                have hw0 : w.heap.size ≤ W.heap.size := HN0.out.ma'.old.size
                have hcn : ¬ cap4 = 1 := by omega
                by_cases hb0 : b0 = 0
                · subst hb0
                  have HNo := hide (nb_fin HFi.out rfl)
                  have HOl := hide (HNa.out.set hw0 0 0 rfl).ma'.old
                  have q0 := (HNa.out.set hw0 0 0 (pb' := 0) (pc' := 0) (px' := 0) (py' := 0) rfl).pl.cell 0 rfl
                  go_wp2_with fail
                  go_ret2
                  exact PX.no HNo.out HOl.out
                · have HNy := hide (nb_yes HFi.out (ex := .leaf (lf 3 0 b0 2 x0 y0)) (by simp [finN, hb0]))
                  have hb1 : (b0 == 0) = false := by simpa using hb0
                  have HN1 := hide (HNa.out.set hw0 0 b0 (pb' := b0) (pc' := 0) (px' := 0) (py' := 0) rfl)
                  have q0 := HN1.out.pl.cell 0 rfl
                  go_upto_region 23 with fail
                  clear HNa p0 p1 p2 p3 s0 s1 s2 s3 q0 c0 c1 c2 hb0 hb1
                  generalize V5.setCell ⟨p, 0, none⟩ (.int .i64 b0) = V6 at *
                  have c0 := ints_at HN1.out.row (i := 0) (x := b0) rfl
                  have c1 := ints_at HN1.out.row (i := 1) (x := x0) rfl
                  have c2 := ints_at HN1.out.row (i := 2) (x := y0) rfl
                  obtain ⟨p0, p1, p2, p3⟩ := facts4p HN1.out.pl
                  obtain ⟨s0, s1, s2, s3⟩ := free4p HN1.out.pl
                  have HN2 := hide (((HN1.out.set hw0 1 2 (pb' := b0) (pc' := 2) (px' := 0) (py' := 0) rfl).set hw0 2 x0 (pb' := b0) (pc' := 2) (px' := x0) (py' := 0) rfl).later (below_drew _))
                  have k0 := ints_at (HN1.out.set hw0 1 2 (pb' := b0) (pc' := 2) (px' := 0) (py' := 0) rfl).row (i := 1) (x := x0) rfl
                  go_wp2_with fail
                  go_region
                  clear k0
                  clear HN1 p0 p1 p2 p3 s0 s1 s2 s3 c0 c1 c2
                  generalize hV7 : ((V6.setCell ⟨p, 1, none⟩ (.int .i64 2)).setCell ⟨p, 2, none⟩ (.int .i64 x0)).drew = V7 at *
                  clear hV7
                  have c0 := ints_at HN2.out.row (i := 0) (x := b0) rfl
                  have c1 := ints_at HN2.out.row (i := 1) (x := x0) rfl
                  have c2 := ints_at HN2.out.row (i := 2) (x := y0) rfl
                  obtain ⟨p0, p1, p2, p3⟩ := facts4p HN2.out.pl
                  obtain ⟨s0, s1, s2, s3⟩ := free4p HN2.out.pl
                  have HN3 := hide (HN2.out.set hw0 3 y0 (pb' := b0) (pc' := 2) (px' := x0) (py' := y0) rfl)
                  go_upto_region 28 with fail
                  clear HN2 p0 p1 p2 p3 s0 s1 s2 s3 c0 c1 c2
                  generalize V7.setCell ⟨p, 3, none⟩ (.int .i64 y0) = V8 at *
                  obtain ⟨p0, p1, p2, p3⟩ := facts4p HN3.out.pl
                  have HAd := hide (madd_any HN3.out.ma' (lf 3 0 b0 2 x0 y0) (by omega))
                  go_wp2_with fail
                  refine HAd.out.mono ?_
                  rintro e V9 ⟨rfl, ⟨dv9, hm9⟩, hk9⟩
                  have HM9 := hide hm9
                  have HK9 := hide (HN3.out.kp.trans hk9)
                  clear hm9 hk9
                  go_wp2_with fail
                  refine bodyPost_ret (v := .tuple #[.int .i64 (NS.length : Int), .bool true]) (by simp [results, Try.results81, go_sem]) rfl (.inl ⟨_, HNy.out, ?_, ⟨dv9, HM9.out⟩, HK9.out⟩)
                  exact ret_pt (by simp only [E.size]; omega)
              | b0 :: x0 :: y0 :: z0 :: r, HFi, HNa, hfl =>
                have HNo := hide (nb_fin HFi.out (by simp [finN]))
                obtain ⟨fl, hfl2⟩ : ∃ m, (b0 :: x0 :: y0 :: z0 :: r).length = m := ⟨_, rfl⟩
                have hf3 : 4 ≤ fl := by rw [← hfl2]; simp
                rw [hfl2]
                clear hfl HFl
                have c0 := ints_at HNa.out.row (i := 0) (x := b0) rfl
                obtain ⟨p0, p1, p2, p3⟩ := facts4p HNa.out.pl
                obtain ⟨s0, s1, s2, s3⟩ := free4p HNa.out.pl
                have hw0 : w.heap.size ≤ W.heap.size := HN0.out.ma'.old.size
                have HN1 := hide (HNa.out.set hw0 0 b0 (pb' := b0) (pc' := 0) (px' := 0) (py' := 0) rfl)
                have q0 := HN1.out.pl.cell 0 rfl
                have hca := na_cap HNa.out
                rw [hfl2] at hca
                obtain ⟨hca1, hca2⟩ := hca
                have hcn : ¬ cap4 = 1 := by omega
                have h1 : (1 : Int) ≤ fl := by omega
                have h2 : ¬ (((fl - 1 : Nat) : Int) < 1) := by omega
                have h3 : (2 : Int) < ((fl - 1 : Nat) : Int) := by omega
                clear hfl2
                go_wp2_with fail
                all_goals
                  go_ret2
                  exact PX.no HNo.out HN1.out.ma'.old

          · have hlt2 : k + 1 < n := by omega
            obtain ⟨hwf2, hab2⟩ := wf_at HWf.out (i := k + 1) (by rw [HTl.out]; exact hlt2)
            rw [HL.out] at hab2
            have HD2 := hide (drop_at hab2)
            have HMc := hide (mark_ab hwf2 (s := [44]) (by decide))
            rw [show mkT [44] = .comma by decide] at HMc
            have hnei : (((k + 1 : Nat) : Int) == (n : Int)) = false := by rw [beq_eq_false_iff_ne]; omega
            have hp1 : (0 : Int) ≤ ((k + 1 : Nat) : Int) := by omega
            have hp2 : ((k + 1 : Nat) : Int) < n := by omega
            clear hab2 hwf2 hend
            generalize htp : T.getD (k + 1) t0 = tp at *
            obtain ⟨kp, Xp, pp⟩ := tp
            simp only at HMc
            go_wp2_with (at_builtin; refine list_in (A := ns) rfl _ _ rfl rfl (HO2.out.alloc _) (by have := HP2.out.bel.size; simp; omega) _ (xv) rfl (HasC.new _ _ _) (by rw [HNl.out]; omega) ?_; intro g4 cap4 V4 hown hk4 hold; have HP4 := hide (HN0.out.of_start (hold W (bel HP2.out.bel (bel1 _ _)) rfl)); have HR4 := hide (show V4.ownsRow W.heap.size 3 1 (.slice (some ⟨g4, 0, none⟩) (ns ++ [xv]).length cap4) (ns ++ [xv]).length (in64 (ns ++ [xv])) by rw [List.length_append] at hown ⊢; exact hown); clear hown hk4 hold; rw [HNl.out]; obtain ⟨gp, offp, heqp, r0, r1, r2⟩ := HP4.out.tz.at hlt2; cases heqp; rw [htp] at r0 r1 r2; simp only at r0 r1 r2)
            refine (qmark_any kp pp Xp [44] _).mono ?_
            rw [HMc.out]
            rintro e V5 ⟨rfl, hb⟩
            have HP5 := hide (HP4.out.later hb)
            have HR5 := hide (owns_kp HR4.out (Kp.of_below [] hb) (by simp))
            clear hb HP4 HR4 r0 r1 r2
            by_cases hc : ab ⟨kp, Xp, pp⟩ = .comma
            · rw [decide_eq_true hc]
              rw [hc] at HD2
              have HSq2 := hide (show sqN (!q) L = (sqN (!q || (ns ++ [xv]).length != 0) (L.drop (k + 1 + 1))).map ((ns ++ [xv]) ++ ·) by
                rw [HSq.out, sqN_more (by rw [HIt.out, HD2.out])]
                have e1 : (!q || (ns ++ [xv]).length != 0) = true := by simp
                rw [e1]
                cases sqN true (L.drop (k + 1 + 1)) <;> simp)
              clear hc HSq HIt
              go_wp2_with fail
              go_roundw
              case rel => exact ⟨k + 1 + 1, ns ++ [xv], l + 1, by omega, by omega, by first | rfl | go_num, hide (by rw [List.length_append, HNl.out]; rfl), hide (by have h := HR5.out; rw [List.length_append, HNl.out] at h ⊢; exact h), hide HSq2.out, hide HP5.out⟩
              case measure => simp [intOf]; omega
            · rw [decide_eq_false hc]
              have HNo := hide (nb_no (show sqN (!q) L = none by rw [HSq.out, sqN_bad (by rw [HIt.out, HD2.out]) hc]; rfl))
              clear hc
              go_wp2_with fail
              go_ret2
              exact PX.no HNo.out HP5.out.ma'.old

        · have HNo := hide (nb_no (show sqN (!q) L = none by rw [HSq.out, HD.out, sqN_none (it_bad (not_num HW1.out hkd) h1)]; rfl))
          have hkd' : (kd != 1) = true := by simpa using hkd
          clear hkd h1 HM1 hm
          go_wp2_with fail
          refine HQ1.out.mono ?_
          rintro e V2 ⟨rfl, hb⟩
          obtain ⟨f0, f1, f2⟩ := HF.out V2 hb
          have HP2 := hide (HP.out.later hb)
          clear hb HP e0 e1 e2
          go_wp2_with fail
          go_ret2
          exact PX.no HNo.out HP2.out.ma'.old
    · obtain rfl : k = n := by omega
      have HNo := hide (nb_no (show sqN (!q) L = none by rw [HSq.out, List.drop_of_length_le (by rw [HLl.out]; exact Nat.le_refl _), sqN_none (it_nil m)]; rfl))
      clear hm
      go_wp2_with fail
      go_ret2
      exact PX.no HNo.out HP.out.ma'.old

end Go.Proofs.Ytamekjocchekoaa

/-
  The walk of PrintNeeded.
-/
import Derived.Test.YtodgjjkpbcadoaaDoorLwAB
import Derived.Test.YtodgjjkpbcadoaaDoorNeedP
import Derived.Deep.RegionHeld3
namespace Go.Proofs.YtodgjjkpbcadoaaDoor
open Go.RowKit Go.IntWalk Lx Pz Go.Sort
set_option linter.unusedVariables false

set_option maxRecDepth 100000 in
set_option maxHeartbeats 4000000 in
theorem same_len1 (na ba da na2 ba2 da2 : Option Addr) (nl nc bl bc dl dc nl2 nc2 bl2 bc2 dl2 dc2 : Nat) (root root2 : Int) (W : World) (h : nl ≠ nl2) :
    Calls Tryd.prog 10 #[treeV na ba da nl nc bl bc dl dc root, treeV na2 ba2 da2 nl2 nc2 bl2 bc2 dl2 dc2 root2] W fun e W' => e = .returned (.bool false) ∧ Below W.heap.size W W' := by
  have h1 : ((nl : Int) == nl2) = false := by simp; omega
  have h2 : ((nl : Int) != nl2) = true := by simp; omega
  have HB := hide (bel (bel1 W (.cells (tr4 (.slice na nl nc) (.slice ba bl bc) (.slice da dl dc) (.int .i64 root)) 26)) (bel1 (W.alloc (.cells (tr4 (.slice na nl nc) (.slice ba bl bc) (.slice da dl dc) (.int .i64 root)) 26)) (.cells (tr4 (.slice na2 nl2 nc2) (.slice ba2 bl2 bc2) (.slice da2 dl2 dc2) (.int .i64 root2)) 26)))
  go_enter Tryd.func10, Tryd.ntmps10
  go_wp2_with fail
  go_ret
  exact ⟨rfl, HB.out⟩

set_option maxRecDepth 100000 in
set_option maxHeartbeats 4000000 in
theorem same_len2 (na ba da na2 ba2 da2 : Option Addr) (nl nc bl bc dl dc nc2 bc2 dl2 dc2 : Nat) (root root2 : Int) (W : World) (h : dl ≠ dl2) :
    Calls Tryd.prog 10 #[treeV na ba da nl nc bl bc dl dc root, treeV na2 ba2 da2 nl nc2 bl bc2 dl2 dc2 root2] W fun e W' => e = .returned (.bool false) ∧ Below W.heap.size W W' := by
  have h1 : ((dl : Int) == dl2) = false := by simp; omega
  have h2 : ((dl : Int) != dl2) = true := by simp; omega
  have HB := hide (bel (bel1 W (.cells (tr4 (.slice na nl nc) (.slice ba bl bc) (.slice da dl dc) (.int .i64 root)) 26)) (bel1 (W.alloc (.cells (tr4 (.slice na nl nc) (.slice ba bl bc) (.slice da dl dc) (.int .i64 root)) 26)) (.cells (tr4 (.slice na2 nl nc2) (.slice ba2 bl bc2) (.slice da2 dl2 dc2) (.int .i64 root2)) 26)))
  go_enter Tryd.func10, Tryd.ntmps10
  go_wp2_with fail
  go_ret
  exact ⟨rfl, HB.out⟩

/-- Same on two sound trees that are printed otherwise. -/
theorem same_differs {W : World} {na ba da na2 ba2 da2 : Option Addr} {nl nc bl bc dl dc nl2 nc2 bl2 bc2 dl2 dc2 : Nat} {root root2 : Int} {NM NM2 : List Txt} {BS BS2 : List Int} {NS NS2 : List Nd} {es es2 : List E} {ex ex2 : E} (hD : Dec NM BS NS root es ex) (hD2 : Dec NM2 BS2 NS2 root2 es2 ex2)
    (hX : Tx W na nl nc NM) (hB : Iz W ba bl bc BS) (hN : Nz W da dl dc NS) (hX2 : Tx W na2 nl2 nc2 NM2) (hB2 : Iz W ba2 bl2 bc2 BS2) (hN2 : Nz W da2 dl2 dc2 NS2)
    (hw : (whole NM2 es2 ex2).length < (whole NM es ex).length) :
    Calls Tryd.prog 10 #[treeV na ba da nl nc bl bc dl dc root, treeV na2 ba2 da2 nl2 nc2 bl2 bc2 dl2 dc2 root2] W fun e W' => e = .returned (.bool false) ∧ Below W.heap.size W W' := by
  obtain ⟨l1, l2, l3, l4⟩ := hD.lens
  obtain ⟨m1, m2, m3, m4⟩ := hD2.lens
  have k1 := hX.len
  have k2 := hB.len
  have k3 := hN.len
  have k4 := hX2.len
  have k5 := hB2.len
  have k6 := hN2.len
  by_cases h1 : nl = nl2
  · obtain rfl : bl = bl2 := by omega
    subst h1
    by_cases h2 : dl = dl2
    · subst h2
      have hr : root = root2 := by rw [hD.root, hD2.root]; omega
      subst hr
      refine same_no hX hB hN hX2 hB2 hN2 ?_
      rintro ⟨e1, e2, e3⟩
      subst e1 e2 e3
      obtain ⟨rfl, rfl⟩ := hD.one hD2
      omega
    · exact same_len2 _ _ _ _ _ _ _ _ _ _ _ _ _ _ _ _ _ _ W h2
  · exact same_len1 _ _ _ _ _ _ _ _ _ _ _ _ _ _ _ _ _ _ _ _ W h1

theorem below_drewW (w : World) : Below w.heap.size w w.drew := ⟨rfl, rfl, rfl, Nat.le_refl _, fun _ _ => rfl⟩
theorem gp_len {nm : List Txt} {es : List E} {l : List Tk} {o : Out} (h : GP nm es l o) : szL o.2.1 + o.2.2.size ≤ szL es + l.length := by
  induction h with
  | last g => have := g_len g; simp only; omega
  | @bind nm es s l1 l2 e o _ _ g _ ih =>
    have := g_len g
    rw [szL_snoc] at ih
    simp only [List.length_cons, List.length_append]
    omega
theorem gp_even {nm : List Txt} {es : List E} {l : List Tk} {o : Out} (h : GP nm es l o) : nm.length = es.length → o.1.length = o.2.1.length := by
  induction h with
  | last _ => exact id
  | bind _ _ _ _ ih => intro e; exact ih (by simp [e])
theorem parse_yes {F : ByteArray} {T : List Tk} {NM : List Txt} {es : List E} {ex : E} (ha : ak (bs F) = some T) (hl : F.size ≤ 1024) (hg : GP [] [] T (NM, es, ex)) :
    Dec NM (bdL es 0) (nodesOf es ex) (rootOf es ex) es ex ∧ (whole NM es ex).length ≤ (bs F).length := by
  obtain ⟨T0, hT, hab⟩ := tks_ak ha (by rw [bs_len]; exact hl)
  have h1 := gp_even hg rfl
  have h2 := gp_len hg
  subst hab
  simp only [List.length_map, szL, Nat.zero_add] at h2
  exact ⟨dec_parse hT hg h1 h2, tight (A := []) hT hg h1⟩
/-- What Parse answers of a text that is shorter than the printed one of a tree: no program, or another one. -/
def ParF (w : World) (NM : List Txt) (es : List E) (ex : E) (e : Ending) (W' : World) : Prop :=
  ∃ na nn nc ba bn bc da dn dc root ev NM2 BS2 NS2, e = .returned (.tuple #[treeV na ba da nn nc bn bc dn dc root, .int .i64 ev]) ∧ W'.ownsRow w.heap.size 9 1 (.slice na nn nc) nn (tx64 NM2) ∧ W'.ownsRow w.heap.size 3 1 (.slice ba bn bc) bn (in64 BS2) ∧ W'.ownsRow w.heap.size 55 9 (.slice da dn dc) dn (nd64 NS2) ∧ Below w.heap.size w W' ∧
    (ev = 10 ∨ (ev = 0 ∧ ∃ es2 ex2, Dec NM2 BS2 NS2 root es2 ex2 ∧ (whole NM2 es2 ex2).length < (whole NM es ex).length))
theorem parse_cut {F : ByteArray} {NM : List Txt} {es : List E} {ex : E} (hl : (bs F).length < (whole NM es ex).length) (w : World) : Calls Tryd.prog 9 #[.string F] w fun e W' => ParF w NM es ex e W' := by
  refine (parse_any F w).mono ?_
  rintro e W1 (⟨rfl, h2, -⟩ | ⟨T, NM2, es2, ex2, nv, bv, dv, hT, hA, h3, h4, rfl, h6, h7, h8, h9⟩)
  · exact ⟨none, 0, 0, none, 0, 0, none, 0, 0, 0, 10, [], [], [], rfl, ⟨rfl, .inl ⟨rfl, rfl⟩⟩, ⟨rfl, .inl ⟨rfl, rfl⟩⟩, ⟨rfl, .inl ⟨rfl, rfl⟩⟩, h2, .inl rfl⟩
  · have hg := (hA (NM2, es2, ex2)).1 rfl
    have hD := dec_parse hT hg h3 h4
    have ht := tight (A := []) hT hg h3
    obtain ⟨na, nc, rfl⟩ := owns_form h6
    obtain ⟨ba, bc, rfl⟩ := owns_form h7
    obtain ⟨da, dc, rfl⟩ := owns_form h8
    exact ⟨na, NM2.length, nc, ba, es2.length, bc, da, szL es2 + ex2.size, dc, rootOf es2 ex2, 0, NM2, bdL es2 0, nodesOf es2 ex2, rfl, h6, h7, h8, h9, .inr ⟨rfl, es2, ex2, hD, by omega⟩⟩

/-- Behind the region: the second tree in its box, the first one as it was. -/
structure Two (W3 Z : World) (q : Nat) (tv : Array Value) (na ba da : Option Addr) (nn nc bn bc dn dc : Nat) (NM2 : List Txt) (BS2 : List Int) (NS2 : List Nd) : Prop where
  box : HasC Z q 26 tv
  old : Below W3.heap.size W3 Z
  X : Tx Z na nn nc NM2
  B : Iz Z ba bn bc BS2
  N : Nz Z da dn dc NS2
theorem two_mk {W3 Z : World} {q base : Nat} {tv : Array Value} {na ba da : Option Addr} {nn nc bn bc dn dc : Nat} {NM2 : List Txt} {BS2 : List Int} {NS2 : List Nd} (h1 : HasC Z q 26 tv) (h2 : Below W3.heap.size W3 Z)
    (o1 : Z.ownsRow base 9 1 (.slice na nn nc) nn (tx64 NM2)) (o2 : Z.ownsRow base 3 1 (.slice ba bn bc) bn (in64 BS2)) (o3 : Z.ownsRow base 55 9 (.slice da dn dc) dn (nd64 NS2)) : Two W3 Z q tv na ba da nn nc bn bc dn dc NM2 BS2 NS2 := by
  obtain ⟨a1, c1, e1, hx⟩ := Tx.of_owns o1
  obtain ⟨a2, c2, e2, hb⟩ := Iz.of_owns o2
  obtain ⟨a3, c3, e3, hn⟩ := Nz.of_owns o3
  cases e1; cases e2; cases e3
  exact ⟨h1, h2, hx, hb, hn⟩
/-- The call first, then the box. -/
theorem two_a {W3 W4 : World} {tv : Array Value} {na ba da : Option Addr} {nn nc bn bc dn dc base : Nat} {NM2 : List Txt} {BS2 : List Int} {NS2 : List Nd} (hb : Below W3.drew.heap.size W3.drew W4)
    (o1 : W4.ownsRow base 9 1 (.slice na nn nc) nn (tx64 NM2)) (o2 : W4.ownsRow base 3 1 (.slice ba bn bc) bn (in64 BS2)) (o3 : W4.ownsRow base 55 9 (.slice da dn dc) dn (nd64 NS2)) :
    Two W3 (W4.alloc (.cells tv 26)) W4.heap.size tv na ba da nn nc bn bc dn dc NM2 BS2 NS2 :=
  two_mk (HasC.new W4 26 tv) (bel (bel (below_drewW _) hb) (bel1 _ _)) (o1.alloc _) (o2.alloc _) (o3.alloc _)
/-- The box first, then the call. -/
theorem two_b {W3 W4 : World} {a b c d : Value} {na ba da : Option Addr} {nn nc bn bc dn dc base : Nat} {NM2 : List Txt} {BS2 : List Int} {NS2 : List Nd} (hb : Below (W3.alloc (.cells nil4 26)).drew.heap.size (W3.alloc (.cells nil4 26)).drew W4)
    (o1 : W4.ownsRow base 9 1 (.slice na nn nc) nn (tx64 NM2)) (o2 : W4.ownsRow base 3 1 (.slice ba bn bc) bn (in64 BS2)) (o3 : W4.ownsRow base 55 9 (.slice da dn dc) dn (nd64 NS2)) :
    Two W3 ((((W4.setCell ⟨W3.heap.size, 0, none⟩ a).setCell ⟨W3.heap.size, 1, none⟩ b).setCell ⟨W3.heap.size, 2, none⟩ c).setCell ⟨W3.heap.size, 3, none⟩ d) W3.heap.size #[a, b, c, d] na ba da nn nc bn bc dn dc NM2 BS2 NS2 := by
  have hq : HasC W4 W3.heap.size 26 nil4 := HasC.below (W := (W3.alloc (.cells nil4 26)).drew) (show HasC (W3.alloc (.cells nil4 26)).drew W3.heap.size 26 nil4 from HasC.new W3 26 nil4) hb
  have h0 : Below W3.heap.size W3 W4 := bel (bel (bel1 W3 (.cells nil4 26)) (below_drewW _)) hb
  have hk : Kp [26] W4 ((((W4.setCell ⟨W3.heap.size, 0, none⟩ a).setCell ⟨W3.heap.size, 1, none⟩ b).setCell ⟨W3.heap.size, 2, none⟩ c).setCell ⟨W3.heap.size, 3, none⟩ d) :=
    (((Kp.set hq (by simp) 0 a).trans (Kp.set (hq.set 0 a) (by simp) 1 b)).trans (Kp.set ((hq.set 0 a).set 1 b) (by simp) 2 c)).trans (Kp.set (((hq.set 0 a).set 1 b).set 2 c) (by simp) 3 d)
  exact two_mk ((((hq.set 0 a).set 1 b).set 2 c).set 3 d)
    ((((h0.setCell (p := ⟨W3.heap.size, 0, none⟩) (Nat.le_refl _) _).setCell (p := ⟨W3.heap.size, 1, none⟩) (Nat.le_refl _) _).setCell (p := ⟨W3.heap.size, 2, none⟩) (Nat.le_refl _) _).setCell (p := ⟨W3.heap.size, 3, none⟩) (Nat.le_refl _) _)
    (owns_kp o1 hk (by decide)) (owns_kp o2 hk (by decide)) (owns_kp o3 hk (by decide))

theorem wrap_id {x : Int} (h0 : -9223372036854775808 ≤ x) (h1 : x ≤ 9223372036854775807) : IntKind.i64.wrap x = x := by
  exact IntWalk.i64_in x ⟨h0, h1⟩
theorem tmod_bounds (a : Int) {b : Int} (h : 0 < b) : -b < a.tmod b ∧ a.tmod b < b := by
  have h1 := Int.tmod_lt_of_pos a h
  refine ⟨?_, h1⟩
  have h2 := Int.tmod_lt_of_pos (-a) h
  rw [Int.neg_tmod] at h2
  omega
theorem bs_cut (S : ByteArray) {f k : Nat} (h : f < k) (hk : k < S.size) : bs (S.extract 0 f ++ S.extract (f + 1) k ++ S.extract (k + 1) S.size) = cut2 (bs S) f k := by
  have e1 : bs (S.extract (f + 1) k) = ((bs S).drop (f + 1)).take (k - (f + 1)) := by
    show (S.extract (f + 1) k).data.toList = _
    rw [ByteArray.data_extract]
    simp [bs]
  rw [bs_add, bs_add, bs_to, bs_from, e1]
  rfl

set_option maxRecDepth 100000 in
set_option maxHeartbeats 8000000 in
theorem need_walk {W : World} (s : ByteArray) (wh : Int) (h0 : -9223372036854775808 ≤ wh) (h1 : wh ≤ 9223372036854775807) (hG : Gl W) :
    Calls Tryd.prog 5 #[.string s, .int .i64 wh] W fun e W' => e = .returned (.bool true) ∧ Below W.heap.size W W' := by
  have HG := hide hG
  clear hG
  go_enter Tryd.func5, Tryd.ntmps5
  go_wp2_with fail
  refine (parse_full s W).mono ?_
  rintro e W1 (⟨rfl, hb⟩ | ⟨NM, es, ex, na, nc, ba, bc, da, dc, hD, ht, hs, rfl, hx, hi, hn, hb⟩)
  · have HB1 := hide (bel hb (bel1 W1 (.cells nil4 26)))
    clear hb
    go_wp2_with fail
    refine (awake_any (HG.out.later HB1.out)).mono ?_
    rintro e W3 ⟨rfl, hb⟩
    have HB3 := hide (bel HB1.out hb)
    clear hb HB1
    go_wp2_with fail
    refine (awake_any (HG.out.later HB3.out)).mono ?_
    rintro e W4 ⟨rfl, hb⟩
    have HB4 := hide (bel HB3.out hb)
    clear hb HB3
    go_wp2_with fail
    go_ret
    exact ⟨rfl, HB4.out⟩
  · have hb2 := bel1 W1 (.cells (tr4 (.slice na es.length nc) (.slice ba es.length bc) (.slice da (szL es + ex.size) dc) (.int .i64 (rootOf es ex))) 26)
    have HX := hide (hx.later hb2)
    have HI := hide (hi.later hb2)
    have HN := hide (hn.later hb2)
    have HB1 := hide (bel hb hb2)
    have HQ := hide (fun (V : World) (hV : Below W.heap.size W V) (na ba da : Option Addr) (nc bc dc : Nat) (hx : Tx V na es.length nc NM) (hi : Iz V ba es.length bc (bdL es 0)) (hn : Nz V da (szL es + ex.size) dc (nodesOf es ex)) => print_ok hx hi hn (HG.out.later hV) hD)
    rw [if_neg (show ¬ 1024 < (whole NM es ex).length by omega)] at HQ
    have HH1 := hide (HasC.new W1 26 (tr4 (.slice na es.length nc) (.slice ba es.length bc) (.slice da (szL es + ex.size) dc) (.int .i64 (rootOf es ex))))
    have hz0 : 0 < (sB (whole NM es ex)).size := by
      rw [← bs_len, bs_sB]
      exact List.length_pos_iff.2 (whole_ne hD)
    have hz1 : (sB (whole NM es ex)).size ≤ 1024 := by rw [← bs_len, bs_sB]; omega
    have HD := hide hD
    have HBal := hide (bal_whole hD)
    have HE := hide (show bs (sB (whole NM es ex)) = whole NM es ex from bs_sB _)
    clear hx hi hn hb hb2 hD ht hs
    generalize hS : sB (whole NM es ex) = S at *
    clear hS
    go_wp2_with fail
    refine (awake_any (HG.out.later HB1.out)).mono ?_
    rintro e W2 ⟨rfl, hb⟩
    have HB2 := hide (bel HB1.out hb)
    have HX2 := hide (HX.out.later hb)
    have HI2 := hide (HI.out.later hb)
    have HN2 := hide (HN.out.later hb)
    have HH2 := hide (HH1.out.below hb)
    clear hb HB1 HX HI HN HH1
    obtain ⟨c0, c1, c2, c3⟩ := facts4 HH2.out
    go_wp2_with fail
    refine (HQ.out _ HB2.out na ba da nc bc dc HX2.out HI2.out HN2.out).mono ?_
    rintro e W3 ⟨rfl, hb⟩
    have HB3 := hide (bel HB2.out hb)
    have HX3 := hide (HX2.out.later hb)
    have HI3 := hide (HI2.out.later hb)
    have HN3 := hide (HN2.out.later hb)
    have HH3 := hide (HH2.out.below hb)
    clear hb HB2 HX2 HI2 HN2 HH2 HQ c0 c1 c2 c3
    have hne0 : ((S.size : Int) == 0) = false := by simpa using Nat.ne_of_gt hz0
    have hmb := tmod_bounds wh (b := (S.size : Int)) (by omega)
    generalize hmw : wh.tmod (S.size : Int) = m at *
    by_cases hneg : m < 0
    · obtain ⟨f, hf⟩ : ∃ f : Nat, m + S.size = f := ⟨(m + S.size).toNat, by omega⟩
      have hfl : f < S.size := by omega
      clear hmb
      cases hc : (((S[f]'hfl).toNat : Int) == 40) with
      | false =>
        have hc2 : (((S[f]'hfl).toNat : Int) != 40) = true := by rw [bne, hc]; rfl
        go_wp2_with fail
        go_ret
        exact ⟨rfl, HB3.out⟩
      | true =>
        have hc2 : (((S[f]'hfl).toNat : Int) != 40) = false := by rw [bne, hc]; rfl
        go_wp2_with fail
        go_loopg [10, 11] (S.size - f) (fun g dv iv wr => ∃ (k : Nat) (d : Int), f ≤ k ∧ k + g = S.size ∧ dv = .int .i64 d ∧ iv = .int .i64 k ∧ 0 ≤ d ∧ d ≤ (k : Int) ∧ Hid (d = dpf (bs S) f k ∧ (k = f ∨ 1 ≤ d)) ∧ wr = W3)
        case atStart => exact ⟨f, 0, Nat.le_refl _, by omega, rfl, rfl, Int.le_refl _, by omega, hide ⟨(dpf_start _ _).symm, .inl rfl⟩, rfl⟩
        case round =>
          obtain ⟨k, d, hfk, hkg, rfl, rfl, hd0, hd1, HI, rfl⟩ := hrel
          by_cases hlt : k < S.size
          · have hck := hide (bs_at hlt)
            cases h40 : ((S[k].toNat : Int) == 40) with
            | true =>
              have h41 : ((S[k].toNat : Int) == 41) = false := by
                simp only [beq_iff_eq] at h40
                rw [h40]; rfl
              have hz : ((d + 1 : Int) == 0) = false := by simp; omega
              have HI2 := hide (show d + 1 = dpf (bs S) f (k + 1) ∧ (k + 1 = f ∨ 1 ≤ d + 1) from ⟨by rw [dpf_succ hfk hck.out, if_pos (eq_of_nat (n := 40) h40 40 rfl), HI.out.1], .inr (by omega)⟩)
              go_wp2_with fail
              go_roundg (gk - 1)
              case measure => omega
              case rel => exact ⟨k + 1, d + 1, by omega, by omega, by go_num, by go_num, by omega, by omega, HI2, rfl⟩
            | false =>
              have hkf : k ≠ f := by
                intro e
                subst e
                rw [hc] at h40
                cases h40
              have hd : 1 ≤ d := by rcases HI.out.2 with h | h <;> omega
              have hne40 := ne_of_nat (n := 40) h40 40 rfl
              have HNE40 := hide hne40
              clear hne40
              cases h41 : ((S[k].toNat : Int) == 41) with
              | false =>
                have hz : ((d : Int) == 0) = false := by simp; omega
                have HI2 := hide (show d = dpf (bs S) f (k + 1) ∧ (k + 1 = f ∨ 1 ≤ d) from ⟨by rw [dpf_succ hfk hck.out, if_neg HNE40.out, if_neg (ne_of_nat (n := 41) h41 41 rfl), ← HI.out.1]; omega, .inr hd⟩)
                go_wp2_with fail
                go_roundg (gk - 1)
                case measure => omega
                case rel => exact ⟨k + 1, d, by omega, by omega, by go_num, by go_num, by omega, by omega, HI2, rfl⟩
              | true =>
                by_cases hd1' : d = 1
                · subst hd1'
                  obtain ⟨A1, a1⟩ : ∃ A, S.extract 0 f = A := ⟨_, rfl⟩
                  obtain ⟨A2, a2⟩ : ∃ A, S.extract (f + 1) k = A := ⟨_, rfl⟩
                  obtain ⟨A3, a3⟩ : ∃ A, S.extract (k + 1) S.size = A := ⟨_, rfl⟩
                  have z1 : A1.size = f := by rw [← a1]; simp; omega
                  have z2 : A2.size = k - (f + 1) := by rw [← a2]; simp; omega
                  have z3 : A3.size = S.size - (k + 1) := by rw [← a3]; simp
                  obtain ⟨A4, a4⟩ : ∃ A, A1 ++ A2 = A := ⟨_, rfl⟩
                  have z4 : A4.size = k - 1 := by rw [← a4, ByteArray.size_append, z1, z2]; omega
                  obtain ⟨F, a5⟩ : ∃ A, A4 ++ A3 = A := ⟨_, rfl⟩
                  have hF : bs F = cut2 (bs S) f k := by rw [← a5, ← a4, ← a1, ← a2, ← a3]; exact bs_cut S (by omega) hlt
                  have hFl : (bs F).length + 2 = (whole NM es ex).length := by rw [hF, ← HE.out]; exact cut2_len (by omega) (by rw [bs_len]; exact hlt)
                  have hFs : F.size ≤ 1024 := by rw [← a5, ByteArray.size_append, z3, z4]; omega
                  have ha1 : ∀ W, (Op.stringOp .add A1 A2).run Tryd.prog W = .ok (.string A4) W := fun W => by rw [run_string_add_sum W _ _ (by rw [z1, z2]; omega), a4]
                  have ha2 : ∀ W, (Op.stringOp .add A4 A3).run Tryd.prog W = .ok (.string F) W := fun W => by rw [run_string_add_sum W _ _ (by rw [z4, z3]; omega), a5]
                  have HFl := hide hFl
                  have HFs := hide hFs
                  have hkf2 : f + 1 ≤ k := by omega
                  clear hF hFl hFs HI HBal
                  have i1 : (0 : Int) ≤ (f : Int) := by omega
                  have i2 : (f : Int) ≤ (S.size : Int) := by omega
                  have i3 : IntKind.i64.wrap ((f : Int) + 1) = (f : Int) + 1 := wrap_id (by omega) (by omega)
                  have i4 : (0 : Int) ≤ (f : Int) + 1 := by omega
                  have i5 : (f : Int) + 1 ≤ (k : Int) := by omega
                  have i6 : (k : Int) ≤ (S.size : Int) := by omega
                  have i7 : IntKind.i64.wrap ((k : Int) + 1) = (k : Int) + 1 := wrap_id (by omega) (by omega)
                  have i8 : (0 : Int) ≤ (k : Int) + 1 := by omega
                  have i9 : (k : Int) + 1 ≤ (S.size : Int) := by omega
                  have HPC := hide (fun V => parse_cut (F := F) (NM := NM) (es := es) (ex := ex) (by have := HFl.out; omega) V)
                  go_wp2_with fail
                  refine wp_region_any (by kernel_rfl) ?_
                  change wpAny _ _ _ _ _ _ _ (World.drew _)
                  refine wpAny_take (i := 0) (v := .string S) rfl (by kernel_rfl) (by kernel_rfl) (by kernel_rfl) (fun _ _ _ h => h) (Or.inl ⟨by rfl, fun w => by go_simp⟩) ?_
                  refine wpAny_take (i := 1) (v := .int .i64 (f : Int)) rfl (by kernel_rfl) (by kernel_rfl) (by kernel_rfl) (fun _ _ _ h => h) (Or.inl ⟨by rfl, fun w => by go_simp⟩) ?_
                  refine wpAny_take (i := 2) (v := .string A1) rfl (by kernel_rfl) (by kernel_rfl) (by kernel_rfl) (fun _ _ _ h => h) (Or.inl ⟨by rfl, fun w => by go_simp⟩) ?_
                  refine wpAny_take (i := 3) (v := .string S) rfl (by kernel_rfl) (by kernel_rfl) (by kernel_rfl) (fun _ _ _ h => h) (Or.inl ⟨by rfl, fun w => by go_simp⟩) ?_
                  refine wpAny_take (i := 4) (v := .int .i64 (f : Int)) rfl (by kernel_rfl) (by kernel_rfl) (by kernel_rfl) (fun _ _ _ h => h) (Or.inl ⟨by rfl, fun w => by go_simp⟩) ?_
                  refine wpAny_take (i := 5) (v := .int .i64 ((f : Int) + 1)) rfl (by kernel_rfl) (by kernel_rfl) (by kernel_rfl) (fun _ _ _ h => h) (Or.inl ⟨by rfl, fun w => by go_simp⟩) ?_
                  refine wpAny_take (i := 6) (v := .int .i64 (k : Int)) rfl (by kernel_rfl) (by kernel_rfl) (by kernel_rfl) (fun _ _ _ h => h) (Or.inl ⟨by rfl, fun w => by go_simp⟩) ?_
                  refine wpAny_take (i := 7) (v := .string A2) rfl (by kernel_rfl) (by kernel_rfl) (by kernel_rfl) (fun _ _ _ h => h) (Or.inl ⟨by rfl, fun w => by go_simp⟩) ?_
                  refine wpAny_take (i := 8) (v := .string A4) rfl (by kernel_rfl) (by kernel_rfl) (by kernel_rfl) (fun _ _ _ h => h) (Or.inl ⟨by rfl, fun w => by go_simp⟩) ?_
                  refine wpAny_take (i := 9) (v := .string S) rfl (by kernel_rfl) (by kernel_rfl) (by kernel_rfl) (fun _ _ _ h => h) (Or.inl ⟨by rfl, fun w => by go_simp⟩) ?_
                  refine wpAny_take (i := 10) (v := .int .i64 (k : Int)) rfl (by kernel_rfl) (by kernel_rfl) (by kernel_rfl) (fun _ _ _ h => h) (Or.inl ⟨by rfl, fun w => by go_simp⟩) ?_
                  refine wpAny_take (i := 11) (v := .int .i64 ((k : Int) + 1)) rfl (by kernel_rfl) (by kernel_rfl) (by kernel_rfl) (fun _ _ _ h => h) (Or.inl ⟨by rfl, fun w => by go_simp⟩) ?_
                  refine wpAny_take (i := 12) (v := .string A3) rfl (by kernel_rfl) (by kernel_rfl) (by kernel_rfl) (fun _ _ _ h => h) (Or.inl ⟨by rfl, fun w => by go_simp⟩) ?_
                  refine wpAny_take (i := 13) (v := .string F) rfl (by kernel_rfl) (by kernel_rfl) (by kernel_rfl) (fun _ _ _ h => h) (Or.inl ⟨by rfl, fun w => by go_simp⟩) ?_
                  refine wpAny_ready (rs := [14, 18]) (by kernel_rfl) (by simp) (AllReady.cons rfl (fun K hK => ?_) (AllReady.cons rfl (fun K hK => ?_) AllReady.nil))
                  · go_simp
                    go_wp2_with (go_at_call 9; refine (HPC.out _).mono ?_; rintro e' W4 ⟨na2, nn2, nc2, ba2, bn2, bc2, da2, dn2, dc2, root2, ev, NM2, BS2, NS2, rfl, o1, o2, o3, hb, hpost⟩; have HTw := hide (two_a (tv := (tr4 (.slice na2 nn2 nc2) (.slice ba2 bn2 bc2) (.slice da2 dn2 dc2) (.int .i64 root2))) hb o1 o2 o3); have HPo := hide hpost; clear o1 o2 o3 hb hpost)
                    refine wpAny_take (i := 15) (v := .tuple #[treeV na2 ba2 da2 nn2 nc2 bn2 bc2 dn2 dc2 root2, .int .i64 ev]) rfl (by kernel_rfl) (by kernel_rfl) (by kernel_rfl) (fun _ _ _ h => h) (Or.inl ⟨by rfl, fun w => by go_simp⟩) ?_
                    refine wpAny_take (i := 16) (v := treeV na2 ba2 da2 nn2 nc2 bn2 bc2 dn2 dc2 root2) rfl (by kernel_rfl) (by kernel_rfl) (by kernel_rfl) (fun _ _ _ h => h) (Or.inl ⟨by rfl, fun w => by go_simp⟩) ?_
                    refine wpAny_take (i := 17) (v := .int .i64 ev) rfl (by kernel_rfl) (by kernel_rfl) (by kernel_rfl) (fun _ _ _ h => h) (Or.inl ⟨by rfl, fun w => by go_simp⟩) ?_
                    refine wpAny_ready (rs := [18]) (by kernel_rfl) (by simp) (AllReady.cons rfl (fun K hK => ?_) AllReady.nil)
                    go_simp
                    refine hK _ _ ?_
                    clear hK K
                    refine wpAny_ready (rs := [19]) (by kernel_rfl) (by simp) (AllReady.cons rfl (fun K hK => ?_) AllReady.nil)
                    go_simp
                    refine hK _ _ ?_
                    clear hK K
                    refine wpAny_take (i := 20) (v := .int .i64 ev) rfl (by kernel_rfl) (by kernel_rfl) (by kernel_rfl) (fun _ _ _ h => h) (Or.inl ⟨by rfl, fun w => by go_simp⟩) ?_
                    refine wpAny_done (by kernel_rfl) ?_ _
                    go_simp
                    generalize W4.alloc (.cells (tr4 (.slice na2 nn2 nc2) (.slice ba2 bn2 bc2) (.slice da2 dn2 dc2) (.int .i64 root2)) 26) = Z at *
                    generalize W4.heap.size = q at *
                    have HH5 := hide (HH3.out.below HTw.out.old)
                    have HX5 := hide (HX3.out.later HTw.out.old)
                    have HI5 := hide (HI3.out.later HTw.out.old)
                    have HN5 := hide (HN3.out.later HTw.out.old)
                    have HB5 := hide (bel HB3.out HTw.out.old)
                    obtain ⟨c0, c1, c2, c3⟩ := facts4 HH5.out
                    obtain ⟨d0, d1, d2, d3⟩ := facts4 HTw.out.box
                    rcases HPo.out with rfl | ⟨rfl, es2, ex2, hD2, hw2⟩
                    · go_wp2_with fail
                      go_ret
                      exact ⟨rfl, HB5.out⟩
                    · have HSm := hide (same_differs HD.out hD2 HX5.out HI5.out HN5.out HTw.out.X HTw.out.B HTw.out.N hw2)
                      clear hD2 hw2
                      go_wp2_with fail
                      refine HSm.out.mono ?_
                      rintro e' Z2 ⟨rfl, hb⟩
                      have HB6 := hide (bel HB5.out hb)
                      clear hb HSm c0 c1 c2 c3 d0 d1 d2 d3
                      go_wp2_with fail
                      go_ret
                      exact ⟨rfl, HB6.out⟩
                  · go_simp
                    refine hK _ _ ?_
                    clear hK K
                    refine wpAny_ready (rs := [14]) (by kernel_rfl) (by simp) (AllReady.cons rfl (fun K hK => ?_) AllReady.nil)
                    go_simp
                    go_wp2_with (go_at_call 9; refine (HPC.out _).mono ?_; rintro e' W4 ⟨na2, nn2, nc2, ba2, bn2, bc2, da2, dn2, dc2, root2, ev, NM2, BS2, NS2, rfl, o1, o2, o3, hb, hpost⟩; have HTw := hide (two_b (a := .slice na2 nn2 nc2) (b := .slice ba2 bn2 bc2) (c := .slice da2 dn2 dc2) (d := .int .i64 root2) hb o1 o2 o3); have HPo := hide hpost; have hq : HasC W4 wr.heap.size 26 nil4 := HasC.below (W := (wr.alloc (.cells nil4 26)).drew) (show HasC (wr.alloc (.cells nil4 26)).drew wr.heap.size 26 nil4 from HasC.new wr 26 nil4) hb; clear o1 o2 o3 hb hpost)
                    obtain ⟨q0, q1, q2, q3⟩ := facts4 hq
                    obtain ⟨y0, y1, y2, y3⟩ := free4 hq
                    have x1 := (hq.set 0 (.slice na2 nn2 nc2)).cell 1 rfl
                    clear hq
                    refine wpAny_take (i := 15) (v := .tuple #[treeV na2 ba2 da2 nn2 nc2 bn2 bc2 dn2 dc2 root2, .int .i64 ev]) rfl (by kernel_rfl) (by kernel_rfl) (by kernel_rfl) (fun _ _ _ h => h) (Or.inl ⟨by rfl, fun w => by go_simp⟩) ?_
                    refine wpAny_take (i := 16) (v := treeV na2 ba2 da2 nn2 nc2 bn2 bc2 dn2 dc2 root2) rfl (by kernel_rfl) (by kernel_rfl) (by kernel_rfl) (fun _ _ _ h => h) (Or.inl ⟨by rfl, fun w => by go_simp⟩) ?_
                    refine wpAny_take (i := 17) (v := .int .i64 ev) rfl (by kernel_rfl) (by kernel_rfl) (by kernel_rfl) (fun _ _ _ h => h) (Or.inl ⟨by rfl, fun w => by go_simp⟩) ?_
                    refine wpAny_ready (rs := [19]) (by kernel_rfl) (by simp) (AllReady.cons rfl (fun K hK => ?_) AllReady.nil)
                    go_simp
                    refine hK _ _ ?_
                    clear hK K
                    refine wpAny_take (i := 20) (v := .int .i64 ev) rfl (by kernel_rfl) (by kernel_rfl) (by kernel_rfl) (fun _ _ _ h => h) (Or.inl ⟨by rfl, fun w => by go_simp⟩) ?_
                    refine wpAny_done (by kernel_rfl) ?_ _
                    go_simp
                    generalize (((W4.setCell ⟨wr.heap.size, 0, none⟩ (.slice na2 nn2 nc2)).setCell ⟨wr.heap.size, 1, none⟩ (.slice ba2 bn2 bc2)).setCell ⟨wr.heap.size, 2, none⟩ (.slice da2 dn2 dc2)).setCell ⟨wr.heap.size, 3, none⟩ (.int .i64 root2) = Z at *
                    generalize wr.heap.size = q at *
                    have HH5 := hide (HH3.out.below HTw.out.old)
                    have HX5 := hide (HX3.out.later HTw.out.old)
                    have HI5 := hide (HI3.out.later HTw.out.old)
                    have HN5 := hide (HN3.out.later HTw.out.old)
                    have HB5 := hide (bel HB3.out HTw.out.old)
                    obtain ⟨c0, c1, c2, c3⟩ := facts4 HH5.out
                    obtain ⟨d0, d1, d2, d3⟩ := facts4 HTw.out.box
                    rcases HPo.out with rfl | ⟨rfl, es2, ex2, hD2, hw2⟩
                    · go_wp2_with fail
                      go_ret
                      exact ⟨rfl, HB5.out⟩
                    · have HSm := hide (same_differs HD.out hD2 HX5.out HI5.out HN5.out HTw.out.X HTw.out.B HTw.out.N hw2)
                      clear hD2 hw2
                      go_wp2_with fail
                      refine HSm.out.mono ?_
                      rintro e' Z2 ⟨rfl, hb⟩
                      have HB6 := hide (bel HB5.out hb)
                      clear hb HSm c0 c1 c2 c3 d0 d1 d2 d3
                      go_wp2_with fail
                      go_ret
                      exact ⟨rfl, HB6.out⟩
                · have hz : ((d - 1 : Int) == 0) = false := by simp; omega
                  have HI2 := hide (show d - 1 = dpf (bs S) f (k + 1) ∧ (k + 1 = f ∨ 1 ≤ d - 1) from ⟨by rw [dpf_succ hfk hck.out, if_neg HNE40.out, if_pos (eq_of_nat (n := 41) h41 41 rfl), ← HI.out.1]; omega, .inr (by omega)⟩)
                  go_wp2_with fail
                  go_roundg (gk - 1)
                  case measure => omega
                  case rel => exact ⟨k + 1, d - 1, by omega, by omega, by go_num, by go_num, by omega, by omega, HI2, rfl⟩
          · exfalso
            obtain rfl : k = S.size := by omega
            have h1 := HI.out
            have h2 := dpf_end HBal.out (f := f) (by rw [← HE.out, bs_len]; omega)
            rw [← HE.out, bs_len] at h2
            omega
    · obtain ⟨f, rfl⟩ : ∃ f : Nat, m = f := ⟨m.toNat, by omega⟩
      have hfl : f < S.size := by omega
      clear hmb
      cases hc : (((S[f]'hfl).toNat : Int) == 40) with
      | false =>
        have hc2 : (((S[f]'hfl).toNat : Int) != 40) = true := by rw [bne, hc]; rfl
        go_wp2_with fail
        go_ret
        exact ⟨rfl, HB3.out⟩
      | true =>
        have hc2 : (((S[f]'hfl).toNat : Int) != 40) = false := by rw [bne, hc]; rfl
        go_wp2_with fail
        go_loopg [10, 11] (S.size - f) (fun g dv iv wr => ∃ (k : Nat) (d : Int), f ≤ k ∧ k + g = S.size ∧ dv = .int .i64 d ∧ iv = .int .i64 k ∧ 0 ≤ d ∧ d ≤ (k : Int) ∧ Hid (d = dpf (bs S) f k ∧ (k = f ∨ 1 ≤ d)) ∧ wr = W3)
        case atStart => exact ⟨f, 0, Nat.le_refl _, by omega, rfl, rfl, Int.le_refl _, by omega, hide ⟨(dpf_start _ _).symm, .inl rfl⟩, rfl⟩
        case round =>
          obtain ⟨k, d, hfk, hkg, rfl, rfl, hd0, hd1, HI, rfl⟩ := hrel
          by_cases hlt : k < S.size
          · have hck := hide (bs_at hlt)
            cases h40 : ((S[k].toNat : Int) == 40) with
            | true =>
              have h41 : ((S[k].toNat : Int) == 41) = false := by
                simp only [beq_iff_eq] at h40
                rw [h40]; rfl
              have hz : ((d + 1 : Int) == 0) = false := by simp; omega
              have HI2 := hide (show d + 1 = dpf (bs S) f (k + 1) ∧ (k + 1 = f ∨ 1 ≤ d + 1) from ⟨by rw [dpf_succ hfk hck.out, if_pos (eq_of_nat (n := 40) h40 40 rfl), HI.out.1], .inr (by omega)⟩)
              go_wp2_with fail
              go_roundg (gk - 1)
              case measure => omega
              case rel => exact ⟨k + 1, d + 1, by omega, by omega, by go_num, by go_num, by omega, by omega, HI2, rfl⟩
            | false =>
              have hkf : k ≠ f := by
                intro e
                subst e
                rw [hc] at h40
                cases h40
              have hd : 1 ≤ d := by rcases HI.out.2 with h | h <;> omega
              have hne40 := ne_of_nat (n := 40) h40 40 rfl
              have HNE40 := hide hne40
              clear hne40
              cases h41 : ((S[k].toNat : Int) == 41) with
              | false =>
                have hz : ((d : Int) == 0) = false := by simp; omega
                have HI2 := hide (show d = dpf (bs S) f (k + 1) ∧ (k + 1 = f ∨ 1 ≤ d) from ⟨by rw [dpf_succ hfk hck.out, if_neg HNE40.out, if_neg (ne_of_nat (n := 41) h41 41 rfl), ← HI.out.1]; omega, .inr hd⟩)
                go_wp2_with fail
                go_roundg (gk - 1)
                case measure => omega
                case rel => exact ⟨k + 1, d, by omega, by omega, by go_num, by go_num, by omega, by omega, HI2, rfl⟩
              | true =>
                by_cases hd1' : d = 1
                · subst hd1'
                  obtain ⟨A1, a1⟩ : ∃ A, S.extract 0 f = A := ⟨_, rfl⟩
                  obtain ⟨A2, a2⟩ : ∃ A, S.extract (f + 1) k = A := ⟨_, rfl⟩
                  obtain ⟨A3, a3⟩ : ∃ A, S.extract (k + 1) S.size = A := ⟨_, rfl⟩
                  have z1 : A1.size = f := by rw [← a1]; simp; omega
                  have z2 : A2.size = k - (f + 1) := by rw [← a2]; simp; omega
                  have z3 : A3.size = S.size - (k + 1) := by rw [← a3]; simp
                  obtain ⟨A4, a4⟩ : ∃ A, A1 ++ A2 = A := ⟨_, rfl⟩
                  have z4 : A4.size = k - 1 := by rw [← a4, ByteArray.size_append, z1, z2]; omega
                  obtain ⟨F, a5⟩ : ∃ A, A4 ++ A3 = A := ⟨_, rfl⟩
                  have hF : bs F = cut2 (bs S) f k := by rw [← a5, ← a4, ← a1, ← a2, ← a3]; exact bs_cut S (by omega) hlt
                  have hFl : (bs F).length + 2 = (whole NM es ex).length := by rw [hF, ← HE.out]; exact cut2_len (by omega) (by rw [bs_len]; exact hlt)
                  have hFs : F.size ≤ 1024 := by rw [← a5, ByteArray.size_append, z3, z4]; omega
                  have ha1 : ∀ W, (Op.stringOp .add A1 A2).run Tryd.prog W = .ok (.string A4) W := fun W => by rw [run_string_add_sum W _ _ (by rw [z1, z2]; omega), a4]
                  have ha2 : ∀ W, (Op.stringOp .add A4 A3).run Tryd.prog W = .ok (.string F) W := fun W => by rw [run_string_add_sum W _ _ (by rw [z4, z3]; omega), a5]
                  have HFl := hide hFl
                  have HFs := hide hFs
                  have hkf2 : f + 1 ≤ k := by omega
                  clear hF hFl hFs HI HBal
                  have i1 : (0 : Int) ≤ (f : Int) := by omega
                  have i2 : (f : Int) ≤ (S.size : Int) := by omega
                  have i3 : IntKind.i64.wrap ((f : Int) + 1) = (f : Int) + 1 := wrap_id (by omega) (by omega)
                  have i4 : (0 : Int) ≤ (f : Int) + 1 := by omega
                  have i5 : (f : Int) + 1 ≤ (k : Int) := by omega
                  have i6 : (k : Int) ≤ (S.size : Int) := by omega
                  have i7 : IntKind.i64.wrap ((k : Int) + 1) = (k : Int) + 1 := wrap_id (by omega) (by omega)
                  have i8 : (0 : Int) ≤ (k : Int) + 1 := by omega
                  have i9 : (k : Int) + 1 ≤ (S.size : Int) := by omega
                  have HPC := hide (fun V => parse_cut (F := F) (NM := NM) (es := es) (ex := ex) (by have := HFl.out; omega) V)
                  go_wp2_with fail
                  refine wp_region_any (by kernel_rfl) ?_
                  change wpAny _ _ _ _ _ _ _ (World.drew _)
                  refine wpAny_take (i := 0) (v := .string S) rfl (by kernel_rfl) (by kernel_rfl) (by kernel_rfl) (fun _ _ _ h => h) (Or.inl ⟨by rfl, fun w => by go_simp⟩) ?_
                  refine wpAny_take (i := 1) (v := .int .i64 (f : Int)) rfl (by kernel_rfl) (by kernel_rfl) (by kernel_rfl) (fun _ _ _ h => h) (Or.inl ⟨by rfl, fun w => by go_simp⟩) ?_
                  refine wpAny_take (i := 2) (v := .string A1) rfl (by kernel_rfl) (by kernel_rfl) (by kernel_rfl) (fun _ _ _ h => h) (Or.inl ⟨by rfl, fun w => by go_simp⟩) ?_
                  refine wpAny_take (i := 3) (v := .string S) rfl (by kernel_rfl) (by kernel_rfl) (by kernel_rfl) (fun _ _ _ h => h) (Or.inl ⟨by rfl, fun w => by go_simp⟩) ?_
                  refine wpAny_take (i := 4) (v := .int .i64 (f : Int)) rfl (by kernel_rfl) (by kernel_rfl) (by kernel_rfl) (fun _ _ _ h => h) (Or.inl ⟨by rfl, fun w => by go_simp⟩) ?_
                  refine wpAny_take (i := 5) (v := .int .i64 ((f : Int) + 1)) rfl (by kernel_rfl) (by kernel_rfl) (by kernel_rfl) (fun _ _ _ h => h) (Or.inl ⟨by rfl, fun w => by go_simp⟩) ?_
                  refine wpAny_take (i := 6) (v := .int .i64 (k : Int)) rfl (by kernel_rfl) (by kernel_rfl) (by kernel_rfl) (fun _ _ _ h => h) (Or.inl ⟨by rfl, fun w => by go_simp⟩) ?_
                  refine wpAny_take (i := 7) (v := .string A2) rfl (by kernel_rfl) (by kernel_rfl) (by kernel_rfl) (fun _ _ _ h => h) (Or.inl ⟨by rfl, fun w => by go_simp⟩) ?_
                  refine wpAny_take (i := 8) (v := .string A4) rfl (by kernel_rfl) (by kernel_rfl) (by kernel_rfl) (fun _ _ _ h => h) (Or.inl ⟨by rfl, fun w => by go_simp⟩) ?_
                  refine wpAny_take (i := 9) (v := .string S) rfl (by kernel_rfl) (by kernel_rfl) (by kernel_rfl) (fun _ _ _ h => h) (Or.inl ⟨by rfl, fun w => by go_simp⟩) ?_
                  refine wpAny_take (i := 10) (v := .int .i64 (k : Int)) rfl (by kernel_rfl) (by kernel_rfl) (by kernel_rfl) (fun _ _ _ h => h) (Or.inl ⟨by rfl, fun w => by go_simp⟩) ?_
                  refine wpAny_take (i := 11) (v := .int .i64 ((k : Int) + 1)) rfl (by kernel_rfl) (by kernel_rfl) (by kernel_rfl) (fun _ _ _ h => h) (Or.inl ⟨by rfl, fun w => by go_simp⟩) ?_
                  refine wpAny_take (i := 12) (v := .string A3) rfl (by kernel_rfl) (by kernel_rfl) (by kernel_rfl) (fun _ _ _ h => h) (Or.inl ⟨by rfl, fun w => by go_simp⟩) ?_
                  refine wpAny_take (i := 13) (v := .string F) rfl (by kernel_rfl) (by kernel_rfl) (by kernel_rfl) (fun _ _ _ h => h) (Or.inl ⟨by rfl, fun w => by go_simp⟩) ?_
                  refine wpAny_ready (rs := [14, 18]) (by kernel_rfl) (by simp) (AllReady.cons rfl (fun K hK => ?_) (AllReady.cons rfl (fun K hK => ?_) AllReady.nil))
                  · go_simp
                    go_wp2_with (go_at_call 9; refine (HPC.out _).mono ?_; rintro e' W4 ⟨na2, nn2, nc2, ba2, bn2, bc2, da2, dn2, dc2, root2, ev, NM2, BS2, NS2, rfl, o1, o2, o3, hb, hpost⟩; have HTw := hide (two_a (tv := (tr4 (.slice na2 nn2 nc2) (.slice ba2 bn2 bc2) (.slice da2 dn2 dc2) (.int .i64 root2))) hb o1 o2 o3); have HPo := hide hpost; clear o1 o2 o3 hb hpost)
                    refine wpAny_take (i := 15) (v := .tuple #[treeV na2 ba2 da2 nn2 nc2 bn2 bc2 dn2 dc2 root2, .int .i64 ev]) rfl (by kernel_rfl) (by kernel_rfl) (by kernel_rfl) (fun _ _ _ h => h) (Or.inl ⟨by rfl, fun w => by go_simp⟩) ?_
                    refine wpAny_take (i := 16) (v := treeV na2 ba2 da2 nn2 nc2 bn2 bc2 dn2 dc2 root2) rfl (by kernel_rfl) (by kernel_rfl) (by kernel_rfl) (fun _ _ _ h => h) (Or.inl ⟨by rfl, fun w => by go_simp⟩) ?_
                    refine wpAny_take (i := 17) (v := .int .i64 ev) rfl (by kernel_rfl) (by kernel_rfl) (by kernel_rfl) (fun _ _ _ h => h) (Or.inl ⟨by rfl, fun w => by go_simp⟩) ?_
                    refine wpAny_ready (rs := [18]) (by kernel_rfl) (by simp) (AllReady.cons rfl (fun K hK => ?_) AllReady.nil)
                    go_simp
                    refine hK _ _ ?_
                    clear hK K
                    refine wpAny_ready (rs := [19]) (by kernel_rfl) (by simp) (AllReady.cons rfl (fun K hK => ?_) AllReady.nil)
                    go_simp
                    refine hK _ _ ?_
                    clear hK K
                    refine wpAny_take (i := 20) (v := .int .i64 ev) rfl (by kernel_rfl) (by kernel_rfl) (by kernel_rfl) (fun _ _ _ h => h) (Or.inl ⟨by rfl, fun w => by go_simp⟩) ?_
                    refine wpAny_done (by kernel_rfl) ?_ _
                    go_simp
                    generalize W4.alloc (.cells (tr4 (.slice na2 nn2 nc2) (.slice ba2 bn2 bc2) (.slice da2 dn2 dc2) (.int .i64 root2)) 26) = Z at *
                    generalize W4.heap.size = q at *
                    have HH5 := hide (HH3.out.below HTw.out.old)
                    have HX5 := hide (HX3.out.later HTw.out.old)
                    have HI5 := hide (HI3.out.later HTw.out.old)
                    have HN5 := hide (HN3.out.later HTw.out.old)
                    have HB5 := hide (bel HB3.out HTw.out.old)
                    obtain ⟨c0, c1, c2, c3⟩ := facts4 HH5.out
                    obtain ⟨d0, d1, d2, d3⟩ := facts4 HTw.out.box
                    rcases HPo.out with rfl | ⟨rfl, es2, ex2, hD2, hw2⟩
                    · go_wp2_with fail
                      go_ret
                      exact ⟨rfl, HB5.out⟩
                    · have HSm := hide (same_differs HD.out hD2 HX5.out HI5.out HN5.out HTw.out.X HTw.out.B HTw.out.N hw2)
                      clear hD2 hw2
                      go_wp2_with fail
                      refine HSm.out.mono ?_
                      rintro e' Z2 ⟨rfl, hb⟩
                      have HB6 := hide (bel HB5.out hb)
                      clear hb HSm c0 c1 c2 c3 d0 d1 d2 d3
                      go_wp2_with fail
                      go_ret
                      exact ⟨rfl, HB6.out⟩
                  · go_simp
                    refine hK _ _ ?_
                    clear hK K
                    refine wpAny_ready (rs := [14]) (by kernel_rfl) (by simp) (AllReady.cons rfl (fun K hK => ?_) AllReady.nil)
                    go_simp
                    go_wp2_with (go_at_call 9; refine (HPC.out _).mono ?_; rintro e' W4 ⟨na2, nn2, nc2, ba2, bn2, bc2, da2, dn2, dc2, root2, ev, NM2, BS2, NS2, rfl, o1, o2, o3, hb, hpost⟩; have HTw := hide (two_b (a := .slice na2 nn2 nc2) (b := .slice ba2 bn2 bc2) (c := .slice da2 dn2 dc2) (d := .int .i64 root2) hb o1 o2 o3); have HPo := hide hpost; have hq : HasC W4 wr.heap.size 26 nil4 := HasC.below (W := (wr.alloc (.cells nil4 26)).drew) (show HasC (wr.alloc (.cells nil4 26)).drew wr.heap.size 26 nil4 from HasC.new wr 26 nil4) hb; clear o1 o2 o3 hb hpost)
                    obtain ⟨q0, q1, q2, q3⟩ := facts4 hq
                    obtain ⟨y0, y1, y2, y3⟩ := free4 hq
                    have x1 := (hq.set 0 (.slice na2 nn2 nc2)).cell 1 rfl
                    clear hq
                    refine wpAny_take (i := 15) (v := .tuple #[treeV na2 ba2 da2 nn2 nc2 bn2 bc2 dn2 dc2 root2, .int .i64 ev]) rfl (by kernel_rfl) (by kernel_rfl) (by kernel_rfl) (fun _ _ _ h => h) (Or.inl ⟨by rfl, fun w => by go_simp⟩) ?_
                    refine wpAny_take (i := 16) (v := treeV na2 ba2 da2 nn2 nc2 bn2 bc2 dn2 dc2 root2) rfl (by kernel_rfl) (by kernel_rfl) (by kernel_rfl) (fun _ _ _ h => h) (Or.inl ⟨by rfl, fun w => by go_simp⟩) ?_
                    refine wpAny_take (i := 17) (v := .int .i64 ev) rfl (by kernel_rfl) (by kernel_rfl) (by kernel_rfl) (fun _ _ _ h => h) (Or.inl ⟨by rfl, fun w => by go_simp⟩) ?_
                    refine wpAny_ready (rs := [19]) (by kernel_rfl) (by simp) (AllReady.cons rfl (fun K hK => ?_) AllReady.nil)
                    go_simp
                    refine hK _ _ ?_
                    clear hK K
                    refine wpAny_take (i := 20) (v := .int .i64 ev) rfl (by kernel_rfl) (by kernel_rfl) (by kernel_rfl) (fun _ _ _ h => h) (Or.inl ⟨by rfl, fun w => by go_simp⟩) ?_
                    refine wpAny_done (by kernel_rfl) ?_ _
                    go_simp
                    generalize (((W4.setCell ⟨wr.heap.size, 0, none⟩ (.slice na2 nn2 nc2)).setCell ⟨wr.heap.size, 1, none⟩ (.slice ba2 bn2 bc2)).setCell ⟨wr.heap.size, 2, none⟩ (.slice da2 dn2 dc2)).setCell ⟨wr.heap.size, 3, none⟩ (.int .i64 root2) = Z at *
                    generalize wr.heap.size = q at *
                    have HH5 := hide (HH3.out.below HTw.out.old)
                    have HX5 := hide (HX3.out.later HTw.out.old)
                    have HI5 := hide (HI3.out.later HTw.out.old)
                    have HN5 := hide (HN3.out.later HTw.out.old)
                    have HB5 := hide (bel HB3.out HTw.out.old)
                    obtain ⟨c0, c1, c2, c3⟩ := facts4 HH5.out
                    obtain ⟨d0, d1, d2, d3⟩ := facts4 HTw.out.box
                    rcases HPo.out with rfl | ⟨rfl, es2, ex2, hD2, hw2⟩
                    · go_wp2_with fail
                      go_ret
                      exact ⟨rfl, HB5.out⟩
                    · have HSm := hide (same_differs HD.out hD2 HX5.out HI5.out HN5.out HTw.out.X HTw.out.B HTw.out.N hw2)
                      clear hD2 hw2
                      go_wp2_with fail
                      refine HSm.out.mono ?_
                      rintro e' Z2 ⟨rfl, hb⟩
                      have HB6 := hide (bel HB5.out hb)
                      clear hb HSm c0 c1 c2 c3 d0 d1 d2 d3
                      go_wp2_with fail
                      go_ret
                      exact ⟨rfl, HB6.out⟩
                · have hz : ((d - 1 : Int) == 0) = false := by simp; omega
                  have HI2 := hide (show d - 1 = dpf (bs S) f (k + 1) ∧ (k + 1 = f ∨ 1 ≤ d - 1) from ⟨by rw [dpf_succ hfk hck.out, if_neg HNE40.out, if_pos (eq_of_nat (n := 41) h41 41 rfl), ← HI.out.1]; omega, .inr (by omega)⟩)
                  go_wp2_with fail
                  go_roundg (gk - 1)
                  case measure => omega
                  case rel => exact ⟨k + 1, d - 1, by omega, by omega, by go_num, by go_num, by omega, by omega, HI2, rfl⟩
          · exfalso
            obtain rfl : k = S.size := by omega
            have h1 := HI.out
            have h2 := dpf_end HBal.out (f := f) (by rw [← HE.out, bs_len]; omega)
            rw [← HE.out, bs_len] at h2
            omega

end Go.Proofs.YtodgjjkpbcadoaaDoor

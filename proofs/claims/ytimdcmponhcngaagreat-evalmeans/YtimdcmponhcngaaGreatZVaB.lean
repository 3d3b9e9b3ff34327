/-
  eval.Eval; the law's run and flat.
-/
import Derived.Test.YtimdcmponhcngaaGreatZVaA
import Derived.Test.YtimdcmponhcngaaGreatZTaA
import Derived.Test.YtimdcmponhcngaaGreatZKnRef
import Derived.Test.YtimdcmponhcngaaGreatZCw
import Derived.BigRegion
namespace Go.Proofs.YtimdcmponhcngaaGreat
open Go.RowKit Go.IntWalk Lx Pz
set_option linter.unusedVariables false

theorem sound_root {NM : List Txt} {BS : List Int} {NS : List Nd} {root : Int} (h : chkP NM BS NS root = true) : 0 ≤ root ∧ root.toNat < NS.length ∧ NS.length ≤ 1024 := by
  obtain ⟨es, ex, hD⟩ := chk_dec.1 h
  have h1 := hD.root
  have h2 : 1 ≤ NS.length := by rw [hD.nodes, List.length_append, E.flat_len]; have := ex.size_pos; omega
  have := hD.few
  omega

set_option maxRecDepth 100000 in
set_option maxHeartbeats 8000000 in
theorem veval_any (f d : Int) (v : Wd) {W : World} {na ba da pa : Option Addr} {nl nc bl bc dl dc pl pc : Nat} {root : Int} {NM : List Txt} {BS : List Int} {NS : List Nd} (hX : Tx W na nl nc NM) (hB : Iz W ba bl bc BS) (hN : Nz W da dl dc NS) (hs : ∀ s ∈ NM, s.length ≤ 9223372036854775807) (hP : Knd.Ints W pa pl pc v.ps) :
    Calls Tryz.prog 11 #[.agg (kdA f d), .agg (tr4 (.slice na nl nc) (.slice ba bl bc) (.slice da dl dc) (.int .i64 root)), .agg (wdA v pa pl pc)] W fun e W' =>
      e = .returned (.tuple #[.int .i64 (evV f d v NM BS NS root), .int .i64 (evE f d v NM BS NS root)]) ∧ Below W.heap.size W W' := by
  have hb1 := bel1 W (.cells (kdA f d) 23)
  have hb2 := bel hb1 (bel1 (W.alloc (.cells (kdA f d) 23)) (.cells (tr4 (.slice na nl nc) (.slice ba bl bc) (.slice da dl dc) (.int .i64 root)) 28))
  have hb3 := bel hb2 (bel1 ((W.alloc (.cells (kdA f d) 23)).alloc (.cells (tr4 (.slice na nl nc) (.slice ba bl bc) (.slice da dl dc) (.int .i64 root)) 28)) (.cells (wdA v pa pl pc) 30))
  have HT0 : Hid (HasC (((W.alloc (.cells (kdA f d) 23)).alloc (.cells (tr4 (.slice na nl nc) (.slice ba bl bc) (.slice da dl dc) (.int .i64 root)) 28)).alloc (.cells (wdA v pa pl pc) 30)) (W.heap.size + 1) 28 (tr4 (.slice na nl nc) (.slice ba bl bc) (.slice da dl dc) (.int .i64 root))) := by
    have := (HasC.new (W.alloc (.cells (kdA f d) 23)) 28 (tr4 (.slice na nl nc) (.slice ba bl bc) (.slice da dl dc) (.int .i64 root))).alloc (.cells (wdA v pa pl pc) 30)
    simp only [World.size_alloc] at this
    exact hide this
  have HB0 := hide hb3
  have HA := hide (vall_any f d v (root := root) (hX.later hb3) (hB.later hb3) (hN.later hb3) hs (hP.later hb3))
  clear hb1 hb2 hb3 hX hB hN hP
  obtain ⟨R, hR⟩ : ∃ R, evV f d v NM BS NS root = R := ⟨_, rfl⟩
  obtain ⟨E, hE⟩ : ∃ E, evE f d v NM BS NS root = E := ⟨_, rfl⟩
  rw [hR, hE]
  have HR := hide hR
  have HE := hide hE
  clear hR hE
  go_enter Tryz.func11, Tryz.ntmps11
  go_wp2_with fail
  refine HA.out.mono ?_
  rintro e V1 (⟨he, rfl, hb⟩ | ⟨he, g, rfl, -, hG, hb⟩)
  · rw [HE.out] at he ⊢
    have h1 : (E != 0) = true := by simpa using he
    have hz : R = 0 := by rw [← HR.out]; unfold evV; rw [HE.out, if_neg he]
    subst hz
    have HB1 := hide (bel HB0.out hb)
    clear hb he HA HB0 HT0
    go_wp2_with fail
    go_ret2
    exact ⟨rfl, HB1.out⟩
  · have h2 := HE.out
    rw [he] at h2
    subst h2
    obtain ⟨r0, r1, r2⟩ := sound_root (ck_sound (evE_zero.1 he).1)
    have hr : R = (vaR f d v BS NS []).getD root.toNat 0 := by rw [← HR.out]; unfold evV; rw [if_pos he]
    obtain ⟨q, rfl⟩ : ∃ q : Nat, root = q := ⟨root.toNat, by omega⟩
    simp only [Int.toNat_natCast] at r1 hr
    have s0 := inA_get (vaR f d v BS NS []) q (by rw [vaR_len]; simpa using r1)
    rw [← hr] at s0
    have c0 := hG.cell q s0
    have t3 := (HT0.out.below hb).cell 3 rfl
    have HB1 := hide (bel HB0.out hb)
    have i0 : (0 : Int) ≤ q := by omega
    have i1 : (q : Int) < NS.length := by omega
    clear hb he HA HB0 HT0 s0 hr hG r0 r1 r2 HE HR
    go_wp2_with fail
    go_ret2
    exact ⟨rfl, HB1.out⟩

set_option maxRecDepth 100000 in
set_option maxHeartbeats 8000000 in
theorem run_core (f d : Int) (v : Wd) {s : ByteArray} (Bad : Prop) (Good : List Txt → List E → E → Prop)
    (HP0 : ∀ w, Calls Tryz.prog 19 #[.string s] w fun e W' => (Bad ∧ e = .returned (.tuple #[.agg nil4, .int .i64 10]) ∧ Below w.heap.size w W') ∨
      ∃ NM es ex na nc ba bc da dc, Good NM es ex ∧ Dec NM (bdL es 0) (nodesOf es ex) (rootOf es ex) es ex ∧
      e = .returned (.tuple #[.agg (tr4 (.slice na es.length nc) (.slice ba es.length bc) (.slice da (szL es + ex.size) dc) (.int .i64 (rootOf es ex))), .int .i64 0]) ∧ Tx W' na es.length nc NM ∧ Iz W' ba es.length bc (bdL es 0) ∧
      Nz W' da (szL es + ex.size) dc (nodesOf es ex) ∧ Below w.heap.size w W')
    {W : World} {pa : Option Addr} {pl pc : Nat} (hP : Knd.Ints W pa pl pc v.ps) :
    Calls Tryz.prog 24 #[.agg (kdA f d), .string s, .agg (wdA v pa pl pc)] W fun e W' => ((Bad ∧ e = .returned (.tuple #[.int .i64 0, .int .i64 10])) ∨
      ∃ NM es ex, Good NM es ex ∧ Dec NM (bdL es 0) (nodesOf es ex) (rootOf es ex) es ex ∧
        e = .returned (.tuple #[.int .i64 (evV f d v NM (bdL es 0) (nodesOf es ex) (rootOf es ex)), .int .i64 (evE f d v NM (bdL es 0) (nodesOf es ex) (rootOf es ex))])) ∧ Below W.heap.size W W' := by
  have HP := hide HP0
  have hb1 := bel1 W (.cells (kdA f d) 23)
  have HB0 := hide (bel hb1 (bel1 (W.alloc (.cells (kdA f d) 23)) (.cells (wdA v pa pl pc) 30)))
  have HK0 := hide ((HasC.new W 23 (kdA f d)).alloc (.cells (wdA v pa pl pc) 30))
  have HW0 : Hid (HasC ((W.alloc (.cells (kdA f d) 23)).alloc (.cells (wdA v pa pl pc) 30)) (W.heap.size + 1) 30 (wdA v pa pl pc)) := by
    have := HasC.new (W.alloc (.cells (kdA f d) 23)) 30 (wdA v pa pl pc)
    simp only [World.size_alloc] at this
    exact hide this
  have HPI := hide hP
  clear hb1 HP0 hP
  go_enter Tryz.func24, Tryz.ntmps24
  go_wp2_with fail
  refine (HP.out _).mono ?_
  rintro e V1 (⟨hbad, rfl, hb⟩ | ⟨NM, es, ex, na, nc, ba, bc, da, dc, hgood, hD, rfl, hX, hI, hN, hb⟩)
  · have HBd := hide hbad
    have HB1 := hide (bel HB0.out hb)
    clear hbad hb HP HB0 HK0 HW0
    go_wp2_with fail
    go_ret2
    exact ⟨.inl ⟨HBd.out, rfl⟩, bel HB1.out (bel1 _ _)⟩
  · have hb2 := bel1 V1 (.cells (tr4 (.slice na es.length nc) (.slice ba es.length bc) (.slice da (szL es + ex.size) dc) (.int .i64 (rootOf es ex))) 28)
    have HB1 := hide (bel (bel HB0.out hb) hb2)
    have HC := hide (veval_any f d v (root := rootOf es ex) (hX.later hb2) (hI.later hb2) (hN.later hb2) (nm_short hD.ok) (HPI.out.later HB1.out))
    obtain ⟨k0, k1, -, -⟩ := two_of (HK0.out.below hb)
    obtain ⟨w0, w1, w2, w3⟩ := four_of (HW0.out.below hb)
    have hz0 := (HK0.out.below hb).lt
    have hz1 := (HW0.out.below hb).lt
    obtain ⟨R, hR⟩ : ∃ R, evV f d v NM (bdL es 0) (nodesOf es ex) (rootOf es ex) = R := ⟨_, rfl⟩
    obtain ⟨E, hE⟩ : ∃ E, evE f d v NM (bdL es 0) (nodesOf es ex) (rootOf es ex) = E := ⟨_, rfl⟩
    rw [hR, hE] at HC
    have HR := hide hR
    have HE := hide hE
    have HD := hide hD
    have HGd := hide hgood
    clear hX hI hN hb hb2 hD HP HB0 HW0 HK0 hR hE hgood
    go_wp2_with fail
    refine HC.out.mono ?_
    rintro e V2 ⟨rfl, hb⟩
    have HB2 := hide (bel HB1.out hb)
    clear hb HC HB1
    go_wp2_with fail
    go_ret2
    exact ⟨.inr ⟨NM, es, ex, HGd.out, HD.out, by rw [HR.out, HE.out]; rfl⟩, HB2.out⟩

/-- What run answers of every text. -/
theorem run_full (f d : Int) (v : Wd) (s : ByteArray) {W : World} {pa : Option Addr} {pl pc : Nat} (hP : Knd.Ints W pa pl pc v.ps) :
    Calls Tryz.prog 24 #[.agg (kdA f d), .string s, .agg (wdA v pa pl pc)] W fun e W' => ((True ∧ e = .returned (.tuple #[.int .i64 0, .int .i64 10])) ∨
      ∃ NM es ex, (∃ A, ak (bs s) = some A ∧ GP [] [] A (NM, es, ex)) ∧ Dec NM (bdL es 0) (nodesOf es ex) (rootOf es ex) es ex ∧
        e = .returned (.tuple #[.int .i64 (evV f d v NM (bdL es 0) (nodesOf es ex) (rootOf es ex)), .int .i64 (evE f d v NM (bdL es 0) (nodesOf es ex) (rootOf es ex))])) ∧ Below W.heap.size W W' := by
  refine run_core f d v True (fun NM es ex => ∃ A, ak (bs s) = some A ∧ GP [] [] A (NM, es, ex)) (fun w => ?_) hP
  refine (parse_full s w).mono ?_
  rintro e W1 (⟨h1, h2⟩ | ⟨A, NM, es, ex, na, nc, ba, bc, da, dc, ha, hg, h⟩)
  · exact .inl ⟨trivial, h1, h2⟩
  · exact .inr ⟨NM, es, ex, na, nc, ba, bc, da, dc, ⟨A, ha, hg⟩, h⟩
theorem run_dec (f d : Int) (v : Wd) {s : ByteArray} {A : List Tk} {NM : List Txt} {es : List E} {ex : E} (ha : ak (bs s) = some A) (hl : s.size ≤ 1024) (hg : GP [] [] A (NM, es, ex)) {W : World} {pa : Option Addr} {pl pc : Nat} (hP : Knd.Ints W pa pl pc v.ps) :
    Calls Tryz.prog 24 #[.agg (kdA f d), .string s, .agg (wdA v pa pl pc)] W fun e W' =>
      e = .returned (.tuple #[.int .i64 (evV f d v NM (bdL es 0) (nodesOf es ex) (rootOf es ex)), .int .i64 (evE f d v NM (bdL es 0) (nodesOf es ex) (rootOf es ex))]) ∧ Below W.heap.size W W' := by
  refine (run_core f d v (s := s) False (fun a b c => a = NM ∧ b = es ∧ c = ex) (fun w => ?_) hP).mono ?_
  · refine (parse_dec ha hl hg w).mono ?_
    rintro e W1 ⟨na, nc, ba, bc, da, dc, h⟩
    exact .inr ⟨NM, es, ex, na, nc, ba, bc, da, dc, ⟨rfl, rfl, rfl⟩, h⟩
  · rintro e W1 ⟨⟨h, -⟩ | ⟨a, b, c, ⟨rfl, rfl, rfl⟩, -, rfl⟩, hb⟩
    · exact h.elim
    · exact ⟨rfl, hb⟩

theorem own_ne3 {W : World} {base size b n : Nat} {t e : TypeId} {v : Value} {xs : List Value} {cs : Array Value} (h : W.ownsRow base e size v n xs) (hb : HasC W b t cs) (ht : t ≠ e) : v.ownBlock ≠ some b := by
  intro hk
  obtain ⟨-, cs', fr, h2⟩ := owns_block h b hk
  rw [hb] at h2
  cases h2
  exact ht rfl
theorem own_put1 {V : World} {base b : Nat} {e t : TypeId} {size n : Nat} {v : Value} {xs : List Value} {cs : Array Value} (h : V.ownsRow base e size v n xs) (hb : HasC V b t cs) (ht : t ≠ e) (i : Nat) (x : Value) : (V.setCell ⟨b, i, none⟩ x).ownsRow base e size v n xs := by
  refine ownsRow_setCell_other h (a := ⟨b, i, none⟩) ?_ x
  exact own_ne3 h hb ht
theorem Ls.put {w W : World} {v : Value} {L : List Int} {b : Nat} {t : TypeId} {cs : Array Value} (h : Ls w W v L) (hb : HasC W b t cs) (ht : t ≠ 3) (hw : w.heap.size ≤ b) (i : Nat) (x : Value) : Ls w (W.setCell ⟨b, i, none⟩ x) v L :=
  ⟨own_put1 h.a hb ht i x, h.bel.setCell (p := ⟨b, i, none⟩) hw x⟩
theorem list_ls2 {w W : World} {v : Value} {L : List Int} {ops : Array Oper} {rest : List Oper} {o : Oper} {a : Act} {Q : Exit → Act → World → Prop}
    (hgd : o.guard = none) (s x : Operand) (ho : o.op = .call { callee := .builtin .append, args := #[s, x], argTypes := #[25, 25] })
    (hs : a.eval s = v) (hen : Ls w W v L) (b : Nat) (p : Int) (hx : a.eval x = .slice (some ⟨b, 0, none⟩) 1 1) (hc : HasC W b 3 #[.int .i64 p]) (h3 : L.length ≤ 2000000)
    (h : ∀ g cap w', Ls w w' (.slice (some ⟨g, 0, none⟩) (L.length + 1) cap) (L ++ [p]) → Kp [3] W w' → wpList Tryz.prog ops Q rest (a.put o.dst (.slice (some ⟨g, 0, none⟩) (L.length + 1) cap)) w') :
    wpList Tryz.prog ops Q (o :: rest) a W :=
  list_in hgd s x ho hs hen.a hen.bel.size b p hx hc h3 fun g cap w' h1 h2 h4 => h g cap w' ⟨h1, h4 w hen.bel rfl⟩ h2

abbrev wd0 (v : Value) : Array Value := #[.int .i64 0, .int .i64 0, .int .i64 0, v]
/-- What flat answers. -/
def FlP (w : World) (m : Nat) (x : Int) (e : Ending) (W' : World) : Prop :=
  ∃ v, e = .returned (.agg (wd0 v)) ∧ Ls w W' v (List.replicate m x)

set_option maxRecDepth 100000 in
set_option maxHeartbeats 8000000 in
theorem flat_any (f d x : Int) {m : Nat} (hm : Knd.countZ f d = (m : Int)) (W : World) : Calls Tryz.prog 30 #[.agg (kdA f d), .int .i64 x] W (FlP W m x) := by
  have hm4 : m ≤ 44 := by
    have : Knd.countZ f d ≤ 44 := by unfold Knd.countZ; repeat' split <;> omega
    omega
  have HC := hide fun W => Knd.rcount_any f d W
  rw [hm] at HC
  clear hm
  have hb1 := bel1 W (.cells (kdA f d) 23)
  have hb2 := bel hb1 (bel1 (W.alloc (.cells (kdA f d) 23)) (.cells (wd0 (.slice none 0 0)) 30))
  have hb3 := bel hb2 (bel1 ((W.alloc (.cells (kdA f d) 23)).alloc (.cells (wd0 (.slice none 0 0)) 30)) (.cells (wd0 (.slice none 0 0)) 30))
  have HK0 := hide (((HasC.new W 23 (kdA f d)).alloc (.cells (wd0 (.slice none 0 0)) 30)).alloc (.cells (wd0 (.slice none 0 0)) 30))
  have HR0 : Hid (HasC (((W.alloc (.cells (kdA f d) 23)).alloc (.cells (wd0 (.slice none 0 0)) 30)).alloc (.cells (wd0 (.slice none 0 0)) 30)) (W.heap.size + 1) 30 (wd0 (.slice none 0 0))) := by
    have := (HasC.new (W.alloc (.cells (kdA f d) 23)) 30 (wd0 (.slice none 0 0))).alloc (.cells (wd0 (.slice none 0 0)) 30)
    simp only [World.size_alloc] at this
    exact hide this
  have HW0 : Hid (HasC (((W.alloc (.cells (kdA f d) 23)).alloc (.cells (wd0 (.slice none 0 0)) 30)).alloc (.cells (wd0 (.slice none 0 0)) 30)) (W.heap.size + 1 + 1) 30 (wd0 (.slice none 0 0))) := by
    have := HasC.new ((W.alloc (.cells (kdA f d) 23)).alloc (.cells (wd0 (.slice none 0 0)) 30)) 30 (wd0 (.slice none 0 0))
    simp only [World.size_alloc] at this
    exact hide this
  have HL0 : Hid (Ls W (((W.alloc (.cells (kdA f d) 23)).alloc (.cells (wd0 (.slice none 0 0)) 30)).alloc (.cells (wd0 (.slice none 0 0)) 30)) (.slice none 0 0) []) := hide ((Ls.start W).later hb3)
  clear hb1 hb2 hb3
  go_enter Tryz.func30, Tryz.ntmps30
  go_wp2_with fail
  go_loopw [6] (fun i wr => ∃ (k : Nat) (sv : Value), k ≤ m ∧ i = .int .i64 k ∧ Hid (Ls W wr sv (List.replicate k x)) ∧ Hid (HasC wr W.heap.size 23 (kdA f d)) ∧ Hid (HasC wr (W.heap.size + 1) 30 (wd0 (.slice none 0 0))) ∧ Hid (HasC wr (W.heap.size + 1 + 1) 30 (wd0 sv))) (fun i _ => m - (intOf i).toNat)
  case atStart => exact ⟨0, _, Nat.zero_le _, rfl, HL0, HK0, HR0, HW0⟩
  case round =>
    obtain ⟨k, sv, hk, rfl, HL, HK, HR, HW⟩ := hrel
    rename World => V
    clear HL0 HK0 HR0 HW0
    obtain ⟨k0, k1, -, -⟩ := two_of HK.out
    go_wp2_with fail
    refine (HC.out _).mono ?_
    rintro e V1 ⟨rfl, hb⟩
    have HL1 := hide (HL.out.later hb)
    have HK1 := hide (HK.out.below hb)
    have HR1 := hide (HR.out.below hb)
    have HW1 := hide (HW.out.below hb)
    clear hb HL HK HR HW k0 k1
    by_cases hlt : k < m
    · have h1 : decide ((k : Int) < (m : Int)) = true := by simpa using hlt
      obtain ⟨w0, w1, w2, w3⟩ := four_of HW1.out
      have z2 := HW1.out.lt
      have HJ : Hid ((List.replicate k x).length = k) := hide (by simp)
      go_wp2_with (at_builtin; refine list_ls2 (w := W) (L := List.replicate k x) rfl _ _ rfl rfl (HL1.out.alloc _) _ x rfl (HasC.new _ _ _) (by rw [HJ.out]; omega) ?_; intro g2 cap2 w2 HE2 HKp; rw [HJ.out] at HE2 ⊢; obtain ⟨u0, u1, u2, u3⟩ := four_of ((HW1.out.alloc (.cells #[.int .i64 x] 3)).kp HKp (by decide)); have u4 := ((HW1.out.alloc (.cells #[.int .i64 x] 3)).kp HKp (by decide)).frozen 3)
      have HW2 := (HW1.out.alloc (.cells #[.int .i64 x] 3)).kp HKp (by decide)
      have HK2 := (HK1.out.alloc (.cells #[.int .i64 x] 3)).kp HKp (by decide)
      have HR2 := (HR1.out.alloc (.cells #[.int .i64 x] 3)).kp HKp (by decide)
      go_roundw
      case rel => exact ⟨k + 1, .slice (some ⟨g2, 0, none⟩) (k + 1) cap2, by omega, by go_num, hide (by rw [List.replicate_succ']; exact HE2.put HW2 (by decide) (by omega) 3 _), hide (HK2.other (p := ⟨W.heap.size + 1 + 1, 3, none⟩) (by simp <;> omega) _), hide (HR2.other (p := ⟨W.heap.size + 1 + 1, 3, none⟩) (by simp <;> omega) _), hide (HW2.set 3 _)⟩
      case measure => simp [intOf]; omega
    · obtain rfl : k = m := by omega
      have h1 : decide ((k : Int) < (k : Int)) = false := by simp
      obtain ⟨va, vn, vc, rfl⟩ : ∃ a n c, sv = .slice a n c := by
        rcases own_forms HL1.out.a with ⟨h, -⟩ | ⟨g, c, h⟩
        · exact ⟨_, _, _, h⟩
        · exact ⟨_, _, _, h⟩
      obtain ⟨w0, w1, w2, w3⟩ := four_of HW1.out
      obtain ⟨r0, r1, r2, r3⟩ := four_of HR1.out
      have y0 := HR1.out.frozen 0
      have y1 := HR1.out.frozen 1
      have y2 := HR1.out.frozen 2
      have y3 := HR1.out.frozen 3
      go_wp2_with fail
      have s0 := HR1.out.set 0 (.int .i64 0)
      have s1 := s0.set 1 (.int .i64 0)
      have s2 := s1.set 2 (.int .i64 0)
      have s3 := s2.set 3 (.slice va vn vc)
      have c0 := s3.cell 0 rfl
      have c1 := s3.cell 1 rfl
      have c2 := s3.cell 2 rfl
      have c3 := s3.cell 3 rfl
      have l3 := (((HL1.out.put HR1.out (by decide) (by omega) 0 (.int .i64 0)).put s0 (by decide) (by omega) 1 (.int .i64 0)).put s1 (by decide) (by omega) 2 (.int .i64 0)).put s2 (by decide) (by omega) 3 (.slice va vn vc)
      exact bodyPost_ret (v := .agg (wd0 (.slice va vn vc))) (by simp [results, Tryz.results30, go_sem, c0, c1, c2, c3]) rfl ⟨_, rfl, l3⟩

end Go.Proofs.YtimdcmponhcngaaGreat

/-
  The median-edge predictor: what it comes to, plainly.
-/
namespace Go.Proofs.YtimdcmponhcngaaGreat
open Lx Pz
set_option linter.unusedVariables false

def w32 (a : Int) : Prop := -2147483648 ≤ a ∧ a ≤ 2147483647
theorem wd_of {a : Int} (h : w32 a) : Spn.wd a = true := Spn.wd_iff.2 h
theorem val_add {a b : Int} (ha : w32 a) (hb : w32 b) (h : w32 (a + b)) : Spn.valZ 8 0 0 [a, b] = (a + b, 0) := by
  have hm : Spn.mayB 8 0 0 [a, b] = true := by simp [Spn.mayB, wd_of ha, wd_of hb]; decide
  unfold Spn.valZ
  rw [if_pos hm]
  simp only [List.getD_cons_zero, List.getD_cons_succ]
  rw [show Spn.ex 8 0 0 a b (([] : List Int).getD 0 0) = (a + b, 0) from rfl]
  simp [wd_of h]
theorem val_sub {a b : Int} (ha : w32 a) (hb : w32 b) (h : w32 (a - b)) : Spn.valZ 9 0 0 [a, b] = (a - b, 0) := by
  have hm : Spn.mayB 9 0 0 [a, b] = true := by simp [Spn.mayB, wd_of ha, wd_of hb]; decide
  unfold Spn.valZ
  rw [if_pos hm]
  simp only [List.getD_cons_zero, List.getD_cons_succ]
  rw [show Spn.ex 9 0 0 a b (([] : List Int).getD 0 0) = (a - b, 0) from rfl]
  simp [wd_of h]
def medZ (a b c : Int) : Int := max (min a b) (min (max a b) c)
theorem val_med {a b c : Int} (ha : w32 a) (hb : w32 b) (hc : w32 c) : Spn.valZ 27 0 0 [a, b, c] = (medZ a b c, 0) := by
  have hm : Spn.mayB 27 0 0 [a, b, c] = true := by simp [Spn.mayB, wd_of ha, wd_of hb, wd_of hc]; decide
  have h : w32 (medZ a b c) := by unfold medZ w32 at *; omega
  unfold Spn.valZ
  rw [if_pos hm]
  simp only [List.getD_cons_zero, List.getD_cons_succ]
  rw [show Spn.ex 27 0 0 a b c = (medZ a b c, 0) from rfl]
  simp [wd_of h]

theorem num_same {f d d' : Int} (hm : Knd.May f d) (hm' : Knd.May f d') (p : Knd.Plc) : Knd.numZ f d p = Knd.numZ f d' p := by
  unfold Knd.numZ; rw [plcs_same hm hm']
theorem may8 : Knd.May 0 8 := by decide
theorem num_a {d : Int} (h : Knd.May 0 d) : Knd.numZ 0 d ⟨0, 2, -1, 0⟩ = some 16 := by rw [num_same h may8]; decide +kernel
theorem num_b {d : Int} (h : Knd.May 0 d) : Knd.numZ 0 d ⟨0, 2, 0, -1⟩ = some 10 := by rw [num_same h may8]; decide +kernel
theorem num_c {d : Int} (h : Knd.May 0 d) : Knd.numZ 0 d ⟨0, 2, -1, -1⟩ = some 9 := by rw [num_same h may8]; decide +kernel
theorem aw_ns : nodesOf [] awE = [lf 3 0 0 2 (-1) 0, lf 3 0 0 2 0 (-1), lf 3 0 0 2 (-1) 0, lf 3 0 0 2 0 (-1), ⟨8, 2, 3, 0, 0, 0, 0, 0, 0⟩, lf 3 0 0 2 (-1) (-1), ⟨9, 4, 5, 0, 0, 0, 0, 0, 0⟩, ⟨27, 0, 1, 6, 0, 0, 0, 0, 0⟩] := by decide +kernel
theorem aw_rt : rootOf [] awE = 7 := by decide +kernel
theorem med_va {d : Int} (hm : Knd.May 0 d) {L : List Int} {a b c : Int} (ha : L.getD 16 0 = a) (hb : L.getD 10 0 = b) (hc : L.getD 9 0 = c) (ra : 0 ≤ a ∧ a ≤ 65535) (rb : 0 ≤ b ∧ b ≤ 65535) (rc : 0 ≤ c ∧ c ≤ 65535) :
    (vaR 0 d ⟨0, 0, 0, L⟩ (bdL [] 0) (nodesOf [] awE) []).getD 7 0 = medZ a b (a + b - c) := by
  have pa : ∀ V, vaN 0 d ⟨0, 0, 0, L⟩ (bdL [] 0) V (lf 3 0 0 2 (-1) 0) = a := fun V => by
    rw [show vaN 0 d ⟨0, 0, 0, L⟩ (bdL [] 0) V (lf 3 0 0 2 (-1) 0) = L.getD ((Knd.numZ 0 d ⟨0, 2, -1, 0⟩).getD 0) 0 from rfl, num_a hm]; exact ha
  have pb : ∀ V, vaN 0 d ⟨0, 0, 0, L⟩ (bdL [] 0) V (lf 3 0 0 2 0 (-1)) = b := fun V => by
    rw [show vaN 0 d ⟨0, 0, 0, L⟩ (bdL [] 0) V (lf 3 0 0 2 0 (-1)) = L.getD ((Knd.numZ 0 d ⟨0, 2, 0, -1⟩).getD 0) 0 from rfl, num_b hm]; exact hb
  have pc : ∀ V, vaN 0 d ⟨0, 0, 0, L⟩ (bdL [] 0) V (lf 3 0 0 2 (-1) (-1)) = c := fun V => by
    rw [show vaN 0 d ⟨0, 0, 0, L⟩ (bdL [] 0) V (lf 3 0 0 2 (-1) (-1)) = L.getD ((Knd.numZ 0 d ⟨0, 2, -1, -1⟩).getD 0) 0 from rfl, num_c hm]; exact hc
  have p8 : vaN 0 d ⟨0, 0, 0, L⟩ (bdL [] 0) [a, b, a, b] ⟨8, 2, 3, 0, 0, 0, 0, 0, 0⟩ = a + b := by
    rw [show vaN 0 d ⟨0, 0, 0, L⟩ (bdL [] 0) [a, b, a, b] ⟨8, 2, 3, 0, 0, 0, 0, 0, 0⟩ = (Spn.valZ 8 0 0 [a, b]).1 from rfl, val_add (by unfold w32; omega) (by unfold w32; omega) (by unfold w32; omega)]
  have p9 : vaN 0 d ⟨0, 0, 0, L⟩ (bdL [] 0) [a, b, a, b, a + b, c] ⟨9, 4, 5, 0, 0, 0, 0, 0, 0⟩ = a + b - c := by
    rw [show vaN 0 d ⟨0, 0, 0, L⟩ (bdL [] 0) [a, b, a, b, a + b, c] ⟨9, 4, 5, 0, 0, 0, 0, 0, 0⟩ = (Spn.valZ 9 0 0 [a + b, c]).1 from rfl, val_sub (by unfold w32; omega) (by unfold w32; omega) (by unfold w32; omega)]
  have p27 : vaN 0 d ⟨0, 0, 0, L⟩ (bdL [] 0) [a, b, a, b, a + b, c, a + b - c] ⟨27, 0, 1, 6, 0, 0, 0, 0, 0⟩ = medZ a b (a + b - c) := by
    rw [show vaN 0 d ⟨0, 0, 0, L⟩ (bdL [] 0) [a, b, a, b, a + b, c, a + b - c] ⟨27, 0, 1, 6, 0, 0, 0, 0, 0⟩ = (Spn.valZ 27 0 0 [a, b, a + b - c]).1 from rfl, val_med (by unfold w32; omega) (by unfold w32; omega) (by unfold w32; omega)]
  rw [aw_ns]
  simp only [vaR, List.nil_append, List.cons_append, pa, pb, pc, p8, p9, p27]
  rfl
theorem med_fits {d : Int} (hm : Knd.May 0 d) {L : List Int} (hl : L.length = 44) (h : ∀ z ∈ L, 0 ≤ z ∧ z ≤ Knd.highZ 0 d) : Fits 0 d ⟨0, 0, 0, L⟩ := by
  refine ⟨⟨⟨⟨0, Knd.colZ 0 - 1, ?_, Int.le_refl 0, show (0 : Int) ≤ Knd.colZ 0 - 1 by decide⟩, ⟨0, Knd.rowZ 0 - 1, ?_, Int.le_refl 0, show (0 : Int) ≤ Knd.rowZ 0 - 1 by decide⟩⟩, ⟨0, 3, ?_, Int.le_refl 0, show (0 : Int) ≤ 3 by decide⟩⟩, ?_, ?_⟩
  · unfold Knd.inZ; rw [if_neg (by simpa using hm)]; rfl
  · unfold Knd.inZ; rw [if_neg (by simpa using hm)]; rfl
  · unfold Knd.inZ; rw [if_neg (by simpa using hm)]; rfl
  · rw [(Knd.zs0 hm).2.2.2]; show ((L.length : Nat) : Int) = 44; omega
  · rw [(Knd.zs0 hm).1]; exact h
theorem med_ck {d : Int} (hm : Knd.May 0 d) : ckE 0 d [] (bdL [] 0) (nodesOf [] awE) (rootOf [] awE) = 0 := by
  have h16 : ckE 0 16 [] (bdL [] 0) (nodesOf [] awE) (rootOf [] awE) = 0 := by decide +kernel
  obtain ⟨es, ex, hD⟩ := chk_dec.1 (ck_sound h16)
  have := ck_narrow (d' := d) hm (by have := hm.2.2; exact this) hD.wl (by rw [aw_ns]; decide) h16
  exact this.1
theorem med_ev {d : Int} (hm : Knd.May 0 d) {L : List Int} (hl : L.length = 44) (h : ∀ z ∈ L, 0 ≤ z ∧ z ≤ Knd.highZ 0 d) {a b c : Int} (ha : L.getD 16 0 = a) (hb : L.getD 10 0 = b) (hc : L.getD 9 0 = c) (ra : 0 ≤ a ∧ a ≤ 65535) (rb : 0 ≤ b ∧ b ≤ 65535) (rc : 0 ≤ c ∧ c ≤ 65535) :
    evE 0 d ⟨0, 0, 0, L⟩ [] (bdL [] 0) (nodesOf [] awE) (rootOf [] awE) = 0 ∧ evV 0 d ⟨0, 0, 0, L⟩ [] (bdL [] 0) (nodesOf [] awE) (rootOf [] awE) = medZ a b (a + b - c) := by
  have h0 := evE_zero.2 ⟨med_ck hm, med_fits hm hl h⟩
  refine ⟨h0, ?_⟩
  unfold evV
  rw [if_pos h0, aw_rt]
  exact med_va hm ha hb hc ra rb rc

end Go.Proofs.YtimdcmponhcngaaGreat

/-
  awake.
-/
namespace Go.Proofs.YtimdcmponhcngaaGreat
open Go.RowKit Go.IntWalk Lx Pz
set_option linter.unusedVariables false

theorem Ls.set {w W : World} {g n cap : Nat} {L : List Int} (h : Ls w W (.slice (some ⟨g, 0, none⟩) n cap) L) (hn : L.length = n) (j : Nat) (x : Int) : Ls w (W.setCell ⟨g, j, none⟩ (.int .i64 x)) (.slice (some ⟨g, 0, none⟩) n cap) (L.set j x) := by
  have h1 := h.a
  rw [hn] at h1
  have h2 := (World.ownsRow.stored h1 j (.int .i64 x)).1
  have hg := (h.a.lt g rfl).1
  refine ⟨?_, h.bel.setCell (p := ⟨g, j, none⟩) hg _⟩
  rw [List.length_set, hn]
  have e : (in64 L).set j (.int .i64 x) = in64 (L.set j x) := by simp [in64]
  rw [← e]
  exact h2
theorem Ls.ints {w W : World} {g n cap : Nat} {L : List Int} (h : Ls w W (.slice (some ⟨g, 0, none⟩) n cap) L) (hn : L.length = n) : Knd.Ints W (some ⟨g, 0, none⟩) n cap L := by
  have h1 := h.a
  rw [hn] at h1
  obtain ⟨a, c, e, hi, -⟩ := Knd.Ints.of_owns h1
  cases e
  exact hi
theorem Ls.form {w W : World} {v : Value} {L : List Int} (h : Ls w W v L) (hn : 0 < L.length) : ∃ g cap, v = .slice (some ⟨g, 0, none⟩) L.length cap ∧ w.heap.size ≤ g := by
  rcases own_forms h.a with ⟨-, h0⟩ | ⟨g, c, e⟩
  · omega
  · subst e; exact ⟨g, c, rfl, (h.a.lt g rfl).1⟩

def awL : List Int := ((List.replicate 44 10).set 16 7).set 10 30
theorem awL_ok : awL.length = 44 ∧ awL.getD 16 0 = 7 ∧ awL.getD 10 0 = 30 ∧ awL.getD 9 0 = 10 ∧ ∀ z ∈ awL, 0 ≤ z ∧ z ≤ Knd.highZ 0 8 := by decide +kernel
set_option maxRecDepth 100000 in
set_option maxHeartbeats 4000000 in
theorem vawake_any (W : World) : Calls Tryz.prog 14 #[] W fun e w' => e = .returned (.bool true) ∧ Below W.heap.size W w' := by
  obtain ⟨a0, a1, a2, a3, a4⟩ := awL_ok
  obtain ⟨e0, e1⟩ := med_ev may8 a0 a4 a1 a2 a3 (by decide) (by decide) (by decide)
  have HF := hide (flat_any 0 8 10 (m := 44) (by decide +kernel) (W.alloc (.cells (kdA 0 8) 23)))
  have HRn := hide fun (V : World) (pa : Option Addr) (pc : Nat) (h : Knd.Ints V pa 44 pc awL) => run_dec 0 8 ⟨0, 0, 0, awL⟩ (s := sB awT) (by rw [bs_sB]; exact aw_ak) (by decide) aw_gp h
  rw [e0, e1, show medZ 7 30 (7 + 30 - 10) = 27 by decide] at HRn
  have HB0 := hide (bel1 W (.cells (kdA 0 8) 23))
  have HK0 := hide (HasC.new W 23 (kdA 0 8))
  clear a0 a1 a2 a3 a4 e0 e1
  go_enter Tryz.func14, Tryz.ntmps14
  go_wp2_with fail
  refine HF.out.mono ?_
  rintro e V1 ⟨v, rfl, hL⟩
  obtain ⟨g, cap, rfl, hg⟩ := hL.form (by simp)
  rw [List.length_replicate] at hL ⊢
  have hb := hL.bel
  have hgk : W.heap.size < g := by rw [World.size_alloc] at hg; exact hg
  have HL1 := hide ((((hL.set (by simp) 16 7).set (by simp) 10 30).alloc (.cells (wd0 (.slice (some ⟨g, 0, none⟩) 44 cap)) 30)).drew)
  have HK1 := hide (((((HK0.out.below hb).other (p := ⟨g, 16, none⟩) (by simp; omega) (.int .i64 7)).other (p := ⟨g, 10, none⟩) (by simp; omega) (.int .i64 30)).alloc (.cells (wd0 (.slice (some ⟨g, 0, none⟩) 44 cap)) 30)).below (below_drew _))
  have HW1 := hide ((HasC.new ((V1.setCell ⟨g, 16, none⟩ (.int .i64 7)).setCell ⟨g, 10, none⟩ (.int .i64 30)) 30 (wd0 (.slice (some ⟨g, 0, none⟩) 44 cap))).below (below_drew _))
  simp only [World.size_setCell] at HW1
  have hgl := (hL.a.lt g rfl).2
  have z1 := World.ownsRow.frozenAt hL.a 16
  have z2 := World.ownsRow.frozenAt hL.a 10
  have c1 := World.ownsRow.cellAt hL.a 16 (by decide)
  have c2 := World.ownsRow.cellAt hL.a 10 (by decide)
  rw [show (in64 (List.replicate 44 10))[16]? = some (.int .i64 10) from rfl] at c1
  rw [show (in64 (List.replicate 44 10))[10]? = some (.int .i64 10) from rfl] at c2
  have hk := (HK0.out.below hb).lt
  clear hb hL HK0 HF hgk
  go_wp2_with fail
  go_region
  all_goals
    obtain ⟨V3, hV3⟩ : ∃ V3, (((V1.setCell ⟨g, 16, none⟩ (.int .i64 7)).setCell ⟨g, 10, none⟩ (.int .i64 30)).alloc (.cells (wd0 (.slice (some ⟨g, 0, none⟩) 44 cap)) 30)).drew = V3 := ⟨_, rfl⟩
    rw [hV3] at HL1 HK1 HW1 ⊢
    have HI := HL1.out.ints rfl
    have HR := hide (HRn.out _ _ _ HI)
    have HB3 := hide (bel HB0.out HL1.out.bel)
    obtain ⟨k0, k1, -, -⟩ := two_of HK1.out
    obtain ⟨w0, w1, w2, w3⟩ := four_of HW1.out
    clear hV3 HI HRn HL1 z1 z2 c1 c2
    go_wp2_with fail
    refine HR.out.mono ?_
    rintro e V4 ⟨rfl, hb4⟩
    have HB4 := hide (bel HB3.out hb4)
    clear hb4 HB3 HR
    go_wp2_with fail
    go_ret
    exact ⟨rfl, HB4.out⟩

end Go.Proofs.YtimdcmponhcngaaGreat

/-
  The document's Verify.
-/
import Derived.Test.YtihbhbeaihdgnaaGreatRGZF
import Derived.Test.YtihbhbeaihdgnaaGreatRGZB
import Derived.Test.YtihbhbeaihdgnaaGreatRGZC
import Derived.Test.YtihbhbeaihdgnaaGreatRGW
import Derived.Deep.AppendLies
import Derived.Lib.QuietBelow
import Derived.BigQuiet
namespace Go.Proofs.Vfy
open Go.RowKit Go.IntWalk YtihbhbeaihdgnaaGreat.Knd Go.Sort
open Cde (In i0 ia kd cd Ins agL arN okI okT mcB coL zA abc six_of four_of has_new1 take_snoc)
set_option linter.unusedVariables false

theorem mixedD : Tryz.prog.follows .mixedOrders = true := by kernel_rfl
theorem gset (W : World) (p : Addr) (u : Value) : W.grownBy (W.setCell p u) (some p.block) :=
  ⟨rfl, rfl, rfl, by simp, fun k hk hne => Below.heap_setCell W p u k (fun e => hne (by rw [e]))⟩
theorem own_ne' {W : World} {base b : Nat} {e t : TypeId} {size n : Nat} {v : Value} {xs : List Value} {cs : Array Value} (h : W.ownsRow base e size v n xs) (hb : HasC W b t cs) (ht : t ≠ e) : v.ownBlock ≠ some b := by
  intro hv
  obtain ⟨-, cs', fr, hc⟩ := Cde.owns_block h b hv
  have h2 := hb.symm.trans hc
  simp only [Option.some.injEq, Obj.cells.injEq] at h2
  exact ht h2.2.1
/-- An append of one span: the row, and what else is kept. -/
theorem app_list {V : World} {base : Nat} {v : Value} {n : Nat} {L : Sps} {ops : Array Oper} {rest : List Oper} {o : Oper} {a : Act} {Q : Exit → Act → World → Prop}
    (hgd : o.guard = none) (s x : Operand) (ho : o.op = .call { callee := .builtin .append, args := #[s, x], argTypes := #[33, 33] })
    (hs : a.eval s = v) (hen : V.ownsRow base 74 2 v n (YtihbhbeaihdgnaaGreat.Spn.sp64 L)) (hbase : base ≤ V.heap.size) (b : Nat) (p q : Int) (hx : a.eval x = .slice (some ⟨b, 0, none⟩) 1 1) (hc : HasC V b 74 #[.int .i64 p, .int .i64 q]) (h3 : n ≤ 8796093022001)
    (h : ∀ g cap w', w'.ownsRow base 74 2 (.slice (some ⟨g, 0, none⟩) (n + 1) cap) (n + 1) (YtihbhbeaihdgnaaGreat.Spn.sp64 L ++ [.int .i64 p, .int .i64 q]) → V.grownBy w' v.ownBlock → wpList Tryz.prog ops Q rest (a.put o.dst (.slice (some ⟨g, 0, none⟩) (n + 1) cap)) w') :
    wpList Tryz.prog ops Q (o :: rest) a V := by
  obtain ⟨i0, hi0, hz0, hz1, hz2⟩ := YtihbhbeaihdgnaaGreat.Spn.info_parts YtihbhbeaihdgnaaGreat.Spn.info26
  refine wpList_append_lies V hgd s x 33 ho base 74 i0 _ 2 16 Tryz.underlying33 hi0 hz0 hz1 hz2 rfl (by omega) v n (YtihbhbeaihdgnaaGreat.Spn.sp64 L) hs hen ⟨b, 0, none⟩ 1 1 [.int .i64 p, .int .i64 q] hx rfl (YtihbhbeaihdgnaaGreat.Spn.news_two hc) (by simp [Value.oneCell']) (by omega) (by unfold maxLen; omega) (by omega) hbase V.heap.size rfl ?_
  intro g cap w' hown hgrow hat hlt
  exact h g cap w' hown hgrow

/-- What the document's Verify keeps: the boxes of the code and the answer, the spans. -/
structure Vq (W V : World) (cv : Array Value) (v : Value) (S : Sps) : Prop where
  bel : Below W.heap.size W V
  C : HasC V W.heap.size 26 cv
  R : HasC V (W.heap.size + 1) 35 rep0
  S : V.ownsRow W.heap.size 74 2 v S.length (YtihbhbeaihdgnaaGreat.Spn.sp64 S)
theorem Vq.later {W V V' : World} {cv : Array Value} {v : Value} {S : Sps} (h : Vq W V cv v S) (hb : Below V.heap.size V V') : Vq W V' cv v S :=
  ⟨YtihbhbeaihdgnaaGreat.Knd.bel h.bel hb, h.C.below hb, h.R.below hb, Cde.own_later h.S hb⟩
theorem Vq.vlt {W V : World} {cv : Array Value} {v : Value} {S : Sps} (h : Vq W V cv v S) : ∀ b, v.ownBlock = some b → b < V.heap.size := fun b hb => (h.S.lt b hb).2
/-- Something is written behind all that is kept. -/
theorem Vq.kept {W V V' : World} {cv : Array Value} {v : Value} {S : Sps} {row : Option Nat} {B : Nat} (h : Vq W V cv v S) (hB : W.heap.size + 1 < B) (hv : ∀ b, v.ownBlock = some b → b < B) (hg : V.grownBy V' row) (hr : ∀ r, row = some r → B ≤ r) : Vq W V' cv v S := by
  have hne : ∀ b, b < B → some b ≠ row := fun b hb e => by have := hr b e.symm; omega
  refine ⟨h.bel.grown hg h.bel.size (fun k hk => by have := hr k hk; omega), h.C.kept hg (hne _ (by omega)), h.R.kept hg (hne _ (by omega)), h.S.kept hg ?_⟩
  cases hvb : v.ownBlock with
  | none => exact .inl rfl
  | some b => exact .inr (hne b (hv b hvb))
/-- One span more. -/
theorem Vq.grow {W V V' : World} {cv : Array Value} {v : Value} {S : Sps} (h : Vq W V cv v S) {g cap : Nat} {x y : Int} (hown : V'.ownsRow W.heap.size 74 2 (.slice (some ⟨g, 0, none⟩) (S.length + 1) cap) (S.length + 1) (YtihbhbeaihdgnaaGreat.Spn.sp64 S ++ [.int .i64 x, .int .i64 y])) (hg : V.grownBy V' v.ownBlock) :
    Vq W V' cv (.slice (some ⟨g, 0, none⟩) (S.length + 1) cap) (S ++ [(x, y)]) := by
  refine ⟨h.bel.grown hg h.bel.size (fun k hk => (h.S.lt k hk).1), h.C.kept hg (fun e => own_ne' h.S h.C (by decide) e.symm), h.R.kept hg (fun e => own_ne' h.S h.R (by decide) e.symm), ?_⟩
  rw [YtihbhbeaihdgnaaGreat.Spn.sp64_snoc, List.length_append]
  exact hown
theorem own_put3 {V : World} {base b : Nat} {e t : TypeId} {size n : Nat} {v : Value} {xs : List Value} {cs : Array Value} (h : V.ownsRow base e size v n xs) (hb : HasC V b t cs) (ht : t ≠ e) (x y z : Value) : (((V.setCell ⟨b, 0, none⟩ x).setCell ⟨b, 1, none⟩ y).setCell ⟨b, 2, none⟩ z).ownsRow base e size v n xs := by
  have hn := own_ne' h hb ht
  exact ((h.kept (gset V ⟨b, 0, none⟩ x) (.inr hn)).kept (gset _ ⟨b, 1, none⟩ y) (.inr hn)).kept (gset _ ⟨b, 2, none⟩ z) (.inr hn)
theorem VfP.list {w W' : World} {f d : Int} {L : List In} {out : Int} {S : Sps} {v : Value} {n : Nat} {co : Int} (h : vfE f d L out = 0) (hS : sgF f d L = (0, S)) (hl : S.length = n) (hco : coL L = co) (hb : Below w.heap.size w W') {a : Option Addr} {cap : Nat} (hv : v = .slice a n cap) (hO : W'.ownsRow w.heap.size 74 2 v n (YtihbhbeaihdgnaaGreat.Spn.sp64 S)) : VfP false w f d L out (.returned (.tuple #[.agg #[.slice a n cap, .int .i64 co, .int .i64 0], .int .i64 0])) W' := by
  obtain ⟨m, -, ⟨S', h1, h2, h3⟩, -, h4, h5⟩ := vf_parts h
  rw [hS] at h1
  cases h1
  subst hv
  have hn : L.length = n := by rw [← h2, hl]
  unfold VfP
  rw [h3, h4, h5, h, hn, hco]
  obtain ⟨a', c', e', hsp⟩ := YtihbhbeaihdgnaaGreat.Spn.Spans.of_owns hO hl
  cases e'
  exact ⟨a, cap, rfl, hsp, hb, fun b off e => by subst e; exact (hO.lt b rfl).1, fun h => by cases h⟩

/-- A leaf's span. -/
theorem lf_leaf {f d : Int} {S : Sps} {n : In} {i : Nat} (hm : May f d) (ho : okI n i = true) (h : n.op = 1 ∨ n.op = 2 ∨ n.op = 3) : (lfZ f d n.op n.k).2 = true ∧ sgI f d S n = ((lfZ f d n.op n.k).1, 0) := by
  have hc := Cde.ok_con ho
  unfold lfZ sgI
  by_cases h1 : n.op = 1
  · rw [if_pos h1, if_pos h1]; exact ⟨rfl, rfl⟩
  rw [if_neg h1, if_neg h1]
  by_cases h2 : n.op = 2
  · rw [if_pos h2, if_pos h2]
    rw [Cde.csB, if_neg h1, if_pos h2, Bool.and_eq_true, YtihbhbeaihdgnaaGreat.Spn.inB_iff] at hc
    refine ⟨?_, rfl⟩
    have hk := hc.1
    show (inZ f d n.k).isSome = true
    unfold inZ
    rw [if_neg (by simpa using hm)]
    repeat' split
    all_goals first | rfl | (exfalso; omega)
  · rw [if_neg h2, if_neg h2, if_pos (by omega), if_pos (by omega)]; exact ⟨rfl, rfl⟩
theorem lf_in (f d : Int) {n : In} (h : ¬ (n.op = 1 ∨ n.op = 2 ∨ n.op = 3)) : lfZ f d n.op n.k = ((0, 0), false) := by
  unfold lfZ; rw [if_neg (by omega), if_neg (by omega), if_neg (by omega)]

set_option maxRecDepth 100000 in
set_option maxHeartbeats 16000000 in
theorem jverify_any (f d out : Int) {a : Option Addr} {n cap : Nat} {L : List In} {W : World} (hL : Ins W a n cap L) :
    Calls Tryz.prog 7 #[.agg (cd f d a n cap out)] W (VfP false W f d L out) := by
  have hb1 := bel1 W (.cells (cd f d a n cap out) 26)
  have hb2 := bel hb1 (bel1 (W.alloc (.cells (cd f d a n cap out) 26)) (.cells rep0 35))
  have HB0 := hide hb2
  have HC0 := hide ((HasC.new W 26 (cd f d a n cap out)).alloc (.cells rep0 35))
  have HR0 := hide (has_new1 W (.cells (cd f d a n cap out) 26) 35 rep0)
  have HM := hide (Cde.xMay_any f d out (hL.later hb2))
  have HLI := hide hL
  have HLn := hide hL.len
  clear hb1 hb2 hL
  cases hmc : mcB f d L out with
  | false =>
    have HE : Hid (vfE f d L out = 15) := hide (by unfold vfE; rw [show myE f d L out = 15 by unfold myE; rw [if_neg (by rw [hmc]; simp)]]; rfl)
    rw [hmc] at HM
    clear hmc
    go_enter Tryz.func7, Tryz.ntmps7
    go_wp2_with fail
    refine HM.out.mono ?_
    rintro e V1 ⟨rfl, hb⟩
    have HR1 := hide (HR0.out.below hb)
    have HB1 := hide (bel HB0.out hb)
    obtain ⟨r0, r1, r2, r3, r4, r5⟩ := three_of HR1.out
    clear hb
    go_wp2_with fail
    obtain ⟨hp, hpb⟩ := put_three HR1.out HB1.out (by omega) (.slice none 0 0) (.int .i64 0) (.int .i64 0)
    have p0 := hp.cell 0 rfl
    have p1 := hp.cell 1 rfl
    have p2 := hp.cell 2 rfl
    exact bodyPost_ret (v := .tuple #[.agg rep0, .int .i64 15]) (by simp [results, Tryz.results7, go_sem, p0, p1, p2]) rfl (VfP.no HE.out (by decide) hpb)
  | true =>
    obtain ⟨hmay, m1, m2, -, -, hok⟩ := Cde.mc_parts hmc
    rw [HLn.out] at m1 m2 hok
    have HMy := hide hmay
    have HOk := hide hok
    have HMc := hide hmc
    have HA2 := hide fun k => ah_snoc (f := f) (d := d) (L := L) (k := k)
    have HA3 := hide fun k => ah_of (f := f) (d := d) (L := L) (k := k)
    have HKc := hide fun w => rcount_any f d w
    have HJl := hide fun op k w => jleaf_any f d op k w
    rw [hmc] at HM
    clear hmc hok hmay
    go_enter Tryz.func7, Tryz.ntmps7
    go_wp2_with fail
    refine HM.out.mono ?_
    rintro e V1 ⟨rfl, hb⟩
    have HC1 := hide (HC0.out.below hb)
    have HR1 := hide (HR0.out.below hb)
    have HB1 := hide (bel HB0.out hb)
    clear hb HC0 HR0 HB0 HM
    go_wp2_with fail
    go_loopw [4] (fun iv wr => ∃ k : Nat, k ≤ n ∧ iv = .int .i64 k ∧ Hid ((L.take k).any (ahI f d) = false) ∧ Hid (Below V1.heap.size V1 wr)) (fun iv _ => n - (intOf iv).toNat)
    case atStart => exact ⟨0, Nat.zero_le _, rfl, hide rfl, hide (Below.refl _ _)⟩
    case round =>
      obtain ⟨k, hk, rfl, HA, HB⟩ := hrel
      rename World => V
      obtain ⟨c0, c1, c2, c3⟩ := four_of (HC1.out.below HB.out)
      by_cases hlt : k < n
      · obtain ⟨g, off, rfl, -, hat⟩ := (HLI.out.later (bel HB1.out HB.out)).at (by omega)
        obtain ⟨e0, -, -, -, e4, -⟩ := hat k hlt
        clear hat
        have hi0 : (0 : Int) ≤ k := by omega
        have hi1 : (k : Int) < n := by omega
        have HS2 := hide (HA2.out k (by rw [HLn.out]; exact hlt) HA.out)
        have HS3 := hide (HA3.out k (by rw [HLn.out]; exact hlt))
        unfold ahI at HS2 HS3
        generalize L.getD k i0 = nn at *
        obtain ⟨cz, hcz⟩ : ∃ cz, countZ f d = cz := ⟨_, rfl⟩
        have HK2 := hide HKc.out
        rw [hcz] at HK2
        have HCZ := hide hcz
        clear hcz
        clear HA2 HA3 HA
        obtain ⟨bt, hbt, HBt⟩ : ∃ bt : Bool, (nn.op == 3 && decide (cz ≤ nn.k)) = bt ∧ Hid ((nn.op == 3 && decide (countZ f d ≤ nn.k)) = bt) := ⟨_, rfl, hide (by rw [HCZ.out])⟩
        have k0 := cell_regrown c0
        have k1 := cell_regrown c1
        have k2 := cell_regrown c2
        have k3 := cell_regrown e0
        have k4 := cell_regrown e4
        go_wp2_with fail
        by_cases ho : nn.op = 3
        · have ho1 : (nn.op == 3) = true := by simpa using ho
          rw [ho1, Bool.true_and] at hbt
          refine wp_region_quiet_below mixedD (by kernel_rfl) ?_
          repeat (first | go_big_quiet_step (first
            | (go_at_call 21; exact Calls.regrown_of (HK2.out _))))
          refine wpQuiet_nil ?_
          intro Vs hw'
          obtain ⟨⟨dq, osq⟩, hw''⟩ := hw'
          have hb := below_regrown V dq osq
          simp only at hw''
          rw [← hw''] at hb
          have HB5 := hide (bel HB.out hb)
          have HR5 := hide (HR1.out.below HB5.out)
          clear hw'' k0 k1 k2 k3 k4 c0 c1 c2 c3 e0 e4 hb
          cases bt with
          | true =>
            have HT := hide (HS3.out HBt.out)
            have HE : Hid (vfE f d L out = 11) := hide (by unfold vfE; rw [show myE f d L out = 11 by unfold myE; rw [if_pos HMc.out, if_pos (show L.any (ahI f d) = true from HT.out)]]; rfl)
            have HB6 := hide (bel HB1.out HB5.out)
            obtain ⟨r0, r1, r2, r3, r4, r5⟩ := three_of HR5.out
            clear HS2 HS3
            go_wp2_with fail
            obtain ⟨hp, hpb⟩ := put_three HR5.out HB6.out (by omega) (.slice none 0 0) (.int .i64 0) (.int .i64 0)
            have p0 := hp.cell 0 rfl
            have p1 := hp.cell 1 rfl
            have p2 := hp.cell 2 rfl
            exact bodyPost_ret (v := .tuple #[.agg rep0, .int .i64 11]) (by simp [results, Tryz.results7, go_sem, p0, p1, p2]) rfl (VfP.no HE.out (by decide) hpb)
          | false =>
            have HT := hide (HS2.out HBt.out)
            clear HS2 HS3
            go_wp2_with fail
            go_roundw
            case rel => exact ⟨k + 1, by omega, by go_num, hide HT.out, HB5⟩
            case measure => simp [intOf]; omega
        · have ho1 : (nn.op == 3) = false := by simpa using ho
          rw [ho1, Bool.false_and] at hbt
          subst hbt
          refine wp_region_quiet_below mixedD (by kernel_rfl) ?_
          repeat (first | go_big_quiet_step (first
            | (go_at_call 21; exact Calls.regrown_of (HK2.out _))))
          refine wpQuiet_nil ?_
          intro Vs hw'
          obtain ⟨⟨dq, osq⟩, hw''⟩ := hw'
          have hb := below_regrown V dq osq
          simp only at hw''
          rw [← hw''] at hb
          have HB5 := hide (bel HB.out hb)
          clear hw'' k0 k1 k2 k3 k4 c0 c1 c2 c3 e0 e4 hb
          have HT := hide (HS2.out HBt.out)
          clear HS2 HS3
          go_wp2_with fail
          go_roundw
          case rel => exact ⟨k + 1, by omega, by go_num, hide HT.out, HB5⟩
          case measure => simp [intOf]; omega
      · obtain rfl : k = n := by omega
        have hT := HA.out
        rw [List.take_of_length_le (by rw [HLn.out]; exact Nat.le_refl _)] at hT
        have HZ : Hid (myE f d L out = 0) := hide (my_zero.2 ⟨HMc.out, hT⟩)
        have HQ0 : Hid (Vq W V (cd f d a k cap out) (.slice none 0 0) []) := ⟨bel HB1.out HB.out, HC1.out.below HB.out, HR1.out.below HB.out, ⟨rfl, .inl ⟨rfl, rfl⟩⟩⟩
        clear hT HA HB HA2 HA3 HC1 HR1 HB1 HKc
        go_wp2_with fail
        clear c0 c1 c2 c3
        have HCo := hide fun (w : World) (h : Ins w a k cap L) => Cde.xcost_any f d out h (by omega)
        go_loopw [5, 6] (fun v iv wr => ∃ (j : Nat) (S : Sps), j ≤ k ∧ iv = .int .i64 j ∧ Hid (sgF f d (L.take j) = (0, S)) ∧ Hid (S.length = j) ∧ Hid (Vq W wr (cd f d a k cap out) v S)) (fun _ iv _ => k - (intOf iv).toNat)
        case atStart => exact ⟨0, [], Nat.zero_le _, rfl, hide rfl, hide rfl, HQ0⟩
        case round =>
          obtain ⟨j, S, hj, rfl, HS, HSl, HQ⟩ := hrel
          rename World => V2
          clear HQ0
          obtain ⟨va, vc, rfl, hSp⟩ := YtihbhbeaihdgnaaGreat.Spn.Spans.of_owns HQ.out.S rfl
          have HSp := hide hSp
          clear hSp
          obtain ⟨c0, c1, c2, c3⟩ := four_of HQ.out.C
          by_cases hlt : j < k
          · obtain ⟨g, off, rfl, -, hat⟩ := (HLI.out.later HQ.out.bel).at (by omega)
            obtain ⟨e0, e1, e2, e3, e4, e5⟩ := hat j hlt
            clear hat
            have hi0 : (0 : Int) ≤ j := by omega
            have hi1 : (j : Int) < k := by omega
            have hOk := Cde.okT_at HOk.out hlt
            have hS2 := sgF_snoc f d (L.take j) (L.getD j i0)
            rw [← take_snoc i0 (by rw [HLn.out]; exact hlt), HS.out] at hS2
            have HSt := hide fun e h he => sgF_bad (f := f) (d := d) (L := L) (k := j + 1) (e := e) h he
            generalize L.getD j i0 = nn at *
            have HO := hide hOk
            unfold sgS at hS2
            simp only [if_true] at hS2
            have HS2 := hide hS2
            clear hS2 hOk
            have hb := bel1 V2 (.cells (ia nn) 41)
            have HQ2 := hide (HQ.out.later hb)
            have HN2 := hide (HasC.new V2 41 (ia nn))
            have HSp2 := hide (HSp.out.later hb)
            have hz0 := HQ.out.C.lt
            have HZR := hide HQ.out.R.lt
            have HVl := hide HQ.out.vlt
            clear hb HQ HSp HS
            go_wp2_with fail
            refine (HJl.out _ _ _).mono ?_
            rintro e V3 ⟨rfl, hb⟩
            obtain ⟨⟨⟨lo, hi⟩, lb⟩, hLZ⟩ : ∃ Z, lfZ f d nn.op nn.k = Z := ⟨_, rfl⟩
            rw [hLZ]
            have HLZ := hide hLZ
            clear hLZ
            have hsz := hb.size
            rw [World.size_alloc] at hsz
            have HQ3 := hide (HQ2.out.later hb)
            have HN3 := hide (HN2.out.below hb)
            have HSp3 := hide (HSp2.out.later hb)
            clear hb HQ2 HN2 HSp2 c0 c1 c2 c3 e0 e1 e2 e3 e4 e5
            have hbp := bel1 V3 (.cells #[.int .i64 lo, .int .i64 hi] 74)
            have HQ4 := hide (HQ3.out.later hbp)
            have HN4 := hide (HN3.out.below hbp)
            have HSp4 := hide (HSp3.out.later hbp)
            have HP4 := hide (HasC.new V3 74 #[.int .i64 lo, .int .i64 hi])
            have HBp := hide (show W.heap.size + 1 < V3.heap.size by have := HZR.out; omega)
            have HVp : Hid (∀ b, (Value.slice va S.length vc).ownBlock = some b → b < V3.heap.size) := hide (fun b hb => by have := HVl.out b hb; omega)
            clear hbp HSp3
            by_cases ho : nn.op = 1 ∨ nn.op = 2 ∨ nn.op = 3
            · obtain ⟨l1, l2⟩ := lf_leaf (S := S) HMy.out HO.out ho
              rw [HLZ.out] at l1 l2
              have l1 : lb = true := l1
              subst l1
              have HS3 := hide HS2.out
              rw [l2, if_pos rfl] at HS3
              have HLt := hide (has_new1 V3 (.cells #[.int .i64 lo, .int .i64 hi] 74) 74 #[.int .i64 lo, .int .i64 hi])
              have HQ5 := hide (HQ4.out.later (bel1 _ (.cells #[.int .i64 lo, .int .i64 hi] 74)))
              obtain ⟨s0, s1, -, -⟩ := two_of HP4.out
              clear l2 ho HSt
              go_wp2_with (at_builtin; go_loud (refine app_list (L := S) rfl _ _ rfl rfl HQ5.out.S HQ5.out.bel.size _ lo hi rfl HLt.out (by have := HSl.out; omega) ?_; intro g2 cap2 V7 hown hgrow; have HQ7 := hide (HQ5.out.grow hown hgrow)))
              go_roundw
              case rel => exact ⟨j + 1, S ++ [(lo, hi)], by omega, by go_num, hide HS3.out, hide (by simp [HSl.out]), hide HQ7.out⟩
              case measure => simp [intOf]; omega
            · have hl0 := HLZ.out
              rw [lf_in f d ho] at hl0
              cases hl0
              have hsg : sgI f d S nn = YtihbhbeaihdgnaaGreat.Spn.ofZ nn.op nn.k nn.s (asS S nn) := by unfold sgI; rw [if_neg (by omega), if_neg (by omega), if_neg (by omega)]
              have HS3 := hide HS2.out
              rw [hsg] at HS3
              have HRg := hide fun l hl => Cde.ok_reg HO.out (j := l) hl
              have HSg := hide fun l hl => asS_snoc (S := S) (n := nn) (k := l) hl
              have HA3 := hide (Cde.arN_le nn)
              have HAb := hide fun l (h : l < 3) => Cde.abc_at nn l h
              have HLl := hide (asS_len S nn)
              have HPO := hide fun w => Cde.xargs_any nn w
              generalize asS S nn = LL at *
              generalize arN nn = ar at *
              obtain ⟨n0', n1', n2', n3', n4', n5'⟩ := six_of HN4.out
              have HN3' := hide HN3.out
              obtain ⟨m0', m1', m2', m3', m4', m5'⟩ := six_of HN3.out
              have zN := HN3.out.lt
              clear hsg ho HS2 HO HLZ HQ3
              go_wp2_with fail
              clear n0' n1' n2' n3' n4' n5' m0' m1' m2' m3' m4' m5'
              refine (HPO.out _).mono ?_
              rintro e V5 ⟨g1, rfl, -, hG, hb⟩
              have HG := hide hG
              have HQ5 := hide (HQ4.out.later hb)
              have HN5 := hide (HN4.out.below hb)
              have HSp5 := hide (HSp4.out.later hb)
              have HP5 := hide (HP4.out.below hb)
              clear hG hb HQ4 HN4 HSp4 HP4 HPO HN3 HN3'
              go_wp2_with fail
              go_loopw [10, 12] (fun u iv wr => ∃ l : Nat, l ≤ ar ∧ iv = .int .i64 l ∧ Hid (YtihbhbeaihdgnaaGreat.Spn.Es V5 wr u l (LL.take l))) (fun _ iv _ => ar - (intOf iv).toNat)
              case atStart => exact ⟨0, Nat.zero_le _, rfl, hide (YtihbhbeaihdgnaaGreat.Spn.Es.start V5)⟩
              case round =>
                obtain ⟨l, hl, rfl, HE⟩ := hrel
                rename World => V6
                by_cases hll : l < ar
                · have h33 : l < 3 := by have := HA3.out; omega
                  have cp := (HG.out.below HE.out.bel).cell l (Cde.zA_get (abc nn) l (by simp [abc]; omega))
                  rw [HAb.out l h33] at cp
                  obtain ⟨p0, p1⟩ := HRg.out l hll
                  have HT := hide (HSg.out l hll)
                  obtain ⟨q, hq⟩ : ∃ q : Nat, Cde.rgN nn l = (q : Int) := ⟨(Cde.rgN nn l).toNat, by omega⟩
                  rw [hq] at cp p1 HT
                  simp only [Int.toNat_natCast] at p1 HT
                  have hSl := HSl.out
                  obtain ⟨b, bo, rfl, -, hcs⟩ := (HSp5.out.later HE.out.bel).at (by omega)
                  obtain ⟨s0, s1⟩ := hcs q (by omega)
                  generalize S.getD q (0, 0) = sv at *
                  obtain ⟨x1, x2⟩ := sv
                  simp only at s0 s1
                  have j0 : (0 : Int) ≤ l := by omega
                  have j1 : (l : Int) < ar := by omega
                  have j2 : (l : Int) < 3 := by omega
                  have u0 : (0 : Int) ≤ q := by omega
                  have u1 : (q : Int) < S.length := by omega
                  clear hcs p0 p1 hq hSl
                  go_wp2_with (at_builtin; refine YtihbhbeaihdgnaaGreat.Spn.list_span (w := V5) (L := LL.take l) rfl _ _ rfl rfl (HE.out.alloc _) _ x1 x2 rfl (YtihbhbeaihdgnaaGreat.Spn.HasC.new _ _ _) (by omega) ?_; intro g2 cap2 w2 HE2 hsz2)
                  go_roundw
                  case rel => exact ⟨l + 1, by omega, by go_num, hide (by rw [HT.out]; exact HE2)⟩
                  case measure => simp [intOf]; omega
                · obtain rfl : l = ar := by omega
                  have e : LL.take l = LL := List.take_of_length_le (by rw [HLl.out]; exact Nat.le_refl _)
                  have HE1 := HE.out
                  rw [e] at HE1
                  obtain ⟨ua, uc, rfl, hA⟩ := YtihbhbeaihdgnaaGreat.Spn.Spans.of_owns HE1.a HLl.out
                  have HOf := hide (YtihbhbeaihdgnaaGreat.Spn.qof_any nn.op nn.k nn.s _ _ _ _ _ hA)
                  have HQ6 := hide (HQ5.out.later HE1.bel)
                  have HN6 := hide (HN5.out.below HE1.bel)
                  have HP6 := hide (HP5.out.below HE1.bel)
                  obtain ⟨x0, -, -, -, x4, x5⟩ := six_of HN6.out
                  obtain ⟨⟨⟨lo, hi⟩, er⟩, hZ⟩ : ∃ Z, YtihbhbeaihdgnaaGreat.Spn.ofZ nn.op nn.k nn.s LL = Z := ⟨_, rfl⟩
                  rw [hZ] at HOf HS3
                  clear hZ hA e HE HE1 HSp5 HQ5 HN5 HP5 HRg HSg HAb
                  go_wp2_with fail
                  refine HOf.out.mono ?_
                  rintro e V7 ⟨rfl, hb⟩
                  have HQ7 := hide (HQ6.out.later hb)
                  have HP7 := hide (HP6.out.below hb)
                  clear hb x0 x4 x5 HOf HQ6 HP6 HN6
                  by_cases he : er = 0
                  · subst he
                    rw [if_pos rfl] at HS3
                    obtain ⟨s0, s1, s2, s3⟩ := two_of HP7.out
                    have zP := HP7.out.lt
                    have HP8 := hide ((set2 HP7.out (.int .i64 lo) (.int .i64 hi)).alloc (.cells #[.int .i64 lo, .int .i64 hi] 74))
                    have HQ8 := hide (((HQ7.out.kept (B := V3.heap.size) HBp.out HVp.out (gset V7 ⟨V3.heap.size, 0, none⟩ (.int .i64 lo)) (fun r e => by cases e; exact Nat.le_refl _)).kept (B := V3.heap.size) HBp.out HVp.out (gset _ ⟨V3.heap.size, 1, none⟩ (.int .i64 hi)) (fun r e => by cases e; exact Nat.le_refl _)).later (bel1 _ (.cells #[.int .i64 lo, .int .i64 hi] 74)))
                    have hlt8 := has_new1 ((V7.setCell ⟨V3.heap.size, 0, none⟩ (.int .i64 lo)).setCell ⟨V3.heap.size, 1, none⟩ (.int .i64 hi)) (.cells #[.int .i64 lo, .int .i64 hi] 74) 74 #[.int .i64 lo, .int .i64 hi]
                    rw [World.size_setCell, World.size_setCell] at hlt8
                    have HLt := hide hlt8
                    have HQ9 := hide (HQ8.out.later (bel1 _ (.cells #[.int .i64 lo, .int .i64 hi] 74)))
                    obtain ⟨t0, t1, -, -⟩ := two_of HP8.out
                    clear hlt8 HSt
                    go_wp2_with (at_builtin; go_loud (refine app_list (L := S) rfl _ _ rfl rfl HQ9.out.S HQ9.out.bel.size _ lo hi rfl HLt.out (by have := HSl.out; omega) ?_; intro g2 cap2 V8 hown hgrow; have HQa := hide (HQ9.out.grow hown hgrow)))
                    go_roundw
                    case rel => exact ⟨j + 1, S ++ [(lo, hi)], by omega, by go_num, hide HS3.out, hide (by simp [HSl.out]), hide HQa.out⟩
                    case measure => simp [intOf]; omega
                  · rw [if_neg he] at HS3
                    have HF := hide (HSt.out _ HS3.out he)
                    have HE2 : Hid (vfE f d L out = er) := hide (by rw [vf_span HZ.out (by rw [HF.out]; exact he), HF.out])
                    have HN := hide he
                    have he2 : (er != 0) = true := by simpa using he
                    obtain ⟨r0, r1, r2, r3, r4, r5⟩ := three_of HQ7.out.R
                    have zR := HQ7.out.R.lt
                    obtain ⟨hp, hpb⟩ := put_three HQ7.out.R HQ7.out.bel (by omega) (.slice none 0 0) (.int .i64 0) (.int .i64 0)
                    have P0 := hide (hp.alloc (.cells #[.int .i64 lo, .int .i64 hi] 74))
                    have PB := hide (bel hpb (bel1 _ (.cells #[.int .i64 lo, .int .i64 hi] 74)))
                    clear hp hpb he HS3 HSt HF
                    go_wp2_with fail
                    have p0 := P0.out.cell 0 rfl
                    have p1 := P0.out.cell 1 rfl
                    have p2 := P0.out.cell 2 rfl
                    exact bodyPost_ret (v := .tuple #[.agg rep0, .int .i64 er]) (by simp [results, Tryz.results7, go_sem, p0, p1, p2]) rfl (VfP.no HE2.out HN.out PB.out)
          · obtain rfl : j = k := by omega
            have hD := HS.out
            rw [List.take_of_length_le (by rw [HLn.out]; exact Nat.le_refl _)] at hD
            have HX := hide hD
            have h00 : (sgF f d L).1 = 0 := by rw [hD]
            clear hD HS
            go_wp2_with fail
            refine (HCo.out _ (HLI.out.later HQ.out.bel)).mono ?_
            rintro e V3 ⟨rfl, hb⟩
            obtain ⟨co, hco⟩ : ∃ co, coL L = co := ⟨_, rfl⟩
            rw [hco]
            have HK := hide hco
            have HQ3 := hide (HQ.out.later hb)
            clear hb hco c0 c1 c2 c3 HQ HSp
            obtain ⟨r0, r1, r2, r3, r4, r5⟩ := three_of HQ3.out.R
            by_cases hc : 200 < co
            · have HE := hide (vf_cost HZ.out h00 (by rw [HK.out]; exact hc))
              have hc2 : decide (200 < co) = true := by simpa using hc
              obtain ⟨hp, hpb⟩ := put_three HQ3.out.R HQ3.out.bel (by omega) (.slice none 0 0) (.int .i64 0) (.int .i64 0)
              have P0 := hide hp
              have PB := hide hpb
              clear hp hpb h00 hc
              go_wp2_with fail
              have p0 := P0.out.cell 0 rfl
              have p1 := P0.out.cell 1 rfl
              have p2 := P0.out.cell 2 rfl
              exact bodyPost_ret (v := .tuple #[.agg rep0, .int .i64 14]) (by simp [results, Tryz.results7, go_sem, p0, p1, p2]) rfl (VfP.no HE.out (by decide) PB.out)
            · have HE := hide (vf_ok HZ.out h00 (by rw [HK.out]; exact hc))
              have hc2 : decide (200 < co) = false := by simpa using hc
              obtain ⟨hp, hpb⟩ := put_three HQ3.out.R HQ3.out.bel (by omega) (.slice va S.length vc) (.int .i64 co) (.int .i64 0)
              have P0 := hide hp
              have PB := hide hpb
              have PS := hide (own_put3 HQ3.out.S HQ3.out.R (by decide) (.slice va S.length vc) (.int .i64 co) (.int .i64 0))
              clear hp hpb h00 hc
              go_wp2_with fail
              have p0 := P0.out.cell 0 rfl
              have p1 := P0.out.cell 1 rfl
              have p2 := P0.out.cell 2 rfl
              exact bodyPost_ret (v := .tuple #[.agg #[.slice va S.length vc, .int .i64 co, .int .i64 0], .int .i64 0]) (by simp [results, Tryz.results7, go_sem, p0, p1, p2]) rfl (VfP.list HE.out HX.out rfl HK.out PB.out rfl PS.out)

end Go.Proofs.Vfy

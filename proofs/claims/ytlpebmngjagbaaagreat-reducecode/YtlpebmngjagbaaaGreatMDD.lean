/-
  The document's quick, whatever the operator.
-/
import Derived.Test.YtlpebmngjagbaaaGreatMD3a
import Derived.Test.YtlpebmngjagbaaaGreatMD3b
import Derived.Test.YtlpebmngjagbaaaGreatMD3c
import Derived.Test.YtlpebmngjagbaaaGreatMD1
import Derived.Test.YtlpebmngjagbaaaGreatMUC
namespace Go.Proofs.Rdc
open Go.RowKit Go.IntWalk YtlpebmngjagbaaaGreat.Knd
open Cde (In i0 ia kd cd Ins at6 six_of four_of two_of has_new1 okI okT below_drew is6 i6 zA take_snoc)
open Vfy (vfE vfN vfC Sps w32)
open Fld (In1 rg gv ar ag2)
set_option linter.unusedVariables false

theorem mquick_any (n : In) {W V : World} {b : Nat} {f dd out : Int} {wa : Option Addr} {wn wc : Nat} {sa : Option Addr} {sn sc : Nat} {mv tv : Value} {L M : List In} {T : List Int} {S : Sps} (h : Mt W V b f dd out (.slice wa wn wc) (.slice sa sn sc) mv tv M T) (hL : Ins W wa wn wc L) (hS : YtlpebmngjagbaaaGreat.Spn.Spans W sa sn sc S) (hTw : T.length ≤ wn) (hTs : T.length ≤ sn) (hM : M.length ≤ 1000000) (hok : okI n T.length = true)
    (hSw : ∀ r, In1 r T.length → Wh (S.getD r.toNat (0, 0)).1 (S.getD r.toNat (0, 0)).2) (hLw : ∀ r, In1 r T.length → (rg L r).op = 1 → w32 (rg L r).k) :
    Calls Tryz.prog 15 #[.pointer (some ⟨b, 0, none⟩), .agg (ia n)] V (QmP W V b f dd out (.slice wa wn wc) (.slice sa sn sc) tv M T (qkL L S T n M.length)) := by
  by_cases hop : n.op < 8 ∨ 25 < n.op
  · exact mquick_no n hop h
  · have e : ar n.op = 2 := by
      have h1 : 8 ≤ n.op := by omega
      have h2 : n.op ≤ 25 := by omega
      unfold ar YtlpebmngjagbaaaGreat.Spn.ar
      rw [if_neg (by omega), if_neg (by simp only [YtlpebmngjagbaaaGreat.Spn.inB_iff]; omega), if_pos (by simp only [YtlpebmngjagbaaaGreat.Spn.inB_iff]; omega)]
    have ia' : In1 n.a T.length := Fld.ok_ag hok (by rw [ag2 e]; simp)
    have ib' : In1 n.b T.length := Fld.ok_ag hok (by rw [ag2 e]; simp)
    by_cases h10 : n.op = 10
    · exact mq_10 n h10 h hL hS hTw hTs hM ia' ib' hSw hLw
    by_cases h15 : n.op = 15
    · exact mq_15 n h15 h hL hS hTw hTs hM ia' ib' hSw hLw
    by_cases h13 : n.op = 13
    · exact mq_13 n h13 h hL hS hTw hTs hM ia' ib' hSw hLw
    by_cases h14 : n.op = 14
    · exact mq_14 n h14 h hL hS hTw hTs hM ia' ib' hSw hLw
    by_cases h11 : n.op = 11
    · exact mq_11 n h11 h hL hS hTw hTs hM ia' ib' hSw hLw
    by_cases h12 : n.op = 12
    · exact mq_12 n h12 h hL hS hTw hTs hM ia' ib' hSw hLw
    exact mq_0 n ⟨by omega, by omega⟩ h10 h15 h13 h14 h11 h12 h hL hS hTw hTs hM ia' ib' hSw hLw

end Go.Proofs.Rdc

/-
  The document's Reduce.
-/
namespace Go.Proofs.Rdc
open Go.RowKit Go.IntWalk YtlpebmngjagbaaaGreat.Knd
open Cde (In i0 ia kd cd Ins at6 six_of four_of two_of has_new1 okI okT below_drew is6 i6 zA take_snoc)
open Vfy (vfE vfN vfC vfS Sps w32)
open Fld (In1 rg gv ar ag2 thI)
set_option linter.unusedVariables false

/-- The document's boxes: the code, the answer, the making. -/
structure Rq (W V2 V : World) (b : Nat) (f d out : Int) (cv : Array Value) (wv sv mv tv : Value) (M : List In) (T : List Int) : Prop where
  c : HasC V W.heap.size 26 cv
  r : HasC V (W.heap.size + 1) 26 cdz
  m : Mt V2 V b f d out wv sv mv tv M T
  lo : Below W.heap.size W V
  hb : W.heap.size + 1 < b
section
variable {W V2 V : World} {b : Nat} {f d out : Int} {cv : Array Value} {wv sv mv tv : Value} {M : List In} {T : List Int}
theorem Rq.below {V' : World} (h : Rq W V2 V b f d out cv wv sv mv tv M T) (hb : Below V.heap.size V V') : Rq W V2 V' b f d out cv wv sv mv tv M T := ⟨h.c.below hb, h.r.below hb, h.m.below hb, bel h.lo hb, h.hb⟩
theorem Rq.next {V' : World} {mv' tv' : Value} {M' : List In} {T' : List Int} (h : Rq W V2 V b f d out cv wv sv mv tv M T) (hm : Mt V2 V' b f d out wv sv mv' tv' M' T') (hb : Below b V V') : Rq W V2 V' b f d out cv wv sv mv' tv' M' T' :=
  have := h.hb
  ⟨has_low h.c (by omega) hb, has_low h.r (by omega) hb, hm, ⟨hb.os.trans h.lo.os, hb.tape.trans h.lo.tape, hb.output.trans h.lo.output, Nat.le_trans h.lo.size hb.size, fun k hk => (hb.block k (by omega)).trans (h.lo.block k hk)⟩, h.hb⟩
end
theorem cell_oth {V : World} {g o : Nat} {v : Value} (h : V.cell? ⟨g, o, none⟩ = some v) {p : Addr} (hp : g ≠ p.block) (u : Value) : (V.setCell p u).cell? ⟨g, o, none⟩ = some v := (World.cell?_of_block (a := ⟨g, o, none⟩) (Below.heap_setCell V p u g hp)).trans h
theorem cell_oth4 {V : World} {W : World} {g o : Nat} {v : Value} (h : V.cell? ⟨g, o, none⟩ = some v) (hg : g ≠ W.heap.size + 1) (x y z u : Value) : ((((V.setCell ⟨W.heap.size + 1, 0, none⟩ x).setCell ⟨W.heap.size + 1, 1, none⟩ y).setCell ⟨W.heap.size + 1, 2, none⟩ z).setCell ⟨W.heap.size + 1, 3, none⟩ u).cell? ⟨g, o, none⟩ = some v :=
  cell_oth (cell_oth (cell_oth (cell_oth h (p := ⟨W.heap.size + 1, 0, none⟩) hg x) (p := ⟨W.heap.size + 1, 1, none⟩) hg y) (p := ⟨W.heap.size + 1, 2, none⟩) hg z) (p := ⟨W.heap.size + 1, 3, none⟩) hg u
theorem gtaken_at {f d out z : Int} {a1 a2 : Option Addr} {m n c1 c2 : Nat} {L M : List In} {W : World} (hL : L.length = n) (hN : rdN f d L out = M) (hz : rdO f d L out = z) (hm : M.length = m) (hO : W.ownsRow 0 39 6 (.slice a1 m c1) m (is6 M)) (hI : Ins W a2 n c2 L) (hn0 : 0 < n) (hn : n ≤ 1000) :
    Calls Tryz.prog 17 #[.agg (cd f d a2 n c2 out), .agg (cd f d a1 m c1 z)] W fun e W' => ∃ a' l c', (rxL f d L out).length = l ∧ e = .returned (.agg (cd f d a' l c' (rxO f d L out))) ∧ (∀ base, W.ownsRow base 39 6 (.slice a1 m c1) m (is6 M) → base ≤ W.heap.size → W'.ownsRow base 39 6 (.slice a' l c') l (is6 (rxL f d L out))) ∧ Below W.heap.size W W' := by
  subst hN hz
  exact gtaken_one hL hm hO hI hn0 hn

set_option maxRecDepth 100000 in
set_option maxHeartbeats 32000000 in
theorem dreduce_any (f d out : Int) {a : Option Addr} {n cap : Nat} {L : List In} {W : World} (hL : Ins W a n cap L) :
    Calls Tryz.prog 6 #[.agg (cd f d a n cap out)] W (FoP W f d L out) := by
  have b1 := bel1 W (.cells (cd f d a n cap out) 26)
  have b2 := bel b1 (bel1 _ (.cells cdz 26))
  have HC0 := hide ((HasC.new W 26 (cd f d a n cap out)).alloc (.cells cdz 26))
  have HR0 := hide (has_new1 W (.cells (cd f d a n cap out) 26) 26 cdz)
  have HB0 := hide b2
  have HV := hide (Vfy.jverify_any f d out (hL.later b2))
  have HLI := hide hL
  have HLn := hide hL.len
  clear b1 b2 hL
  go_enter Tryz.func6, Tryz.ntmps6
  go_wp2_with fail
  refine HV.out.mono ?_
  rintro e V1 ⟨ga, gc, rfl, hS, hb, -, -⟩
  obtain ⟨vm, hm⟩ : ∃ m, vfN f d L out = m := ⟨_, rfl⟩
  obtain ⟨co, hco⟩ : ∃ co, vfC f d L out = co := ⟨_, rfl⟩
  obtain ⟨er, her⟩ : ∃ er, vfE f d L out = er := ⟨_, rfl⟩
  rw [hm] at hS
  rw [hm, hco, her]
  have HEr := hide her
  have hb2 := bel1 V1 (.cells #[.slice ga vm gc, .int .i64 co, .int .i64 0] 42)
  have HC1 := hide ((HC0.out.below hb).below hb2)
  have HR1 := hide ((HR0.out.below hb).below hb2)
  have HB1 := hide (bel (bel HB0.out hb) hb2)
  have HP1 := hide (HasC.new V1 42 #[.slice ga vm gc, .int .i64 co, .int .i64 0])
  have HSp := hide (hS.later hb2)
  clear hm hco her hb hb2 hS HV HC0 HR0 HB0
  by_cases h0 : er = 0
  · have hr : (er != 0) = false := by simpa using h0
    have h0' := HEr.out.trans h0
    obtain ⟨m1, m2, o0, o1, hsl, hok, hSw, hLw⟩ := rd_facts h0'
    obtain ⟨S, hSe⟩ : ∃ S, vfS f d L out = S := ⟨_, rfl⟩
    have hsn := HSp.out.len
    have HSI := HSp.out
    rw [hSe] at hsl hSw hsn HSI
    rw [HLn.out] at m1 m2 o1 hsl hok hSw hLw
    have hvm : n = vm := by omega
    subst hvm
    obtain ⟨o, rfl⟩ : ∃ o : Nat, out = o := ⟨out.toNat, by omega⟩
    have HSe := hide hSe
    have HOk := hide hok
    have HSu := hide fun k (hk : k < n) => rdF_succ S (L := L) (k := k) (by rw [HLn.out]; exact hk)
    have HFew := hide fun k (hk : k ≤ n) => rd_few L S k (by rw [HLn.out]; exact hk)
    have HSw := hide hSw
    have HLw := hide hLw
    have HSI2 := hide HSI
    clear hok hSw hLw hsl hsn hSe HSI HSp
    go_upto_region 4 with fail
    obtain ⟨V2, hV2⟩ : ∃ V2, V1.alloc (.cells #[.slice ga n gc, .int .i64 co, .int .i64 0] 42) = V2 := ⟨_, rfl⟩
    rw [hV2] at HC1 HR1 HB1 HP1 HSI2 ⊢
    obtain ⟨gr, hgr⟩ : ∃ gr, V1.heap.size = gr := ⟨_, rfl⟩
    rw [hgr] at HP1 ⊢
    clear hV2 hgr
    have HL2 := hide (HLI.out.later HB1.out)
    have HQ0 : Hid (Rq W V2 (V2.alloc (.cells #[.int .i64 f, .int .i64 d, .slice a n cap, .int .i64 (o : Int), .slice ga n gc, .slice none 0 0, .slice none 0 0] 52)) V2.heap.size f d (o : Int) (cd f d a n cap (o : Int)) (.slice a n cap) (.slice ga n gc) (.slice none 0 0) (.slice none 0 0) [] []) :=
      hide ⟨HC1.out.below (bel1 _ _), HR1.out.below (bel1 _ _), ⟨HasC.new V2 52 _, ⟨rfl, .inl ⟨rfl, rfl⟩⟩, ⟨rfl, .inl ⟨rfl, rfl⟩⟩, bel1 _ _, Nat.le_refl _⟩, bel HB1.out (bel1 _ _), HR1.out.lt⟩
    obtain ⟨x0, x1, x2, x3⟩ := four_of HC1.out
    have y0 := HP1.out.cell 0 rfl
    go_wp2_with fail
    clear x0 x1 x2 x3 y0
    obtain ⟨b, hbe⟩ : ∃ b, V2.heap.size = b := ⟨_, rfl⟩
    rw [hbe] at HQ0 ⊢
    have HBe := hide hbe
    clear hbe HC1 HR1 HP1 HB1
    go_loopw [7] (fun i wr => ∃ (k : Nat) (M : List In) (T : List Int) (mv tv : Value), k ≤ n ∧ i = .int .i64 k ∧ Hid (rdF L S (L.take k) = (M, T)) ∧ Hid (T.length = k) ∧ Hid (Rq W V2 wr b f d (o : Int) (cd f d a n cap (o : Int)) (.slice a n cap) (.slice ga n gc) mv tv M T)) (fun i _ => n - (intOf i).toNat)
    case atStart => exact ⟨0, [], [], _, _, Nat.zero_le _, rfl, hide rfl, hide rfl, HQ0⟩
    case round =>
      obtain ⟨k, M, T, mv, tv, hk, rfl, HM, HTl, HF⟩ := hrel
      rename World => V
      clear HQ0
      obtain ⟨x0, x1, x2, x3⟩ := four_of HF.out.c
      by_cases hlt : k < n
      · obtain ⟨gl, off, rfl, -, hat⟩ := (HL2.out.later HF.out.m.lo).at (by omega)
        obtain ⟨e0, e1, e2, e3, e4, e5⟩ := hat k hlt
        clear hat
        have hi0 : (0 : Int) ≤ k := by omega
        have hi1 : (k : Int) < n := by omega
        have hSu := HSu.out k hlt
        have hfew := HFew.out k (by omega)
        rw [HM.out] at hSu hfew
        have hfew2 : M.length ≤ 6 * k := hfew
        have hOk := Cde.okT_at HOk.out hlt
        have HQd := hide fun (X : World) (hX : Ins X (some ⟨gl, off, none⟩) n cap L) => show at6 X gl (off + k * 6) (L.getD k i0) by
          obtain ⟨gl', off', e', -, hat⟩ := hX.at (by omega)
          cases e'
          exact hat k hlt
        generalize L.getD k i0 = q at *
        have hch := mquick_any q HF.out.m HL2.out HSI2.out (by rw [HTl.out]; omega) (by rw [HTl.out]; omega) (by omega) (by rw [HTl.out]; exact hOk) (fun r hr => HSw.out r ⟨hr.1, by have := hr.2; have := HTl.out; omega⟩) (fun r hr ho => HLw.out r ⟨hr.1, by have := hr.2; have := HTl.out; omega⟩ ho)
        obtain ⟨O, hO⟩ : ∃ O, qkL L S T q M.length = O := ⟨_, rfl⟩
        rw [hO] at hch
        have HCh := hide hch
        have HY := hide fun Q z (h : O = some Q) hz => hSu.trans (rdS_yes (z := z) (hO.trans h) hz)
        have HN := hide fun z (h : O = none) hz => hSu.trans (rdS_no (z := z) (hO.trans h) hz)
        have HMk : Hid (M.length ≤ 1200) := hide (by omega)
        have HTn := hide (th_need hOk)
        clear hO hSu hOk hch hfew hfew2
        go_wp2_with fail
        refine HCh.out.mono ?_
        clear HCh e0 e1 e2 e3 e4 e5
        rintro e V3 (⟨Q, h1, rfl, ⟨mv3, h3⟩, h4⟩ | ⟨h1, rfl, h3⟩)
        · obtain ⟨z, hz⟩ : ∃ z : Int, ((M.length + Q.length : Nat) : Int) - 1 = z := ⟨_, rfl⟩
          rw [hz]
          have HZ := hide (HY.out Q z h1 hz)
          have HF3 := hide (HF.out.next h3 h4)
          clear h1 h3 h4 hz HY HN x0 x1 x2 x3
          obtain ⟨ta, tc, rfl, -, -⟩ := Ints.of_owns HF3.out.m.t
          have HF3b := hide (HF3.out.below (bel1 V3 (.cells #[.int .i64 z] 3)))
          have HN9 := hide (HasC.new V3 3 #[.int .i64 z])
          have tcl := HF3.out.m.w.cell 6 rfl
          have hbl := HF3.out.m.w.lt
          go_wp2_with (at_builtin; refine int_list rfl _ _ rfl rfl HF3b.out.m.t HF3b.out.m.le _ z rfl HN9.out (by rw [HTl.out]; omega) ?_; intro g cap' w3 hown hgr; obtain ⟨hW4, hB4⟩ := HF3b.out.m.growT hgr hown; have hc3 := own_grow HF3b.out.m.t hgr HF3b.out.m.w (by decide); have v3 := hc3.cell 6 rfl; have yv := hc3.frozen 6; have hl3 := hc3.lt)
          have HF9 := hide (HF3b.out.next hW4 hB4)
          clear hown hgr hW4 hB4 hc3
          go_wp2_with fail
          go_roundw
          case rel => exact ⟨k + 1, M ++ Q, T ++ [z], _, _, by omega, by go_num, HZ, hide (by simp [HTl.out]), HF9⟩
          case measure => simp [intOf]; omega
        · have HF3 := hide (HF.out.below h3)
          obtain ⟨ta, tc, rfl, hTI, -⟩ := Ints.of_owns HF3.out.m.t
          obtain ⟨ma, mc, rfl, -, -⟩ := Ins.of_owns HF3.out.m.m
          obtain ⟨z, hz⟩ : ∃ z : Int, (M.length : Int) = z := ⟨_, rfl⟩
          have HZ := hide (HN.out z h1 hz)
          have HMl := hide hz
          rw [HTl.out] at hTI
          have HTn2 := HTn.out
          have HTh := hide fun (X : World) (hX : Below V3.heap.size V3 X) => gthrough_any q (hTI.later hX) HTn2
          rw [← HTl.out] at HTh
          clear h1 h3 hz hTI HY HN x0 x1 x2 x3 HF
          generalize thI q T = u at *
          go_wp2_with fail
          have HF4 := hide (HF3.out.below (below_drew V3))
          have HS1 : Hid (HasC V3.drew W.heap.size 26 (cd f d (some ⟨gl, off, none⟩) n cap (o : Int)) ∧ Below V2.heap.size V2 V3.drew ∧ V3.drew.cell? ⟨b, 6, none⟩ = some (.slice ta T.length tc)) := hide ⟨HF4.out.c, HF4.out.m.lo, HF4.out.m.w.cell 6 rfl⟩
          refine wp_region_held_drew (S := fun w => HasC w W.heap.size 26 (cd f d (some ⟨gl, off, none⟩) n cap (o : Int)) ∧ Below V2.heap.size V2 w ∧ w.cell? ⟨b, 6, none⟩ = some (.slice ta T.length tc)) (by kernel_rfl) HS1.out (fun _ => ?_)
          refine wpAnyH_take (i := 0) (v := .pointer (some ⟨b, 0, none⟩)) rfl (by kernel_rfl) (by kernel_rfl) (by kernel_rfl) (fun _ _ _ h => h) (Or.inl ⟨by rfl, fun w hS => by obtain ⟨x0, x1, x2, x3⟩ := four_of hS.1; obtain ⟨e0, e1, e2, e3, e4, e5⟩ := HQd.out w (HL2.out.later hS.2.1); have t6 := hS.2.2; go_simp⟩) HS1.out ?_
          refine wpAnyH_take (i := 1) (v := .pointer (some ⟨b, 0, none⟩)) rfl (by kernel_rfl) (by kernel_rfl) (by kernel_rfl) (fun _ _ _ h => h) (Or.inl ⟨by rfl, fun w hS => by obtain ⟨x0, x1, x2, x3⟩ := four_of hS.1; obtain ⟨e0, e1, e2, e3, e4, e5⟩ := HQd.out w (HL2.out.later hS.2.1); have t6 := hS.2.2; go_simp⟩) HS1.out ?_
          refine wpAnyH_take (i := 2) (v := .pointer (some ⟨b, 0, none⟩)) rfl (by kernel_rfl) (by kernel_rfl) (by kernel_rfl) (fun _ _ _ h => h) (Or.inl ⟨by rfl, fun w hS => by obtain ⟨x0, x1, x2, x3⟩ := four_of hS.1; obtain ⟨e0, e1, e2, e3, e4, e5⟩ := HQd.out w (HL2.out.later hS.2.1); have t6 := hS.2.2; go_simp⟩) HS1.out ?_
          refine wpAnyH_take (i := 3) (v := .pointer (some ⟨b, 5, none⟩)) rfl (by kernel_rfl) (by kernel_rfl) (by kernel_rfl) (fun _ _ _ h => h) (Or.inl ⟨by rfl, fun w hS => by obtain ⟨x0, x1, x2, x3⟩ := four_of hS.1; obtain ⟨e0, e1, e2, e3, e4, e5⟩ := HQd.out w (HL2.out.later hS.2.1); have t6 := hS.2.2; go_simp⟩) HS1.out ?_
          refine wpAnyH_take (i := 5) (v := .pointer (some ⟨W.heap.size, 2, none⟩)) rfl (by kernel_rfl) (by kernel_rfl) (by kernel_rfl) (fun _ _ _ h => h) (Or.inl ⟨by rfl, fun w hS => by obtain ⟨x0, x1, x2, x3⟩ := four_of hS.1; obtain ⟨e0, e1, e2, e3, e4, e5⟩ := HQd.out w (HL2.out.later hS.2.1); have t6 := hS.2.2; go_simp⟩) HS1.out ?_
          refine wpAnyH_take (i := 6) (v := .slice (some ⟨gl, off, none⟩) n cap) rfl (by kernel_rfl) (by kernel_rfl) (by kernel_rfl) (fun _ _ _ h => h) (Or.inl ⟨by rfl, fun w hS => by obtain ⟨x0, x1, x2, x3⟩ := four_of hS.1; obtain ⟨e0, e1, e2, e3, e4, e5⟩ := HQd.out w (HL2.out.later hS.2.1); have t6 := hS.2.2; go_simp⟩) HS1.out ?_
          refine wpAnyH_take (i := 7) (v := .int .i64 (k : Int)) rfl (by kernel_rfl) (by kernel_rfl) (by kernel_rfl) (fun _ _ _ h => h) (Or.inl ⟨by rfl, fun w hS => by obtain ⟨x0, x1, x2, x3⟩ := four_of hS.1; obtain ⟨e0, e1, e2, e3, e4, e5⟩ := HQd.out w (HL2.out.later hS.2.1); have t6 := hS.2.2; go_simp⟩) HS1.out ?_
          refine wpAnyH_take (i := 8) (v := .pointer (some ⟨gl, off + k * 6, none⟩)) rfl (by kernel_rfl) (by kernel_rfl) (by kernel_rfl) (fun _ _ _ h => h) (Or.inl ⟨by rfl, fun w hS => by obtain ⟨x0, x1, x2, x3⟩ := four_of hS.1; obtain ⟨e0, e1, e2, e3, e4, e5⟩ := HQd.out w (HL2.out.later hS.2.1); have t6 := hS.2.2; go_simp⟩) HS1.out ?_
          refine wpAnyH_take (i := 9) (v := .agg (ia q)) rfl (by kernel_rfl) (by kernel_rfl) (by kernel_rfl) (fun _ _ _ h => h) (Or.inl ⟨by rfl, fun w hS => by obtain ⟨x0, x1, x2, x3⟩ := four_of hS.1; obtain ⟨e0, e1, e2, e3, e4, e5⟩ := HQd.out w (HL2.out.later hS.2.1); have t6 := hS.2.2; go_simp⟩) HS1.out ?_
          refine wpAnyH_take (i := 10) (v := .pointer (some ⟨b, 0, none⟩)) rfl (by kernel_rfl) (by kernel_rfl) (by kernel_rfl) (fun _ _ _ h => h) (Or.inl ⟨by rfl, fun w hS => by obtain ⟨x0, x1, x2, x3⟩ := four_of hS.1; obtain ⟨e0, e1, e2, e3, e4, e5⟩ := HQd.out w (HL2.out.later hS.2.1); have t6 := hS.2.2; go_simp⟩) HS1.out ?_
          refine wpAnyH_take (i := 11) (v := .pointer (some ⟨b, 0, none⟩)) rfl (by kernel_rfl) (by kernel_rfl) (by kernel_rfl) (fun _ _ _ h => h) (Or.inl ⟨by rfl, fun w hS => by obtain ⟨x0, x1, x2, x3⟩ := four_of hS.1; obtain ⟨e0, e1, e2, e3, e4, e5⟩ := HQd.out w (HL2.out.later hS.2.1); have t6 := hS.2.2; go_simp⟩) HS1.out ?_
          refine wpAnyH_take (i := 12) (v := .pointer (some ⟨b, 6, none⟩)) rfl (by kernel_rfl) (by kernel_rfl) (by kernel_rfl) (fun _ _ _ h => h) (Or.inl ⟨by rfl, fun w hS => by obtain ⟨x0, x1, x2, x3⟩ := four_of hS.1; obtain ⟨e0, e1, e2, e3, e4, e5⟩ := HQd.out w (HL2.out.later hS.2.1); have t6 := hS.2.2; go_simp⟩) HS1.out ?_
          refine wpAnyH_take (i := 13) (v := .slice ta T.length tc) rfl (by kernel_rfl) (by kernel_rfl) (by kernel_rfl) (fun _ _ _ h => h) (Or.inl ⟨by rfl, fun w hS => by obtain ⟨x0, x1, x2, x3⟩ := four_of hS.1; obtain ⟨e0, e1, e2, e3, e4, e5⟩ := HQd.out w (HL2.out.later hS.2.1); have t6 := hS.2.2; go_simp⟩) HS1.out ?_
          refine wpAnyH_ready (rs := [4, 14]) (by kernel_rfl) (by simp) (AllReadyH.cons rfl (fun K hK => ?_) (AllReadyH.cons rfl (fun K hK => ?_) AllReadyH.nil))
          · have c5 := HF4.out.m.w.cell 5 rfl
            go_simp
            refine hK.out _ _ ⟨HF4.out.c, HF4.out.m.lo, HF4.out.m.w.cell 6 rfl⟩ (fun _ => ?_)
            clear hK K c5
            refine wpAnyH_ready (rs := [14]) (by kernel_rfl) (by simp) (AllReadyH.cons rfl (fun K hK => ?_) AllReadyH.nil)
            go_simp
            refine (HTh.out _ (below_drew V3)).mono ?_
            rintro r w2 ⟨rfl, hb⟩
            have HF5 := hide (HF4.out.below hb)
            clear hb
            refine hK.out _ _ ⟨HF5.out.c, HF5.out.m.lo, HF5.out.m.w.cell 6 rfl⟩ (fun _ => ?_)
            clear hK K
            refine wpAnyH_ready (rs := [15]) (by kernel_rfl) (by simp) (AllReadyH.cons rfl (fun K hK => ?_) AllReadyH.nil)
            go_simp
            have HF6 := hide (HF5.out.below (bel1 w2 (.cells (ia u) 39)))
            have HX6 := hide (HasC.new w2 39 (ia u))
            refine hK.out _ _ ⟨HF6.out.c, HF6.out.m.lo, HF6.out.m.w.cell 6 rfl⟩ (fun _ => ?_)
            clear hK K
            refine wpAnyH_ready (rs := [16]) (by kernel_rfl) (by simp) (AllReadyH.cons rfl (fun K hK => ?_) AllReadyH.nil)
            refine ins_step (L := M) (by rfl) _ _ (by rfl) (by rfl) HF6.out.m.m HF6.out.m.le _ u (by rfl) HX6.out (by have := HMk.out; omega) ?_
            intro g2 cap2 w3 hown hgr
            obtain ⟨hW7, hB7⟩ := HF6.out.m.growM hgr hown
            have hc7 := own_grow HF6.out.m.m hgr HF6.out.m.w (by decide)
            have hC7 := own_grow HF6.out.m.m hgr HF6.out.c (by decide)
            have hlo7 := HF6.out.m.lo.grown hgr HF6.out.m.lo.size fun kk hkk => Nat.le_trans HF6.out.m.hb (Cde.owns_block HF6.out.m.m kk hkk).1
            have HS7 := hide (show HasC w3 W.heap.size 26 (cd f d (some ⟨gl, off, none⟩) n cap (o : Int)) ∧ Below V2.heap.size V2 w3 ∧ w3.cell? ⟨b, 6, none⟩ = some (.slice ta T.length tc) from ⟨hC7, hlo7, hc7.cell 6 rfl⟩)
            have HF8 := hide (HF6.out.next hW7 hB7)
            refine hK.out _ _ HS7.out (fun _ => ?_)
            clear hK K
            refine wpAnyH_take (i := 17) (v := .pointer (some ⟨b, 0, none⟩)) rfl (by kernel_rfl) (by kernel_rfl) (by kernel_rfl) (fun _ _ _ h => h) (Or.inl ⟨by rfl, fun w hS => by obtain ⟨x0, x1, x2, x3⟩ := four_of hS.1; obtain ⟨e0, e1, e2, e3, e4, e5⟩ := HQd.out w (HL2.out.later hS.2.1); have t6 := hS.2.2; go_simp⟩) HS7.out ?_
            refine wpAnyH_take (i := 18) (v := .pointer (some ⟨b, 5, none⟩)) rfl (by kernel_rfl) (by kernel_rfl) (by kernel_rfl) (fun _ _ _ h => h) (Or.inl ⟨by rfl, fun w hS => by obtain ⟨x0, x1, x2, x3⟩ := four_of hS.1; obtain ⟨e0, e1, e2, e3, e4, e5⟩ := HQd.out w (HL2.out.later hS.2.1); have t6 := hS.2.2; go_simp⟩) HS7.out ?_
            refine wpAnyH_ready (rs := [19]) (by kernel_rfl) (by simp) (AllReadyH.cons rfl (fun K hK => ?_) AllReadyH.nil)
            have v2 := hc7.cell 5 rfl
            have yv := hc7.frozen 5
            go_simp
            refine hK.out _ _ ⟨HF8.out.c, HF8.out.m.lo, HF8.out.m.w.cell 6 rfl⟩ (fun _ => ?_)
            clear hK K
            refine wpAnyH_done (by kernel_rfl) ?_ _
            go_simp
            have c5 := HF8.out.m.w.cell 5 rfl
            obtain ⟨V8, hV8⟩ : ∃ V8, w3.setCell ⟨b, 5, none⟩ (.slice (some ⟨g2, 0, none⟩) (M.length + 1) cap2) = V8 := ⟨_, rfl⟩
            rw [hV8] at HF8 c5 ⊢
            obtain ⟨ml, hml⟩ : ∃ ml, M.length = ml := ⟨_, rfl⟩
            have hmz : (ml : Int) = z := by rw [← hml]; exact HMl.out
            have hmk := HMk.out
            rw [hml] at c5 hmk
            clear hV8 v2 yv hc7 hC7 hlo7 hown hgr hW7 hB7 HS7
            have hzw : wrap64 ((ml : Int) + 1 - 1) = z := by rw [wrap64_in _ ⟨by omega, by omega⟩]; omega
            have hzw2 : ((ml : Int) + 1 - 1) = z := by omega
            have hmzr : z = (ml : Int) := by omega
            subst hmzr
            go_upto_region 12 with fail
            have HF8b := hide (HF8.out.below (bel1 V8 (.cells #[.int .i64 (ml : Int)] 3)))
            have HN9 := hide (HasC.new V8 3 #[.int .i64 (ml : Int)])
            have tcl := HF8.out.m.w.cell 6 rfl
            have hbl := HF8.out.m.w.lt
            go_wp2_with (at_builtin; refine int_list rfl _ _ rfl rfl HF8b.out.m.t HF8b.out.m.le _ (ml : Int) rfl HN9.out (by rw [HTl.out]; omega) ?_; intro g cap' w3 hown hgr; obtain ⟨hW4, hB4⟩ := HF8b.out.m.growT hgr hown; have hc3 := own_grow HF8b.out.m.t hgr HF8b.out.m.w (by decide); have v3 := hc3.cell 6 rfl; have yv := hc3.frozen 6; have hl3 := hc3.lt)
            have HF9 := hide (HF8b.out.next hW4 hB4)
            clear hown hgr hW4 hB4 hc3
            go_wp2_with fail
            go_roundw
            case rel => exact ⟨k + 1, M ++ [u], T ++ [(ml : Int)], _, _, by omega, by go_num, HZ, hide (by simp [HTl.out]), HF9⟩
            case measure => simp [intOf]; omega
          · go_simp
            refine (HTh.out _ (below_drew V3)).mono ?_
            rintro r w2 ⟨rfl, hb⟩
            have HF5 := hide (HF4.out.below hb)
            clear hb
            refine hK.out _ _ ⟨HF5.out.c, HF5.out.m.lo, HF5.out.m.w.cell 6 rfl⟩ (fun _ => ?_)
            clear hK K
            refine wpAnyH_ready (rs := [4, 15]) (by kernel_rfl) (by simp) (AllReadyH.cons rfl (fun K hK => ?_) (AllReadyH.cons rfl (fun K hK => ?_) AllReadyH.nil))
            · have c5 := HF5.out.m.w.cell 5 rfl
              go_simp
              refine hK.out _ _ ⟨HF5.out.c, HF5.out.m.lo, HF5.out.m.w.cell 6 rfl⟩ (fun _ => ?_)
              clear hK K c5
              refine wpAnyH_ready (rs := [15]) (by kernel_rfl) (by simp) (AllReadyH.cons rfl (fun K hK => ?_) AllReadyH.nil)
              go_simp
              have HF6 := hide (HF5.out.below (bel1 w2 (.cells (ia u) 39)))
              have HX6 := hide (HasC.new w2 39 (ia u))
              refine hK.out _ _ ⟨HF6.out.c, HF6.out.m.lo, HF6.out.m.w.cell 6 rfl⟩ (fun _ => ?_)
              clear hK K
              refine wpAnyH_ready (rs := [16]) (by kernel_rfl) (by simp) (AllReadyH.cons rfl (fun K hK => ?_) AllReadyH.nil)
              refine ins_step (L := M) (by rfl) _ _ (by rfl) (by rfl) HF6.out.m.m HF6.out.m.le _ u (by rfl) HX6.out (by have := HMk.out; omega) ?_
              intro g2 cap2 w3 hown hgr
              obtain ⟨hW7, hB7⟩ := HF6.out.m.growM hgr hown
              have hc7 := own_grow HF6.out.m.m hgr HF6.out.m.w (by decide)
              have hC7 := own_grow HF6.out.m.m hgr HF6.out.c (by decide)
              have hlo7 := HF6.out.m.lo.grown hgr HF6.out.m.lo.size fun kk hkk => Nat.le_trans HF6.out.m.hb (Cde.owns_block HF6.out.m.m kk hkk).1
              have HS7 := hide (show HasC w3 W.heap.size 26 (cd f d (some ⟨gl, off, none⟩) n cap (o : Int)) ∧ Below V2.heap.size V2 w3 ∧ w3.cell? ⟨b, 6, none⟩ = some (.slice ta T.length tc) from ⟨hC7, hlo7, hc7.cell 6 rfl⟩)
              have HF8 := hide (HF6.out.next hW7 hB7)
              refine hK.out _ _ HS7.out (fun _ => ?_)
              clear hK K
              refine wpAnyH_take (i := 17) (v := .pointer (some ⟨b, 0, none⟩)) rfl (by kernel_rfl) (by kernel_rfl) (by kernel_rfl) (fun _ _ _ h => h) (Or.inl ⟨by rfl, fun w hS => by obtain ⟨x0, x1, x2, x3⟩ := four_of hS.1; obtain ⟨e0, e1, e2, e3, e4, e5⟩ := HQd.out w (HL2.out.later hS.2.1); have t6 := hS.2.2; go_simp⟩) HS7.out ?_
              refine wpAnyH_take (i := 18) (v := .pointer (some ⟨b, 5, none⟩)) rfl (by kernel_rfl) (by kernel_rfl) (by kernel_rfl) (fun _ _ _ h => h) (Or.inl ⟨by rfl, fun w hS => by obtain ⟨x0, x1, x2, x3⟩ := four_of hS.1; obtain ⟨e0, e1, e2, e3, e4, e5⟩ := HQd.out w (HL2.out.later hS.2.1); have t6 := hS.2.2; go_simp⟩) HS7.out ?_
              refine wpAnyH_ready (rs := [19]) (by kernel_rfl) (by simp) (AllReadyH.cons rfl (fun K hK => ?_) AllReadyH.nil)
              have v2 := hc7.cell 5 rfl
              have yv := hc7.frozen 5
              go_simp
              refine hK.out _ _ ⟨HF8.out.c, HF8.out.m.lo, HF8.out.m.w.cell 6 rfl⟩ (fun _ => ?_)
              clear hK K
              refine wpAnyH_done (by kernel_rfl) ?_ _
              go_simp
              have c5 := HF8.out.m.w.cell 5 rfl
              obtain ⟨V8, hV8⟩ : ∃ V8, w3.setCell ⟨b, 5, none⟩ (.slice (some ⟨g2, 0, none⟩) (M.length + 1) cap2) = V8 := ⟨_, rfl⟩
              rw [hV8] at HF8 c5 ⊢
              obtain ⟨ml, hml⟩ : ∃ ml, M.length = ml := ⟨_, rfl⟩
              have hmz : (ml : Int) = z := by rw [← hml]; exact HMl.out
              have hmk := HMk.out
              rw [hml] at c5 hmk
              clear hV8 v2 yv hc7 hC7 hlo7 hown hgr hW7 hB7 HS7
              have hzw : wrap64 ((ml : Int) + 1 - 1) = z := by rw [wrap64_in _ ⟨by omega, by omega⟩]; omega
              have hzw2 : ((ml : Int) + 1 - 1) = z := by omega
              have hmzr : z = (ml : Int) := by omega
              subst hmzr
              go_upto_region 12 with fail
              have HF8b := hide (HF8.out.below (bel1 V8 (.cells #[.int .i64 (ml : Int)] 3)))
              have HN9 := hide (HasC.new V8 3 #[.int .i64 (ml : Int)])
              have tcl := HF8.out.m.w.cell 6 rfl
              have hbl := HF8.out.m.w.lt
              go_wp2_with (at_builtin; refine int_list rfl _ _ rfl rfl HF8b.out.m.t HF8b.out.m.le _ (ml : Int) rfl HN9.out (by rw [HTl.out]; omega) ?_; intro g cap' w3 hown hgr; obtain ⟨hW4, hB4⟩ := HF8b.out.m.growT hgr hown; have hc3 := own_grow HF8b.out.m.t hgr HF8b.out.m.w (by decide); have v3 := hc3.cell 6 rfl; have yv := hc3.frozen 6; have hl3 := hc3.lt)
              have HF9 := hide (HF8b.out.next hW4 hB4)
              clear hown hgr hW4 hB4 hc3
              go_wp2_with fail
              go_roundw
              case rel => exact ⟨k + 1, M ++ [u], T ++ [(ml : Int)], _, _, by omega, by go_num, HZ, hide (by simp [HTl.out]), HF9⟩
              case measure => simp [intOf]; omega
            · go_simp
              have HF6 := hide (HF5.out.below (bel1 w2 (.cells (ia u) 39)))
              have HX6 := hide (HasC.new w2 39 (ia u))
              refine hK.out _ _ ⟨HF6.out.c, HF6.out.m.lo, HF6.out.m.w.cell 6 rfl⟩ (fun _ => ?_)
              clear hK K
              refine wpAnyH_ready (rs := [4]) (by kernel_rfl) (by simp) (AllReadyH.cons rfl (fun K hK => ?_) AllReadyH.nil)
              have c5 := HF6.out.m.w.cell 5 rfl
              go_simp
              refine hK.out _ _ ⟨HF6.out.c, HF6.out.m.lo, HF6.out.m.w.cell 6 rfl⟩ (fun _ => ?_)
              clear hK K c5
              refine wpAnyH_ready (rs := [16]) (by kernel_rfl) (by simp) (AllReadyH.cons rfl (fun K hK => ?_) AllReadyH.nil)
              refine ins_step (L := M) (by rfl) _ _ (by rfl) (by rfl) HF6.out.m.m HF6.out.m.le _ u (by rfl) HX6.out (by have := HMk.out; omega) ?_
              intro g2 cap2 w3 hown hgr
              obtain ⟨hW7, hB7⟩ := HF6.out.m.growM hgr hown
              have hc7 := own_grow HF6.out.m.m hgr HF6.out.m.w (by decide)
              have hC7 := own_grow HF6.out.m.m hgr HF6.out.c (by decide)
              have hlo7 := HF6.out.m.lo.grown hgr HF6.out.m.lo.size fun kk hkk => Nat.le_trans HF6.out.m.hb (Cde.owns_block HF6.out.m.m kk hkk).1
              have HS7 := hide (show HasC w3 W.heap.size 26 (cd f d (some ⟨gl, off, none⟩) n cap (o : Int)) ∧ Below V2.heap.size V2 w3 ∧ w3.cell? ⟨b, 6, none⟩ = some (.slice ta T.length tc) from ⟨hC7, hlo7, hc7.cell 6 rfl⟩)
              have HF8 := hide (HF6.out.next hW7 hB7)
              refine hK.out _ _ HS7.out (fun _ => ?_)
              clear hK K
              refine wpAnyH_take (i := 17) (v := .pointer (some ⟨b, 0, none⟩)) rfl (by kernel_rfl) (by kernel_rfl) (by kernel_rfl) (fun _ _ _ h => h) (Or.inl ⟨by rfl, fun w hS => by obtain ⟨x0, x1, x2, x3⟩ := four_of hS.1; obtain ⟨e0, e1, e2, e3, e4, e5⟩ := HQd.out w (HL2.out.later hS.2.1); have t6 := hS.2.2; go_simp⟩) HS7.out ?_
              refine wpAnyH_take (i := 18) (v := .pointer (some ⟨b, 5, none⟩)) rfl (by kernel_rfl) (by kernel_rfl) (by kernel_rfl) (fun _ _ _ h => h) (Or.inl ⟨by rfl, fun w hS => by obtain ⟨x0, x1, x2, x3⟩ := four_of hS.1; obtain ⟨e0, e1, e2, e3, e4, e5⟩ := HQd.out w (HL2.out.later hS.2.1); have t6 := hS.2.2; go_simp⟩) HS7.out ?_
              refine wpAnyH_ready (rs := [19]) (by kernel_rfl) (by simp) (AllReadyH.cons rfl (fun K hK => ?_) AllReadyH.nil)
              have v2 := hc7.cell 5 rfl
              have yv := hc7.frozen 5
              go_simp
              refine hK.out _ _ ⟨HF8.out.c, HF8.out.m.lo, HF8.out.m.w.cell 6 rfl⟩ (fun _ => ?_)
              clear hK K
              refine wpAnyH_done (by kernel_rfl) ?_ _
              go_simp
              have c5 := HF8.out.m.w.cell 5 rfl
              obtain ⟨V8, hV8⟩ : ∃ V8, w3.setCell ⟨b, 5, none⟩ (.slice (some ⟨g2, 0, none⟩) (M.length + 1) cap2) = V8 := ⟨_, rfl⟩
              rw [hV8] at HF8 c5 ⊢
              obtain ⟨ml, hml⟩ : ∃ ml, M.length = ml := ⟨_, rfl⟩
              have hmz : (ml : Int) = z := by rw [← hml]; exact HMl.out
              have hmk := HMk.out
              rw [hml] at c5 hmk
              clear hV8 v2 yv hc7 hC7 hlo7 hown hgr hW7 hB7 HS7
              have hzw : wrap64 ((ml : Int) + 1 - 1) = z := by rw [wrap64_in _ ⟨by omega, by omega⟩]; omega
              have hzw2 : ((ml : Int) + 1 - 1) = z := by omega
              have hmzr : z = (ml : Int) := by omega
              subst hmzr
              go_upto_region 12 with fail
              have HF8b := hide (HF8.out.below (bel1 V8 (.cells #[.int .i64 (ml : Int)] 3)))
              have HN9 := hide (HasC.new V8 3 #[.int .i64 (ml : Int)])
              have tcl := HF8.out.m.w.cell 6 rfl
              have hbl := HF8.out.m.w.lt
              go_wp2_with (at_builtin; refine int_list rfl _ _ rfl rfl HF8b.out.m.t HF8b.out.m.le _ (ml : Int) rfl HN9.out (by rw [HTl.out]; omega) ?_; intro g cap' w3 hown hgr; obtain ⟨hW4, hB4⟩ := HF8b.out.m.growT hgr hown; have hc3 := own_grow HF8b.out.m.t hgr HF8b.out.m.w (by decide); have v3 := hc3.cell 6 rfl; have yv := hc3.frozen 6; have hl3 := hc3.lt)
              have HF9 := hide (HF8b.out.next hW4 hB4)
              clear hown hgr hW4 hB4 hc3
              go_wp2_with fail
              go_roundw
              case rel => exact ⟨k + 1, M ++ [u], T ++ [(ml : Int)], _, _, by omega, by go_num, HZ, hide (by simp [HTl.out]), HF9⟩
              case measure => simp [intOf]; omega
      · obtain rfl : k = n := by omega
        have hM := HM.out
        rw [List.take_of_length_le (by rw [HLn.out]; exact Nat.le_refl _)] at hM
        obtain ⟨ma, mc, rfl, -, -⟩ := Ins.of_owns HF.out.m.m
        obtain ⟨j, gt, ct, ej, hj, htl, rfl, ct0⟩ := HF.out.m.reg (r := (o : Int)) ⟨by omega, by have := HTl.out; omega⟩
        obtain rfl : o = j := by omega
        obtain ⟨z, hz⟩ : ∃ z, gv T (o : Int) = z := ⟨_, rfl⟩
        rw [hz] at ct0
        have hN : rdN f d L (o : Int) = M := by rw [rdN, HSe.out, hM]
        have hO' : rdO f d L (o : Int) = z := by rw [rdO, HSe.out, hM]; exact hz
        obtain ⟨ml, hml⟩ : ∃ ml, M.length = ml := ⟨_, rfl⟩
        rw [hml] at HF
        obtain ⟨tl, htl'⟩ : ∃ tl, T.length = tl := ⟨_, rfl⟩
        rw [htl'] at HF hj htl
        have hmM := HF.out.m.m
        rw [hml] at hmM
        have HTk := hide fun (X : World) (hb : Below V.heap.size V X) => gtaken_at (f := f) (d := d) (out := (o : Int)) HLn.out hN hO' hml (Cde.own_mono (Cde.own_later hmM hb) (Nat.zero_le _)) ((HL2.out.later HF.out.m.lo).later hb) m1 (by omega)
        have HOm := hide (Cde.own_mono hmM (show W.heap.size ≤ b by have := HF.out.hb; omega))
        have w5 := HF.out.m.w.cell 5 rfl
        have w6 := HF.out.m.w.cell 6 rfl
        have hgt : gt < V.heap.size := World.block_lt_of_cell? V _ ct0
        have hbl := HF.out.m.w.lt
        have i0' : (0 : Int) ≤ o := by omega
        have i1' : (o : Int) < tl := by omega
        have hbw := HF.out.hb
        have HTy : Hid (gt ≠ W.heap.size + 1) := hide fun e => by
          have := own_ne HF.out.m.t HF.out.r (by decide)
          apply this
          rw [e]
          rfl
        clear hz hM HM HSu HOk ej htl' hmM hN hO' HFew HSw HLw hml
        go_upto_region 13 with fail
        go_region_held3 (fun w' => (w'.cell? ⟨W.heap.size, 0, none⟩ = some (.int .i64 f) ∧ w'.cell? ⟨W.heap.size, 1, none⟩ = some (.int .i64 d) ∧ w'.cell? ⟨W.heap.size, 2, none⟩ = some (.slice a k cap) ∧ w'.cell? ⟨W.heap.size, 3, none⟩ = some (.int .i64 (o : Int))) ∧ w'.cell? ⟨b, 5, none⟩ = some (.slice ma ml mc) ∧ w'.cell? ⟨b, 6, none⟩ = some (.slice (some ⟨gt, 0, none⟩) tl ct) ∧ w'.cell? ⟨gt, o, none⟩ = some (.int .i64 z))
          (first | exact ⟨⟨x0, x1, x2, x3⟩, w5, w6, ct0⟩ | exact ⟨⟨l0, l1, l2, l3⟩, l5, l6, l7⟩ | exact ⟨⟨u0, u1, u2, u3⟩, u5, u6, u7⟩ | go_keep)
          ((go_at_call 17; refine (HTk.out _ (below_drew _)).mono ?_; rintro e9 V4 ⟨a2', l2', c2', hl2, rfl, hO4, hb4⟩; have HF4 := hide (HF.out.below (bel (below_drew V) hb4)); obtain ⟨l0, l1, l2, l3⟩ := four_of HF4.out.c; have l5 := HF4.out.m.w.cell 5 rfl; have l6 := HF4.out.m.w.cell 6 rfl; have l7 := cell_bel (bel (below_drew V) hb4) ct0 hgt; obtain ⟨p0, p1, p2, p3⟩ := four_of HF4.out.r; obtain ⟨r0, r1, r2, r3⟩ := four_fr HF4.out.r; obtain ⟨u0, u1, u2, u3⟩ := four_of (HasC.other (HasC.other (HasC.other (HasC.other HF4.out.c (p := ⟨W.heap.size + 1, 0, none⟩) (show W.heap.size ≠ W.heap.size + 1 by omega) (.int .i64 f)) (p := ⟨W.heap.size + 1, 1, none⟩) (show W.heap.size ≠ W.heap.size + 1 by omega) (.int .i64 d)) (p := ⟨W.heap.size + 1, 2, none⟩) (show W.heap.size ≠ W.heap.size + 1 by omega) (.slice a2' l2' c2')) (p := ⟨W.heap.size + 1, 3, none⟩) (show W.heap.size ≠ W.heap.size + 1 by omega) (.int .i64 (rxO f d L (o : Int)))); have u5 := HasC.cell (HasC.other (HasC.other (HasC.other (HasC.other HF4.out.m.w (p := ⟨W.heap.size + 1, 0, none⟩) (show b ≠ W.heap.size + 1 by omega) (.int .i64 f)) (p := ⟨W.heap.size + 1, 1, none⟩) (show b ≠ W.heap.size + 1 by omega) (.int .i64 d)) (p := ⟨W.heap.size + 1, 2, none⟩) (show b ≠ W.heap.size + 1 by omega) (.slice a2' l2' c2')) (p := ⟨W.heap.size + 1, 3, none⟩) (show b ≠ W.heap.size + 1 by omega) (.int .i64 (rxO f d L (o : Int)))) 5 rfl; have u6 := HasC.cell (HasC.other (HasC.other (HasC.other (HasC.other HF4.out.m.w (p := ⟨W.heap.size + 1, 0, none⟩) (show b ≠ W.heap.size + 1 by omega) (.int .i64 f)) (p := ⟨W.heap.size + 1, 1, none⟩) (show b ≠ W.heap.size + 1 by omega) (.int .i64 d)) (p := ⟨W.heap.size + 1, 2, none⟩) (show b ≠ W.heap.size + 1 by omega) (.slice a2' l2' c2')) (p := ⟨W.heap.size + 1, 3, none⟩) (show b ≠ W.heap.size + 1 by omega) (.int .i64 (rxO f d L (o : Int)))) 6 rfl; have u7 := cell_oth4 l7 HTy.out (.int .i64 f) (.int .i64 d) (.slice a2' l2' c2') (.int .i64 (rxO f d L (o : Int)))))
        all_goals
          have HO4 := hide (hO4 W.heap.size (Cde.own_later HOm.out (below_drew V)) HF.out.lo.size)
          clear x0 x1 x2 x3 w5 w6 ct0 l0 l1 l2 l3 l5 l6 l7 u0 u1 u2 u3 u5 u6 u7 p0 p1 p2 p3 r0 r1 r2 r3 hO4 hb4 HTk
          have hq := own_ne HO4.out HF4.out.r (by decide)
          generalize hu : rxO f d L (o : Int) = u at *
          generalize hI : rxL f d L (o : Int) = I at *
          have HO5 := hide (s4_own HO4.out hq (.int .i64 f) (.int .i64 d) (.slice a2' l2' c2') (.int .i64 u))
          have HF5 := hide (put4 HF4.out.r HF4.out.lo (.int .i64 f) (.int .i64 d) (.slice a2' l2' c2') (.int .i64 u))
          obtain ⟨V5, hV5⟩ : ∃ V5, (((V4.setCell ⟨W.heap.size + 1, 0, none⟩ (.int .i64 f)).setCell ⟨W.heap.size + 1, 1, none⟩ (.int .i64 d)).setCell ⟨W.heap.size + 1, 2, none⟩ (.slice a2' l2' c2')).setCell ⟨W.heap.size + 1, 3, none⟩ (.int .i64 u) = V5 := ⟨_, rfl⟩
          unfold s4 at HO5 HF5
          rw [hV5] at HO5 HF5 ⊢
          clear hV5 hq HF4 HO4
          go_wp2_with fail
          obtain ⟨q0, q1, q2, q3⟩ := four_of HF5.out.1
          exact bodyPost_ret (v := .tuple #[.agg (cd f d a2' l2' c2' u), .int .i64 0]) (by simp [results, Tryz.results6, go_sem, q0, q1, q2, q3]) rfl (FoP.row h0' hI hu hl2 HO5.out HF5.out.2)
  · have hr : (er != 0) = true := by simpa using h0
    go_upto_region 3 with fail
    obtain ⟨V2, hV2⟩ : ∃ V2, V1.alloc (.cells #[.slice ga vm gc, .int .i64 co, .int .i64 0] 42) = V2 := ⟨_, rfl⟩
    rw [hV2] at HR1 HB1 ⊢
    clear hV2
    obtain ⟨p0, p1, p2, p3⟩ := four_of HR1.out
    obtain ⟨r0, r1, r2, r3⟩ := four_fr HR1.out
    obtain ⟨V3, hV3⟩ : ∃ V3, (((V2.setCell ⟨W.heap.size + 1, 0, none⟩ (.int .i64 0)).setCell ⟨W.heap.size + 1, 1, none⟩ (.int .i64 0)).setCell ⟨W.heap.size + 1, 2, none⟩ (.slice none 0 0)).setCell ⟨W.heap.size + 1, 3, none⟩ (.int .i64 0) = V3 := ⟨_, rfl⟩
    have HF2 := hide (put4 HR1.out HB1.out (.int .i64 0) (.int .i64 0) (.slice none 0 0) (.int .i64 0))
    unfold s4 at HF2
    rw [hV3] at HF2
    go_wp2_with fail
    obtain ⟨q0, q1, q2, q3⟩ := four_of HF2.out.1
    exact bodyPost_ret (v := .tuple #[.agg cdz, .int .i64 er]) (by simp [results, Tryz.results6, go_sem, q0, q1, q2, q3]) rfl (FoP.no HEr.out h0 HF2.out.2)

end Go.Proofs.Rdc

/-
  The document's Fold.
-/
import Derived.Test.YtjfcdfjegjplhaaGreatMHA
import Derived.Test.YtjfcdfjegjplhaaGreatMHB
import Derived.Test.YtjfcdfjegjplhaaGreatMFC
import Derived.Test.YtjfcdfjegjplhaaGreatMSqB
import Derived.Test.YtjfcdfjegjplhaaGreatMKnRef
import Derived.Test.YtjfcdfjegjplhaaGreatMCdU
import Derived.Deep.RegionHeld3
namespace Go.Proofs.Fld
open Go.RowKit Go.IntWalk YtjfcdfjegjplhaaGreat.Knd
open Cde (In i0 ia kd cd Ins at6 six_of four_of two_of has_new1 okI okT below_drew is6 i6 zA take_snoc)
open Vfy (vfE vfN vfC)
set_option linter.unusedVariables false

/-- An append of one instruction to a list of instructions. -/
theorem ins_list3 {V : World} {base : Nat} {v : Value} {L : List In} {ops : Array Oper} {rest : List Oper} {o : Oper} {a : Act} {Q : Exit → Act → World → Prop}
    (hgd : o.guard = none) (s x : Operand) (ho : o.op = .call { callee := .builtin .append, args := #[s, x], argTypes := #[24, 24] })
    (hs : a.eval s = v) (hen : V.ownsRow base 39 6 v L.length (is6 L)) (hbase : base ≤ V.heap.size) (b : Nat) (n : In) (hx : a.eval x = .slice (some ⟨b, 0, none⟩) 1 1) (hc : HasC V b 39 (ia n)) (h3 : L.length ≤ 2000000)
    (h : ∀ g cap w', w'.ownsRow base 39 6 (.slice (some ⟨g, 0, none⟩) (L.length + 1) cap) (L ++ [n]).length (is6 (L ++ [n])) → V.grownBy w' v.ownBlock → wpList Tryz.prog ops Q rest (a.put o.dst (.slice (some ⟨g, 0, none⟩) (L.length + 1) cap)) w') :
    wpList Tryz.prog ops Q (o :: rest) a V := by
  obtain ⟨i0', hi0, hz0, hz1, hz2⟩ := YtjfcdfjegjplhaaGreat.Spn.info_parts infoI
  refine wpList_append_lies V hgd s x 24 ho base 39 i0' _ 6 48 Tryz.underlying24 hi0 hz0 hz1 hz2 rfl (by omega) v L.length (is6 L) hs hen ⟨b, 0, none⟩ 1 1 (i6 n) hx rfl (news_in hc) (by simp [Value.oneCell', i6]) (by omega) (by unfold maxLen; omega) (by omega) hbase V.heap.size rfl ?_
  intro g cap w' hown hgrow hat hlt
  refine h g cap w' ?_ hgrow
  rw [Cde.is6_snoc, List.length_append]
  exact hown
/-- Where the operator has no own value, it is refused: not so in a code that is taken. -/
theorem fo_val {f d : Int} {L : List In} {out : Int} (h : vfE f d L out = 0) {k : Nat} (hk : k < L.length) {M : List In} {T : List Int} {m : In} (hF : foF f d (L.take k) = (M, T)) (hm : thI (L.getD k i0) T = m) (h1 : 0 < ar m.op) (ha : alN M m = true) :
    ∃ x, YtjfcdfjegjplhaaGreat.Spn.valZ m.op m.k m.s (kaL M m) = (x, 0) ∧ knZ f d M m = (x, true) := by
  have e := fo_known h hk
  rw [hF] at e
  dsimp only at e
  rw [hm] at e
  have e1 : ar (L.getD k i0).op = ar m.op := by rw [← hm]; rfl
  obtain ⟨x, h2, h3⟩ := e (by omega) ha
  refine ⟨x, ?_, kn_all h1 h2⟩
  have e2 : (L.getD k i0).op = m.op ∧ (L.getD k i0).k = m.k ∧ (L.getD k i0).s = m.s := by rw [← hm]; exact ⟨rfl, rfl, rfl⟩
  rw [e2.1, e2.2.1, e2.2.2] at h3
  exact h3

theorem own_cell_at {V : World} {base b2 o2 k c : Nat} {T : List Int} (h : V.ownsRow base 3 1 (.slice (some ⟨b2, o2, none⟩) k c) T.length (i64s T)) (hk : T.length = k) {o : Nat} (ho : o < k) {z : Int} (hz : T.getD o 0 = z) : V.cell? ⟨b2, o2 + o, none⟩ = some (.int .i64 z) := by
  obtain ⟨a', c', e, hi, -⟩ := Ints.of_owns h
  cases e
  rw [hk] at hi
  obtain ⟨b, off, e, -, hat⟩ := hi.at (by omega)
  cases e
  rw [← hz]
  exact hat o ho
/-- What Taken makes of it, in one form. -/
theorem gtaken_one {f d out : Int} {a1 a2 : Option Addr} {n c1 c2 : Nat} {L : List In} {W : World} (hL : L.length = n) (hO : W.ownsRow 0 39 6 (.slice a1 n c1) n (is6 (foF f d L).1)) (hI : Ins W a2 n c2 L) (hn0 : 0 < n) (hn : n ≤ 1000) :
    Calls Tryz.prog 24 #[.agg (cd f d a2 n c2 out), .agg (cd f d a1 n c1 (foO f d L out))] W fun e W' => ∃ a' c', e = .returned (.agg (cd f d a' n c' (fdO f d L out))) ∧ (∀ base, W.ownsRow base 39 6 (.slice a1 n c1) n (is6 (foF f d L).1) → base ≤ W.heap.size → W'.ownsRow base 39 6 (.slice a' n c') n (is6 (fdL f d L out))) ∧ Below W.heap.size W W' := by
  obtain ⟨a', c', e', hM, -⟩ := Ins.of_owns hO
  cases e'
  refine (gtaken_any f d (foO f d L out) out hM hI hn0 hn).mono ?_
  rintro e W' (⟨h0, rfl, hb⟩ | ⟨h0, a', c', rfl, ho, hb⟩)
  · exact ⟨_, _, by rw [fdO, if_pos h0], fun base h _ => by rw [fdL, if_pos h0]; exact Cde.own_later h hb, hb⟩
  · exact ⟨_, _, by rw [fdO, if_neg h0], fun base _ h => by rw [fdL, if_neg h0]; exact Cde.own_mono ho h, hb⟩

set_option maxRecDepth 100000 in
set_option maxHeartbeats 32000000 in
theorem gfold_any (f d out : Int) {a : Option Addr} {n cap : Nat} {L : List In} {W : World} (hL : Ins W a n cap L) :
    Calls Tryz.prog 6 #[.agg (cd f d a n cap out)] W (FoP W f d L out) := by
  have b1 := bel1 W (.cells (cd f d a n cap out) 26)
  have b2 := bel b1 (bel1 _ (.cells cdz 26))
  have HF0 : Hid (Fg W ((W.alloc (.cells (cd f d a n cap out) 26)).alloc (.cells cdz 26)) (cd f d a n cap out) cdz) :=
    hide ⟨(HasC.new W 26 (cd f d a n cap out)).alloc (.cells cdz 26), has_new1 W (.cells (cd f d a n cap out) 26) 26 cdz, b2⟩
  have HV := hide (Vfy.jverify_any f d out (hL.later b2))
  have HLI := hide hL
  have HLn := hide hL.len
  clear b1 b2 hL
  go_enter Tryz.func6, Tryz.ntmps6
  go_wp2_with fail
  refine HV.out.mono ?_
  rintro e V1 ⟨ga, gc, rfl, hS, hb, -, -⟩
  obtain ⟨vm, hm⟩ : ∃ m, vfN f d L out = m := ⟨_, rfl⟩
  obtain ⟨co, hco⟩ : ∃ co, vfC f d L out = co := ⟨_, rfl⟩
  obtain ⟨er, her⟩ : ∃ er, vfE f d L out = er := ⟨_, rfl⟩
  rw [hm, hco, her]
  have HEr := hide her
  have hb2 := bel1 V1 (.cells #[.slice ga vm gc, .int .i64 co, .int .i64 0] 42)
  have HF1 := hide ((HF0.out.below hb).below hb2)
  clear hm hco her hb hb2 hS HV
  by_cases h0 : er = 0
  · have hr : (er != 0) = false := by simpa using h0
    have h0' := HEr.out.trans h0
    obtain ⟨mc, -⟩ := Vfy.vf_parts h0'
    obtain ⟨-, m1, m2, o0, o1, -⟩ := Cde.mc_parts mc
    obtain ⟨-, -, -, -, -, hok⟩ := Cde.mc_parts mc
    rw [HLn.out] at m1 m2 o1
    have HOk0 := hide fun k (hk : k < n) => Cde.okT_at hok (show k < L.length by rw [HLn.out]; exact hk)
    have HOk := hide fun k (hk : k < n) => fo_ok h0' (k := k) (by rw [HLn.out]; exact hk)
    have HSu := hide fun k (hk : k < n) => foF_succ f d (L := L) (k := k) (by rw [HLn.out]; exact hk)
    have HRg := hide fun k (hk : k < n) => fo_reg h0' (k := k) (by rw [HLn.out]; exact hk)
    have HVl := hide fun k (hk : k < n) M T m (hF : foF f d (L.take k) = (M, T)) => fo_val h0' (k := k) (by rw [HLn.out]; exact hk) (M := M) (T := T) (m := m) hF
    clear mc hok
    go_upto_region 4 with fail
    obtain ⟨V2, hV2⟩ : ∃ V2, V1.alloc (.cells #[.slice ga vm gc, .int .i64 co, .int .i64 0] 42) = V2 := ⟨_, rfl⟩
    rw [hV2] at HF1 ⊢
    clear hV2 HF0
    have HB0 : Hid (Fb W V2 (cd f d a n cap out) (.slice none 0 0) (.slice none 0 0) [] []) := hide ⟨HF1.out.c, HF1.out.r, ⟨rfl, .inl ⟨rfl, rfl⟩⟩, ⟨rfl, .inl ⟨rfl, rfl⟩⟩, HF1.out.lo⟩
    go_wp2_with fail
    go_loopw [6, 7, 8] (fun mv tv i wr => ∃ (k : Nat) (am : Option Addr) (cm : Nat) (at' : Option Addr) (ct : Nat) (M : List In) (T : List Int), k ≤ n ∧ i = .int .i64 k ∧ mv = .slice am k cm ∧ tv = .slice at' k ct ∧ Hid (foF f d (L.take k) = (M, T)) ∧ Hid (M.length = k) ∧ Hid (T.length = k) ∧ Hid (Fb W wr (cd f d a n cap out) (.slice am k cm) (.slice at' k ct) M T)) (fun _ _ i _ => n - (intOf i).toNat)
    case atStart => exact ⟨0, _, _, _, _, [], [], Nat.zero_le _, rfl, rfl, rfl, hide rfl, hide rfl, hide rfl, HB0⟩
    case round =>
      obtain ⟨k, am, cm, at', ct, M, T, hk, rfl, rfl, rfl, HM, HMl, HTl, HF⟩ := hrel
      rename World => V
      clear HB0
      obtain ⟨x0, x1, x2, x3⟩ := four_of HF.out.c
      by_cases hlt : k < n
      · obtain ⟨b, off, rfl, -, hat⟩ := (HLI.out.later HF.out.lo).at (by omega)
        obtain ⟨e0, e1, e2, e3, e4, e5⟩ := hat k hlt
        clear hat
        have hi0 : (0 : Int) ≤ k := by omega
        have hi1 : (k : Int) < n := by omega
        have hOk := HOk.out k hlt
        have hSu := HSu.out k hlt
        have hRg := HRg.out k hlt
        have HVl2 := hide fun m => HVl.out k hlt M T m HM.out
        rw [HM.out] at hOk hSu hRg
        dsimp only at hRg hOk
        have HOk2 := hide hOk
        have HTn := hide (th_need (HOk0.out k hlt))
        generalize L.getD k i0 = q at *
        have HY := hide fun x (h : knZ f d M (thI q T) = (x, true)) => hSu.trans (foS_yes HMl.out h)
        have HNo := hide fun x (h : knZ f d M (thI q T) = (x, false)) => hSu.trans (foS_no HMl.out h)
        have HRg2 := hide hRg
        have HVl3 := hide (HVl2.out (thI q T) rfl)
        have HTh := hide (gthrough_any q (HF.out.ints HTl.out) HTn.out)
        clear hOk hSu hRg HVl2 HTn
        go_wp2_with fail
        refine HTh.out.mono ?_
        rintro e V3 ⟨rfl, hb⟩
        have HC0 := hide ((HF.out.below hb).with (thI q T))
        clear hb HTh e0 e1 e2 e3 e4 e5 x0 x1 x2 x3
        generalize thI q T = m at *
        go_upto_region 12 with fail
        obtain ⟨gb, hgb⟩ : ∃ gb, V3.heap.size = gb := ⟨_, rfl⟩
        obtain ⟨V4, hV4⟩ : ∃ V4, V3.alloc (.cells (ia m) 39) = V4 := ⟨_, rfl⟩
        rw [hgb, hV4] at HC0 ⊢
        clear hgb hV4
        obtain ⟨e0, e1, e2, e3, e4, e5⟩ := six_of HC0.out.n
        have HAr := hide fun W => YtjfcdfjegjplhaaGreat.Spn.rarity_any m.op W
        by_cases hin : m.op = 2 ∧ 3 ≤ m.k
        · have hk3 := kn_in (f := f) (d := d) (M := M) HOk2.out hin.1 hin.2
          have q1 : (m.op == 2) = true := by simpa using hin.1
          have q2 : decide (3 ≤ m.k) = true := by simpa using hin.2
          have har : YtjfcdfjegjplhaaGreat.Spn.ar m.op = 0 := by rw [hin.1]; decide
          rw [har] at HAr
          clear har
          have HLo := hide fun w => rlow_any f d w
          have HHi := hide fun w => rhigh_any f d w
          have HBo := hide fun w => rborder_any f d w
          obtain ⟨x, hx⟩ : ∃ x, (knZ f d M m).1 = x := ⟨_, rfl⟩
          have HZ : Hid (foF f d (L.take (k + 1)) = (M ++ [nuI x], T ++ [(k : Int)])) := hide (HY.out x (by rcases hk3 with ⟨-, e⟩ | ⟨-, e⟩ | ⟨-, e⟩ <;> rw [e] at hx ⊢ <;> rw [← hx]))
          have hk4 : (m.k = 3 ∧ x = lowZ f d) ∨ (m.k = 4 ∧ x = highZ f d) ∨ (m.k = 5 ∧ x = borderZ f d) := by
            rcases hk3 with ⟨h, e⟩ | ⟨h, e⟩ | ⟨h, e⟩ <;> rw [e] at hx
            · exact .inl ⟨h, hx.symm⟩
            · exact .inr (.inl ⟨h, hx.symm⟩)
            · exact .inr (.inr ⟨h, hx.symm⟩)
          clear hk3 hx HY HNo HRg2 HVl3
          generalize lowZ f d = lo at *
          generalize highZ f d = hi at *
          generalize borderZ f d = bo at *
          obtain ⟨mop, ma, mb, mc', mk, ms⟩ := m
          dsimp only at hin q1 q2 hk4 e0 e1 e2 e3 e4 e5
          rcases hk4 with ⟨hmk, rfl⟩ | ⟨hmk, rfl⟩ | ⟨hmk, rfl⟩
          · subst hmk
            clear hin q2
            go_upto_region 13 with fail
            have HS1 := hide (HC0.out.below (below_drew V4))
            refine wp_region_held_drew (S := fun w => Fc W w (cd f d (some ⟨b, off, none⟩) n cap out) (.slice am k cm) (.slice at' k ct) M T gb ⟨mop, ma, mb, mc', 3, ms⟩) (by kernel_rfl) HS1.out (fun _ => ?_)
            refine wpAnyH_take (i := 0) (v := .pointer (some ⟨W.heap.size, 0, none⟩)) rfl (by kernel_rfl) (by kernel_rfl) (by kernel_rfl) (fun _ _ _ h => h) (Or.inl ⟨by rfl, fun w hS => by obtain ⟨x0, x1, x2, x3⟩ := four_of hS.f.c; obtain ⟨-, -, -, -, e4, -⟩ := six_of hS.n; dsimp only at e4; go_simp⟩) HS1.out ?_
            refine wpAnyH_take (i := 1) (v := .agg #[.int .i64 f, .int .i64 d]) rfl (by kernel_rfl) (by kernel_rfl) (by kernel_rfl) (fun _ _ _ h => h) (Or.inl ⟨by rfl, fun w hS => by obtain ⟨x0, x1, x2, x3⟩ := four_of hS.f.c; obtain ⟨-, -, -, -, e4, -⟩ := six_of hS.n; dsimp only at e4; go_simp⟩) HS1.out ?_
            refine wpAnyH_take (i := 3) (v := .pointer (some ⟨W.heap.size, 0, none⟩)) rfl (by kernel_rfl) (by kernel_rfl) (by kernel_rfl) (fun _ _ _ h => h) (Or.inl ⟨by rfl, fun w hS => by obtain ⟨x0, x1, x2, x3⟩ := four_of hS.f.c; obtain ⟨-, -, -, -, e4, -⟩ := six_of hS.n; dsimp only at e4; go_simp⟩) HS1.out ?_
            refine wpAnyH_take (i := 4) (v := .agg #[.int .i64 f, .int .i64 d]) rfl (by kernel_rfl) (by kernel_rfl) (by kernel_rfl) (fun _ _ _ h => h) (Or.inl ⟨by rfl, fun w hS => by obtain ⟨x0, x1, x2, x3⟩ := four_of hS.f.c; obtain ⟨-, -, -, -, e4, -⟩ := six_of hS.n; dsimp only at e4; go_simp⟩) HS1.out ?_
            refine wpAnyH_take (i := 6) (v := .pointer (some ⟨W.heap.size, 0, none⟩)) rfl (by kernel_rfl) (by kernel_rfl) (by kernel_rfl) (fun _ _ _ h => h) (Or.inl ⟨by rfl, fun w hS => by obtain ⟨x0, x1, x2, x3⟩ := four_of hS.f.c; obtain ⟨-, -, -, -, e4, -⟩ := six_of hS.n; dsimp only at e4; go_simp⟩) HS1.out ?_
            refine wpAnyH_take (i := 7) (v := .agg #[.int .i64 f, .int .i64 d]) rfl (by kernel_rfl) (by kernel_rfl) (by kernel_rfl) (fun _ _ _ h => h) (Or.inl ⟨by rfl, fun w hS => by obtain ⟨x0, x1, x2, x3⟩ := four_of hS.f.c; obtain ⟨-, -, -, -, e4, -⟩ := six_of hS.n; dsimp only at e4; go_simp⟩) HS1.out ?_
            refine wpAnyH_take (i := 10) (v := .pointer (some ⟨gb, 4, none⟩)) rfl (by kernel_rfl) (by kernel_rfl) (by kernel_rfl) (fun _ _ _ h => h) (Or.inl ⟨by rfl, fun w hS => by obtain ⟨x0, x1, x2, x3⟩ := four_of hS.f.c; obtain ⟨-, -, -, -, e4, -⟩ := six_of hS.n; dsimp only at e4; go_simp⟩) HS1.out ?_
            refine wpAnyH_take (i := 11) (v := .int .i64 3) rfl (by kernel_rfl) (by kernel_rfl) (by kernel_rfl) (fun _ _ _ h => h) (Or.inl ⟨by rfl, fun w hS => by obtain ⟨x0, x1, x2, x3⟩ := four_of hS.f.c; obtain ⟨-, -, -, -, e4, -⟩ := six_of hS.n; dsimp only at e4; go_simp⟩) HS1.out ?_
            refine wpAnyH_take (i := 12) (v := .int .i64 0) rfl (by kernel_rfl) (by kernel_rfl) (by kernel_rfl) (fun _ _ _ h => h) (Or.inl ⟨by rfl, fun w hS => by obtain ⟨x0, x1, x2, x3⟩ := four_of hS.f.c; obtain ⟨-, -, -, -, e4, -⟩ := six_of hS.n; dsimp only at e4; go_simp; rfl⟩) HS1.out ?_
            refine wpAnyH_ready (rs := [2]) (by kernel_rfl) (by simp) (AllReadyH.cons rfl (fun K hK => ?_) AllReadyH.nil)
            go_simp
            refine (HLo.out _).mono ?_
            rintro r9 U1 ⟨rfl, hb⟩
            have HS2 := hide (HS1.out.below hb)
            clear hb HS1 HLo
            refine hK.out _ _ HS2.out (fun _ => ?_)
            clear hK K
            refine wpAnyH_ready (rs := [5]) (by kernel_rfl) (by simp) (AllReadyH.cons rfl (fun K hK => ?_) AllReadyH.nil)
            go_simp
            refine (HHi.out _).mono ?_
            rintro r9 U2 ⟨rfl, hb⟩
            have HS3 := hide (HS2.out.below hb)
            clear hb HS2 HHi
            refine hK.out _ _ HS3.out (fun _ => ?_)
            clear hK K
            refine wpAnyH_ready (rs := [8]) (by kernel_rfl) (by simp) (AllReadyH.cons rfl (fun K hK => ?_) AllReadyH.nil)
            go_simp
            refine (HBo.out _).mono ?_
            rintro r9 U3 ⟨rfl, hb⟩
            have HS4 := hide (HS3.out.below hb)
            clear hb HS3 HBo
            refine hK.out _ _ HS4.out (fun _ => ?_)
            clear hK K
            refine wpAnyH_ready (rs := [9]) (by kernel_rfl) (by simp) (AllReadyH.cons rfl (fun K hK => ?_) AllReadyH.nil)
            go_simp
            have HS5 := hide (And.intro (HS4.out.below (bel1 U3 (.cells #[.int .i64 x, .int .i64 hi, .int .i64 bo] 3))) ((HasC.new U3 3 #[.int .i64 x, .int .i64 hi, .int .i64 bo]).cell 0 rfl))
            clear HS4
            refine hK.out _ _ HS5.out.1 (fun _ => ?_)
            clear hK K
            refine Cde.wpAnyH_less (S' := fun w => Fc W w (cd f d (some ⟨b, off, none⟩) n cap out) (.slice am k cm) (.slice at' k ct) M T gb ⟨mop, ma, mb, mc', 3, ms⟩ ∧ w.cell? ⟨U3.heap.size, 0, none⟩ = some (.int .i64 x)) (fun _ h => h.1) ?_
            refine wpAnyH_take (i := 13) (v := .pointer (some ⟨U3.heap.size, 0, none⟩)) rfl (by kernel_rfl) (by kernel_rfl) (by kernel_rfl) (fun _ _ _ h => h) (Or.inl ⟨by rfl, fun w hS => by have hm := hS.2; go_simp⟩) HS5.out ?_
            refine wpAnyH_take (i := 14) (v := .int .i64 x) rfl (by kernel_rfl) (by kernel_rfl) (by kernel_rfl) (fun _ _ _ h => h) (Or.inl ⟨by rfl, fun w hS => by have hm := hS.2; go_simp⟩) HS5.out ?_
            refine wpAnyH_take (i := 15) (v := .int .i64 x) rfl (by kernel_rfl) (by kernel_rfl) (by kernel_rfl) (fun _ _ _ h => h) (Or.inl ⟨by rfl, fun w hS => by have hm := hS.2; go_simp⟩) HS5.out ?_
            refine wpAnyH_take (i := 16) (v := .bool true) rfl (by kernel_rfl) (by kernel_rfl) (by kernel_rfl) (fun _ _ _ h => h) (Or.inl ⟨by rfl, fun w hS => by have hm := hS.2; go_simp⟩) HS5.out ?_
            refine wpAnyH_done (by kernel_rfl) ?_ _
            go_simp
            obtain ⟨V5, hV5⟩ : ∃ V5, U3.alloc (.cells #[.int .i64 x, .int .i64 hi, .int .i64 bo] 3) = V5 := ⟨_, rfl⟩
            have HC5 := hide HS5.out.1
            rw [hV5] at HC5 ⊢
            clear hV5 HS5 HC0 e0 e1 e2 e3 e4 e5
            obtain ⟨e0, e1, e2, e3, e4, e5⟩ := six_of HC5.out.n
            dsimp only at e0 e1 e2 e3 e4 e5
            go_wp2_with fail
            refine (HAr.out _).mono ?_
            rintro e9 w9 ⟨rfl, rfl⟩
            obtain ⟨V9, hV9⟩ : ∃ V9, (((((w9.setCell ⟨gb, 0, none⟩ (.int .i64 1)).setCell ⟨gb, 1, none⟩ (.int .i64 0)).setCell ⟨gb, 2, none⟩ (.int .i64 0)).setCell ⟨gb, 3, none⟩ (.int .i64 0)).setCell ⟨gb, 4, none⟩ (.int .i64 x)).setCell ⟨gb, 5, none⟩ (.int .i64 0) = V9 := ⟨_, rfl⟩
            have HC9 : Hid (Fc W V9 (cd f d (some ⟨b, off, none⟩) n cap out) (.slice am k cm) (.slice at' k ct) M T gb (nuI x)) := hide (by rw [← hV9]; exact HC5.out.put (nuI x))
            have HN5 : Hid (HasC (V9.alloc (.cells #[.int .i64 1, .int .i64 0, .int .i64 0, .int .i64 0, .int .i64 x, .int .i64 0] 39)) V9.heap.size 39 (ia (nuI x))) := hide (HasC.new V9 39 (ia (nuI x)))
            have HF5 : Hid (Fb W (V9.alloc (.cells #[.int .i64 1, .int .i64 0, .int .i64 0, .int .i64 0, .int .i64 x, .int .i64 0] 39)) (cd f d (some ⟨b, off, none⟩) n cap out) (.slice am k cm) (.slice at' k ct) M T) := hide (HC9.out.f.below (bel1 V9 (.cells (ia (nuI x)) 39)))
            obtain ⟨r0, r1, r2, r3, r4, r5⟩ := six_fr HC5.out.n
            go_upto_region 24 with fail
            clear hV9 HC5 e0 e1 e2 e3 e4 e5 r0 r1 r2 r3 r4 r5
            obtain ⟨e0, e1, e2, e3, e4, e5⟩ := six_of HC9.out.n
            dsimp only [nuI] at e0 e1 e2 e3 e4 e5
            go_wp2_with (first
              | (at_builtin; refine ins_list3 rfl _ _ rfl rfl HF5.out.m HF5.out.lo.size _ (nuI x) rfl HN5.out (by rw [HMl.out]; omega) ?_; intro g cap' w2 hown hgr; have HF6 := hide (HF5.out.growM hgr hown); have HF7 := hide (HF6.out.below (bel1 w2 (.cells #[.int .i64 (k : Int)] 3))); have HN7 := hide (HasC.new w2 3 #[.int .i64 (k : Int)]); clear hown hgr e0 e1 e2 e3 e4 e5)
              | (at_builtin; refine int_list rfl _ _ rfl rfl HF7.out.t HF7.out.lo.size _ (k : Int) rfl HN7.out (by rw [HTl.out]; omega) ?_; intro g2 cap2 w3 hown2 hgr2))
            have HF8 := hide (HF7.out.growT hgr2 hown2)
            clear hown2 hgr2
            rw [HMl.out, HTl.out] at HF8 ⊢
            go_wp2_with fail
            go_roundw
            case rel => exact ⟨k + 1, _, _, _, _, M ++ [(nuI x)], T ++ [(k : Int)], by omega, by go_num, rfl, rfl, HZ, hide (by simp [HMl.out]), hide (by simp [HTl.out]), HF8⟩
            case measure => simp [intOf]; omega
          · subst hmk
            clear hin q2
            go_upto_region 13 with fail
            have HS1 := hide (HC0.out.below (below_drew V4))
            refine wp_region_held_drew (S := fun w => Fc W w (cd f d (some ⟨b, off, none⟩) n cap out) (.slice am k cm) (.slice at' k ct) M T gb ⟨mop, ma, mb, mc', 4, ms⟩) (by kernel_rfl) HS1.out (fun _ => ?_)
            refine wpAnyH_take (i := 0) (v := .pointer (some ⟨W.heap.size, 0, none⟩)) rfl (by kernel_rfl) (by kernel_rfl) (by kernel_rfl) (fun _ _ _ h => h) (Or.inl ⟨by rfl, fun w hS => by obtain ⟨x0, x1, x2, x3⟩ := four_of hS.f.c; obtain ⟨-, -, -, -, e4, -⟩ := six_of hS.n; dsimp only at e4; go_simp⟩) HS1.out ?_
            refine wpAnyH_take (i := 1) (v := .agg #[.int .i64 f, .int .i64 d]) rfl (by kernel_rfl) (by kernel_rfl) (by kernel_rfl) (fun _ _ _ h => h) (Or.inl ⟨by rfl, fun w hS => by obtain ⟨x0, x1, x2, x3⟩ := four_of hS.f.c; obtain ⟨-, -, -, -, e4, -⟩ := six_of hS.n; dsimp only at e4; go_simp⟩) HS1.out ?_
            refine wpAnyH_take (i := 3) (v := .pointer (some ⟨W.heap.size, 0, none⟩)) rfl (by kernel_rfl) (by kernel_rfl) (by kernel_rfl) (fun _ _ _ h => h) (Or.inl ⟨by rfl, fun w hS => by obtain ⟨x0, x1, x2, x3⟩ := four_of hS.f.c; obtain ⟨-, -, -, -, e4, -⟩ := six_of hS.n; dsimp only at e4; go_simp⟩) HS1.out ?_
            refine wpAnyH_take (i := 4) (v := .agg #[.int .i64 f, .int .i64 d]) rfl (by kernel_rfl) (by kernel_rfl) (by kernel_rfl) (fun _ _ _ h => h) (Or.inl ⟨by rfl, fun w hS => by obtain ⟨x0, x1, x2, x3⟩ := four_of hS.f.c; obtain ⟨-, -, -, -, e4, -⟩ := six_of hS.n; dsimp only at e4; go_simp⟩) HS1.out ?_
            refine wpAnyH_take (i := 6) (v := .pointer (some ⟨W.heap.size, 0, none⟩)) rfl (by kernel_rfl) (by kernel_rfl) (by kernel_rfl) (fun _ _ _ h => h) (Or.inl ⟨by rfl, fun w hS => by obtain ⟨x0, x1, x2, x3⟩ := four_of hS.f.c; obtain ⟨-, -, -, -, e4, -⟩ := six_of hS.n; dsimp only at e4; go_simp⟩) HS1.out ?_
            refine wpAnyH_take (i := 7) (v := .agg #[.int .i64 f, .int .i64 d]) rfl (by kernel_rfl) (by kernel_rfl) (by kernel_rfl) (fun _ _ _ h => h) (Or.inl ⟨by rfl, fun w hS => by obtain ⟨x0, x1, x2, x3⟩ := four_of hS.f.c; obtain ⟨-, -, -, -, e4, -⟩ := six_of hS.n; dsimp only at e4; go_simp⟩) HS1.out ?_
            refine wpAnyH_take (i := 10) (v := .pointer (some ⟨gb, 4, none⟩)) rfl (by kernel_rfl) (by kernel_rfl) (by kernel_rfl) (fun _ _ _ h => h) (Or.inl ⟨by rfl, fun w hS => by obtain ⟨x0, x1, x2, x3⟩ := four_of hS.f.c; obtain ⟨-, -, -, -, e4, -⟩ := six_of hS.n; dsimp only at e4; go_simp⟩) HS1.out ?_
            refine wpAnyH_take (i := 11) (v := .int .i64 4) rfl (by kernel_rfl) (by kernel_rfl) (by kernel_rfl) (fun _ _ _ h => h) (Or.inl ⟨by rfl, fun w hS => by obtain ⟨x0, x1, x2, x3⟩ := four_of hS.f.c; obtain ⟨-, -, -, -, e4, -⟩ := six_of hS.n; dsimp only at e4; go_simp⟩) HS1.out ?_
            refine wpAnyH_take (i := 12) (v := .int .i64 1) rfl (by kernel_rfl) (by kernel_rfl) (by kernel_rfl) (fun _ _ _ h => h) (Or.inl ⟨by rfl, fun w hS => by obtain ⟨x0, x1, x2, x3⟩ := four_of hS.f.c; obtain ⟨-, -, -, -, e4, -⟩ := six_of hS.n; dsimp only at e4; go_simp; rfl⟩) HS1.out ?_
            refine wpAnyH_ready (rs := [2]) (by kernel_rfl) (by simp) (AllReadyH.cons rfl (fun K hK => ?_) AllReadyH.nil)
            go_simp
            refine (HLo.out _).mono ?_
            rintro r9 U1 ⟨rfl, hb⟩
            have HS2 := hide (HS1.out.below hb)
            clear hb HS1 HLo
            refine hK.out _ _ HS2.out (fun _ => ?_)
            clear hK K
            refine wpAnyH_ready (rs := [5]) (by kernel_rfl) (by simp) (AllReadyH.cons rfl (fun K hK => ?_) AllReadyH.nil)
            go_simp
            refine (HHi.out _).mono ?_
            rintro r9 U2 ⟨rfl, hb⟩
            have HS3 := hide (HS2.out.below hb)
            clear hb HS2 HHi
            refine hK.out _ _ HS3.out (fun _ => ?_)
            clear hK K
            refine wpAnyH_ready (rs := [8]) (by kernel_rfl) (by simp) (AllReadyH.cons rfl (fun K hK => ?_) AllReadyH.nil)
            go_simp
            refine (HBo.out _).mono ?_
            rintro r9 U3 ⟨rfl, hb⟩
            have HS4 := hide (HS3.out.below hb)
            clear hb HS3 HBo
            refine hK.out _ _ HS4.out (fun _ => ?_)
            clear hK K
            refine wpAnyH_ready (rs := [9]) (by kernel_rfl) (by simp) (AllReadyH.cons rfl (fun K hK => ?_) AllReadyH.nil)
            go_simp
            have HS5 := hide (And.intro (HS4.out.below (bel1 U3 (.cells #[.int .i64 lo, .int .i64 x, .int .i64 bo] 3))) ((HasC.new U3 3 #[.int .i64 lo, .int .i64 x, .int .i64 bo]).cell 1 rfl))
            clear HS4
            refine hK.out _ _ HS5.out.1 (fun _ => ?_)
            clear hK K
            refine Cde.wpAnyH_less (S' := fun w => Fc W w (cd f d (some ⟨b, off, none⟩) n cap out) (.slice am k cm) (.slice at' k ct) M T gb ⟨mop, ma, mb, mc', 4, ms⟩ ∧ w.cell? ⟨U3.heap.size, 1, none⟩ = some (.int .i64 x)) (fun _ h => h.1) ?_
            refine wpAnyH_take (i := 13) (v := .pointer (some ⟨U3.heap.size, 1, none⟩)) rfl (by kernel_rfl) (by kernel_rfl) (by kernel_rfl) (fun _ _ _ h => h) (Or.inl ⟨by rfl, fun w hS => by have hm := hS.2; go_simp⟩) HS5.out ?_
            refine wpAnyH_take (i := 14) (v := .int .i64 x) rfl (by kernel_rfl) (by kernel_rfl) (by kernel_rfl) (fun _ _ _ h => h) (Or.inl ⟨by rfl, fun w hS => by have hm := hS.2; go_simp⟩) HS5.out ?_
            refine wpAnyH_take (i := 15) (v := .int .i64 x) rfl (by kernel_rfl) (by kernel_rfl) (by kernel_rfl) (fun _ _ _ h => h) (Or.inl ⟨by rfl, fun w hS => by have hm := hS.2; go_simp⟩) HS5.out ?_
            refine wpAnyH_take (i := 16) (v := .bool true) rfl (by kernel_rfl) (by kernel_rfl) (by kernel_rfl) (fun _ _ _ h => h) (Or.inl ⟨by rfl, fun w hS => by have hm := hS.2; go_simp⟩) HS5.out ?_
            refine wpAnyH_done (by kernel_rfl) ?_ _
            go_simp
            obtain ⟨V5, hV5⟩ : ∃ V5, U3.alloc (.cells #[.int .i64 lo, .int .i64 x, .int .i64 bo] 3) = V5 := ⟨_, rfl⟩
            have HC5 := hide HS5.out.1
            rw [hV5] at HC5 ⊢
            clear hV5 HS5 HC0 e0 e1 e2 e3 e4 e5
            obtain ⟨e0, e1, e2, e3, e4, e5⟩ := six_of HC5.out.n
            dsimp only at e0 e1 e2 e3 e4 e5
            go_wp2_with fail
            refine (HAr.out _).mono ?_
            rintro e9 w9 ⟨rfl, rfl⟩
            obtain ⟨V9, hV9⟩ : ∃ V9, (((((w9.setCell ⟨gb, 0, none⟩ (.int .i64 1)).setCell ⟨gb, 1, none⟩ (.int .i64 0)).setCell ⟨gb, 2, none⟩ (.int .i64 0)).setCell ⟨gb, 3, none⟩ (.int .i64 0)).setCell ⟨gb, 4, none⟩ (.int .i64 x)).setCell ⟨gb, 5, none⟩ (.int .i64 0) = V9 := ⟨_, rfl⟩
            have HC9 : Hid (Fc W V9 (cd f d (some ⟨b, off, none⟩) n cap out) (.slice am k cm) (.slice at' k ct) M T gb (nuI x)) := hide (by rw [← hV9]; exact HC5.out.put (nuI x))
            have HN5 : Hid (HasC (V9.alloc (.cells #[.int .i64 1, .int .i64 0, .int .i64 0, .int .i64 0, .int .i64 x, .int .i64 0] 39)) V9.heap.size 39 (ia (nuI x))) := hide (HasC.new V9 39 (ia (nuI x)))
            have HF5 : Hid (Fb W (V9.alloc (.cells #[.int .i64 1, .int .i64 0, .int .i64 0, .int .i64 0, .int .i64 x, .int .i64 0] 39)) (cd f d (some ⟨b, off, none⟩) n cap out) (.slice am k cm) (.slice at' k ct) M T) := hide (HC9.out.f.below (bel1 V9 (.cells (ia (nuI x)) 39)))
            obtain ⟨r0, r1, r2, r3, r4, r5⟩ := six_fr HC5.out.n
            go_upto_region 24 with fail
            clear hV9 HC5 e0 e1 e2 e3 e4 e5 r0 r1 r2 r3 r4 r5
            obtain ⟨e0, e1, e2, e3, e4, e5⟩ := six_of HC9.out.n
            dsimp only [nuI] at e0 e1 e2 e3 e4 e5
            go_wp2_with (first
              | (at_builtin; refine ins_list3 rfl _ _ rfl rfl HF5.out.m HF5.out.lo.size _ (nuI x) rfl HN5.out (by rw [HMl.out]; omega) ?_; intro g cap' w2 hown hgr; have HF6 := hide (HF5.out.growM hgr hown); have HF7 := hide (HF6.out.below (bel1 w2 (.cells #[.int .i64 (k : Int)] 3))); have HN7 := hide (HasC.new w2 3 #[.int .i64 (k : Int)]); clear hown hgr e0 e1 e2 e3 e4 e5)
              | (at_builtin; refine int_list rfl _ _ rfl rfl HF7.out.t HF7.out.lo.size _ (k : Int) rfl HN7.out (by rw [HTl.out]; omega) ?_; intro g2 cap2 w3 hown2 hgr2))
            have HF8 := hide (HF7.out.growT hgr2 hown2)
            clear hown2 hgr2
            rw [HMl.out, HTl.out] at HF8 ⊢
            go_wp2_with fail
            go_roundw
            case rel => exact ⟨k + 1, _, _, _, _, M ++ [(nuI x)], T ++ [(k : Int)], by omega, by go_num, rfl, rfl, HZ, hide (by simp [HMl.out]), hide (by simp [HTl.out]), HF8⟩
            case measure => simp [intOf]; omega
          · subst hmk
            clear hin q2
            go_upto_region 13 with fail
            have HS1 := hide (HC0.out.below (below_drew V4))
            refine wp_region_held_drew (S := fun w => Fc W w (cd f d (some ⟨b, off, none⟩) n cap out) (.slice am k cm) (.slice at' k ct) M T gb ⟨mop, ma, mb, mc', 5, ms⟩) (by kernel_rfl) HS1.out (fun _ => ?_)
            refine wpAnyH_take (i := 0) (v := .pointer (some ⟨W.heap.size, 0, none⟩)) rfl (by kernel_rfl) (by kernel_rfl) (by kernel_rfl) (fun _ _ _ h => h) (Or.inl ⟨by rfl, fun w hS => by obtain ⟨x0, x1, x2, x3⟩ := four_of hS.f.c; obtain ⟨-, -, -, -, e4, -⟩ := six_of hS.n; dsimp only at e4; go_simp⟩) HS1.out ?_
            refine wpAnyH_take (i := 1) (v := .agg #[.int .i64 f, .int .i64 d]) rfl (by kernel_rfl) (by kernel_rfl) (by kernel_rfl) (fun _ _ _ h => h) (Or.inl ⟨by rfl, fun w hS => by obtain ⟨x0, x1, x2, x3⟩ := four_of hS.f.c; obtain ⟨-, -, -, -, e4, -⟩ := six_of hS.n; dsimp only at e4; go_simp⟩) HS1.out ?_
            refine wpAnyH_take (i := 3) (v := .pointer (some ⟨W.heap.size, 0, none⟩)) rfl (by kernel_rfl) (by kernel_rfl) (by kernel_rfl) (fun _ _ _ h => h) (Or.inl ⟨by rfl, fun w hS => by obtain ⟨x0, x1, x2, x3⟩ := four_of hS.f.c; obtain ⟨-, -, -, -, e4, -⟩ := six_of hS.n; dsimp only at e4; go_simp⟩) HS1.out ?_
            refine wpAnyH_take (i := 4) (v := .agg #[.int .i64 f, .int .i64 d]) rfl (by kernel_rfl) (by kernel_rfl) (by kernel_rfl) (fun _ _ _ h => h) (Or.inl ⟨by rfl, fun w hS => by obtain ⟨x0, x1, x2, x3⟩ := four_of hS.f.c; obtain ⟨-, -, -, -, e4, -⟩ := six_of hS.n; dsimp only at e4; go_simp⟩) HS1.out ?_
            refine wpAnyH_take (i := 6) (v := .pointer (some ⟨W.heap.size, 0, none⟩)) rfl (by kernel_rfl) (by kernel_rfl) (by kernel_rfl) (fun _ _ _ h => h) (Or.inl ⟨by rfl, fun w hS => by obtain ⟨x0, x1, x2, x3⟩ := four_of hS.f.c; obtain ⟨-, -, -, -, e4, -⟩ := six_of hS.n; dsimp only at e4; go_simp⟩) HS1.out ?_
            refine wpAnyH_take (i := 7) (v := .agg #[.int .i64 f, .int .i64 d]) rfl (by kernel_rfl) (by kernel_rfl) (by kernel_rfl) (fun _ _ _ h => h) (Or.inl ⟨by rfl, fun w hS => by obtain ⟨x0, x1, x2, x3⟩ := four_of hS.f.c; obtain ⟨-, -, -, -, e4, -⟩ := six_of hS.n; dsimp only at e4; go_simp⟩) HS1.out ?_
            refine wpAnyH_take (i := 10) (v := .pointer (some ⟨gb, 4, none⟩)) rfl (by kernel_rfl) (by kernel_rfl) (by kernel_rfl) (fun _ _ _ h => h) (Or.inl ⟨by rfl, fun w hS => by obtain ⟨x0, x1, x2, x3⟩ := four_of hS.f.c; obtain ⟨-, -, -, -, e4, -⟩ := six_of hS.n; dsimp only at e4; go_simp⟩) HS1.out ?_
            refine wpAnyH_take (i := 11) (v := .int .i64 5) rfl (by kernel_rfl) (by kernel_rfl) (by kernel_rfl) (fun _ _ _ h => h) (Or.inl ⟨by rfl, fun w hS => by obtain ⟨x0, x1, x2, x3⟩ := four_of hS.f.c; obtain ⟨-, -, -, -, e4, -⟩ := six_of hS.n; dsimp only at e4; go_simp⟩) HS1.out ?_
            refine wpAnyH_take (i := 12) (v := .int .i64 2) rfl (by kernel_rfl) (by kernel_rfl) (by kernel_rfl) (fun _ _ _ h => h) (Or.inl ⟨by rfl, fun w hS => by obtain ⟨x0, x1, x2, x3⟩ := four_of hS.f.c; obtain ⟨-, -, -, -, e4, -⟩ := six_of hS.n; dsimp only at e4; go_simp; rfl⟩) HS1.out ?_
            refine wpAnyH_ready (rs := [2]) (by kernel_rfl) (by simp) (AllReadyH.cons rfl (fun K hK => ?_) AllReadyH.nil)
            go_simp
            refine (HLo.out _).mono ?_
            rintro r9 U1 ⟨rfl, hb⟩
            have HS2 := hide (HS1.out.below hb)
            clear hb HS1 HLo
            refine hK.out _ _ HS2.out (fun _ => ?_)
            clear hK K
            refine wpAnyH_ready (rs := [5]) (by kernel_rfl) (by simp) (AllReadyH.cons rfl (fun K hK => ?_) AllReadyH.nil)
            go_simp
            refine (HHi.out _).mono ?_
            rintro r9 U2 ⟨rfl, hb⟩
            have HS3 := hide (HS2.out.below hb)
            clear hb HS2 HHi
            refine hK.out _ _ HS3.out (fun _ => ?_)
            clear hK K
            refine wpAnyH_ready (rs := [8]) (by kernel_rfl) (by simp) (AllReadyH.cons rfl (fun K hK => ?_) AllReadyH.nil)
            go_simp
            refine (HBo.out _).mono ?_
            rintro r9 U3 ⟨rfl, hb⟩
            have HS4 := hide (HS3.out.below hb)
            clear hb HS3 HBo
            refine hK.out _ _ HS4.out (fun _ => ?_)
            clear hK K
            refine wpAnyH_ready (rs := [9]) (by kernel_rfl) (by simp) (AllReadyH.cons rfl (fun K hK => ?_) AllReadyH.nil)
            go_simp
            have HS5 := hide (And.intro (HS4.out.below (bel1 U3 (.cells #[.int .i64 lo, .int .i64 hi, .int .i64 x] 3))) ((HasC.new U3 3 #[.int .i64 lo, .int .i64 hi, .int .i64 x]).cell 2 rfl))
            clear HS4
            refine hK.out _ _ HS5.out.1 (fun _ => ?_)
            clear hK K
            refine Cde.wpAnyH_less (S' := fun w => Fc W w (cd f d (some ⟨b, off, none⟩) n cap out) (.slice am k cm) (.slice at' k ct) M T gb ⟨mop, ma, mb, mc', 5, ms⟩ ∧ w.cell? ⟨U3.heap.size, 2, none⟩ = some (.int .i64 x)) (fun _ h => h.1) ?_
            refine wpAnyH_take (i := 13) (v := .pointer (some ⟨U3.heap.size, 2, none⟩)) rfl (by kernel_rfl) (by kernel_rfl) (by kernel_rfl) (fun _ _ _ h => h) (Or.inl ⟨by rfl, fun w hS => by have hm := hS.2; go_simp⟩) HS5.out ?_
            refine wpAnyH_take (i := 14) (v := .int .i64 x) rfl (by kernel_rfl) (by kernel_rfl) (by kernel_rfl) (fun _ _ _ h => h) (Or.inl ⟨by rfl, fun w hS => by have hm := hS.2; go_simp⟩) HS5.out ?_
            refine wpAnyH_take (i := 15) (v := .int .i64 x) rfl (by kernel_rfl) (by kernel_rfl) (by kernel_rfl) (fun _ _ _ h => h) (Or.inl ⟨by rfl, fun w hS => by have hm := hS.2; go_simp⟩) HS5.out ?_
            refine wpAnyH_take (i := 16) (v := .bool true) rfl (by kernel_rfl) (by kernel_rfl) (by kernel_rfl) (fun _ _ _ h => h) (Or.inl ⟨by rfl, fun w hS => by have hm := hS.2; go_simp⟩) HS5.out ?_
            refine wpAnyH_done (by kernel_rfl) ?_ _
            go_simp
            obtain ⟨V5, hV5⟩ : ∃ V5, U3.alloc (.cells #[.int .i64 lo, .int .i64 hi, .int .i64 x] 3) = V5 := ⟨_, rfl⟩
            have HC5 := hide HS5.out.1
            rw [hV5] at HC5 ⊢
            clear hV5 HS5 HC0 e0 e1 e2 e3 e4 e5
            obtain ⟨e0, e1, e2, e3, e4, e5⟩ := six_of HC5.out.n
            dsimp only at e0 e1 e2 e3 e4 e5
            go_wp2_with fail
            refine (HAr.out _).mono ?_
            rintro e9 w9 ⟨rfl, rfl⟩
            obtain ⟨V9, hV9⟩ : ∃ V9, (((((w9.setCell ⟨gb, 0, none⟩ (.int .i64 1)).setCell ⟨gb, 1, none⟩ (.int .i64 0)).setCell ⟨gb, 2, none⟩ (.int .i64 0)).setCell ⟨gb, 3, none⟩ (.int .i64 0)).setCell ⟨gb, 4, none⟩ (.int .i64 x)).setCell ⟨gb, 5, none⟩ (.int .i64 0) = V9 := ⟨_, rfl⟩
            have HC9 : Hid (Fc W V9 (cd f d (some ⟨b, off, none⟩) n cap out) (.slice am k cm) (.slice at' k ct) M T gb (nuI x)) := hide (by rw [← hV9]; exact HC5.out.put (nuI x))
            have HN5 : Hid (HasC (V9.alloc (.cells #[.int .i64 1, .int .i64 0, .int .i64 0, .int .i64 0, .int .i64 x, .int .i64 0] 39)) V9.heap.size 39 (ia (nuI x))) := hide (HasC.new V9 39 (ia (nuI x)))
            have HF5 : Hid (Fb W (V9.alloc (.cells #[.int .i64 1, .int .i64 0, .int .i64 0, .int .i64 0, .int .i64 x, .int .i64 0] 39)) (cd f d (some ⟨b, off, none⟩) n cap out) (.slice am k cm) (.slice at' k ct) M T) := hide (HC9.out.f.below (bel1 V9 (.cells (ia (nuI x)) 39)))
            obtain ⟨r0, r1, r2, r3, r4, r5⟩ := six_fr HC5.out.n
            go_upto_region 24 with fail
            clear hV9 HC5 e0 e1 e2 e3 e4 e5 r0 r1 r2 r3 r4 r5
            obtain ⟨e0, e1, e2, e3, e4, e5⟩ := six_of HC9.out.n
            dsimp only [nuI] at e0 e1 e2 e3 e4 e5
            go_wp2_with (first
              | (at_builtin; refine ins_list3 rfl _ _ rfl rfl HF5.out.m HF5.out.lo.size _ (nuI x) rfl HN5.out (by rw [HMl.out]; omega) ?_; intro g cap' w2 hown hgr; have HF6 := hide (HF5.out.growM hgr hown); have HF7 := hide (HF6.out.below (bel1 w2 (.cells #[.int .i64 (k : Int)] 3))); have HN7 := hide (HasC.new w2 3 #[.int .i64 (k : Int)]); clear hown hgr e0 e1 e2 e3 e4 e5)
              | (at_builtin; refine int_list rfl _ _ rfl rfl HF7.out.t HF7.out.lo.size _ (k : Int) rfl HN7.out (by rw [HTl.out]; omega) ?_; intro g2 cap2 w3 hown2 hgr2))
            have HF8 := hide (HF7.out.growT hgr2 hown2)
            clear hown2 hgr2
            rw [HMl.out, HTl.out] at HF8 ⊢
            go_wp2_with fail
            go_roundw
            case rel => exact ⟨k + 1, _, _, _, _, M ++ [(nuI x)], T ++ [(k : Int)], by omega, by go_num, rfl, rfl, HZ, hide (by simp [HMl.out]), hide (by simp [HTl.out]), HF8⟩
            case measure => simp [intOf]; omega
        · have hq : ((m.op == 2) && decide (3 ≤ m.k)) = false := by
            cases hx : ((m.op == 2) && decide (3 ≤ m.k))
            · rfl
            · simp at hx; exact absurd hx hin
          by_cases ha0 : 0 < ar m.op
          · have q1 : (m.op == 2) = false := by
              have : m.op ≠ 2 := fun e => by rw [e] at ha0; exact absurd ha0 (by decide)
              simpa using this
            have ha1 : decide (0 < YtjfcdfjegjplhaaGreat.Spn.ar m.op) = true := by simpa using ha0
            have HSt := hide fun (ha : alN M m = false) => kn_st (f := f) (d := d) (M := M) ha0 ha
            have HVl4 := hide (HVl3.out ha0)
            generalize YtjfcdfjegjplhaaGreat.Spn.ar m.op = arm at *
            clear hq hin HVl3 ha0
            have HAl := hide (gall_any m (HC0.out.f.ins HMl.out) HOk2.out)
            go_wp2_with fail
            refine (HAr.out _).mono ?_
            rintro e9 w9 ⟨rfl, rfl⟩
            go_wp2_with fail
            refine HAl.out.mono ?_
            clear HAl
            rintro e9 V5 (⟨hal, rfl, hb⟩ | ⟨hal, v9, rfl, hO, hb⟩)
            · have HC5 := hide (HC0.out.below hb)
              have hkn := HSt.out hal
              have HZe := hide (gse_any m (HC5.out.f.ins HMl.out) HOk2.out)
              obtain ⟨⟨x, sb⟩, hX⟩ : ∃ X, stZ M m = X := ⟨_, rfl⟩
              rw [hX] at HZe hkn
              have HKn := hide hkn
              clear hX hkn hal hb HSt HVl4 HC0 e0 e1 e2 e3 e4 e5
              obtain ⟨e0, e1, e2, e3, e4, e5⟩ := six_of HC5.out.n
              go_wp2_with fail
              refine HZe.out.mono ?_
              rintro e9 V6 ⟨rfl, hb⟩
              have HC6 := hide (HC5.out.below hb)
              clear hb HZe HC5 e0 e1 e2 e3 e4 e5
              have HC5 := HC6
              clear HC6
              obtain ⟨e0, e1, e2, e3, e4, e5⟩ := six_of HC5.out.n
              cases sb
              · have HZ0 := hide (HNo.out x HKn.out)
                have HSs := hide fun V (h : Ins V am k cm M) => gsf_any m h HOk2.out
                generalize hz1 : fsZ (-1) (lnZ M m) = z1 at *
                generalize hz2 : fsZ (k : Int) (lnZ M m) = z2 at *
                clear hz1 hz2 HY HNo HKn
                rcases HRg2.out with ⟨rfl, rfl⟩ | ⟨hz, rfl⟩
                · go_wp2_with fail
                  refine (HSs.out _ (HC5.out.f.ins HMl.out)).mono ?_
                  rintro e9 V7 ⟨rfl, hb⟩
                  have HC6 := hide (HC5.out.below hb)
                  clear hb HC5 e0 e1 e2 e3 e4 e5
                  have HC5 := HC6
                  clear HC6
                  obtain ⟨e0, e1, e2, e3, e4, e5⟩ := six_of HC5.out.n
                  have HZ := HZ0
                  have HN5 := hide (HasC.new V7 39 (ia m))
                  have HF5 := hide (HC5.out.f.below (bel1 V7 (.cells (ia m) 39)))
                  go_wp2_with (first
                    | (at_builtin; refine ins_list3 rfl _ _ rfl rfl HF5.out.m HF5.out.lo.size _ m rfl HN5.out (by rw [HMl.out]; omega) ?_; intro g cap' w2 hown hgr; have HF6 := hide (HF5.out.growM hgr hown); have HF7 := hide (HF6.out.below (bel1 w2 (.cells #[.int .i64 (k : Int)] 3))); have HN7 := hide (HasC.new w2 3 #[.int .i64 (k : Int)]); clear hown hgr e0 e1 e2 e3 e4 e5)
                    | (at_builtin; refine int_list rfl _ _ rfl rfl HF7.out.t HF7.out.lo.size _ (k : Int) rfl HN7.out (by rw [HTl.out]; omega) ?_; intro g2 cap2 w3 hown2 hgr2))
                  have HF8 := hide (HF7.out.growT hgr2 hown2)
                  clear hown2 hgr2
                  rw [HMl.out, HTl.out] at HF8 ⊢
                  go_wp2_with fail
                  go_roundw
                  case rel => exact ⟨k + 1, _, _, _, _, M ++ [m], T ++ [(k : Int)], by omega, by go_num, rfl, rfl, HZ, hide (by simp [HMl.out]), hide (by simp [HTl.out]), HF8⟩
                  case measure => simp [intOf]; omega
                · have hz3 : decide (0 ≤ z2) = true := by simpa using hz
                  clear hz
                  go_wp2_with fail
                  refine (HSs.out _ (HC5.out.f.ins HMl.out)).mono ?_
                  rintro e9 V7 ⟨rfl, hb⟩
                  have HC6 := hide (HC5.out.below hb)
                  clear hb HC5 e0 e1 e2 e3 e4 e5
                  have HC5 := HC6
                  clear HC6
                  obtain ⟨e0, e1, e2, e3, e4, e5⟩ := six_of HC5.out.n
                  go_wp2_with fail
                  refine (HSs.out _ (HC5.out.f.ins HMl.out)).mono ?_
                  rintro e9 V8 ⟨rfl, hb⟩
                  have HC6 := hide (HC5.out.below hb)
                  clear hb HC5 e0 e1 e2 e3 e4 e5
                  have HC5 := HC6
                  clear HC6
                  obtain ⟨e0, e1, e2, e3, e4, e5⟩ := six_of HC5.out.n
                  have HZ := HZ0
                  have HN5 := hide (HasC.new V8 39 (ia m))
                  have HF5 := hide (HC5.out.f.below (bel1 V8 (.cells (ia m) 39)))
                  go_wp2_with (first
                    | (at_builtin; refine ins_list3 rfl _ _ rfl rfl HF5.out.m HF5.out.lo.size _ m rfl HN5.out (by rw [HMl.out]; omega) ?_; intro g cap' w2 hown hgr; have HF6 := hide (HF5.out.growM hgr hown); have HF7 := hide (HF6.out.below (bel1 w2 (.cells #[.int .i64 z2] 3))); have HN7 := hide (HasC.new w2 3 #[.int .i64 z2]); clear hown hgr e0 e1 e2 e3 e4 e5)
                    | (at_builtin; refine int_list rfl _ _ rfl rfl HF7.out.t HF7.out.lo.size _ z2 rfl HN7.out (by rw [HTl.out]; omega) ?_; intro g2 cap2 w3 hown2 hgr2))
                  have HF8 := hide (HF7.out.growT hgr2 hown2)
                  clear hown2 hgr2
                  rw [HMl.out, HTl.out] at HF8 ⊢
                  go_wp2_with fail
                  go_roundw
                  case rel => exact ⟨k + 1, _, _, _, _, M ++ [m], T ++ [z2], by omega, by go_num, rfl, rfl, HZ, hide (by simp [HMl.out]), hide (by simp [HTl.out]), HF8⟩
                  case measure => simp [intOf]; omega
              · have HZ := hide (HY.out x HKn.out)
                clear HY HNo HKn HRg2
                obtain ⟨V9, hV9⟩ : ∃ V9, (((((V6.setCell ⟨gb, 0, none⟩ (.int .i64 1)).setCell ⟨gb, 1, none⟩ (.int .i64 0)).setCell ⟨gb, 2, none⟩ (.int .i64 0)).setCell ⟨gb, 3, none⟩ (.int .i64 0)).setCell ⟨gb, 4, none⟩ (.int .i64 x)).setCell ⟨gb, 5, none⟩ (.int .i64 0) = V9 := ⟨_, rfl⟩
                have HC9 : Hid (Fc W V9 (cd f d (some ⟨b, off, none⟩) n cap out) (.slice am k cm) (.slice at' k ct) M T gb (nuI x)) := hide (by rw [← hV9]; exact HC5.out.put (nuI x))
                have HN5 : Hid (HasC (V9.alloc (.cells #[.int .i64 1, .int .i64 0, .int .i64 0, .int .i64 0, .int .i64 x, .int .i64 0] 39)) V9.heap.size 39 (ia (nuI x))) := hide (HasC.new V9 39 (ia (nuI x)))
                have HF5 : Hid (Fb W (V9.alloc (.cells #[.int .i64 1, .int .i64 0, .int .i64 0, .int .i64 0, .int .i64 x, .int .i64 0] 39)) (cd f d (some ⟨b, off, none⟩) n cap out) (.slice am k cm) (.slice at' k ct) M T) := hide (HC9.out.f.below (bel1 V9 (.cells (ia (nuI x)) 39)))
                obtain ⟨r0, r1, r2, r3, r4, r5⟩ := six_fr HC5.out.n
                go_upto_region 24 with fail
                clear hV9 HC5 e0 e1 e2 e3 e4 e5 r0 r1 r2 r3 r4 r5
                obtain ⟨e0, e1, e2, e3, e4, e5⟩ := six_of HC9.out.n
                dsimp only [nuI] at e0 e1 e2 e3 e4 e5
                go_wp2_with (first
                  | (at_builtin; refine ins_list3 rfl _ _ rfl rfl HF5.out.m HF5.out.lo.size _ (nuI x) rfl HN5.out (by rw [HMl.out]; omega) ?_; intro g cap' w2 hown hgr; have HF6 := hide (HF5.out.growM hgr hown); have HF7 := hide (HF6.out.below (bel1 w2 (.cells #[.int .i64 (k : Int)] 3))); have HN7 := hide (HasC.new w2 3 #[.int .i64 (k : Int)]); clear hown hgr e0 e1 e2 e3 e4 e5)
                  | (at_builtin; refine int_list rfl _ _ rfl rfl HF7.out.t HF7.out.lo.size _ (k : Int) rfl HN7.out (by rw [HTl.out]; omega) ?_; intro g2 cap2 w3 hown2 hgr2))
                have HF8 := hide (HF7.out.growT hgr2 hown2)
                clear hown2 hgr2
                rw [HMl.out, HTl.out] at HF8 ⊢
                go_wp2_with fail
                go_roundw
                case rel => exact ⟨k + 1, _, _, _, _, M ++ [(nuI x)], T ++ [(k : Int)], by omega, by go_num, rfl, rfl, HZ, hide (by simp [HMl.out]), hide (by simp [HTl.out]), HF8⟩
                case measure => simp [intOf]; omega
            · obtain ⟨x, hx1, hx2⟩ := HVl4.out hal
              have HC5 := hide (HC0.out.below hb)
              have HZ := hide (HY.out x hx2)
              obtain ⟨va, vcap, hv9, hI9, -⟩ := Ints.of_owns hO
              have HVa := hide (YtjfcdfjegjplhaaGreat.Spn.rvalue_any m.op m.k m.s va (kaL M m).length vcap (kaL M m) V5 ⟨hI9.len, hI9.le, hI9.max, hI9.nil, hI9.cell⟩)
              rw [hx1] at HVa
              subst hv9
              generalize (kaL M m).length = kl at *
              clear hx1 hx2 hal hO hI9 hb HSt HVl4 HC0 HY HNo HRg2 e0 e1 e2 e3 e4 e5
              obtain ⟨e0, e1, e2, e3, e4, e5⟩ := six_of HC5.out.n
              go_wp2_with fail
              refine HVa.out.mono ?_
              rintro e9 w8 ⟨rfl, rfl⟩
              obtain ⟨V9, hV9⟩ : ∃ V9, (((((w8.setCell ⟨gb, 0, none⟩ (.int .i64 1)).setCell ⟨gb, 1, none⟩ (.int .i64 0)).setCell ⟨gb, 2, none⟩ (.int .i64 0)).setCell ⟨gb, 3, none⟩ (.int .i64 0)).setCell ⟨gb, 4, none⟩ (.int .i64 x)).setCell ⟨gb, 5, none⟩ (.int .i64 0) = V9 := ⟨_, rfl⟩
              have HC9 : Hid (Fc W V9 (cd f d (some ⟨b, off, none⟩) n cap out) (.slice am k cm) (.slice at' k ct) M T gb (nuI x)) := hide (by rw [← hV9]; exact HC5.out.put (nuI x))
              have HN5 : Hid (HasC (V9.alloc (.cells #[.int .i64 1, .int .i64 0, .int .i64 0, .int .i64 0, .int .i64 x, .int .i64 0] 39)) V9.heap.size 39 (ia (nuI x))) := hide (HasC.new V9 39 (ia (nuI x)))
              have HF5 : Hid (Fb W (V9.alloc (.cells #[.int .i64 1, .int .i64 0, .int .i64 0, .int .i64 0, .int .i64 x, .int .i64 0] 39)) (cd f d (some ⟨b, off, none⟩) n cap out) (.slice am k cm) (.slice at' k ct) M T) := hide (HC9.out.f.below (bel1 V9 (.cells (ia (nuI x)) 39)))
              obtain ⟨r0, r1, r2, r3, r4, r5⟩ := six_fr HC5.out.n
              go_upto_region 24 with fail
              clear hV9 HC5 e0 e1 e2 e3 e4 e5 r0 r1 r2 r3 r4 r5
              obtain ⟨e0, e1, e2, e3, e4, e5⟩ := six_of HC9.out.n
              dsimp only [nuI] at e0 e1 e2 e3 e4 e5
              go_wp2_with (first
                | (at_builtin; refine ins_list3 rfl _ _ rfl rfl HF5.out.m HF5.out.lo.size _ (nuI x) rfl HN5.out (by rw [HMl.out]; omega) ?_; intro g cap' w2 hown hgr; have HF6 := hide (HF5.out.growM hgr hown); have HF7 := hide (HF6.out.below (bel1 w2 (.cells #[.int .i64 (k : Int)] 3))); have HN7 := hide (HasC.new w2 3 #[.int .i64 (k : Int)]); clear hown hgr e0 e1 e2 e3 e4 e5)
                | (at_builtin; refine int_list rfl _ _ rfl rfl HF7.out.t HF7.out.lo.size _ (k : Int) rfl HN7.out (by rw [HTl.out]; omega) ?_; intro g2 cap2 w3 hown2 hgr2))
              have HF8 := hide (HF7.out.growT hgr2 hown2)
              clear hown2 hgr2
              rw [HMl.out, HTl.out] at HF8 ⊢
              go_wp2_with fail
              go_roundw
              case rel => exact ⟨k + 1, _, _, _, _, M ++ [(nuI x)], T ++ [(k : Int)], by omega, by go_num, rfl, rfl, HZ, hide (by simp [HMl.out]), hide (by simp [HTl.out]), HF8⟩
              case measure => simp [intOf]; omega
          · obtain ⟨⟨x, hkn⟩, hln⟩ := kn_low (f := f) (d := d) (M := M) HOk2.out ha0 hin
            have hZ := HNo.out x hkn
            rw [hln] at hZ
            have HZ : Hid (foF f d (L.take (k + 1)) = (M ++ [m], T ++ [(k : Int)])) := hide hZ
            have ha1 : decide (0 < YtjfcdfjegjplhaaGreat.Spn.ar m.op) = false := by simpa using ha0
            have HC5 := HC0
            clear hkn hln hZ HY HNo HRg2 HVl3
            by_cases hop : m.op = 2
            · have q1 : (m.op == 2) = true := by simpa using hop
              have q2 : decide (3 ≤ m.k) = false := by rw [q1, Bool.true_and] at hq; exact hq
              generalize YtjfcdfjegjplhaaGreat.Spn.ar m.op = arm at *
              clear hop hq hin ha0
              go_wp2_with fail
              refine (HAr.out _).mono ?_
              rintro e9 w9 ⟨rfl, rfl⟩
              have HN5 := hide (HasC.new w9 39 (ia m))
              have HF5 := hide (HC5.out.f.below (bel1 w9 (.cells (ia m) 39)))
              go_wp2_with (first
                | (at_builtin; refine ins_list3 rfl _ _ rfl rfl HF5.out.m HF5.out.lo.size _ m rfl HN5.out (by rw [HMl.out]; omega) ?_; intro g cap' w2 hown hgr; have HF6 := hide (HF5.out.growM hgr hown); have HF7 := hide (HF6.out.below (bel1 w2 (.cells #[.int .i64 (k : Int)] 3))); have HN7 := hide (HasC.new w2 3 #[.int .i64 (k : Int)]); clear hown hgr e0 e1 e2 e3 e4 e5)
                | (at_builtin; refine int_list rfl _ _ rfl rfl HF7.out.t HF7.out.lo.size _ (k : Int) rfl HN7.out (by rw [HTl.out]; omega) ?_; intro g2 cap2 w3 hown2 hgr2))
              have HF8 := hide (HF7.out.growT hgr2 hown2)
              clear hown2 hgr2
              rw [HMl.out, HTl.out] at HF8 ⊢
              go_wp2_with fail
              go_roundw
              case rel => exact ⟨k + 1, _, _, _, _, M ++ [m], T ++ [(k : Int)], by omega, by go_num, rfl, rfl, HZ, hide (by simp [HMl.out]), hide (by simp [HTl.out]), HF8⟩
              case measure => simp [intOf]; omega
            · have q1 : (m.op == 2) = false := by simpa using hop
              generalize YtjfcdfjegjplhaaGreat.Spn.ar m.op = arm at *
              clear hop hq hin ha0
              go_wp2_with fail
              refine (HAr.out _).mono ?_
              rintro e9 w9 ⟨rfl, rfl⟩
              have HN5 := hide (HasC.new w9 39 (ia m))
              have HF5 := hide (HC5.out.f.below (bel1 w9 (.cells (ia m) 39)))
              go_wp2_with (first
                | (at_builtin; refine ins_list3 rfl _ _ rfl rfl HF5.out.m HF5.out.lo.size _ m rfl HN5.out (by rw [HMl.out]; omega) ?_; intro g cap' w2 hown hgr; have HF6 := hide (HF5.out.growM hgr hown); have HF7 := hide (HF6.out.below (bel1 w2 (.cells #[.int .i64 (k : Int)] 3))); have HN7 := hide (HasC.new w2 3 #[.int .i64 (k : Int)]); clear hown hgr e0 e1 e2 e3 e4 e5)
                | (at_builtin; refine int_list rfl _ _ rfl rfl HF7.out.t HF7.out.lo.size _ (k : Int) rfl HN7.out (by rw [HTl.out]; omega) ?_; intro g2 cap2 w3 hown2 hgr2))
              have HF8 := hide (HF7.out.growT hgr2 hown2)
              clear hown2 hgr2
              rw [HMl.out, HTl.out] at HF8 ⊢
              go_wp2_with fail
              go_roundw
              case rel => exact ⟨k + 1, _, _, _, _, M ++ [m], T ++ [(k : Int)], by omega, by go_num, rfl, rfl, HZ, hide (by simp [HMl.out]), hide (by simp [HTl.out]), HF8⟩
              case measure => simp [intOf]; omega
      · obtain rfl : k = n := by omega
        have hM := HM.out
        rw [List.take_of_length_le (by rw [HLn.out]; exact Nat.le_refl _)] at hM
        have HM2 := hide hM
        obtain ⟨o, rfl⟩ : ∃ o : Nat, out = o := ⟨out.toNat, by omega⟩
        obtain ⟨b2, o2, hat', -, hat⟩ := (HF.out.ints HTl.out).at (by omega)
        have t0 := hat o (by omega)
        subst hat'
        have hw0 : W.heap.size < V.heap.size := HF.out.c.lt
        have i0' : (0 : Int) ≤ o := by omega
        have i1' : (o : Int) < k := by omega
        have hz : foO f d L (o : Int) = T.getD o 0 := by rw [foO, hM]; rfl
        have hz1 : (foF f d L).1 = M := by rw [hM]
        have hmM := HF.out.m
        rw [HMl.out, ← hz1] at hmM
        have HTk := hide fun (X : World) (hb : Below V.heap.size V X) => gtaken_one (out := (o : Int)) HLn.out (Cde.own_mono (Cde.own_later hmM hb) (Nat.zero_le _)) ((HLI.out.later HF.out.lo).later hb) m1 (by omega)
        rw [hz] at HTk
        have HOm := hide hmM
        have HtC := hide (t0)
        obtain ⟨z, hzz⟩ : ∃ z, T.getD o 0 = z := ⟨_, rfl⟩
        rw [hzz] at t0 HTk HtC
        have HZz := hide hzz
        clear hat hM HM HOk HSu HRg HVl HOk0 hmM hz hz1 hzz
        go_upto_region 26 with fail
        go_region_held3 (fun w' => (w'.cell? ⟨W.heap.size, 0, none⟩ = some (.int .i64 f) ∧ w'.cell? ⟨W.heap.size, 1, none⟩ = some (.int .i64 d) ∧ w'.cell? ⟨W.heap.size, 2, none⟩ = some (.slice a k cap) ∧ w'.cell? ⟨W.heap.size, 3, none⟩ = some (.int .i64 (o : Int))) ∧ w'.cell? ⟨b2, o2 + o, none⟩ = some (.int .i64 z))
          (first | with_reducible exact ⟨⟨x0, x1, x2, x3⟩, t0⟩ | with_reducible exact ⟨⟨l0, l1, l2, l3⟩, t4⟩ | with_reducible exact ⟨⟨m0, m1', m2', m3⟩, t5⟩ | exact ⟨⟨x0, x1, x2, x3⟩, t0⟩ | go_keep)
          ((first
            | (go_at_call 24; refine (HTk.out _ (below_drew _)).mono ?_; rintro e9 V4 ⟨a2', c2', rfl, hO4, hb4⟩; have HF4 := hide (HF.out.below (bel (below_drew V) hb4)); obtain ⟨l0, l1, l2, l3⟩ := four_of HF4.out.c; have t4 := cell_bel (bel (below_drew V) hb4) t0 (World.block_lt_of_cell? V _ t0); obtain ⟨p0, p1, p2, p3⟩ := four_of HF4.out.o; obtain ⟨r0, r1, r2, r3⟩ := four_fr HF4.out.o; have hT4 := s4_own HF4.out.t (own_ne HF4.out.t HF4.out.o (by decide)) (.int .i64 f) (.int .i64 d) (.slice a2' k c2') (.int .i64 (fdO f d L (o : Int))); have hG4 := (⟨HF4.out.c, HF4.out.o, HF4.out.lo⟩ : Fg W V4 (cd f d a k cap (o : Int)) cdz).put (.int .i64 f) (.int .i64 d) (.slice a2' k c2') (.int .i64 (fdO f d L (o : Int))); unfold s4 at hT4 hG4; have t5 := own_cell_at hT4 HTl.out (o := o) (by omega) HZz.out; obtain ⟨m0, m1', m2', m3⟩ := four_of hG4.c)))
        all_goals
          have HO4 := hide (hO4 W.heap.size (Cde.own_later HOm.out (below_drew V)) HF.out.lo.size)
          have HG4 := hide hG4
          clear x0 x1 x2 x3 t0 l0 l1 l2 l3 t4 t5 m0 m1' m2' m3 p0 p1 p2 p3 r0 r1 r2 r3 hT4 hG4 hO4 hb4 HTk HtC
          have hq := own_ne HO4.out HF4.out.o (by decide)
          have hlen := (fd_means h0').2.1
          rw [HLn.out] at hlen
          generalize hu : fdO f d L (o : Int) = u at *
          generalize hI : fdL f d L (o : Int) = I at *
          have HO5 := hide (s4_own HO4.out hq (.int .i64 f) (.int .i64 d) (.slice a2' k c2') (.int .i64 u))
          obtain ⟨V5, hV5⟩ : ∃ V5, (((V4.setCell ⟨W.heap.size + 1, 0, none⟩ (.int .i64 f)).setCell ⟨W.heap.size + 1, 1, none⟩ (.int .i64 d)).setCell ⟨W.heap.size + 1, 2, none⟩ (.slice a2' k c2')).setCell ⟨W.heap.size + 1, 3, none⟩ (.int .i64 u) = V5 := ⟨_, rfl⟩
          unfold s4 at HO5
          rw [hV5] at HO5 HG4 ⊢
          clear hV5 hq HF4 HO4
          go_wp2_with fail
          obtain ⟨q0, q1, q2, q3⟩ := four_of HG4.out.r
          exact bodyPost_ret (v := .tuple #[.agg (cd f d a2' k c2' u), .int .i64 0]) (by simp [results, Tryz.results6, go_sem, q0, q1, q2, q3]) rfl (FoP.row h0' hI hu hlen HO5.out HG4.out.lo)
  · have hr : (er != 0) = true := by simpa using h0
    go_upto_region 3 with fail
    obtain ⟨V2, hV2⟩ : ∃ V2, V1.alloc (.cells #[.slice ga vm gc, .int .i64 co, .int .i64 0] 42) = V2 := ⟨_, rfl⟩
    rw [hV2] at HF1 ⊢
    clear hV2 HF0
    obtain ⟨p0, p1, p2, p3⟩ := four_of HF1.out.r
    obtain ⟨r0, r1, r2, r3⟩ := four_fr HF1.out.r
    obtain ⟨V3, hV3⟩ : ∃ V3, (((V2.setCell ⟨W.heap.size + 1, 0, none⟩ (.int .i64 0)).setCell ⟨W.heap.size + 1, 1, none⟩ (.int .i64 0)).setCell ⟨W.heap.size + 1, 2, none⟩ (.slice none 0 0)).setCell ⟨W.heap.size + 1, 3, none⟩ (.int .i64 0) = V3 := ⟨_, rfl⟩
    have HF2 : Hid (Fg W V3 (cd f d a n cap out) cdz) := hide (by rw [← hV3]; exact HF1.out.put (.int .i64 0) (.int .i64 0) (.slice none 0 0) (.int .i64 0))
    go_wp2_with fail
    obtain ⟨q0, q1, q2, q3⟩ := four_of HF2.out.r
    exact bodyPost_ret (v := .tuple #[.agg cdz, .int .i64 er]) (by simp [results, Tryz.results6, go_sem, q0, q1, q2, q3]) rfl (FoP.no HEr.out h0 HF2.out.lo)

end Go.Proofs.Fld

/-
  The walk of ParseDress.
-/
import Derived.Test.YtamekjocchekoaaGr8
import Derived.Test.YtamekjocchekoaaSq
import Derived.Test.YtamekjocchekoaaGlueW
namespace Go.Proofs.Ytamekjocchekoaa
open Go.RowKit Go.IntWalk Lx Pz
set_option linter.unusedVariables false

def PR (w : World) (NM : List Txt) (BS : List Int) (NS : List Nd) (root ev : Int) (e : Ending) (W' : World) : Prop :=
  ∃ na nc ba bc da dc, e = .returned (.tuple #[.agg (tr4 (.slice na NM.length nc) (.slice ba BS.length bc) (.slice da NS.length dc) (.int .i64 root)), .int .i64 ev]) ∧ Tx W' na NM.length nc NM ∧ Iz W' ba BS.length bc BS ∧ Nz W' da NS.length dc NS ∧ Below w.heap.size w W'

theorem parse_bad {s : ByteArray} (h : ∀ T, tks (bs s) = some T → ∀ o, ¬ GP [] [] (T.map ab) o) (w : World) : Calls Try.prog 9 #[.string s] w fun e W' => e = .returned (.tuple #[.agg nil4, .int .i64 10]) ∧ Below w.heap.size w W' := by
  refine (parse_read s w).mono ?_
  rintro e W1 (⟨he, hb, -⟩ | ⟨T, NM, es, ex, na, nc, ba, bc, da, dc, hT, hA, -⟩)
  · exact ⟨he, hb⟩
  · exact absurd ((hA _).1 rfl) (h T hT _)
theorem parse_bad' {s : ByteArray} {A : List Tk} (ha : ak (bs s) = some A) (h : ∀ o, ¬ GP [] [] A o) (w : World) : Calls Try.prog 9 #[.string s] w fun e W' => e = .returned (.tuple #[.agg nil4, .int .i64 10]) ∧ Below w.heap.size w W' :=
  parse_bad (fun T hT => by have := (ak_of hT).1; rw [ha] at this; cases this; exact h) w
theorem parse_long {s : ByteArray} (h : 1024 < s.size) (w : World) : Calls Try.prog 9 #[.string s] w fun e W' => e = .returned (.tuple #[.agg nil4, .int .i64 10]) ∧ Below w.heap.size w W' :=
  parse_bad (fun T hT => by have := (ak_of hT).2; rw [bs_len] at this; omega) w
theorem bd_len : ∀ (es : List E) (s : Nat), (bdL es s).length = es.length
  | [], s => rfl
  | a :: es, s => by simp [bdL, bd_len es]
theorem fl_len : ∀ (es : List E) (s : Nat), (flL es s).length = szL es
  | [], s => rfl
  | a :: es, s => by simp [flL, szL, fl_len es, E.flat_len]
theorem parse_uni (A : List Tk) : ∃ NM BS NS root ev, (ev = 0 ∨ ev = 10) ∧ (∀ s w, ak (bs s) = some A → s.size ≤ 1024 → Calls Try.prog 9 #[.string s] w (PR w NM BS NS root ev)) ∧
    (∀ s w, ev = 0 → .word wLet ∉ A → ak (bs s) = some (.lp :: (A ++ [.rp])) → s.size ≤ 1024 → Calls Try.prog 9 #[.string s] w (PR w NM BS NS root ev)) := by
  by_cases h : ∃ o, GP [] [] A o
  · obtain ⟨⟨NM, es, ex⟩, hg⟩ := h
    by_cases hl : NM.length = es.length
    · refine ⟨NM, bdL es 0, flL es 0 ++ ex.flat (szL es), ((szL es + ex.size : Nat) : Int) - 1, 0, .inl rfl, ?_, ?_⟩
      · intro s w ha hs
        refine (parse_of ha hs hg w).mono ?_
        rintro e W' ⟨na, nc, ba, bc, da, dc, he, hx, hi, hn, hb⟩
        have e1 : (flL es 0 ++ ex.flat (szL es)).length = szL es + ex.size := by simp [fl_len, E.flat_len]
        unfold PR
        rw [hl, bd_len, e1]
        exact ⟨na, nc, ba, bc, da, dc, he, hx, hi, hn, hb⟩
      · intro s w _ hlet ha hs
        obtain ⟨rfl, rfl, hg2⟩ := par_yes hlet hg
        refine (parse_of ha hs hg2 w).mono ?_
        rintro e W' ⟨na, nc, ba, bc, da, dc, he, hx, hi, hn, hb⟩
        have e1 : (flL [] 0 ++ ex.flat (szL [])).length = szL [] + ex.size := by simp [fl_len, E.flat_len]
        unfold PR
        rw [bd_len, e1]
        exact ⟨na, nc, ba, bc, da, dc, he, hx, hi, hn, hb⟩
    · exact absurd (gp_same hg rfl) hl
  · refine ⟨[], [], [], 0, 10, .inr rfl, ?_, fun _ _ h0 => by cases h0⟩
    intro s w ha hs
    refine (parse_bad' ha (fun o ho => h ⟨o, ho⟩) w).mono ?_
    rintro e W' ⟨he, hb⟩
    exact ⟨none, 0, none, 0, none, 0, he, ⟨rfl, Nat.le_refl _, Nat.zero_le _, .inl rfl⟩, ⟨rfl, Nat.le_refl _, Nat.zero_le _, .inl rfl⟩, ⟨rfl, Nat.le_refl _, Nat.zero_le _, .inl rfl⟩, hb⟩

theorem dtokens_some {s : ByteArray} {T : List Tok} (w : World) (h : tks (bs s) = some T) : Calls Try.prog 21 #[.string s] w fun e w' => ∃ v, e = .returned (.tuple #[v, .int .i64 0]) ∧ w'.ownsRow w.heap.size 49 3 v T.length (tk64 T) ∧ Below w.heap.size w w' := by
  refine (tokens_any s w).mono ?_
  rintro e w' (⟨hn, -, -⟩ | ⟨T', v, hT, he, ho, hb⟩)
  · rw [h] at hn; cases hn
  · rw [h] at hT; cases hT
    exact ⟨v, he, ho, hb⟩
theorem dtokens_none (s : ByteArray) (w : World) (h : tks (bs s) = none) : Calls Try.prog 21 #[.string s] w fun e w' => e = .returned (.tuple #[.slice none 0 0, .int .i64 10]) ∧ Below w.heap.size w w' := by
  refine (tokens_any s w).mono ?_
  rintro e w' (⟨-, h1, h2⟩ | ⟨T, v, hT, -⟩)
  · exact ⟨h1, h2⟩
  · rw [h] at hT; cases hT

set_option maxHeartbeats 2000000 in
set_option maxRecDepth 100000 in
theorem dress_none (s : ByteArray) (am : Option Addr) (nm cm : Nat) (w : World) (h : tks (bs s) = none) :
    Calls Try.prog 7 #[.string s, .slice am nm cm] w fun e w' => e = .returned (.bool true) ∧ Below w.heap.size w w' := by
  have HP := hide fun w => parse_bad (s := s) (fun T hT => by rw [h] at hT; cases hT) w
  have HF := hide fun w => dtokens_none s w h
  clear h
  go_enter Try.func7, Try.ntmps7
  go_wp2_with fail
  refine (HP.out _).mono ?_
  rintro e w1 ⟨rfl, hb1⟩
  have B1 := hide (bel hb1 (bel1 w1 (.cells nil4 26)))
  clear hb1
  go_wp2_with fail
  refine (HF.out _).mono ?_
  rintro e w2 ⟨rfl, hb1⟩
  have B2 := hide (bel B1.out hb1)
  clear hb1
  go_wp2_with fail
  refine (awake_any _).mono ?_
  rintro e w3 ⟨rfl, hb2⟩
  have B3 := hide (bel B2.out hb2)
  clear hb2
  go_wp2_with fail
  refine (awake_any _).mono ?_
  rintro e w4 ⟨rfl, hb3⟩
  have B4 := hide (bel B3.out hb3)
  clear hb3
  go_wp2_with fail
  go_ret
  exact ⟨rfl, B4.out⟩

set_option maxHeartbeats 16000000 in
set_option maxRecDepth 100000 in
theorem dress_some (s : ByteArray) (am : Option Addr) (nm cm : Nat) (zs : List Int) (T : List Tok) (w : World) (h : tks (bs s) = some T) (hM : Bytes w am nm cm zs) :
    Calls Try.prog 7 #[.string s, .slice am nm cm] w fun e w' => e = .returned (.bool true) ∧ Below w.heap.size w w' := by
  have HF := hide fun w => dtokens_some (s := s) w h
  obtain ⟨hcov, hl⟩ := tks_cov h
  have hTl := cov_len T _ _ hcov
  have HTx := hide (cov_text T _ _ hcov)
  have HDL := hide (drs_len zs T _ _ 0 hcov)
  have HGD := hide (cov_good T _ _ hcov)
  have HH := hide h
  obtain ⟨NM, BS, NS, root, ev, hev, hP1, hP2⟩ := parse_uni (T.map ab)
  have HP := hide hP1
  have HQ := hide hP2
  have HP0 := hide fun w => hP1 s w (ak_of h).1 (by rw [← bs_len]; exact hl)
  clear hP1 hP2
  obtain ⟨n, hn⟩ : ∃ n, T.length = n := ⟨_, rfl⟩
  rw [hn] at HF hTl
  have Hn := hide hn
  have hn4 : n ≤ 1024 := by omega
  have hsz : s.size ≤ 1024 := by rw [← bs_len]; exact hl
  have hnm : nm ≤ 9223372036854775807 := by have := hM.le; have := hM.max; unfold maxLen at this; omega
  have hDl : (drs zs 0 T).length ≤ 5120 := by have := HDL.out; rw [bs_len, Hn.out] at this; omega
  have HDl := hide hDl
  have hTx4 : ∀ t ∈ T, t.text.length ≤ 1024 := fun t ht => Nat.le_trans (HTx.out t ht) hl
  have HTx4 := hide hTx4
  clear h hcov hl hTl hn HDL hDl hTx4 HTx
  go_enter Try.func7, Try.ntmps7
  go_wp2_with fail
  refine (HP0.out _).mono ?_
  rintro e w1 ⟨na, nc, ba, bc, da, dc, rfl, hx, hi, hd, hb1⟩
  have hb0 := bel1 w1 (.cells (tr4 (.slice na NM.length nc) (.slice ba BS.length bc) (.slice da NS.length dc) (.int .i64 root)) 26)
  have HC1 := hide (HasC.new w1 26 (tr4 (.slice na NM.length nc) (.slice ba BS.length bc) (.slice da NS.length dc) (.int .i64 root)))
  have X1 := hide (hx.later hb0)
  have I1 := hide (hi.later hb0)
  have D1 := hide (hd.later hb0)
  have B1 := hide (bel hb1 hb0)
  have M1 := hide (hM.later (bel hb1 hb0))
  clear hb0 hb1 hx hi hd hM HP0
  go_wp2_with fail
  refine (HF.out _).mono ?_
  rintro e w2 ⟨v1, rfl, ho1, hb1⟩
  obtain ⟨a1, c1, hv1, hT1, -⟩ := Toks.of_owns ho1
  subst hv1
  have K2 := hide hT1
  have HC2 := hide (HC1.out.below hb1)
  have X2 := hide (X1.out.later hb1)
  have I2 := hide (I1.out.later hb1)
  have D2 := hide (D1.out.later hb1)
  have B2 := hide (bel B1.out hb1)
  have M2 := hide (M1.out.later hb1)
  clear hb1 ho1 hT1 HF HC1 X1 I1 D1 B1 M1
  generalize w1.heap.size = q at *
  go_wp2_with fail
  refine (awake_any _).mono ?_
  rintro e w3 ⟨rfl, hb1⟩
  have K3 := hide (K2.out.later hb1)
  have HC3 := hide (HC2.out.below hb1)
  have X3 := hide (X2.out.later hb1)
  have I3 := hide (I2.out.later hb1)
  have D3 := hide (D2.out.later hb1)
  have B3 := hide (bel B2.out hb1)
  have M3 := hide (M2.out.later hb1)
  clear hb1 K2 HC2 X2 I2 D2 B2 M2
  go_wp2_with fail
  go_loop [9, 10, 11] (fun x l i => ∃ k : Nat, k ≤ n ∧ i = .int .i64 k ∧ x = .string (sB (drs zs 0 (T.take k))) ∧ l = .bool (lets (T.take k))) (fun _ _ i => n - (intOf i).toNat)
  case atStart => exact ⟨0, Nat.zero_le _, rfl, rfl, rfl⟩
  case round =>
    obtain ⟨k, hk, rfl, rfl, rfl⟩ := hrel
    by_cases hlt : k < n
    · rcases K3.out.cell with h0 | ⟨b0, off, rfl, hcells⟩
      · omega
      obtain ⟨c0, c2, c3⟩ := hcells k hlt
      clear c0 c3 hcells
      have hkT : T[k]? = some (T.getD k t0) := by
        rw [List.getD_eq_getElem?_getD]
        cases hh : T[k]? with
        | none => rw [List.getElem?_eq_none_iff, Hn.out] at hh; omega
        | some t => rfl
      have hsx := hide (drs_succ (zs := zs) hkT)
      have hlx := hide (lets_succ hkT)
      have hXl : (T.getD k t0).text.length ≤ 1024 := HTx4.out _ (getD_mem (by rw [Hn.out]; exact hlt))
      have hGl : (drs zs 0 (T.take k)).length ≤ 5120 := Nat.le_trans (drs_take zs T k) HDl.out
      have hi0 : (0 : Int) ≤ k := by omega
      have hi1 : (k : Int) < n := by omega
      clear hkT
      generalize (T.getD k t0).text = X at *
      generalize drs zs 0 (T.take k) = G at *
      generalize lets (T.take k) = L at *
      have hway : (bh zs k = [32] ∧ nm ≤ k) ∨ (bh zs k = [32] ∧ k < nm ∧ (zs.getD k 0 % 3 = 0 ∨ zs.getD k 0 % 3 = 2)) ∨ (bh zs k = [35, 59, 40, 10] ∧ k < nm ∧ zs.getD k 0 % 3 = 1) := by
        have hzl := M3.out.len
        unfold bh
        rw [hzl]
        by_cases h1 : k < nm
        · rcases (show zs.getD k 0 % 3 = 0 ∨ zs.getD k 0 % 3 = 1 ∨ zs.getD k 0 % 3 = 2 by omega) with h | h | h
          · right; left; rw [if_neg (by omega)]; exact ⟨rfl, h1, .inl h⟩
          · right; right; rw [if_pos ⟨h1, h⟩]; exact ⟨rfl, h1, h⟩
          · right; left; rw [if_neg (by omega)]; exact ⟨rfl, h1, .inr h⟩
        · left; rw [if_neg (by omega)]; exact ⟨rfl, by omega⟩
      rcases hway with ⟨hb, hkm⟩ | ⟨hb, hkm, hz⟩ | ⟨hb, hkm, hz⟩
      · rw [hb] at hsx
        have ha1 : ∀ W, (Op.stringOp .add (sB G) (sB X)).run Try.prog W = .ok (.string (sB (G ++ X))) W := fun W => add_sB _ _ W (by omega)
        have ha2 : ∀ W, (Op.stringOp .add (sB (G ++ X)) ⟨#[32]⟩).run Try.prog W = .ok (.string (sB (G ++ X ++ [32]))) W := fun W => add_sB _ [32] W (by simp only [List.length_append, List.length_cons, List.length_nil]; omega)
        obtain ⟨G1, hG1⟩ : ∃ A, sB (G ++ X) = A := ⟨_, rfl⟩
        rw [hG1] at ha1 ha2
        obtain ⟨G2, hG2⟩ : ∃ A, sB (G ++ X ++ [32]) = A := ⟨_, rfl⟩
        rw [hG2] at ha2
        have HG2 := hide (show G2 = sB (drs zs 0 (T.take (k + 1))) by rw [hsx.out, hG2])
        have HLL := hide hlx.out
        clear hG1 hG2 hb hsx hlx
        have hj1 : ¬ (k : Int) < nm := by omega
        cases L
        all_goals
          go_wp2_with fail
          go_round
          case rel => exact ⟨k + 1, by omega, by go_num, by rw [HG2.out], by rw [HLL.out]; rfl⟩
          case measure => simp [intOf]; omega
      · rw [hb] at hsx
        have ha1 : ∀ W, (Op.stringOp .add (sB G) (sB X)).run Try.prog W = .ok (.string (sB (G ++ X))) W := fun W => add_sB _ _ W (by omega)
        have ha2 : ∀ W, (Op.stringOp .add (sB (G ++ X)) ⟨#[32]⟩).run Try.prog W = .ok (.string (sB (G ++ X ++ [32]))) W := fun W => add_sB _ [32] W (by simp only [List.length_append, List.length_cons, List.length_nil]; omega)
        obtain ⟨G1, hG1⟩ : ∃ A, sB (G ++ X) = A := ⟨_, rfl⟩
        rw [hG1] at ha1 ha2
        obtain ⟨G2, hG2⟩ : ∃ A, sB (G ++ X ++ [32]) = A := ⟨_, rfl⟩
        rw [hG2] at ha2
        have HG2 := hide (show G2 = sB (drs zs 0 (T.take (k + 1))) by rw [hsx.out, hG2])
        have HLL := hide hlx.out
        clear hG1 hG2 hb hsx hlx
        obtain ⟨mb, mo, rfl, -, hm1⟩ := M3.out.at (by omega)
        have m1 := hm1 k hkm
        obtain ⟨y1, y2⟩ := getD_byte M3.out.byte k
        clear hm1
        generalize zs.getD k 0 = z at hz m1 y1 y2
        have hj1 : (k : Int) < nm := by omega
        rcases hz with hz | hz
        all_goals
          cases L
          all_goals
            go_wp2_with fail
            go_round
            case rel => exact ⟨k + 1, by omega, by go_num, by rw [HG2.out], by rw [HLL.out]; rfl⟩
            case measure => simp [intOf]; omega
      · rw [hb] at hsx
        have ha1 : ∀ W, (Op.stringOp .add (sB G) (sB X)).run Try.prog W = .ok (.string (sB (G ++ X))) W := fun W => add_sB _ _ W (by omega)
        have ha2 : ∀ W, (Op.stringOp .add (sB (G ++ X)) ⟨#[35, 59, 40, 10]⟩).run Try.prog W = .ok (.string (sB (G ++ X ++ [35, 59, 40, 10]))) W := fun W => add_sB _ [35, 59, 40, 10] W (by simp only [List.length_append, List.length_cons, List.length_nil]; omega)
        obtain ⟨G1, hG1⟩ : ∃ A, sB (G ++ X) = A := ⟨_, rfl⟩
        rw [hG1] at ha1 ha2
        obtain ⟨G2, hG2⟩ : ∃ A, sB (G ++ X ++ [35, 59, 40, 10]) = A := ⟨_, rfl⟩
        rw [hG2] at ha2
        have HG2 := hide (show G2 = sB (drs zs 0 (T.take (k + 1))) by rw [hsx.out, hG2])
        have HLL := hide hlx.out
        clear hG1 hG2 hb hsx hlx
        obtain ⟨mb, mo, rfl, -, hm1⟩ := M3.out.at (by omega)
        have m1 := hm1 k hkm
        obtain ⟨y1, y2⟩ := getD_byte M3.out.byte k
        clear hm1
        generalize zs.getD k 0 = z at hz m1 y1 y2
        have hj1 : (k : Int) < nm := by omega
        cases L
        all_goals
          go_wp2_with fail
          go_round
          case rel => exact ⟨k + 1, by omega, by go_num, by rw [HG2.out], by rw [HLL.out]; rfl⟩
          case measure => simp [intOf]; omega
    · obtain rfl : k = n := by omega
      have HW0 : Hid (T.take k = T) := hide (List.take_of_length_le (by rw [Hn.out]; exact Nat.le_refl _))
      rw [HW0.out]
      have hAk := hide (ak_drs zs T 0 HGD.out)
      have hFl := HDl.out
      generalize drs zs 0 T = F at *
      have hFs : (sB F).size = F.length := by rw [← bs_len]
      have HPF := hide (fun w (hle : F.length ≤ 1024) => HP.out (sB F) w (by rw [bs_sB]; exact hAk.out) (by rw [hFs]; exact hle))
      have HPN := hide (fun w (hle : 1024 < F.length) => parse_long (s := sB F) (by rw [hFs]; exact hle) w)
      have hbr : bs ((⟨#[40]⟩ ++ s : ByteArray) ++ ⟨#[10, 41]⟩) = 40 :: (bs s ++ [10, 41]) := by rw [bs_add, bs_add]; rfl
      have hbz : ((⟨#[40]⟩ ++ s : ByteArray) ++ ⟨#[10, 41]⟩).size = s.size + 3 := by rw [← bs_len, hbr]; simp
      have hba := ak_par (ak_of HH.out).1
      rw [← hbr] at hba
      have HL1 := hide (fun w (hle : 1021 < s.size) => parse_long (s := (⟨#[40]⟩ ++ s : ByteArray) ++ ⟨#[10, 41]⟩) (by omega) w)
      have HL2 := hide (fun w (hle : lets T = true) => parse_bad' (s := (⟨#[40]⟩ ++ s : ByteArray) ++ ⟨#[10, 41]⟩) hba (par_no ((lets_mem HH.out).1 hle)) w)
      have HL3 := hide (fun w (h0 : ev = 0) (hle : lets T = false) (hs : s.size ≤ 1021) => HQ.out ((⟨#[40]⟩ ++ s : ByteArray) ++ ⟨#[10, 41]⟩) w h0 (fun hm => by rw [(lets_mem HH.out).2 hm] at hle; cases hle) hba (by omega))
      have hc1 : ∀ W, (Op.stringOp .add ⟨#[40]⟩ s).run Try.prog W = .ok (.string (⟨#[40]⟩ ++ s)) W := fun W => run_string_add_sum W _ _ (by rw [show (ByteArray.mk #[40]).size = 1 from rfl]; omega)
      have hs1 : ((⟨#[40]⟩ ++ s : ByteArray)).size = s.size + 1 := by rw [← bs_len, bs_add]; simp; omega
      have hc2 : ∀ W, (Op.stringOp .add (⟨#[40]⟩ ++ s) ⟨#[10, 41]⟩).run Try.prog W = .ok (.string ((⟨#[40]⟩ ++ s) ++ ⟨#[10, 41]⟩)) W := fun W => run_string_add_sum W _ _ (by rw [hs1, show (ByteArray.mk #[10, 41]).size = 2 from rfl]; omega)
      clear hbr hbz hba hAk HW0 HP HQ HGD HDl HTx4 HH M3 K3 hs1
      generalize ((⟨#[40]⟩ ++ s : ByteArray) ++ ⟨#[10, 41]⟩) = P at *
      generalize (⟨#[40]⟩ ++ s : ByteArray) = P0 at *
      generalize sB F = FB at *
      generalize F.length = fl at *
      generalize lets T = L at *
      clear F
      by_cases hbig : fl ≤ 1024
      · go_wp2_with fail
        refine (HPF.out _ hbig).mono ?_
        rintro e w4 ⟨na2, nc2, ba2, bc2, da2, dc2, rfl, hx, hi, hd, hb1⟩
        have hb0 := bel1 w4 (.cells (tr4 (.slice na2 NM.length nc2) (.slice ba2 BS.length bc2) (.slice da2 NS.length dc2) (.int .i64 root)) 26)
        have hb2 := bel hb1 hb0
        have HC4 := hide (HC3.out.below hb2)
        have HSM := hide (same_self (root := root) (X3.out.later hb2) (I3.out.later hb2) (D3.out.later hb2) (hx.later hb0) (hi.later hb0) (hd.later hb0))
        have X4 := hide (X3.out.later hb2)
        have I4 := hide (I3.out.later hb2)
        have D4 := hide (D3.out.later hb2)
        have B4 := hide (bel B3.out hb2)
        obtain ⟨y0, y1, y2, y3⟩ := facts4 HC4.out
        clear hb0 hb1 hb2 hx hi hd X3 I3 D3 B3 HC3 HPF HPN
        go_wp2_with fail
        refine (HSM.out).mono ?_
        rintro e w5 ⟨rfl, hb1⟩
        have HC5 := hide (HC4.out.below hb1)
        have X5 := hide (X4.out.later hb1)
        have I5 := hide (I4.out.later hb1)
        have D5 := hide (D4.out.later hb1)
        have B5 := hide (bel B4.out hb1)
        clear hb1 X4 I4 D4 B4 HC4 y0 y1 y2 y3 HSM
        cases L with
        | true =>
          go_wp2_with fail
          refine (HL2.out _ (by trivial)).mono ?_
          rintro e w6 ⟨rfl, hb1⟩
          have B6 := hide (bel (bel B5.out hb1) (bel1 w6 (.cells nil4 26)))
          obtain ⟨y0, y1, y2, y3⟩ := facts4 (HasC.new w6 26 nil4)
          clear hb1 B5
          go_wp2_with fail
          go_ret
          exact ⟨rfl, B6.out⟩
        | false =>
          by_cases hlong : 1021 < s.size
          · have hl1 : (1021 : Int) < s.size := by omega
            go_wp2_with fail
            refine (HL1.out _ hlong).mono ?_
            rintro e w6 ⟨rfl, hb1⟩
            have B6 := hide (bel (bel B5.out hb1) (bel1 w6 (.cells nil4 26)))
            obtain ⟨y0, y1, y2, y3⟩ := facts4 (HasC.new w6 26 nil4)
            clear hb1 B5
            go_wp2_with fail
            go_ret
            exact ⟨rfl, B6.out⟩
          · have hl1 : ¬ (1021 : Int) < s.size := by omega
            rcases hev with rfl | rfl
            · go_wp2_with fail
              refine (HL3.out _ (by trivial) (by trivial) (by omega)).mono ?_
              rintro e w6 ⟨na3, nc3, ba3, bc3, da3, dc3, rfl, hx, hi, hd, hb1⟩
              have hb0 := bel1 w6 (.cells (tr4 (.slice na3 NM.length nc3) (.slice ba3 BS.length bc3) (.slice da3 NS.length dc3) (.int .i64 root)) 26)
              have hb2 := bel hb1 hb0
              have HSN := hide (same_self (root := root) (hx.later hb0) (hi.later hb0) (hd.later hb0) (X5.out.later hb2) (I5.out.later hb2) (D5.out.later hb2))
              have B6 := hide (bel B5.out hb2)
              obtain ⟨y0, y1, y2, y3⟩ := facts4 (HC5.out.below hb2)
              clear hb0 hb1 hb2 hx hi hd X5 I5 D5 B5 HC5
              go_wp2_with fail
              refine (HSN.out).mono ?_
              rintro e w7 ⟨rfl, hb1⟩
              have B7 := hide (bel B6.out hb1)
              clear hb1 B6
              go_wp2_with fail
              go_ret
              exact ⟨rfl, B7.out⟩
            · go_wp2_with fail
              refine (parse_read _ _).mono ?_
              rintro e w6 (⟨rfl, hb1, -⟩ | ⟨T3, NM3, es3, ex3, na3, nc3, ba3, bc3, da3, dc3, -, -, -, -, rfl, -, -, -, hb1⟩)
              all_goals
                have B6 := hide (bel B5.out hb1)
                clear hb1 B5
                go_wp2_with fail
                go_ret
                exact ⟨rfl, bel B6.out (bel1 _ _)⟩
      · have hbig2 : ¬ (fl : Int) ≤ 1024 := by omega
        go_wp2_with fail
        refine (HPN.out _ (by omega)).mono ?_
        rintro e w5 ⟨rfl, hb1⟩
        have hb0 := bel1 w5 (.cells nil4 26)
        have hb2 := bel hb1 hb0
        have HC5 := hide (HC3.out.below hb2)
        have X5 := hide (X3.out.later hb2)
        have I5 := hide (I3.out.later hb2)
        have D5 := hide (D3.out.later hb2)
        have B5 := hide (bel B3.out hb2)
        clear hb0 hb1 hb2 X3 I3 D3 B3 HC3 HPF HPN
        cases L with
        | true =>
          go_wp2_with fail
          refine (HL2.out _ (by trivial)).mono ?_
          rintro e w6 ⟨rfl, hb1⟩
          have B6 := hide (bel (bel B5.out hb1) (bel1 w6 (.cells nil4 26)))
          obtain ⟨y0, y1, y2, y3⟩ := facts4 (HasC.new w6 26 nil4)
          clear hb1 B5
          go_wp2_with fail
          go_ret
          exact ⟨rfl, B6.out⟩
        | false =>
          by_cases hlong : 1021 < s.size
          · have hl1 : (1021 : Int) < s.size := by omega
            go_wp2_with fail
            refine (HL1.out _ hlong).mono ?_
            rintro e w6 ⟨rfl, hb1⟩
            have B6 := hide (bel (bel B5.out hb1) (bel1 w6 (.cells nil4 26)))
            obtain ⟨y0, y1, y2, y3⟩ := facts4 (HasC.new w6 26 nil4)
            clear hb1 B5
            go_wp2_with fail
            go_ret
            exact ⟨rfl, B6.out⟩
          · have hl1 : ¬ (1021 : Int) < s.size := by omega
            rcases hev with rfl | rfl
            · go_wp2_with fail
              refine (HL3.out _ (by trivial) (by trivial) (by omega)).mono ?_
              rintro e w6 ⟨na3, nc3, ba3, bc3, da3, dc3, rfl, hx, hi, hd, hb1⟩
              have hb0 := bel1 w6 (.cells (tr4 (.slice na3 NM.length nc3) (.slice ba3 BS.length bc3) (.slice da3 NS.length dc3) (.int .i64 root)) 26)
              have hb2 := bel hb1 hb0
              have HSN := hide (same_self (root := root) (hx.later hb0) (hi.later hb0) (hd.later hb0) (X5.out.later hb2) (I5.out.later hb2) (D5.out.later hb2))
              have B6 := hide (bel B5.out hb2)
              obtain ⟨y0, y1, y2, y3⟩ := facts4 (HC5.out.below hb2)
              clear hb0 hb1 hb2 hx hi hd X5 I5 D5 B5 HC5
              go_wp2_with fail
              refine (HSN.out).mono ?_
              rintro e w7 ⟨rfl, hb1⟩
              have B7 := hide (bel B6.out hb1)
              clear hb1 B6
              go_wp2_with fail
              go_ret
              exact ⟨rfl, B7.out⟩
            · go_wp2_with fail
              refine (parse_read _ _).mono ?_
              rintro e w6 (⟨rfl, hb1, -⟩ | ⟨T3, NM3, es3, ex3, na3, nc3, ba3, bc3, da3, dc3, -, -, -, -, rfl, -, -, -, hb1⟩)
              all_goals
                have B6 := hide (bel B5.out hb1)
                clear hb1 B5
                go_wp2_with fail
                go_ret
                exact ⟨rfl, bel B6.out (bel1 _ _)⟩

theorem dress_walk (s : ByteArray) (am : Option Addr) (nm cm : Nat) (zs : List Int) (w : World) (hs : s.size ≤ maxLen) (hM : Bytes w am nm cm zs) :
    Calls Try.prog 7 #[.string s, .slice am nm cm] w fun e w' => e = .returned (.bool true) ∧ Below w.heap.size w w' := by
  cases h : tks (bs s) with
  | none => exact dress_none s am nm cm w h
  | some T => exact dress_some s am nm cm zs T w h hM

end Go.Proofs.Ytamekjocchekoaa

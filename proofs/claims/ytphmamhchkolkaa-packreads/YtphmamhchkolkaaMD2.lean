/-
  The document's reader: its state; small, natural, number, back.
-/
import Derived.Test.YtphmamhchkolkaaMN3
import Derived.Test.YtphmamhchkolkaaMOcRead
namespace Go.Proofs.Pck
open Ytphmamhchkolkaa
open Go.RowKit Go.IntWalk Ytphmamhchkolkaa.Knd
open Ytphmamhchkolkaa.Oct (vb vint lim scn scan pw rdU rdI zz uz)
open Cde (In i0 ia cd below_drew)
set_option linter.unusedVariables false

/-- The document's reader in the block q: the error, what is left. -/
def Tk (B : Nat) (V : World) (q : Nat) (e : Int) (zs : List Int) : Prop := B ≤ q ∧ ∃ a n c, HasC V q 69 #[.slice a n c, .int .i64 e] ∧ Ocm.Bytes V a n c zs ∧ ∀ x, a = some x → n ≠ 0 → x.block < B
theorem Tk.below {B : Nat} {V V' : World} {q : Nat} {e : Int} {zs : List Int} (h : Tk B V q e zs) (hb : Below V.heap.size V V') : Tk B V' q e zs := by
  obtain ⟨hq, a, n, c, h1, h2, h3⟩ := h
  exact ⟨hq, a, n, c, h1.below hb, h2.later hb, h3⟩
theorem Tk.byts {B : Nat} {V : World} {q : Nat} {e : Int} {zs : List Int} (h : Tk B V q e zs) : Byts zs := by
  obtain ⟨-, a, n, c, -, h2, -⟩ := h
  exact h2.byte
theorem Tk.box {B : Nat} {V : World} {q : Nat} {e : Int} {zs : List Int} (h : Tk B V q e zs) : ∃ v, HasC V q 69 #[v, .int .i64 e] := by
  obtain ⟨-, a, n, c, h1, -, -⟩ := h
  exact ⟨_, h1⟩
theorem Tk.free {B : Nat} {V V' : World} {q : Nat} {e : Int} {zs : List Int} {S : Nat → Prop} (h : Tk B V q e zs) (hk : Ocm.Keeps V V' S) (hS : ¬ S q) (hB : ∀ k, k < B → ¬ S k) : Tk B V' q e zs := by
  obtain ⟨hq, a, n, c, h1, h2, h3⟩ := h
  refine ⟨hq, a, n, c, Keeps.has hk h1 hS, h2.of_cells fun b off ha hn i hi => ?_, h3⟩
  obtain ⟨b', off', e1, hlt, -⟩ := h2.at hn
  rw [ha] at e1
  cases e1
  exact hk.cell (p := ⟨b, off + i, none⟩) hlt (hB b (h3 _ ha hn))
def Oq (q k : Nat) : Prop := k = q
theorem bytes_other {V : World} {a : Option Addr} {n c q i : Nat} {zs : List Int} (h : Ocm.Bytes V a n c zs) (hf : ∀ x, a = some x → n ≠ 0 → x.block ≠ q) (u : Value) : Ocm.Bytes (V.setCell ⟨q, i, none⟩ u) a n c zs :=
  h.kept (Ocm.grownBy_setCell V ⟨q, i, none⟩ u) fun x hx hn e => hf x hx hn (by simpa using e)
theorem keeps_set (V : World) (q i : Nat) (u : Value) : Ocm.Keeps V (V.setCell ⟨q, i, none⟩ u) (Oq q) := (Ocm.Keeps.refl V _).grown (Ocm.grownBy_setCell V ⟨q, i, none⟩ u) fun k hk => by cases hk; exact .inl rfl
/-- The error is set. -/
theorem Tk.err {B : Nat} {V : World} {q : Nat} {e : Int} {zs : List Int} (h : Tk B V q e zs) (x : Int) : Tk B (V.setCell ⟨q, 1, none⟩ (.int .i64 x)) q x zs := by
  obtain ⟨hq, a, n, c, h1, h2, h3⟩ := h
  exact ⟨hq, a, n, c, h1.set 1 (.int .i64 x), bytes_other h2 (fun x hx hn => by have := h3 x hx hn; omega) _, h3⟩
/-- What is left behind the first m bytes. -/
theorem bytes_on {V : World} {a a' : Option Addr} {n c m c' : Nat} {zs : List Int} (h : Ocm.Bytes V a n c zs) (hm : m ≤ n) (h1 : n - m ≤ c') (h2 : c' ≤ c) (hn : a' = none → c' = 0) (ha : n - m = 0 ∨ ∃ b off, a = some ⟨b, off, none⟩ ∧ a' = some ⟨b, off + m, none⟩) : Ocm.Bytes V a' (n - m) c' (zs.drop m) := by
  have hl := h.len
  refine ⟨by simp [hl], h1, Nat.le_trans h2 h.max, hn, fun z hz => h.byte z (List.mem_of_mem_drop hz), ?_⟩
  rcases ha with h0 | ⟨b, off, rfl, rfl⟩
  · exact .inl h0
  · by_cases h0 : n - m = 0
    · exact .inl h0
    · obtain ⟨b', o', e, -, hc⟩ := h.at (by omega)
      cases e
      refine .inr ⟨b, off + m, rfl, fun i hi => ?_⟩
      rw [Nat.add_assoc, hc (m + i) (by omega)]
      simp [List.getD]
theorem Tk.move {B : Nat} {V : World} {q n c m n' c' : Nat} {e : Int} {zs : List Int} {a a' : Option Addr} (h1 : HasC V q 69 #[.slice a n c, .int .i64 e]) (h2 : Ocm.Bytes V a n c zs) (hq : B ≤ q) (h3 : ∀ x, a = some x → n ≠ 0 → x.block < B)
    (hm : m ≤ n) (hn' : n' = n - m) (k1 : n - m ≤ c') (k2 : c' ≤ c) (hn : a' = none → c' = 0) (ha : n - m = 0 ∨ ∃ b off, a = some ⟨b, off, none⟩ ∧ a' = some ⟨b, off + m, none⟩) : Tk B (V.setCell ⟨q, 0, none⟩ (.slice a' n' c')) q e (zs.drop m) := by
  subst hn'
  have hB := bytes_on h2 hm k1 k2 hn ha
  have hf : ∀ x, a' = some x → n - m ≠ 0 → x.block < B := fun x hx h0 => by
    rcases ha with h | ⟨b, off, rfl, rfl⟩
    · exact absurd h h0
    · cases hx
      have h4 := h3 (⟨b, off, none⟩ : Addr) rfl (by omega)
      exact h4
  exact ⟨hq, a', n - m, c', h1.set 0 (.slice a' (n - m) c'), bytes_other hB (fun x hx hn => by have := hf x hx hn; omega) _, hf⟩
/-- What a call of the reader answers. -/
def TO (B : Nat) (p : Rd Int) (V : World) (q : Nat) (e : Int) (zs : List Int) (en : Ending) (V' : World) : Prop := ∃ x e' zs', en = .returned (.int .i64 x) ∧ Tk B V' q e' zs' ∧ Ocm.Keeps V V' (Oq q) ∧ Out p e zs x e' zs'
def TN (B : Nat) (V : World) (q : Nat) (e : Int) (zs : List Int) (en : Ending) (V' : World) : Prop := ∃ x e' zs', en = .returned (.int .i64 x) ∧ Tk B V' q e' zs' ∧ Ocm.Keeps V V' (Oq q) ∧ Out nat e zs x e' zs' ∧ 0 ≤ x ∧ x ≤ 9223372036854775807

set_option maxRecDepth 100000 in
set_option maxHeartbeats 1000000 in
theorem small_any {B : Nat} {V : World} {q : Nat} {e : Int} {zs : List Int} (h : Tk B V q e zs) : Calls Try.prog 36 #[pt q] V (TO B byt V q e zs) := by
  obtain ⟨hqB, a, n, c, h1, h2, h3⟩ := id h
  have c0 := h1.cell 0 rfl
  have c1 := h1.cell 1 rfl
  have y0 := h1.frozen 0
  have y1 := h1.frozen 1
  have HT := hide h
  have H1 := hide h1
  have H2 := hide h2
  have H3 := hide h3
  have hle := h2.le
  have hmx : c ≤ 9223372036854775807 := by have := h2.max; unfold maxLen at this; omega
  have HL := hide h2.len
  clear h h1 h3
  by_cases he : e = 0
  · subst he
    rcases zs with _ | ⟨z, zs⟩
    · have hn : n = 0 := by rw [← HL.out]; rfl
      subst hn
      clear h2
      go_enter Try.func36, Try.ntmps36
      go_wp2_with fail
      go_ret
      exact ⟨_, _, _, rfl, HT.out.err 2, keeps_set _ _ _ _, ⟨fun h => absurd rfl h, fun _ => ⟨rfl, fun h => by cases h⟩⟩⟩
    · have hn1 : 1 ≤ n := by rw [← HL.out]; simp
      obtain ⟨b, off, rfl, hb, hc⟩ := h2.at (by omega)
      have g0 := hc 0 (by omega)
      simp at g0
      obtain ⟨z0, z1⟩ := h2.byte z (by simp)
      have hne : b ≠ q := by have h4 := H3.out (⟨b, off, none⟩ : Addr) rfl (by omega); dsimp only at h4; omega
      have hne2 : q ≠ b := fun e => hne e.symm
      have hn0 : ((n : Int) == 0) = false := by simp; omega
      have hnp : 0 < n := by omega
      clear hc h2
      go_enter Try.func36, Try.ntmps36
      go_wp2_with fail
      all_goals go_ret
      · exact ⟨_, _, _, rfl, Tk.move (m := 1) H1.out H2.out hqB H3.out hn1 rfl (by omega) (by omega) (fun h => by cases h) (.inl (by omega)), keeps_set _ _ _ _, ⟨fun h => absurd rfl h, fun _ => ⟨rfl, fun _ => ⟨rfl, rfl⟩⟩⟩⟩
      · exact ⟨_, _, _, rfl, Tk.move (m := 1) H1.out H2.out hqB H3.out hn1 rfl (by omega) (by omega) (fun h => by cases h) (.inr ⟨_, _, rfl, rfl⟩), keeps_set _ _ _ _, ⟨fun h => absurd rfl h, fun _ => ⟨rfl, fun _ => ⟨rfl, rfl⟩⟩⟩⟩
  · have j : (e != 0) = true := by simpa using he
    have HE := hide he
    clear he h2
    go_enter Try.func36, Try.ntmps36
    go_wp2_with fail
    go_ret
    exact ⟨_, _, _, rfl, HT.out, Ocm.Keeps.refl _ _, Out.skip _ HE.out _ _ _⟩

theorem rdU_le {zs : List Int} (hb : Byts zs) : (rdU zs).2.1 ≤ zs.length := by
  unfold rdU
  rcases Oct.scan_cases zs hb with ⟨X, hs, -, -, hl, -⟩ | hs | hs
  · rw [hs]
    simp only [if_true]
    split
    · exact Nat.zero_le _
    · simpa using hl
  · rw [hs]; simp
  · rw [hs]; simp
theorem rdI_le {zs : List Int} (hb : Byts zs) : (rdI zs).2.1 ≤ zs.length := by
  unfold rdI
  rcases Oct.scan_cases zs hb with ⟨X, hs, -, -, hl, -⟩ | hs | hs
  · rw [hs]
    simpa using hl
  · rw [hs]; simp
  · rw [hs]; simp

set_option maxRecDepth 100000 in
set_option maxHeartbeats 1000000 in
theorem rnatural_any {B : Nat} {V : World} {q : Nat} {e : Int} {zs : List Int} (h : Tk B V q e zs) : Calls Try.prog 37 #[pt q] V (TN B V q e zs) := by
  obtain ⟨hqB, a, n, c, h1, h2, h3⟩ := id h
  have c0 := h1.cell 0 rfl
  have c1 := h1.cell 1 rfl
  have y0 := h1.frozen 0
  have y1 := h1.frozen 1
  have HT := hide h
  have H1 := hide h1
  have H2 := hide h2
  have H3 := hide h3
  have hle := h2.le
  have hmx : c ≤ 9223372036854775807 := by have := h2.max; unfold maxLen at this; omega
  have hL := h2.len
  by_cases he : e = 0
  · subst he
    have HR := hide (Ocm.readUint_any a n c zs V h2)
    have hm := rdU_le h2.byte
    have hxr : 0 ≤ (rdU zs).1 ∧ (rdU zs).1 ≤ 9223372036854775807 := nat_rng h2.byte
    rw [hL] at hm
    have HO : Hid (∀ e' zs', e' = (rdU zs).2.2 → zs' = zs.drop (rdU zs).2.1 → Out nat 0 zs (rdU zs).1 e' zs') := hide fun e' zs' h1 h2 => ⟨fun h => absurd rfl h, fun _ => ⟨h1, fun _ => ⟨rfl, h2⟩⟩⟩
    generalize (rdU zs).1 = x at *
    generalize (rdU zs).2.1 = m at *
    generalize (rdU zs).2.2 = er at *
    have HF : Hid (∀ V', Tk B V' q er (zs.drop m) → Ocm.Keeps V V' (Oq q) → TN B V q 0 zs (.returned (.int .i64 x)) V') := hide fun V' h1 h2 => ⟨_, _, _, rfl, h1, h2, HO.out _ _ rfl rfl, hxr.1, hxr.2⟩
    have HK : Hid (∀ u, Ocm.Keeps V ((V.setCell ⟨q, 1, none⟩ (.int .i64 er)).setCell ⟨q, 0, none⟩ u) (Oq q)) := hide fun u => Keeps.trans (keeps_set _ _ _ _) (keeps_set _ _ _ _)
    have K1 := hide (h1.set 1 (.int .i64 er))
    have K2 := hide (bytes_other (q := q) (i := 1) h2 (fun x hx hn => by have := h3 x hx hn; omega) (.int .i64 er))
    clear h h1 h3 HT HO hL
    rcases a with _ | x0
    · have hc := h2.nil rfl
      have hn0 : n = 0 := by omega
      have hm0 : m = 0 := by omega
      subst hc hn0 hm0
      clear h2
      go_enter Try.func37, Try.ntmps37
      go_wp2_with fail
      refine HR.out.mono ?_
      rintro en w1 ⟨rfl, rfl⟩
      go_wp2_with fail
      go_ret
      exact HF.out _ (Tk.move K1.out K2.out hqB H3.out (Nat.le_refl _) rfl (Nat.le_refl _) (Nat.le_refl _) (fun _ => rfl) (.inl rfl)) (HK.out _)
    · by_cases hn0 : n = 0
      · have hm0 : m = 0 := by omega
        subst hn0 hm0
        clear h2
        go_enter Try.func37, Try.ntmps37
        go_wp2_with fail
        refine HR.out.mono ?_
        rintro en w1 ⟨rfl, rfl⟩
        go_wp2_with fail
        all_goals
          go_ret
          exact HF.out _ (Tk.move K1.out K2.out hqB H3.out (Nat.le_refl _) rfl (by omega) (by omega) (fun h => by first | (cases h; done) | omega) (.inl rfl)) (HK.out _)
      · obtain ⟨b, off, e0, -, -⟩ := h2.at hn0
        cases e0
        clear h2
        go_enter Try.func37, Try.ntmps37
        go_wp2_with fail
        refine HR.out.mono ?_
        rintro en w1 ⟨rfl, rfl⟩
        go_wp2_with fail
        all_goals go_ret
        · exact HF.out _ (Tk.move K1.out K2.out hqB H3.out hm rfl (by omega) (by omega) (fun h => by cases h) (.inl (by omega))) (HK.out _)
        · exact HF.out _ (Tk.move K1.out K2.out hqB H3.out hm rfl (by omega) (by omega) (fun h => by cases h) (.inr ⟨_, _, rfl, rfl⟩)) (HK.out _)
  · have j : (e != 0) = true := by simpa using he
    have HE := hide he
    clear he h h1 h2 h3 hL
    go_enter Try.func37, Try.ntmps37
    go_wp2_with fail
    go_ret
    exact ⟨_, _, _, rfl, HT.out, Ocm.Keeps.refl _ _, Out.skip _ HE.out _ _ _, Int.le_refl _, by decide⟩

set_option maxRecDepth 100000 in
set_option maxHeartbeats 1000000 in
theorem rnumber_any {B : Nat} {V : World} {q : Nat} {e : Int} {zs : List Int} (h : Tk B V q e zs) : Calls Try.prog 40 #[pt q] V (TO B num V q e zs) := by
  obtain ⟨hqB, a, n, c, h1, h2, h3⟩ := id h
  have c0 := h1.cell 0 rfl
  have c1 := h1.cell 1 rfl
  have y0 := h1.frozen 0
  have y1 := h1.frozen 1
  have HT := hide h
  have H1 := hide h1
  have H2 := hide h2
  have H3 := hide h3
  have hle := h2.le
  have hmx : c ≤ 9223372036854775807 := by have := h2.max; unfold maxLen at this; omega
  have hL := h2.len
  by_cases he : e = 0
  · subst he
    have HR := hide (Ocm.readInt_any a n c zs V h2)
    have hm := rdI_le h2.byte
    rw [hL] at hm
    have HO : Hid (∀ e' zs', e' = (rdI zs).2.2 → zs' = zs.drop (rdI zs).2.1 → Out num 0 zs (rdI zs).1 e' zs') := hide fun e' zs' h1 h2 => ⟨fun h => absurd rfl h, fun _ => ⟨h1, fun _ => ⟨rfl, h2⟩⟩⟩
    generalize (rdI zs).1 = x at *
    generalize (rdI zs).2.1 = m at *
    generalize (rdI zs).2.2 = er at *
    have HF : Hid (∀ V', Tk B V' q er (zs.drop m) → Ocm.Keeps V V' (Oq q) → TO B num V q 0 zs (.returned (.int .i64 x)) V') := hide fun V' h1 h2 => ⟨_, _, _, rfl, h1, h2, HO.out _ _ rfl rfl⟩
    have HK : Hid (∀ u, Ocm.Keeps V ((V.setCell ⟨q, 1, none⟩ (.int .i64 er)).setCell ⟨q, 0, none⟩ u) (Oq q)) := hide fun u => Keeps.trans (keeps_set _ _ _ _) (keeps_set _ _ _ _)
    have K1 := hide (h1.set 1 (.int .i64 er))
    have K2 := hide (bytes_other (q := q) (i := 1) h2 (fun x hx hn => by have := h3 x hx hn; omega) (.int .i64 er))
    clear h h1 h3 HT HO hL
    rcases a with _ | x0
    · have hc := h2.nil rfl
      have hn0 : n = 0 := by omega
      have hm0 : m = 0 := by omega
      subst hc hn0 hm0
      clear h2
      go_enter Try.func40, Try.ntmps40
      go_wp2_with fail
      refine HR.out.mono ?_
      rintro en w1 ⟨rfl, rfl⟩
      go_wp2_with fail
      go_ret
      exact HF.out _ (Tk.move K1.out K2.out hqB H3.out (Nat.le_refl _) rfl (Nat.le_refl _) (Nat.le_refl _) (fun _ => rfl) (.inl rfl)) (HK.out _)
    · by_cases hn0 : n = 0
      · have hm0 : m = 0 := by omega
        subst hn0 hm0
        clear h2
        go_enter Try.func40, Try.ntmps40
        go_wp2_with fail
        refine HR.out.mono ?_
        rintro en w1 ⟨rfl, rfl⟩
        go_wp2_with fail
        all_goals
          go_ret
          exact HF.out _ (Tk.move K1.out K2.out hqB H3.out (Nat.le_refl _) rfl (by omega) (by omega) (fun h => by first | (cases h; done) | omega) (.inl rfl)) (HK.out _)
      · obtain ⟨b, off, e0, -, -⟩ := h2.at hn0
        cases e0
        clear h2
        go_enter Try.func40, Try.ntmps40
        go_wp2_with fail
        refine HR.out.mono ?_
        rintro en w1 ⟨rfl, rfl⟩
        go_wp2_with fail
        all_goals go_ret
        · exact HF.out _ (Tk.move K1.out K2.out hqB H3.out hm rfl (by omega) (by omega) (fun h => by cases h) (.inl (by omega))) (HK.out _)
        · exact HF.out _ (Tk.move K1.out K2.out hqB H3.out hm rfl (by omega) (by omega) (fun h => by cases h) (.inr ⟨_, _, rfl, rfl⟩)) (HK.out _)
  · have j : (e != 0) = true := by simpa using he
    have HE := hide he
    clear he h h1 h2 h3 hL
    go_enter Try.func40, Try.ntmps40
    go_wp2_with fail
    go_ret
    exact ⟨_, _, _, rfl, HT.out, Ocm.Keeps.refl _ _, Out.skip _ HE.out _ _ _⟩

set_option maxRecDepth 100000 in
set_option maxHeartbeats 1000000 in
theorem back_any (t : Int) (h0 : 0 ≤ t) (h1 : t ≤ 9223372036854775807) {B : Nat} {V : World} {q : Nat} {e : Int} {zs : List Int} (h : Tk B V q e zs) : Calls Try.prog 39 #[pt q, .int .i64 t] V (TO B (bck t) V q e zs) := by
  have HN := hide (rnatural_any h)
  clear h
  go_enter Try.func39, Try.ntmps39
  go_wp2_with fail
  refine HN.out.mono ?_
  rintro en w1 ⟨x, e1, z1, rfl, hT, hK, hO, x0, x1⟩
  obtain ⟨v, hb⟩ := hT.box
  have c1 := hb.cell 1 rfl
  have y1 := hb.frozen 1
  have HT := hide hT
  have HK := hide hK
  have HO := hide hO
  clear hT hK hO hb HN
  by_cases he : e1 = 0
  · subst he
    by_cases hx : t - 1 < x
    · have hB : decide (x ≤ t - 1) = false := by simp; omega
      have HB := hide hB
      clear hB
      go_wp2_with fail
      go_ret
      refine ⟨_, _, _, rfl, HT.out.err 15, Keeps.trans HK.out (keeps_set _ _ _ _), HO.out.bnd (Out.tst ?_ (by decide) (Out.ret _ _ _))⟩
      rw [HB.out]; rfl
    · have hB : decide (x ≤ t - 1) = true := by simp; omega
      have HB := hide hB
      clear hB
      go_wp2_with fail
      go_ret
      refine ⟨_, _, _, rfl, HT.out, HK.out, HO.out.bnd (Out.tst ?_ (by decide) (Out.ret _ _ _))⟩
      rw [HB.out]; rfl
  · have j : (e1 == 0) = false := by simpa using he
    have HE := hide he
    clear he
    go_wp2_with fail
    go_ret
    exact ⟨_, _, _, rfl, HT.out, HK.out, HO.out.bnd (Out.skip _ HE.out _ _ _)⟩

end Go.Proofs.Pck

/-
  pack's reader: its state; hold, take, register.
-/
import Derived.Test.YtphmamhchkolkaaMT2
import Derived.Test.YtphmamhchkolkaaMOcReader2
import Derived.Test.YtphmamhchkolkaaMOcAppend
import Derived.Test.YtphmamhchkolkaaMCdC
import Derived.Laws.EntriesVeiled
namespace Go.Proofs.Pck
open Ytphmamhchkolkaa
open Go.RowKit Go.IntWalk Ytphmamhchkolkaa.Knd
open Ytphmamhchkolkaa.Oct (vb vint lim scn scan pw rdU rdI zz uz)
open Cde (In i0 ia agL arN okI okT mcB csB rgN rgs rgB)
set_option linter.unusedVariables false

abbrev pt (b : Nat) : Value := .pointer (some ⟨b, 0, none⟩)
/-- The first error. -/
def fs (e x : Int) : Int := if e = 0 then x else e
theorem fs_zero (x : Int) : fs 0 x = x := rfl
theorem fs_bad {e : Int} (h : e ≠ 0) (x : Int) : fs e x = e := if_neg h
/-- What a call leaves of the error e and the bytes zs, where p is what is read. -/
def Out {α : Type} (p : Rd α) (e : Int) (zs : List Int) (x : α) (e' : Int) (zs' : List Int) : Prop := (e ≠ 0 → e' = e) ∧ (e = 0 → e' = (p zs).1 ∧ (e' = 0 → x = (p zs).2.1 ∧ zs' = (p zs).2.2))
theorem Out.ret {α : Type} (x : α) (e : Int) (zs : List Int) : Out (ret x) e zs x e zs := ⟨fun _ => rfl, fun h => ⟨h, fun _ => ⟨rfl, rfl⟩⟩⟩
theorem Out.skip {α : Type} (p : Rd α) {e : Int} (h : e ≠ 0) (zs zs' : List Int) (x : α) : Out p e zs x e zs' := ⟨fun _ => rfl, fun h' => absurd h' h⟩
theorem Out.read {α : Type} (p : Rd α) (e : Int) (zs : List Int) : Out p e zs (p zs).2.1 (fs e (p zs).1) (p zs).2.2 := ⟨fun h => fs_bad h _, fun h => by subst h; exact ⟨rfl, fun _ => ⟨rfl, rfl⟩⟩⟩
theorem Out.bnd {α β : Type} {z : β} {p : Rd α} {f : α → Rd β} {e e1 e2 : Int} {zs z1 z2 : List Int} {x : α} {y : β} (h : Out p e zs x e1 z1) (k : Out (f x) e1 z1 y e2 z2) : Out (bnd z p f) e zs y e2 z2 := by
  refine ⟨fun he => ?_, fun he => ?_⟩
  · have h1 := h.1 he
    rw [h1] at k
    exact k.1 he
  · obtain ⟨h1, h2⟩ := h.2 he
    unfold Pck.bnd
    by_cases h0 : e1 = 0
    · obtain ⟨hx, hz⟩ := h2 h0
      rw [if_pos (h1 ▸ h0), ← hx, ← hz]
      exact k.2 h0
    · have := k.1 h0
      rw [if_neg (h1 ▸ h0)]
      exact ⟨this.trans h1, fun h' => absurd (this ▸ h') h0⟩
theorem Out.map {α β : Type} {z : β} {p : Rd α} {f : α → β} {e e1 : Int} {zs z1 : List Int} {x : α} (h : Out p e zs x e1 z1) : Out (Pck.bnd z p fun a => Pck.ret (f a)) e zs (f x) e1 z1 := h.bnd (Out.ret _ _ _)
/-- A test behind a reading. -/
theorem Out.tst {β : Type} {z : β} {b : Bool} {er : Int} {f : Rd β} {e1 e2 e3 : Int} {z1 z2 : List Int} {y : β} (he2 : e2 = if b = true then e1 else fs e1 er) (her : er ≠ 0) (k : Out f e2 z1 y e3 z2) : Out (Pck.tst z b er f) e1 z1 y e3 z2 := by
  refine ⟨fun he => ?_, fun he => ?_⟩
  · have h2 : e2 = e1 := by
      rw [he2]; split
      · rfl
      · exact fs_bad he _
    rw [h2] at k
    exact k.1 he
  · subst he
    unfold Pck.tst
    split at he2
    · subst he2
      rename_i hb
      rw [if_pos hb]
      exact k.2 rfl
    · subst he2
      rename_i hb
      rw [if_neg hb]
      exact ⟨k.1 her, fun h' => absurd ((k.1 her).symm.trans h') her⟩

/-- Which blocks a reading writes. -/
def Qr (q r : Nat) (k : Nat) : Prop := k = q ∨ k = r
theorem Keeps.trans {w w1 w2 : World} {S : Nat → Prop} (h : Ocm.Keeps w w1 S) (k : Ocm.Keeps w1 w2 S) : Ocm.Keeps w w2 S :=
  ⟨k.os.trans h.os, k.tape.trans h.tape, k.output.trans h.output, Nat.le_trans h.size k.size, fun j hj hS => (k.block j (Nat.lt_of_lt_of_le hj h.size) hS).trans (h.block j hj hS)⟩
theorem Keeps.of_below {w w' : World} {S : Nat → Prop} (h : Below w.heap.size w w') : Ocm.Keeps w w' S := ⟨h.os, h.tape, h.output, h.size, fun k hk _ => h.block k hk⟩
theorem Keeps.has {w w' : World} {S : Nat → Prop} (h : Ocm.Keeps w w' S) {b : Nat} {t : TypeId} {cs : Array Value} (hc : HasC w b t cs) (hS : ¬ S b) : HasC w' b t cs := (h.block b hc.lt hS).trans hc
theorem Keeps.own {w w' : World} {S : Nat → Prop} (h : Ocm.Keeps w w' S) {base n : Nat} {e : TypeId} {size : Nat} {v : Value} {xs : List Value} (ho : w.ownsRow base e size v n xs) (hS : ∀ k, v.ownBlock = some k → ¬ S k) : w'.ownsRow base e size v n xs := by
  obtain ⟨h1, h2⟩ := ho
  refine ⟨h1, ?_⟩
  rcases h2 with h2 | ⟨g, cap, cur, hv, hb, hg, rest⟩
  · exact .inl h2
  · refine .inr ⟨g, cap, cur, hv, hb, ?_, rest⟩
    rw [h.block g (Array.getElem?_eq_some_iff.1 hg).1 (hS g (by subst hv; rfl))]
    exact hg

/-- pack's reader in the block q, octet's in the block r: the first error, what is left. -/
structure Rp (w : World) (q r g : Nat) (e : Int) (zs : List Int) : Prop where
  box : HasC w q 63 #[pt r, .int .i64 e]
  rd : Ocm.Rd w r g zs
  ne : q ≠ r ∧ q ≠ g
theorem Rp.below {w w' : World} {q r g : Nat} {e : Int} {zs : List Int} (h : Rp w q r g e zs) (hb : Below w.heap.size w w') : Rp w' q r g e zs := ⟨h.box.below hb, h.rd.later hb, h.ne⟩
theorem Rp.byts {w : World} {q r g : Nat} {e : Int} {zs : List Int} (h : Rp w q r g e zs) : Byts zs := by
  obtain ⟨off, n, c, -, hb, -⟩ := h.rd
  exact hb.byte
theorem Rp.put {w : World} {q r g : Nat} {e : Int} {zs : List Int} (h : Rp w q r g e zs) (x : Int) : Rp (w.setCell ⟨q, 1, none⟩ (.int .i64 x)) q r g x zs ∧ Ocm.Keeps w (w.setCell ⟨q, 1, none⟩ (.int .i64 x)) (Qr q r) :=
  ⟨⟨h.box.set 1 (.int .i64 x), h.rd.kept (Ocm.grownBy_setCell w ⟨q, 1, none⟩ _) (by simpa using h.ne.1.symm) (by simpa using h.ne.2.symm), h.ne⟩,
    (Ocm.Keeps.refl w _).grown (Ocm.grownBy_setCell w ⟨q, 1, none⟩ _) fun k hk => by cases hk; exact .inl (.inl rfl)⟩
theorem Rp.read {w w' : World} {q r g : Nat} {e : Int} {zs zs' : List Int} (h : Rp w q r g e zs) (hr : Ocm.Rd w' r g zs') (hg : w.grownBy w' (some r)) : Rp w' q r g e zs' ∧ Ocm.Keeps w w' (Qr q r) :=
  ⟨⟨h.box.kept hg (by simpa using h.ne.1), hr, h.ne⟩, (Ocm.Keeps.refl w _).grown hg fun k hk => by cases hk; exact .inl (.inr rfl)⟩
theorem Rp.keeps {w w' : World} {q r g : Nat} {e : Int} {zs : List Int} {S : Nat → Prop} (h : Rp w q r g e zs) (hk : Ocm.Keeps w w' S) (hq : ¬ S q) (hr : ¬ S r) (hg : ¬ S g) : Rp w' q r g e zs := by
  obtain ⟨off, n, c, h1, h2, h3, h4⟩ := h.rd
  refine ⟨Keeps.has hk h.box hq, ⟨off, n, c, Keeps.has (t := 85) hk h1 hr, h2.of_cells fun b o ha hn i hi => ?_, h3, Nat.lt_of_lt_of_le h4 hk.size⟩, h.ne⟩
  cases ha
  exact hk.cell (p := ⟨g, off + i, none⟩) h4 hg

set_option maxRecDepth 100000 in
set_option maxHeartbeats 1000000 in
theorem hold_any (x : Int) {w : World} {q r g : Nat} {e : Int} {zs : List Int} (h : Rp w q r g e zs) :
    Calls Try.prog 34 #[pt q, .int .i64 x] w fun en w' => en = .returned (.tuple #[]) ∧ Rp w' q r g (fs e x) zs ∧ Ocm.Keeps w w' (Qr q r) := by
  have c1 := h.box.cell 1 rfl
  have hf := h.box.frozen 1
  have HR := hide h
  clear h
  by_cases he : e = 0
  · subst he
    go_enter Try.func34, Try.ntmps34
    go_wp2_with fail
    refine bodyPost_end (results_none rfl _ _ _) rfl ?_
    exact ⟨rfl, (HR.out.put x).1, (HR.out.put x).2⟩
  · have j : (e == 0) = false := by simpa using he
    have HE := hide (fs_bad he x)
    clear he
    go_enter Try.func34, Try.ntmps34
    go_wp2_with fail
    refine bodyPost_end (results_none rfl _ _ _) rfl ?_
    rw [HE.out]
    exact ⟨rfl, HR.out, Ocm.Keeps.refl _ _⟩

/-- What take answers: what p reads. -/
def TkP (p : Rd Int) (w : World) (q r g : Nat) (e : Int) (zs : List Int) (en : Ending) (w' : World) : Prop := ∃ x e' zs', en = .returned (.int .i64 x) ∧ Rp w' q r g e' zs' ∧ Ocm.Keeps w w' (Qr q r) ∧ x = (p zs).2.1 ∧ e' = fs e (p zs).1 ∧ zs' = (p zs).2.2
theorem TkP.out {p : Rd Int} {w : World} {q r g : Nat} {e : Int} {zs : List Int} {en : Ending} {w' : World} (h : TkP p w q r g e zs en w') : ∃ x e' zs', en = .returned (.int .i64 x) ∧ Rp w' q r g e' zs' ∧ Ocm.Keeps w w' (Qr q r) ∧ Out p e zs x e' zs' ∧ x = (p zs).2.1 := by
  obtain ⟨x, e', zs', h1, h2, h3, rfl, rfl, rfl⟩ := h
  exact ⟨_, _, _, h1, h2, h3, Out.read p e zs, rfl⟩
theorem byte_any {w : World} {r g : Nat} {zs : List Int} (h : Ocm.Rd w r g zs) : Calls Try.prog 56 #[pt r] w fun en w' => en = .returned (.tuple #[.int .i64 (byt zs).2.1, .int .i64 (byt zs).1]) ∧ Ocm.Rd w' r g (byt zs).2.2 ∧ w.grownBy w' (some r) := by
  rcases zs with _ | ⟨c, zs⟩
  · exact (Ocm.rByte_none r g w h).mono fun en w' ⟨h1, h2⟩ => ⟨h1, h2 ▸ h, h2 ▸ World.grownBy.refl _ _⟩
  · exact Ocm.rByte_some r g c zs w h
theorem uint_any {w : World} {r g : Nat} {zs : List Int} (h : Ocm.Rd w r g zs) : Calls Try.prog 57 #[pt r] w fun en w' => en = .returned (.tuple #[.int .i64 (nat zs).2.1, .int .i64 (nat zs).1]) ∧ Ocm.Rd w' r g (nat zs).2.2 ∧ w.grownBy w' (some r) := Ocm.rUint_any r g zs w h
theorem int_any {w : World} {r g : Nat} {zs : List Int} (h : Ocm.Rd w r g zs) : Calls Try.prog 70 #[pt r] w fun en w' => en = .returned (.tuple #[.int .i64 (num zs).2.1, .int .i64 (num zs).1]) ∧ Ocm.Rd w' r g (num zs).2.2 ∧ w.grownBy w' (some r) := Ocm.rInt_any r g zs w h

set_option maxRecDepth 100000 in
set_option maxHeartbeats 1000000 in
theorem take_byte {w : World} {q r g : Nat} {e : Int} {zs : List Int} (h : Rp w q r g e zs) :
    Calls Try.prog 55 #[pt q, .func (.func 56) #[pt r] #[]] w (TkP byt w q r g e zs) := by
  have HR := hide h
  have HP := hide (byte_any h.rd)
  unfold TkP
  generalize (byt zs).2.1 = x at HP ⊢
  generalize (byt zs).1 = er at HP ⊢
  generalize (byt zs).2.2 = zs2 at HP ⊢
  clear h
  go_enter Try.func55, Try.ntmps55
  go_wp2_with fail
  refine HP.out.mono ?_
  rintro en w1 ⟨rfl, h1, h2⟩
  obtain ⟨k1, k2⟩ := HR.out.read h1 h2
  have HH := hide (hold_any er k1)
  have HK := hide k2
  clear h1 h2 k1 k2 HP HR
  go_wp2_with fail
  refine HH.out.mono ?_
  rintro en w2 ⟨rfl, h1, h2⟩
  have HR2 := hide h1
  have HK2 := hide (Keeps.trans HK.out h2)
  clear h1 h2 HH HK
  go_wp2_with fail
  go_ret
  exact ⟨_, _, _, rfl, HR2.out, HK2.out, rfl, rfl, rfl⟩

set_option maxRecDepth 100000 in
set_option maxHeartbeats 1000000 in
theorem take_uint {w : World} {q r g : Nat} {e : Int} {zs : List Int} (h : Rp w q r g e zs) :
    Calls Try.prog 55 #[pt q, .func (.func 57) #[pt r] #[]] w (TkP nat w q r g e zs) := by
  have HR := hide h
  have HP := hide (uint_any h.rd)
  unfold TkP
  generalize (nat zs).2.1 = x at HP ⊢
  generalize (nat zs).1 = er at HP ⊢
  generalize (nat zs).2.2 = zs2 at HP ⊢
  clear h
  go_enter Try.func55, Try.ntmps55
  go_wp2_with fail
  refine HP.out.mono ?_
  rintro en w1 ⟨rfl, h1, h2⟩
  obtain ⟨k1, k2⟩ := HR.out.read h1 h2
  have HH := hide (hold_any er k1)
  have HK := hide k2
  clear h1 h2 k1 k2 HP HR
  go_wp2_with fail
  refine HH.out.mono ?_
  rintro en w2 ⟨rfl, h1, h2⟩
  have HR2 := hide h1
  have HK2 := hide (Keeps.trans HK.out h2)
  clear h1 h2 HH HK
  go_wp2_with fail
  go_ret
  exact ⟨_, _, _, rfl, HR2.out, HK2.out, rfl, rfl, rfl⟩

set_option maxRecDepth 100000 in
set_option maxHeartbeats 1000000 in
theorem take_int {w : World} {q r g : Nat} {e : Int} {zs : List Int} (h : Rp w q r g e zs) :
    Calls Try.prog 55 #[pt q, .func (.func 70) #[pt r] #[]] w (TkP num w q r g e zs) := by
  have HR := hide h
  have HP := hide (int_any h.rd)
  unfold TkP
  generalize (num zs).2.1 = x at HP ⊢
  generalize (num zs).1 = er at HP ⊢
  generalize (num zs).2.2 = zs2 at HP ⊢
  clear h
  go_enter Try.func55, Try.ntmps55
  go_wp2_with fail
  refine HP.out.mono ?_
  rintro en w1 ⟨rfl, h1, h2⟩
  obtain ⟨k1, k2⟩ := HR.out.read h1 h2
  have HH := hide (hold_any er k1)
  have HK := hide k2
  clear h1 h2 k1 k2 HP HR
  go_wp2_with fail
  refine HH.out.mono ?_
  rintro en w2 ⟨rfl, h1, h2⟩
  have HR2 := hide h1
  have HK2 := hide (Keeps.trans HK.out h2)
  clear h1 h2 HH HK
  go_wp2_with fail
  go_ret
  exact ⟨_, _, _, rfl, HR2.out, HK2.out, rfl, rfl, rfl⟩

theorem nat_rng {zs : List Int} (hb : Byts zs) : 0 ≤ (nat zs).2.1 ∧ (nat zs).2.1 ≤ 9223372036854775807 := by
  unfold nat rdU
  rcases Oct.scan_cases zs hb with ⟨X, hs, h0, h1, -, -⟩ | hs | hs
  · rw [hs]
    simp only [if_true]
    split
    · simp
    · exact ⟨h0, by omega⟩
  · rw [hs]; simp
  · rw [hs]; simp
theorem byt_rng {zs : List Int} (hb : Byts zs) : 0 ≤ (byt zs).2.1 ∧ (byt zs).2.1 ≤ 255 := by
  rcases zs with _ | ⟨c, zs⟩
  · exact ⟨Int.le_refl _, by decide⟩
  · exact hb c (by simp)

/-- What is answered of what p reads. -/
def OutP (p : Rd Int) (w : World) (q r g : Nat) (e : Int) (zs : List Int) (en : Ending) (w' : World) : Prop := ∃ x e' zs', en = .returned (.int .i64 x) ∧ Rp w' q r g e' zs' ∧ Ocm.Keeps w w' (Qr q r) ∧ Out p e zs x e' zs'

set_option maxRecDepth 100000 in
set_option maxHeartbeats 1000000 in
theorem register_any (t : Int) (h0 : 0 ≤ t) (h1 : t ≤ 9223372036854775807) {w : World} {q r g : Nat} {e : Int} {zs : List Int} (h : Rp w q r g e zs) :
    Calls Try.prog 59 #[pt q, .int .i64 t] w (OutP (bck t) w q r g e zs) := by
  have hmf : ∀ (fn : Fn) (first cap : Array Value) (w : World), (Instr.makeFunc fn first cap).run Try.prog w = .ok (.func fn first cap) w := fun _ _ _ _ => rfl
  have HT := hide ((take_uint h).mono fun en w' hh => hh.out)
  have c0 := h.box.cell 0 rfl
  obtain ⟨x0, x1⟩ := nat_rng h.byts
  unfold OutP
  generalize (nat zs).2.1 = y at HT x0 x1
  clear h
  go_enter Try.func59, Try.ntmps59
  go_wp2_with fail
  refine HT.out.mono ?_
  rintro en w1 ⟨x, e1, z1, rfl, hR, hK, hO, rfl⟩
  have HR := hide hR
  have HK := hide hK
  have HO := hide hO
  clear hR hK hO HT c0
  by_cases hlt : t - 1 - x < 0
  · have HH := hide (hold_any 15 HR.out)
    have hB : decide (x ≤ t - 1) = false := by simp; omega
    have HB := hide hB
    clear hB
    go_wp2_with fail
    refine HH.out.mono ?_
    rintro en w2 ⟨rfl, hR, hK⟩
    have HR2 := hide hR
    have HK2 := hide (Keeps.trans HK.out hK)
    clear hR hK HH
    go_wp2_with fail
    go_ret
    refine ⟨_, _, _, rfl, HR2.out, HK2.out, HO.out.bnd (Out.tst ?_ (by decide) (Out.ret _ _ _))⟩
    rw [HB.out]; rfl
  · have hB : decide (x ≤ t - 1) = true := by simp; omega
    have HB := hide hB
    clear hB
    go_wp2_with fail
    go_ret
    refine ⟨_, _, _, rfl, HR.out, HK.out, HO.out.bnd (Out.tst ?_ (by decide) (Out.ret _ _ _))⟩
    rw [HB.out]; rfl

end Go.Proofs.Pck

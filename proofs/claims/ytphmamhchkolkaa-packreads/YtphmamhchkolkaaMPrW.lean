/-
  PackReads' walk.
-/
import Derived.Test.YtphmamhchkolkaaMPbW
import Derived.Test.YtphmamhchkolkaaMD3
import Derived.Test.YtphmamhchkolkaaMApI
import Derived.Test.YtphmamhchkolkaaMOcRoomy
namespace Go.Proofs.Pck
open Ytphmamhchkolkaa
open Go.RowKit Go.IntWalk Ytphmamhchkolkaa.Knd
open Ytphmamhchkolkaa.Ocm (Part joined u8s marks marks_byte)
open Cde (In i0 ia cd is6 i6 Ins agL arN okI okT okT_at mcB mc_parts ccE below_drew four_of)
set_option linter.unusedVariables false

theorem de_few {zs : List Int} (hb : Byts zs) : (deC zs).2.2.2.1.length ≤ 200 := by
  by_cases he : (deC zs).1 = 0
  · obtain ⟨R, hR⟩ : ∃ R, deC zs = (0, R) := ⟨(deC zs).2, by rw [← he]⟩
    obtain ⟨-, hm⟩ := de_one hb hR
    rw [hR]
    exact (mc_parts hm).2.2.1
  · unfold deC at he ⊢
    split
    · exact Nat.zero_le _
    · rename_i h1
      rw [if_neg h1] at he
      split
      · exact Nat.zero_le _
      · rename_i h2
        rw [if_neg h2] at he
        split
        · exact Nat.zero_le _
        · rename_i h3
          rw [if_neg h3] at he
          split
          · rename_i h4
            rw [if_pos h4] at he
            exact absurd rfl he
          · exact Nat.zero_le _
theorem marks_byts : Byts marks := marks_byte
/-- The input, and what Roomy made of it. -/
structure Rm (W V : World) (a : Option Addr) (n c : Nat) (zs : List Int) : Prop where
  k : Ocm.Bytes V a n c zs
  ro : V.ownsRow W.heap.size 5 1 (.slice (some ⟨W.heap.size, 0, none⟩) (n + 40) (n + 40)) (n + 40) (u8s (zs ++ marks))
  lo : Below W.heap.size W V
theorem Rm.later {W V V' : World} {a : Option Addr} {n c : Nat} {zs : List Int} (h : Rm W V a n c zs) (hb : Below V.heap.size V V') : Rm W V' a n c zs := ⟨h.k.later hb, Cde.own_later h.ro hb, bel h.lo hb⟩
theorem Rm.all {W V : World} {a : Option Addr} {n c : Nat} {zs : List Int} (h : Rm W V a n c zs) : Ocm.Bytes V (some ⟨W.heap.size, 0, none⟩) (n + 40) (n + 40) (zs ++ marks) := by
  have hz : Byts zs := h.k.byte
  obtain ⟨a', c', e, hB, -⟩ := byt_own h.ro (hz.app marks_byts)
  cases e
  exact hB
theorem Rm.inp {W V : World} {a : Option Addr} {n c : Nat} {zs : List Int} (h : Rm W V a n c zs) : Ocm.Bytes V (some ⟨W.heap.size, 0, none⟩) n (n + 40) zs := by
  have h3 := h.all.take (k := n) (by omega)
  have hl := h.k.len
  rw [← hl, List.take_left, hl] at h3
  exact h3
theorem Rm.box {W V : World} {a : Option Addr} {n c : Nat} {zs : List Int} (h : Rm W V a n c zs) : ∃ cs : Array Value, HasC V W.heap.size 5 cs ∧ n ≤ cs.size := by
  obtain ⟨h1, h2⟩ := h.ro
  rcases h2 with ⟨e, -⟩ | ⟨g, cap, cs, e, hb, hg, h3, h4, h5, h6⟩
  · cases e
  · cases e
    exact ⟨cs, hg, by omega⟩
/-- A code in a box, its instructions in memory of the call's own. -/
structure Hx (V : World) (lo b : Nat) (f d : Int) (L : List In) (o : Int) (a : Option Addr) (n c : Nat) : Prop where
  b : HasC V b 26 (cd f d a n c o)
  s : V.ownsRow lo 51 6 (.slice a n c) n (is6 L)
theorem Hx.later {V V' : World} {lo b : Nat} {f d : Int} {L : List In} {o : Int} {a : Option Addr} {n c : Nat} (h : Hx V lo b f d L o a n c) (hb : Below V.heap.size V V') : Hx V' lo b f d L o a n c := ⟨h.b.below hb, Cde.own_later h.s hb⟩
theorem Hx.ins {V : World} {lo b : Nat} {f d : Int} {L : List In} {o : Int} {a : Option Addr} {n c : Nat} (h : Hx V lo b f d L o a n c) : Ins V a n c L := by
  obtain ⟨a', c', e1, hI, -⟩ := Ins.of_owns h.s
  cases e1
  exact hI
theorem Hx.cleared {V V' : World} {lo b g : Nat} {f d : Int} {L : List In} {o : Int} {a : Option Addr} {n c : Nat} {cs : Array Value} (h : Hx V lo b f d L o a n c) (hg : HasC V g 5 cs) (hk : Ocm.Keeps V V' (Oq g)) : Hx V' lo b f d L o a n c := by
  have h1 : b ≠ g := has_ne h.b hg (by decide)
  have h2 := own_ne h.s hg (by decide)
  exact ⟨Keeps.has hk h.b h1, Keeps.own hk h.s fun k hk' (e : k = g) => h2 (e ▸ hk')⟩
/-- Two codes, the instructions of each in memory of its own, in a list. -/
theorem two_codes {V : World} {lo1 lo2 b1 b2 z c1 c2 : Nat} {f d o : Int} {L : List In} {a1 a2 : Option Addr} (h1 : Hx V lo1 b1 f d L o a1 z c1) (h2 : Hx V lo2 b2 f d L o a2 z c2) (hd : ∀ k, (Value.slice a1 z c1).ownBlock = some k → k < lo2) (hz : z ≤ 200) :
    Fld.Ai.Lists (V.alloc (.cells #[.int .i64 f, .int .i64 d, .slice a1 z c1, .int .i64 o, .int .i64 f, .int .i64 d, .slice a2 z c2, .int .i64 o] 26)) V.heap.size 2 (fun i => if i = 0 then .slice a1 z c1 else .slice a2 z c2) (fun _ => z) := by
  have hn := HasC.new V 26 #[.int .i64 f, .int .i64 d, .slice a1 z c1, .int .i64 o, .int .i64 f, .int .i64 d, .slice a2 z c2, .int .i64 o]
  have o2 : ∀ k, (Value.slice a2 z c2).ownBlock = some k → lo2 ≤ k := fun k hk => (h2.s.lt k hk).1
  refine ⟨hn.lt, fun i hi => ?_, fun i hi => ?_, fun i j hi hj hij k hk e => ?_, fun i hi => ?_, fun i hi => (show z ≤ _ by omega), by decide⟩
  · rcases (show i = 0 ∨ i = 1 by omega) with rfl | rfl
    · exact hn.cell 2 rfl
    · exact hn.cell 6 rfl
  · rcases (show i = 0 ∨ i = 1 by omega) with rfl | rfl
    · exact ⟨_, Cde.own_mono (h1.s.alloc _) (Nat.zero_le _)⟩
    · exact ⟨_, Cde.own_mono (h2.s.alloc _) (Nat.zero_le _)⟩
  · rcases (show i = 0 ∨ i = 1 by omega) with rfl | rfl <;> rcases (show j = 0 ∨ j = 1 by omega) with rfl | rfl
    · exact hij rfl
    · have := hd k hk; have := o2 k e; omega
    · have := hd k e; have := o2 k hk; omega
    · exact hij rfl
  · rcases (show i = 0 ∨ i = 1 by omega) with rfl | rfl
    · exact fun e => by have := (h1.s.lt _ e).2; omega
    · exact fun e => by have := (h2.s.lt _ e).2; omega

set_option maxRecDepth 100000 in
set_option maxHeartbeats 8000000 in
theorem preads_walk {a : Option Addr} {n c : Nat} {zs : List Int} {W : World} (h : Ocm.Bytes W a n c zs) (hs : n ≤ 140737488351232) :
    Calls Try.prog 4 #[.slice a n c] W fun e W' => e = .returned (.bool true) ∧ Below W.heap.size W W' := by
  have HR := hide (Ocm.roomy_any a n c zs W h (by omega))
  have HZ := hide h
  have HA := hide fun V => pawake_any V
  have hfw := de_few (show Byts zs from h.byte)
  have HD := hide fun (V : World) (h : Rm W V a n c zs) => decode_any h.inp
  have HE := hide fun (V : World) (h : Rm W V a n c zs) => rdecode_any h.k
  have HH := hide fun (V : World) (h : Rm W V a n c zs) => Ocm.held_any W.heap.size 0 n (n + 40) a c zs V h.all h.k
  obtain ⟨⟨er, f, d, L, o⟩, hR⟩ : ∃ R, deC zs = R := ⟨_, rfl⟩
  rw [hR] at hfw HD HE
  dsimp only at hfw
  unfold DcP at HD HE
  dsimp only at HD HE
  have HSm := hide fun (V : World) (a1 : Option Addr) (n1 c1 : Nat) (a2 : Option Addr) (n2 c2 : Nat) (h1 : Ins V a1 n1 c1 L) (h2 : Ins V a2 n2 c2 L) => Cde.xsame_any f d o f d o h1 h2
  rw [Cde.sameB_self] at HSm
  obtain ⟨z, hz⟩ : ∃ z, L.length = z := ⟨_, rfl⟩
  rw [hz] at hfw
  have HFw := hide hfw
  have HLz := hide fun (V : World) (lo : Nat) (a3 : Option Addr) (n3 c3 : Nat) (h : V.ownsRow lo 51 6 (.slice a3 n3 c3) n3 (is6 L)) => (show z = n3 from by
    obtain ⟨a', c', e, hI, -⟩ := Ins.of_owns h
    have := hI.len
    omega)
  clear h hR hfw hz
  go_enter Try.func4, Try.ntmps4
  go_wp2_with fail
  refine HR.out.mono ?_
  rintro e V1 ⟨rfl, hO, hb⟩
  have HM1 : Hid (Rm W V1 a n c zs) := hide ⟨HZ.out.later hb, hO, hb⟩
  clear hO hb HR HZ
  go_wp2_with fail
  refine (HD.out V1 HM1.out).mono ?_
  rintro e V2 ⟨a1, n1, c1, rfl, hO, hb⟩
  obtain rfl : z = n1 := HLz.out _ _ _ _ _ hO
  have hba := bel1 V2 (.cells (cd f d a1 z c1 o) 26)
  have HM2 := hide (HM1.out.later (bel hb hba))
  have HX2 : Hid (Hx (V2.alloc (.cells (cd f d a1 z c1 o) 26)) V1.heap.size V2.heap.size f d L o a1 z c1) := hide ⟨HasC.new _ _ _, Cde.own_later hO hba⟩
  have HW1 := hide (show W.heap.size ≤ V1.heap.size from HM1.out.lo.size)
  clear hO hb hba HM1
  go_wp2_with fail
  obtain ⟨p1, hp1⟩ : ∃ p, V2.heap.size = p := ⟨_, rfl⟩
  obtain ⟨V3, hV3⟩ : ∃ X, V2.alloc (.cells (cd f d a1 z c1 o) 26) = X := ⟨_, rfl⟩
  rw [hV3] at HM2 HX2 ⊢
  rw [hp1] at HX2 ⊢
  clear hV3 hp1
  refine (HE.out V3 HM2.out).mono ?_
  rintro e V4 ⟨a2, n2, c2, rfl, hO, hb⟩
  obtain rfl : z = n2 := HLz.out _ _ _ _ _ hO
  have hba := bel1 V4 (.cells (cd f d a2 z c2 o) 26)
  have HM4 := hide (HM2.out.later (bel hb hba))
  have HX4 := hide (HX2.out.later (bel hb hba))
  have HY4 : Hid (Hx (V4.alloc (.cells (cd f d a2 z c2 o) 26)) V3.heap.size V4.heap.size f d L o a2 z c2) := hide ⟨HasC.new _ _ _, Cde.own_later hO hba⟩
  clear hO hb hba HM2 HX2 HE
  go_wp2_with fail
  obtain ⟨p2, hp2⟩ : ∃ p, V4.heap.size = p := ⟨_, rfl⟩
  obtain ⟨V5, hV5⟩ : ∃ X, V4.alloc (.cells (cd f d a2 z c2 o) 26) = X := ⟨_, rfl⟩
  rw [hV5] at HM4 HX4 HY4 ⊢
  rw [hp2] at HY4 ⊢
  clear hV5 hp2
  refine (HD.out V5 HM4.out).mono ?_
  rintro e V6 ⟨a3, n3, c3, rfl, hO, hb⟩
  obtain rfl : z = n3 := HLz.out _ _ _ _ _ hO
  have hba := bel1 V6 (.cells (cd f d a3 z c3 o) 26)
  have HM6 := hide (HM4.out.later (bel hb hba))
  have HX6 := hide (HX4.out.later (bel hb hba))
  have HY6 := hide (HY4.out.later (bel hb hba))
  have HZ6 : Hid (Hx (V6.alloc (.cells (cd f d a3 z c3 o) 26)) V5.heap.size V6.heap.size f d L o a3 z c3) := hide ⟨HasC.new _ _ _, Cde.own_later hO hba⟩
  have HD6 := hide (show ∀ k, (Value.slice a1 z c1).ownBlock = some k → k < V5.heap.size from fun k hk => (HX4.out.s.lt k hk).2)
  have HW5 := hide (show W.heap.size ≤ V5.heap.size from HM4.out.lo.size)
  clear hO hb hba HM4 HX4 HY4 HD HLz
  go_wp2_with fail
  obtain ⟨p3, hp3⟩ : ∃ p, V6.heap.size = p := ⟨_, rfl⟩
  obtain ⟨V7, hV7⟩ : ∃ X, V6.alloc (.cells (cd f d a3 z c3 o) 26) = X := ⟨_, rfl⟩
  rw [hV7] at HM6 HX6 HY6 HZ6 ⊢
  rw [hp3] at HZ6 ⊢
  clear hV7 hp3
  refine (HA.out _).mono ?_
  rintro e V8 ⟨rfl, hb⟩
  have HM8 := hide (HM6.out.later hb)
  have HX8 := hide (HX6.out.later hb)
  have HY8 := hide (HY6.out.later hb)
  have HZ8 := hide (HZ6.out.later hb)
  clear hb HM6 HX6 HY6 HZ6 HA
  have hee : (er == er) = true := by simp
  have hen : (er != er) = false := by simp
  obtain ⟨x0, x1, x2, x3⟩ := four_of HX8.out.b
  obtain ⟨y0, y1, y2, y3⟩ := four_of HY8.out.b
  go_wp2_with fail
  refine (HSm.out _ _ _ _ _ _ _ HX8.out.ins HY8.out.ins).mono ?_
  rintro e V9 ⟨rfl, hb⟩
  have HM9 := hide (HM8.out.later hb)
  have HX9 := hide (HX8.out.later hb)
  have HY9 := hide (HY8.out.later hb)
  have HZ9 := hide (HZ8.out.later hb)
  clear hb HM8 HX8 HY8 HZ8 x0 x1 x2 x3 y0 y1 y2 y3
  obtain ⟨x0, x1, x2, x3⟩ := four_of HZ9.out.b
  obtain ⟨y0, y1, y2, y3⟩ := four_of HY9.out.b
  go_wp2_with fail
  refine (HSm.out _ _ _ _ _ _ _ HZ9.out.ins HY9.out.ins).mono ?_
  rintro e V10 ⟨rfl, hb⟩
  have HM10 := hide (HM9.out.later hb)
  have HX10 := hide (HX9.out.later hb)
  have HY10 := hide (HY9.out.later hb)
  have HZ10 := hide (HZ9.out.later hb)
  clear hb HM9 HX9 HY9 HZ9 x0 x1 x2 x3 y0 y1 y2 y3
  go_wp2_with fail
  refine (HH.out V10 HM10.out).mono ?_
  rintro e V11 ⟨rfl, q, rfl⟩
  have hb := Cde.below_dN V10 q
  have HM11 := hide (HM10.out.later hb)
  have HX11 := hide (HX10.out.later hb)
  have HY11 := hide (HY10.out.later hb)
  have HZ11 := hide (HZ10.out.later hb)
  obtain ⟨V11, hV11⟩ : ∃ X, V10.drewN q = X := ⟨_, rfl⟩
  rw [hV11] at HM11 HX11 HY11 HZ11 ⊢
  clear hb HM10 HX10 HY10 HZ10 HH hV11
  have hlo := HM11.out.lo.size
  obtain ⟨cs0, hg0, hn0⟩ := HM11.out.box
  obtain ⟨g, hg⟩ : ∃ g, W.heap.size = g := ⟨_, rfl⟩
  have HCl := hide fun (b : Nat) (lo : Nat) (a1 : Option Addr) (c1 : Nat) (X : World) (hk : Ocm.Keeps V11 X (Oq g)) (h : Hx V11 lo b f d L o a1 z c1) => h.cleared (hg ▸ hg0) hk
  have HB0 : Hid (Below W.heap.size W V11) := hide HM11.out.lo
  have HG0 := hide hg0
  rw [hg] at HG0
  have hgw : W.heap.size ≤ g := by omega
  rw [hg]
  clear hg0 hlo hg HM11
  go_wp2_with fail
  go_loopw [10] (fun iv wr => ∃ (k : Nat) (cs : Array Value), k ≤ n ∧ iv = .int .i64 k ∧ n ≤ cs.size ∧ Hid (HasC wr g 5 cs) ∧ Hid (Ocm.Keeps V11 wr (Oq g))) (fun iv _ => n - (intOf iv).toNat)
  case atStart => exact ⟨0, cs0, Nat.zero_le _, rfl, hn0, HG0, hide (Ocm.Keeps.refl _ _)⟩
  case round =>
    obtain ⟨k, cs, hk, rfl, hcs, HG, HK⟩ := hrel
    rename World => U
    by_cases hlt : k < n
    · have k0 := HG.out.cell k (Array.getElem?_eq_getElem (by omega))
      have y0 := HG.out.frozen k
      have HG2 := hide (HG.out.set k (.int .u8 0))
      have HK2 := hide (Keeps.trans HK.out (keeps_at U g k (.int .u8 0)))
      clear HG HK
      go_wp2_with fail
      go_roundw
      case rel => exact ⟨k + 1, cs.setIfInBounds k (.int .u8 0), by omega, by go_num, by simpa using hcs, HG2, HK2⟩
      case measure => simp [intOf]; omega
    · have HX12 := hide (HCl.out _ _ _ _ _ HK.out HX11.out)
      have HZ12 := hide (HCl.out _ _ _ _ _ HK.out HZ11.out)
      have HB12 : Hid (Below W.heap.size W U) := hide (HB0.out.trans (HK.out.below HB0.out.size fun k (hk : k = g) => by omega))
      have HY12 := hide (HCl.out _ _ _ _ _ HK.out HY11.out)
      clear HG HK HX11 HY11 HZ11 HG0 HB0 HCl hcs hk
      have j1 : ¬ (k : Int) < n := by omega
      obtain ⟨x0, x1, x2, x3⟩ := four_of HX12.out.b
      obtain ⟨y0, y1, y2, y3⟩ := four_of HY12.out.b
      go_wp2_with fail
      refine (HSm.out _ _ _ _ _ _ _ HX12.out.ins HY12.out.ins).mono ?_
      rintro e V13 ⟨rfl, hb⟩
      have HX13 := hide (HX12.out.later hb)
      have HZ13 := hide (HZ12.out.later hb)
      have HB13 := hide (bel HB12.out hb)
      clear hb HX12 HY12 HZ12 HB12 HSm x0 x1 x2 x3 y0 y1 y2 y3
      obtain ⟨x0, x1, x2, x3⟩ := four_of HX13.out.b
      obtain ⟨y0, y1, y2, y3⟩ := four_of HZ13.out.b
      have HLs := hide (two_codes HX13.out HZ13.out HD6.out HFw.out)
      have HOf : Hid (∀ k, Fld.Ai.Of 2 (fun i => if i = 0 then .slice a1 z c1 else .slice a3 z c3) k → W.heap.size ≤ k) := hide fun k ⟨i, hi, hk⟩ => by
        rcases (show i = 0 ∨ i = 1 by omega) with rfl | rfl
        · have := (HX13.out.s.lt k hk).1; have := HW1.out; omega
        · have := (HZ13.out.s.lt k hk).1; have := HW5.out; omega
      have HAp := hide (Fld.Ai.xapart_any _ 2 2 _ _ _ HLs.out)
      clear HX13 HZ13
      go_wp2_with fail
      refine HAp.out.mono ?_
      rintro e V14 ⟨rfl, hk⟩
      have HB14 : Hid (Below W.heap.size W V14) := hide ((bel HB13.out (bel1 _ _)).trans (hk.below (by have := HB13.out.size; simp only [World.size_alloc]; omega) HOf.out))
      clear hk
      go_wp2_with fail
      go_ret
      exact ⟨rfl, HB14.out⟩

end Go.Proofs.Pck

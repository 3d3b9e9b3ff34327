/-
  OctetJoins, up to its bound: for every list of parts of bulk at most 1048576, octet.Join answers the parts one behind the other in new memory, what is handed in stays, the room behind it too; and the argument reads as before.
-/
import Derived.Test.YtibaejoonmedjaaRows
import Derived.Test.YtibaejoonmedjaaOpen
import Derived.Test.YtibaejoonmedjaaRoomy
import Derived.Test.YtibaejoonmedjaaApart
import Derived.Deep.Slices
import Derived.JoinedCond
import Derived.Deep.RegionHeld3
import Derived.Deep.RegionWith
namespace Go.Proofs.Ytibaejoonmedjaa
open Go.ChangeShapes Go.WideShapes Go.ChangeAt Go.RowKit Oct
set_option linter.unusedVariables false

def noPart : Part := ⟨none, 0, 0, []⟩
abbrev pt (ps : List Part) (j : Nat) : Part := ps.getD j noPart
abbrev inv (ps : List Part) (G : Nat → Nat) (j : Nat) : Value := .slice (some ⟨G j, 0, none⟩) (pt ps j).n ((pt ps j).n + 40)
abbrev Room (w : World) (B : Nat) (ps : List Part) (G : Nat → Nat) (j : Nat) : Prop := w.ownsRow B 5 1 (.slice (some ⟨G j, 0, none⟩) ((pt ps j).n + 40) ((pt ps j).n + 40)) ((pt ps j).n + 40) (u8s ((pt ps j).zs ++ marks))

/-- What the law has made: kr rooms, a list of ki of them, the bytes of kw parts. -/
structure Build (w wr : World) (ps : List Part) (G : Nat → Nat) (kr ki kw : Nat) (vin vw : Value) : Prop where
  room : ∀ j, j < kr → Room wr w.heap.size ps G j
  own : wr.ownsRow w.heap.size 22 1 vin ki ((List.range ki).map (inv ps G))
  want : wr.ownsRow w.heap.size 5 1 vw (joined (ps.take kw)).length (u8s (joined (ps.take kw)))
  wne : ∀ j, j < kr → vw.ownBlock ≠ some (G j)
  below : Below w.heap.size w wr

theorem owns_later' {w w' : World} {base e : Nat} {v : Value} {n : Nat} {xs : List Value} (h : w.ownsRow base e 1 v n xs) (hb : Below w.heap.size w w') : w'.ownsRow base e 1 v n xs := by
  obtain ⟨h1, h2⟩ := h
  refine ⟨h1, ?_⟩
  rcases h2 with h2 | ⟨g, cap, cur, hv, hg, hh, r⟩
  · exact .inl h2
  · exact .inr ⟨g, cap, cur, hv, hg, by rw [hb.block g (Array.getElem?_eq_some_iff.1 hh).1]; exact hh, r⟩

theorem Build.start {w wr : World} {ps : List Part} (hb : Below w.heap.size w wr) : Build w wr ps (fun _ => 0) 0 0 0 (.slice none 0 0) (.slice none 0 0) :=
  ⟨fun j hj => by omega, World.ownsRow_nil _ _ _ _, World.ownsRow_nil _ _ _ _, fun j hj => by omega, hb⟩

theorem Build.later {w wr w2 : World} {ps : List Part} {G : Nat → Nat} {kr ki kw : Nat} {vin vw : Value} (h : Build w wr ps G kr ki kw vin vw) (hb : Below wr.heap.size wr w2) : Build w w2 ps G kr ki kw vin vw :=
  ⟨fun j hj => owns_later' (h.room j hj) hb, owns_later' h.own hb, owns_later' h.want hb, h.wne, below_step h.below hb⟩

theorem Build.roomed {w wr w2 : World} {ps : List Part} {G : Nat → Nat} {k : Nat} {vin vw : Value} (h : Build w wr ps G k k k vin vw) (hb : Below wr.heap.size wr w2)
    (hr : w2.ownsRow wr.heap.size 5 1 (.slice (some ⟨wr.heap.size, 0, none⟩) ((pt ps k).n + 40) ((pt ps k).n + 40)) ((pt ps k).n + 40) (u8s ((pt ps k).zs ++ marks))) : Build w w2 ps (upd G k wr.heap.size) (k + 1) k k vin vw := by
  have h2 := h.later hb
  refine ⟨fun j hj => ?_, ?_, h2.want, fun j hj => ?_, h2.below⟩
  · by_cases e : j = k
    · subst e
      simp only [Room, upd_at]
      refine ⟨hr.1, ?_⟩
      rcases hr.2 with ⟨h', _⟩ | ⟨g, cap, cur, hv, hg, r⟩
      · simp at h'
      · exact .inr ⟨g, cap, cur, hv, by have := h.below.size; omega, r⟩
    · simp only [Room, upd_ne _ _ _ _ e]
      exact h2.room j (by omega)
  · have e : (List.range k).map (inv ps (upd G k wr.heap.size)) = (List.range k).map (inv ps G) := List.map_congr_left fun j hj => by
      have := List.mem_range.1 hj
      simp only [inv, upd_ne _ _ _ _ (show j ≠ k by omega)]
    rw [e]; exact h2.own
  · by_cases e : j = k
    · subst e
      rw [upd_at]
      intro e2
      have := (h.want.lt _ e2).2
      omega
    · rw [upd_ne _ _ _ _ e]; exact h.wne j (by omega)

theorem Build.laid {w w1 w2 : World} {ps : List Part} {G : Nat → Nat} {k : Nat} {vin vw v' : Value} (h : Build w w1 ps G (k + 1) k k vin vw)
    (ho : w2.ownsRow w.heap.size 22 1 v' (k + 1) ((List.range k).map (inv ps G) ++ [inv ps G k]))
    (hg : (∃ g' cap, vin = .slice (some ⟨g', 0, none⟩) k cap ∧ v' = .slice (some ⟨g', 0, none⟩) (k + 1) cap ∧ w1.grownBy w2 (some g')) ∨ (w1.grownBy w2 none ∧ ∀ g', v'.ownBlock = some g' → w1.heap.size ≤ g')) :
    Build w w2 ps G (k + 1) (k + 1) k v' vw := by
  have key : ∀ (row : Option Nat), w1.grownBy w2 row → (∀ x, row = some x → vin.ownBlock = some x) → Build w w2 ps G (k + 1) (k + 1) k v' vw := by
    intro row hgr hrow
    have five : ∀ {v : Value} {m : Nat} {xs : List Value}, w1.ownsRow w.heap.size 5 1 v m xs → w2.ownsRow w.heap.size 5 1 v m xs := fun {v m xs} hv => hv.kept hgr (by
      cases hb : v.ownBlock with
      | none => exact .inl rfl
      | some x =>
        refine .inr fun e => ?_
        rcases owns_apart hv h.own (by decide) with h1 | h1
        · rw [hb] at h1; cases h1
        · rw [hb] at h1; exact h1 (hrow x e.symm).symm)
    refine ⟨fun j hj => five (h.room j hj), by rw [List.range_succ, List.map_append]; exact ho, five h.want, h.wne, h.below.trans ((Below.refl _ _).grown hgr h.below.size (fun x e => (h.own.lt x (hrow x e)).1))⟩
  rcases hg with ⟨g', cap, rfl, rfl, hgr⟩ | ⟨hgr, _⟩
  · exact key (some g') hgr (fun x e => by cases e; rfl)
  · exact key none hgr (fun x e => by cases e)

theorem Build.wanted {w w1 w2 : World} {ps : List Part} {G : Nat → Nat} {k L : Nat} {vin vw v' : Value} {zs : List Int} (h : Build w w1 ps G (k + 1) (k + 1) k vin vw) (hj : joined (ps.take (k + 1)) = joined (ps.take k) ++ zs) (hL : (joined (ps.take k)).length = L)
    {m : Nat} (hm : zs.length = m) (ho : w2.ownsRow w.heap.size 5 1 v' (L + m) (u8s (joined (ps.take k)) ++ u8s zs))
    (hg : (∃ g' cap, vw = .slice (some ⟨g', 0, none⟩) L cap ∧ v' = .slice (some ⟨g', 0, none⟩) (L + m) cap ∧ w1.grownBy w2 (some g')) ∨ (w1.grownBy w2 none ∧ ∀ g', v'.ownBlock = some g' → w1.heap.size ≤ g')) :
    Build w w2 ps G (k + 1) (k + 1) (k + 1) vin v' := by
  have hw : w2.ownsRow w.heap.size 5 1 v' (joined (ps.take (k + 1))).length (u8s (joined (ps.take (k + 1)))) := by
    rw [hj, List.length_append, hL, hm]
    simpa using ho
  have key : ∀ (row : Option Nat), w1.grownBy w2 row → (∀ x, row = some x → vw.ownBlock = some x) → (∀ j, j < k + 1 → v'.ownBlock ≠ some (G j)) → Build w w2 ps G (k + 1) (k + 1) (k + 1) vin v' := by
    intro row hgr hrow hne
    refine ⟨fun j hj => (h.room j hj).kept hgr (.inr fun e => h.wne j hj (hrow _ e.symm)), h.own.kept hgr ?_, hw, hne, h.below.trans ((Below.refl _ _).grown hgr h.below.size (fun x e => (h.want.lt x (hrow x e)).1))⟩
    cases hb : vin.ownBlock with
    | none => exact .inl rfl
    | some x =>
      refine .inr fun e => ?_
      rcases owns_apart h.own h.want (by decide) with h1 | h1
      · rw [hb] at h1; cases h1
      · rw [hb] at h1; exact h1 (hrow x e.symm).symm
  rcases hg with ⟨g', cap, rfl, rfl, hgr⟩ | ⟨hgr, hnew⟩
  · exact key (some g') hgr (fun x e => by cases e; rfl) (fun j hj => h.wne j hj)
  · exact key none hgr (fun x e => by cases e) (fun j hj e => by
      have h1 := hnew _ e
      have h2 := ((h.room j hj).lt (G j) rfl).2
      omega)

/-- The list of rooms, as Join is handed it. -/
def rooms (ps : List Part) (G : Nat → Nat) (k : Nat) : List Part := (List.range k).map fun j => ⟨some ⟨G j, 0, none⟩, (pt ps j).n, (pt ps j).n + 40, (pt ps j).zs⟩

theorem joined_rooms (ps : List Part) (G : Nat → Nat) : joined (rooms ps G ps.length) = joined ps := by
  unfold joined rooms
  congr 1
  rw [List.map_map]
  refine List.ext_getElem (by simp) fun i h1 h2 => ?_
  have hi : i < ps.length := by simpa using h2
  simp [pt, List.getD, hi]

theorem pt_mem {ps : List Part} {j : Nat} (h : j < ps.length) : pt ps j ∈ ps := by
  have e : pt ps j = ps[j] := by simp [pt, List.getD, h]
  rw [e]; exact List.getElem_mem h

theorem room_read {w : World} {B : Nat} {ps : List Part} {G : Nat → Nat} {j : Nat} (h : Room w B ps G j) (hz : ∀ z ∈ (pt ps j).zs, 0 ≤ z ∧ z ≤ 255) (hl : (pt ps j).zs.length = (pt ps j).n) :
    Bytes w (some ⟨G j, 0, none⟩) (pt ps j).n ((pt ps j).n + 40) (pt ps j).zs := by
  have h' := (room_bytes h hz).take (k := (pt ps j).n) (by omega)
  have e : ((pt ps j).zs ++ marks).take (pt ps j).n = (pt ps j).zs := by rw [← hl]; exact List.take_left
  rw [e] at h'
  exact h'

theorem Build.parts {w wr : World} {ps : List Part} {G : Nat → Nat} {k kw : Nat} {vin vw : Value} (h : Build w wr ps G k k kw vin vw) (hz : ∀ j, j < k → (∀ z ∈ (pt ps j).zs, 0 ≤ z ∧ z ≤ 255) ∧ (pt ps j).zs.length = (pt ps j).n) :
    ∃ va vc, vin = .slice va k vc ∧ Parts wr va k (rooms ps G k) ∧ (k ≠ 0 → ∃ vb, va = some ⟨vb, 0, none⟩ ∧ vb < wr.heap.size ∧ ∀ j, j < k → wr.cell? ⟨vb, j, none⟩ = some (inv ps G j)) := by
  have ho := h.own
  have hpart : ∀ p ∈ rooms ps G k, Bytes wr p.a p.n p.c p.zs := fun p hp => by
    obtain ⟨j, hj, rfl⟩ := List.mem_map.1 hp
    have hj' := List.mem_range.1 hj
    exact room_read (h.room j hj') (hz j hj').1 (hz j hj').2
  have hlt := ho.lt
  rcases ho.2 with ⟨rfl, rfl⟩ | ⟨vb, vc, cur, rfl, _⟩
  · exact ⟨none, 0, rfl, ⟨rfl, .inl rfl, hpart⟩, fun h => absurd rfl h⟩
  · have hc : ∀ j, j < k → wr.cell? ⟨vb, j, none⟩ = some (inv ps G j) := fun j hj => by
      rw [ho.cellAt j (by omega)]; simp [hj]
    refine ⟨some ⟨vb, 0, none⟩, vc, rfl, ⟨by simp [rooms], .inr ⟨vb, 0, rfl, fun i hi => ?_⟩, hpart⟩, fun _ => ⟨vb, rfl, (hlt vb rfl).2, hc⟩⟩
    have hi' : i < k := by simpa [rooms] using hi
    rw [Nat.zero_add, hc i hi']
    simp [rooms, Part.v]

def two (x y : Nat) : Nat → Nat := fun i => if i = 0 then x else y

theorem lists_two {W : World} {L ga gb n : Nat} {xs ys : List Value} {ba bb : Nat} (hL : L < W.heap.size) (h0 : W.cell? ⟨L, 0, none⟩ = some (.slice (some ⟨ga, 0, none⟩) n n)) (h1 : W.cell? ⟨L, 1, none⟩ = some (.slice (some ⟨gb, 0, none⟩) n n))
    (ha : W.ownsRow ba 5 1 (.slice (some ⟨ga, 0, none⟩) n n) n xs) (hb : W.ownsRow bb 5 1 (.slice (some ⟨gb, 0, none⟩) n n) n ys) (hab : ga ≠ gb) (haL : ga ≠ L) (hbL : gb ≠ L) (hn : n ≤ 1048576) : Lists W L 2 (two ga gb) (fun _ => n) (fun _ => n) := by
  have low : ∀ {b g : Nat} {zs : List Value}, W.ownsRow b 5 1 (.slice (some ⟨g, 0, none⟩) n n) n zs → W.ownsRow 0 5 1 (.slice (some ⟨g, 0, none⟩) n n) n zs := fun {b g zs} h => by
    refine ⟨h.1, ?_⟩
    rcases h.2 with h' | ⟨g', cap, cur, hv, _, r⟩
    · exact .inl h'
    · exact .inr ⟨g', cap, cur, hv, Nat.zero_le _, r⟩
  refine ⟨hL, fun i hi => ?_, fun i hi => ?_, fun i j hi hj hij => ?_, fun i hi => ?_, fun i hi => by omega, by omega⟩
  · match i, hi with
    | 0, _ => exact h0
    | 1, _ => exact h1
  · match i, hi with
    | 0, _ => exact ⟨_, low ha⟩
    | 1, _ => exact ⟨_, low hb⟩
  · match i, j, hi, hj, hij with
    | 0, 1, _, _, _ => exact hab
    | 1, 0, _, _, _ => exact fun e => hab e.symm
    | 0, 0, _, _, h => exact absurd rfl h
    | 1, 1, _, _, h => exact absurd rfl h
  · match i, hi with
    | 0, _ => exact haL
    | 1, _ => exact hbL

theorem of_two {ga gb x : Nat} (h : Of 2 (two ga gb) x) : x = ga ∨ x = gb := by
  obtain ⟨i, hi, e⟩ := h
  match i, hi with
  | 0, _ => exact .inl e
  | 1, _ => exact .inr e

theorem Bytes.keeps {w w' : World} {S : Nat → Prop} {a : Option Addr} {n c : Nat} {zs : List Int} (h : Bytes w a n c zs) (hk : Keeps w w' S) (hS : ∀ x, a = some x → n ≠ 0 → ¬ S x.block) : Bytes w' a n c zs := by
  refine h.of_cells fun b off ha hn i hi => ?_
  obtain ⟨b', off', ha', hlt, _⟩ := h.at hn
  rw [ha] at ha'
  cases ha'
  exact hk.cell (p := ⟨b, off + i, none⟩) hlt (hS ⟨b, off, none⟩ ha hn)

set_option maxHeartbeats 4000000 in
set_option maxRecDepth 100000 in
theorem joins_walk (a : Option Addr) (n c : Nat) (ps : List Part) (w : World) (hp : Parts w a n ps) (hn : n ≤ 1048576) (hsum : (joined ps).length ≤ 1048576) (hps : ∀ p ∈ ps, p.n ≤ 1048576) :
    Calls Try.prog 4 #[.slice a n c] w fun e w' => e = .returned (.bool true) ∧ Below w.heap.size w w' := by
  have HP := hide hp
  have HLEN : Hid (ps.length = n) := hp.len
  have HPS := hide hps
  have HSUM := hide hsum
  clear hp hps hsum
  obtain ⟨i0, hi, hz0, hz1, hz2⟩ := info_parts info5
  obtain ⟨i1, hi', hy0, hy1, hy2⟩ := info_parts info22
  go_enter Try.func4, Try.ntmps4
  go_wp2_with fail
  go_loopw [3, 4, 5] (fun v3 v4 i wr => ∃ (k : Nat) (G : Nat → Nat) (vin vw : Value), k ≤ n ∧ i = .int .i64 k ∧ vin = v3 ∧ vw = v4 ∧ Build w wr ps G k k k vin vw) (fun _ _ i _ => n - (intOf i).toNat)
  case atStart => exact ⟨0, _, _, _, Nat.zero_le _, rfl, rfl, rfl, Build.start (Below.refl _ _)⟩
  case round =>
    obtain ⟨k, G, vin, vw, hk, rfl, rfl, rfl, hB⟩ := hrel
    have HB := hide hB
    clear hB
    by_cases hlt : k < n
    · have hk' : k < ps.length := by rw [HLEN.out]; exact hlt
      obtain ⟨b, off, rfl, hbw, hcell⟩ := HP.out.at (by omega)
      obtain ⟨p, hpp⟩ : ∃ p, p = pt ps k := ⟨_, rfl⟩
      have HPP := hide hpp
      have ep : ps[k] = p := by rw [hpp]; simp [pt, List.getD, hk']
      have HC : Hid (∀ wx, Below w.heap.size w wx → wx.cell? ⟨b, off + k, none⟩ = some (.slice p.a p.n p.c)) := fun wx hx => by
        rw [hx.cell (p := ⟨b, off + k, none⟩) hbw, hcell k hk', ep]
      have HJ : Hid (joined (ps.take (k + 1)) = joined (ps.take k) ++ p.zs) := by rw [← ep]; exact joined_succ hk'
      have HPB : Hid (Bytes w p.a p.n p.c p.zs) := by rw [hpp]; exact HP.out.part _ (pt_mem hk')
      have hpn : p.n ≤ 1048576 := by rw [hpp]; exact HPS.out _ (pt_mem hk')
      have hle := joined_le ps (k + 1)
      have hL1 : (joined (ps.take k)).length + p.n ≤ 1048576 := by
        have h1 := HSUM.out
        have h2 := congrArg List.length HJ.out
        rw [List.length_append, HPB.out.len] at h2
        omega
      obtain ⟨LL, hLL⟩ : ∃ LL, (joined (ps.take k)).length = LL := ⟨_, rfl⟩
      have HLL := hide hLL
      rw [hLL] at hL1
      clear hcell ep hk' hle hpp hLL
      have g0 := HC.out wr HB.out.below
      go_wp2_with fail
      clear g0
      refine (roomy_any p.a p.n p.c p.zs _ (HPB.out.later HB.out.below) (by omega)).mono ?_
      rintro e w1 ⟨rfl, hown1, hb1⟩
      have HB1 := hide (HB.out.roomed hb1 (by rw [← HPP.out]; exact hown1))
      clear hown1 hb1 HB
      have EV : Hid (inv ps (upd G k wr.heap.size) k = .slice (some ⟨wr.heap.size, 0, none⟩) p.n (p.n + 40)) := by show _ = _; rw [HPP.out]; simp only [inv, upd_at]
      have HB2 := hide (HB1.out.later (below_alloc w1 (.cells #[.slice (some ⟨wr.heap.size, 0, none⟩) p.n (p.n + 40)] 22)))
      have hc1 : ∀ u ∈ [Value.slice (some ⟨wr.heap.size, 0, none⟩) p.n (p.n + 40)], u.oneCell' = true := by intro u hu; simp at hu; subst hu; rfl
      have hcn : ∀ ad, (some ⟨w1.heap.size, 0, none⟩ : Option Addr) = some ad → ∀ jj u, [Value.slice (some ⟨wr.heap.size, 0, none⟩) p.n (p.n + 40)][jj]? = some u → (w1.alloc (.cells #[.slice (some ⟨wr.heap.size, 0, none⟩) p.n (p.n + 40)] 22)).cell? (ad.add jj) = some u := fun ad had => by cases had; exact cell_one_new _ _ _
      have HCN := hide hcn
      have HC1 := hide hc1
      have hsz : w.heap.size ≤ w1.heap.size := HB1.out.below.size
      have hnone : p.a = none → p.n = 0 ∧ p.c = 0 := fun h => by have h1 := HPB.out.nil h; have h2 := HPB.out.le; omega
      have HNO := hide hnone
      have hnl : (u8s p.zs).length = p.n * 1 := by simp [HPB.out.len]
      clear hcn hc1 hnone
      go_wp2_with (first
        | (at_builtin; refine wpList_append_kept _ rfl (.tmp 15) (.tmp 21) 32 rfl w.heap.size 22 i1 (.slice none 0 0) 24 Try.underlying32 hi' hy0 hy1 hy2 rfl _ k _ rfl HB2.out.own (some ⟨w1.heap.size, 0, none⟩) 1 1 [Value.slice (some ⟨wr.heap.size, 0, none⟩) p.n (p.n + 40)] rfl rfl (fun h => by cases h) HCN.out HC1.out (by unfold maxLen; omega) (by omega) (by simp; omega) ?_; intro v' w2 hown2 hgr2; have HB3 := hide (HB2.out.laid (by rw [EV.out]; exact hown2) hgr2); clear hown2 hgr2; have g2 := HC.out w2 HB3.out.below; have HNW := hide (HPB.out.later HB3.out.below).news; have HW3 := hide (by have h := HB3.out.want; rw [HLL.out] at h; exact h : w2.ownsRow w.heap.size 5 1 vw LL (u8s (joined (ps.take k)))))
        | (at_builtin; refine wpList_append_kept _ rfl (.tmp 23) (.tmp 27) 22 rfl w.heap.size 5 i0 (.int .u8 0) 1 Try.underlying22 hi hz0 hz1 hz2 rfl _ LL _ rfl HW3.out p.a p.n p.c (u8s p.zs) rfl hnl HNO.out HNW.out (ints_oneCell _ _) (by unfold maxLen; omega) (by omega) HB3.out.below.size ?_; intro v'' w3 hown3 hgr3))
      have HB4 := hide (HB3.out.wanted HJ.out HLL.out HPB.out.len hown3 hgr3)
      clear hown3 hgr3
      go_roundw
      case rel => exact ⟨k + 1, _, _, _, by omega, by go_num, rfl, rfl, HB4.out⟩
      case measure => simp [intOf]; omega
    · obtain rfl : k = n := by omega
      have hzz : ∀ j, j < k → (∀ z ∈ (pt ps j).zs, 0 ≤ z ∧ z ≤ 255) ∧ (pt ps j).zs.length = (pt ps j).n := fun j hj => by
        have h := HP.out.part _ (pt_mem (by rw [HLEN.out]; exact hj))
        exact ⟨h.byte, h.len⟩
      have HZZ := hide hzz
      obtain ⟨va, vc, rfl, hParts, hvb⟩ := HB.out.parts hzz
      have et : ps.take k = ps := List.take_of_length_le (by rw [HLEN.out]; exact Nat.le_refl _)
      have hw0 := HB.out.want
      rw [et] at hw0
      obtain ⟨wa, wc, rfl, hWB, _⟩ := Bytes.of_owns hw0 (fun z hz => by
        simp only [joined, List.mem_flatten, List.mem_map] at hz
        obtain ⟨l, ⟨p, hp, rfl⟩, hz⟩ := hz
        exact (HP.out.part p hp).byte z hz)
      have ej : joined (rooms ps G k) = joined ps := by rw [← HLEN.out]; exact joined_rooms ps G
      have EJ := hide ej
      have HPA := hide hParts
      have HVB := hide hvb
      have HWB := hide hWB
      obtain ⟨W0, hW0⟩ : ∃ W0, W0 = wr := ⟨_, rfl⟩
      subst hW0
      have HBL : Hid (Below w.heap.size w W0) := HB.out.below
      have HRM : Hid (∀ j, j < k → Room W0 w.heap.size ps G j) := HB.out.room
      have hLs := HSUM.out
      obtain ⟨LL, hLL⟩ : ∃ LL, (joined ps).length = LL := ⟨_, rfl⟩
      have HLL := hide hLL
      rw [hLL] at hLs HWB ⊢
      clear hlt hk hParts hvb hWB hw0 et ej hzz HB hLL
      go_wp2_with fail
      refine (join_any va k vc (rooms ps G k) _ HPA.out (by unfold maxLen; omega) (by rw [EJ.out, HLL.out]; omega)).mono ?_
      rw [EJ.out, HLL.out]
      rintro e w1 ⟨rfl, hown1, hb1⟩
      have HO1 := hide hown1
      have HB1 : Hid (Below W0.heap.size W0 w1) := hb1
      have hs1 : W0.heap.size ≤ w1.heap.size := hb1.size
      have hs1' : W0.heap.size < w1.heap.size := (hown1.lt W0.heap.size rfl).2
      clear hown1 hb1
      go_wp2_with fail
      refine (join_any va k vc (rooms ps G k) _ (HPA.out.later HB1.out) (by unfold maxLen; omega) (by rw [EJ.out, HLL.out]; omega)).mono ?_
      rw [EJ.out, HLL.out]
      rintro e w2 ⟨rfl, hown2, hb2⟩
      have HO2 := hide hown2
      have HA2 := hide (owns_later HO1.out hb2)
      have HB2 : Hid (Below W0.heap.size W0 w2) := below_step HB1.out hb2
      have hs2' : w1.heap.size < w2.heap.size := (hown2.lt w1.heap.size rfl).2
      clear hown2 hb2 HO1
      go_wp2_with fail
      refine (awake_any _).mono ?_
      rintro e w3 ⟨rfl, hb3⟩
      have HO3 := hide (owns_later HO2.out hb3)
      have HA3 := hide (owns_later HA2.out hb3)
      have HB3 : Hid (Below W0.heap.size W0 w3) := below_step HB2.out hb3
      have hs3 : w2.heap.size ≤ w3.heap.size := hb3.size
      clear hb3 HO2 HA2
      have hjb : ∀ z ∈ joined ps, 0 ≤ z ∧ z ≤ 255 := fun z hz => by
        simp only [joined, List.mem_flatten, List.mem_map] at hz
        obtain ⟨l, ⟨p, hp, rfl⟩, hz⟩ := hz
        exact (HP.out.part p hp).byte z hz
      have HRA : Hid (Bytes w3 (some ⟨W0.heap.size, 0, none⟩) LL LL (joined ps)) := by
        obtain ⟨a9, c9, hv, hB9, _⟩ := Bytes.of_owns HA3.out hjb
        simp only [Value.slice.injEq] at hv
        obtain ⟨rfl, _, rfl⟩ := hv
        exact hB9
      have HRB : Hid (Bytes w3 (some ⟨w1.heap.size, 0, none⟩) LL LL (joined ps)) := by
        obtain ⟨a9, c9, hv, hB9, _⟩ := Bytes.of_owns HO3.out hjb
        simp only [Value.slice.injEq] at hv
        obtain ⟨rfl, _, rfl⟩ := hv
        exact hB9
      have HRW := hide (HWB.out.later HB3.out)
      clear hjb
      go_wp2_with fail
      refine (same_self (some ⟨W0.heap.size, 0, none⟩) wa LL LL LL wc (joined ps) _ HRA.out HRW.out).mono ?_
      rintro e w4 ⟨rfl, q1, rfl⟩
      go_wp2_with fail
      refine (same_self (some ⟨w1.heap.size, 0, none⟩) wa LL LL LL wc (joined ps) _ (HRB.out.drewN q1) (HRW.out.drewN q1)).mono ?_
      rintro e w5 ⟨rfl, q2, rfl⟩
      clear HRA HRB HRW
      go_wp2_with fail
      go_loopw [8] (fun i wx => ∃ t q : Nat, t ≤ k ∧ i = .int .i64 t ∧ wx = w3.drewN q) (fun i _ => k - (intOf i).toNat)
      case atStart => exact ⟨0, q1 + q2, Nat.zero_le _, rfl, by simp⟩
      case round =>
        obtain ⟨t, q, ht, rfl, hq⟩ := hrel
        have HQ := hide hq
        have hbq : Below w3.heap.size w3 wr := by rw [hq]; exact below_drewN (Below.refl _ _) q
        have HBQ := hide hbq
        clear hq hbq
        by_cases htk : t < k
        · obtain ⟨vb, rfl, hvlt, hvc⟩ := HVB.out (by omega)
          have hk' : t < ps.length := by rw [HLEN.out]; exact htk
          obtain ⟨b, off, rfl, hbw, hcell⟩ := HP.out.at (by omega)
          obtain ⟨p, hpp⟩ : ∃ p, p = pt ps t := ⟨_, rfl⟩
          have ep : ps[t] = p := by rw [hpp]; simp [pt, List.getD, hk']
          have c1 : wr.cell? ⟨vb, t, none⟩ = some (.slice (some ⟨G t, 0, none⟩) p.n (p.n + 40)) := by rw [hpp]; exact ((below_step HB3.out HBQ.out).cell (p := ⟨vb, t, none⟩) hvlt).trans (hvc t htk)
          have c2 : wr.cell? ⟨b, off + t, none⟩ = some (.slice p.a p.n p.c) := by
            have hbl : Below w.heap.size w wr := below_step (below_step HBL.out HB3.out) HBQ.out
            rw [hbl.cell (p := ⟨b, off + t, none⟩) hbw, hcell t hk', ep]
          have HRr : Hid (Bytes wr (some ⟨G t, 0, none⟩) (p.n + 40) (p.n + 40) (p.zs ++ marks)) := by
            rw [hpp]; exact room_bytes (owns_later' (HRM.out t htk) (below_step HB3.out HBQ.out)) (HZZ.out t htk).1
          have HRp : Hid (Bytes wr p.a p.n p.c p.zs) := by
            rw [hpp]; exact (HP.out.part _ (pt_mem hk')).later (below_step (below_step HBL.out HB3.out) HBQ.out)
          clear hcell ep hk' hvc hpp
          go_wp2_with fail
          go_quiet ((go_at_call 17; exact Calls.quiet_of (held_any (G t) 0 p.n (p.n + 40) p.a p.c p.zs _ (HRr.out.drewN _) (HRp.out.drewN _))))
          go_wp2_with fail
          go_roundw
          case rel => exact ⟨t + 1, _, by omega, by go_num, by rw [HQ.out, World.drewN_drewN]⟩
          case measure => simp [intOf]; omega
        · go_wp2_with fail
          have hs4 : w3.heap.size ≤ wr.heap.size := HBQ.out.size
          have HBA : Hid (Below w.heap.size w wr) := below_step (below_step HBL.out HB3.out) HBQ.out
          have hW0 : w.heap.size ≤ W0.heap.size := HBL.out.size
          have HOA := hide (owns_later HA3.out HBQ.out)
          have HOB := hide (owns_later HO3.out HBQ.out)
          have hbx : Below wr.heap.size wr (wr.alloc (.cells #[.slice (some ⟨W0.heap.size, 0, none⟩) LL LL, .slice (some ⟨w1.heap.size, 0, none⟩) LL LL] 22)).drew := (below_alloc wr _).drew
          have HBX := hide hbx
          have HAP : Hid (Calls Try.prog 18 #[.slice (some ⟨wr.heap.size, 0, none⟩) 2 2] (wr.alloc (.cells #[.slice (some ⟨W0.heap.size, 0, none⟩) LL LL, .slice (some ⟨w1.heap.size, 0, none⟩) LL LL] 22)).drew fun e w' => e = .returned (.bool true) ∧
              Keeps (wr.alloc (.cells #[.slice (some ⟨W0.heap.size, 0, none⟩) LL LL, .slice (some ⟨w1.heap.size, 0, none⟩) LL LL] 22)).drew w' (Of 2 (two W0.heap.size w1.heap.size))) :=
            apart_any _ 2 2 _ _ _ _ (lists_two (by simp) (by simp) (by simp) (owns_later HOA.out hbx) (owns_later HOB.out hbx) (by omega) (by omega) (by omega) hLs)
          clear hbx
          have HKB : Hid (∀ w', Keeps (wr.alloc (.cells #[.slice (some ⟨W0.heap.size, 0, none⟩) LL LL, .slice (some ⟨w1.heap.size, 0, none⟩) LL LL] 22)).drew w' (Of 2 (two W0.heap.size w1.heap.size)) → Below w.heap.size w w') := fun w' hk =>
            (below_step HBA.out HBX.out).trans (hk.below (Nat.le_trans HBA.out.size HBX.out.size) (fun x hx => by rcases of_two hx with rfl | rfl <;> omega))
          by_cases hk0 : k = 0
          · have hkk : ((k : Int) == 0) = true := by simp; omega
            clear hk0
            clear HPS HSUM hi hz0 hz1 hz2 hi' hy0 hy1 hy2 HWB HLL HB1 HB2 HB3 HO3 HA3 HOA HOB HRM HZZ HPA EJ HBL HQ HBQ HVB HP HLEN HBA HBX
            refine wp_region_any (by kernel_rfl) ?_
            change wpAny _ _ _ _ _ _ _ (World.drew _)
            refine wpAny_take (i := 0) (v := .slice (some ⟨W0.heap.size, 0, none⟩) LL LL) rfl (by kernel_rfl) (by kernel_rfl) (by kernel_rfl) (fun _ _ _ h => h) (Or.inl ⟨by rfl, fun w => by go_simp⟩) ?_
            refine wpAny_take (i := 1) (v := .slice (some ⟨w1.heap.size, 0, none⟩) LL LL) rfl (by kernel_rfl) (by kernel_rfl) (by kernel_rfl) (fun _ _ _ h => h) (Or.inl ⟨by rfl, fun w => by go_simp⟩) ?_
            refine wpAny_ready (rs := [2]) (by kernel_rfl) (by simp) (AllReady.cons rfl (fun K hK => ?_) AllReady.nil)
            go_simp
            refine hK _ _ ?_
            clear hK K
            refine wpAny_ready (rs := [3]) (by kernel_rfl) (by simp) (AllReady.cons rfl (fun K hK => ?_) AllReady.nil)
            go_simp
            go_wp2_with (go_at_call 18; refine HAP.out.mono ?_; rintro e w6 ⟨rfl, hk6⟩; have HK6 := hide hk6; clear hk6)
            refine wpAny_take (i := 4) (v := .bool true) rfl (by kernel_rfl) (by kernel_rfl) (by kernel_rfl) (fun _ _ _ h => h) (Or.inl ⟨by rfl, fun w => by go_simp⟩) ?_
            refine wpAny_take (i := 5) (v := .slice va k vc) rfl (by kernel_rfl) (by kernel_rfl) (by kernel_rfl) (fun _ _ _ h => h) (Or.inl ⟨by rfl, fun w => by go_simp⟩) ?_
            refine wpAny_take (i := 6) (v := .int .i64 k) rfl (by kernel_rfl) (by kernel_rfl) (by kernel_rfl) (fun _ _ _ h => h) (Or.inl ⟨by rfl, fun w => by go_simp⟩) ?_
            refine wpAny_take (i := 7) (v := .bool true) rfl (by kernel_rfl) (by kernel_rfl) (by kernel_rfl) (fun _ _ _ h => h) (Or.inl ⟨by rfl, fun w => by go_simp⟩) ?_
            refine wpAny_take (i := 8) (v := .bool true) rfl (by kernel_rfl) (by kernel_rfl) (by kernel_rfl) (fun _ _ _ h => h) (Or.inl ⟨by rfl, fun w => by go_simp⟩) ?_
            refine wpAny_take (i := 9) (v := undef) rfl (by kernel_rfl) (by kernel_rfl) (by kernel_rfl) (fun _ _ _ h => h) (Or.inr ⟨by simp [Region.wanted, yielded, Act.put], rfl⟩) ?_
            refine wpAny_take (i := 12) (v := undef) rfl (by kernel_rfl) (by kernel_rfl) (by kernel_rfl) (fun _ _ _ h => h) (Or.inr ⟨by simp [Region.wanted, yielded, Act.put], rfl⟩) ?_
            refine wpAny_take (i := 10) (v := undef) rfl (by kernel_rfl) (by kernel_rfl) (by kernel_rfl) (fun _ _ _ h => h) (Or.inr ⟨by simp [Region.wanted, yielded, Act.put], rfl⟩) ?_
            refine wpAny_take (i := 13) (v := undef) rfl (by kernel_rfl) (by kernel_rfl) (by kernel_rfl) (fun _ _ _ h => h) (Or.inr ⟨by simp [Region.wanted, yielded, Act.put], rfl⟩) ?_
            refine wpAny_take (i := 11) (v := undef) rfl (by kernel_rfl) (by kernel_rfl) (by kernel_rfl) (fun _ _ _ h => h) (Or.inr ⟨by simp [Region.wanted, yielded, Act.put], rfl⟩) ?_
            refine wpAny_take (i := 14) (v := undef) rfl (by kernel_rfl) (by kernel_rfl) (by kernel_rfl) (fun _ _ _ h => h) (Or.inr ⟨by simp [Region.wanted, yielded, Act.put], rfl⟩) ?_
            refine wpAny_take (i := 15) (v := undef) rfl (by kernel_rfl) (by kernel_rfl) (by kernel_rfl) (fun _ _ _ h => h) (Or.inr ⟨by simp [Region.wanted, yielded, Act.put], rfl⟩) ?_
            refine wpAny_take (i := 16) (v := .bool true) rfl (by kernel_rfl) (by kernel_rfl) (by kernel_rfl) (fun _ _ _ h => h) (Or.inl ⟨by simp [Region.wanted, yielded, Act.put], fun w => by go_simp⟩) ?_
            refine wpAny_take (i := 17) (v := .bool true) rfl (by kernel_rfl) (by kernel_rfl) (by kernel_rfl) (fun _ _ _ h => h) (Or.inl ⟨by rfl, fun w => by go_simp⟩) ?_
            refine wpAny_take (i := 18) (v := .bool true) rfl (by kernel_rfl) (by kernel_rfl) (by kernel_rfl) (fun _ _ _ h => h) (Or.inl ⟨by rfl, fun w => by go_simp⟩) ?_
            refine wpAny_done (by kernel_rfl) ?_ _
            go_simp
            go_wp2_with fail
            go_ret
            exact ⟨rfl, HKB.out _ HK6.out⟩
          · obtain ⟨vb, rfl, hvlt, hvc⟩ := HVB.out hk0
            have hk' : 0 < ps.length := by rw [HLEN.out]; omega
            obtain ⟨b, off, rfl, hbw, hcell⟩ := HP.out.at hk0
            obtain ⟨p, hpp⟩ : ∃ p, p = pt ps 0 := ⟨_, rfl⟩
            have ep : ps[0] = p := by rw [hpp]; simp [pt, List.getD, hk']
            have hkk : ((k : Int) == 0) = false := by simp; omega
            have hk1 : 0 < k := by omega
            have c1 : wr.cell? ⟨vb, 0, none⟩ = some (.slice (some ⟨G 0, 0, none⟩) p.n (p.n + 40)) := by rw [hpp]; exact ((below_step HB3.out HBQ.out).cell (p := ⟨vb, 0, none⟩) hvlt).trans (hvc 0 (by omega))
            have c2 : wr.cell? ⟨b, off, none⟩ = some (.slice p.a p.n p.c) := by
              rw [HBA.out.cell (p := ⟨b, off, none⟩) hbw]
              have := hcell 0 hk'
              rw [Nat.add_zero, ep] at this
              exact this
            have hG0 : w.heap.size ≤ G 0 ∧ G 0 < W0.heap.size := (HRM.out 0 (by omega)).lt (G 0) rfl
            have HRr : Hid (Bytes wr (some ⟨G 0, 0, none⟩) (p.n + 40) (p.n + 40) (p.zs ++ marks)) := by
              rw [hpp]; exact room_bytes (owns_later' (HRM.out 0 (by omega)) (below_step HB3.out HBQ.out)) (HZZ.out 0 (by omega)).1
            have HP0 : Hid (Bytes w p.a p.n p.c p.zs) := by rw [hpp]; exact HP.out.part _ (pt_mem hk')
            have HBX2 := HBX
            have hvb2 : vb ≠ W0.heap.size ∧ vb ≠ w1.heap.size := ⟨by omega, by omega⟩
            have hbb2 : b ≠ W0.heap.size ∧ b ≠ w1.heap.size := ⟨by omega, by omega⟩
            have HC6 : Hid (∀ w6, Keeps (wr.alloc (.cells #[.slice (some ⟨W0.heap.size, 0, none⟩) LL LL, .slice (some ⟨w1.heap.size, 0, none⟩) LL LL] 22)).drew w6 (Of 2 (two W0.heap.size w1.heap.size)) →
                w6.cell? ⟨vb, 0, none⟩ = some (.slice (some ⟨G 0, 0, none⟩) p.n (p.n + 40)) ∧ w6.cell? ⟨b, off, none⟩ = some (.slice p.a p.n p.c) ∧ Bytes w6 (some ⟨G 0, 0, none⟩) (p.n + 40) (p.n + 40) (p.zs ++ marks) ∧ Bytes w6 p.a p.n p.c p.zs) := fun w6 hk6 => by
              have hvw : vb < wr.heap.size := by omega
              have hbw' : b < wr.heap.size := by have := HBA.out.size; omega
              have hsx := HBX.out.size
              refine ⟨?_, ?_, (HRr.out.later HBX.out).keeps hk6 (fun x hx _ hS => by cases hx; rcases of_two hS with e | e <;> simp at e <;> omega), (HP0.out.later (below_step HBA.out HBX.out)).keeps hk6 (fun x hx hn hS => ?_)⟩
              · exact (hk6.cell (p := ⟨vb, 0, none⟩) (show vb < _ by omega) (fun hS => by rcases of_two hS with e | e <;> simp at e <;> omega)).trans ((HBX.out.cell (p := ⟨vb, 0, none⟩) hvw).trans c1)
              · exact (hk6.cell (p := ⟨b, off, none⟩) (show b < _ by omega) (fun hS => by rcases of_two hS with e | e <;> simp at e <;> omega)).trans ((HBX.out.cell (p := ⟨b, off, none⟩) hbw').trans c2)
              · obtain ⟨b7, o7, e7, hlt7, _⟩ := HP0.out.at hn
                rw [hx] at e7
                cases e7
                rcases of_two hS with e | e <;> simp at e <;> omega
            have hvlt2 : vb < wr.heap.size := by omega
            have hblt2 : b < wr.heap.size := by have := HBA.out.size; omega
            clear hcell ep hk' hvc hpp hvb2 hbb2 hG0
            clear HPS HSUM hi hz0 hz1 hz2 hi' hy0 hy1 hy2 HWB HLL HB1 HB2 HB3 HO3 HA3 HOA HOB HRM HZZ HPA EJ HBL HQ HBQ HVB HBX2 HP0 HRr HP HLEN HBA HBX
            go_region_held3 (fun w' => w'.cell? ⟨vb, 0, none⟩ = some (.slice (some ⟨G 0, 0, none⟩) p.n (p.n + 40)) ∧ w'.cell? ⟨b, off, none⟩ = some (.slice p.a p.n p.c))
              (first | exact ⟨d1, d2⟩ | (simp [go_sem, World.cell?_alloc_past, c1, c2, hvlt2, hblt2]; done))
              (first
              | (go_at_call 18; refine HAP.out.mono ?_; rintro e w6 ⟨rfl, hk6⟩; have HK6 := hide hk6; obtain ⟨d1, d2, d3, d4⟩ := HC6.out w6 hk6; have D3 := hide d3; have D4 := hide d4; clear hk6 d3 d4)
              | (go_at_call 17; refine (held_any (G 0) 0 p.n (p.n + 40) p.a p.c p.zs _ D3.out D4.out).mono ?_; rintro e w7 ⟨rfl, q7, rfl⟩))
            all_goals go_wp2_with fail
            all_goals go_ret
            all_goals exact ⟨rfl, below_drewN (HKB.out _ HK6.out) _⟩

/-- Each value counts one at least. -/
theorem blk_pos {H : Type} (d : DataW H) : 1 ≤ Rows.uptoBulk d := by
  cases d with
  | lit l => cases l <;> simp [Rows.uptoBulk]
  | _ => simp [Rows.uptoBulk]
theorem blk_length {H : Type} (l : List (DataW H)) : l.length ≤ Rows.uptoBulkAll l := by
  induction l with
  | nil => simp [Rows.uptoBulkAll]
  | cons x r ih => have := blk_pos x; simp only [Rows.uptoBulkAll, List.length_cons]; omega
theorem blk_part {H : Type} {d : DataW H} {l : List (DataW H)} (h : d ∈ l) : Rows.uptoBulk d ≤ Rows.uptoBulkAll l := by
  induction l with
  | nil => cases h
  | cons x r ih =>
    simp only [Rows.uptoBulkAll]
    cases List.mem_cons.1 h with
    | inl e => subst e; omega
    | inr e => have := ih e; omega

theorem cells22 : Try.prog.cellsOf 22 = 1 := by kernel_rfl

/-- What a byte slice's reading counts at least. -/
theorem bytes_blk {H : Type} {n : Nat} {zs : List Int} {d : DataW H} (hl : zs.length = n) (hd : (d = .nil ∧ n = 0) ∨ ∃ spare, d = .slice (lits .u8 zs) spare) : n + 1 ≤ Rows.uptoBulk d := by
  rcases hd with ⟨rfl, rfl⟩ | ⟨spare, rfl⟩
  · simp [Rows.uptoBulk]
  · have h2 := blk_length (lits (H := H) .u8 zs)
    simp only [lits, List.length_map] at h2
    simp only [Rows.uptoBulk, lits]
    omega

theorem open_cell {H : Type} {enc : TypeId × Value → H} {W : World} {v : Value} {fuel : Nat} {d : DataW H} {p : List MemPlace}
    (h : DataW.trod enc Try.prog W 0 (fun _ => true) true fuel 22 [v] = some (d, p)) :
    ∃ q : Part, v = q.v ∧ Bytes W q.a q.n q.c q.zs ∧ q.n + 1 ≤ Rows.uptoBulk d := by
  have shape : ∃ a n c, v = .slice a n c := by
    rcases open_ints Try.underlying22 Try.underlying5 cells5 h with ⟨hcs, _⟩ | ⟨x, l, c', zs, hcs, _⟩
    · simp at hcs; exact ⟨_, _, _, hcs⟩
    · simp at hcs; exact ⟨_, _, _, hcs⟩
  obtain ⟨a, n, c, rfl⟩ := shape
  obtain ⟨zs, hB, hd⟩ := open_bytes (enc := enc) (W := W) (a := a) (n := n) (c := c) (d := d) (p := p) ⟨fuel, by simpa [Value.cells] using h⟩
  exact ⟨⟨a, n, c, zs⟩, rfl, hB, bytes_blk hB.len hd⟩

theorem sum_blk {H : Type} (f : Nat → Part) (D : Nat → DataW H) (l : List Nat) (h : ∀ i ∈ l, (f i).zs.length + 1 ≤ Rows.uptoBulk (D i)) : (joined (l.map f)).length ≤ Rows.uptoBulkAll (l.map D) := by
  induction l with
  | nil => simp [joined]
  | cons x r ih =>
    have h1 := h x (by simp)
    have h2 := ih (fun i hi => h i (by simp [hi]))
    have e : joined ((x :: r).map f) = (f x).zs ++ joined (r.map f) := by simp [joined]
    rw [e, List.length_append, List.map_cons]
    simp only [Rows.uptoBulkAll]
    omega

/-- The parts that came in, and what the bound gives. -/
theorem open_parts {H : Type} {enc : TypeId × Value → H} {W : World} {a : Option Addr} {n c : Nat} {d : DataW H} {p : List MemPlace}
    (h : DataW.Trod enc Try.prog W 0 (fun _ => true) true 32 (.slice a n c) d p) (hk : Rows.uptoSmall H [d] = true) :
    ∃ ps, Parts W a n ps ∧ n ≤ 1048576 ∧ (joined ps).length ≤ 1048576 ∧ ∀ q ∈ ps, q.n ≤ 1048576 := by
  obtain ⟨fuel, hf⟩ := h
  have hbulk : Rows.uptoBulkAll [d] ≤ 1048576 := of_decide_eq_true hk
  rcases Deep.open_slice1 Try.underlying32 cells22 hf with ⟨hcs, hx⟩ | ⟨x, l, c', m, fl, V, D, Pl, hcs, _, hl, hm, hmm, hx, hcell⟩
  · simp [Value.cells] at hcs
    obtain ⟨rfl, rfl, rfl⟩ := hcs
    exact ⟨[], ⟨rfl, .inl rfl, by simp⟩, by omega, by simp [joined], by simp⟩
  · simp [Value.cells] at hcs
    obtain ⟨rfl, rfl, rfl⟩ := hcs
    simp only [Prod.mk.injEq] at hx
    simp only [if_true] at hmm
    subst hmm
    have each : ∀ i, i < n → ∃ q : Part, V i = q.v ∧ Bytes W q.a q.n q.c q.zs ∧ q.n + 1 ≤ Rows.uptoBulk (D i) := fun i hi => open_cell (hcell i (by omega)).2
    have inh : Inhabited Part := ⟨noPart⟩
    obtain ⟨f, hfq⟩ := Deep.choose_lt each
    have hb1 : Rows.uptoBulkAll ((List.range n).map D) + 1 ≤ 1048576 := by
      rw [hx.1] at hbulk
      simp only [Rows.uptoBulkAll, Rows.uptoBulk] at hbulk
      omega
    have hmem : ∀ i ∈ List.range n, (f i).zs.length + 1 ≤ Rows.uptoBulk (D i) := fun i hi => by
      have h1 := hfq i (List.mem_range.1 hi)
      rw [h1.2.1.len]; exact h1.2.2
    have hlen := blk_length ((List.range n).map D)
    simp only [List.length_map, List.length_range] at hlen
    refine ⟨(List.range n).map f, ⟨by simp, ?_, fun q hq => ?_⟩, by omega, by have := sum_blk f D (List.range n) hmem; omega, fun q hq => ?_⟩
    · by_cases h0 : n = 0
      · exact .inl h0
      · obtain ⟨b, off, spot⟩ := x
        have hspot : spot = none := by simpa [Addr.add] using World.cell?_spot (hcell 0 (by omega)).1
        subst hspot
        refine .inr ⟨b, off, rfl, fun i hi => ?_⟩
        have hi' : i < n := by simpa using hi
        have h1 := (hcell i (by omega)).1
        rw [Addr.add_lit, (hfq i hi').1] at h1
        rw [h1]; simp
    · obtain ⟨i, hi, rfl⟩ := List.mem_map.1 hq
      exact (hfq i (List.mem_range.1 hi)).2.1
    · obtain ⟨i, hi, rfl⟩ := List.mem_map.1 hq
      have h1 := (hfq i (List.mem_range.1 hi)).2.2
      have h2 := blk_part (List.mem_map.2 ⟨i, hi, rfl⟩ : D i ∈ (List.range n).map D)
      omega

theorem joins_contract (H : Type) (enc : TypeId × Value → H) (W : World) (base : Nat) (args : Array Value) (ds gs : List (DataW H)) (before : List MemPlace)
    (hval : ∀ (j : Nat) t v, Try.f4.params[j]? = some t → args[j]? = some v → Value.okWide Try.prog W .any base t v)
    (hW : DataW.Whole enc Try.prog Try.f4.params.toList Rows.octetJoinsSpec.vars false W args.toList ds gs before) (hk : Rows.uptoSmall H (ds ++ gs) = true) :
    Calls Try.prog 4 args W fun e W' => ∃ v, e = .returned v ∧ Rows.octetJoinsSpec.post enc Try.prog Try.f4 false true false false W args v W' := by
  have hW' := hW
  obtain ⟨p, q, hA0, hV, rfl, hfz, hnd⟩ := hW
  have hA : DataW.TrodAll enc Try.prog W 0 (fun _ => true) true Try.f4.params.toList args.toList ds p := hA0
  rw [Try.params4] at hA hval
  obtain ⟨v0, vs0, d0, ds0, p0, q0, hargs, rfl, rfl, h0, r0⟩ := trodAll_cons hA
  obtain ⟨rfl, rfl, rfl⟩ := trodAll_nil r0
  obtain rfl : args = #[v0] := by cases args; simp_all
  obtain ⟨rfl, rfl⟩ := trodVars_none hV
  obtain ⟨a0, n, c, rfl⟩ := okWide_slice Try.underlying32 (hval 0 32 v0 rfl rfl)
  have k0 := h0
  have lt0 : ∀ x ∈ p0, x.block < W.heap.size := by obtain ⟨m, hm⟩ := k0; exact DataW.trod_lt m _ _ _ hm
  obtain ⟨ps, hp, h1, h2, h3⟩ := open_parts h0 hk
  clear hA0
  refine (joins_walk a0 n c ps W hp h1 h2 h3).mono fun e W' ⟨he, bel⟩ => ?_
  subst he
  exact ⟨_, rfl, _, _, _, [], _, [], hW', trodAll_mk1 (shut_bool Try.underlying4 _), trodAll_cons_mk (Below.trod laidOut (by kernel_rfl) (of_decide_eq_true (by kernel_rfl)) k0 bel lt0) trodAll_mk0, rfl, bel.frame _, fun h => by cases h⟩

set_option maxRecDepth 100000 in
theorem octetJoins_lifted (os : Os) (started : os.Started) (H : Type) (enc : TypeId × Value → H) (F : Stop.Interp) :
    ReturnsInHanded {} Try.checked os 4 .any ((Rows.OpenSpec.upto Rows.octetJoinsSpec).pre6 enc Try.prog Try.f4 Rows.octetJoinsUptoRow.domain false) (((Rows.OpenSpec.upto Rows.octetJoinsSpec).at F).post enc Try.prog Try.f4 false true false false) := by
  refine returnsInHanded_of_cond (C := Try.checked) (s := Rows.OpenSpec.upto Rows.octetJoinsSpec) (k := Rows.uptoSmall) rfl own started (by kernel_rfl) Try.func4
    (OpenSpec.witness (enc := enc) (C := Try.checked) (s := Rows.OpenSpec.upto Rows.octetJoinsSpec) (k := Rows.uptoSmall) rfl false ⟨#[], #[.slice none 0 0], []⟩ 8 (by kernel_rfl) (by kernel_rfl) (by kernel_rfl)
      (x := ([.nil], [], [])) (by kernel_rfl) rfl (by kernel_rfl)) ?_
  intro W base args ds gs before hval hW _ hk _
  exact joins_contract H enc W base args ds gs before hval hW hk

theorem octetJoins_holds : Rows.OctetJoinsUptoSaid :=
  OpenClaim.holds_of_cond 4 Try.f4 rfl rfl rfl rfl rfl rfl rfl ⟨rfl, rfl, rfl, rfl, rfl⟩ rfl rfl rfl rfl rfl (by kernel_rfl) Try.func4 (by kernel_rfl)
    (of_decide_eq_true (by kernel_rfl)) (by unfold Func.isWrapper; first | (rw [if_pos (by decide +kernel)]; kernel_rfl) | (rw [if_neg (by decide +kernel)]; exact ⟨rfl, rfl⟩))
    (fun os started H enc _ F => octetJoins_lifted os started H enc F)
#print axioms octetJoins_holds

end Go.Proofs.Ytibaejoonmedjaa

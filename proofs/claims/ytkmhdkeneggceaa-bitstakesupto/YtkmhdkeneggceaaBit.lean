/-
  The walk of Writer.bit: one bit more.
-/
import Derived.Test.YtkmhdkeneggceaaAppend
namespace Go.Proofs.Ytkmhdkeneggceaa
open Go.RowKit Bt
set_option linter.unusedVariables false

theorem u8s_snoc (zs : List Int) (z : Int) : u8s zs ++ [Value.int .u8 z] = u8s (zs ++ [z]) := by simp

/-- The bytes behind the room that is made for a bit. -/
structure Room (base : Nat) (w : World) (r g cap : Nat) (bs zs : List Int) : Prop where
  heap : w.heap[r]? = some (.cells #[.slice (some ⟨g, 0, none⟩) (bs.length / 8 + 1) cap, .int .i64 (bs.length : Nat)] 59 (0, 0))
  own : w.ownsRow base 5 1 (.slice (some ⟨g, 0, none⟩) (bs.length / 8 + 1) cap) (bs.length / 8 + 1) (u8s zs)
  at' : ∀ j, zs.getD j 0 = byteAt bs j

theorem room_old {base r : Nat} {v : Value} {bs : List Int} {w : World} (hW : Wr base w r v bs) (h8 : ¬ bs.length % 8 = 0) : ∃ g cap, v = .slice (some ⟨g, 0, none⟩) (bs.length / 8 + 1) cap ∧ Room base w r g cap bs (pack bs) := by
  have e : (bs.length + 7) / 8 = bs.length / 8 + 1 := by omega
  have ho := hW.own
  have hh := hW.heap
  rw [e] at ho
  have ho' := ho
  rcases ho.2 with ⟨rfl, h0⟩ | ⟨g, cap, cur, rfl, _⟩
  · omega
  · exact ⟨g, cap, rfl, hh, ho', fun j => pack_getD bs j⟩

theorem slice_of_owns {base e : Nat} {v : Value} {n : Nat} {w : World} {xs : List Value} (h : w.ownsRow base e 1 v (n + 1) xs) : ∃ g cap, v = .slice (some ⟨g, 0, none⟩) (n + 1) cap ∧ n + 1 ≤ cap := by
  rcases h.2 with ⟨rfl, h0⟩ | ⟨g, cap, cur, rfl, _, _, hc, _⟩
  · omega
  · exact ⟨g, cap, rfl, hc⟩

theorem getD_room {bs zs : List Int} (h8 : bs.length % 8 = 0) (hz : zs = pack bs ++ [0]) (j : Nat) : zs.getD j 0 = byteAt bs j := by
  subst hz
  rw [getD_snoc, pack_getD]
  split
  · rename_i h; rw [byteAt_out (by rw [h, pack_len]; omega)]
  · rfl

/-- The bit is laid. -/
theorem bit_or {bs : List Int} (hb : Bin bs) {b : Int} (hb0 : 0 ≤ b) (hb1 : b ≤ 1) :
    bits BinOp.or IntKind.u8 (byteAt bs (bs.length / 8)) (b * wt (bs.length % 8)) = byteAt bs (bs.length / 8) + b * wt (bs.length % 8) := by
  have hr := byteAt_range hb (bs.length / 8)
  have hm := byteAt_mod bs
  have h8 : bs.length % 8 < 8 := Nat.mod_lt _ (by decide)
  generalize byteAt bs (bs.length / 8) = x at *
  generalize bs.length % 8 = k at *
  obtain ⟨x, rfl⟩ := Int.eq_ofNat_of_zero_le hr.1
  have key : ∀ k, k < 8 → ∀ x : Nat, x < 256 → x % (2 * 2 ^ (7 - k)) = 0 → bits BinOp.or IntKind.u8 (x : Int) (wt k) = (x : Int) + wt k := by decide +kernel
  have key0 : ∀ x : Nat, x < 256 → bits BinOp.or IntKind.u8 (x : Int) 0 = (x : Int) := by decide +kernel
  have hb : b = 0 ∨ b = 1 := by omega
  rcases hb with rfl | rfl
  · rw [Int.zero_mul, Int.add_zero]; exact key0 x (by omega)
  · rw [Int.one_mul]
    refine key k h8 x (by omega) ?_
    have : ((x % (2 * 2 ^ (7 - k)) : Nat) : Int) = 0 := by
      rw [← hm]; unfold wt; push_cast; rfl
    omega

theorem room_new {base r : Nat} {v v' : Value} {bs : List Int} {w w2 : World} (hW : Wr base w r v bs) (h8 : bs.length % 8 = 0)
    (hown : w2.ownsRow base 5 1 v' ((bs.length + 7) / 8 + 1) (u8s (pack bs) ++ [.int .u8 0]))
    (hgr : (∃ g cap, v = .slice (some ⟨g, 0, none⟩) ((bs.length + 7) / 8) cap ∧ v' = .slice (some ⟨g, 0, none⟩) ((bs.length + 7) / 8 + 1) cap ∧ (w.alloc (.cells #[.int .u8 0] 5)).grownBy w2 (some g)) ∨ ((w.alloc (.cells #[.int .u8 0] 5)).grownBy w2 none ∧ ∀ g, v'.ownBlock = some g → (w.alloc (.cells #[.int .u8 0] 5)).heap.size ≤ g)) :
    ∃ g cap, v' = .slice (some ⟨g, 0, none⟩) (bs.length / 8 + 1) cap ∧ w2.heap[r]? = some (.cells #[v, .int .i64 (bs.length : Nat)] 59 (0, 0)) ∧
      Room base (w2.setCell ⟨r, 0, none⟩ (.slice (some ⟨g, 0, none⟩) (bs.length / 8 + 1) cap)) r g cap bs (pack bs ++ [0]) ∧ Goes w (w2.setCell ⟨r, 0, none⟩ (.slice (some ⟨g, 0, none⟩) (bs.length / 8 + 1) cap)) r v v' := by
  have e : (bs.length + 7) / 8 = bs.length / 8 := by omega
  rw [e] at hown
  obtain ⟨g, cap, rfl, _⟩ := slice_of_owns hown
  have hlt := hW.lt
  have hne := hW.ne
  have k1 : Keeps w w2 (Its r v) := by
    have k0 := (Keeps.refl w (Its r v)).grown (World.grownBy_alloc w (.cells #[.int .u8 0] 5) none) (fun k h => by cases h)
    rcases hgr with ⟨g', cap', hv, hv', hg⟩ | ⟨hg, _⟩
    · exact k0.grown hg (fun k hk => by cases hk; exact .inl (.inr (by rw [hv]; rfl)))
    · exact k0.grown hg (fun k hk => by cases hk)
  have hr2 : w2.heap[r]? = some (.cells #[v, .int .i64 (bs.length : Nat)] 59 (0, 0)) := by
    rcases hgr with ⟨g', cap', hv, hv', hg⟩ | ⟨hg, _⟩
    · rw [hg.block r (by simp; omega) (fun h => hne (by rw [hv]; simpa [Value.ownBlock] using h.symm)), heap_alloc_old w _ hlt]
      exact hW.heap
    · rw [hg.block r (by simp; omega) (fun h => by cases h), heap_alloc_old w _ hlt]
      exact hW.heap
  have hgne : g ≠ r := fun h => owns_not hown hr2 (by decide) (by simp [Value.ownBlock, h])
  refine ⟨g, cap, rfl, hr2, ⟨two_set0 hr2, ?_, getD_room h8 rfl⟩, k1.grown (grownBy_setCell ..) (fun k h => by cases h; exact .inl (.inl rfl)), ?_⟩
  · rw [← u8s_snoc]
    exact ownsRow_setCell_other hown (by simp [Value.ownBlock]; exact hgne) _
  · intro g' hg'
    simp only [Value.ownBlock, Option.some.injEq] at hg'
    subst hg'
    rcases hgr with ⟨g', cap', hv, hv', hg⟩ | ⟨hg, hge⟩
    · simp only [Value.slice.injEq, Option.some.injEq, Addr.mk.injEq, and_true] at hv'
      left
      rw [hv, hv'.1]; rfl
    · right
      have := hge g rfl
      simp at this
      omega

theorem grownBy_drew (w : World) : w.grownBy w.drew none := ⟨rfl, rfl, rfl, Nat.le_refl _, fun _ _ _ => rfl⟩

theorem room_done {base r g cap : Nat} {bs zs : List Int} {b : Int} {w : World} (hR : Room base w r g cap bs zs) (hbase : base ≤ r) (hbin : Bin bs) (hb0 : 0 ≤ b) (hb1 : b ≤ 1) :
    Wr base ((w.setCell ⟨g, bs.length / 8, none⟩ (.int .u8 (byteAt bs (bs.length / 8) + b * wt (bs.length % 8)))).drew.setCell ⟨r, 1, none⟩ (.int .i64 ((bs.length : Int) + 1))) r (.slice (some ⟨g, 0, none⟩) (bs.length / 8 + 1) cap) (bs ++ [b]) ∧
    Goes w ((w.setCell ⟨g, bs.length / 8, none⟩ (.int .u8 (byteAt bs (bs.length / 8) + b * wt (bs.length % 8)))).drew.setCell ⟨r, 1, none⟩ (.int .i64 ((bs.length : Int) + 1))) r (.slice (some ⟨g, 0, none⟩) (bs.length / 8 + 1) cap) (.slice (some ⟨g, 0, none⟩) (bs.length / 8 + 1) cap) := by
  have hgne : g ≠ r := fun h => owns_not hR.own hR.heap (by decide) (by simp [Value.ownBlock, h])
  have hlen : zs.length = bs.length / 8 + 1 := by simpa using hR.own.1
  have hst := hR.own.stored (bs.length / 8) (.int .u8 (byteAt bs (bs.length / 8) + b * wt (bs.length % 8)))
  have hp := pack_snoc bs b zs hlen hR.at'
  have hl : (bs ++ [b]).length = bs.length + 1 := by simp
  refine ⟨⟨?_, ?_, hbase, hbin.append (fun x hx => by simp at hx; subst hx; exact ⟨hb0, hb1⟩)⟩, ?_, fun g' h => .inl h⟩
  · rw [hl]
    refine two_set1 (x := .slice (some ⟨g, 0, none⟩) (bs.length / 8 + 1) cap) (y := .int .i64 (bs.length : Nat)) ?_
    show (w.setCell _ _).heap[r]? = _
    rw [Below.heap_setCell _ _ _ _ (fun e => hgne (by simpa using e.symm))]; exact hR.heap
  · rw [hl, hp, show (bs.length + 1 + 7) / 8 = bs.length / 8 + 1 by omega]
    refine ownsRow_setCell_other ?_ (by simp [Value.ownBlock]; exact hgne) _
    refine World.ownsRow.kept (w := w.setCell _ _) ?_ (grownBy_drew _) (Decidable.em _)
    simpa [u8s, List.map_set] using hst.1
  · exact ((Keeps.refl w _).grown hst.2 (fun k h => by cases h; exact .inl (.inr rfl))).grown (grownBy_drew _) (fun k h => by cases h) |>.grown (grownBy_setCell ..) (fun k h => by cases h; exact .inl (.inl rfl))

theorem Room.cell {base r g cap : Nat} {bs zs : List Int} {w : World} (h : Room base w r g cap bs zs) : w.cell? ⟨g, bs.length / 8, none⟩ = some (.int .u8 (byteAt bs (bs.length / 8))) := by
  have hlen : zs.length = bs.length / 8 + 1 := by simpa using h.own.1
  rw [h.own.cellAt (bs.length / 8) (by omega), ← h.at']
  simp [u8s, List.getD, hlen]

theorem bit_or' {bs : List Int} (hb : Bin bs) {b : Int} (hb0 : 0 ≤ b) (hb1 : b ≤ 1) :
    bits BinOp.or IntKind.u8 (byteAt bs (bs.length / 8)) (wrap64 (b * 2 ^ (7 - bs.length % 8)) % 256) = byteAt bs (bs.length / 8) + b * wt (bs.length % 8) := by
  rw [← bit_or hb hb0 hb1]
  have h8 : bs.length % 8 < 8 := Nat.mod_lt _ (by decide)
  generalize bs.length % 8 = k at *
  have key : ∀ k, k < 8 → wrap64 ((1 : Int) * 2 ^ (7 - k)) % 256 = wt k := by decide +kernel
  have hb : b = 0 ∨ b = 1 := by omega
  rcases hb with rfl | rfl
  · rw [Int.zero_mul, Int.zero_mul, show wrap64 0 % 256 = 0 by decide +kernel]
  · rw [key k h8, Int.one_mul]

set_option maxHeartbeats 2000000 in
theorem bit_any (base r : Nat) (v : Value) (bs : List Int) (b : Int) (w : World) (hW : Wr base w r v bs) (hb0 : 0 ≤ b) (hb1 : b ≤ 1) (hlen : bs.length < 1125899906842624) :
    Calls Try.prog 35 #[.pointer (some ⟨r, 0, none⟩), .int .i64 b] w fun e w' => e = .returned (.tuple #[]) ∧ ∃ v', Wr base w' r v' (bs ++ [b]) ∧ Goes w w' r v v' := by
  obtain ⟨i0, hi, hz0, hz1, hz2⟩ := info_parts info5
  have hc0 := two_cell0 hW.heap
  have hc1 := two_cell1 hW.heap
  have hf0 := two_free 0 hW.heap
  have hlt := hW.lt
  have HW := hide hW
  have hnn : v.ownBlock = none ∨ v.ownBlock ≠ none := Decidable.em _
  have HO1 : Hid ((w.alloc (.cells #[.int .u8 0] 5)).ownsRow base 5 1 v ((bs.length + 7) / 8) (u8s (pack bs))) := hide (hW.own.kept (World.grownBy_alloc w _ none) hnn)
  clear hW
  have hc1c : ∀ u ∈ [Value.int .u8 0], u.oneCell' = true := by simp [Value.oneCell']
  have HC : Hid (∀ ad, some (⟨w.heap.size, 0, none⟩ : Addr) = some ad → ∀ j u, [Value.int .u8 0][j]? = some u → (w.alloc (.cells #[.int .u8 0] 5)).cell? (ad.add j) = some u) := by
    refine hide fun ad hh j u hu => ?_
    cases hh
    have hj : j = 0 := by
      by_cases hj : j = 0
      · exact hj
      · simp [hj] at hu
    subst hj
    simp at hu
    subst hu
    simp [Addr.add]
  have hbs : base ≤ w.heap.size + 1 := by have := HW.out.base; omega
  by_cases h8 : bs.length % 8 = 0
  · have ht : (((bs.length : Int) % 8) == 0) = true := by simp; omega
    go_enter Try.func35, Try.ntmps35
    go_wp2_with (at_builtin; refine wpList_append_kept _ rfl _ _ 34 rfl base 5 i0 (.int .u8 0) 1 Try.underlying34 hi hz0 hz1 hz2 rfl v ((bs.length + 7) / 8) (u8s (pack bs)) rfl HO1.out (some ⟨w.heap.size, 0, none⟩) 1 1 [.int .u8 0] rfl rfl (fun h => by cases h) HC.out hc1c (by unfold maxLen; omega) (by omega) (by simpa using hbs) ?_; intro v' w2 hown' hgr; obtain ⟨g, cap, rfl, hr2, hR, hG⟩ := room_new HW.out h8 hown' hgr; clear hown' hgr; have c0 := two_cell0 hr2; have f0 := two_free 0 hr2; have HR := hide hR; have HG := hide hG; clear hR hG hr2)
    generalize w2.setCell ⟨r, 0, none⟩ (.slice (some ⟨g, 0, none⟩) (bs.length / 8 + 1) cap) = w3 at *
    clear c0 f0 hc0 hc1 hf0 HO1 HC hbs ht hlt hc1c
    have c0 := two_cell0 HR.out.heap
    have c1 := two_cell1 HR.out.heap
    have f1 := two_free 1 HR.out.heap
    have cg := HR.out.cell
    have fg := HR.out.own.frozenAt (bs.length / 8)
    have H8 := hide h8
    clear h8
    go_region
    rw [bit_or' HW.out.bin hb0 hb1]
    have HD := hide (room_done (b := b) HR.out HW.out.base HW.out.bin hb0 hb1)
    have hgne : ¬ r = g := fun h => owns_not HR.out.own HR.out.heap (by decide) (by simp [Value.ownBlock, h])
    go_wp2_with fail
    refine bodyPost_end (results_none rfl _ _ _) rfl ?_
    exact ⟨rfl, _, HD.out.1, HG.out.trans HD.out.2⟩
  · have ht : (((bs.length : Int) % 8) == 0) = false := by simp; omega
    obtain ⟨g, cap, rfl, hR⟩ := room_old HW.out h8
    have HR := hide hR
    clear hR
    have c0 := two_cell0 HR.out.heap
    have c1 := two_cell1 HR.out.heap
    have f1 := two_free 1 HR.out.heap
    have cg := HR.out.cell
    have fg := HR.out.own.frozenAt (bs.length / 8)
    have H8 := hide h8
    clear h8
    go_enter Try.func35, Try.ntmps35
    go_wp2_with fail
    go_region
    rw [bit_or' HW.out.bin hb0 hb1]
    have HD := hide (room_done (b := b) HR.out HW.out.base HW.out.bin hb0 hb1)
    have hgne : ¬ r = g := fun h => owns_not HR.out.own HR.out.heap (by decide) (by simp [Value.ownBlock, h])
    go_wp2_with fail
    refine bodyPost_end (results_none rfl _ _ _) rfl ?_
    exact ⟨rfl, _, HD.out.1, HD.out.2⟩

end Go.Proofs.Ytkmhdkeneggceaa

import Derived.Test.YtihbhbeaihdgnaaGreatXH
import Derived.Deep.RegionLaw
import Derived.Deep.CutRange
import Derived.Deep.QuietTactic
import Derived.BigQuiet
import Derived.Deep.LoopGhost
import Derived.Test.YtihbhbeaihdgnaaGreatX05
import Derived.Test.YtihbhbeaihdgnaaGreatX01
set_option maxRecDepth 100000
set_option maxHeartbeats 32000000
set_option linter.unusedVariables false
namespace Go.Proofs.YtihbhbeaihdgnaaGreat
open Go.RowKit Go.IntWalk Lx Pz
variable {w:World} {b n:Nat} {BS:List Int}
theorem aT6 {NM:List aR}(hch:CH w b NM BS n):LV w b NM BS n 7:=by
 intro W m T NS hT hN h
 have HC:=aA (aL8 hch T W m NS hT hN h)
 clear h hch
 go_enter Tryz.func113,Tryz.ntmps113
 go_wp2_with fail
 go_step3
 go_wp2_with fail
 refine HC.o.mono ?_
 rintro e V2 ⟨res,hres,hok⟩
 have HOK:=aA hok
 have HD:=aA hres
 clear hres
 rcases hok with⟨-,rfl,-⟩|⟨ex,-,-,-,-,rfl,-⟩
 ·go_wp2_with fail
  try rw[Exit.noGoto_panic]
  exact⟨rfl,_,HD.o,HOK.o⟩
 ·go_wp2_with fail
  try rw[Exit.noGoto_ret]
  go_ret
  exact⟨_,HD.o,HOK.o⟩
theorem aI3 {NM : List aR} (hch : CH w b NM BS n) : ∀ j k, k + j = 7 → LV w b NM BS n k := by
  intro j
  induction j with
  | zero => intro k hk; obtain rfl : k = 7 := by omega
            exact aT6 hch
  | succ j ih => intro k hk; exact aLw (by omega) (ih (k + 1) (by omega))
theorem aIn {W:World}{m:Mm}{T:List Tok}{NM:List aR}{NS:List Nd}(hch:CH w b NM BS n)(hT:T.length<=n)(hN:NS.length+T.length<=2000)(h:Rd w W b m T NM BS NS) :
  Calls Tryz.prog 63 #[ptr b] W fun e W'=>∃ res,R NM (.at 0) (T.map ab) res/\Ok w W b T NM BS NS res e W':=by
 have HC:=aA hch
 have HL:=aA (aI3 hch 7 0 rfl W m T NS hT hN h)
 clear h hch
 go_enter Tryz.func63,Tryz.ntmps63
 go_wp2_with fail
 refine HL.o.mono ?_
 rintro e V1 ⟨res,hres,(⟨rfl,rfl,hb⟩|⟨ex,P1,T1,rfl,hsp,rfl,⟨m1,hR⟩,hk⟩)⟩
 ·have HB:=aA hb
  have HN:=aA hres
  clear hb hres
  go_wp2_with fail
  exact⟨rfl,none,R.ch_none HN.o,.inl ⟨rfl,rfl,HB.o⟩⟩
 ·have HRES:=aA hres
  have HSP:=aA hsp
  have hl1:ex.size+T1.length<=T.length:=by have:=oP hres;simpa using this
  have hp1:=ex.size_pos
  have HR1:=aA hR
  have HK1:=aA hk
  have hw1:=aA hR.wf
  clear hres hsp hR hk HL
  by_cases hq:(T1.map ab).head?=some .ques
  ·obtain⟨t2,T2,rfl,h2⟩:=bT hq
   have hs2:=aA ((bE (hw1.o t2 (by simp)) (s:=[63]) (by decide)).2 h2)
   have H2:=aA (show (t2::T2).map ab=.ques::T2.map ab by rw[List.map_cons,h2])
   rw[H2.o] at HRES
   rw[List.length_cons] at hl1
   clear hq h2 hw1
   go_wp2_with fail
   refine(kT HR1.o _ hs2.o).mono ?_
   rintro e V2 ⟨rfl,⟨m2,hR⟩,hk⟩
   have HR2:=aA hR
   have HK2:=aA (HK1.o.trans hk)
   clear hR hk
   go_wp2_with fail
   refine(HC.o _ _ T2 (NS++ex.flat NS.length) (by omega) (by rw[List.length_append,E.flat_len];omega) HR2.o).mono ?_
   rintro e V3 ⟨res,hres,(⟨rfl,rfl,hb⟩|⟨e2,P3,T3,rfl,hsp,rfl,⟨m3,hR⟩,hk⟩)⟩
   ·have HB:=aA hb
    have HN:=aA hres
    clear hb hres
    go_wp2_with fail
    exact⟨rfl,none,R.ch_no HRES.o HN.o rfl,.inl ⟨rfl,rfl,HB.o⟩⟩
   ·have HRES2:=aA hres
    have HSP2:=aA hsp
    have hl2:e2.size+T3.length<=T2.length:=by have:=oP hres;simpa using this
    rw[show (NS++ex.flat NS.length).length=NS.length+ex.size by rw[List.length_append,E.flat_len]] at hR ⊢
    have HR3:=aA hR
    have HK3:=aA (HK2.o.trans hk)
    have hw3:=aA hR.wf
    clear hres hsp hR hk
    by_cases hc:(T3.map ab).head?=some .colon
    ·obtain⟨t4,T4,rfl,h4⟩:=bT hc
     have hs4:=aA ((bE (hw3.o t4 (by simp)) (s:=[58]) (by decide)).2 h4)
     have H4:=aA (show (t4::T4).map ab=.colon::T4.map ab by rw[List.map_cons,h4])
     rw[H4.o] at HRES2
     rw[List.length_cons] at hl2
     clear hc h4 hw3
     go_wp2_with fail
     refine(dK HR3.o _ hs4.o).mono ?_
     rintro e V4 ⟨rfl,⟨m4,hR⟩,hk⟩
     have HR4:=aA hR
     have HK4:=aA (HK3.o.trans hk)
     clear hR hk
     go_wp2_with fail
     refine(HC.o _ _ T4 (NS++ex.flat NS.length++e2.flat (NS.length+ex.size)) (by omega) (by simp[E.flat_len];omega) HR4.o).mono ?_
     rintro e V5 ⟨res,hres,(⟨rfl,rfl,hb⟩|⟨e3,P5,T5,rfl,hsp,rfl,⟨m5,hR⟩,hk⟩)⟩
     ·have HB:=aA hb
      have HN:=aA hres
      clear hb hres
      go_wp2_with fail
      exact⟨rfl,none,R.ch_sel HRES.o HRES2.o (dH _ _ _) HN.o,.inl ⟨rfl,rfl,HB.o⟩⟩
     ·have HRES3:=aA hres
      have HSP3:=aA hsp
      have hl3:e3.size+T5.length<=T4.length:=by have:=oP hres;simpa using this
      rw[show (NS++ex.flat NS.length++e2.flat (NS.length+ex.size)).length=NS.length+ex.size+e2.size by simp[E.flat_len,Nat.add_assoc]] at hR ⊢
      have HR5:=aA hR
      have HK5:=aA (HK4.o.trans hk)
      clear hres hsp hR hk
      go_wp2_with fail
      refine(eY HR5.o ⟨28,((NS.length+ex.size:Nat):Int)-1,((NS.length+ex.size+e2.size:Nat):Int)-1,((NS.length+ex.size+e2.size+e3.size:Nat):Int)-1,0,0,0,0,0⟩ (by simp[E.flat_len];omega)).mono ?_
      rintro e V6 ⟨rfl,hR,hk⟩
      rw[show NS++ex.flat NS.length++e2.flat (NS.length+ex.size)++e3.flat (NS.length+ex.size+e2.size)++[⟨28,((NS.length+ex.size:Nat):Int)-1,((NS.length+ex.size+e2.size:Nat):Int)-1,((NS.length+ex.size+e2.size+e3.size:Nat):Int)-1,0,0,0,0,0⟩]=NS++(E.tri 28 ex e2 e3).flat NS.length by simp[E.flat]] at hR
      have HR6:=aA hR
      have HK6:=aA (HK5.o.trans hk)
      rw[show (((NS++ex.flat NS.length++e2.flat (NS.length+ex.size)++e3.flat (NS.length+ex.size+e2.size)).length:Nat):Int)=((NS.length+(E.tri 28 ex e2 e3).size:Nat):Int)-1 by simp[E.flat_len,E.size];omega]
      clear hR hk
      go_wp2_with fail
      go_ret
      exact⟨_,R.ch_sel HRES.o HRES2.o (dH _ _ _) HRES3.o,.inr ⟨E.tri 28 ex e2 e3,P1++t2::(P3++t4::P5),T5,rfl,by rw[HSP.o,HSP2.o,HSP3.o];simp,rfl,HR6.o,HK6.o⟩⟩
    ·have hs4:=aA (gW (s:=[58]) hw3.o (by decide) hc)
     have HCO:=aA hc
     clear hc hw3
     go_wp2_with fail
     refine(eT HR3.o _ hs4.o).mono ?_
     rintro e V4 ⟨rfl,hb⟩
     have HB:=aA (bel HR3.o.old hb)
     clear hb
     go_wp2_with fail
     exact⟨rfl,none,R.ch_no HRES.o HRES2.o (tQ HCO.o),.inl ⟨rfl,rfl,HB.o⟩⟩
  ·have hs2:=aA (gW (s:=[63]) hw1.o (by decide) hq)
   have HQ:=aA hq
   clear hq hw1
   go_wp2_with fail
   refine(lK HR1.o _ hs2.o).mono ?_
   rintro e V2 ⟨rfl,hb⟩
   have HR2:=aA (HR1.o.later hb)
   have HK2:=aA (HK1.o.trans (Kp.of_below SX hb))
   clear hb
   go_wp2_with fail
   go_ret
   exact⟨_,R.ch_up HRES.o HQ.o,.inr ⟨ex,P1,T1,rfl,HSP.o,rfl,⟨_,HR2.o⟩,HK2.o⟩⟩
theorem wF {NM:List aR}:∀ n,CH w b NM BS n:=by
 intro n
 induction n with
 | zero=>intro W m T NS h;omega
 | succ n ih=>intro W m T NS hT hN h;exact aIn ih (by omega) hN h
end Go.Proofs.YtihbhbeaihdgnaaGreat
namespace Go.Proofs.YtihbhbeaihdgnaaGreat
open Go.RowKit Go.IntWalk Lx Pz
variable {V W w:World} {b:Nat} {v:Value} {BS:List Int}
abbrev SY:List TypeId:=[93,88,9,3]
theorem aP3:(Tryz.prog.info? 9).map (fun i=>(i.zero,i.size,i.bytes))=some (some (.string ⟨#[]⟩),1,16):=by kernel_rfl
theorem aHh:(Tryz.prog.info? 3).map (fun i=>(i.zero,i.size,i.bytes))=some (some (.int .i64 0),1,8):=by kernel_rfl
theorem jI {t:TypeId}(h:aB W b t #[v]):∀ j u,[v][j]?=some u->W.cell? ((⟨b,0,none⟩:Addr).add j)=some u:=by
 intro j u hu
 rw[Addr.add_lit,Nat.zero_add]
 exact h.cell j (by rw[<-hu];simp)
theorem aRx {m:Mm}{T:List Tok}{NM:List aR}{NS:List Nd}{ops:Array Oper}{o:Oper}{a:Act}{K:Act->World->Prop}{Q:Exit->Act->World->Prop}{E:Prop}
  (hgd:o.guard=none) (s x:Operand) (ho:o.op=.call { callee:=.builtin .append,args:=#[s,x],argTypes:=#[52,52] })
  (hs:a.eval s=m.nv) (hR:Rd w W b m T NM BS NS) (q:Nat) (n:aR) (hx:a.eval x=.slice (some ⟨q,0,none⟩) 1 1) (hc:aB W q 9 #[.string (sB n)]) (h3:NM.length<=2000000)
  (h:∀ g cap w',w'.ownsRow w.heap.size 9 1 (.slice (some ⟨g,0,none⟩) (NM.length+1) cap) (NM++[n]).length (aJx (NM++[n]))->aB w' b 88 m.cs->Kp [9] W w'->Below w.heap.size w w'->K (a.put o.dst (.slice (some ⟨g,0,none⟩) (NM.length+1) cap)) w') :
  if Region.wanted o (yielded ops a.tmps)=true then Oper.wp Tryz.prog o a W K Q else E:=by
 obtain⟨i0,hi0,hz0,hz1,hz2⟩:=info_parts aP3
 refine step_append_lies W hgd s x 52 ho w.heap.size 9 i0 _ 1 16 Tryz.underlying52 hi0 hz0 hz1 hz2 rfl (by omega) m.nv NM.length (aJx NM) hs hR.names ⟨q,0,none⟩ 1 1 [.string (sB n)] hx rfl (jI hc) (by simp[Value.oneCell']) (by omega) (by unfold maxLen;omega) (by omega) hR.old.size W.heap.size rfl ?_
 intro g cap w' hown hgrow hat hlt
 have hk:Kp [9] W w':=Kp.grown hgrow fun k hk=>by
  obtain⟨_,cs,fr,hb⟩:=aM hR.names k hk
  exact⟨cs,_,fr,hb,by simp⟩
 exact h g cap w' (by rw[List.length_append];simpa using hown) (hR.blk.kp hk (by decide)) hk (hR.old.grown hgrow hR.old.size fun k hk=>(aM hR.names k hk).1)
theorem aP8 {m:Mm}{T:List Tok}{NM:List aR}{NS:List Nd}{ops:Array Oper}{rest:List Oper}{o:Oper}{a:Act}{Q:Exit->Act->World->Prop}
  (hgd:o.guard=none) (s x:Operand) (ho:o.op=.call { callee:=.builtin .append,args:=#[s,x],argTypes:=#[42,42] })
  (hs:a.eval s=m.bv) (hR:Rd w W b m T NM BS NS) (q:Nat) (n:Int) (hx:a.eval x=.slice (some ⟨q,0,none⟩) 1 1) (hc:aB W q 3 #[.int .i64 n]) (h3:BS.length<=2000000)
  (h:∀ g cap w',w'.ownsRow w.heap.size 3 1 (.slice (some ⟨g,0,none⟩) (BS.length+1) cap) (BS++[n]).length (jT (BS++[n]))->aB w' b 88 m.cs->Kp [3] W w'->Below w.heap.size w w'->wpList Tryz.prog ops Q rest (a.put o.dst (.slice (some ⟨g,0,none⟩) (BS.length+1) cap)) w') :
  wpList Tryz.prog ops Q (o::rest) a W:=by
 obtain⟨i0,hi0,hz0,hz1,hz2⟩:=info_parts aHh
 refine wpList_append_lies W hgd s x 42 ho w.heap.size 3 i0 _ 1 8 Tryz.underlying42 hi0 hz0 hz1 hz2 rfl (by omega) m.bv BS.length (jT BS) hs hR.binds ⟨q,0,none⟩ 1 1 [.int .i64 n] hx rfl (jI hc) (by simp[Value.oneCell']) (by omega) (by unfold maxLen;omega) (by omega) hR.old.size W.heap.size rfl ?_
 intro g cap w' hown hgrow hat hlt
 have hk:Kp [3] W w':=Kp.grown hgrow fun k hk=>by
  obtain⟨_,cs,fr,hb⟩:=aM hR.binds k hk
  exact⟨cs,_,fr,hb,by simp⟩
 exact h g cap w' (by rw[List.length_append];simpa using hown) (hR.blk.kp hk (by decide)) hk (hR.old.grown hgrow hR.old.size fun k hk=>(aM hR.binds k hk).1)
theorem aUx {Z w1:World}{m:Mm}{T:List Tok}{NM NM':List aR}{NS:List Nd}(hR:Rd w V b m T NM BS NS)(hVZ:Below V.heap.size V Z)
  (hown:w1.ownsRow w.heap.size 9 1 v NM'.length (aJx NM')) (hb1:aB w1 b 88 m.cs) (hk1:Kp [9] Z w1) (hold:Below w.heap.size w w1) :
  (∃ m',Rd w (w1.setCell ⟨b,1,none⟩ v) b m' T NM' BS NS)/\Kp SY V (w1.setCell ⟨b,1,none⟩ v):=by
 have ks:Kp [88] w1 (w1.setCell ⟨b,1,none⟩ v):=Kp.set hb1 (by simp) 1 v
 have hk:Kp [9,88] V (w1.setCell ⟨b,1,none⟩ v):=((Kp.of_below [9,88] hVZ).trans (hk1.mono (by decide))).trans (ks.mono (by decide))
 exact⟨⟨⟨m.la,m.ln,m.lc,v,m.bv,m.dv,m.root⟩,hb1.set 1 v,hR.base,hR.toks.kp hk (by decide),aU hown ks (by decide),aU hR.binds hk (by decide),aU hR.nodes hk (by decide),hR.wf,hold.setCell hR.base v⟩,hk.mono (by decide)⟩
theorem aS8 {Z w1:World}{m:Mm}{T:List Tok}{NM:List aR}{BS':List Int}{NS:List Nd}(hR:Rd w V b m T NM BS NS)(hVZ:Below V.heap.size V Z)
  (hown:w1.ownsRow w.heap.size 3 1 v BS'.length (jT BS')) (hb1:aB w1 b 88 m.cs) (hk1:Kp [3] Z w1) (hold:Below w.heap.size w w1) :
  (∃ m',Rd w (w1.setCell ⟨b,2,none⟩ v) b m' T NM BS' NS)/\Kp SY V (w1.setCell ⟨b,2,none⟩ v):=by
 have ks:Kp [88] w1 (w1.setCell ⟨b,2,none⟩ v):=Kp.set hb1 (by simp) 2 v
 have hk:Kp [3,88] V (w1.setCell ⟨b,2,none⟩ v):=((Kp.of_below [3,88] hVZ).trans (hk1.mono (by decide))).trans (ks.mono (by decide))
 exact⟨⟨⟨m.la,m.ln,m.lc,m.nv,v,m.dv,m.root⟩,hb1.set 2 v,hR.base,hR.toks.kp hk (by decide),aU hR.names hk (by decide),aU hown ks (by decide),aU hR.nodes hk (by decide),hR.wf,hold.setCell hR.base v⟩,hk.mono (by decide)⟩
def aWa (w W:World)(b:Nat)(T:List Tok)(NM:List aR)(BS:List Int)(NS:List Nd)(e:Ending)(W':World):Prop :=
 (e=pan/\Below w.heap.size w W'/\(hdr NM (T.map ab)=none\/∃ s l2 res,hdr NM (T.map ab)=some (s,l2)/\R NM (.at 0) l2 res/\rZ .semi res=none)) \/
 (∃ s l2 res ex P T',hdr NM (T.map ab)=some (s,l2)/\R NM (.at 0) l2 res/\rZ .semi res=some (ex,T'.map ab)/\T=P++T'/\ex.size+T'.length+1<=T.length/\e=.returned (.tuple #[]) /\
  (∃ m',Rd w W' b m' T' (NM++[s]) (BS++[((NS.length+ex.size:Nat):Int)-1]) (NS++ex.flat NS.length))/\Kp SY W W')
theorem aPz {nm:List aR}{l:List Tk}(h:∀ s,l.head?≠some (.word s)):hdr nm l=none:=by
 unfold hdr
 split
 ·exact absurd rfl (h _)
 ·rfl
theorem aHf {nm:List aR}{s:aR}{l:List Tk}(h:(mU s || nm.contains s)=true):hdr nm (.word s::l)=none:=by
 unfold hdr
 split
 ·rename_i heq;cases heq;rw[if_pos h]
 ·rfl
theorem aP0 {nm:List aR}{s:aR}{l:List Tk}(h:l.head?≠some .eq):hdr nm (.word s::l)=none:=by
 unfold hdr
 split
 ·rename_i heq;cases heq;exact absurd rfl h
 ·rfl
theorem Pl.stepT {V':World}{T T':List Tok}{NM:List aR}{NS NS':List Nd}{q:Nat}{ty:TypeId}{cs:Array Value}(h:Pl w W V b T NM BS NS q ty cs)(ht:ty ∉ SX)
  (hr:∃ m,Rd w V' b m T' NM BS NS') (hk:Kp SX V V'):Pl w W V' b T' NM BS NS' q ty cs :=
 ⟨hr,h.kp.trans hk,h.va.kp hk ht,h.q0,h.w0⟩
theorem Tx.drew {a:Option Addr}{n cap:Nat}{L:List aR}(h:Tx W a n cap L)(q:Nat):Tx (W.drewN q) a n cap L:=⟨h.len,h.le,h.max,h.cell⟩
theorem aO7 {m:Mm}{T:List Tok}{NM:List aR}{NS:List Nd}(h:Rd w W b m T NM BS NS)(hN:NS.length+T.length<=2000)(hM:NM.length<=2000)(hB:BS.length<=2000) :
  Calls Tryz.prog 62 #[ptr b] W fun e W'=>aWa w W b T NM BS NS e W':=by
 have HW:=aA h
 clear h
 cases T with
 | nil =>
  go_enter Tryz.func62,Tryz.ntmps62
  go_wp2_with fail
  refine(aDx HW.o).mono ?_
  rintro e V1 ⟨rfl,hb⟩
  have HB:=aA (bel HW.o.old hb)
  clear hb
  go_wp2_with fail
  exact⟨rfl,.inl ⟨rfl,HB.o,.inl rfl⟩⟩
 | cons t T =>
  have hwf:=aA (HW.o.wf t (by simp))
  rw[List.length_cons] at hN
  by_cases hs:∃ s,ab t=.word s
  ·obtain⟨s,hs⟩:=hs
   obtain⟨hk2,hw2,hts⟩:=aLu hwf.o hs
   have HAB:=aA (show (t::T).map ab=.word s::T.map ab by rw[List.map_cons,hs])
   have HK2:=aA hk2
   have HTS:=aA hts
   have HRs:=aA fun V=>sS (sB s) V
   have HCt:=aA (show ∀(V:World) (a:Option Addr) (n cap:Nat),Tx V a n cap NM->Calls Tryz.prog 111 #[.slice a n cap,.string (sB s)] V fun e W'=>e=.returned (.bool (NM.contains s))/\W'=V from fun V a n cap hx=>by
    have:=aBc hx (sB s)
    rw[qH] at this
    exact this)
   rw[qH] at HRs
   clear hs hk2 hw2 hts
   go_enter Tryz.func62,Tryz.ntmps62
   go_wp2_with fail
   refine(dP HW.o).mono ?_
   rintro e V1 ⟨rfl,⟨m1,hR⟩,hk⟩
   have HP:=aA (show Pl w W (V1.alloc (.cells (tc t.kind (sB t.text) t.pos) 118)) b T NM BS NS V1.heap.size 118 (tc t.kind (sB t.text) t.pos) from⟨⟨m1,hR.later (aC _ _)⟩,hk.trans (Kp.of_below SX (aC _ _)),aB.new _ _ _,hk.size,HW.o.old.size⟩)
   rw[HK2.o,HTS.o] at HP ⊢
   clear hR hk
   go_wp2_with fail
   generalize V1.heap.size=q at HP ⊢
   generalize V1.alloc (.cells (tc 2 (sB s) t.pos) 118)=V at HP ⊢
   obtain⟨m2,hm2⟩:=HP.o.rd
   have HR:=aA hm2
   clear hm2
   obtain⟨d0,d1,d2⟩:=iE HP.o.va
   obtain⟨a1,cap1,hn1,hTx⟩:=Tx.of_owns HR.o.names
   have HTx:=aA hTx
   have c1:V.cell? ⟨b,1,none⟩=some (.slice a1 NM.length cap1):=by rw[<-hn1];exact HR.o.blk.cell 1 rfl
   clear hTx hn1
   have HBB:=aA (show ∀ nq,Below w.heap.size w (V.drewN nq) from fun nq=>bel HR.o.old (below_drewN V nq))
   cases hrs:mU s with
   | true =>
    rw[hrs] at HRs
    have HRS:=aA hrs
    go_quiet ((go_at_call 110;exact Calls.quiet_of_same (HRs.o _)))
    go_wp2_with fail
    exact⟨rfl,.inl ⟨rfl,HBB.o _,.inl (by rw[HAB.o];exact aHf (by rw[HRS.o];rfl))⟩⟩
   | false =>
    rw[hrs] at HRs
    cases hct:NM.contains s with
    | true =>
     rw[hct] at HCt
     have HCT:=aA hct
     go_quiet ((first|(go_at_call 110;exact Calls.quiet_of_same (HRs.o _))|(go_at_call 111;exact Calls.quiet_of_same (HCt.o _ _ _ _ (HTx.o.drew _)))))
     go_wp2_with fail
     exact⟨rfl,.inl ⟨rfl,HBB.o _,.inl (by rw[HAB.o];exact aHf (by rw[HCT.o,Bool.or_true]))⟩⟩
    | false =>
     rw[hct] at HCt
     go_quiet ((first|(go_at_call 110;exact Calls.quiet_of_same (HRs.o _))|(go_at_call 111;exact Calls.quiet_of_same (HCt.o _ _ _ _ (HTx.o.drew _)))))
     obtain⟨W2,hW2⟩:∃ W2,V.drewN nq=W2:=⟨_,rfl⟩
     have HP2:=aA (HP.o.later (below_drewN V nq))
     rw[hW2] at HP2 ⊢
     have HRS:=aA hrs
     have HCT:=aA hct
     clear hW2 c1 HTx HR d0 d1 d2 HP hrs hct HCt HRs
     obtain⟨m3,hm3⟩:=HP2.o.rd
     have HM3:=aA hm3
     have hw3:=aA hm3.wf
     clear hm3
     by_cases hq:(T.map ab).head?=some .eq
     ·obtain⟨t4,T4,rfl,h4⟩:=bT hq
      have hs4:=aA ((bE (hw3.o t4 (by simp)) (s:=[61]) (by decide)).2 h4)
      have HH:=aA (show hdr NM ((t::t4::T4).map ab)=some (s,T4.map ab) by rw[HAB.o,List.map_cons,h4];exact aLk HRS.o HCT.o _)
      rw[List.length_cons] at hN
      clear hq h4 hw3
      go_wp2_with fail
      refine(dK HM3.o _ hs4.o).mono ?_
      rintro e V4 ⟨rfl,hR,hk⟩
      have HP4:=aA (HP2.o.stepT (by decide) hR hk)
      clear hR hk HP2 HM3
      obtain⟨m4,hm4⟩:=HP4.o.rd
      have HM4:=aA hm4
      clear hm4
      go_wp2_with fail
      refine(wF (T4.length+1) V4 m4 T4 NS (by omega) (by omega) HM4.o).mono ?_
      rintro e V5 ⟨res,hres,(⟨rfl,rfl,hb⟩|⟨ex,P5,T5,rfl,hsp,rfl,hR,hk⟩)⟩
      ·have HB:=aA hb
       have HN:=aA hres
       clear hb hres
       go_wp2_with fail
       exact⟨rfl,.inl ⟨rfl,HB.o,.inr ⟨s,_,none,HH.o,HN.o,rfl⟩⟩⟩
      ·have HRES:=aA hres
       have HSP:=aA hsp
       have hl5:ex.size+T5.length<=T4.length:=by have:=oP hres;simpa using this
       have HP5:=aA (HP4.o.stepT (by decide) hR hk)
       clear hres hsp hR hk HP4 HM4
       obtain⟨m5,hm5⟩:=HP5.o.rd
       have HM5:=aA hm5
       have hw5:=aA hm5.wf
       clear hm5
       obtain⟨z,hz⟩:∃ z:Int,((NS.length+ex.size:Nat):Int)-1=z:=⟨_,rfl⟩
       rw[hz]
       have HZ:=aA hz
       clear hz
       by_cases hc:(T5.map ab).head?=some .semi
       ·obtain⟨t6,T6,rfl,h6⟩:=bT hc
        have hs6:=aA ((bE (hw5.o t6 (by simp)) (s:=[59]) (by decide)).2 h6)
        have H6:=aA (show (t6::T6).map ab=.semi::T6.map ab by rw[List.map_cons,h6])
        rw[List.length_cons] at hl5
        clear hc h6 hw5
        go_wp2_with fail
        refine(dK HM5.o _ hs6.o).mono ?_
        rintro e V6 ⟨rfl,hR,hk⟩
        have HP6:=aA (HP5.o.stepT (by decide) hR hk)
        clear hR hk HP5 HM5
        obtain⟨m6,hm6⟩:=HP6.o.rd
        have HM6:=aA hm6
        have HK6:=aA HP6.o.kp
        have hbV:b < V6.heap.size:=hm6.blk.lt
        have hqV:q < V6.heap.size:=HP6.o.va.lt
        obtain⟨-,d1,-⟩:=iE HP6.o.va
        have d1a:∀ o:Obj,(V6.alloc o).cell? ⟨q,1,none⟩=some (.string (sB s)):=fun o=>(aV hqV).trans d1
        obtain⟨nv,hnv⟩:∃ nv,m6.nv=nv:=⟨_,rfl⟩
        have c1:V6.cell? ⟨b,1,none⟩=some nv:=by rw[<-hnv];exact hm6.blk.cell 1 rfl
        have c1a:∀ o:Obj,(V6.alloc o).cell? ⟨b,1,none⟩=some nv:=fun o=>(aV hbV).trans c1
        have HNV:=aA hnv
        clear hm6 hnv
        go_upto_region 6 with fail
        go_cut [] from 31 to 43 (fun wc=>Hid (∃ m',Rd w wc b m' T6 (NM++[s]) BS (NS++ex.flat NS.length))/\Hid (Kp SY W wc))
        case first =>
         go_region_law
          (first
           | (refine aRx (m:=m6) (by rfl) _ _ (by rfl) (by exact HNV.o.symm) (by first | exact(HM6.o.later (aC _ _)).later (aF _) | exact(HM6.o.later (aF V6)).later (aC _ _)) V6.heap.size s (by rfl) (by first | exact aB.new _ _ _ | exact(aB.new V6 9 #[.string (sB s)]).below (aF _)) (by omega) ?_;intro g cap w1 hown hb1 hk1 hold;have t3:=hb1.cell 1 rfl;have y3:=hb1.frozen 1))
         all_goals
          have HE:=aA (aUx HM6.o (by first|exact bel (aC V6 _) (aF _)|exact bel (aF V6) (aC _ _)) hown hb1 hk1 hold)
          clear hown hb1 hk1 hold t3 y3 d1 d1a c1 c1a
          go_wp2_with fail
          go_meet
          exact⟨aA HE.o.1,aA ((HK6.o.mono (by decide)).trans HE.o.2)⟩
        case rest =>
         obtain⟨HR7,HK7⟩:=hcut
         clear d1 d1a c1 c1a HM6 HP6
         obtain⟨m7,hm7⟩:=HR7.o
         have HM7:=aA hm7
         have hbW:b < wc.heap.size:=hm7.blk.lt
         obtain⟨bv,hbv⟩:∃ bv,m7.bv=bv:=⟨_,rfl⟩
         have c2:wc.cell? ⟨b,2,none⟩=some bv:=by rw[<-hbv];exact hm7.blk.cell 2 rfl
         have c2a:∀ o:Obj,(wc.alloc o).cell? ⟨b,2,none⟩=some bv:=fun o=>(aV hbW).trans c2
         have HBV:=aA hbv
         clear hm7 hbv
         go_wp2_with (at_builtin;refine aP8 (m:=m7) rfl _ _ rfl HBV.o.symm (HM7.o.later (aC _ _)) wc.heap.size z rfl (aB.new _ _ _) (by omega) ?_;intro g cap w1 hown hb1 hk1 hold;have t3:=hb1.cell 2 rfl;have y3:=hb1.frozen 2;have HE:=aA (aS8 HM7.o (aC wc _) hown hb1 hk1 hold);clear hown hb1 hk1 hold)
         refine bodyPost_end (results_none rfl _ _ _) rfl ?_
         exact .inr ⟨s,_,_,ex,t::t4::(P5++[t6]),T6,HH.o,HRES.o,by rw[H6.o,dH],by rw[HSP.o];simp,by simp;omega,rfl,by rw[HZ.o];exact HE.o.1,HK7.o.trans HE.o.2⟩
       ·have hs6:=aA (gW (s:=[59]) hw5.o (by decide) hc)
        have HCO:=aA hc
        clear hc hw5
        go_wp2_with fail
        refine(eT HM5.o _ hs6.o).mono ?_
        rintro e V6 ⟨rfl,hb⟩
        have HB:=aA (bel HM5.o.old hb)
        clear hb
        go_wp2_with fail
        exact⟨rfl,.inl ⟨rfl,HB.o,.inr ⟨s,_,_,HH.o,HRES.o,tQ HCO.o⟩⟩⟩
     ·have hs4:=aA (gW (s:=[61]) hw3.o (by decide) hq)
      have HQ:=aA hq
      clear hq hw3
      go_wp2_with fail
      refine(eT HM3.o _ hs4.o).mono ?_
      rintro e V4 ⟨rfl,hb⟩
      have HB:=aA (bel HM3.o.old hb)
      clear hb
      go_wp2_with fail
      exact⟨rfl,.inl ⟨rfl,HB.o,.inl (by rw[HAB.o];exact aP0 HQ.o)⟩⟩
  ·have hs':∀ s,ab t≠.word s:=fun s e=>hs ⟨s,e⟩
   have hk:(t.kind != 2)=true:=by
    rcases hwf.o with⟨h,-⟩|⟨h,h2⟩|⟨h,-⟩
    ·rw[h];decide
    ·exact absurd (mZ h) (hs' _)
    ·rw[h];decide
   have HS:=aA hs'
   clear hs hs'
   go_enter Tryz.func62,Tryz.ntmps62
   go_wp2_with fail
   refine(dP HW.o).mono ?_
   rintro e V1 ⟨rfl,⟨m1,hR⟩,hk1⟩
   have HR:=aA (hR.later (aC V1 (.cells (tc t.kind (sB t.text) t.pos) 118)))
   have HN:=aA (aB.new V1 118 (tc t.kind (sB t.text) t.pos))
   clear hR hk1
   generalize t.kind=kk at hk HR HN ⊢
   generalize sB t.text=u at HR HN ⊢
   go_wp2_with fail
   generalize V1.heap.size=q at HN ⊢
   generalize V1.alloc (.cells (tc kk u t.pos) 118)=V at HR HN ⊢
   obtain⟨d0,d1,d2⟩:=iE HN.o
   have HBB:=aA (show ∀ nq,Below w.heap.size w (V.drewN nq) from fun nq=>bel HR.o.old (below_drewN V nq))
   go_quiet (fail)
   go_wp2_with fail
   exact⟨rfl,.inl ⟨rfl,HBB.o _,.inl (aPz fun s e=>HS.o s (by simpa using e))⟩⟩
end Go.Proofs.YtihbhbeaihdgnaaGreat
namespace Pz
def kG:List E->Nat->List Int
 | [],_=>[]
 | a::es,s=>(((s+a.size:Nat):Int)-1)::kG es (s+a.size)
theorem aC2:∀(es:List E) (a:E) (s:Nat),kG (es++[a]) s=kG es s++[((s+cZ es+a.size:Nat):Int)-1]
 | [],a,s=>by simp[kG,cZ]
 | b::es,a,s=>by simp[kG,cZ,aC2 es a,Nat.add_assoc]
theorem fE:∀(es:List E) (s:Nat),(kG es s).length=es.length
 | [],s=>rfl
 | a::es,s=>by simp[kG,fE es]
end Pz
namespace Go.Proofs.YtihbhbeaihdgnaaGreat
open Go.RowKit Go.IntWalk Lx Pz
def aWc (w W:World)(b:Nat)(T:List Tok)(e:Ending)(W':World):Prop :=
 ∃ res,RP [] [] (T.map ab) res/\((res=none/\e=pan/\Below w.heap.size w W') \/
  (∃ NM es ex,res=some (NM,es,ex)/\NM.length=es.length/\cZ es+ex.size<=T.length/\e=.returned (.tuple #[])/\(∃ m',Rd w W' b m' [] NM (kG es 0) (jK es 0++ex.flat (cZ es))/\m'.root=((cZ es+ex.size:Nat):Int)-1)/\Kp SY W W'))
structure PF (w W:World)(b:Nat)(T:List Tok)(NM:List aR)(es:List E)(T':List Tok)(V:World):Prop where
 go:∀ res,RP NM es (T'.map ab) res->RP [] [] (T.map ab) res
 rd:∃ m',Rd w V b m' T' NM (kG es 0) (jK es 0)
 kp:Kp SY W V
 sz:cZ es+T'.length<=T.length
 ln:NM.length=es.length
 le:es.length+T'.length<=T.length
theorem Rd.root {w W:World}{b:Nat}{m:Mm}{T:List Tok}{NM:List aR}{BS:List Int}{NS:List Nd}(h:Rd w W b m T NM BS NS)(z:Int) :
  Rd w (W.setCell ⟨b,4,none⟩ (.int .i64 z)) b ⟨m.la,m.ln,m.lc,m.nv,m.bv,m.dv,z⟩ T NM BS NS/\Kp SY W (W.setCell ⟨b,4,none⟩ (.int .i64 z)):=by
 have ks:Kp [88] W (W.setCell ⟨b,4,none⟩ (.int .i64 z)):=Kp.set h.blk (by simp) 4 _
 exact⟨⟨h.blk.set 4 _,h.base,h.toks.kp ks (by decide),aU h.names ks (by decide),aU h.binds ks (by decide),aU h.nodes ks (by decide),h.wf,h.old.setCell h.base _⟩,ks.mono (by decide)⟩
theorem aGa {w W:World}{b:Nat}{m:Mm}{T:List Tok}(h:Rd w W b m T [] [] [])(hT:T.length<=1024) :
  Calls Tryz.prog 32 #[ptr b] W fun e W'=>aWc w W b T e W':=by
 have HF0:=aA (show PF w W b T [] [] T W from⟨fun _ h=>h,⟨m,h⟩,Kp.refl _ _,by simp[cZ],rfl,by simp⟩)
 clear h
 go_enter Tryz.func32,Tryz.ntmps32
 go_wp2_with fail
 go_loopg [3] T.length (fun g _ V=>∃(NM:List aR) (es:List E) (T':List Tok),Hid (T'.length=g)/\Hid (PF w W b T NM es T' V))
 case atStart=>exact⟨[],[],T,aA rfl,HF0⟩
 case round =>
  obtain⟨NM,es,T',HG,HF⟩:=hrel
  rename World=>V
  obtain⟨m1,hm1⟩:=HF.o.rd
  have HM:=aA hm1
  have hw:=aA hm1.wf
  have hsz:=HF.o.sz
  have hle:=HF.o.le
  have hln:=aA HF.o.ln
  clear hm1 HF0
  by_cases hl:(T'.map ab).head?=some (.word mV)
  ·obtain⟨t1,T1,rfl,h1⟩:=bT hl
   have hs1:=aA ((aE7 (hw.o t1 (by simp)) (s:=mV) (by decide)).2 h1)
   have H1:=aA (show (t1::T1).map ab=.word mV::T1.map ab by rw[List.map_cons,h1])
   rw[List.length_cons] at hsz hle
   clear hl h1 hw
   go_wp2_with fail
   refine(kT HM.o _ hs1.o).mono ?_
   rintro e V1 ⟨rfl,⟨m2,hR⟩,hk⟩
   have HR:=aA hR
   have HK:=aA (HF.o.kp.trans (hk.mono (by decide)))
   clear hR hk
   go_wp2_with fail
   refine(aO7 HR.o (by rw[dC];omega) (by rw[hln.o];omega) (by rw[fE];omega)).mono ?_
   rintro e V2 (⟨rfl,hb,hbad⟩|⟨s,l2,res,ex,P,T2,hh,hr,he,hsp,hl2,rfl,hR2,hk2⟩)
   ·have HB:=aA hb
    have HBad:=aA hbad
    clear hb hbad
    go_wp2_with fail
    refine⟨rfl,none,HF.o.go _ ?_,.inl ⟨rfl,rfl,HB.o⟩⟩
    rw[H1.o]
    rcases HBad.o with h|⟨s,l2,res,h1,h2,h3⟩
    ·exact RP.bad h
    ·exact RP.body h1 h2 h3
   ·have HF2:=aA (show PF w W b T (NM++[s]) (es++[ex]) T2 V2 from by
     refine⟨fun res' h=>HF.o.go _ (by rw[H1.o];exact RP.go hh hr he h),?_,HK.o.trans hk2,by rw[aEv];omega,by simp[hln.o],by have:=ex.size_pos;simp;omega⟩
     rw[aC2,sD,Nat.zero_add]
     rw[dC] at hR2
     exact hR2)
    have HL2:=aA hl2
    have hgl:T2.length < T1.length+1:=by have:=ex.size_pos;omega
    have HGl:=aA hgl
    clear hh hr he hsp hl2 hR2 hk2 hgl
    go_wp2_with fail
    go_roundg T2.length
    case measure=>have:=HG.o;have:=HGl.o;simp at *;omega
    case rel=>exact⟨NM++[s],es++[ex],T2,aA rfl,HF2⟩
  ·have hs1:=aA (show (hd T').text≠[108,101,116] from by
    cases T' with
    | nil=>decide
    | cons t T' =>
     intro e
     exact hl (by simp[(aE7 (hw.o t (by simp)) (s:=mV) (by decide)).1 e]))
   have HL:=aA hl
   clear hl
   go_wp2_with fail
   refine(lK HM.o _ hs1.o).mono ?_
   rintro e V1 ⟨rfl,hb⟩
   have HR:=aA (HM.o.later hb)
   have HK:=aA (HF.o.kp.trans (Kp.of_below SY hb))
   clear hb
   go_wp2_with fail
   refine(wF (T'.length+1) V1 m1 T' (jK es 0) (by omega) (by rw[dC];omega) HR.o).mono ?_
   rintro e V2 ⟨res,hres,(⟨rfl,rfl,hb⟩|⟨ex,P5,T5,rfl,hsp,rfl,⟨m5,hR⟩,hk⟩)⟩
   ·have HB:=aA hb
    have HN:=aA hres
    clear hb hres
    go_wp2_with fail
    exact⟨rfl,none,HF.o.go _ (RP.last HL.o HN.o),.inl ⟨rfl,rfl,HB.o⟩⟩
   ·have HRES:=aA hres
    have hl5:ex.size+T5.length<=T'.length:=by have:=oP hres;simpa using this
    rw[dC] at hR ⊢
    have hz:=hR.root (((cZ es+ex.size:Nat):Int)-1)
    have HR6:=aA hz.1
    have HK6:=aA ((HK.o.trans (hk.mono (by decide))).trans hz.2)
    have c4:=hR.blk.cell 4 rfl
    have y4:=hR.blk.frozen 4
    have cn:(V2.setCell ⟨b,4,none⟩ (.int .i64 (((cZ es+ex.size:Nat):Int)-1))).cell? ⟨b,0,none⟩=some (.slice m5.la m5.ln m5.lc):=hz.1.blk.cell 0 rfl
    have hln5:=aA hR.toks.t.len
    have hmx:m5.ln<=9223372036854775807:=by have:=hR.toks.t.le;have:=hR.toks.t.max;unfold maxLen at *;omega
    clear hres hsp hR hk hz
    obtain⟨z,hz⟩:∃ z:Int,((cZ es+ex.size:Nat):Int)-1=z:=⟨_,rfl⟩
    rw[hz] at HR6 HK6 cn ⊢
    have HZ:=aA hz
    clear hz
    cases T5 with
    | nil =>
     have h0:m5.ln=0:=by have:=hln5.o;simpa using this.symm
     rw[h0] at cn
     clear h0 hmx
     go_wp2_with fail
     refine bodyPost_end (results_none rfl _ _ _) rfl ?_
     exact⟨_,HF.o.go _ (RP.last HL.o HRES.o),.inr ⟨NM,es,ex,rfl,hln.o,by simp at hl5;omega,rfl,⟨_,HR6.o,HZ.o.symm⟩,HK6.o⟩⟩
    | cons t5 T5 =>
     have h0:(0:Int) < m5.ln:=by have:=hln5.o;simp at this;omega
     go_wp2_with fail
     exact⟨rfl,none,HF.o.go _ (RP.last HL.o HRES.o),.inl ⟨rfl,rfl,HR6.o.old⟩⟩
end Go.Proofs.YtihbhbeaihdgnaaGreat
namespace Lx
theorem aBd:∀(T:List Tok) (l:List UInt8) (p:Nat),Cov l p T->T.length<=l.length
 | [],_,_,_=>Nat.zero_le _
 | t::T,l,p,⟨g,rest,e,hp,hg,hf,hm,hc⟩=>by
  subst e
  have:=aBd T rest _ hc
  have h1:0 < t.text.length:=aBz hm
  simp only[List.length_cons,List.length_append]
  omega
end Lx

import Derived.Test.YticnbcfmbhjbgabGreatDoorXH
import Derived.Laws.MakeOwn
import Derived.BigRegion
import Derived.Test.YticnbcfmbhjbgabGreatDoorX28
import Derived.Test.YticnbcfmbhjbgabGreatDoorX01
import Derived.Test.YticnbcfmbhjbgabGreatDoorX04
import Derived.Test.YticnbcfmbhjbgabGreatDoorX18
import Derived.Test.YticnbcfmbhjbgabGreatDoorX11
import Derived.Test.YticnbcfmbhjbgabGreatDoorX09
import Derived.Test.YticnbcfmbhjbgabGreatDoorX02
import Derived.Test.YticnbcfmbhjbgabGreatDoorX16
import Derived.Test.YticnbcfmbhjbgabGreatDoorX20
set_option maxRecDepth 100000
set_option maxHeartbeats 32000000
set_option linter.unusedVariables false
namespace Go.Proofs.YticnbcfmbhjbgabGreatDoor
open Go.RowKit Go.IntWalk Lx Pz
abbrev inA (L:List Int):Array Value:=(iX L).toArray
theorem aWx:(Tryz.prog.info? 3).map (fun i=>(i.zero,i.size,i.bytes))=some (some (.i 0),1,8):=by kernel_rfl
theorem kI (L:List Int)(i:Nat)(h:i < L.length):(inA L)[i]?=some (.i (L.getD i 0)):=by
 unfold inA
 rw[List.getElem?_toArray,gEm,gdE,gEg h]
 rfl
theorem aTd (n:Nat):madeCells #[.i 0] (n*1)=inA (List.replicate n 0):=by
 apply Array.ext_getElem?
 intro i
 by_cases hi:i < n
 ·rw[kI _ _ (by simpa using hi)]
  unfold madeCells
  rw[Array.getElem?_map,Array.getElem?_eq_getElem (by simpa using hi)]
  have hz:(List.replicate n (0:Int)).getD i 0=0:=by
   rw[gdE,List.getElem?_replicate];split <;> rfl
  rw[hz]
  simp only[Array.getElem_range,Option.map_some]
  show some ((#[Value.int .i64 0])[i % 1]!)=_
  rw[Nat.mod_one]
  rfl
 ·rw[Array.getElem?_eq_none (by rw[size_madeCells];omega),Array.getElem?_eq_none (by simp;omega)]
theorem xE (n:Nat)(h:n<=1024)(w:World):(Instr.makeSlice 22 (.i n) (.i n)).run Tryz.prog w=.ok (.slice (some ⟨w.heap.size,0,none⟩) n n) (w.alloc (.cells (inA (List.replicate n 0)) 3)):=by
 obtain⟨i0,hi,hz0,hz1,hz2⟩:=Spn.info_parts aWx
 have:=run_make w 22 3 i0 _ Tryz.underlying22 hi hz0 .i64 .i64 n n (by omega) (iLr _) (by rw[hz2];omega) (by omega)
 rw[hz1] at this
 simp only[iTn] at this
 have e:madeCells (Value.int .i64 0).cells (n*1)=inA (List.replicate n 0):=aTd n
 rw[e] at this
 exact this
theorem aHl {W:World}{g k:Nat}{D Z:List Int}{q:Int}(h:aB W g 3 (inA (D++q::Z)))(hk:D.length=k)(x:Int):aB (W.setCell ⟨g,k,none⟩ (.i x)) g 3 (inA (D++x::Z)):=by
 subst hk
 have:=h.set D.length (.i x)
 have e:(inA (D++q::Z)).setIfInBounds D.length (.i x)=inA (D++x::Z):=by
  apply Array.toList_inj.1
  simp only[Array.toList_setIfInBounds,List.map_append,lMc]
  rw[List.set_append_right _ _ (by simp)]
  simp
 rwa[e] at this
theorem aNu {W:World}{g:Nat}{L:List Int}(h:aB W g 3 (inA L))(hl:L.length<=1024):Iz W (some ⟨g,0,none⟩) L.length L.length L:=by
 refine⟨rfl,nLr _,by unfold maxLen;omega,.inr ⟨g,0,rfl,h.lt,fun i hi=>?_⟩⟩
 rw[nZa]
 exact h.cell i (kI L i hi)
theorem tY {S Z:List Int}{i:Nat}(h:i < S.length):(S++Z).getD i 0=S.getD i 0:=by
 rw[gdE,gAl h,<-gdE]
theorem aBs {n k:Nat}(h:k < n):List.replicate (n-k) (0:Int)=0::List.replicate (n-(k+1)) 0:=by
 rw[show n-k=(n-(k+1))+1 by omega,List.replicate_succ]
theorem aR7 {D:List Int}{n:Nd}{k:Nat}(hk:k < (eY n).length):(((eY n).map fun p=>D.getD p.toNat 0).take (k+1)).foldl max 0=max ((((eY n).map fun p=>D.getD p.toNat 0).take k).foldl max 0) (D.getD ((eY n).getD k 0).toNat 0):=by
 rw[aG 0 (by simpa using hk),List.foldl_append]
 have e:((eY n).map fun p=>D.getD p.toNat 0).getD k 0=D.getD ((eY n).getD k 0).toNat 0:=by
  simp[List.getD_eq_getElem?_getD,List.getElem?_map,List.getElem?_eq_getElem hk]
 rw[e]
 rfl
theorem aNd (BS:List Int)(A:List Nd)(n:Nd)(D:List Int):uV BS (A++[n]) D=uV BS A D++[dpN BS (uV BS A D) n]:=by
 rw[aIn];rfl
theorem aJ0 {BS:List Int}{NS:List Nd}{s:Nat}(h:Wl BS s NS)(k:Nat):Wl BS s (NS.take k):=by
 rw[<-lTd k NS,mR] at h
 exact h.1
def DpP (w:World)(n:Nat)(D:List Int)(e:Ending)(W':World):Prop :=
 ∃ g,e=.returned (.slice (some ⟨g,0,none⟩) n n)/\aB W' g 3 (inA D)/\Below w.heap.size w W'
theorem aCh {W:World}{ba da:Option Addr}{bl bc dl dc:Nat}{nv:Value}(hnv:∃ a k c,nv=.slice a k c){root:Int}{BS:List Int}{NS:List Nd}(hB:Iz W ba bl bc BS)(hN:Nz W da dl dc NS)(hw:Wl BS 0 NS)(hd:dl<=1024) :
  Calls Tryz.prog 102 #[.agg (iG nv (.slice ba bl bc) (.slice da dl dc) (.i root))] W (DpP W dl (uV BS NS [])):=by
 obtain⟨a1,n1,c1,rfl⟩:=hnv
 have hmk:=xE dl hd
 have hb1:=aD W (.cells (iG (.slice a1 n1 c1) (.slice ba bl bc) (.slice da dl dc) (.i root)) 51)
 have hb2:=bel hb1 (aD (W.alloc (.cells (iG (.slice a1 n1 c1) (.slice ba bl bc) (.slice da dl dc) (.i root)) 51)) (.cells (inA (List.replicate dl 0)) 3))
 have HT0:=aA ((aB.new W 51 (iG (.slice a1 n1 c1) (.slice ba bl bc) (.slice da dl dc) (.i root))).alloc (.cells (inA (List.replicate dl 0)) 3))
 have HG0:Hid (aB ((W.alloc (.cells (iG (.slice a1 n1 c1) (.slice ba bl bc) (.slice da dl dc) (.i root)) 51)).alloc (.cells (inA (List.replicate dl 0)) 3)) (W.heap.size+1) 3 (inA (List.replicate dl 0))):=by
  have:=aB.new (W.alloc (.cells (iG (.slice a1 n1 c1) (.slice ba bl bc) (.slice da dl dc) (.i root)) 51)) 3 (inA (List.replicate dl 0))
  simp only[wSa] at this
  exact aA this
 have HB0:=aA hb2
 have HBI:=aA hB
 have HNI:=aA hN
 have HLN:=aA hN.len
 have HLB:=aA hB.len
 have HW:=aA hw
 clear hb1 hb2 hB hN hw
 go_enter Tryz.func102,Tryz.ntmps102
 go_wp2_with fail
 go_loopw [16] (fun i wr=>∃(k:Nat) (D:List Int),k<=dl/\i=.i k/\Hid (uV BS (NS.take k) []=D)/\Hid (aB wr (W.heap.size+1) 3 (inA (D++List.replicate (dl-k) 0)))/\Hid (aB wr W.heap.size 51 (iG (.slice a1 n1 c1) (.slice ba bl bc) (.slice da dl dc) (.i root)))/\Hid (Below W.heap.size W wr)) (fun i _=>dl-(intOf i).toNat)
 case atStart=>exact⟨0,[],nZl _,rfl,aA rfl,HG0,HT0,HB0⟩
 case round =>
  obtain⟨k,D,hk,rfl,HD,HG,HT,HB⟩:=hrel
  rename World=>V
  by_cases hlt:k < dl
  ·obtain⟨g,off,rfl,hat⟩:=(HNI.o.later HB.o).at (by omega)
   obtain⟨e0,e1,e2,e3,e4,e5,e6,e7,e8⟩:=hat k hlt
   clear hat
   have hi0:(0:Int)<=k:=by omega
   have hi1:(k:Int) < dl:=by omega
   have hDl:D.length=k:=by rw[<-HD.o,aCj];simp;rw[HLN.o];omega
   have HDb:Hid (Db D):=aA (by rw[<-HD.o];exact Db.all (fun x hx=>by simp at hx) (aJ0 HW.o k))
   have HWn:=aA (aGe HW.o (by rw[HLN.o];exact hlt:k < NS.length))
   rw[nZa] at HWn
   have HD2:=aA (aNd BS (NS.take k) (NS.getD k n0) [])
   rw[<-aG n0 (by rw[HLN.o];exact hlt),HD.o] at HD2
   rw[aBs hlt] at HG
   have x1:=HT.o.cell 1 rfl
   have hz0:W.heap.size < V.heap.size:=HT.o.lt
   have hz1:W.heap.size+1 < V.heap.size:=HG.o.lt
   have y0:=HG.o.frozen k
   generalize NS.getD k n0=n at *
   by_cases ho:n.op=4
   ·have ho1:(n.op==4)=true:=by simpa using ho
    obtain⟨u0,u1,u2,u3⟩:=HWn.o.use ho
    have hdpn:dpN BS D n=D.getD (BS.getD n.k.toNat 0).toNat 0:=by unfold dpN;rw[if_pos ho]
    rw[hdpn] at HD2
    obtain⟨kk,hkk⟩:∃ kk:Nat,n.k=(kk:Int):=⟨n.k.toNat,by omega⟩
    rw[hkk] at e4 u1 u2 u3 HD2
    simp only[iTn] at u1 u2 u3 HD2
    obtain⟨bb,boff,rfl,hbb,hbc⟩:∃ b off,ba=some ⟨b,off,none⟩/\b < V.heap.size/\V.cell? ⟨b,off+kk,none⟩=some (.i (BS.getD kk 0)):=by
     rcases(HBI.o.later HB.o).cell with h0|⟨b,off,ha,hlb,hc⟩
     ·rw[HLB.o] at u1;omega
     ·exact⟨b,off,ha,hlb,hc kk (by rw[<-HLB.o];exact u1)⟩
    obtain⟨q,hq⟩:∃ q:Nat,BS.getD kk 0=(q:Int):=⟨(BS.getD kk 0).toNat,by omega⟩
    rw[hq] at hbc u3 HD2
    simp only[iTn] at u3 HD2
    have s0:=kI (D++0::List.replicate (dl-(k+1)) 0) q (by simp;omega)
    rw[tY (by rw[hDl];exact u3)] at s0
    have d0:=HG.o.cell q s0
    generalize D.getD q 0=x at *
    have HG2:=aA ((aHl HG.o hDl x).alloc (.cells #[.i n.op,.i n.a,.i n.b,.i n.c,.i kk,.i n.back,.i n.co,.i n.x,.i n.y] 124))
    have HT2:=aA ((HT.o.other (p:=⟨W.heap.size+1,k,none⟩) (by simp) (.i x)).alloc (.cells #[.i n.op,.i n.a,.i n.b,.i n.c,.i kk,.i n.back,.i n.co,.i n.x,.i n.y] 124))
    have HB2:=aA (bel (HB.o.setCell (p:=⟨W.heap.size+1,k,none⟩) (by simp) (.i x)) (aD _ (.cells #[.i n.op,.i n.a,.i n.b,.i n.c,.i kk,.i n.back,.i n.co,.i n.x,.i n.y] 124)))
    have da:=HG.o.cell k (kI _ k (by simp;omega))
    have w0:(kk:Int) < bl:=by have:=HLB.o;omega
    have w1:(q:Int) < dl:=by omega
    have w2:(0:Int)<=kk:=by omega
    have w3:(0:Int)<=q:=by omega
    clear s0 hq u0 u1 u2 u3 hdpn ho HWn hmk HDb
    go_wp2_with fail
    go_roundw
    case rel=>exact⟨k+1,D++[x],by omega,by go_num,aA HD2.o,aA (by rw[lAa];exact HG2.o),aA HT2.o,aA HB2.o⟩
    case measure=>simp[intOf];omega
   ·have ho1:(n.op==4)=false:=by simpa using ho
    have HW2:=HWn.o
    obtain⟨ar,har⟩:∃ ar:Nat,gY n.op=ar:=⟨(gY n.op).toNat,by have:=HW2.pr;omega⟩
    have h3:ar<=3:=by
     have:gY n.op<=3:=by unfold gY mU;repeat' split <;> omega
     omega
    have HPt:=aA fun j hj=>aJj (n:=n) (j:=j) har h3 hj
    have HPl:=aA (zZ har h3)
    have HPr:=aA HW2.prt
    have HSg:=aA fun j hj=>aR7 (D:=D) (n:=n) (k:=j) hj
    have hdpn:dpN BS D n=((eY n).map fun p=>D.getD p.toNat 0).foldl max 0+1:=by unfold dpN;rw[if_neg ho]
    have hin:=aNc HDb.o (by rw[hDl];exact HW2)
    rw[hdpn] at HD2 hin
    obtain⟨L,hL⟩:∃ L,((eY n).map fun p=>D.getD p.toNat 0)=L:=⟨_,rfl⟩
    have HLl:Hid (L.length=ar):=aA (by rw[<-hL,List.length_map,HPl.o])
    have HLb:Hid (∀ j,0<=(L.take j).foldl max 0/\(L.take j).foldl max 0<=1024):=aA fun j=>⟨lY _ _,pX _ _ _ (by omega) fun x hx=>by
     have:=uG L 0 x (List.mem_of_mem_take hx)
     rw[<-hL] at this
     omega⟩
    rw[hL] at HSg HD2
    have HPO:=aA (wF n ar (by rw[HW2.ar ho,har]) h3 (V.alloc (.cells (bN n) 124)))
    have hl:=aD V (.cells (bN n) 124)
    have HG1:=aA (HG.o.alloc (.cells (bN n) 124))
    have HT1:=aA (HT.o.alloc (.cells (bN n) 124))
    have HB1:=aA (bel HB.o hl)
    clear hl hL hdpn har HW2 HWn ho hin HDb hmk
    go_wp2_with fail
    refine HPO.o.mono ?_
    rintro e V1 ⟨gp,rfl,-,hGp,hb⟩
    have HGp:=aA hGp
    have HGa:=aA (HG1.o.below hb)
    have HTa:=aA (HT1.o.below hb)
    have HBa:=aA (bel HB1.o hb)
    have hza:=HGa.o.lt
    have ya:=HGa.o.frozen k
    have da:=HGa.o.cell k (kI _ k (by simp;omega))
    clear hb hGp HG1 HT1 HB1 HPO HG HT HB e0 e1 e2 e3 e4 e5 e6 e7 e8 x1 y0
    go_wp2_with fail
    go_loop [6,39] (fun m i=>∃ j:Nat,j<=ar/\i=.i j/\m=.i ((L.take j).foldl max 0)) (fun _ i=>ar-(intOf i).toNat)
    case atStart=>exact⟨0,nZl _,rfl,rfl⟩
    case round =>
     obtain⟨j,hj,rfl,rfl⟩:=hrel
     by_cases hlj:j < ar
     ·have cp:=HGp.o.cell j (HPt.o j hlj).1
      obtain⟨p0,p1⟩:=HPr.o _ (HPt.o j hlj).2
      have HTt:=aA (HSg.o j (by rw[HPl.o];exact hlj))
      obtain⟨q,hq⟩:∃ q:Nat,(eY n).getD j 0=(q:Int):=⟨((eY n).getD j 0).toNat,by omega⟩
      rw[hq] at cp p1 HTt
      simp only[iTn] at p1 HTt
      have s0:=kI (D++0::List.replicate (dl-(k+1)) 0) q (by simp;omega)
      rw[tY (by rw[hDl];exact p1)] at s0
      have d0:=HGa.o.cell q s0
      generalize D.getD q 0=x at *
      have j0:(0:Int)<=j:=by omega
      have j1:(j:Int) < ar:=by omega
      have i0:(0:Int)<=q:=by omega
      have i1:(q:Int) < dl:=by omega
      clear s0 p0 p1 hq
      generalize (L.take j).foldl max 0=mm at *
      go_wp2_with fail
      go_round
      case rel=>exact⟨j+1,by omega,by go_num,by rw[HTt.o]⟩
      case measure=>simp[intOf];omega
     ·obtain rfl:j=ar:=by omega
      have e:L.take j=L:=lTl (by rw[HLl.o];exact nLr _)
      obtain⟨b0,b1⟩:=HLb.o j
      rw[e] at b0 b1 ⊢
      generalize L.foldl max 0=mm at *
      have HG2:=aA (aHl HGa.o hDl (mm+1))
      have HT2:=aA (HTa.o.other (p:=⟨W.heap.size+1,k,none⟩) (by simp) (.i (mm+1)))
      have HB2:=aA (HBa.o.setCell (p:=⟨W.heap.size+1,k,none⟩) (by simp) (.i (mm+1)))
      go_wp2_with fail
      go_roundw
      case rel=>exact⟨k+1,D++[mm+1],by omega,by go_num,aA HD2.o,aA (by rw[lAa];exact HG2.o),aA HT2.o,aA HB2.o⟩
      case measure=>simp[intOf];omega
  ·obtain rfl:k=dl:=by omega
   have e:NS.take k=NS:=lTl (by rw[HLN.o];exact nLr _)
   have hZ:=HD.o
   rw[e] at hZ
   have HZ:=aA hZ
   have HG1:=aA HG.o
   rw[Nat.sub_self,List.replicate_zero,List.append_nil] at HG1
   clear hZ
   go_wp2_with fail
   go_ret
   rw[HZ.o]
   exact⟨_,rfl,HG1.o,HB.o⟩
end Go.Proofs.YticnbcfmbhjbgabGreatDoor
namespace Go.Proofs.YticnbcfmbhjbgabGreatDoor
open Go.RowKit Go.IntWalk Lx Pz
variable {W:World} {b:Nat} {t:TypeId} {BS:List Int} {root:Int}
abbrev jG:Array Value:=#[.slice none 0 0,.i 0,.i 0]
def CkP (w:World)(f d:Int)(NM:List aN)(BS:List Int)(NS:List Nd)(root:Int)(e:Ending)(W':World):Prop :=
 (kN f d NM BS NS root≠0/\e=.returned (.tuple #[.agg jG,.i (kN f d NM BS NS root)])/\Below w.heap.size w W') \/
 (kN f d NM BS NS root=0/\∃ g,e=.returned (.tuple #[.agg #[.slice (some ⟨g,0,none⟩) NS.length NS.length,.i (rO NS),.i (mxR (uV BS NS []))],.i 0])/\w.heap.size<=g/\aB W' g 80 (oP (pK f d BS NS []).1)/\Below w.heap.size w W')
theorem gG {x y z:Value}(h:aB W b t #[x,y,z]):W.cell? ⟨b,0,none⟩=some x/\W.cell? ⟨b,1,none⟩=some y/\W.cell? ⟨b,2,none⟩=some z/\W.frozen? ⟨b,0,none⟩=false/\W.frozen? ⟨b,1,none⟩=false/\W.frozen? ⟨b,2,none⟩=false :=
 ⟨h.cell 0 rfl,h.cell 1 rfl,h.cell 2 rfl,h.frozen 0,h.frozen 1,h.frozen 2⟩
theorem fP {w w2:World}{p q r:Value}(h:aB w2 b t #[p,q,r])(hB:Below w.heap.size w w2)(hb:w.heap.size<=b)(x y z:Value) :
  aB (((w2.setCell ⟨b,0,none⟩ x).setCell ⟨b,1,none⟩ y).setCell ⟨b,2,none⟩ z) b t #[x,y,z] /\
  Below w.heap.size w (((w2.setCell ⟨b,0,none⟩ x).setCell ⟨b,1,none⟩ y).setCell ⟨b,2,none⟩ z) :=
 ⟨((h.set 0 x).set 1 y).set 2 z,((hB.setCell (p:=⟨b,0,none⟩) hb _).setCell (p:=⟨b,1,none⟩) hb _).setCell (p:=⟨b,2,none⟩) hb _⟩
theorem qF {r:Nat}{cs:Array Value}(h:aB W b t cs)(hr:b≠r)(x y z:Value):aB (((W.setCell ⟨r,0,none⟩ x).setCell ⟨r,1,none⟩ y).setCell ⟨r,2,none⟩ z) b t cs :=
 ((h.other (p:=⟨r,0,none⟩) hr x).other (p:=⟨r,1,none⟩) hr y).other (p:=⟨r,2,none⟩) hr z
theorem aWl {f d:Int}{NM:List aN}{NS:List Nd}(h:sJ f d NM BS NS root≠0):kN f d NM BS NS root=sJ f d NM BS NS root:=by
 unfold sJ at h ⊢
 unfold kN
 by_cases h1:¬Knd.May f d
 ·rw[if_pos h1,if_pos h1]
 ·rw[if_neg h1] at h ⊢
  rw[if_neg h1]
  by_cases h2:pQ NM BS NS root=false
  ·rw[if_pos h2,if_pos h2]
  ·rw[if_neg h2] at h ⊢
   rw[if_neg h2]
   by_cases h3:NS.any (ahB f d)=true
   ·rw[if_pos h3,if_pos h3]
   ·rw[if_neg h3] at h
    exact absurd rfl h
theorem aZt {f d:Int}{NM:List aN}{NS:List Nd}(h:sJ f d NM BS NS root=0):Knd.May f d/\pQ NM BS NS root=true /\
  kN f d NM BS NS root=if (pK f d BS NS []).2≠0 then(pK f d BS NS []).2 else if 200 < rO NS\/24 < mxR (uV BS NS []) then 14 else 0:=by
 unfold sJ at h
 by_cases h1:¬Knd.May f d
 ·rw[if_pos h1] at h;cases h
 ·rw[if_neg h1] at h
  by_cases h2:pQ NM BS NS root=false
  ·rw[if_pos h2] at h;cases h
  ·rw[if_neg h2] at h
   by_cases h3:NS.any (ahB f d)=true
   ·rw[if_pos h3] at h;cases h
   ·refine⟨Decidable.of_not_not h1,by simpa using h2,?_⟩
    unfold kN
    rw[if_neg h1,if_neg h2,if_neg h3]
structure Cr (V:World)(tb:Nat)(tv:Array Value)(sv dv:Value)(co mx:Int)(D:List Int)(n:Nat)(d:Nat->Bool)(x9 x27 x28 x29 x30 x31 x32 x33 x34:Value)(w:World):Prop where
 bel:Below V.heap.size V w
 m0:d 0=true->x27=sv
 m1:d 1=true->x28=.pointer (some ⟨tb,2,none⟩)
 m2:d 2=true->x29=dv
 m3:d 3=true->x30=.i co
 m4:d 4=true->x31=.agg tv
 m5:d 5=true->d 9=false->∃ gd,x32=.slice (some ⟨gd,0,none⟩) n n/\aB w gd 3 (inA D)
 m6:d 6=true->x33=.i mx
 m7:d 7=true->x34=.agg #[sv,.i co,.i mx]
 m8:d 8=true->d 9=false->∃ gr,x9=.pointer (some ⟨gr,0,none⟩)/\V.heap.size<=gr/\aB w gr 56 jG
 m9:d 9=true->∃ gr,x9=.pointer (some ⟨gr,0,none⟩)/\V.heap.size<=gr/\aB w gr 56 #[sv,.i co,.i mx]
 ph:d 9=true->∀ j,j < 9->d j=true
theorem bA0 {a b:Bool}(h:b=true):(a || b)=true:=by rw[h];simp
theorem aXq:Tryz.prog.follows .mixedOrders=true:=by kernel_rfl
theorem iH (f d:Int){na ba da:Option Addr}{nl nc bl bc dl dc:Nat}{NM:List aN}{NS:List Nd}(hX:Tx W na nl nc NM)(hB:Iz W ba bl bc BS)(hN:Nz W da dl dc NS)(hs:∀ s ∈ NM,s.length<=9223372036854775807) :
  Calls Tryz.prog 41 #[.agg (dX f d),.agg (iG (.slice na nl nc) (.slice ba bl bc) (.slice da dl dc) (.i root))] W (CkP W f d NM BS NS root):=by
 have hb1:=aD W (.cells (dX f d) 35)
 have hb2:=bel hb1 (aD (W.alloc (.cells (dX f d) 35)) (.cells (iG (.slice na nl nc) (.slice ba bl bc) (.slice da dl dc) (.i root)) 51))
 have hb3:=bel hb2 (aD ((W.alloc (.cells (dX f d) 35)).alloc (.cells (iG (.slice na nl nc) (.slice ba bl bc) (.slice da dl dc) (.i root)) 51)) (.cells jG 56))
 have HK0:=aA (((aB.new W 35 (dX f d)).alloc (.cells (iG (.slice na nl nc) (.slice ba bl bc) (.slice da dl dc) (.i root)) 51)).alloc (.cells jG 56))
 have HT0:Hid (aB (((W.alloc (.cells (dX f d) 35)).alloc (.cells (iG (.slice na nl nc) (.slice ba bl bc) (.slice da dl dc) (.i root)) 51)).alloc (.cells jG 56)) (W.heap.size+1) 51 (iG (.slice na nl nc) (.slice ba bl bc) (.slice da dl dc) (.i root))):=by
  have:=(aB.new (W.alloc (.cells (dX f d) 35)) 51 (iG (.slice na nl nc) (.slice ba bl bc) (.slice da dl dc) (.i root))).alloc (.cells jG 56)
  simp only[wSa] at this
  exact aA this
 have HR0:Hid (aB (((W.alloc (.cells (dX f d) 35)).alloc (.cells (iG (.slice na nl nc) (.slice ba bl bc) (.slice da dl dc) (.i root)) 51)).alloc (.cells jG 56)) (W.heap.size+1+1) 56 jG):=by
  have:=aB.new ((W.alloc (.cells (dX f d) 35)).alloc (.cells (iG (.slice na nl nc) (.slice ba bl bc) (.slice da dl dc) (.i root)) 51)) 56 jG
  simp only[wSa] at this
  exact aA this
 have HX:=aA (hX.later hb3)
 have HBI:=aA (hB.later hb3)
 have HNI:=aA (hN.later hb3)
 have HLN:=aA hN.len
 have HB0:=aA hb3
 have HM:=aA (aNe f d (root:=root) (hX.later hb3) (hB.later hb3) (hN.later hb3) hs)
 clear hX hB hN hb1 hb2 hb3 hs
 go_enter Tryz.func41,Tryz.ntmps41
 go_wp2_with fail
 refine HM.o.mono ?_
 rintro e V1 ⟨rfl,hb⟩
 have HR1:=aA (HR0.o.below hb)
 have HB1:=aA (bel HB0.o hb)
 by_cases hm:sJ f d NM BS NS root=0
 ·obtain⟨m1,m2,m3⟩:=aZt hm
  obtain⟨es,ex,hD⟩:=jS.1 m2
  have hfew:dl<=1024:=by rw[<-HLN.o];exact hD.few
  have h1:1<=dl:=by rw[<-HLN.o,hD.nodes,lLa,E.flat_len];have:=ex.size_pos;omega
  have HK1:=aA (HK0.o.below hb)
  have HT1:=aA (HT0.o.below hb)
  have HNI1:=aA (HNI.o.later hb)
  have HBI1:=aA (HBI.o.later hb)
  have HW:=aA hD.wl
  have HM3:=aA m3
  have HSp:=aA (aF1 f d ⟨na,nl,nc,rfl⟩ (root:=root) m1 (HBI.o.later hb) (HNI.o.later hb) hD.wl hfew)
  obtain⟨k0,k1,-,-⟩:=aQ HK1.o
  obtain⟨t0,t1,t2,t3⟩:V1.cell? ⟨W.heap.size+1,0,none⟩=some (.slice na nl nc)/\V1.cell? ⟨W.heap.size+1,1,none⟩=some (.slice ba bl bc)/\V1.cell? ⟨W.heap.size+1,2,none⟩=some (.slice da dl dc)/\V1.cell? ⟨W.heap.size+1,3,none⟩=some (.i root):=⟨HT1.o.cell 0 rfl,HT1.o.cell 1 rfl,HT1.o.cell 2 rfl,HT1.o.cell 3 rfl⟩
  rw[hm]
  clear hm hb m1 m2 m3 hD HM HK0 HT0 HR0 HB0 HX HBI HNI
  go_wp2_with fail
  refine HSp.o.mono ?_
  rintro e V2 (⟨hz,rfl,hb⟩|⟨hz,gs,rfl,hgs,hG,hb⟩)
  ·have hne:((pK f d BS NS []).2 != 0)=true:=by simpa using hz
   have HF:Hid (kN f d NM BS NS root=(pK f d BS NS []).2):=aA (by rw[HM3.o,if_pos hz])
   have HR2:=aA (HR1.o.below hb)
   have HB2:=aA (bel HB1.o hb)
   have HZ:=aA hz
   obtain⟨r0,r1,r2,r3,r4,r5⟩:=gG HR2.o
   clear hb hz HM3
   generalize (pK f d BS NS []).2=er at *
   go_wp2_with fail
   obtain⟨hp,hpb⟩:=fP HR2.o HB2.o (by omega) (.slice none 0 0) (.i 0) (.i 0)
   have p0:=hp.cell 0 rfl
   have p1:=hp.cell 1 rfl
   have p2:=hp.cell 2 rfl
   exact bPr (v:=.tuple #[.agg jG,.i er]) (by simp[results,Tryz.results41,go_sem,p0,p1,p2]) rfl (.inl (by rw[HF.o];exact⟨HZ.o,rfl,hpb⟩))
  ·have HF:Hid (kN f d NM BS NS root=if 200 < rO NS\/24 < mxR (uV BS NS []) then 14 else 0):=aA (by rw[HM3.o,if_neg (by simpa using hz)])
   have HR2:=aA (HR1.o.below hb)
   have HB2:=aA (bel HB1.o hb)
   have HT2:=aA (HT1.o.below hb)
   have HN2:=aA (HNI1.o.later hb)
   have HI2:=aA (HBI1.o.later hb)
   have HG2:=aA hG
   have hgz:=hG.lt
   obtain⟨t0,t1,t2,t3⟩:V2.cell? ⟨W.heap.size+1,0,none⟩=some (.slice na nl nc)/\V2.cell? ⟨W.heap.size+1,1,none⟩=some (.slice ba bl bc)/\V2.cell? ⟨W.heap.size+1,2,none⟩=some (.slice da dl dc)/\V2.cell? ⟨W.heap.size+1,3,none⟩=some (.i root):=⟨HT2.o.cell 0 rfl,HT2.o.cell 1 rfl,HT2.o.cell 2 rfl,HT2.o.cell 3 rfl⟩
   have hDl:(uV BS NS []).length=dl:=by rw[aCj,HLN.o];simp
   have HDb:=aA (Db.all (BS:=BS) (A:=NS) (D:=[]) (fun x hx=>by simp at hx) HW.o)
   have HGs:=aA hgs
   have HR1s:=aA HR1.o.lt
   obtain⟨co,hco⟩:∃ co,rO NS=co:=⟨_,rfl⟩
   obtain⟨D,hD⟩:∃ D,uV BS NS []=D:=⟨_,rfl⟩
   obtain⟨mx,hmx⟩:∃ mx,mxR D=mx:=⟨_,rfl⟩
   obtain⟨SS,hSS⟩:∃ SS,(pK f d BS NS []).1=SS:=⟨_,rfl⟩
   rw[hD] at HDb hDl HF
   rw[hco,hmx] at HF
   rw[hSS] at HG2
   have HCo:=aA hco
   have HD:=aA hD
   have HMx:=aA hmx
   have HSS:=aA hSS
   have HDl:=aA hDl
   clear hb hG hz HM3 hDl HR1 HB1 HT1 HNI1 HBI1 HSp hgs k0 k1 hco hD hmx hSS
   go_wp2_with fail
   refine wV aXq (aX9 (by kernel_rfl)) (fun dd a w=>∃ x9 x27 x28 x29 x30 x31 x32 x33 x34,a=⟨#[.agg (dX f d),.agg (iG (.slice na nl nc) (.slice ba bl bc) (.slice da dl dc) (.i root)),.pointer (some ⟨W.heap.size,0,none⟩),.pointer (some ⟨W.heap.size+1,0,none⟩),.pointer (some ⟨W.heap.size+1+1,0,none⟩),.i 0,.i 0,.slice (some ⟨gs,0,none⟩) dl dl,.i 0,x9,.agg #[.i f,.i d],.agg #[.slice na nl nc,.slice ba bl bc,.slice da dl dc,.i root],.i 0,.i 0,.bool false,undef,undef,.tuple #[.slice (some ⟨gs,0,none⟩) dl dl,.i 0],.agg #[.i f,.i d],.agg #[.slice na nl nc,.slice ba bl bc,.slice da dl dc,.i root],.tuple #[.slice (some ⟨gs,0,none⟩) dl dl,.i 0],.slice (some ⟨gs,0,none⟩) dl dl,.i 0,.i 0,.bool false,undef,undef,x27,x28,x29,x30,x31,x32,x33,x34,undef,undef,undef,undef,undef,undef,undef,undef,undef,undef],[]⟩/\Cr V2 (W.heap.size+1) (iG (.slice na nl nc) (.slice ba bl bc) (.slice da dl dc) (.i root)) (.slice (some ⟨gs,0,none⟩) dl dl) (.slice da dl dc) co mx D dl dd x9 x27 x28 x29 x30 x31 x32 x33 x34 w) ?_ ?_ ?_
   ·refine⟨_,_,_,_,_,_,_,_,_,rfl,aF V2,?_,?_,?_,?_,?_,?_,?_,?_,?_,?_,?_⟩
    all_goals intro h;cases h
   ·rintro dd a w i o ⟨x9,x27,x28,x29,x30,x31,x32,x33,x34,rfl,C⟩ hdi ho haft Q' hk'
    have HK:=aA hk'
    clear hk'
    have hi:i < 10:=(aGs.1 ho).1
    match i,hi with
    | 0,_ =>
     obtain rfl:=(Option.some.inj ho)
     have nope:dd 9=true->False:=fun h=>by have h2:=C.ph h 0 (by decide);rw[hdi] at h2;cases h2
     clear haft ho
     go_wp2
     exact HK.o _ _ ⟨_,_,_,_,_,_,_,_,_,rfl,⟨C.bel,(fun _=>rfl),C.m1,C.m2,C.m3,C.m4,C.m5,C.m6,C.m7,C.m8,(fun h=>(nope h).elim),(fun h=>(nope h).elim)⟩⟩
    | 1,_ =>
     obtain rfl:=(Option.some.inj ho)
     have nope:dd 9=true->False:=fun h=>by have h2:=C.ph h 1 (by decide);rw[hdi] at h2;cases h2
     clear haft ho
     go_wp2
     exact HK.o _ _ ⟨_,_,_,_,_,_,_,_,_,rfl,⟨C.bel,C.m0,(fun _=>rfl),C.m2,C.m3,C.m4,C.m5,C.m6,C.m7,C.m8,(fun h=>(nope h).elim),(fun h=>(nope h).elim)⟩⟩
    | 2,_ =>
     obtain rfl:=(Option.some.inj ho)
     have nope:dd 9=true->False:=fun h=>by have h2:=C.ph h 2 (by decide);rw[hdi] at h2;cases h2
     have g1:dd 1=true:=haft ⟨1,.data⟩ (by simp) rfl
     clear haft ho
     have e1:=C.m1 g1
     subst e1
     have t2:=(HT2.o.below C.bel).cell 2 rfl
     have C:=aA C
     go_wp2
     have C:=C.o
     exact HK.o _ _ ⟨_,_,_,_,_,_,_,_,_,rfl,⟨C.bel,C.m0,C.m1,(fun _=>rfl),C.m3,C.m4,C.m5,C.m6,C.m7,C.m8,(fun h=>(nope h).elim),(fun h=>(nope h).elim)⟩⟩
    | 3,_ =>
     obtain rfl:=(Option.some.inj ho)
     have nope:dd 9=true->False:=fun h=>by have h2:=C.ph h 3 (by decide);rw[hdi] at h2;cases h2
     have g2:dd 2=true:=haft ⟨2,.data⟩ (by simp) rfl
     clear haft ho
     have e1:=C.m2 g2
     subst e1
     have HQ:=aA (aGq (HN2.o.later C.bel) hfew)
     rw[HCo.o] at HQ
     have C:=aA C
     go_wp2_with fail
     refine HQ.o.mono ?_
     rintro e w' ⟨rfl,hw⟩
     go_wp2
     have C:=C.o
     have hb:=bel C.bel hw
     exact HK.o _ _ ⟨_,_,_,_,_,_,_,_,_,rfl,⟨hb,C.m0,C.m1,C.m2,(fun _=>rfl),C.m4,(fun h h2=>let ⟨g,e,r⟩:=C.m5 h h2;⟨g,e,r.below hw⟩),C.m6,C.m7,(fun h h2=>let ⟨g,e,e2,r⟩:=C.m8 h h2;⟨g,e,e2,r.below hw⟩),(fun h=>(nope h).elim),(fun h=>(nope h).elim)⟩⟩
    | 4,_ =>
     obtain rfl:=(Option.some.inj ho)
     have nope:dd 9=true->False:=fun h=>by have h2:=C.ph h 4 (by decide);rw[hdi] at h2;cases h2
     clear haft ho
     obtain⟨t0,t1,t2,t3⟩:w.cell? ⟨W.heap.size+1,0,none⟩=some (.slice na nl nc)/\w.cell? ⟨W.heap.size+1,1,none⟩=some (.slice ba bl bc)/\w.cell? ⟨W.heap.size+1,2,none⟩=some (.slice da dl dc)/\w.cell? ⟨W.heap.size+1,3,none⟩=some (.i root):=⟨(HT2.o.below C.bel).cell 0 rfl,(HT2.o.below C.bel).cell 1 rfl,(HT2.o.below C.bel).cell 2 rfl,(HT2.o.below C.bel).cell 3 rfl⟩
     have C:=aA C
     go_wp2
     have C:=C.o
     exact HK.o _ _ ⟨_,_,_,_,_,_,_,_,_,rfl,⟨C.bel,C.m0,C.m1,C.m2,C.m3,(fun _=>rfl),C.m5,C.m6,C.m7,C.m8,(fun h=>(nope h).elim),(fun h=>(nope h).elim)⟩⟩
    | 5,_ =>
     obtain rfl:=(Option.some.inj ho)
     have nope:dd 9=true->False:=fun h=>by have h2:=C.ph h 5 (by decide);rw[hdi] at h2;cases h2
     have g4:dd 4=true:=haft ⟨4,.data⟩ (by simp) rfl
     have g3:dd 3=true:=haft ⟨3,.chain⟩ (by simp) rfl
     clear haft ho
     have e1:=C.m4 g4
     subst e1
     have HQ:=aA (aCh ⟨na,nl,nc,rfl⟩ (root:=root) (HI2.o.later C.bel) (HN2.o.later C.bel) HW.o hfew)
     rw[HD.o] at HQ
     have C:=aA C
     go_wp2_with fail
     refine HQ.o.mono ?_
     rintro e w' ⟨gd,rfl,hG,hw⟩
     go_wp2
     have C:=C.o
     have hb:=bel C.bel hw
     exact HK.o _ _ ⟨_,_,_,_,_,_,_,_,_,rfl,⟨hb,C.m0,C.m1,C.m2,C.m3,C.m4,(fun _ _=>⟨gd,rfl,hG⟩),C.m6,C.m7,(fun h h2=>let ⟨g,e,e2,r⟩:=C.m8 h h2;⟨g,e,e2,r.below hw⟩),(fun h=>(nope h).elim),(fun h=>(nope h).elim)⟩⟩
    | 6,_ =>
     obtain rfl:=(Option.some.inj ho)
     have nope:dd 9=true->False:=fun h=>by have h2:=C.ph h 6 (by decide);rw[hdi] at h2;cases h2
     have g5:dd 5=true:=haft ⟨5,.data⟩ (by simp) rfl
     clear haft ho
     have h9:dd 9=false:=by cases h:dd 9 with|false=>rfl|true=>exact(nope h).elim
     obtain⟨gd,e1,hG⟩:=C.m5 g5 h9
     subst e1
     have HQ:=aA (aQg (D:=D) (by have h:=aNu hG (by rw[HDl.o];exact hfew);rw[HDl.o] at h;exact h) h1 (fun x hx=>(HDb.o x hx).1))
     rw[HMx.o] at HQ
     clear hG h9
     have C:=aA C
     go_wp2_with fail
     refine HQ.o.mono ?_
     rintro e w' ⟨rfl,rfl⟩
     go_wp2
     have C:=C.o
     exact HK.o _ _ ⟨_,_,_,_,_,_,_,_,_,rfl,⟨C.bel,C.m0,C.m1,C.m2,C.m3,C.m4,C.m5,(fun _=>rfl),C.m7,C.m8,(fun h=>(nope h).elim),(fun h=>(nope h).elim)⟩⟩
    | 7,_ =>
     obtain rfl:=(Option.some.inj ho)
     have nope:dd 9=true->False:=fun h=>by have h2:=C.ph h 7 (by decide);rw[hdi] at h2;cases h2
     have g0:dd 0=true:=haft ⟨0,.data⟩ (by simp) rfl
     have g3:dd 3=true:=haft ⟨3,.data⟩ (by simp) rfl
     have g6:dd 6=true:=haft ⟨6,.data⟩ (by simp) rfl
     clear haft ho
     have e1:=C.m0 g0
     have e2:=C.m3 g3
     have e3:=C.m6 g6
     subst e1 e2 e3
     have C:=aA C
     go_wp2
     have C:=C.o
     exact HK.o _ _ ⟨_,_,_,_,_,_,_,_,_,rfl,⟨C.bel,C.m0,C.m1,C.m2,C.m3,C.m4,C.m5,C.m6,(fun _=>rfl),C.m8,(fun h=>(nope h).elim),(fun h=>(nope h).elim)⟩⟩
    | 8,_ =>
     obtain rfl:=(Option.some.inj ho)
     have nope:dd 9=true->False:=fun h=>by have h2:=C.ph h 8 (by decide);rw[hdi] at h2;cases h2
     clear haft ho
     have C:=aA C
     go_wp2
     have C:=C.o
     have hw:=aD w (.cells jG 56)
     have hb:=bel C.bel hw
     exact HK.o _ _ ⟨_,_,_,_,_,_,_,_,_,rfl,⟨hb,C.m0,C.m1,C.m2,C.m3,C.m4,(fun h h2=>let ⟨g,e,r⟩:=C.m5 h h2;⟨g,e,r.below hw⟩),C.m6,C.m7,(fun _ _=>⟨w.heap.size,rfl,C.bel.size,aB.new w _ _⟩),(fun h=>(nope h).elim),(fun h=>(nope h).elim)⟩⟩
    | 9,_ =>
     obtain rfl:=(Option.some.inj ho)
     have g8:dd 8=true:=haft ⟨8,.data⟩ (by simp) rfl
     have g7:dd 7=true:=haft ⟨7,.data⟩ (by simp) rfl
     have g6:dd 6=true:=haft ⟨6,.chain⟩ (by simp) rfl
     have g0:dd 0=true:=haft ⟨0,.phase⟩ (by simp) rfl
     have g1:dd 1=true:=haft ⟨1,.phase⟩ (by simp) rfl
     have g2:dd 2=true:=haft ⟨2,.phase⟩ (by simp) rfl
     have g3:dd 3=true:=haft ⟨3,.phase⟩ (by simp) rfl
     have g4:dd 4=true:=haft ⟨4,.phase⟩ (by simp) rfl
     have g5:dd 5=true:=haft ⟨5,.phase⟩ (by simp) rfl
     clear haft ho
     have D9:∀ j,j < 9->dd j=true:=fun j hj=>match j,hj with|0,_=>g0|1,_=>g1|2,_=>g2|3,_=>g3|4,_=>g4|5,_=>g5|6,_=>g6|7,_=>g7|8,_=>g8
     have e1:=C.m7 g7
     obtain⟨gr,e2,hge,hR⟩:=C.m8 g8 hdi
     subst e1 e2
     obtain⟨r0,r1,r2,r3,r4,r5⟩:=gG hR
     obtain⟨hp,hpb⟩:=fP (w:=V2) hR C.bel hge (.slice (some ⟨gs,0,none⟩) dl dl) (.i co) (.i mx)
     have HP:=aA hp
     have HPB:=aA hpb
     clear hp hpb hR
     have C:=aA C
     go_wp2
     have C:=C.o
     exact HK.o _ _ ⟨_,_,_,_,_,_,_,_,_,rfl,⟨HPB.o,C.m0,C.m1,C.m2,C.m3,C.m4,(fun _ h=>by cases h),C.m6,(fun _=>rfl),(fun _ h=>by cases h),(fun _=>⟨gr,rfl,hge,HP.o⟩),(fun _ j hj=>bA0 (D9 j hj))⟩⟩
   ·rintro dd a w ⟨x9,x27,x28,x29,x30,x31,x32,x33,x34,rfl,C⟩ hall
    have D9:∀ i,i < 10->dd i=true:=hall
    obtain⟨gr,e1,hge,hR⟩:=C.m9 (D9 9 (by omega))
    subst e1
    have HGw:=aA (HG2.o.below C.bel)
    have HRw:=aA (HR2.o.below C.bel)
    have HBw:=aA (bel HB2.o C.bel)
    have hrz:=HR2.o.lt
    have HRr:=aA hR
    obtain⟨r0,r1,r2,-,-,-⟩:=gG hR
    obtain⟨q0,q1,q2,q3,q4,q5⟩:=gG HRw.o
    obtain⟨hp,hpb⟩:=fP HRw.o HBw.o (by omega) (.slice none 0 0) (.i 0) (.i 0)
    obtain⟨hq,hqb⟩:=fP HRw.o HBw.o (by omega) (.slice (some ⟨gs,0,none⟩) dl dl) (.i co) (.i mx)
    have HGq:=aA (qF (r:=W.heap.size+1+1) HGw.o (by have:=HGs.o;have:=HR1s.o;omega) (.slice (some ⟨gs,0,none⟩) dl dl) (.i co) (.i mx))
    have P0:=aA hp
    have PB:=aA hpb
    have Q0:=aA hq
    have QB:=aA hqb
    clear hp hpb hq hqb hR hall D9 C
    by_cases b1:200 < co
    ·have HF2:Hid (kN f d NM BS NS root=14):=aA (by rw[HF.o,if_pos (.inl b1)])
     go_wp2_with fail
     have p0:=P0.o.cell 0 rfl
     have p1:=P0.o.cell 1 rfl
     have p2:=P0.o.cell 2 rfl
     exact bPr (v:=.tuple #[.agg jG,.i 14]) (by simp[results,Tryz.results41,go_sem,p0,p1,p2]) rfl (.inl (by rw[HF2.o];exact⟨by decide,rfl,PB.o⟩))
    ·by_cases b2:24 < mx
     ·have HF2:Hid (kN f d NM BS NS root=14):=aA (by rw[HF.o,if_pos (.inr b2)])
      go_wp2_with fail
      have p0:=P0.o.cell 0 rfl
      have p1:=P0.o.cell 1 rfl
      have p2:=P0.o.cell 2 rfl
      exact bPr (v:=.tuple #[.agg jG,.i 14]) (by simp[results,Tryz.results41,go_sem,p0,p1,p2]) rfl (.inl (by rw[HF2.o];exact⟨by decide,rfl,PB.o⟩))
     ·have HF2:Hid (kN f d NM BS NS root=0):=aA (by rw[HF.o,if_neg (by omega)])
      go_wp2_with fail
      have p0:=Q0.o.cell 0 rfl
      have p1:=Q0.o.cell 1 rfl
      have p2:=Q0.o.cell 2 rfl
      exact bPr (v:=.tuple #[.agg #[.slice (some ⟨gs,0,none⟩) dl dl,.i co,.i mx],.i 0]) (by simp[results,Tryz.results41,go_sem,p0,p1,p2]) rfl (.inr ⟨HF2.o,gs,by rw[HLN.o,HCo.o,HD.o,HMx.o],by have:=HGs.o;have:=HR1s.o;omega,by rw[HSS.o];exact HGq.o,QB.o⟩)
 ·have hne:(sJ f d NM BS NS root != 0)=true:=by simpa using hm
  have HF:=aA (aWl hm)
  have HE:=aA hm
  obtain⟨r0,r1,r2,r3,r4,r5⟩:=gG HR1.o
  clear hm hb HM HX HBI HNI HK0 HT0 HR0 HB0
  generalize sJ f d NM BS NS root=er at *
  go_wp2_with fail
  obtain⟨hp,hpb⟩:=fP HR1.o HB1.o (by omega) (.slice none 0 0) (.i 0) (.i 0)
  have p0:=hp.cell 0 rfl
  have p1:=hp.cell 1 rfl
  have p2:=hp.cell 2 rfl
  exact bPr (v:=.tuple #[.agg jG,.i er]) (by simp[results,Tryz.results41,go_sem,p0,p1,p2]) rfl (.inl (by rw[HF.o];exact⟨HE.o,rfl,hpb⟩))
end Go.Proofs.YticnbcfmbhjbgabGreatDoor
namespace Go.Proofs.YticnbcfmbhjbgabGreatDoor
open Lx Pz
def bCh (f d:Int)(v:Wd)(n:Nd):Int:=v.ps.getD ((Knd.sK f d (oH n)).getD 0) 0
def opV (V:List Int)(n:Nd):Int:=(Spn.bK n.op 0 0 ((eY n).map fun p=>V.getD p.toNat 0)).1
def vaN (f d:Int)(v:Wd)(BS V:List Int)(n:Nd):Int :=
 if n.op=4 then V.getD (BS.getD n.k.toNat 0).toNat 0 else if n.op=1 then n.k else if n.op=2 then inpV f d v n.k else if n.op=3 then bCh f d v n else opV V n
def vaR (f d:Int)(v:Wd)(BS:List Int):List Nd->List Int->List Int
 | [],V=>V
 | n::NS,V=>vaR f d v BS NS (V++[vaN f d v BS V n])
noncomputable def evE (f d:Int)(v:Wd)(NM:List aN)(BS:List Int)(NS:List Nd)(root:Int):Int:=if kN f d NM BS NS root=0 then Knd.aGv f d v.x v.y v.c v.ps else kN f d NM BS NS root
noncomputable def evV (f d:Int)(v:Wd)(NM:List aN)(BS:List Int)(NS:List Nd)(root:Int):Int:=if evE f d v NM BS NS root=0 then(vaR f d v BS NS []).getD root.toNat 0 else 0
theorem aI2 (L:List Knd.Plc)(p:Knd.Plc):∀(k:Nat),k<=64->∀ q,Knd.look L (Knd.upto k) p=some q->q < k
 | 0,_,q,h=>by simp[Knd.upto,Knd.look] at h
 | k+1,hk,q,h=>by
  rw[Knd.aBz k (by omega),Knd.aBh] at h
  split at h
  ·cases h;exact Nat.lt_succ_self k
  ·have:=aI2 L p k (by omega) q h;omega
end Go.Proofs.YticnbcfmbhjbgabGreatDoor
namespace Go.Proofs.YticnbcfmbhjbgabGreatDoor
open Go.RowKit Go.IntWalk Lx Pz
theorem aC {W:World}{b:Nat}{t:TypeId}{x y z u:Value}(h:aB W b t #[x,y,z,u]):W.cell? ⟨b,0,none⟩=some x/\W.cell? ⟨b,1,none⟩=some y/\W.cell? ⟨b,2,none⟩=some z/\W.cell? ⟨b,3,none⟩=some u :=
 ⟨h.cell 0 rfl,h.cell 1 rfl,h.cell 2 rfl,h.cell 3 rfl⟩
structure Ls (w W:World)(v:Value)(L:List Int):Prop where
 a:W.ownsRow w.heap.size 3 1 v L.length (iX L)
 bel:Below w.heap.size w W
theorem Ls.alloc {w W:World}{v:Value}{L:List Int}(h:Ls w W v L)(o:Obj):Ls w (W.alloc o) v L:=⟨h.a.alloc o,h.bel.alloc h.bel.size o⟩
theorem Ls.drew {w W:World}{v:Value}{L:List Int}(h:Ls w W v L):Ls w W.drew v L:=⟨h.a.drew,h.bel.drew⟩
theorem Ls.start (W:World):Ls W W (.slice none 0 0) []:=⟨⟨rfl,.inl ⟨rfl,rfl⟩⟩,Below.refl _ _⟩
theorem Ls.later {w W W':World}{v:Value}{L:List Int}(h:Ls w W v L)(hb:Below W.heap.size W W'):Ls w W' v L:=by
 have hg:W.grownBy W' none:=⟨hb.os,hb.tape,hb.output,hb.size,fun k hk _=>hb.block k hk⟩
 refine⟨h.a.kept hg ?_,h.bel.trans (hb.mono h.bel.size)⟩
 cases hv:v.ownBlock with
 | none=>exact .inl rfl
 | some q=>exact .inr (by simp)
structure Bx (W V:World)(g:Nat)(kd tr wd:Array Value)(D:List Int):Prop where
 k:aB V W.heap.size 35 kd
 t:aB V (W.heap.size+1) 51 tr
 w:aB V (W.heap.size+1+1) 24 wd
 c:aB V g 3 (inA D)
 hg:W.heap.size+1+1 < g
 lo:Below W.heap.size W V
theorem aGo {f d:Int}{NM:List aN}{BS:List Int}{NS:List Nd}{root:Int}(h:kN f d NM BS NS root=0){n:Nd}(hn:n ∈ NS)(h3:n.op=3):∃ q,Knd.sK f d (oH n)=some q:=by
 unfold kN at h
 split at h
 ·cases h
 split at h
 ·cases h
 split at h
 ·cases h
 rename_i h1
 cases hq:Knd.sK f d (oH n) with
 | some q=>exact⟨q,rfl⟩
 | none =>
  exfalso
  apply h1
  rw[List.any_eq_true]
  exact⟨n,hn,by unfold ahB;rw[hq,h3];rfl⟩
theorem xZ {f d:Int}{NM:List aN}{BS:List Int}{NS:List Nd}{root:Int}(h:kN f d NM BS NS root=0):pQ NM BS NS root=true:=by
 unfold kN at h
 split at h
 ·cases h
 split at h
 ·cases h
 ·rename_i h1;simpa using h1
abbrev aY (es:List E)(ex:E):List Nd:=jH es 0++ex.flat (bY es)
abbrev rootOf (es:List E)(ex:E):Int:=((bY es+ex.size:Nat):Int)-1
theorem aA6 {l:List UInt8}{T:List Tok}{NM:List aN}{es:List E}{ex:E}(hT:tks l=some T)(hg:GP [] [] (T.map ab) (NM,es,ex))(hl:NM.length=es.length)(hz:bY es+ex.size<=T.length) :
  Dec NM (fU es 0) (aY es ex) (rootOf es ex) es ex:=by
 have hok:(T.map ab).all eG=true:=by
  rw[List.all_map,lAe]
  intro t ht
  exact aX2 (aQu hT t ht)
 obtain⟨h1,h2,h3⟩:=aZ2 hg hok rfl (by intro j e h;simp at h) rfl
 have h4:=aU2 hT
 exact⟨rfl,rfl,hl,h1,h2,h3,by rw[lLa,cZ,E.flat_len],by rw[lLa,cZ,E.flat_len];omega⟩
theorem zQ {NM:List aN}(h:zO NM=true):∀ s ∈ NM,s.length<=9223372036854775807:=by
 intro s hs
 simp only[zO,bAt,lAe] at h
 have h1:=h.1 s hs
 have h2:rU s=true:=h1.1
 simp only[rU,bAt,dEt] at h2
 have:=h2.1.1.2
 omega
theorem aBq {s:ByteArray}{A:List Tk}{NM:List aN}{es:List E}{ex:E}(ha:ak (bs s)=some A)(hl:s.size<=1024)(hg:GP [] [] A (NM,es,ex))(w:World) :
  Calls Tryz.prog 24 #[.string s] w fun e W'=>∃ na nc ba bc da dc,Dec NM (fU es 0) (aY es ex) (rootOf es ex) es ex /\
   e=.returned (.tuple #[.agg (iG (.slice na es.length nc) (.slice ba es.length bc) (.slice da (bY es+ex.size) dc) (.i (rootOf es ex))),.i 0])/\Tx W' na es.length nc NM/\Iz W' ba es.length bc (fU es 0) /\
   Nz W' da (bY es+ex.size) dc (aY es ex)/\Below w.heap.size w W':=by
 obtain⟨T0,hT0,hab⟩:=aY3 ha (by rw[dL];exact hl)
 refine(sN s w).mono ?_
 rintro e W1 (⟨-,-,hbad⟩|⟨T,NM',es',ex',na,nc,ba,bc,da,dc,hT,hA,h3,h4,rfl,h6,h7,h8,h9⟩)
 ·exfalso
  rw[hT0] at hbad
  rcases hbad with h|⟨T,h,h2⟩
  ·cases h
  ·cases h
   rw[hab] at h2
   have:=(h2 _).2 hg
   cases this
 ·have hd:=aA6 hT ((hA _).1 rfl) h3 h4
  rw[hT0] at hT
  cases hT
  rw[hab] at hA
  have:=(hA _).2 hg
  cases this
  exact⟨na,nc,ba,bc,da,dc,hd,rfl,h6,h7,h8,h9⟩
end Go.Proofs.YticnbcfmbhjbgabGreatDoor
namespace Go.Proofs.YticnbcfmbhjbgabGreatDoor
open Go.RowKit Go.IntWalk Lx Pz
variable {W:World} {b:Nat} {t:TypeId} {v:Value} {cs:Array Value}
theorem oK {NM:List aN}{BS:List Int}{NS:List Nd}{root:Int}(h:pQ NM BS NS root=true):0<=root/\root.toNat < NS.length/\NS.length<=1024:=by
 obtain⟨es,ex,hD⟩:=jS.1 h
 have h1:=hD.root
 have h2:1<=NS.length:=by rw[hD.nodes,lLa,E.flat_len];have:=ex.size_pos;omega
 have:=hD.few
 omega
theorem aJf {base size n:Nat}{e:TypeId}{xs:List Value}(h:W.ownsRow base e size v n xs)(hb:aB W b t cs)(ht:t≠e):v.ownBlock≠some b:=by
 intro hk
 obtain⟨-,cs',fr,h2⟩:=aR h b hk
 rw[hb] at h2
 cases h2
 exact ht rfl
theorem lH {V:World}{base:Nat}{e:TypeId}{size n:Nat}{xs:List Value}(h:V.ownsRow base e size v n xs)(hb:aB V b t cs)(ht:t≠e)(i:Nat)(x:Value):(V.setCell ⟨b,i,none⟩ x).ownsRow base e size v n xs:=by
 refine ownsRow_setCell_other h (a:=⟨b,i,none⟩) ?_ x
 exact aJf h hb ht
theorem Ls.put {w:World}{L:List Int}(h:Ls w W v L)(hb:aB W b t cs)(ht:t≠3)(hw:w.heap.size<=b)(i:Nat)(x:Value):Ls w (W.setCell ⟨b,i,none⟩ x) v L :=
 ⟨lH h.a hb ht i x,h.bel.setCell (p:=⟨b,i,none⟩) hw x⟩
theorem aEy {w:World}{L:List Int}{ops:Array Oper}{rest:List Oper}{o:Oper}{a:Act}{Q:Exit->Act->World->Prop}
  (hgd:o.guard=none) (s x:Operand) (ho:o.op=.call { callee:=.builtin .append,args:=#[s,x],argTypes:=#[22,22] })
  (hs:a.eval s=v) (hen:Ls w W v L) (b:Nat) (p:Int) (hx:a.eval x=.slice (some ⟨b,0,none⟩) 1 1) (hc:aB W b 3 #[.i p]) (h3:L.length<=2000000)
  (h:∀ g cap w',Ls w w' (.slice (some ⟨g,0,none⟩) (L.length+1) cap) (L++[p])->Kp [3] W w'->wpList Tryz.prog ops Q rest (a.put o.dst (.slice (some ⟨g,0,none⟩) (L.length+1) cap)) w') :
  wpList Tryz.prog ops Q (o::rest) a W :=
 uC hgd s x ho hs hen.a hen.bel.size b p hx hc h3 fun g cap w' h1 h2 h4=>h g cap w' ⟨h1,h4 w hen.bel rfl⟩ h2
abbrev wd0 (v:Value):Array Value:=#[.i 0,.i 0,.i 0,v]
def FlP (w:World)(m:Nat)(x:Int)(e:Ending)(W':World):Prop :=
 ∃ v,e=.returned (.agg (wd0 v))/\Ls w W' v (List.replicate m x)
end Go.Proofs.YticnbcfmbhjbgabGreatDoor
namespace Go.Proofs.YticnbcfmbhjbgabGreatDoor
open Go.RowKit Go.IntWalk Lx Pz
open Vfy (jV)
def awT:aN:=[109,101,100,40,112,40,45,49,44,48,41,44,112,40,48,44,45,49,41,44,112,40,45,49,44,48,41,43,112,40,48,44,45,49,41,45,112,40,45,49,44,45,49,41,41]
def aVb:aN:=[109,101,100]
abbrev plA:List Tk:=[.word wP,.lp,.op 5 9,.num 1,.comma,.num 0,.rp]
abbrev plB:List Tk:=[.word wP,.lp,.num 0,.comma,.op 5 9,.num 1,.rp]
abbrev plC:List Tk:=[.word wP,.lp,.op 5 9,.num 1,.comma,.op 5 9,.num 1,.rp]
def awK:List Tk:=.word aVb::.lp::(plA++.comma::(plB++.comma::(((plA++.op 5 8::plB)++.op 5 9::plC)++[.rp])))
def wI:E:=.tri 27 (.leaf (lf 3 0 0 2 (-1) 0)) (.leaf (lf 3 0 0 2 0 (-1))) (.bin 9 (.bin 8 (.leaf (lf 3 0 0 2 (-1) 0)) (.leaf (lf 3 0 0 2 0 (-1)))) (.leaf (lf 3 0 0 2 (-1) (-1))))
theorem aVt:ak awT=some awK:=by
 have d1:∀ d:Nat,d < 10->∀ r,Fo r->ak (UInt8.ofNat (48+d)::r)=(ak r).map ([.num d]++·):=fun d hd r hr=>by
  have:=aMj (u:=d) (by omega) r hr
  rwa[jJ hd] at this
 have n1c:∀ r,ak (49::44::r)=(ak (44::r)).map ([.num 1]++·):=fun r=>d1 1 (by decide) _ (nX (by decide) r)
 have n1r:∀ r,ak (49::41::r)=(ak (41::r)).map ([.num 1]++·):=fun r=>d1 1 (by decide) _ (nX (by decide) r)
 have n0c:∀ r,ak (48::44::r)=(ak (44::r)).map ([.num 0]++·):=fun r=>d1 0 (by decide) _ (nX (by decide) r)
 have n0r:∀ r,ak (48::41::r)=(ak (41::r)).map ([.num 0]++·):=fun r=>d1 0 (by decide) _ (nX (by decide) r)
 have pl:∀ r,ak (112::40::r)=(ak (40::r)).map ([.word wP]++·):=fun r=>aGi (x:=wP) (by decide) (40::r) (nX (by decide) r)
 have md:∀ r,ak (109::101::100::40::r)=(ak (40::r)).map ([.word aVb]++·):=fun r=>aGi (x:=aVb) (by decide) (40::r) (nX (by decide) r)
 have lp:∀ r,ak (40::r)=(ak r).map ([.lp]++·):=fun r=>aVq r trivial
 have rp:∀ r,ak (41::r)=(ak r).map ([.rp]++·):=fun r=>aVr r trivial
 have cm:∀ r,ak (44::r)=(ak r).map ([.comma]++·):=fun r=>aD8 r trivial
 have mi:∀ r,ak (45::r)=(ak r).map ([.op 5 9]++·):=fun r=>aD9 r trivial
 have pp:∀ r,ak (43::r)=(ak r).map ([.op 5 8]++·):=fun r=>aJ4 43 _ (by decide) (by decide) (by decide) (by decide) (by decide) (by decide) r trivial
 unfold awT
 simp only[md,pl,n1c,n1r,n0c,n0r,lp,rp,cm,mi,pp,aWc,Option.map_some]
 rfl
theorem aVv:GP [] [] awK ([],[],wI):=by
 refine GP.last ?_
 have a8:G [] 8 plA (.leaf (lf 3 0 0 2 (-1) 0)):=G.place (s:=wP) (.inl rfl) rfl
 have b8:G [] 8 plB (.leaf (lf 3 0 0 2 0 (-1))):=G.place (s:=wP) (.inl rfl) rfl
 have c8:G [] 8 plC (.leaf (lf 3 0 0 2 (-1) (-1))):=G.place (s:=wP) (.inl rfl) rfl
 have s6:G [] 6 (plA++.op 5 8::plB) _:=G.bin (k:=5) (o:=8) (by omega) (G.ups a8 (by decide) (by decide)) (G.ups b8 (by decide) (by decide))
 have d6:G [] 6 ((plA++.op 5 8::plB)++.op 5 9::plC) _:=G.bin (k:=5) (o:=9) (by omega) s6 (G.ups c8 (by decide) (by decide))
 have m8:G [] 8 awK wI:=G.call3 (s:=aVb) (by decide) (G.ups a8 (by decide) (by decide)) (G.ups b8 (by decide) (by decide)) (G.ups d6 (by decide) (by decide))
 exact G.ups m8 (by omega) (by omega)
theorem aVu:kN 0 8 [] (fU [] 0) (aY [] wI) (rootOf [] wI)=0:=by decide +kernel
end Go.Proofs.YticnbcfmbhjbgabGreatDoor
namespace Go.Proofs.YticnbcfmbhjbgabGreatDoor
open Lx Pz
def Cd (e:Int):Prop:=e=0\/e=1\/e=12\/e=13
theorem qP {f d:Int}{NM:List aN}{BS:List Int}{NS:List Nd}{root:Int}:kN f d NM BS NS root=0↔Knd.May f d/\pQ NM BS NS root=true/\NS.any (ahB f d)=false/\(pK f d BS NS []).2=0/\rO NS<=200/\mxR (uV BS NS [])<=24:=by
 unfold kN
 by_cases h1:Knd.May f d
 ·rw[if_neg (by simpa using h1)]
  cases h2:pQ NM BS NS root
  ·simp
  ·rw[if_neg (by simp)]
   cases h3:NS.any (ahB f d)
   ·rw[if_neg (by simp)]
    by_cases h4:(pK f d BS NS []).2=0
    ·rw[if_neg (by simpa using h4)]
     by_cases h5:200 < rO NS\/24 < mxR (uV BS NS [])
     ·rw[if_pos h5]
      constructor
      ·intro h;cases h
      ·rintro⟨-,-,-,-,a,b⟩;omega
     ·rw[if_neg h5]
      exact⟨fun _=>⟨h1,rfl,rfl,h4,by omega,by omega⟩,fun _=>rfl⟩
    ·rw[if_pos h4]
     exact⟨fun h=>absurd h h4,fun h=>absurd h.2.2.2.1 h4⟩
   ·rw[if_pos rfl]
    constructor
    ·intro h;cases h
    ·rintro⟨-,-,h,-⟩;cases h
 ·rw[if_pos h1]
  constructor
  ·intro h;cases h
  ·intro h;exact absurd h.1 h1
def w32 (a:Int):Prop:=-2147483648<=a/\a<=2147483647
end Go.Proofs.YticnbcfmbhjbgabGreatDoor
namespace Go.Proofs.YticnbcfmbhjbgabGreatDoor
open Go.RowKit Go.IntWalk Lx Pz
theorem Ls.set {w W:World}{g n cap:Nat}{L:List Int}(h:Ls w W (.slice (some ⟨g,0,none⟩) n cap) L)(hn:L.length=n)(j:Nat)(x:Int):Ls w (W.setCell ⟨g,j,none⟩ (.i x)) (.slice (some ⟨g,0,none⟩) n cap) (L.set j x):=by
 have h1:=h.a
 rw[hn] at h1
 have h2:=(World.ownsRow.stored h1 j (.i x)).1
 have hg:=(h.a.lt g rfl).1
 refine⟨?_,h.bel.setCell (p:=⟨g,j,none⟩) hg _⟩
 rw[List.length_set,hn]
 have e:(iX L).set j (.i x)=iX (L.set j x):=by simp[iX]
 rw[<-e]
 exact h2
theorem Ls.ints {w W:World}{g n cap:Nat}{L:List Int}(h:Ls w W (.slice (some ⟨g,0,none⟩) n cap) L)(hn:L.length=n):Knd.Ints W (some ⟨g,0,none⟩) n cap L:=by
 have h1:=h.a
 rw[hn] at h1
 obtain⟨a,c,e,hi,-⟩:=Knd.Ints.of_owns h1
 cases e
 exact hi
theorem Ls.form {w W:World}{v:Value}{L:List Int}(h:Ls w W v L)(hn:0 < L.length):∃ g cap,v=.slice (some ⟨g,0,none⟩) L.length cap/\w.heap.size<=g:=by
 rcases nG h.a with⟨-,h0⟩|⟨g,c,e⟩
 ·omega
 ·subst e;exact⟨g,c,rfl,(h.a.lt g rfl).1⟩
def awL:List Int:=((List.replicate 44 10).set 16 7).set 10 30
end Go.Proofs.YticnbcfmbhjbgabGreatDoor
namespace Go.Proofs.YticnbcfmbhjbgabGreatDoor
open Lx Pz

end Go.Proofs.YticnbcfmbhjbgabGreatDoor
namespace Go.Proofs.YticnbcfmbhjbgabGreatDoor
open Lx Pz
open Vfy (aIl)
def xO (V:List Int)(S:eT):Prop:=V.length=S.length/\∀ i,i < S.length->(S.getD i (0,0)).1<=V.getD i 0/\V.getD i 0<=(S.getD i (0,0)).2/\w32 (V.getD i 0)
end Go.Proofs.YticnbcfmbhjbgabGreatDoor

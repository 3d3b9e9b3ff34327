import Derived.Test.YticnbcfmbhjbgaaGreatDoorXH
import Derived.Laws.MakeOwn
import Derived.Lib.ItoaNum
import Derived.BigRegion
import Derived.Test.YticnbcfmbhjbgaaGreatDoorX28
import Derived.Test.YticnbcfmbhjbgaaGreatDoorX02
import Derived.Test.YticnbcfmbhjbgaaGreatDoorX05
import Derived.Test.YticnbcfmbhjbgaaGreatDoorX12
import Derived.Test.YticnbcfmbhjbgaaGreatDoorX25
import Derived.Test.YticnbcfmbhjbgaaGreatDoorX03
import Derived.Test.YticnbcfmbhjbgaaGreatDoorX10
import Derived.Test.YticnbcfmbhjbgaaGreatDoorX14
import Derived.Test.YticnbcfmbhjbgaaGreatDoorX09
set_option maxRecDepth 100000
set_option maxHeartbeats 32000000
set_option linter.unusedVariables false
namespace Go.Proofs.YticnbcfmbhjbgaaGreatDoor
open Go.RowKit Go.IntWalk Lx Pz
abbrev zX (L:List Int):Array Value:=(jU L).toArray
theorem aVn:(Tryz.prog.info? 3).map (fun i=>(i.zero,i.size,i.bytes))=some (some (.i 0),1,8):=by kernel_rfl
theorem jV (L:List Int)(i:Nat)(h:i < L.length):(zX L)[i]?=some (.i (L.getD i 0)):=by
 unfold zX
 rw[List.getElem?_toArray,gEm,gdE,gEg h]
 rfl
theorem aR8 (n:Nat):madeCells #[.i 0] (n*1)=zX (List.replicate n 0):=by
 apply Array.ext_getElem?
 intro i
 by_cases hi:i < n
 ·rw[jV _ _ (by simpa using hi)]
  unfold madeCells
  rw[Array.getElem?_map,Array.getElem?_eq_getElem (by simpa using hi)]
  have hz:(List.replicate n (0:Int)).getD i 0=0:=by
   rw[gdE,List.getElem?_replicate];split <;> rfl
  rw[hz]
  simp only[Array.getElem_range,Option.map_some]
  show some ((#[Value.int .i64 0])[i % 1]!)=_
  rw[Nat.mod_one]
  rfl
 ·rw[Array.getElem?_eq_none (by rw[size_madeCells];omega),Array.getElem?_eq_none (by simp;omega)]
theorem wE (n:Nat)(h:n<=1024)(w:World):(Instr.makeSlice 24 (.i n) (.i n)).run Tryz.prog w=.ok (.slice (some ⟨w.heap.size,0,none⟩) n n) (w.alloc (.cells (zX (List.replicate n 0)) 3)):=by
 obtain⟨i0,hi,hz0,hz1,hz2⟩:=Spn.info_parts aVn
 have:=run_make w 24 3 i0 _ Tryz.underlying24 hi hz0 .i64 .i64 n n (by omega) (iLr _) (by rw[hz2];omega) (by omega)
 rw[hz1] at this
 simp only[iTn] at this
 have e:madeCells (Value.int .i64 0).cells (n*1)=zX (List.replicate n 0):=aR8 n
 rw[e] at this
 exact this
theorem aG0 {W:World}{g k:Nat}{D Z:List Int}{q:Int}(h:aB W g 3 (zX (D++q::Z)))(hk:D.length=k)(x:Int):aB (W.setCell ⟨g,k,none⟩ (.i x)) g 3 (zX (D++x::Z)):=by
 subst hk
 have:=h.set D.length (.i x)
 have e:(zX (D++q::Z)).setIfInBounds D.length (.i x)=zX (D++x::Z):=by
  apply Array.toList_inj.1
  simp only[Array.toList_setIfInBounds,List.map_append,lMc]
  rw[List.set_append_right _ _ (by simp)]
  simp
 rwa[e] at this
theorem aMz {W:World}{g:Nat}{L:List Int}(h:aB W g 3 (zX L))(hl:L.length<=1024):Iz W (some ⟨g,0,none⟩) L.length L.length L:=by
 refine⟨rfl,nLr _,by unfold maxLen;omega,.inr ⟨g,0,rfl,h.lt,fun i hi=>?_⟩⟩
 rw[nZa]
 exact h.cell i (jV L i hi)
theorem sN {S Z:List Int}{i:Nat}(h:i < S.length):(S++Z).getD i 0=S.getD i 0:=by
 rw[gdE,gAl h,<-gdE]
theorem aBb {n k:Nat}(h:k < n):List.replicate (n-k) (0:Int)=0::List.replicate (n-(k+1)) 0:=by
 rw[show n-k=(n-(k+1))+1 by omega,List.replicate_succ]
theorem aQ2 {D:List Int}{n:Nd}{k:Nat}(hk:k < (eU n).length):(((eU n).map fun p=>D.getD p.toNat 0).take (k+1)).foldl max 0=max ((((eU n).map fun p=>D.getD p.toNat 0).take k).foldl max 0) (D.getD ((eU n).getD k 0).toNat 0):=by
 rw[aG 0 (by simpa using hk),List.foldl_append]
 have e:((eU n).map fun p=>D.getD p.toNat 0).getD k 0=D.getD ((eU n).getD k 0).toNat 0:=by
  simp[List.getD_eq_getElem?_getD,List.getElem?_map,List.getElem?_eq_getElem hk]
 rw[e]
 rfl
theorem aMj (BS:List Int)(A:List Nd)(n:Nd)(D:List Int):sJ BS (A++[n]) D=sJ BS A D++[dpN BS (sJ BS A D) n]:=by
 rw[aHz];rfl
theorem aJa {BS:List Int}{NS:List Nd}{s:Nat}(h:Wl BS s NS)(k:Nat):Wl BS s (NS.take k):=by
 rw[<-lTd k NS,lS] at h
 exact h.1
def DpP (w:World)(n:Nat)(D:List Int)(e:Ending)(W':World):Prop :=
 ∃ g,e=.returned (.slice (some ⟨g,0,none⟩) n n)/\aB W' g 3 (zX D)/\Below w.heap.size w W'
theorem aB2 {W:World}{ba da:Option Addr}{bl bc dl dc:Nat}{nv:Value}(hnv:∃ a k c,nv=.slice a k c){root:Int}{BS:List Int}{NS:List Nd}(hB:Iz W ba bl bc BS)(hN:Nz W da dl dc NS)(hw:Wl BS 0 NS)(hd:dl<=1024) :
  Calls Tryz.prog 58 #[.agg (gJ nv (.slice ba bl bc) (.slice da dl dc) (.i root))] W (DpP W dl (sJ BS NS [])):=by
 obtain⟨a1,n1,c1,rfl⟩:=hnv
 have hmk:=wE dl hd
 have hb1:=aD W (.cells (gJ (.slice a1 n1 c1) (.slice ba bl bc) (.slice da dl dc) (.i root)) 50)
 have hb2:=bel hb1 (aD (W.alloc (.cells (gJ (.slice a1 n1 c1) (.slice ba bl bc) (.slice da dl dc) (.i root)) 50)) (.cells (zX (List.replicate dl 0)) 3))
 have HT0:=aA ((aB.new W 50 (gJ (.slice a1 n1 c1) (.slice ba bl bc) (.slice da dl dc) (.i root))).alloc (.cells (zX (List.replicate dl 0)) 3))
 have HG0:Hid (aB ((W.alloc (.cells (gJ (.slice a1 n1 c1) (.slice ba bl bc) (.slice da dl dc) (.i root)) 50)).alloc (.cells (zX (List.replicate dl 0)) 3)) (W.heap.size+1) 3 (zX (List.replicate dl 0))):=by
  have:=aB.new (W.alloc (.cells (gJ (.slice a1 n1 c1) (.slice ba bl bc) (.slice da dl dc) (.i root)) 50)) 3 (zX (List.replicate dl 0))
  simp only[wSa] at this
  exact aA this
 have HB0:=aA hb2
 have HBI:=aA hB
 have HNI:=aA hN
 have HLN:=aA hN.len
 have HLB:=aA hB.len
 have HW:=aA hw
 clear hb1 hb2 hB hN hw
 go_enter Tryz.func58,Tryz.ntmps58
 go_wp2_with fail
 go_loopw [16] (fun i wr=>∃(k:Nat) (D:List Int),k<=dl/\i=.i k/\Hid (sJ BS (NS.take k) []=D)/\Hid (aB wr (W.heap.size+1) 3 (zX (D++List.replicate (dl-k) 0)))/\Hid (aB wr W.heap.size 50 (gJ (.slice a1 n1 c1) (.slice ba bl bc) (.slice da dl dc) (.i root)))/\Hid (Below W.heap.size W wr)) (fun i _=>dl-(intOf i).toNat)
 case atStart=>exact⟨0,[],nZl _,rfl,aA rfl,HG0,HT0,HB0⟩
 case round =>
  obtain⟨k,D,hk,rfl,HD,HG,HT,HB⟩:=hrel
  rename World=>V
  by_cases hlt:k < dl
  ·obtain⟨g,off,rfl,hat⟩:=(HNI.o.later HB.o).at (by omega)
   obtain⟨e0,e1,e2,e3,e4,e5,e6,e7,e8⟩:=hat k hlt
   clear hat
   have hi0:(0:Int)<=k:=by omega
   have hi1:(k:Int) < dl:=by omega
   have hDl:D.length=k:=by rw[<-HD.o,aB4];simp;rw[HLN.o];omega
   have HDb:Hid (Db D):=aA (by rw[<-HD.o];exact Db.all (fun x hx=>by simp at hx) (aJa HW.o k))
   have HWn:=aA (aFv HW.o (by rw[HLN.o];exact hlt:k < NS.length))
   rw[nZa] at HWn
   have HD2:=aA (aMj BS (NS.take k) (NS.getD k n0) [])
   rw[<-aG n0 (by rw[HLN.o];exact hlt),HD.o] at HD2
   rw[aBb hlt] at HG
   have x1:=HT.o.cell 1 rfl
   have hz0:W.heap.size < V.heap.size:=HT.o.lt
   have hz1:W.heap.size+1 < V.heap.size:=HG.o.lt
   have y0:=HG.o.frozen k
   generalize NS.getD k n0=n at *
   by_cases ho:n.op=4
   ·have ho1:(n.op==4)=true:=by simpa using ho
    obtain⟨u0,u1,u2,u3⟩:=HWn.o.use ho
    have hdpn:dpN BS D n=D.getD (BS.getD n.k.toNat 0).toNat 0:=by unfold dpN;rw[if_pos ho]
    rw[hdpn] at HD2
    obtain⟨kk,hkk⟩:∃ kk:Nat,n.k=(kk:Int):=⟨n.k.toNat,by omega⟩
    rw[hkk] at e4 u1 u2 u3 HD2
    simp only[iTn] at u1 u2 u3 HD2
    obtain⟨bb,boff,rfl,hbb,hbc⟩:∃ b off,ba=some ⟨b,off,none⟩/\b < V.heap.size/\V.cell? ⟨b,off+kk,none⟩=some (.i (BS.getD kk 0)):=by
     rcases(HBI.o.later HB.o).cell with h0|⟨b,off,ha,hlb,hc⟩
     ·rw[HLB.o] at u1;omega
     ·exact⟨b,off,ha,hlb,hc kk (by rw[<-HLB.o];exact u1)⟩
    obtain⟨q,hq⟩:∃ q:Nat,BS.getD kk 0=(q:Int):=⟨(BS.getD kk 0).toNat,by omega⟩
    rw[hq] at hbc u3 HD2
    simp only[iTn] at u3 HD2
    have s0:=jV (D++0::List.replicate (dl-(k+1)) 0) q (by simp;omega)
    rw[sN (by rw[hDl];exact u3)] at s0
    have d0:=HG.o.cell q s0
    generalize D.getD q 0=x at *
    have HG2:=aA ((aG0 HG.o hDl x).alloc (.cells #[.i n.op,.i n.a,.i n.b,.i n.c,.i kk,.i n.back,.i n.co,.i n.x,.i n.y] 137))
    have HT2:=aA ((HT.o.other (p:=⟨W.heap.size+1,k,none⟩) (by simp) (.i x)).alloc (.cells #[.i n.op,.i n.a,.i n.b,.i n.c,.i kk,.i n.back,.i n.co,.i n.x,.i n.y] 137))
    have HB2:=aA (bel (HB.o.setCell (p:=⟨W.heap.size+1,k,none⟩) (by simp) (.i x)) (aD _ (.cells #[.i n.op,.i n.a,.i n.b,.i n.c,.i kk,.i n.back,.i n.co,.i n.x,.i n.y] 137)))
    have da:=HG.o.cell k (jV _ k (by simp;omega))
    have w0:(kk:Int) < bl:=by have:=HLB.o;omega
    have w1:(q:Int) < dl:=by omega
    have w2:(0:Int)<=kk:=by omega
    have w3:(0:Int)<=q:=by omega
    clear s0 hq u0 u1 u2 u3 hdpn ho HWn hmk HDb
    go_wp2_with fail
    go_roundw
    case rel=>exact⟨k+1,D++[x],by omega,by go_num,aA HD2.o,aA (by rw[lAa];exact HG2.o),aA HT2.o,aA HB2.o⟩
    case measure=>simp[intOf];omega
   ·have ho1:(n.op==4)=false:=by simpa using ho
    have HW2:=HWn.o
    obtain⟨ar,har⟩:∃ ar:Nat,gL n.op=ar:=⟨(gL n.op).toNat,by have:=HW2.pr;omega⟩
    have h3:ar<=3:=by
     have:gL n.op<=3:=by unfold gL lT;repeat' split <;> omega
     omega
    have HPt:=aA fun j hj=>aIv (n:=n) (j:=j) har h3 hj
    have HPl:=aA (yQ har h3)
    have HPr:=aA HW2.prt
    have HSg:=aA fun j hj=>aQ2 (D:=D) (n:=n) (k:=j) hj
    have hdpn:dpN BS D n=((eU n).map fun p=>D.getD p.toNat 0).foldl max 0+1:=by unfold dpN;rw[if_neg ho]
    have hin:=aMi HDb.o (by rw[hDl];exact HW2)
    rw[hdpn] at HD2 hin
    obtain⟨L,hL⟩:∃ L,((eU n).map fun p=>D.getD p.toNat 0)=L:=⟨_,rfl⟩
    have HLl:Hid (L.length=ar):=aA (by rw[<-hL,List.length_map,HPl.o])
    have HLb:Hid (∀ j,0<=(L.take j).foldl max 0/\(L.take j).foldl max 0<=1024):=aA fun j=>⟨kZ _ _,oG _ _ _ (by omega) fun x hx=>by
     have:=sZ L 0 x (List.mem_of_mem_take hx)
     rw[<-hL] at this
     omega⟩
    rw[hL] at HSg HD2
    have HPO:=aA (vJ n ar (by rw[HW2.ar ho,har]) h3 (V.alloc (.cells (bL n) 137)))
    have hl:=aD V (.cells (bL n) 137)
    have HG1:=aA (HG.o.alloc (.cells (bL n) 137))
    have HT1:=aA (HT.o.alloc (.cells (bL n) 137))
    have HB1:=aA (bel HB.o hl)
    clear hl hL hdpn har HW2 HWn ho hin HDb hmk
    go_wp2_with fail
    refine HPO.o.mono ?_
    rintro e V1 ⟨gp,rfl,-,hGp,hb⟩
    have HGp:=aA hGp
    have HGa:=aA (HG1.o.below hb)
    have HTa:=aA (HT1.o.below hb)
    have HBa:=aA (bel HB1.o hb)
    have hza:=HGa.o.lt
    have ya:=HGa.o.frozen k
    have da:=HGa.o.cell k (jV _ k (by simp;omega))
    clear hb hGp HG1 HT1 HB1 HPO HG HT HB e0 e1 e2 e3 e4 e5 e6 e7 e8 x1 y0
    go_wp2_with fail
    go_loop [6,39] (fun m i=>∃ j:Nat,j<=ar/\i=.i j/\m=.i ((L.take j).foldl max 0)) (fun _ i=>ar-(intOf i).toNat)
    case atStart=>exact⟨0,nZl _,rfl,rfl⟩
    case round =>
     obtain⟨j,hj,rfl,rfl⟩:=hrel
     by_cases hlj:j < ar
     ·have cp:=HGp.o.cell j (HPt.o j hlj).1
      obtain⟨p0,p1⟩:=HPr.o _ (HPt.o j hlj).2
      have HTt:=aA (HSg.o j (by rw[HPl.o];exact hlj))
      obtain⟨q,hq⟩:∃ q:Nat,(eU n).getD j 0=(q:Int):=⟨((eU n).getD j 0).toNat,by omega⟩
      rw[hq] at cp p1 HTt
      simp only[iTn] at p1 HTt
      have s0:=jV (D++0::List.replicate (dl-(k+1)) 0) q (by simp;omega)
      rw[sN (by rw[hDl];exact p1)] at s0
      have d0:=HGa.o.cell q s0
      generalize D.getD q 0=x at *
      have j0:(0:Int)<=j:=by omega
      have j1:(j:Int) < ar:=by omega
      have i0:(0:Int)<=q:=by omega
      have i1:(q:Int) < dl:=by omega
      clear s0 p0 p1 hq
      generalize (L.take j).foldl max 0=mm at *
      go_wp2_with fail
      go_round
      case rel=>exact⟨j+1,by omega,by go_num,by rw[HTt.o]⟩
      case measure=>simp[intOf];omega
     ·obtain rfl:j=ar:=by omega
      have e:L.take j=L:=lTl (by rw[HLl.o];exact nLr _)
      obtain⟨b0,b1⟩:=HLb.o j
      rw[e] at b0 b1 ⊢
      generalize L.foldl max 0=mm at *
      have HG2:=aA (aG0 HGa.o hDl (mm+1))
      have HT2:=aA (HTa.o.other (p:=⟨W.heap.size+1,k,none⟩) (by simp) (.i (mm+1)))
      have HB2:=aA (HBa.o.setCell (p:=⟨W.heap.size+1,k,none⟩) (by simp) (.i (mm+1)))
      go_wp2_with fail
      go_roundw
      case rel=>exact⟨k+1,D++[mm+1],by omega,by go_num,aA HD2.o,aA (by rw[lAa];exact HG2.o),aA HT2.o,aA HB2.o⟩
      case measure=>simp[intOf];omega
  ·obtain rfl:k=dl:=by omega
   have e:NS.take k=NS:=lTl (by rw[HLN.o];exact nLr _)
   have hZ:=HD.o
   rw[e] at hZ
   have HZ:=aA hZ
   have HG1:=aA HG.o
   rw[Nat.sub_self,List.replicate_zero,List.append_nil] at HG1
   clear hZ
   go_wp2_with fail
   go_ret
   rw[HZ.o]
   exact⟨_,rfl,HG1.o,HB.o⟩
end Go.Proofs.YticnbcfmbhjbgaaGreatDoor
namespace Go.Proofs.YticnbcfmbhjbgaaGreatDoor
open Go.RowKit Go.IntWalk Lx Pz
variable {W:World} {b:Nat} {t:TypeId} {BS:List Int} {root:Int}
abbrev iA:Array Value:=#[.slice none 0 0,.i 0,.i 0]
def CkP (w:World)(f d:Int)(NM:List aL)(BS:List Int)(NS:List Nd)(root:Int)(e:Ending)(W':World):Prop :=
 (jS f d NM BS NS root≠0/\e=.returned (.tuple #[.agg iA,.i (jS f d NM BS NS root)])/\Below w.heap.size w W') \/
 (jS f d NM BS NS root=0/\∃ g,e=.returned (.tuple #[.agg #[.slice (some ⟨g,0,none⟩) NS.length NS.length,.i (tT NS),.i (mxR (sJ BS NS []))],.i 0])/\w.heap.size<=g/\aB W' g 165 (nJ (nK f d BS NS []).1)/\Below w.heap.size w W')
theorem fQ {x y z:Value}(h:aB W b t #[x,y,z]):W.cell? ⟨b,0,none⟩=some x/\W.cell? ⟨b,1,none⟩=some y/\W.cell? ⟨b,2,none⟩=some z/\W.frozen? ⟨b,0,none⟩=false/\W.frozen? ⟨b,1,none⟩=false/\W.frozen? ⟨b,2,none⟩=false :=
 ⟨h.cell 0 rfl,h.cell 1 rfl,h.cell 2 rfl,h.frozen 0,h.frozen 1,h.frozen 2⟩
theorem fJ {w w2:World}{p q r:Value}(h:aB w2 b t #[p,q,r])(hB:Below w.heap.size w w2)(hb:w.heap.size<=b)(x y z:Value) :
  aB (((w2.setCell ⟨b,0,none⟩ x).setCell ⟨b,1,none⟩ y).setCell ⟨b,2,none⟩ z) b t #[x,y,z] /\
  Below w.heap.size w (((w2.setCell ⟨b,0,none⟩ x).setCell ⟨b,1,none⟩ y).setCell ⟨b,2,none⟩ z) :=
 ⟨((h.set 0 x).set 1 y).set 2 z,((hB.setCell (p:=⟨b,0,none⟩) hb _).setCell (p:=⟨b,1,none⟩) hb _).setCell (p:=⟨b,2,none⟩) hb _⟩
theorem oN {r:Nat}{cs:Array Value}(h:aB W b t cs)(hr:b≠r)(x y z:Value):aB (((W.setCell ⟨r,0,none⟩ x).setCell ⟨r,1,none⟩ y).setCell ⟨r,2,none⟩ z) b t cs :=
 ((h.other (p:=⟨r,0,none⟩) hr x).other (p:=⟨r,1,none⟩) hr y).other (p:=⟨r,2,none⟩) hr z
theorem aU9 {f d:Int}{NM:List aL}{NS:List Nd}(h:rE f d NM BS NS root≠0):jS f d NM BS NS root=rE f d NM BS NS root:=by
 unfold rE at h ⊢
 unfold jS
 by_cases h1:¬Knd.May f d
 ·rw[if_pos h1,if_pos h1]
 ·rw[if_neg h1] at h ⊢
  rw[if_neg h1]
  by_cases h2:mX NM BS NS root=false
  ·rw[if_pos h2,if_pos h2]
  ·rw[if_neg h2] at h ⊢
   rw[if_neg h2]
   by_cases h3:NS.any (ahB f d)=true
   ·rw[if_pos h3,if_pos h3]
   ·rw[if_neg h3] at h
    exact absurd rfl h
theorem aYc {f d:Int}{NM:List aL}{NS:List Nd}(h:rE f d NM BS NS root=0):Knd.May f d/\mX NM BS NS root=true /\
  jS f d NM BS NS root=if (nK f d BS NS []).2≠0 then(nK f d BS NS []).2 else if 200 < tT NS\/24 < mxR (sJ BS NS []) then 14 else 0:=by
 unfold rE at h
 by_cases h1:¬Knd.May f d
 ·rw[if_pos h1] at h;cases h
 ·rw[if_neg h1] at h
  by_cases h2:mX NM BS NS root=false
  ·rw[if_pos h2] at h;cases h
  ·rw[if_neg h2] at h
   by_cases h3:NS.any (ahB f d)=true
   ·rw[if_pos h3] at h;cases h
   ·refine⟨Decidable.of_not_not h1,by simpa using h2,?_⟩
    unfold jS
    rw[if_neg h1,if_neg h2,if_neg h3]
structure Cr (V:World)(tb:Nat)(tv:Array Value)(sv dv:Value)(co mx:Int)(D:List Int)(n:Nat)(d:Nat->Bool)(x9 x27 x28 x29 x30 x31 x32 x33 x34:Value)(w:World):Prop where
 bel:Below V.heap.size V w
 m0:d 0=true->x27=sv
 m1:d 1=true->x28=.pointer (some ⟨tb,2,none⟩)
 m2:d 2=true->x29=dv
 m3:d 3=true->x30=.i co
 m4:d 4=true->x31=.agg tv
 m5:d 5=true->d 9=false->∃ gd,x32=.slice (some ⟨gd,0,none⟩) n n/\aB w gd 3 (zX D)
 m6:d 6=true->x33=.i mx
 m7:d 7=true->x34=.agg #[sv,.i co,.i mx]
 m8:d 8=true->d 9=false->∃ gr,x9=.pointer (some ⟨gr,0,none⟩)/\V.heap.size<=gr/\aB w gr 55 iA
 m9:d 9=true->∃ gr,x9=.pointer (some ⟨gr,0,none⟩)/\V.heap.size<=gr/\aB w gr 55 #[sv,.i co,.i mx]
 ph:d 9=true->∀ j,j < 9->d j=true
theorem aZh {a b:Bool}(h:b=true):(a || b)=true:=by rw[h];simp
theorem aWf:Tryz.prog.follows .mixedOrders=true:=by kernel_rfl
theorem dN (f d:Int){na ba da:Option Addr}{nl nc bl bc dl dc:Nat}{NM:List aL}{NS:List Nd}(hX:Tx W na nl nc NM)(hB:Iz W ba bl bc BS)(hN:Nz W da dl dc NS)(hs:∀ s ∈ NM,s.length<=9223372036854775807) :
  Calls Tryz.prog 18 #[.agg (eH f d),.agg (gJ (.slice na nl nc) (.slice ba bl bc) (.slice da dl dc) (.i root))] W (CkP W f d NM BS NS root):=by
 have hb1:=aD W (.cells (eH f d) 23)
 have hb2:=bel hb1 (aD (W.alloc (.cells (eH f d) 23)) (.cells (gJ (.slice na nl nc) (.slice ba bl bc) (.slice da dl dc) (.i root)) 50))
 have hb3:=bel hb2 (aD ((W.alloc (.cells (eH f d) 23)).alloc (.cells (gJ (.slice na nl nc) (.slice ba bl bc) (.slice da dl dc) (.i root)) 50)) (.cells iA 55))
 have HK0:=aA (((aB.new W 23 (eH f d)).alloc (.cells (gJ (.slice na nl nc) (.slice ba bl bc) (.slice da dl dc) (.i root)) 50)).alloc (.cells iA 55))
 have HT0:Hid (aB (((W.alloc (.cells (eH f d) 23)).alloc (.cells (gJ (.slice na nl nc) (.slice ba bl bc) (.slice da dl dc) (.i root)) 50)).alloc (.cells iA 55)) (W.heap.size+1) 50 (gJ (.slice na nl nc) (.slice ba bl bc) (.slice da dl dc) (.i root))):=by
  have:=(aB.new (W.alloc (.cells (eH f d) 23)) 50 (gJ (.slice na nl nc) (.slice ba bl bc) (.slice da dl dc) (.i root))).alloc (.cells iA 55)
  simp only[wSa] at this
  exact aA this
 have HR0:Hid (aB (((W.alloc (.cells (eH f d) 23)).alloc (.cells (gJ (.slice na nl nc) (.slice ba bl bc) (.slice da dl dc) (.i root)) 50)).alloc (.cells iA 55)) (W.heap.size+1+1) 55 iA):=by
  have:=aB.new ((W.alloc (.cells (eH f d) 23)).alloc (.cells (gJ (.slice na nl nc) (.slice ba bl bc) (.slice da dl dc) (.i root)) 50)) 55 iA
  simp only[wSa] at this
  exact aA this
 have HX:=aA (hX.later hb3)
 have HBI:=aA (hB.later hb3)
 have HNI:=aA (hN.later hb3)
 have HLN:=aA hN.len
 have HB0:=aA hb3
 have HM:=aA (aMk f d (root:=root) (hX.later hb3) (hB.later hb3) (hN.later hb3) hs)
 clear hX hB hN hb1 hb2 hb3 hs
 go_enter Tryz.func18,Tryz.ntmps18
 go_wp2_with fail
 refine HM.o.mono ?_
 rintro e V1 ⟨rfl,hb⟩
 have HR1:=aA (HR0.o.below hb)
 have HB1:=aA (bel HB0.o hb)
 by_cases hm:rE f d NM BS NS root=0
 ·obtain⟨m1,m2,m3⟩:=aYc hm
  obtain⟨es,ex,hD⟩:=gX.1 m2
  have hfew:dl<=1024:=by rw[<-HLN.o];exact hD.few
  have h1:1<=dl:=by rw[<-HLN.o,hD.nodes,lLa,E.flat_len];have:=ex.size_pos;omega
  have HK1:=aA (HK0.o.below hb)
  have HT1:=aA (HT0.o.below hb)
  have HNI1:=aA (HNI.o.later hb)
  have HBI1:=aA (HBI.o.later hb)
  have HW:=aA hD.wl
  have HM3:=aA m3
  have HSp:=aA (aFj f d ⟨na,nl,nc,rfl⟩ (root:=root) m1 (HBI.o.later hb) (HNI.o.later hb) hD.wl hfew)
  obtain⟨k0,k1,-,-⟩:=aO HK1.o
  obtain⟨t0,t1,t2,t3⟩:V1.cell? ⟨W.heap.size+1,0,none⟩=some (.slice na nl nc)/\V1.cell? ⟨W.heap.size+1,1,none⟩=some (.slice ba bl bc)/\V1.cell? ⟨W.heap.size+1,2,none⟩=some (.slice da dl dc)/\V1.cell? ⟨W.heap.size+1,3,none⟩=some (.i root):=⟨HT1.o.cell 0 rfl,HT1.o.cell 1 rfl,HT1.o.cell 2 rfl,HT1.o.cell 3 rfl⟩
  rw[hm]
  clear hm hb m1 m2 m3 hD HM HK0 HT0 HR0 HB0 HX HBI HNI
  go_wp2_with fail
  refine HSp.o.mono ?_
  rintro e V2 (⟨hz,rfl,hb⟩|⟨hz,gs,rfl,hgs,hG,hb⟩)
  ·have hne:((nK f d BS NS []).2 != 0)=true:=by simpa using hz
   have HF:Hid (jS f d NM BS NS root=(nK f d BS NS []).2):=aA (by rw[HM3.o,if_pos hz])
   have HR2:=aA (HR1.o.below hb)
   have HB2:=aA (bel HB1.o hb)
   have HZ:=aA hz
   obtain⟨r0,r1,r2,r3,r4,r5⟩:=fQ HR2.o
   clear hb hz HM3
   generalize (nK f d BS NS []).2=er at *
   go_wp2_with fail
   obtain⟨hp,hpb⟩:=fJ HR2.o HB2.o (by omega) (.slice none 0 0) (.i 0) (.i 0)
   have p0:=hp.cell 0 rfl
   have p1:=hp.cell 1 rfl
   have p2:=hp.cell 2 rfl
   exact bPr (v:=.tuple #[.agg iA,.i er]) (by simp[results,Tryz.results18,go_sem,p0,p1,p2]) rfl (.inl (by rw[HF.o];exact⟨HZ.o,rfl,hpb⟩))
  ·have HF:Hid (jS f d NM BS NS root=if 200 < tT NS\/24 < mxR (sJ BS NS []) then 14 else 0):=aA (by rw[HM3.o,if_neg (by simpa using hz)])
   have HR2:=aA (HR1.o.below hb)
   have HB2:=aA (bel HB1.o hb)
   have HT2:=aA (HT1.o.below hb)
   have HN2:=aA (HNI1.o.later hb)
   have HI2:=aA (HBI1.o.later hb)
   have HG2:=aA hG
   have hgz:=hG.lt
   obtain⟨t0,t1,t2,t3⟩:V2.cell? ⟨W.heap.size+1,0,none⟩=some (.slice na nl nc)/\V2.cell? ⟨W.heap.size+1,1,none⟩=some (.slice ba bl bc)/\V2.cell? ⟨W.heap.size+1,2,none⟩=some (.slice da dl dc)/\V2.cell? ⟨W.heap.size+1,3,none⟩=some (.i root):=⟨HT2.o.cell 0 rfl,HT2.o.cell 1 rfl,HT2.o.cell 2 rfl,HT2.o.cell 3 rfl⟩
   have hDl:(sJ BS NS []).length=dl:=by rw[aB4,HLN.o];simp
   have HDb:=aA (Db.all (BS:=BS) (A:=NS) (D:=[]) (fun x hx=>by simp at hx) HW.o)
   have HGs:=aA hgs
   have HR1s:=aA HR1.o.lt
   obtain⟨co,hco⟩:∃ co,tT NS=co:=⟨_,rfl⟩
   obtain⟨D,hD⟩:∃ D,sJ BS NS []=D:=⟨_,rfl⟩
   obtain⟨mx,hmx⟩:∃ mx,mxR D=mx:=⟨_,rfl⟩
   obtain⟨SS,hSS⟩:∃ SS,(nK f d BS NS []).1=SS:=⟨_,rfl⟩
   rw[hD] at HDb hDl HF
   rw[hco,hmx] at HF
   rw[hSS] at HG2
   have HCo:=aA hco
   have HD:=aA hD
   have HMx:=aA hmx
   have HSS:=aA hSS
   have HDl:=aA hDl
   clear hb hG hz HM3 hDl HR1 HB1 HT1 HNI1 HBI1 HSp hgs k0 k1 hco hD hmx hSS
   go_wp2_with fail
   refine vR aWf (aWy (by kernel_rfl)) (fun dd a w=>∃ x9 x27 x28 x29 x30 x31 x32 x33 x34,a=⟨#[.agg (eH f d),.agg (gJ (.slice na nl nc) (.slice ba bl bc) (.slice da dl dc) (.i root)),.pointer (some ⟨W.heap.size,0,none⟩),.pointer (some ⟨W.heap.size+1,0,none⟩),.pointer (some ⟨W.heap.size+1+1,0,none⟩),.i 0,.i 0,.slice (some ⟨gs,0,none⟩) dl dl,.i 0,x9,.agg #[.i f,.i d],.agg #[.slice na nl nc,.slice ba bl bc,.slice da dl dc,.i root],.i 0,.i 0,.bool false,undef,undef,.tuple #[.slice (some ⟨gs,0,none⟩) dl dl,.i 0],.agg #[.i f,.i d],.agg #[.slice na nl nc,.slice ba bl bc,.slice da dl dc,.i root],.tuple #[.slice (some ⟨gs,0,none⟩) dl dl,.i 0],.slice (some ⟨gs,0,none⟩) dl dl,.i 0,.i 0,.bool false,undef,undef,x27,x28,x29,x30,x31,x32,x33,x34,undef,undef,undef,undef,undef,undef,undef,undef,undef,undef],[]⟩/\Cr V2 (W.heap.size+1) (gJ (.slice na nl nc) (.slice ba bl bc) (.slice da dl dc) (.i root)) (.slice (some ⟨gs,0,none⟩) dl dl) (.slice da dl dc) co mx D dl dd x9 x27 x28 x29 x30 x31 x32 x33 x34 w) ?_ ?_ ?_
   ·refine⟨_,_,_,_,_,_,_,_,_,rfl,aF V2,?_,?_,?_,?_,?_,?_,?_,?_,?_,?_,?_⟩
    all_goals intro h;cases h
   ·rintro dd a w i o ⟨x9,x27,x28,x29,x30,x31,x32,x33,x34,rfl,C⟩ hdi ho haft Q' hk'
    have HK:=aA hk'
    clear hk'
    have hi:i < 10:=(aGs.1 ho).1
    match i,hi with
    | 0,_ =>
     obtain rfl:=(Option.some.inj ho)
     have nope:dd 9=true->False:=fun h=>by have h2:=C.ph h 0 (by decide);rw[hdi] at h2;cases h2
     clear haft ho
     go_wp2
     exact HK.o _ _ ⟨_,_,_,_,_,_,_,_,_,rfl,⟨C.bel,(fun _=>rfl),C.m1,C.m2,C.m3,C.m4,C.m5,C.m6,C.m7,C.m8,(fun h=>(nope h).elim),(fun h=>(nope h).elim)⟩⟩
    | 1,_ =>
     obtain rfl:=(Option.some.inj ho)
     have nope:dd 9=true->False:=fun h=>by have h2:=C.ph h 1 (by decide);rw[hdi] at h2;cases h2
     clear haft ho
     go_wp2
     exact HK.o _ _ ⟨_,_,_,_,_,_,_,_,_,rfl,⟨C.bel,C.m0,(fun _=>rfl),C.m2,C.m3,C.m4,C.m5,C.m6,C.m7,C.m8,(fun h=>(nope h).elim),(fun h=>(nope h).elim)⟩⟩
    | 2,_ =>
     obtain rfl:=(Option.some.inj ho)
     have nope:dd 9=true->False:=fun h=>by have h2:=C.ph h 2 (by decide);rw[hdi] at h2;cases h2
     have g1:dd 1=true:=haft ⟨1,.data⟩ (by simp) rfl
     clear haft ho
     have e1:=C.m1 g1
     subst e1
     have t2:=(HT2.o.below C.bel).cell 2 rfl
     have C:=aA C
     go_wp2
     have C:=C.o
     exact HK.o _ _ ⟨_,_,_,_,_,_,_,_,_,rfl,⟨C.bel,C.m0,C.m1,(fun _=>rfl),C.m3,C.m4,C.m5,C.m6,C.m7,C.m8,(fun h=>(nope h).elim),(fun h=>(nope h).elim)⟩⟩
    | 3,_ =>
     obtain rfl:=(Option.some.inj ho)
     have nope:dd 9=true->False:=fun h=>by have h2:=C.ph h 3 (by decide);rw[hdi] at h2;cases h2
     have g2:dd 2=true:=haft ⟨2,.data⟩ (by simp) rfl
     clear haft ho
     have e1:=C.m2 g2
     subst e1
     have HQ:=aA (aF8 (HN2.o.later C.bel) hfew)
     rw[HCo.o] at HQ
     have C:=aA C
     go_wp2_with fail
     refine HQ.o.mono ?_
     rintro e w' ⟨rfl,hw⟩
     go_wp2
     have C:=C.o
     have hb:=bel C.bel hw
     exact HK.o _ _ ⟨_,_,_,_,_,_,_,_,_,rfl,⟨hb,C.m0,C.m1,C.m2,(fun _=>rfl),C.m4,(fun h h2=>let ⟨g,e,r⟩:=C.m5 h h2;⟨g,e,r.below hw⟩),C.m6,C.m7,(fun h h2=>let ⟨g,e,e2,r⟩:=C.m8 h h2;⟨g,e,e2,r.below hw⟩),(fun h=>(nope h).elim),(fun h=>(nope h).elim)⟩⟩
    | 4,_ =>
     obtain rfl:=(Option.some.inj ho)
     have nope:dd 9=true->False:=fun h=>by have h2:=C.ph h 4 (by decide);rw[hdi] at h2;cases h2
     clear haft ho
     obtain⟨t0,t1,t2,t3⟩:w.cell? ⟨W.heap.size+1,0,none⟩=some (.slice na nl nc)/\w.cell? ⟨W.heap.size+1,1,none⟩=some (.slice ba bl bc)/\w.cell? ⟨W.heap.size+1,2,none⟩=some (.slice da dl dc)/\w.cell? ⟨W.heap.size+1,3,none⟩=some (.i root):=⟨(HT2.o.below C.bel).cell 0 rfl,(HT2.o.below C.bel).cell 1 rfl,(HT2.o.below C.bel).cell 2 rfl,(HT2.o.below C.bel).cell 3 rfl⟩
     have C:=aA C
     go_wp2
     have C:=C.o
     exact HK.o _ _ ⟨_,_,_,_,_,_,_,_,_,rfl,⟨C.bel,C.m0,C.m1,C.m2,C.m3,(fun _=>rfl),C.m5,C.m6,C.m7,C.m8,(fun h=>(nope h).elim),(fun h=>(nope h).elim)⟩⟩
    | 5,_ =>
     obtain rfl:=(Option.some.inj ho)
     have nope:dd 9=true->False:=fun h=>by have h2:=C.ph h 5 (by decide);rw[hdi] at h2;cases h2
     have g4:dd 4=true:=haft ⟨4,.data⟩ (by simp) rfl
     have g3:dd 3=true:=haft ⟨3,.chain⟩ (by simp) rfl
     clear haft ho
     have e1:=C.m4 g4
     subst e1
     have HQ:=aA (aB2 ⟨na,nl,nc,rfl⟩ (root:=root) (HI2.o.later C.bel) (HN2.o.later C.bel) HW.o hfew)
     rw[HD.o] at HQ
     have C:=aA C
     go_wp2_with fail
     refine HQ.o.mono ?_
     rintro e w' ⟨gd,rfl,hG,hw⟩
     go_wp2
     have C:=C.o
     have hb:=bel C.bel hw
     exact HK.o _ _ ⟨_,_,_,_,_,_,_,_,_,rfl,⟨hb,C.m0,C.m1,C.m2,C.m3,C.m4,(fun _ _=>⟨gd,rfl,hG⟩),C.m6,C.m7,(fun h h2=>let ⟨g,e,e2,r⟩:=C.m8 h h2;⟨g,e,e2,r.below hw⟩),(fun h=>(nope h).elim),(fun h=>(nope h).elim)⟩⟩
    | 6,_ =>
     obtain rfl:=(Option.some.inj ho)
     have nope:dd 9=true->False:=fun h=>by have h2:=C.ph h 6 (by decide);rw[hdi] at h2;cases h2
     have g5:dd 5=true:=haft ⟨5,.data⟩ (by simp) rfl
     clear haft ho
     have h9:dd 9=false:=by cases h:dd 9 with|false=>rfl|true=>exact(nope h).elim
     obtain⟨gd,e1,hG⟩:=C.m5 g5 h9
     subst e1
     have HQ:=aA (aPe (D:=D) (by have h:=aMz hG (by rw[HDl.o];exact hfew);rw[HDl.o] at h;exact h) h1 (fun x hx=>(HDb.o x hx).1))
     rw[HMx.o] at HQ
     clear hG h9
     have C:=aA C
     go_wp2_with fail
     refine HQ.o.mono ?_
     rintro e w' ⟨rfl,rfl⟩
     go_wp2
     have C:=C.o
     exact HK.o _ _ ⟨_,_,_,_,_,_,_,_,_,rfl,⟨C.bel,C.m0,C.m1,C.m2,C.m3,C.m4,C.m5,(fun _=>rfl),C.m7,C.m8,(fun h=>(nope h).elim),(fun h=>(nope h).elim)⟩⟩
    | 7,_ =>
     obtain rfl:=(Option.some.inj ho)
     have nope:dd 9=true->False:=fun h=>by have h2:=C.ph h 7 (by decide);rw[hdi] at h2;cases h2
     have g0:dd 0=true:=haft ⟨0,.data⟩ (by simp) rfl
     have g3:dd 3=true:=haft ⟨3,.data⟩ (by simp) rfl
     have g6:dd 6=true:=haft ⟨6,.data⟩ (by simp) rfl
     clear haft ho
     have e1:=C.m0 g0
     have e2:=C.m3 g3
     have e3:=C.m6 g6
     subst e1 e2 e3
     have C:=aA C
     go_wp2
     have C:=C.o
     exact HK.o _ _ ⟨_,_,_,_,_,_,_,_,_,rfl,⟨C.bel,C.m0,C.m1,C.m2,C.m3,C.m4,C.m5,C.m6,(fun _=>rfl),C.m8,(fun h=>(nope h).elim),(fun h=>(nope h).elim)⟩⟩
    | 8,_ =>
     obtain rfl:=(Option.some.inj ho)
     have nope:dd 9=true->False:=fun h=>by have h2:=C.ph h 8 (by decide);rw[hdi] at h2;cases h2
     clear haft ho
     have C:=aA C
     go_wp2
     have C:=C.o
     have hw:=aD w (.cells iA 55)
     have hb:=bel C.bel hw
     exact HK.o _ _ ⟨_,_,_,_,_,_,_,_,_,rfl,⟨hb,C.m0,C.m1,C.m2,C.m3,C.m4,(fun h h2=>let ⟨g,e,r⟩:=C.m5 h h2;⟨g,e,r.below hw⟩),C.m6,C.m7,(fun _ _=>⟨w.heap.size,rfl,C.bel.size,aB.new w _ _⟩),(fun h=>(nope h).elim),(fun h=>(nope h).elim)⟩⟩
    | 9,_ =>
     obtain rfl:=(Option.some.inj ho)
     have g8:dd 8=true:=haft ⟨8,.data⟩ (by simp) rfl
     have g7:dd 7=true:=haft ⟨7,.data⟩ (by simp) rfl
     have g6:dd 6=true:=haft ⟨6,.chain⟩ (by simp) rfl
     have g0:dd 0=true:=haft ⟨0,.phase⟩ (by simp) rfl
     have g1:dd 1=true:=haft ⟨1,.phase⟩ (by simp) rfl
     have g2:dd 2=true:=haft ⟨2,.phase⟩ (by simp) rfl
     have g3:dd 3=true:=haft ⟨3,.phase⟩ (by simp) rfl
     have g4:dd 4=true:=haft ⟨4,.phase⟩ (by simp) rfl
     have g5:dd 5=true:=haft ⟨5,.phase⟩ (by simp) rfl
     clear haft ho
     have D9:∀ j,j < 9->dd j=true:=fun j hj=>match j,hj with|0,_=>g0|1,_=>g1|2,_=>g2|3,_=>g3|4,_=>g4|5,_=>g5|6,_=>g6|7,_=>g7|8,_=>g8
     have e1:=C.m7 g7
     obtain⟨gr,e2,hge,hR⟩:=C.m8 g8 hdi
     subst e1 e2
     obtain⟨r0,r1,r2,r3,r4,r5⟩:=fQ hR
     obtain⟨hp,hpb⟩:=fJ (w:=V2) hR C.bel hge (.slice (some ⟨gs,0,none⟩) dl dl) (.i co) (.i mx)
     have HP:=aA hp
     have HPB:=aA hpb
     clear hp hpb hR
     have C:=aA C
     go_wp2
     have C:=C.o
     exact HK.o _ _ ⟨_,_,_,_,_,_,_,_,_,rfl,⟨HPB.o,C.m0,C.m1,C.m2,C.m3,C.m4,(fun _ h=>by cases h),C.m6,(fun _=>rfl),(fun _ h=>by cases h),(fun _=>⟨gr,rfl,hge,HP.o⟩),(fun _ j hj=>aZh (D9 j hj))⟩⟩
   ·rintro dd a w ⟨x9,x27,x28,x29,x30,x31,x32,x33,x34,rfl,C⟩ hall
    have D9:∀ i,i < 10->dd i=true:=hall
    obtain⟨gr,e1,hge,hR⟩:=C.m9 (D9 9 (by omega))
    subst e1
    have HGw:=aA (HG2.o.below C.bel)
    have HRw:=aA (HR2.o.below C.bel)
    have HBw:=aA (bel HB2.o C.bel)
    have hrz:=HR2.o.lt
    have HRr:=aA hR
    obtain⟨r0,r1,r2,-,-,-⟩:=fQ hR
    obtain⟨q0,q1,q2,q3,q4,q5⟩:=fQ HRw.o
    obtain⟨hp,hpb⟩:=fJ HRw.o HBw.o (by omega) (.slice none 0 0) (.i 0) (.i 0)
    obtain⟨hq,hqb⟩:=fJ HRw.o HBw.o (by omega) (.slice (some ⟨gs,0,none⟩) dl dl) (.i co) (.i mx)
    have HGq:=aA (oN (r:=W.heap.size+1+1) HGw.o (by have:=HGs.o;have:=HR1s.o;omega) (.slice (some ⟨gs,0,none⟩) dl dl) (.i co) (.i mx))
    have P0:=aA hp
    have PB:=aA hpb
    have Q0:=aA hq
    have QB:=aA hqb
    clear hp hpb hq hqb hR hall D9 C
    by_cases b1:200 < co
    ·have HF2:Hid (jS f d NM BS NS root=14):=aA (by rw[HF.o,if_pos (.inl b1)])
     go_wp2_with fail
     have p0:=P0.o.cell 0 rfl
     have p1:=P0.o.cell 1 rfl
     have p2:=P0.o.cell 2 rfl
     exact bPr (v:=.tuple #[.agg iA,.i 14]) (by simp[results,Tryz.results18,go_sem,p0,p1,p2]) rfl (.inl (by rw[HF2.o];exact⟨by decide,rfl,PB.o⟩))
    ·by_cases b2:24 < mx
     ·have HF2:Hid (jS f d NM BS NS root=14):=aA (by rw[HF.o,if_pos (.inr b2)])
      go_wp2_with fail
      have p0:=P0.o.cell 0 rfl
      have p1:=P0.o.cell 1 rfl
      have p2:=P0.o.cell 2 rfl
      exact bPr (v:=.tuple #[.agg iA,.i 14]) (by simp[results,Tryz.results18,go_sem,p0,p1,p2]) rfl (.inl (by rw[HF2.o];exact⟨by decide,rfl,PB.o⟩))
     ·have HF2:Hid (jS f d NM BS NS root=0):=aA (by rw[HF.o,if_neg (by omega)])
      go_wp2_with fail
      have p0:=Q0.o.cell 0 rfl
      have p1:=Q0.o.cell 1 rfl
      have p2:=Q0.o.cell 2 rfl
      exact bPr (v:=.tuple #[.agg #[.slice (some ⟨gs,0,none⟩) dl dl,.i co,.i mx],.i 0]) (by simp[results,Tryz.results18,go_sem,p0,p1,p2]) rfl (.inr ⟨HF2.o,gs,by rw[HLN.o,HCo.o,HD.o,HMx.o],by have:=HGs.o;have:=HR1s.o;omega,by rw[HSS.o];exact HGq.o,QB.o⟩)
 ·have hne:(rE f d NM BS NS root != 0)=true:=by simpa using hm
  have HF:=aA (aU9 hm)
  have HE:=aA hm
  obtain⟨r0,r1,r2,r3,r4,r5⟩:=fQ HR1.o
  clear hm hb HM HX HBI HNI HK0 HT0 HR0 HB0
  generalize rE f d NM BS NS root=er at *
  go_wp2_with fail
  obtain⟨hp,hpb⟩:=fJ HR1.o HB1.o (by omega) (.slice none 0 0) (.i 0) (.i 0)
  have p0:=hp.cell 0 rfl
  have p1:=hp.cell 1 rfl
  have p2:=hp.cell 2 rfl
  exact bPr (v:=.tuple #[.agg iA,.i er]) (by simp[results,Tryz.results18,go_sem,p0,p1,p2]) rfl (.inl (by rw[HF.o];exact⟨HE.o,rfl,hpb⟩))
end Go.Proofs.YticnbcfmbhjbgaaGreatDoor
namespace Go.Proofs.YticnbcfmbhjbgaaGreatDoor
open Lx Pz
def bAy (f d:Int)(v:Wd)(n:Nd):Int:=v.ps.getD ((Knd.rF f d (nE n)).getD 0) 0
def opV (V:List Int)(n:Nd):Int:=(Spn.bO n.op 0 0 ((eU n).map fun p=>V.getD p.toNat 0)).1
def vaN (f d:Int)(v:Wd)(BS V:List Int)(n:Nd):Int :=
 if n.op=4 then V.getD (BS.getD n.k.toNat 0).toNat 0 else if n.op=1 then n.k else if n.op=2 then inpV f d v n.k else if n.op=3 then bAy f d v n else opV V n
def vaR (f d:Int)(v:Wd)(BS:List Int):List Nd->List Int->List Int
 | [],V=>V
 | n::NS,V=>vaR f d v BS NS (V++[vaN f d v BS V n])
noncomputable def evE (f d:Int)(v:Wd)(NM:List aL)(BS:List Int)(NS:List Nd)(root:Int):Int:=if jS f d NM BS NS root=0 then Knd.bAd f d v.x v.y v.c v.ps else jS f d NM BS NS root
noncomputable def evV (f d:Int)(v:Wd)(NM:List aL)(BS:List Int)(NS:List Nd)(root:Int):Int:=if evE f d v NM BS NS root=0 then(vaR f d v BS NS []).getD root.toNat 0 else 0
theorem aIe (L:List Knd.Plc)(p:Knd.Plc):∀(k:Nat),k<=64->∀ q,Knd.look L (Knd.upto k) p=some q->q < k
 | 0,_,q,h=>by simp[Knd.upto,Knd.look] at h
 | k+1,hk,q,h=>by
  rw[Knd.aBh k (by omega),Knd.aAz] at h
  split at h
  ·cases h;exact Nat.lt_succ_self k
  ·have:=aIe L p k (by omega) q h;omega
end Go.Proofs.YticnbcfmbhjbgaaGreatDoor
namespace Go.Proofs.YticnbcfmbhjbgaaGreatDoor
open Go.RowKit Go.IntWalk Lx Pz
theorem aC {W:World}{b:Nat}{t:TypeId}{x y z u:Value}(h:aB W b t #[x,y,z,u]):W.cell? ⟨b,0,none⟩=some x/\W.cell? ⟨b,1,none⟩=some y/\W.cell? ⟨b,2,none⟩=some z/\W.cell? ⟨b,3,none⟩=some u :=
 ⟨h.cell 0 rfl,h.cell 1 rfl,h.cell 2 rfl,h.cell 3 rfl⟩
structure Ls (w W:World)(v:Value)(L:List Int):Prop where
 a:W.ownsRow w.heap.size 3 1 v L.length (jU L)
 bel:Below w.heap.size w W
structure Bx (W V:World)(g:Nat)(kd tr wd:Array Value)(D:List Int):Prop where
 k:aB V W.heap.size 23 kd
 t:aB V (W.heap.size+1) 50 tr
 w:aB V (W.heap.size+1+1) 26 wd
 c:aB V g 3 (zX D)
 hg:W.heap.size+1+1 < g
 lo:Below W.heap.size W V
theorem aF6 {f d:Int}{NM:List aL}{BS:List Int}{NS:List Nd}{root:Int}(h:jS f d NM BS NS root=0){n:Nd}(hn:n ∈ NS)(h3:n.op=3):∃ q,Knd.rF f d (nE n)=some q:=by
 unfold jS at h
 split at h
 ·cases h
 split at h
 ·cases h
 split at h
 ·cases h
 rename_i h1
 cases hq:Knd.rF f d (nE n) with
 | some q=>exact⟨q,rfl⟩
 | none =>
  exfalso
  apply h1
  rw[List.any_eq_true]
  exact⟨n,hn,by unfold ahB;rw[hq,h3];rfl⟩
theorem wZ {f d:Int}{NM:List aL}{BS:List Int}{NS:List Nd}{root:Int}(h:jS f d NM BS NS root=0):mX NM BS NS root=true:=by
 unfold jS at h
 split at h
 ·cases h
 split at h
 ·cases h
 ·rename_i h1;simpa using h1
end Go.Proofs.YticnbcfmbhjbgaaGreatDoor
namespace Go.Proofs.YticnbcfmbhjbgaaGreatDoor
open Lx Pz
open Go.Lib (decDigits itoa)
theorem fI {u:Nat}(h:u < 10):decDigits u=[UInt8.ofNat (48+u)]:=by rw[decDigits,dif_pos h]
theorem vX {u:Nat}(h:¬u < 10):decDigits u=decDigits (u / 10)++[UInt8.ofNat (48+u % 10)]:=by rw[decDigits,dif_neg h]
theorem aB3 {d:Nat}(h:d < 10):(UInt8.ofNat (48+d)).toNat=48+d:=UInt8.toNat_ofNat_of_lt (show 48+d < 256 by omega)
theorem aYe {d:Nat}(h:d < 10):D (UInt8.ofNat (48+d))=true:=aDq.2 (by rw[aB3 h];omega)
theorem aMf (u:Nat):decDigits u≠[]:=by
 by_cases h:u < 10
 ·rw[fI h];simp
 ·rw[vX h];simp
theorem aHy (u:Nat):(decDigits u).all D=true:=by
 induction u using Nat.strongRecOn with
 | _ u ih =>
  by_cases h:u < 10
  ·rw[fI h,lAc,aYe h];rfl
  ·rw[vX h,List.all_append,ih (u / 10) (by omega),lAc,aYe (by omega)];rfl
theorem aMg (u:Nat):vl (decDigits u)=u:=by
 induction u using Nat.strongRecOn with
 | _ u ih =>
  by_cases h:u < 10
  ·rw[fI h]
   simp only[vl,List.foldl_cons,List.foldl_nil,aB3 h]
   omega
  ·rw[vX h,aI9,ih (u / 10) (by omega),aB3 (by omega)]
   omega
theorem aMe (u:Nat)(h0:0 < u):(decDigits u).headD 0≠48:=by
 induction u using Nat.strongRecOn with
 | _ u ih =>
  by_cases h:u < 10
  ·rw[fI h]
   simp only[List.headD_cons]
   intro e
   have:=congrArg UInt8.toNat e
   rw[aB3 h] at this
   simp at this
   omega
  ·rw[vX h]
   have h1:=ih (u / 10) (by omega) (by omega)
   cases hd:decDigits (u / 10) with
   | nil=>exact absurd hd (aMf _)
   | cons a l=>rw[hd] at h1;simpa using h1
theorem aQ0 {u:Nat}(h:u<=2147483647):num (decDigits u)=true:=by
 refine aIl (aMf u) (aHy u) ?_ (by rw[aMg];omega)
 by_cases h0:u=0
 ·subst h0;rw[fI (by omega)];rfl
 ·have:=aMe u (by omega)
  simp only[Bool.and_eq_false_iff,beq_eq_false_iff_ne]
  exact .inl this
def Fo (r:aL):Prop:=∀ d,r.head?=some d->W d=false
def St (r:aL):Prop:=∀ d,r.head?=some d->d≠60/\d≠61/\d≠62
def Tr (r:aL):Prop:=True
theorem aMr:Fo []:=fun d h=>by simp at h
theorem vZ {c:UInt8}(h:W c=false)(r:aL):Fo (c::r):=fun d hd=>by simp at hd;subst hd;exact h
theorem W_D {d:UInt8}(h:W d=false):D d=false:=by
 cases hd:D d with
 | false=>rfl
 | true =>
  have:dg d.toNat=true:=hd
  simp[W,wi,this] at h
def AkP (P:aL->Prop)(x:aL)(ts:List Tk):Prop:=∀ r,P r->ak (x++r)=(ak r).map (ts++·)
theorem aDt {k:Int}{x r:aL}{c:UInt8}{t:aL}(hx:x=c::t)(h1:bl c=false)(h2:c≠35)(hk:kd (x++r)=k)(hz:sz (x++r)=x.length)(hm:may k x=true):ak (x++r)=(ak r).map ([ab ⟨k,x,0⟩]++·):=by
 subst hx
 have ht:((c::t)++r).take (c::t).length=c::t:=List.take_left
 have hd:((c::t)++r).drop (c::t).length=r:=List.drop_left
 have hg:gd ((c::t)++r)=true:=by unfold gd;rw[hk,hz,ht];exact hm
 rw[List.cons_append] at hg hk hz ht hd ⊢
 rw[aLo h1 h2 hg,hz,hk,ht,hd]
 rfl
theorem aLp {x:aL}(hw:qO x=true):AkP Fo x [.word x]:=by
 intro r hr
 cases x with
 | nil=>simp[qO] at hw
 | cons c t =>
  have hA:A c=true:=by simp[qO] at hw;exact hw.1.2
  have hall:(c::t).all W=true:=by simp only[qO,bAt] at hw;exact hw.2
  have h3:=aHn hA
  refine aDt (k:=2) rfl h3.1 h3.2.1 ?_ ?_ hw
  ·simp[kd,hA,h3.2.2.1]
  ·simp only[sz,List.cons_append,List.headD_cons,hA,h3.2.2.1,if_true,Bool.false_eq_true,if_false]
   rw[<-List.cons_append,rn,gV W _ _ hall hr]
theorem aLn {u:Nat}(h:u<=2147483647):AkP Fo (decDigits u) [.num u]:=by
 intro r hr
 have hn:=aQ0 h
 have hv:=aMg u
 have hall:=aHy u
 generalize decDigits u=x at *
 cases x with
 | nil=>simp[num] at hn
 | cons c t =>
  have hD:D c=true:=by simp at hall;exact hall.1
  have h3:=aX0 hD
  have:=aDt (k:=1) (x:=c::t) (r:=r) rfl h3.1 h3.2 (by simp[kd,hD]) (by
   simp only[sz,List.cons_append,List.headD_cons,hD,if_true]
   rw[<-List.cons_append,rn,gV D _ _ hall (fun a ha=>W_D (hr a ha))]) hn
  rw[this]
  simp only[ab,if_true,hv]
theorem aFz (c:UInt8)(k:Tk)(hc:sh.contains c=true)(h60:c≠60)(h61:c≠61)(h62:c≠62)(h33:c≠33)(hk:zN [c]=k):AkP Tr [c] [k]:=by
 intro r _
 rw[List.singleton_append,aQf hc h60 h61 h62 h33 r,hk]
 rfl
theorem aUf:AkP Tr [40] [.lp]:=aFz 40 _ (by decide) (by decide) (by decide) (by decide) (by decide) (by decide)
theorem aUg:AkP Tr [41] [.rp]:=aFz 41 _ (by decide) (by decide) (by decide) (by decide) (by decide) (by decide)
theorem aDr:AkP Tr [44] [.comma]:=aFz 44 _ (by decide) (by decide) (by decide) (by decide) (by decide) (by decide)
theorem aDs:AkP Tr [45] [.op 5 9]:=aFz 45 _ (by decide) (by decide) (by decide) (by decide) (by decide) (by decide)
end Go.Proofs.YticnbcfmbhjbgaaGreatDoor
namespace Go.Proofs.YticnbcfmbhjbgaaGreatDoor
open Go.RowKit Go.IntWalk Lx Pz
abbrev bP (es:List E)(ex:E):List Nd:=jA es 0++ex.flat (bV es)
abbrev rootOf (es:List E)(ex:E):Int:=((bV es+ex.size:Nat):Int)-1
theorem aAo {l:List UInt8}{T:List Tok}{NM:List aL}{es:List E}{ex:E}(hT:zR l=some T)(hg:GP [] [] (T.map ab) (NM,es,ex))(hl:NM.length=es.length)(hz:bV es+ex.size<=T.length) :
  Dec NM (gW es 0) (bP es ex) (rootOf es ex) es ex:=by
 have hok:(T.map ab).all dZ=true:=by
  rw[List.all_map,lAe]
  intro t ht
  exact aWr (aPs hT t ht)
 obtain⟨h1,h2,h3⟩:=aYm hg hok rfl (by intro j e h;simp at h) rfl
 have h4:=aTt hT
 exact⟨rfl,rfl,hl,h1,h2,h3,by rw[lLa,bY,E.flat_len],by rw[lLa,bY,E.flat_len];omega⟩
theorem mD {NM:List aL}(h:yG NM=true):∀ s ∈ NM,s.length<=9223372036854775807:=by
 intro s hs
 simp only[yG,bAt,lAe] at h
 have h1:=h.1 s hs
 have h2:qO s=true:=h1.1
 simp only[qO,bAt,dEt] at h2
 have:=h2.1.1.2
 omega
theorem aA9 {s:ByteArray}{A:List Tk}{NM:List aL}{es:List E}{ex:E}(ha:ak (bs s)=some A)(hl:s.size<=1024)(hg:GP [] [] A (NM,es,ex))(w:World) :
  Calls Tryz.prog 17 #[.string s] w fun e W'=>∃ na nc ba bc da dc,Dec NM (gW es 0) (bP es ex) (rootOf es ex) es ex /\
   e=.returned (.tuple #[.agg (gJ (.slice na es.length nc) (.slice ba es.length bc) (.slice da (bV es+ex.size) dc) (.i (rootOf es ex))),.i 0])/\Tx W' na es.length nc NM/\Iz W' ba es.length bc (gW es 0) /\
   Nz W' da (bV es+ex.size) dc (bP es ex)/\Below w.heap.size w W':=by
 obtain⟨T0,hT0,hab⟩:=aXt ha (by rw[dD];exact hl)
 refine(rH s w).mono ?_
 rintro e W1 (⟨-,-,hbad⟩|⟨T,NM',es',ex',na,nc,ba,bc,da,dc,hT,hA,h3,h4,rfl,h6,h7,h8,h9⟩)
 ·exfalso
  rw[hT0] at hbad
  rcases hbad with h|⟨T,h,h2⟩
  ·cases h
  ·cases h
   rw[hab] at h2
   have:=(h2 _).2 hg
   cases this
 ·have hd:=aAo hT ((hA _).1 rfl) h3 h4
  rw[hT0] at hT
  cases hT
  rw[hab] at hA
  have:=(hA _).2 hg
  cases this
  exact⟨na,nc,ba,bc,da,dc,hd,rfl,h6,h7,h8,h9⟩
theorem nI {NM:List aL}{BS:List Int}{NS:List Nd}{root:Int}(h:mX NM BS NS root=true):0<=root/\root.toNat < NS.length/\NS.length<=1024:=by
 obtain⟨es,ex,hD⟩:=gX.1 h
 have h1:=hD.root
 have h2:1<=NS.length:=by rw[hD.nodes,lLa,E.flat_len];have:=ex.size_pos;omega
 have:=hD.few
 omega
theorem aIr {W:World}{base size b n:Nat}{t e:TypeId}{v:Value}{xs:List Value}{cs:Array Value}(h:W.ownsRow base e size v n xs)(hb:aB W b t cs)(ht:t≠e):v.ownBlock≠some b:=by
 intro hk
 obtain⟨-,cs',fr,h2⟩:=aQ h b hk
 rw[hb] at h2
 cases h2
 exact ht rfl
theorem mI {V:World}{base b:Nat}{e t:TypeId}{size n:Nat}{v:Value}{xs:List Value}{cs:Array Value}(h:V.ownsRow base e size v n xs)(hb:aB V b t cs)(ht:t≠e)(i:Nat)(x:Value):(V.setCell ⟨b,i,none⟩ x).ownsRow base e size v n xs:=by
 refine ownsRow_setCell_other h (a:=⟨b,i,none⟩) ?_ x
 exact aIr h hb ht
abbrev wd0 (v:Value):Array Value:=#[.i 0,.i 0,.i 0,v]
end Go.Proofs.YticnbcfmbhjbgaaGreatDoor
namespace Go.Proofs.YticnbcfmbhjbgaaGreatDoor
open Go.RowKit Go.IntWalk Lx Pz
open Vfy (jI)

end Go.Proofs.YticnbcfmbhjbgaaGreatDoor
namespace Go.Proofs.YticnbcfmbhjbgaaGreatDoor
open Lx Pz
def Cd (e:Int):Prop:=e=0\/e=1\/e=12\/e=13
theorem cd0:Cd 0:=.inl rfl
theorem cd1:Cd 1:=.inr (.inl rfl)
theorem aYb:Cd 12:=.inr (.inr (.inl rfl))
theorem aU7:Cd 13:=.inr (.inr (.inr rfl))
theorem aU8 {c:Prop}[Decidable c]{a b:Int × Int}(ha:Cd a.2)(hb:Cd b.2):Cd (if c then a else b).2:=by split <;> assumption
theorem aYg (op k s a b c:Int):Cd (Spn.ex op k s a b c).2:=by
 unfold Spn.ex
 repeat' (first|exact cd0|exact aYb|exact aU7|refine aU8 ?_ ?_)
theorem aDl (op k s:Int)(xs:List Int):Cd (Spn.bO op k s xs).2:=by
 unfold Spn.bO
 repeat' split
 all_goals first|exact cd0|exact aU7|exact cd1|exact aYg _ _ _ _ _ _
theorem aB0 {f:Int->Int->Int × Int}(hf:∀ u v,Cd (f u v).2)(a b c d:Int):Cd (Spn.eP f a b c d).2:=by
 unfold Spn.eP
 repeat' split
 all_goals first|exact cd0|exact hf _ _
theorem aQ6 {f:List Int->Int × Int}(hf:∀ xs,Cd (f xs).2)(L:List (Int × Int)):Cd (Spn.jJ f L).2:=by
 unfold Spn.jJ
 split <;> exact hf _
theorem aS4 (op k s:Int)(L:List (Int × Int)):Cd (Spn.bN op k s L).2:=by
 unfold Spn.bN
 split
 ·exact aB0 (fun u v=>aDl _ _ _ _) _ _ _ _
 split
 ·exact cd0
 split
 ·unfold Spn.rC
  split
  ·exact aYb
  split
  ·exact aB0 (fun u v=>aDl _ _ _ _) _ _ _ _
  ·exact cd0
 split
 ·exact aB0 (fun u v=>aDl _ _ _ _) _ _ _ _
 split
 ·exact aQ6 (fun xs=>aDl _ _ _ _) _
 ·exact cd0
theorem aZe (op k s:Int)(L:List (Int × Int)):Cd (Spn.ofZ op k s L).2:=by
 unfold Spn.ofZ
 split
 ·unfold Spn.xM
  split
  ·exact aS4 op k s L
  split
  ·exact cd0
  ·exact aU7
 ·exact cd1
theorem aXm (f d:Int)(BS:List Int)(S:eO)(n:Nd):Cd (uT f d BS S n).2:=by
 unfold uT
 repeat' split
 all_goals first|exact cd0|exact aZe _ _ _ _
theorem aG8 (f d:Int)(BS:List Int):∀(NS:List Nd) (S:eO),Cd (nK f d BS NS S).2
 | [],S=>cd0
 | n::NS,S=>by
  unfold nK
  split
  ·exact aG8 f d BS NS _
  ·exact aXm f d BS S n
theorem vW {f d:Int}{NM:List aL}{BS:List Int}{NS:List Nd}{root:Int}:jS f d NM BS NS root=0↔Knd.May f d/\mX NM BS NS root=true/\NS.any (ahB f d)=false/\(nK f d BS NS []).2=0/\tT NS<=200/\mxR (sJ BS NS [])<=24:=by
 unfold jS
 by_cases h1:Knd.May f d
 ·rw[if_neg (by simpa using h1)]
  cases h2:mX NM BS NS root
  ·simp
  ·rw[if_neg (by simp)]
   cases h3:NS.any (ahB f d)
   ·rw[if_neg (by simp)]
    by_cases h4:(nK f d BS NS []).2=0
    ·rw[if_neg (by simpa using h4)]
     by_cases h5:200 < tT NS\/24 < mxR (sJ BS NS [])
     ·rw[if_pos h5]
      constructor
      ·intro h;cases h
      ·rintro⟨-,-,-,-,a,b⟩;omega
     ·rw[if_neg h5]
      exact⟨fun _=>⟨h1,rfl,rfl,h4,by omega,by omega⟩,fun _=>rfl⟩
    ·rw[if_pos h4]
     exact⟨fun h=>absurd h h4,fun h=>absurd h.2.2.2.1 h4⟩
   ·rw[if_pos rfl]
    constructor
    ·intro h;cases h
    ·rintro⟨-,-,h,-⟩;cases h
 ·rw[if_pos h1]
  constructor
  ·intro h;cases h
  ·intro h;exact absurd h.1 h1
def w32 (a:Int):Prop:=-2147483648<=a/\a<=2147483647
end Go.Proofs.YticnbcfmbhjbgaaGreatDoor
namespace Go.Proofs.YticnbcfmbhjbgaaGreatDoor
open Go.RowKit Go.IntWalk Lx Pz

end Go.Proofs.YticnbcfmbhjbgaaGreatDoor
namespace Go.Proofs.YticnbcfmbhjbgaaGreatDoor
open Lx Pz

end Go.Proofs.YticnbcfmbhjbgaaGreatDoor
namespace Go.Proofs.YticnbcfmbhjbgaaGreatDoor
open Lx Pz
open Vfy (aHx)
def zS (V:List Int)(S:eO):Prop:=V.length=S.length/\∀ i,i < S.length->(S.getD i (0,0)).1<=V.getD i 0/\V.getD i 0<=(S.getD i (0,0)).2/\w32 (V.getD i 0)
end Go.Proofs.YticnbcfmbhjbgaaGreatDoor

import Derived.Test.YticnbcfmbhjbgaaGreatDoorX27
set_option maxRecDepth 100000
set_option maxHeartbeats 32000000
set_option linter.unusedVariables false
namespace Go.Proofs.YticnbcfmbhjbgaaGreatDoor
section
open Go.RowKit Go.IntWalk Lx Pz
abbrev yZ (L:List Int):Array Value:=(kK L).toArray
theorem aXa:(Tryz.prog.info? 3).map (fun i=>(i.zero,i.size,i.bytes))=some (some (.i 0),1,8):=by kernel_rfl
theorem fF (L:List Int)(i:Nat)(h:i < L.length):(yZ L)[i]?=some (.i (L.getD i 0)):=by
 unfold yZ
 rw[List.getElem?_toArray,gEm,gdE,gEg h]
 rfl
theorem aTt (n:Nat):madeCells #[.i 0] (n*1)=yZ (List.replicate n 0):=by
 apply Array.ext_getElem?
 intro i
 by_cases hi:i < n
 ·rw[fF _ _ (by simpa using hi)]
  unfold madeCells
  rw[Array.getElem?_map,Array.getElem?_eq_getElem (by simpa using hi)]
  have hz:(List.replicate n (0:Int)).getD i 0=0:=by
   rw[gdE,List.getElem?_replicate];split <;> rfl
  rw[hz]
  simp only[Array.getElem_range,Option.map_some]
  show some ((#[Value.int .i64 0])[i % 1]!)=_
  rw[Nat.mod_one]
  rfl
 ·rw[Array.getElem?_eq_none (by rw[size_madeCells];omega),Array.getElem?_eq_none (by simp;omega)]
theorem uK (n:Nat)(h:n<=1024)(w:World):(Instr.makeSlice 24 (.i n) (.i n)).run Tryz.prog w=.ok (.slice (some ⟨w.heap.size,0,none⟩) n n) (w.alloc (.cells (yZ (List.replicate n 0)) 3)):=by
 obtain⟨i0,hi,hz0,hz1,hz2⟩:=Spn.info_parts aXa
 have:=run_make w 24 3 i0 _ Tryz.underlying24 hi hz0 .i64 .i64 n n (by omega) (iLr _) (by rw[hz2];omega) (by omega)
 rw[hz1] at this
 simp only[iTn] at this
 have e:madeCells (Value.int .i64 0).cells (n*1)=yZ (List.replicate n 0):=aTt n
 rw[e] at this
 exact this
theorem aDj {W:World}{g k:Nat}{D Z:List Int}{q:Int}(h:aB W g 3 (yZ (D++q::Z)))(hk:D.length=k)(x:Int):aB (W.setCell ⟨g,k,none⟩ (.i x)) g 3 (yZ (D++x::Z)):=by
 subst hk
 have:=h.set D.length (.i x)
 have e:(yZ (D++q::Z)).setIfInBounds D.length (.i x)=yZ (D++x::Z):=by
  apply Array.toList_inj.1
  simp only[Array.toList_setIfInBounds,List.map_append,lMc]
  rw[List.set_append_right _ _ (by simp)]
  simp
 rwa[e] at this
theorem aG7 {W:World}{g:Nat}{L:List Int}(h:aB W g 3 (yZ L))(hl:L.length<=1024):Iz W (some ⟨g,0,none⟩) L.length L.length L:=by
 refine⟨rfl,nLr _,by unfold maxLen;omega,.inr ⟨g,0,rfl,h.lt,fun i hi=>?_⟩⟩
 rw[nZa]
 exact h.cell i (fF L i hi)
theorem lF {S Z:List Int}{i:Nat}(h:i < S.length):(S++Z).getD i 0=S.getD i 0:=by
 rw[gdE,gAl h,<-gdE]
theorem vO {n k:Nat}(h:k < n):List.replicate (n-k) (0:Int)=0::List.replicate (n-(k+1)) 0:=by
 rw[show n-k=(n-(k+1))+1 by omega,List.replicate_succ]
theorem aSn {D:List Int}{n:Nd}{k:Nat}(hk:k < (dG n).length):(((dG n).map fun p=>D.getD p.toNat 0).take (k+1)).foldl max 0=max ((((dG n).map fun p=>D.getD p.toNat 0).take k).foldl max 0) (D.getD ((dG n).getD k 0).toNat 0):=by
 rw[aG 0 (by simpa using hk),List.foldl_append]
 have e:((dG n).map fun p=>D.getD p.toNat 0).getD k 0=D.getD ((dG n).getD k 0).toNat 0:=by
  simp[List.getD_eq_getElem?_getD,List.getElem?_map,List.getElem?_eq_getElem hk]
 rw[e]
 rfl
theorem aNm (BS:List Int)(A:List Nd)(n:Nd)(D:List Int):rY BS (A++[n]) D=rY BS A D++[dpN BS (rY BS A D) n]:=by
 rw[aIu];rfl
theorem aJ6 {BS:List Int}{NS:List Nd}{s:Nat}(h:Wl BS s NS)(k:Nat):Wl BS s (NS.take k):=by
 rw[<-lTd k NS,mZ] at h
 exact h.1
def DpP (w:World)(n:Nat)(D:List Int)(e:Ending)(W':World):Prop :=
 ∃ g,e=.returned (.slice (some ⟨g,0,none⟩) n n)/\aB W' g 3 (yZ D)/\Below w.heap.size w W'
theorem aCj {W:World}{ba da:Option Addr}{bl bc dl dc:Nat}{nv:Value}(hnv:∃ a k c,nv=.slice a k c){root:Int}{BS:List Int}{NS:List Nd}(hB:Iz W ba bl bc BS)(hN:Nz W da dl dc NS)(hw:Wl BS 0 NS)(hd:dl<=1024) :
  Calls Tryz.prog 58 #[.agg (eY nv (.slice ba bl bc) (.slice da dl dc) (.i root))] W (DpP W dl (rY BS NS [])):=by
 obtain⟨a1,n1,c1,rfl⟩:=hnv
 have hmk:=uK dl hd
 have hb1:=aD W (.cells (eY (.slice a1 n1 c1) (.slice ba bl bc) (.slice da dl dc) (.i root)) 50)
 have hb2:=bel hb1 (aD (W.alloc (.cells (eY (.slice a1 n1 c1) (.slice ba bl bc) (.slice da dl dc) (.i root)) 50)) (.cells (yZ (List.replicate dl 0)) 3))
 have HT0:=aA ((aB.new W 50 (eY (.slice a1 n1 c1) (.slice ba bl bc) (.slice da dl dc) (.i root))).alloc (.cells (yZ (List.replicate dl 0)) 3))
 have HG0:Hid (aB ((W.alloc (.cells (eY (.slice a1 n1 c1) (.slice ba bl bc) (.slice da dl dc) (.i root)) 50)).alloc (.cells (yZ (List.replicate dl 0)) 3)) (W.heap.size+1) 3 (yZ (List.replicate dl 0))):=by
  have:=aB.new (W.alloc (.cells (eY (.slice a1 n1 c1) (.slice ba bl bc) (.slice da dl dc) (.i root)) 50)) 3 (yZ (List.replicate dl 0))
  simp only[wSa] at this
  exact aA this
 have HB0:=aA hb2
 have HBI:=aA hB
 have HNI:=aA hN
 have HLN:=aA hN.len
 have HLB:=aA hB.len
 have HW:=aA hw
 clear hb1 hb2 hB hN hw
 go_enter Tryz.func58,Tryz.ntmps58
 go_wp2_with fail
 go_loopw [16] (fun i wr=>∃(k:Nat) (D:List Int),k<=dl/\i=.i k/\Hid (rY BS (NS.take k) []=D)/\Hid (aB wr (W.heap.size+1) 3 (yZ (D++List.replicate (dl-k) 0)))/\Hid (aB wr W.heap.size 50 (eY (.slice a1 n1 c1) (.slice ba bl bc) (.slice da dl dc) (.i root)))/\Hid (Below W.heap.size W wr)) (fun i _=>dl-(intOf i).toNat)
 case atStart=>exact⟨0,[],nZl _,rfl,aA rfl,HG0,HT0,HB0⟩
 case round =>
  obtain⟨k,D,hk,rfl,HD,HG,HT,HB⟩:=hrel
  rename World=>V
  by_cases hlt:k < dl
  ·obtain⟨g,off,rfl,hat⟩:=(HNI.o.later HB.o).at (by omega)
   obtain⟨e0,e1,e2,e3,e4,e5,e6,e7,e8⟩:=hat k hlt
   clear hat
   have hi0:(0:Int)<=k:=by omega
   have hi1:(k:Int) < dl:=by omega
   have hDl:D.length=k:=by rw[<-HD.o,aCl];simp;rw[HLN.o];omega
   have HDb:Hid (Db D):=aA (by rw[<-HD.o];exact Db.all (fun x hx=>by simp at hx) (aJ6 HW.o k))
   have HWn:=aA (aB2 HW.o (by rw[HLN.o];exact hlt:k < NS.length))
   rw[nZa] at HWn
   have HD2:=aA (aNm BS (NS.take k) (NS.getD k n0) [])
   rw[<-aG n0 (by rw[HLN.o];exact hlt),HD.o] at HD2
   rw[vO hlt] at HG
   have x1:=HT.o.cell 1 rfl
   have hz0:W.heap.size < V.heap.size:=HT.o.lt
   have hz1:W.heap.size+1 < V.heap.size:=HG.o.lt
   have y0:=HG.o.frozen k
   generalize NS.getD k n0=n at *
   by_cases ho:n.op=4
   ·have ho1:(n.op==4)=true:=by simpa using ho
    obtain⟨u0,u1,u2,u3⟩:=HWn.o.use ho
    have hdpn:dpN BS D n=D.getD (BS.getD n.k.toNat 0).toNat 0:=by unfold dpN;rw[if_pos ho]
    rw[hdpn] at HD2
    obtain⟨kk,hkk⟩:∃ kk:Nat,n.k=(kk:Int):=⟨n.k.toNat,by omega⟩
    rw[hkk] at e4 u1 u2 u3 HD2
    simp only[iTn] at u1 u2 u3 HD2
    obtain⟨bb,boff,rfl,hbb,hbc⟩:∃ b off,ba=some ⟨b,off,none⟩/\b < V.heap.size/\V.cell? ⟨b,off+kk,none⟩=some (.i (BS.getD kk 0)):=by
     rcases(HBI.o.later HB.o).cell with h0|⟨b,off,ha,hlb,hc⟩
     ·rw[HLB.o] at u1;omega
     ·exact⟨b,off,ha,hlb,hc kk (by rw[<-HLB.o];exact u1)⟩
    obtain⟨q,hq⟩:∃ q:Nat,BS.getD kk 0=(q:Int):=⟨(BS.getD kk 0).toNat,by omega⟩
    rw[hq] at hbc u3 HD2
    simp only[iTn] at u3 HD2
    have s0:=fF (D++0::List.replicate (dl-(k+1)) 0) q (by simp;omega)
    rw[lF (by rw[hDl];exact u3)] at s0
    have d0:=HG.o.cell q s0
    generalize D.getD q 0=x at *
    have HG2:=aA ((aDj HG.o hDl x).alloc (.cells #[.i n.op,.i n.a,.i n.b,.i n.c,.i kk,.i n.back,.i n.co,.i n.x,.i n.y] 137))
    have HT2:=aA ((HT.o.other (p:=⟨W.heap.size+1,k,none⟩) (by simp) (.i x)).alloc (.cells #[.i n.op,.i n.a,.i n.b,.i n.c,.i kk,.i n.back,.i n.co,.i n.x,.i n.y] 137))
    have HB2:=aA (bel (HB.o.setCell (p:=⟨W.heap.size+1,k,none⟩) (by simp) (.i x)) (aD _ (.cells #[.i n.op,.i n.a,.i n.b,.i n.c,.i kk,.i n.back,.i n.co,.i n.x,.i n.y] 137)))
    have da:=HG.o.cell k (fF _ k (by simp;omega))
    have w0:(kk:Int) < bl:=by have:=HLB.o;omega
    have w1:(q:Int) < dl:=by omega
    have w2:(0:Int)<=kk:=by omega
    have w3:(0:Int)<=q:=by omega
    clear s0 hq u0 u1 u2 u3 hdpn ho HWn hmk HDb
    go_wp2_with fail
    go_roundw
    case rel=>exact⟨k+1,D++[x],by omega,by go_num,aA HD2.o,aA (by rw[lAa];exact HG2.o),aA HT2.o,aA HB2.o⟩
    case measure=>simp[intOf];omega
   ·have ho1:(n.op==4)=false:=by simpa using ho
    have HW2:=HWn.o
    obtain⟨ar,har⟩:∃ ar:Nat,gM n.op=ar:=⟨(gM n.op).toNat,by have:=HW2.pr;omega⟩
    have h3:ar<=3:=by
     have:gM n.op<=3:=by unfold gM lW;repeat' split <;> omega
     omega
    have HPt:=aA fun j hj=>aDh (n:=n) (j:=j) har h3 hj
    have HPl:=aA (uP har h3)
    have HPr:=aA HW2.prt
    have HSg:=aA fun j hj=>aSn (D:=D) (n:=n) (k:=j) hj
    have hdpn:dpN BS D n=((dG n).map fun p=>D.getD p.toNat 0).foldl max 0+1:=by unfold dpN;rw[if_neg ho]
    have hin:=aNl HDb.o (by rw[hDl];exact HW2)
    rw[hdpn] at HD2 hin
    obtain⟨L,hL⟩:∃ L,((dG n).map fun p=>D.getD p.toNat 0)=L:=⟨_,rfl⟩
    have HLl:Hid (L.length=ar):=aA (by rw[<-hL,List.length_map,HPl.o])
    have HLb:Hid (∀ j,0<=(L.take j).foldl max 0/\(L.take j).foldl max 0<=1024):=aA fun j=>⟨mF _ _,pW _ _ _ (by omega) fun x hx=>by
     have:=uL L 0 x (List.mem_of_mem_take hx)
     rw[<-hL] at this
     omega⟩
    rw[hL] at HSg HD2
    have HPO:=aA (wK n ar (by rw[HW2.ar ho,har]) h3 (V.alloc (.cells (bH n) 137)))
    have hl:=aD V (.cells (bH n) 137)
    have HG1:=aA (HG.o.alloc (.cells (bH n) 137))
    have HT1:=aA (HT.o.alloc (.cells (bH n) 137))
    have HB1:=aA (bel HB.o hl)
    clear hl hL hdpn har HW2 HWn ho hin HDb hmk
    go_wp2_with fail
    refine HPO.o.mono ?_
    rintro e V1 ⟨gp,rfl,-,hGp,hb⟩
    have HGp:=aA hGp
    have HGa:=aA (HG1.o.below hb)
    have HTa:=aA (HT1.o.below hb)
    have HBa:=aA (bel HB1.o hb)
    have hza:=HGa.o.lt
    have ya:=HGa.o.frozen k
    have da:=HGa.o.cell k (fF _ k (by simp;omega))
    clear hb hGp HG1 HT1 HB1 HPO HG HT HB e0 e1 e2 e3 e4 e5 e6 e7 e8 x1 y0
    go_wp2_with fail
    go_loop [6,39] (fun m i=>∃ j:Nat,j<=ar/\i=.i j/\m=.i ((L.take j).foldl max 0)) (fun _ i=>ar-(intOf i).toNat)
    case atStart=>exact⟨0,nZl _,rfl,rfl⟩
    case round =>
     obtain⟨j,hj,rfl,rfl⟩:=hrel
     by_cases hlj:j < ar
     ·have cp:=HGp.o.cell j (HPt.o j hlj).1
      obtain⟨p0,p1⟩:=HPr.o _ (HPt.o j hlj).2
      have HTt:=aA (HSg.o j (by rw[HPl.o];exact hlj))
      obtain⟨q,hq⟩:∃ q:Nat,(dG n).getD j 0=(q:Int):=⟨((dG n).getD j 0).toNat,by omega⟩
      rw[hq] at cp p1 HTt
      simp only[iTn] at p1 HTt
      have s0:=fF (D++0::List.replicate (dl-(k+1)) 0) q (by simp;omega)
      rw[lF (by rw[hDl];exact p1)] at s0
      have d0:=HGa.o.cell q s0
      generalize D.getD q 0=x at *
      have j0:(0:Int)<=j:=by omega
      have j1:(j:Int) < ar:=by omega
      have i0:(0:Int)<=q:=by omega
      have i1:(q:Int) < dl:=by omega
      clear s0 p0 p1 hq
      generalize (L.take j).foldl max 0=mm at *
      go_wp2_with fail
      go_round
      case rel=>exact⟨j+1,by omega,by go_num,by rw[HTt.o]⟩
      case measure=>simp[intOf];omega
     ·obtain rfl:j=ar:=by omega
      have e:L.take j=L:=lTl (by rw[HLl.o];exact nLr _)
      obtain⟨b0,b1⟩:=HLb.o j
      rw[e] at b0 b1 ⊢
      generalize L.foldl max 0=mm at *
      have HG2:=aA (aDj HGa.o hDl (mm+1))
      have HT2:=aA (HTa.o.other (p:=⟨W.heap.size+1,k,none⟩) (by simp) (.i (mm+1)))
      have HB2:=aA (HBa.o.setCell (p:=⟨W.heap.size+1,k,none⟩) (by simp) (.i (mm+1)))
      go_wp2_with fail
      go_roundw
      case rel=>exact⟨k+1,D++[mm+1],by omega,by go_num,aA HD2.o,aA (by rw[lAa];exact HG2.o),aA HT2.o,aA HB2.o⟩
      case measure=>simp[intOf];omega
  ·obtain rfl:k=dl:=by omega
   have e:NS.take k=NS:=lTl (by rw[HLN.o];exact nLr _)
   have hZ:=HD.o
   rw[e] at hZ
   have HZ:=aA hZ
   have HG1:=aA HG.o
   rw[Nat.sub_self,List.replicate_zero,List.append_nil] at HG1
   clear hZ
   go_wp2_with fail
   go_ret
   rw[HZ.o]
   exact⟨_,rfl,HG1.o,HB.o⟩
end
section
open Go.RowKit Go.IntWalk Lx Pz
variable {W:World} {b:Nat} {t:TypeId} {BS:List Int} {root:Int}
abbrev jJ:Array Value:=#[.slice none 0 0,.i 0,.i 0]
def CkP (w:World)(f d:Int)(NM:List aM)(BS:List Int)(NS:List Nd)(root:Int)(e:Ending)(W':World):Prop :=
 (jZ f d NM BS NS root≠0/\e=.returned (.tuple #[.agg jJ,.i (jZ f d NM BS NS root)])/\Below w.heap.size w W') \/
 (jZ f d NM BS NS root=0/\∃ g,e=.returned (.tuple #[.agg #[.slice (some ⟨g,0,none⟩) NS.length NS.length,.i (oW NS),.i (mxR (rY BS NS []))],.i 0])/\w.heap.size<=g/\aB W' g 165 (oP (oQ f d BS NS []).1)/\Below w.heap.size w W')
theorem iJ {x y z:Value}(h:aB W b t #[x,y,z]):W.cell? ⟨b,0,none⟩=some x/\W.cell? ⟨b,1,none⟩=some y/\W.cell? ⟨b,2,none⟩=some z/\W.frozen? ⟨b,0,none⟩=false/\W.frozen? ⟨b,1,none⟩=false/\W.frozen? ⟨b,2,none⟩=false :=
 ⟨h.cell 0 rfl,h.cell 1 rfl,h.cell 2 rfl,h.frozen 0,h.frozen 1,h.frozen 2⟩
theorem fQ {w w2:World}{p q r:Value}(h:aB w2 b t #[p,q,r])(hB:Below w.heap.size w w2)(hb:w.heap.size<=b)(x y z:Value) :
  aB (((w2.setCell ⟨b,0,none⟩ x).setCell ⟨b,1,none⟩ y).setCell ⟨b,2,none⟩ z) b t #[x,y,z] /\
  Below w.heap.size w (((w2.setCell ⟨b,0,none⟩ x).setCell ⟨b,1,none⟩ y).setCell ⟨b,2,none⟩ z) :=
 ⟨((h.set 0 x).set 1 y).set 2 z,((hB.setCell (p:=⟨b,0,none⟩) hb _).setCell (p:=⟨b,1,none⟩) hb _).setCell (p:=⟨b,2,none⟩) hb _⟩
theorem qG {r:Nat}{cs:Array Value}(h:aB W b t cs)(hr:b≠r)(x y z:Value):aB (((W.setCell ⟨r,0,none⟩ x).setCell ⟨r,1,none⟩ y).setCell ⟨r,2,none⟩ z) b t cs :=
 ((h.other (p:=⟨r,0,none⟩) hr x).other (p:=⟨r,1,none⟩) hr y).other (p:=⟨r,2,none⟩) hr z
theorem aWw {f d:Int}{NM:List aM}{NS:List Nd}(h:sN f d NM BS NS root≠0):jZ f d NM BS NS root=sN f d NM BS NS root:=by
 unfold sN at h ⊢
 unfold jZ
 by_cases h1:¬Knd.May f d
 ·rw[if_pos h1,if_pos h1]
 ·rw[if_neg h1] at h ⊢
  rw[if_neg h1]
  by_cases h2:pO NM BS NS root=false
  ·rw[if_pos h2,if_pos h2]
  ·rw[if_neg h2] at h ⊢
   rw[if_neg h2]
   by_cases h3:NS.any (ahB f d)=true
   ·rw[if_pos h3,if_pos h3]
   ·rw[if_neg h3] at h
    exact absurd rfl h
theorem bAf {f d:Int}{NM:List aM}{NS:List Nd}(h:sN f d NM BS NS root=0):Knd.May f d/\pO NM BS NS root=true /\
  jZ f d NM BS NS root=if (oQ f d BS NS []).2≠0 then(oQ f d BS NS []).2 else if 200 < oW NS\/24 < mxR (rY BS NS []) then 14 else 0:=by
 unfold sN at h
 by_cases h1:¬Knd.May f d
 ·rw[if_pos h1] at h;cases h
 ·rw[if_neg h1] at h
  by_cases h2:pO NM BS NS root=false
  ·rw[if_pos h2] at h;cases h
  ·rw[if_neg h2] at h
   by_cases h3:NS.any (ahB f d)=true
   ·rw[if_pos h3] at h;cases h
   ·refine⟨Decidable.of_not_not h1,by simpa using h2,?_⟩
    unfold jZ
    rw[if_neg h1,if_neg h2,if_neg h3]
structure Cr (V:World)(tb:Nat)(tv:Array Value)(sv dv:Value)(co mx:Int)(D:List Int)(n:Nat)(d:Nat->Bool)(x9 x27 x28 x29 x30 x31 x32 x33 x34:Value)(w:World):Prop where
 bel:Below V.heap.size V w
 m0:d 0=true->x27=sv
 m1:d 1=true->x28=.pointer (some ⟨tb,2,none⟩)
 m2:d 2=true->x29=dv
 m3:d 3=true->x30=.i co
 m4:d 4=true->x31=.agg tv
 m5:d 5=true->d 9=false->∃ gd,x32=.slice (some ⟨gd,0,none⟩) n n/\aB w gd 3 (yZ D)
 m6:d 6=true->x33=.i mx
 m7:d 7=true->x34=.agg #[sv,.i co,.i mx]
 m8:d 8=true->d 9=false->∃ gr,x9=.pointer (some ⟨gr,0,none⟩)/\V.heap.size<=gr/\aB w gr 55 jJ
 m9:d 9=true->∃ gr,x9=.pointer (some ⟨gr,0,none⟩)/\V.heap.size<=gr/\aB w gr 55 #[sv,.i co,.i mx]
 ph:d 9=true->∀ j,j < 9->d j=true
theorem bBk {a b:Bool}(h:b=true):(a || b)=true:=by rw[h];simp
theorem aX3:Tryz.prog.follows .mixedOrders=true:=by kernel_rfl
theorem gF (f d:Int){na ba da:Option Addr}{nl nc bl bc dl dc:Nat}{NM:List aM}{NS:List Nd}(hX:Tx W na nl nc NM)(hB:Iz W ba bl bc BS)(hN:Nz W da dl dc NS)(hs:∀ s ∈ NM,s.length<=9223372036854775807) :
  Calls Tryz.prog 18 #[.agg (dB f d),.agg (eY (.slice na nl nc) (.slice ba bl bc) (.slice da dl dc) (.i root))] W (CkP W f d NM BS NS root):=by
 have hb1:=aD W (.cells (dB f d) 23)
 have hb2:=bel hb1 (aD (W.alloc (.cells (dB f d) 23)) (.cells (eY (.slice na nl nc) (.slice ba bl bc) (.slice da dl dc) (.i root)) 50))
 have hb3:=bel hb2 (aD ((W.alloc (.cells (dB f d) 23)).alloc (.cells (eY (.slice na nl nc) (.slice ba bl bc) (.slice da dl dc) (.i root)) 50)) (.cells jJ 55))
 have HK0:=aA (((aB.new W 23 (dB f d)).alloc (.cells (eY (.slice na nl nc) (.slice ba bl bc) (.slice da dl dc) (.i root)) 50)).alloc (.cells jJ 55))
 have HT0:Hid (aB (((W.alloc (.cells (dB f d) 23)).alloc (.cells (eY (.slice na nl nc) (.slice ba bl bc) (.slice da dl dc) (.i root)) 50)).alloc (.cells jJ 55)) (W.heap.size+1) 50 (eY (.slice na nl nc) (.slice ba bl bc) (.slice da dl dc) (.i root))):=by
  have:=(aB.new (W.alloc (.cells (dB f d) 23)) 50 (eY (.slice na nl nc) (.slice ba bl bc) (.slice da dl dc) (.i root))).alloc (.cells jJ 55)
  simp only[wSa] at this
  exact aA this
 have HR0:Hid (aB (((W.alloc (.cells (dB f d) 23)).alloc (.cells (eY (.slice na nl nc) (.slice ba bl bc) (.slice da dl dc) (.i root)) 50)).alloc (.cells jJ 55)) (W.heap.size+1+1) 55 jJ):=by
  have:=aB.new ((W.alloc (.cells (dB f d) 23)).alloc (.cells (eY (.slice na nl nc) (.slice ba bl bc) (.slice da dl dc) (.i root)) 50)) 55 jJ
  simp only[wSa] at this
  exact aA this
 have HX:=aA (hX.later hb3)
 have HBI:=aA (hB.later hb3)
 have HNI:=aA (hN.later hb3)
 have HLN:=aA hN.len
 have HB0:=aA hb3
 have HM:=aA (aNn f d (root:=root) (hX.later hb3) (hB.later hb3) (hN.later hb3) hs)
 clear hX hB hN hb1 hb2 hb3 hs
 go_enter Tryz.func18,Tryz.ntmps18
 go_wp2_with fail
 refine HM.o.mono ?_
 rintro e V1 ⟨rfl,hb⟩
 have HR1:=aA (HR0.o.below hb)
 have HB1:=aA (bel HB0.o hb)
 by_cases hm:sN f d NM BS NS root=0
 ·obtain⟨m1,m2,m3⟩:=bAf hm
  obtain⟨es,ex,hD⟩:=iK.1 m2
  have hfew:dl<=1024:=by rw[<-HLN.o];exact hD.few
  have h1:1<=dl:=by rw[<-HLN.o,hD.nodes,lLa,E.flat_len];have:=ex.size_pos;omega
  have HK1:=aA (HK0.o.below hb)
  have HT1:=aA (HT0.o.below hb)
  have HNI1:=aA (HNI.o.later hb)
  have HBI1:=aA (HBI.o.later hb)
  have HW:=aA hD.wl
  have HM3:=aA m3
  have HSp:=aA (aF8 f d ⟨na,nl,nc,rfl⟩ (root:=root) m1 (HBI.o.later hb) (HNI.o.later hb) hD.wl hfew)
  obtain⟨k0,k1,-,-⟩:=aP HK1.o
  obtain⟨t0,t1,t2,t3⟩:V1.cell? ⟨W.heap.size+1,0,none⟩=some (.slice na nl nc)/\V1.cell? ⟨W.heap.size+1,1,none⟩=some (.slice ba bl bc)/\V1.cell? ⟨W.heap.size+1,2,none⟩=some (.slice da dl dc)/\V1.cell? ⟨W.heap.size+1,3,none⟩=some (.i root):=⟨HT1.o.cell 0 rfl,HT1.o.cell 1 rfl,HT1.o.cell 2 rfl,HT1.o.cell 3 rfl⟩
  rw[hm]
  clear hm hb m1 m2 m3 hD HM HK0 HT0 HR0 HB0 HX HBI HNI
  go_wp2_with fail
  refine HSp.o.mono ?_
  rintro e V2 (⟨hz,rfl,hb⟩|⟨hz,gs,rfl,hgs,hG,hb⟩)
  ·have hne:((oQ f d BS NS []).2 != 0)=true:=by simpa using hz
   have HF:Hid (jZ f d NM BS NS root=(oQ f d BS NS []).2):=aA (by rw[HM3.o,if_pos hz])
   have HR2:=aA (HR1.o.below hb)
   have HB2:=aA (bel HB1.o hb)
   have HZ:=aA hz
   obtain⟨r0,r1,r2,r3,r4,r5⟩:=iJ HR2.o
   clear hb hz HM3
   generalize (oQ f d BS NS []).2=er at *
   go_wp2_with fail
   obtain⟨hp,hpb⟩:=fQ HR2.o HB2.o (by omega) (.slice none 0 0) (.i 0) (.i 0)
   have p0:=hp.cell 0 rfl
   have p1:=hp.cell 1 rfl
   have p2:=hp.cell 2 rfl
   exact bPr (v:=.tuple #[.agg jJ,.i er]) (by simp[results,Tryz.results18,go_sem,p0,p1,p2]) rfl (.inl (by rw[HF.o];exact⟨HZ.o,rfl,hpb⟩))
  ·have HF:Hid (jZ f d NM BS NS root=if 200 < oW NS\/24 < mxR (rY BS NS []) then 14 else 0):=aA (by rw[HM3.o,if_neg (by simpa using hz)])
   have HR2:=aA (HR1.o.below hb)
   have HB2:=aA (bel HB1.o hb)
   have HT2:=aA (HT1.o.below hb)
   have HN2:=aA (HNI1.o.later hb)
   have HI2:=aA (HBI1.o.later hb)
   have HG2:=aA hG
   have hgz:=hG.lt
   obtain⟨t0,t1,t2,t3⟩:V2.cell? ⟨W.heap.size+1,0,none⟩=some (.slice na nl nc)/\V2.cell? ⟨W.heap.size+1,1,none⟩=some (.slice ba bl bc)/\V2.cell? ⟨W.heap.size+1,2,none⟩=some (.slice da dl dc)/\V2.cell? ⟨W.heap.size+1,3,none⟩=some (.i root):=⟨HT2.o.cell 0 rfl,HT2.o.cell 1 rfl,HT2.o.cell 2 rfl,HT2.o.cell 3 rfl⟩
   have hDl:(rY BS NS []).length=dl:=by rw[aCl,HLN.o];simp
   have HDb:=aA (Db.all (BS:=BS) (A:=NS) (D:=[]) (fun x hx=>by simp at hx) HW.o)
   have HGs:=aA hgs
   have HR1s:=aA HR1.o.lt
   obtain⟨co,hco⟩:∃ co,oW NS=co:=⟨_,rfl⟩
   obtain⟨D,hD⟩:∃ D,rY BS NS []=D:=⟨_,rfl⟩
   obtain⟨mx,hmx⟩:∃ mx,mxR D=mx:=⟨_,rfl⟩
   obtain⟨SS,hSS⟩:∃ SS,(oQ f d BS NS []).1=SS:=⟨_,rfl⟩
   rw[hD] at HDb hDl HF
   rw[hco,hmx] at HF
   rw[hSS] at HG2
   have HCo:=aA hco
   have HD:=aA hD
   have HMx:=aA hmx
   have HSS:=aA hSS
   have HDl:=aA hDl
   clear hb hG hz HM3 hDl HR1 HB1 HT1 HNI1 HBI1 HSp hgs k0 k1 hco hD hmx hSS
   go_wp2_with fail
   refine wT aX3 (aYm (by kernel_rfl)) (fun dd a w=>∃ x9 x27 x28 x29 x30 x31 x32 x33 x34,a=⟨#[.agg (dB f d),.agg (eY (.slice na nl nc) (.slice ba bl bc) (.slice da dl dc) (.i root)),.pointer (some ⟨W.heap.size,0,none⟩),.pointer (some ⟨W.heap.size+1,0,none⟩),.pointer (some ⟨W.heap.size+1+1,0,none⟩),.i 0,.i 0,.slice (some ⟨gs,0,none⟩) dl dl,.i 0,x9,.agg #[.i f,.i d],.agg #[.slice na nl nc,.slice ba bl bc,.slice da dl dc,.i root],.i 0,.i 0,.bool false,undef,undef,.tuple #[.slice (some ⟨gs,0,none⟩) dl dl,.i 0],.agg #[.i f,.i d],.agg #[.slice na nl nc,.slice ba bl bc,.slice da dl dc,.i root],.tuple #[.slice (some ⟨gs,0,none⟩) dl dl,.i 0],.slice (some ⟨gs,0,none⟩) dl dl,.i 0,.i 0,.bool false,undef,undef,x27,x28,x29,x30,x31,x32,x33,x34,undef,undef,undef,undef,undef,undef,undef,undef,undef,undef],[]⟩/\Cr V2 (W.heap.size+1) (eY (.slice na nl nc) (.slice ba bl bc) (.slice da dl dc) (.i root)) (.slice (some ⟨gs,0,none⟩) dl dl) (.slice da dl dc) co mx D dl dd x9 x27 x28 x29 x30 x31 x32 x33 x34 w) ?_ ?_ ?_
   ·refine⟨_,_,_,_,_,_,_,_,_,rfl,aF V2,?_,?_,?_,?_,?_,?_,?_,?_,?_,?_,?_⟩
    all_goals intro h;cases h
   ·rintro dd a w i o ⟨x9,x27,x28,x29,x30,x31,x32,x33,x34,rfl,C⟩ hdi ho haft Q' hk'
    have HK:=aA hk'
    clear hk'
    have hi:i < 10:=(aGs.1 ho).1
    match i,hi with
    | 0,_ =>
     obtain rfl:=(Option.some.inj ho)
     have nope:dd 9=true->False:=fun h=>by have h2:=C.ph h 0 (by decide);rw[hdi] at h2;cases h2
     clear haft ho
     go_wp2
     exact HK.o _ _ ⟨_,_,_,_,_,_,_,_,_,rfl,⟨C.bel,(fun _=>rfl),C.m1,C.m2,C.m3,C.m4,C.m5,C.m6,C.m7,C.m8,(fun h=>(nope h).elim),(fun h=>(nope h).elim)⟩⟩
    | 1,_ =>
     obtain rfl:=(Option.some.inj ho)
     have nope:dd 9=true->False:=fun h=>by have h2:=C.ph h 1 (by decide);rw[hdi] at h2;cases h2
     clear haft ho
     go_wp2
     exact HK.o _ _ ⟨_,_,_,_,_,_,_,_,_,rfl,⟨C.bel,C.m0,(fun _=>rfl),C.m2,C.m3,C.m4,C.m5,C.m6,C.m7,C.m8,(fun h=>(nope h).elim),(fun h=>(nope h).elim)⟩⟩
    | 2,_ =>
     obtain rfl:=(Option.some.inj ho)
     have nope:dd 9=true->False:=fun h=>by have h2:=C.ph h 2 (by decide);rw[hdi] at h2;cases h2
     have g1:dd 1=true:=haft ⟨1,.data⟩ (by simp) rfl
     clear haft ho
     have e1:=C.m1 g1
     subst e1
     have t2:=(HT2.o.below C.bel).cell 2 rfl
     have C:=aA C
     go_wp2
     have C:=C.o
     exact HK.o _ _ ⟨_,_,_,_,_,_,_,_,_,rfl,⟨C.bel,C.m0,C.m1,(fun _=>rfl),C.m3,C.m4,C.m5,C.m6,C.m7,C.m8,(fun h=>(nope h).elim),(fun h=>(nope h).elim)⟩⟩
    | 3,_ =>
     obtain rfl:=(Option.some.inj ho)
     have nope:dd 9=true->False:=fun h=>by have h2:=C.ph h 3 (by decide);rw[hdi] at h2;cases h2
     have g2:dd 2=true:=haft ⟨2,.data⟩ (by simp) rfl
     clear haft ho
     have e1:=C.m2 g2
     subst e1
     have HQ:=aA (aG0 (HN2.o.later C.bel) hfew)
     rw[HCo.o] at HQ
     have C:=aA C
     go_wp2_with fail
     refine HQ.o.mono ?_
     rintro e w' ⟨rfl,hw⟩
     go_wp2
     have C:=C.o
     have hb:=bel C.bel hw
     exact HK.o _ _ ⟨_,_,_,_,_,_,_,_,_,rfl,⟨hb,C.m0,C.m1,C.m2,(fun _=>rfl),C.m4,(fun h h2=>let ⟨g,e,r⟩:=C.m5 h h2;⟨g,e,r.below hw⟩),C.m6,C.m7,(fun h h2=>let ⟨g,e,e2,r⟩:=C.m8 h h2;⟨g,e,e2,r.below hw⟩),(fun h=>(nope h).elim),(fun h=>(nope h).elim)⟩⟩
    | 4,_ =>
     obtain rfl:=(Option.some.inj ho)
     have nope:dd 9=true->False:=fun h=>by have h2:=C.ph h 4 (by decide);rw[hdi] at h2;cases h2
     clear haft ho
     obtain⟨t0,t1,t2,t3⟩:w.cell? ⟨W.heap.size+1,0,none⟩=some (.slice na nl nc)/\w.cell? ⟨W.heap.size+1,1,none⟩=some (.slice ba bl bc)/\w.cell? ⟨W.heap.size+1,2,none⟩=some (.slice da dl dc)/\w.cell? ⟨W.heap.size+1,3,none⟩=some (.i root):=⟨(HT2.o.below C.bel).cell 0 rfl,(HT2.o.below C.bel).cell 1 rfl,(HT2.o.below C.bel).cell 2 rfl,(HT2.o.below C.bel).cell 3 rfl⟩
     have C:=aA C
     go_wp2
     have C:=C.o
     exact HK.o _ _ ⟨_,_,_,_,_,_,_,_,_,rfl,⟨C.bel,C.m0,C.m1,C.m2,C.m3,(fun _=>rfl),C.m5,C.m6,C.m7,C.m8,(fun h=>(nope h).elim),(fun h=>(nope h).elim)⟩⟩
    | 5,_ =>
     obtain rfl:=(Option.some.inj ho)
     have nope:dd 9=true->False:=fun h=>by have h2:=C.ph h 5 (by decide);rw[hdi] at h2;cases h2
     have g4:dd 4=true:=haft ⟨4,.data⟩ (by simp) rfl
     have g3:dd 3=true:=haft ⟨3,.chain⟩ (by simp) rfl
     clear haft ho
     have e1:=C.m4 g4
     subst e1
     have HQ:=aA (aCj ⟨na,nl,nc,rfl⟩ (root:=root) (HI2.o.later C.bel) (HN2.o.later C.bel) HW.o hfew)
     rw[HD.o] at HQ
     have C:=aA C
     go_wp2_with fail
     refine HQ.o.mono ?_
     rintro e w' ⟨gd,rfl,hG,hw⟩
     go_wp2
     have C:=C.o
     have hb:=bel C.bel hw
     exact HK.o _ _ ⟨_,_,_,_,_,_,_,_,_,rfl,⟨hb,C.m0,C.m1,C.m2,C.m3,C.m4,(fun _ _=>⟨gd,rfl,hG⟩),C.m6,C.m7,(fun h h2=>let ⟨g,e,e2,r⟩:=C.m8 h h2;⟨g,e,e2,r.below hw⟩),(fun h=>(nope h).elim),(fun h=>(nope h).elim)⟩⟩
    | 6,_ =>
     obtain rfl:=(Option.some.inj ho)
     have nope:dd 9=true->False:=fun h=>by have h2:=C.ph h 6 (by decide);rw[hdi] at h2;cases h2
     have g5:dd 5=true:=haft ⟨5,.data⟩ (by simp) rfl
     clear haft ho
     have h9:dd 9=false:=by cases h:dd 9 with|false=>rfl|true=>exact(nope h).elim
     obtain⟨gd,e1,hG⟩:=C.m5 g5 h9
     subst e1
     have HQ:=aA (aQt (D:=D) (by have h:=aG7 hG (by rw[HDl.o];exact hfew);rw[HDl.o] at h;exact h) h1 (fun x hx=>(HDb.o x hx).1))
     rw[HMx.o] at HQ
     clear hG h9
     have C:=aA C
     go_wp2_with fail
     refine HQ.o.mono ?_
     rintro e w' ⟨rfl,rfl⟩
     go_wp2
     have C:=C.o
     exact HK.o _ _ ⟨_,_,_,_,_,_,_,_,_,rfl,⟨C.bel,C.m0,C.m1,C.m2,C.m3,C.m4,C.m5,(fun _=>rfl),C.m7,C.m8,(fun h=>(nope h).elim),(fun h=>(nope h).elim)⟩⟩
    | 7,_ =>
     obtain rfl:=(Option.some.inj ho)
     have nope:dd 9=true->False:=fun h=>by have h2:=C.ph h 7 (by decide);rw[hdi] at h2;cases h2
     have g0:dd 0=true:=haft ⟨0,.data⟩ (by simp) rfl
     have g3:dd 3=true:=haft ⟨3,.data⟩ (by simp) rfl
     have g6:dd 6=true:=haft ⟨6,.data⟩ (by simp) rfl
     clear haft ho
     have e1:=C.m0 g0
     have e2:=C.m3 g3
     have e3:=C.m6 g6
     subst e1 e2 e3
     have C:=aA C
     go_wp2
     have C:=C.o
     exact HK.o _ _ ⟨_,_,_,_,_,_,_,_,_,rfl,⟨C.bel,C.m0,C.m1,C.m2,C.m3,C.m4,C.m5,C.m6,(fun _=>rfl),C.m8,(fun h=>(nope h).elim),(fun h=>(nope h).elim)⟩⟩
    | 8,_ =>
     obtain rfl:=(Option.some.inj ho)
     have nope:dd 9=true->False:=fun h=>by have h2:=C.ph h 8 (by decide);rw[hdi] at h2;cases h2
     clear haft ho
     have C:=aA C
     go_wp2
     have C:=C.o
     have hw:=aD w (.cells jJ 55)
     have hb:=bel C.bel hw
     exact HK.o _ _ ⟨_,_,_,_,_,_,_,_,_,rfl,⟨hb,C.m0,C.m1,C.m2,C.m3,C.m4,(fun h h2=>let ⟨g,e,r⟩:=C.m5 h h2;⟨g,e,r.below hw⟩),C.m6,C.m7,(fun _ _=>⟨w.heap.size,rfl,C.bel.size,aB.new w _ _⟩),(fun h=>(nope h).elim),(fun h=>(nope h).elim)⟩⟩
    | 9,_ =>
     obtain rfl:=(Option.some.inj ho)
     have g8:dd 8=true:=haft ⟨8,.data⟩ (by simp) rfl
     have g7:dd 7=true:=haft ⟨7,.data⟩ (by simp) rfl
     have g6:dd 6=true:=haft ⟨6,.chain⟩ (by simp) rfl
     have g0:dd 0=true:=haft ⟨0,.phase⟩ (by simp) rfl
     have g1:dd 1=true:=haft ⟨1,.phase⟩ (by simp) rfl
     have g2:dd 2=true:=haft ⟨2,.phase⟩ (by simp) rfl
     have g3:dd 3=true:=haft ⟨3,.phase⟩ (by simp) rfl
     have g4:dd 4=true:=haft ⟨4,.phase⟩ (by simp) rfl
     have g5:dd 5=true:=haft ⟨5,.phase⟩ (by simp) rfl
     clear haft ho
     have D9:∀ j,j < 9->dd j=true:=fun j hj=>match j,hj with|0,_=>g0|1,_=>g1|2,_=>g2|3,_=>g3|4,_=>g4|5,_=>g5|6,_=>g6|7,_=>g7|8,_=>g8
     have e1:=C.m7 g7
     obtain⟨gr,e2,hge,hR⟩:=C.m8 g8 hdi
     subst e1 e2
     obtain⟨r0,r1,r2,r3,r4,r5⟩:=iJ hR
     obtain⟨hp,hpb⟩:=fQ (w:=V2) hR C.bel hge (.slice (some ⟨gs,0,none⟩) dl dl) (.i co) (.i mx)
     have HP:=aA hp
     have HPB:=aA hpb
     clear hp hpb hR
     have C:=aA C
     go_wp2
     have C:=C.o
     exact HK.o _ _ ⟨_,_,_,_,_,_,_,_,_,rfl,⟨HPB.o,C.m0,C.m1,C.m2,C.m3,C.m4,(fun _ h=>by cases h),C.m6,(fun _=>rfl),(fun _ h=>by cases h),(fun _=>⟨gr,rfl,hge,HP.o⟩),(fun _ j hj=>bBk (D9 j hj))⟩⟩
   ·rintro dd a w ⟨x9,x27,x28,x29,x30,x31,x32,x33,x34,rfl,C⟩ hall
    have D9:∀ i,i < 10->dd i=true:=hall
    obtain⟨gr,e1,hge,hR⟩:=C.m9 (D9 9 (by omega))
    subst e1
    have HGw:=aA (HG2.o.below C.bel)
    have HRw:=aA (HR2.o.below C.bel)
    have HBw:=aA (bel HB2.o C.bel)
    have hrz:=HR2.o.lt
    have HRr:=aA hR
    obtain⟨r0,r1,r2,-,-,-⟩:=iJ hR
    obtain⟨q0,q1,q2,q3,q4,q5⟩:=iJ HRw.o
    obtain⟨hp,hpb⟩:=fQ HRw.o HBw.o (by omega) (.slice none 0 0) (.i 0) (.i 0)
    obtain⟨hq,hqb⟩:=fQ HRw.o HBw.o (by omega) (.slice (some ⟨gs,0,none⟩) dl dl) (.i co) (.i mx)
    have HGq:=aA (qG (r:=W.heap.size+1+1) HGw.o (by have:=HGs.o;have:=HR1s.o;omega) (.slice (some ⟨gs,0,none⟩) dl dl) (.i co) (.i mx))
    have P0:=aA hp
    have PB:=aA hpb
    have Q0:=aA hq
    have QB:=aA hqb
    clear hp hpb hq hqb hR hall D9 C
    by_cases b1:200 < co
    ·have HF2:Hid (jZ f d NM BS NS root=14):=aA (by rw[HF.o,if_pos (.inl b1)])
     go_wp2_with fail
     have p0:=P0.o.cell 0 rfl
     have p1:=P0.o.cell 1 rfl
     have p2:=P0.o.cell 2 rfl
     exact bPr (v:=.tuple #[.agg jJ,.i 14]) (by simp[results,Tryz.results18,go_sem,p0,p1,p2]) rfl (.inl (by rw[HF2.o];exact⟨by decide,rfl,PB.o⟩))
    ·by_cases b2:24 < mx
     ·have HF2:Hid (jZ f d NM BS NS root=14):=aA (by rw[HF.o,if_pos (.inr b2)])
      go_wp2_with fail
      have p0:=P0.o.cell 0 rfl
      have p1:=P0.o.cell 1 rfl
      have p2:=P0.o.cell 2 rfl
      exact bPr (v:=.tuple #[.agg jJ,.i 14]) (by simp[results,Tryz.results18,go_sem,p0,p1,p2]) rfl (.inl (by rw[HF2.o];exact⟨by decide,rfl,PB.o⟩))
     ·have HF2:Hid (jZ f d NM BS NS root=0):=aA (by rw[HF.o,if_neg (by omega)])
      go_wp2_with fail
      have p0:=Q0.o.cell 0 rfl
      have p1:=Q0.o.cell 1 rfl
      have p2:=Q0.o.cell 2 rfl
      exact bPr (v:=.tuple #[.agg #[.slice (some ⟨gs,0,none⟩) dl dl,.i co,.i mx],.i 0]) (by simp[results,Tryz.results18,go_sem,p0,p1,p2]) rfl (.inr ⟨HF2.o,gs,by rw[HLN.o,HCo.o,HD.o,HMx.o],by have:=HGs.o;have:=HR1s.o;omega,by rw[HSS.o];exact HGq.o,QB.o⟩)
 ·have hne:(sN f d NM BS NS root != 0)=true:=by simpa using hm
  have HF:=aA (aWw hm)
  have HE:=aA hm
  obtain⟨r0,r1,r2,r3,r4,r5⟩:=iJ HR1.o
  clear hm hb HM HX HBI HNI HK0 HT0 HR0 HB0
  generalize sN f d NM BS NS root=er at *
  go_wp2_with fail
  obtain⟨hp,hpb⟩:=fQ HR1.o HB1.o (by omega) (.slice none 0 0) (.i 0) (.i 0)
  have p0:=hp.cell 0 rfl
  have p1:=hp.cell 1 rfl
  have p2:=hp.cell 2 rfl
  exact bPr (v:=.tuple #[.agg jJ,.i er]) (by simp[results,Tryz.results18,go_sem,p0,p1,p2]) rfl (.inl (by rw[HF.o];exact⟨HE.o,rfl,hpb⟩))
end
section
open Lx Pz
def aAd (f d:Int)(v:Wd)(n:Nd):Int:=v.ps.getD ((Knd.mP f d (jX n)).getD 0) 0
def opV (V:List Int)(n:Nd):Int:=(Spn.bK n.op 0 0 ((dG n).map fun p=>V.getD p.toNat 0)).1
def vaN (f d:Int)(v:Wd)(BS V:List Int)(n:Nd):Int :=
 if n.op=4 then V.getD (BS.getD n.k.toNat 0).toNat 0 else if n.op=1 then n.k else if n.op=2 then inpV f d v n.k else if n.op=3 then aAd f d v n else opV V n
def vaR (f d:Int)(v:Wd)(BS:List Int):List Nd->List Int->List Int
 | [],V=>V
 | n::NS,V=>vaR f d v BS NS (V++[vaN f d v BS V n])
theorem aJ4 (f d:Int)(v:Wd)(BS:List Int):∀(A B:List Nd) (V:List Int),vaR f d v BS (A++B) V=vaR f d v BS B (vaR f d v BS A V)
 | [],B,V=>rfl
 | n::A,B,V=>aJ4 f d v BS A B _
theorem aD8 (f d:Int)(v:Wd)(BS:List Int):∀(A:List Nd) (V:List Int),(vaR f d v BS A V).length=V.length+A.length
 | [],V=>rfl
 | n::A,V=>by rw[vaR,aD8 f d v BS A];simp;omega
theorem aRg (f d:Int)(v:Wd)(BS:List Int)(A:List Nd)(n:Nd)(V:List Int):vaR f d v BS (A++[n]) V=vaR f d v BS A V++[vaN f d v BS (vaR f d v BS A V) n]:=by
 rw[aJ4];rfl
noncomputable def evE (f d:Int)(v:Wd)(NM:List aM)(BS:List Int)(NS:List Nd)(root:Int):Int:=if jZ f d NM BS NS root=0 then Knd.aEu f d v.x v.y v.c v.ps else jZ f d NM BS NS root
noncomputable def evV (f d:Int)(v:Wd)(NM:List aM)(BS:List Int)(NS:List Nd)(root:Int):Int:=if evE f d v NM BS NS root=0 then(vaR f d v BS NS []).getD root.toNat 0 else 0
theorem yL {f d:Int}{v:Wd}{NM:List aM}{BS:List Int}{NS:List Nd}{root:Int}:evE f d v NM BS NS root=0↔jZ f d NM BS NS root=0/\Fits f d v:=by
 unfold evE
 constructor
 ·intro h
  split at h
  ·rename_i h1
   rcases dX f d v with⟨h2,-⟩|⟨-,h2⟩
   ·exact⟨h1,h2⟩
   ·omega
  ·rename_i h1;exact absurd h h1
 ·rintro⟨h1,h2⟩
  rw[if_pos h1]
  rcases dX f d v with⟨-,h3⟩|⟨h3,-⟩
  ·exact h3
  ·exact absurd h2 h3
theorem aC0 (L:List Knd.Plc)(p:Knd.Plc):∀(k:Nat),k<=64->∀ q,Knd.look L (Knd.upto k) p=some q->q < k
 | 0,_,q,h=>by simp[Knd.upto,Knd.look] at h
 | k+1,hk,q,h=>by
  rw[Knd.aBy k (by omega),Knd.aBg] at h
  split at h
  ·cases h;exact Nat.lt_succ_self k
  ·have:=aC0 L p k (by omega) q h;omega
end
open Go.RowKit Go.IntWalk Lx Pz
theorem aC {W:World}{b:Nat}{t:TypeId}{x y z u:Value}(h:aB W b t #[x,y,z,u]):W.cell? ⟨b,0,none⟩=some x/\W.cell? ⟨b,1,none⟩=some y/\W.cell? ⟨b,2,none⟩=some z/\W.cell? ⟨b,3,none⟩=some u :=
 ⟨h.cell 0 rfl,h.cell 1 rfl,h.cell 2 rfl,h.cell 3 rfl⟩
theorem aIc (f d k:Int)(v:Wd)(a:Option Addr)(n cap:Nat)(W:World) :
  Calls Tryz.prog 115 #[.agg (dB f d),.agg (dQ v a n cap),.i k] W fun e W'=>e=.returned (.i (inpV f d v k))/\Below W.heap.size W W':=by
 have HL:=aA fun W=>Knd.mH f d W
 have HH:=aA fun W=>Knd.jW f d W
 have HO:=aA fun W=>Knd.kZ f d W
 have HB:=aA (bel (aD W (.cells (dB f d) 23)) (aD (W.alloc (.cells (dB f d) 23)) (.cells (dQ v a n cap) 26)))
 unfold inpV
 by_cases h0:k=0
 ·subst h0
  rw[if_pos rfl]
  go_enter Tryz.func115,Tryz.ntmps115
  go_wp2_with fail
  go_ret
  exact⟨rfl,HB.o⟩
 rw[if_neg h0]
 by_cases h1:k=1
 ·subst h1
  rw[if_pos rfl]
  go_enter Tryz.func115,Tryz.ntmps115
  go_wp2_with fail
  go_ret
  exact⟨rfl,HB.o⟩
 rw[if_neg h1]
 by_cases h2:k=2
 ·subst h2
  rw[if_pos rfl]
  go_enter Tryz.func115,Tryz.ntmps115
  go_wp2_with fail
  go_ret
  exact⟨rfl,HB.o⟩
 rw[if_neg h2]
 by_cases h3:k=3
 ·subst h3
  rw[if_pos rfl]
  go_enter Tryz.func115,Tryz.ntmps115
  go_wp2_with fail
  refine(HL.o _).mono ?_
  rintro e V1 ⟨rfl,hb⟩
  go_wp2_with fail
  go_ret
  exact⟨rfl,bel HB.o hb⟩
 rw[if_neg h3]
 by_cases h4:k=4
 ·subst h4
  rw[if_pos rfl]
  go_enter Tryz.func115,Tryz.ntmps115
  go_wp2_with fail
  refine(HH.o _).mono ?_
  rintro e V1 ⟨rfl,hb⟩
  go_wp2_with fail
  go_ret
  exact⟨rfl,bel HB.o hb⟩
 rw[if_neg h4]
 have q0:(k==0)=false:=by simpa using h0
 have q1:(k==1)=false:=by simpa using h1
 have q2:(k==2)=false:=by simpa using h2
 have q3:(k==3)=false:=by simpa using h3
 have q4:(k==4)=false:=by simpa using h4
 clear h0 h1 h2 h3 h4
 go_enter Tryz.func115,Tryz.ntmps115
 go_wp2_with fail
 refine(HO.o _).mono ?_
 rintro e V1 ⟨rfl,hb⟩
 go_wp2_with fail
 go_ret
 exact⟨rfl,bel HB.o hb⟩
theorem aGk (f d:Int)(nd:Nd)(v:Wd){a:Option Addr}{n cap q:Nat}{W:World}(hP:Knd.Ints W a n cap v.ps)(hw:(jX nd).wf)(hq:Knd.mP f d (jX nd)=some q)(hn:q < n) :
  Calls Tryz.prog 116 #[.agg (dB f d),.agg (dQ v a n cap),.agg #[.i nd.back,.i nd.co,.i nd.x,.i nd.y]] W fun e W'=>e=.returned (.i (aAd f d v nd))/\Below W.heap.size W W':=by
 have HN:=aA fun W=>Knd.jP f d (jX nd) hw W
 unfold Knd.aPe at HN
 unfold aAd
 rw[hq] at HN ⊢
 simp only[oGs,Option.isSome_some] at HN ⊢
 have hb1:=aD W (.cells (dB f d) 23)
 have hb2:=bel hb1 (aD (W.alloc (.cells (dB f d) 23)) (.cells (dQ v a n cap) 26))
 have hb3:=bel hb2 (aD ((W.alloc (.cells (dB f d) 23)).alloc (.cells (dQ v a n cap) 26)) (.cells #[.i nd.back,.i nd.co,.i nd.x,.i nd.y] 135))
 have HB:=aA hb3
 have HW0:Hid (aB (((W.alloc (.cells (dB f d) 23)).alloc (.cells (dQ v a n cap) 26)).alloc (.cells #[.i nd.back,.i nd.co,.i nd.x,.i nd.y] 135)) (W.heap.size+1) 26 (dQ v a n cap)):=by
  have:=(aB.new (W.alloc (.cells (dB f d) 23)) 26 (dQ v a n cap)).alloc (.cells #[.i nd.back,.i nd.co,.i nd.x,.i nd.y] 135)
  simp only[wSa] at this
  exact aA this
 have HP:=aA (hP.later hb3)
 clear hb1 hb2 hb3 hP hw hq
 have i0:(0:Int)<=q:=by omega
 have i1:(q:Int) < n:=by omega
 obtain⟨z,hz⟩:∃ z,v.ps.getD q 0=z:=⟨_,rfl⟩
 rw[hz]
 go_enter Tryz.func116,Tryz.ntmps116
 go_wp2_with fail
 refine(HN.o _).mono ?_
 rintro e V1 ⟨rfl,hb⟩
 obtain⟨x0,x1,x2,x3⟩:=aC (HW0.o.below hb)
 obtain⟨b,off,rfl,-,hc⟩:=(HP.o.later hb).at (by omega)
 have c0:=hc q hn
 rw[hz] at c0
 have HB2:=aA (bel HB.o hb)
 clear hc hb HB HP HW0 HN hz
 go_wp2_with fail
 go_ret
 exact⟨rfl,HB2.o⟩
structure Ls (w W:World)(v:Value)(L:List Int):Prop where
 a:W.ownsRow w.heap.size 3 1 v L.length (kK L)
 bel:Below w.heap.size w W
theorem Ls.alloc {w W:World}{v:Value}{L:List Int}(h:Ls w W v L)(o:Obj):Ls w (W.alloc o) v L:=⟨h.a.alloc o,h.bel.alloc h.bel.size o⟩
theorem Ls.start (W:World):Ls W W (.slice none 0 0) []:=⟨⟨rfl,.inl ⟨rfl,rfl⟩⟩,Below.refl _ _⟩
theorem kL {w W:World}{v:Value}{L:List Int}{ops:Array Oper}{rest:List Oper}{o:Oper}{a:Act}{Q:Exit->Act->World->Prop}
  (hgd:o.guard=none) (s x:Operand) (ho:o.op=.call { callee:=.builtin .append,args:=#[s,x],argTypes:=#[24,24] })
  (hs:a.eval s=v) (hen:Ls w W v L) (b:Nat) (p:Int) (hx:a.eval x=.slice (some ⟨b,0,none⟩) 1 1) (hc:aB W b 3 #[.i p]) (h3:L.length<=2000000)
  (h:∀ g cap w',Ls w w' (.slice (some ⟨g,0,none⟩) (L.length+1) cap) (L++[p])->wpList Tryz.prog ops Q rest (a.put o.dst (.slice (some ⟨g,0,none⟩) (L.length+1) cap)) w') :
  wpList Tryz.prog ops Q (o::rest) a W :=
 uG hgd s x ho hs hen.a hen.bel.size b p hx hc h3 fun g cap w' h1 h2 h4=>h g cap w' ⟨h1,h4 w hen.bel rfl⟩
theorem aUd {V:List Int}{n:Nd}{k:Nat}(hk:k < (dG n).length):((dG n).map fun p=>V.getD p.toNat 0).take (k+1)=((dG n).map fun p=>V.getD p.toNat 0).take k++[V.getD ((dG n).getD k 0).toNat 0]:=by
 rw[aG 0 (by simpa using hk)]
 congr 2
 simp[List.getD_eq_getElem?_getD,List.getElem?_map,List.getElem?_eq_getElem hk]
theorem aL5 (n:Nd){BS:List Int}{i sl sc:Nat}{a:Option Addr}{V:List Int}{W:World}(hn:Wn BS i n)(h5:5<=n.op)(hS:Iz W a sl sc V)(hi:i<=sl) :
  Calls Tryz.prog 117 #[.agg (bH n),.slice a sl sc] W fun e W'=>e=.returned (.i (opV V n))/\Below W.heap.size W W':=by
 obtain⟨k,hk⟩:∃ k:Nat,gM n.op=k:=⟨(gM n.op).toNat,by have:=hn.pr;omega⟩
 have h3:k<=3:=by
  have:gM n.op<=3:=by unfold gM lW;repeat' split <;> omega
  omega
 have har:lW n.op=k:=by rw[hn.ar (by omega),hk]
 have hsl:sl<=9223372036854775807:=by have:=hS.le;have:=hS.max;unfold maxLen at *;omega
 unfold opV
 have HPt:=aA fun j hj=>aDh (n:=n) (j:=j) hk h3 hj
 have HPl:=aA (uP hk h3)
 have HPr:=aA hn.prt
 have HSg:=aA fun j hj=>aUd (V:=V) (n:=n) (k:=j) hj
 obtain⟨L,hL⟩:∃ L,((dG n).map fun p=>V.getD p.toNat 0)=L:=⟨_,rfl⟩
 have HLl:Hid (L.length=k):=aA (by rw[<-hL,List.length_map,HPl.o])
 rw[hL] at HSg ⊢
 have HA:=aA fun W=>bQ n.op W
 rw[har] at HA
 have HB:=aA (aD W (.cells (bH n) 137))
 have HN0:=aA (aB.new W 137 (bH n))
 obtain⟨f0,f1,f2,f3,f4,f5,f6,f7,f8⟩:=(aB.new W 137 (bH n)).nine
 have hz:W.heap.size < (W.alloc (.cells (bH n) 137)).heap.size:=by simp
 have HS0:=aA (hS.later HB.o)
 clear hS hL har hk hn h5
 have hk0:(0:Int)<=k:=by omega
 have hk1:(k:Int)<=3:=by omega
 go_enter Tryz.func117,Tryz.ntmps117
 go_wp2_with fail
 go_region_held3 (fun w'=>w'.cell? ⟨W.heap.size,0,none⟩=some (.i n.op)/\w'.cell? ⟨W.heap.size,1,none⟩=some (.i n.a)/\w'.cell? ⟨W.heap.size,2,none⟩=some (.i n.b)/\w'.cell? ⟨W.heap.size,3,none⟩=some (.i n.c))
  (first|exact⟨f0,f1,f2,f3⟩|go_keep)
  ((first
   | (go_at_call 129;refine(HA.o _).mono ?_;rintro e w2 ⟨rfl,rfl⟩)))
 all_goals
  have h5:=aB.new (W.alloc (.cells (bH n) 137)) 3 (ab3 n)
  rw[wSa] at h5
  have hb5:=(aD (W.alloc (.cells (bH n) 137)) (.cells (ab3 n) 3)).drew
  have HG:=aA (h5.below (aF _))
  have HN1:=aA (HN0.o.below hb5)
  have HB1:=aA (bel HB.o hb5)
  have HS1:=aA (HS0.o.later hb5)
  clear h5 hb5 HB HN0 HS0 f0 f1 f2 f3 f4 f5 f6 f7 f8
  go_wp2_with fail
  obtain⟨V1,hV1⟩:∃ V1,((W.alloc (.cells (bH n) 137)).alloc (.cells (ab3 n) 3)).drew=V1:=⟨_,rfl⟩
  rw[hV1] at HG HN1 HB1 HS1 ⊢
  have hgl:=HG.o.lt
  clear hV1 HA
  go_loopw [5,22] (fun v i wr=>∃ j:Nat,j<=k/\i=.i j/\Hid (Ls V1 wr v (L.take j))) (fun _ i _=>k-(intOf i).toNat)
  case atStart=>exact⟨0,nZl _,rfl,aA (Ls.start V1)⟩
  case round =>
   obtain⟨j,hj,rfl,HE⟩:=hrel
   rename World=>V2
   by_cases hlt:j < k
   ·have cp:=(HG.o.below HE.o.bel).cell j (HPt.o j hlt).1
    obtain⟨p0,p1⟩:=HPr.o _ (HPt.o j hlt).2
    have HT:=aA (HSg.o j (by rw[HPl.o];exact hlt))
    obtain⟨q,hq⟩:∃ q:Nat,(dG n).getD j 0=(q:Int):=⟨((dG n).getD j 0).toNat,by omega⟩
    rw[hq] at cp p1 HT
    simp only[iTn] at p1 HT
    obtain⟨b,off,rfl,hcq⟩:∃ b off,a=some ⟨b,off,none⟩/\V2.cell? ⟨b,off+q,none⟩=some (.i (V.getD q 0)):=by
     rcases(HS1.o.later HE.o.bel).cell with h0|⟨b,off,ha,hlb,hc⟩
     ·omega
     ·exact⟨b,off,ha,hc q (by omega)⟩
    generalize V.getD q 0=sv at *
    have j0:(0:Int)<=j:=by omega
    have j1:(j:Int) < k:=by omega
    have j2:(j:Int) < 3:=by omega
    have i0:(0:Int)<=q:=by omega
    have i1:(q:Int) < sl:=by omega
    have HJ:Hid ((L.take j).length=j):=aA (by rw[lLt,HLl.o];omega)
    clear p0 p1 hq
    go_wp2_with (at_builtin;refine kL (w:=V1) (L:=L.take j) rfl _ _ rfl rfl (HE.o.alloc _) _ sv rfl (aB.new _ _ _) (by rw[HJ.o];omega) ?_;intro g2 cap2 w2 HE2;rw[HJ.o] at HE2 ⊢)
    go_roundw
    case rel=>exact⟨j+1,by omega,by go_num,aA (by rw[HT.o];exact HE2)⟩
    case measure=>simp[intOf];omega
   ·obtain rfl:j=k:=by omega
    have e:L.take j=L:=lTl (by rw[HLl.o];exact nLr _)
    have HE1:=HE.o
    rw[e] at HE1
    obtain⟨va,vc,rfl,hA,-⟩:=Knd.Ints.of_owns HE1.a
    have hLl:=HLl.o
    rw[hLl] at hA ⊢
    have HOf:=aA (Spn.kU n.op 0 0 _ _ _ _ _ hA)
    have HB2:=aA (bel HB1.o HE1.bel)
    have x0:=(HN1.o.below HE1.bel).cell 0 rfl
    obtain⟨⟨vv,er⟩,hZ⟩:∃ Z,Spn.bK n.op 0 0 L=Z:=⟨_,rfl⟩
    rw[hZ] at HOf
    have HZ:=aA hZ
    clear hZ hA e HE HE1 hLl
    go_wp2_with fail
    refine HOf.o.mono ?_
    rintro e V3 ⟨rfl,hb⟩
    have HB3:=aA (bel HB2.o hb)
    clear hb
    go_wp2_with fail
    go_ret
    exact⟨by rw[HZ.o];rfl,HB3.o⟩
end Go.Proofs.YticnbcfmbhjbgaaGreatDoor

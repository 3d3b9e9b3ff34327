import Derived.Test.YtihbhbeaihdgnaaGreatXH
import Derived.Laws.MakeOwn
import Derived.Deep.RegionWith
import Derived.Deep.RegionHeld3
import Derived.BigRegion
import Derived.Test.YtihbhbeaihdgnaaGreatX24
set_option maxRecDepth 100000
set_option maxHeartbeats 32000000
set_option linter.unusedVariables false
namespace Go.Proofs.YtihbhbeaihdgnaaGreat
open Go.RowKit Go.IntWalk Lx Pz
variable {W:World} {k:Nat} {BS:List Int}
abbrev lL (L:dM):Array Value:=(Spn.jN L).toArray
theorem kC (L:dM)(i:Nat)(h:i < L.length):(lL L)[i*2]?=some (.int .i64 (L.getD i (0,0)).1)/\(lL L)[i*2+1]?=some (.int .i64 (L.getD i (0,0)).2):=by
 unfold lL
 rw[List.getElem?_toArray,List.getElem?_toArray]
 exact Spn.sW L i h
theorem aBv (n:Nat):madeCells #[.int .i64 0,.int .i64 0] (n*2)=lL (List.replicate n (0,0)):=by
 apply Array.ext_getElem?
 intro i
 by_cases hi:i < n*2
 ·have h1:(madeCells #[.int .i64 0,.int .i64 0] (n*2))[i]?=some (.int .i64 0):=by
   unfold madeCells
   rw[Array.getElem?_map,Array.getElem?_eq_getElem (by simpa using hi)]
   simp only[Array.getElem_range,Option.map_some]
   rcases(show i % 2=0\/i % 2=1 by omega) with h|h <;> (show some ((#[Value.int .i64 0,.int .i64 0])[i % 2]!)=_;rw[h];rfl)
  rw[h1]
  obtain⟨a,b⟩:=kC (List.replicate n (0,0)) (i / 2) (by simp;omega)
  have hz:(List.replicate n ((0:Int),(0:Int))).getD (i / 2) (0,0)=(0,0):=by
   rw[List.getD_eq_getElem?_getD,List.getElem?_replicate];split <;> rfl
  rw[hz] at a b
  rcases(show i % 2=0\/i % 2=1 by omega) with h|h
  ·rw[show i=i / 2*2 by omega];exact a.symm
  ·rw[show i=i / 2*2+1 by omega];exact b.symm
 ·rw[Array.getElem?_eq_none (by rw[size_madeCells];omega),Array.getElem?_eq_none (by simp[Spn.gJ];omega)]
theorem aBx (n:Nat)(h:n<=1024)(w:World):(Instr.makeSlice 33 (.int .i64 n) (.int .i64 n)).run Tryz.prog w=.ok (.slice (some ⟨w.heap.size,0,none⟩) n n) (w.alloc (.cells (lL (List.replicate n (0,0))) 74)):=by
 obtain⟨i0,hi,hz0,hz1,hz2⟩:=Spn.info_parts Spn.aFt
 have:=run_make w 33 74 i0 _ Tryz.underlying33 hi hz0 .i64 .i64 n n (by omega) (Int.le_refl _) (by rw[hz2];omega) (by omega)
 rw[hz1] at this
 simp only[Int.toNat_natCast] at this
 have e:madeCells (Value.agg #[.int .i64 0,.int .i64 0]).cells (n*2)=lL (List.replicate n (0,0)):=aBv n
 rw[e] at this
 exact this
theorem aGh (S Z:dM)(p q:Int × Int):((lL (S++q::Z)).setIfInBounds (S.length*2) (.int .i64 p.1)).setIfInBounds (S.length*2+1) (.int .i64 p.2)=lL (S++p::Z):=by
 apply Array.toList_inj.1
 simp only[Array.toList_setIfInBounds]
 have e:∀ r:Int × Int,Spn.jN (S++r::Z)=Spn.jN S++(.int .i64 r.1::.int .i64 r.2::Spn.jN Z):=fun r=>by simp[Spn.jN]
 rw[e,e,List.set_append_right _ _ (by rw[Spn.gJ];omega),List.set_append_right _ _ (by rw[Spn.gJ];omega),Spn.gJ]
 simp
theorem pY {g:Nat}{L:dM}(h:aB W g 74 (lL L))(hl:L.length<=1024):Spn.Spans W (some ⟨g,0,none⟩) L.length L.length L:=by
 refine⟨rfl,Nat.le_refl _,by unfold maxLen;omega,(fun e=>by cases e),.inr ⟨g,0,rfl,fun i hi=>?_⟩⟩
 obtain⟨a,b⟩:=kC L i hi
 rw[Nat.zero_add]
 exact⟨h.cell (i*2) a,h.cell (i*2+1) b⟩
theorem aCe {g:Nat}{S Z:dM}{q:Int × Int}(h:aB W g 74 (lL (S++q::Z)))(hk:S.length=k)(x y:Int):aB ((W.setCell ⟨g,k*2,none⟩ (.int .i64 x)).setCell ⟨g,k*2+1,none⟩ (.int .i64 y)) g 74 (lL (S++(x,y)::Z)):=by
 subst hk
 have:=(h.set (S.length*2) (.int .i64 x)).set (S.length*2+1) (.int .i64 y)
 rwa[show ((lL (S++q::Z)).setIfInBounds (S.length*2) (.int .i64 x)).setIfInBounds (S.length*2+1) (.int .i64 y)=lL (S++(x,y)::Z) from aGh S Z (x,y) q] at this
theorem cK {S Z:dM}{i:Nat}(h:i < S.length):(S++Z).getD i (0,0)=S.getD i (0,0):=by
 rw[List.getD_eq_getElem?_getD,List.getElem?_append_left h,<-List.getD_eq_getElem?_getD]
theorem aRs {f d:Int}{S Z:dM}{n:Nd}(hn:Wn BS S.length n):qX f d BS (S++Z) n=qX f d BS S n:=by
 unfold qX
 split
 ·rename_i h4
  rw[cK (hn.use h4).2.2.2]
 ·split
  ·rfl
  ·split
   ·rfl
   ·split
    ·rfl
    ·congr 1
     apply List.map_congr_left
     intro p hp
     exact cK (hn.prt p hp).2
theorem xW {n:Nat}(h:k < n):List.replicate (n-k) ((0:Int),(0:Int))=(0,0)::List.replicate (n-(k+1)) (0,0):=by
 rw[show n-k=(n-(k+1))+1 by omega,List.replicate_succ]
theorem aAp {b r:Nat}{t:TypeId}{cs:Array Value}(h:aB W b t cs)(hr:b≠r)(x y:Value):aB ((W.setCell ⟨r,k*2,none⟩ x).setCell ⟨r,k*2+1,none⟩ y) b t cs:=(h.other (p:=⟨r,k*2,none⟩) hr x).other (p:=⟨r,k*2+1,none⟩) hr y
theorem aGk (f d:Int){n:Nd}{i sl sc:Nat}{a:Option Addr}{S:dM}(hm:Knd.May f d)(hn:Wn BS i n)(h4:n.op≠4)(hS:Spn.Spans W a sl sc S)(hi:i<=sl) :
  Calls Tryz.prog 117 #[.agg (bX f d),.agg (dY n),.slice a sl sc] W fun e W'=>e=.returned (Spn.spV (qX f d BS S n))/\Below W.heap.size W W':=by
 by_cases h:n.op=1\/n.op=2\/n.op=3
 ·exact aEs f d n hm _ ⟨_,_,_,rfl⟩ h BS S W
 ·exact aJs f d n hn (by have:=hn.lo;omega) hS hi
def SpP (w:World)(n:Nat)(Z:dM × Int)(e:Ending)(W':World):Prop :=
 (Z.2≠0/\e=.returned (.tuple #[.slice none 0 0,.int .i64 Z.2])/\Below w.heap.size w W') \/
 (Z.2=0/\∃ g,e=.returned (.tuple #[.slice (some ⟨g,0,none⟩) n n,.int .i64 0])/\w.heap.size<=g/\aB W' g 74 (lL Z.1)/\Below w.heap.size w W')
theorem aEt (f d:Int){ba da:Option Addr}{bl bc dl dc:Nat}{nv:Value}(hnv:∃ a k c,nv=.slice a k c){root:Int}{NS:List Nd}(hm:Knd.May f d)(hB:Iz W ba bl bc BS)(hN:Nz W da dl dc NS)(hw:Wl BS 0 NS)(hd:dl<=1024) :
  Calls Tryz.prog 65 #[.agg (bX f d),.agg (fC nv (.slice ba bl bc) (.slice da dl dc) (.int .i64 root))] W (SpP W dl (nX f d BS NS [])):=by
 obtain⟨a1,n1,c1,rfl⟩:=hnv
 have hmk:=aBx dl hd
 have hb1:=aC W (.cells (bX f d) 23)
 have hb2:=bel hb1 (aC (W.alloc (.cells (bX f d) 23)) (.cells (fC (.slice a1 n1 c1) (.slice ba bl bc) (.slice da dl dc) (.int .i64 root)) 55))
 have hb3:=bel hb2 (aC ((W.alloc (.cells (bX f d) 23)).alloc (.cells (fC (.slice a1 n1 c1) (.slice ba bl bc) (.slice da dl dc) (.int .i64 root)) 55)) (.cells (lL (List.replicate dl (0,0))) 74))
 have HK0:=aA (((aB.new W 23 (bX f d)).alloc (.cells (fC (.slice a1 n1 c1) (.slice ba bl bc) (.slice da dl dc) (.int .i64 root)) 55)).alloc (.cells (lL (List.replicate dl (0,0))) 74))
 have HT0:Hid (aB (((W.alloc (.cells (bX f d) 23)).alloc (.cells (fC (.slice a1 n1 c1) (.slice ba bl bc) (.slice da dl dc) (.int .i64 root)) 55)).alloc (.cells (lL (List.replicate dl (0,0))) 74)) (W.heap.size+1) 55 (fC (.slice a1 n1 c1) (.slice ba bl bc) (.slice da dl dc) (.int .i64 root))):=by
  have:=(aB.new (W.alloc (.cells (bX f d) 23)) 55 (fC (.slice a1 n1 c1) (.slice ba bl bc) (.slice da dl dc) (.int .i64 root))).alloc (.cells (lL (List.replicate dl (0,0))) 74)
  simp only[World.size_alloc] at this
  exact aA this
 have HG0:Hid (aB (((W.alloc (.cells (bX f d) 23)).alloc (.cells (fC (.slice a1 n1 c1) (.slice ba bl bc) (.slice da dl dc) (.int .i64 root)) 55)).alloc (.cells (lL (List.replicate dl (0,0))) 74)) (W.heap.size+1+1) 74 (lL (List.replicate dl (0,0)))):=by
  have:=aB.new ((W.alloc (.cells (bX f d) 23)).alloc (.cells (fC (.slice a1 n1 c1) (.slice ba bl bc) (.slice da dl dc) (.int .i64 root)) 55)) 74 (lL (List.replicate dl (0,0)))
  simp only[World.size_alloc] at this
  exact aA this
 have HB0:=aA hb3
 have HBI:=aA hB
 have HNI:=aA hN
 have HLN:=aA hN.len
 have HLB:=aA hB.len
 have HW:=aA hw
 clear hb1 hb2 hb3 hB hN hw
 go_enter Tryz.func65,Tryz.ntmps65
 go_wp2_with fail
 go_loopw [18] (fun i wr=>∃(k:Nat) (S:dM),k<=dl/\i=.int .i64 k/\Hid (nX f d BS (NS.take k) []=(S,0))/\Hid (aB wr (W.heap.size+1+1) 74 (lL (S++List.replicate (dl-k) (0,0))))/\Hid (aB wr W.heap.size 23 (bX f d))/\Hid (aB wr (W.heap.size+1) 55 (fC (.slice a1 n1 c1) (.slice ba bl bc) (.slice da dl dc) (.int .i64 root)))/\Hid (Below W.heap.size W wr)) (fun i _=>dl-(intOf i).toNat)
 case atStart=>exact⟨0,[],Nat.zero_le _,rfl,aA rfl,HG0,HK0,HT0,HB0⟩
 case round =>
  obtain⟨k,S,hk,rfl,HS,HG,HK,HT,HB⟩:=hrel
  rename World=>V
  by_cases hlt:k < dl
  ·obtain⟨g,off,rfl,hat⟩:=(HNI.o.later HB.o).at (by omega)
   obtain⟨e0,e1,e2,e3,e4,e5,e6,e7,e8⟩:=hat k hlt
   clear hat
   have hi0:(0:Int)<=k:=by omega
   have hi1:(k:Int) < dl:=by omega
   have hSl:S.length=k:=by have:=aH5 HS.o;simp at this;rw[HLN.o] at this;omega
   have HWn:=aA (aAz HW.o (by rw[HLN.o];exact hlt:k < NS.length))
   rw[Nat.zero_add] at HWn
   have HS2:=aA (aN3 (n:=NS.getD k n0) HS.o)
   rw[<-aH n0 (by rw[HLN.o];exact hlt)] at HS2
   have HSe:=aA fun(e:Int) (he:e≠0) (h:nX f d BS (NS.take (k+1)) []=([],e))=>(show nX f d BS NS []=([],e) by rw[<-List.take_append_drop (k+1) NS];exact aRt h he)
   rw[xW hlt] at HG
   obtain⟨f0,f1⟩:V.cell? ⟨W.heap.size,0,none⟩=some (.int .i64 f)/\V.cell? ⟨W.heap.size,1,none⟩=some (.int .i64 d):=⟨HK.o.cell 0 rfl,HK.o.cell 1 rfl⟩
   have x1:=HT.o.cell 1 rfl
   have hz0:W.heap.size < V.heap.size:=HK.o.lt
   have hz1:W.heap.size+1 < V.heap.size:=HT.o.lt
   have hz2:W.heap.size+1+1 < V.heap.size:=HG.o.lt
   have y0:=HG.o.frozen (k*2)
   have y1:=HG.o.frozen (k*2+1)
   generalize NS.getD k n0=n at *
   by_cases ho:n.op=4
   ·have ho1:(n.op==4)=true:=by simpa using ho
    obtain⟨u0,u1,u2,u3⟩:=HWn.o.use ho
    have hspn:qX f d BS S n=(S.getD (BS.getD n.k.toNat 0).toNat (0,0),0):=by unfold qX;rw[if_pos ho]
    rw[hspn,if_pos rfl] at HS2
    obtain⟨kk,hkk⟩:∃ kk:Nat,n.k=(kk:Int):=⟨n.k.toNat,by omega⟩
    rw[hkk] at e4 u1 u2 u3 HS2
    simp only[Int.toNat_natCast] at u1 u2 u3 HS2
    obtain⟨bb,boff,rfl,hbb,hbc⟩:∃ b off,ba=some ⟨b,off,none⟩/\b < V.heap.size/\V.cell? ⟨b,off+kk,none⟩=some (.int .i64 (BS.getD kk 0)):=by
     rcases(HBI.o.later HB.o).cell with h0|⟨b,off,ha,hlb,hc⟩
     ·rw[HLB.o] at u1;omega
     ·exact⟨b,off,ha,hlb,hc kk (by rw[<-HLB.o];exact u1)⟩
    obtain⟨q,hq⟩:∃ q:Nat,BS.getD kk 0=(q:Int):=⟨(BS.getD kk 0).toNat,by omega⟩
    rw[hq] at hbc u3 HS2
    simp only[Int.toNat_natCast] at u3 HS2
    obtain⟨s0,s1⟩:=kC (S++(0,0)::List.replicate (dl-(k+1)) (0,0)) q (by simp;omega)
    rw[cK (by rw[hSl];exact u3)] at s0 s1
    have d0:=HG.o.cell (q*2) s0
    have d1:=HG.o.cell (q*2+1) s1
    generalize S.getD q (0,0)=sv at *
    obtain⟨lo,hi⟩:=sv
    simp only at d0 d1
    have HG2:=aA ((aCe HG.o hSl lo hi).alloc (.cells #[.int .i64 n.op,.int .i64 n.a,.int .i64 n.b,.int .i64 n.c,.int .i64 kk,.int .i64 n.back,.int .i64 n.co,.int .i64 n.x,.int .i64 n.y] 93))
    have HK2:=aA ((aAp HK.o (r:=W.heap.size+1+1) (k:=k) (by omega) (.int .i64 lo) (.int .i64 hi)).alloc (.cells #[.int .i64 n.op,.int .i64 n.a,.int .i64 n.b,.int .i64 n.c,.int .i64 kk,.int .i64 n.back,.int .i64 n.co,.int .i64 n.x,.int .i64 n.y] 93))
    have HT2:=aA ((aAp HT.o (r:=W.heap.size+1+1) (k:=k) (by omega) (.int .i64 lo) (.int .i64 hi)).alloc (.cells #[.int .i64 n.op,.int .i64 n.a,.int .i64 n.b,.int .i64 n.c,.int .i64 kk,.int .i64 n.back,.int .i64 n.co,.int .i64 n.x,.int .i64 n.y] 93))
    have HB2:=aA (bel ((HB.o.setCell (p:=⟨W.heap.size+1+1,k*2,none⟩) (by simp;omega) (.int .i64 lo)).setCell (p:=⟨W.heap.size+1+1,k*2+1,none⟩) (by simp;omega) (.int .i64 hi)) (aC _ (.cells #[.int .i64 n.op,.int .i64 n.a,.int .i64 n.b,.int .i64 n.c,.int .i64 kk,.int .i64 n.back,.int .i64 n.co,.int .i64 n.x,.int .i64 n.y] 93)))
    obtain⟨ca,hca⟩:=kC (S++(0,0)::List.replicate (dl-(k+1)) (0,0)) k (by simp;omega)
    have da:=HG.o.cell (k*2) ca
    have db:=HG.o.cell (k*2+1) hca
    clear ca hca
    have w0:(kk:Int) < bl:=by have:=HLB.o;omega
    have w1:(q:Int) < dl:=by omega
    have w2:(0:Int)<=kk:=by omega
    have w3:(0:Int)<=q:=by omega
    clear s0 s1 hq u0 u1 u2 u3 hspn ho HWn HSe hmk
    go_wp2_with fail
    go_roundw
    case rel=>exact⟨k+1,S++[(lo,hi)],by omega,by go_num,aA HS2.o,aA (by rw[List.append_assoc];exact HG2.o),aA HK2.o,aA HT2.o,aA HB2.o⟩
    case measure=>simp[intOf];omega
   ·have ho1:(n.op==4)=false:=by simpa using ho
    have HSp:=aA (pY HG.o (by simp;omega))
    rw[show (S++(0,0)::List.replicate (dl-(k+1)) ((0:Int),(0:Int))).length=dl by simp;omega] at HSp
    have hl:=aC V (.cells (dY n) 93)
    have HOf:=aA (aGk f d hm HWn.o ho (HSp.o.later hl) (by omega))
    rw[aRs (by rw[hSl];exact HWn.o)] at HOf
    have HG1:=aA (HG.o.alloc (.cells (dY n) 93))
    have HK1:=aA (HK.o.alloc (.cells (dY n) 93))
    have HT1:=aA (HT.o.alloc (.cells (dY n) 93))
    have HN1:=aA (aB.new V 93 (dY n))
    have HB1:=aA (bel HB.o hl)
    obtain⟨⟨⟨lo,hi⟩,er⟩,hZ⟩:∃ Z,qX f d BS S n=Z:=⟨_,rfl⟩
    rw[hZ] at HOf HS2
    clear hZ hl ho HWn HSp hmk
    go_wp2_with fail
    refine HOf.o.mono ?_
    rintro e V1 ⟨rfl,hb⟩
    by_cases he:er=0
    ·subst he
     rw[if_pos rfl] at HS2
     have HGa:=aA (HG1.o.below hb)
     have HKa:=aA (HK1.o.below hb)
     have HTa:=aA (HT1.o.below hb)
     have HBa:=aA (bel HB1.o hb)
     have hza:=HGa.o.lt
     have ya:=HGa.o.frozen (k*2)
     have yb:=HGa.o.frozen (k*2+1)
     obtain⟨ca,hca⟩:=kC (S++(0,0)::List.replicate (dl-(k+1)) (0,0)) k (by simp;omega)
     have da:=HGa.o.cell (k*2) ca
     have db:=HGa.o.cell (k*2+1) hca
     have HG2:=aA ((aCe HGa.o hSl lo hi).alloc (.cells #[.int .i64 lo,.int .i64 hi] 74))
     have HK2:=aA ((aAp HKa.o (r:=W.heap.size+1+1) (k:=k) (by omega) (.int .i64 lo) (.int .i64 hi)).alloc (.cells #[.int .i64 lo,.int .i64 hi] 74))
     have HT2:=aA ((aAp HTa.o (r:=W.heap.size+1+1) (k:=k) (by omega) (.int .i64 lo) (.int .i64 hi)).alloc (.cells #[.int .i64 lo,.int .i64 hi] 74))
     have HB2:=aA (bel ((HBa.o.setCell (p:=⟨W.heap.size+1+1,k*2,none⟩) (by simp;omega) (.int .i64 lo)).setCell (p:=⟨W.heap.size+1+1,k*2+1,none⟩) (by simp;omega) (.int .i64 hi)) (aC _ (.cells #[.int .i64 lo,.int .i64 hi] 74)))
     clear hb HG1 HK1 HT1 HB1 HN1 HG HK HT HB HOf e0 e1 e2 e3 e4 e5 e6 e7 e8 ca hca f0 f1 x1 y0 y1 HSe
     go_wp2_with fail
     go_roundw
     case rel=>exact⟨k+1,S++[(lo,hi)],by omega,by go_num,aA HS2.o,aA (by rw[List.append_assoc];exact HG2.o),aA HK2.o,aA HT2.o,aA HB2.o⟩
     case measure=>simp[intOf];omega
    ·rw[if_neg he] at HS2
     have hne:(er != 0)=true:=by simpa using he
     have HF:=aA (HSe.o er he HS2.o)
     have HBa:=aA (bel HB1.o hb)
     clear hb
     have HE:=aA he
     clear he
     go_wp2_with fail
     exact bodyPost_ret (v:=.tuple #[.slice none 0 0,.int .i64 er]) (by simp[results,Tryz.results65,go_sem]) rfl (.inl (by rw[HF.o];exact⟨HE.o,rfl,bel HBa.o (aC _ _)⟩))
  ·obtain rfl:k=dl:=by omega
   have e:NS.take k=NS:=List.take_of_length_le (by rw[HLN.o];exact Nat.le_refl _)
   have hZ:=HS.o
   rw[e] at hZ
   have HZ:=aA hZ
   have HG1:=aA HG.o
   rw[Nat.sub_self,List.replicate_zero,List.append_nil] at HG1
   clear hZ
   go_wp2_with fail
   exact bodyPost_ret (v:=.tuple #[.slice (some ⟨W.heap.size+1+1,0,none⟩) k k,.int .i64 0]) (by simp[results,Tryz.results65,go_sem]) rfl (.inr (by rw[HZ.o];exact⟨rfl,_,rfl,by omega,HG1.o,HB.o⟩))
end Go.Proofs.YtihbhbeaihdgnaaGreat
namespace Go.Proofs.YtihbhbeaihdgnaaGreat
open Go.RowKit Go.IntWalk Lx Pz
theorem wK (o:Int)(W:World):Calls Tryz.prog 79 #[.int .i64 o] W fun e W'=>e=.returned (.int .i64 (jE o))/\W'=W:=by
 by_cases h1:o=4
 ·subst h1
  go_enter Tryz.func79,Tryz.ntmps79
  go_wp2
  go_ret
  exact⟨rfl,rfl⟩
 by_cases h2:o=11
 ·subst h2
  go_enter Tryz.func79,Tryz.ntmps79
  go_wp2
  go_ret
  exact⟨rfl,rfl⟩
 by_cases h3:o=12
 ·subst h3
  go_enter Tryz.func79,Tryz.ntmps79
  go_wp2
  go_ret
  exact⟨rfl,rfl⟩
 have e:jE o=1:=by unfold jE;rw[if_neg h1,if_neg h2,if_neg h3]
 rw[e]
 have e1:(o==4)=false:=by simpa using h1
 have e2:(o==11)=false:=by simpa using h2
 have e3:(o==12)=false:=by simpa using h3
 clear h1 h2 h3 e
 go_enter Tryz.func79,Tryz.ntmps79
 go_wp2
 go_ret
 exact⟨rfl,rfl⟩
theorem aFd {W:World}{da:Option Addr}{dl dc:Nat}{NS:List Nd}(hN:Nz W da dl dc NS)(hd:dl<=1024) :
  Calls Tryz.prog 66 #[.slice da dl dc] W fun e W'=>e=.returned (.int .i64 (vK NS))/\Below W.heap.size W W':=by
 have HNI:=aA hN
 have HLN:=aA hN.len
 clear hN
 go_enter Tryz.func66,Tryz.ntmps66
 go_wp2_with fail
 go_loopw [3,8] (fun s i wr=>∃(k:Nat) (c:Int),k<=dl/\i=.int .i64 k/\s=.int .i64 c/\0<=c/\c<=6*k/\Hid (c=vK (NS.take k))/\Hid (Below W.heap.size W wr)) (fun _ i _=>dl-(intOf i).toNat)
 case atStart=>exact⟨0,0,Nat.zero_le _,rfl,rfl,Int.le_refl _,Int.le_refl _,aA rfl,aA (Below.refl _ _)⟩
 case round =>
  obtain⟨k,c,hk,rfl,rfl,hc0,hc6,HC,HB⟩:=hrel
  rename World=>V
  by_cases hlt:k < dl
  ·obtain⟨g,off,rfl,hat⟩:=(HNI.o.later HB.o).at (by omega)
   obtain⟨e0,e1,e2,e3,e4,e5,e6,e7,e8⟩:=hat k hlt
   clear hat
   have hi0:(0:Int)<=k:=by omega
   have hi1:(k:Int) < dl:=by omega
   have HC2:=aA (show c+jE (NS.getD k n0).op=vK (NS.take (k+1)) by rw[aH n0 (by rw[HLN.o];exact hlt),oD,HC.o])
   obtain⟨z0,z6⟩:=aTc (NS.getD k n0).op
   generalize NS.getD k n0=n at *
   go_wp2_with fail
   refine(wK _ _).mono ?_
   rintro e V1 ⟨rfl,rfl⟩
   generalize jE n.op=z at *
   go_wp2_with fail
   go_roundw
   case rel=>exact⟨k+1,c+z,by omega,by go_num,by go_num,by omega,by omega,aA HC2.o,aA (bel HB.o (aC _ _))⟩
   case measure=>simp[intOf];omega
  ·obtain rfl:k=dl:=by omega
   go_wp2_with fail
   go_ret
   have e:NS.take k=NS:=List.take_of_length_le (by rw[HLN.o];exact Nat.le_refl _)
   exact⟨aN (show c=vK NS by rw[HC.o,e]),HB.o⟩
theorem aDu (D:List Int)(k:Nat)(hk:k < D.length):(D.take (k+1)).foldl max 0=max ((D.take k).foldl max 0) (D.getD k 0):=by
 rw[aH 0 hk,List.foldl_append];rfl
theorem aNz {W:World}{a:Option Addr}{n cap:Nat}{D:List Int}(hD:Iz W a n cap D)(hn:1<=n)(h1:∀ x ∈ D,1<=x) :
  Calls Tryz.prog 67 #[.slice a n cap] W fun e W'=>e=.returned (.int .i64 (mxR D))/\W'=W:=by
 have hm:n<=9223372036854775807:=by have:=hD.le;have:=hD.max;unfold maxLen at *;omega
 obtain⟨b,off,rfl,hc⟩:∃ b off,a=some ⟨b,off,none⟩/\∀ i,i < n->W.cell? ⟨b,off+i,none⟩=some (.int .i64 (D.getD i 0)):=by
  rcases hD.cell with h0|⟨b,off,ha,-,hc⟩
  ·omega
  ·exact⟨b,off,ha,hc⟩
 have HLN:=aA hD.len
 have c0:=hc 0 (by omega)
 rw[Nat.add_zero] at c0
 have hi0:(1:Int)<=n:=by omega
 have hi1:(0:Int) < n:=by omega
 have H0:=aA (show D.getD 0 0=(D.take 1).foldl max 0 by
  have h2:=aDu D 0 (by rw[hD.len];omega)
  have h3:1<=D.getD 0 0:=by
   rw[List.getD_eq_getElem?_getD,List.getElem?_eq_getElem (by rw[hD.len];omega)]
   exact h1 _ (List.getElem_mem _)
  rw[h2]
  simp only[List.take_zero,List.foldl_nil]
  omega)
 have HC:=aA hc
 clear hc hD h1
 generalize D.getD 0 0=d0 at *
 go_enter Tryz.func67,Tryz.ntmps67
 go_wp2_with fail
 go_loop [3,4] (fun m i=>∃(k:Nat) (c:Int),1<=k/\k<=n/\i=.int .i64 k/\m=.int .i64 c/\Hid (c=(D.take k).foldl max 0)) (fun _ i=>n-(intOf i).toNat)
 case atStart=>exact⟨1,d0,Nat.le_refl _,hn,rfl,rfl,H0⟩
 case round =>
  obtain⟨k,c,hk1,hk,rfl,rfl,HM⟩:=hrel
  by_cases hlt:k < n
  ·have c1:=HC.o k hlt
   have j0:(0:Int)<=k:=by omega
   have j1:(k:Int) < n:=by omega
   have HM2:=aA (show max c (D.getD k 0)=(D.take (k+1)).foldl max 0 by rw[aDu D k (by rw[HLN.o];exact hlt),HM.o])
   generalize D.getD k 0=x at *
   go_wp2_with fail
   go_round
   case rel=>exact⟨k+1,max c x,by omega,by omega,by go_num,rfl,HM2⟩
   case measure=>simp[intOf];omega
  ·obtain rfl:k=n:=by omega
   go_wp2_with fail
   go_ret
   have e:D.take k=D:=List.take_of_length_le (by rw[HLN.o];exact Nat.le_refl _)
   exact⟨aN (show c=mxR D by rw[HM.o,e];rfl),rfl⟩
abbrev xC (L:List Int):Array Value:=(jT L).toArray
theorem aTt:(Tryz.prog.info? 3).map (fun i=>(i.zero,i.size,i.bytes))=some (some (.int .i64 0),1,8):=by kernel_rfl
theorem eQ (L:List Int)(i:Nat)(h:i < L.length):(xC L)[i]?=some (.int .i64 (L.getD i 0)):=by
 unfold xC
 rw[List.getElem?_toArray,List.getElem?_map,List.getD_eq_getElem?_getD,List.getElem?_eq_getElem h]
 rfl
theorem aQe (n:Nat):madeCells #[.int .i64 0] (n*1)=xC (List.replicate n 0):=by
 apply Array.ext_getElem?
 intro i
 by_cases hi:i < n
 ·rw[eQ _ _ (by simpa using hi)]
  unfold madeCells
  rw[Array.getElem?_map,Array.getElem?_eq_getElem (by simpa using hi)]
  have hz:(List.replicate n (0:Int)).getD i 0=0:=by
   rw[List.getD_eq_getElem?_getD,List.getElem?_replicate];split <;> rfl
  rw[hz]
  simp only[Array.getElem_range,Option.map_some]
  show some ((#[Value.int .i64 0])[i % 1]!)=_
  rw[Nat.mod_one]
  rfl
 ·rw[Array.getElem?_eq_none (by rw[size_madeCells];omega),Array.getElem?_eq_none (by simp;omega)]
theorem sK (n:Nat)(h:n<=1024)(w:World):(Instr.makeSlice 42 (.int .i64 n) (.int .i64 n)).run Tryz.prog w=.ok (.slice (some ⟨w.heap.size,0,none⟩) n n) (w.alloc (.cells (xC (List.replicate n 0)) 3)):=by
 obtain⟨i0,hi,hz0,hz1,hz2⟩:=Spn.info_parts aTt
 have:=run_make w 42 3 i0 _ Tryz.underlying42 hi hz0 .i64 .i64 n n (by omega) (Int.le_refl _) (by rw[hz2];omega) (by omega)
 rw[hz1] at this
 simp only[Int.toNat_natCast] at this
 have e:madeCells (Value.int .i64 0).cells (n*1)=xC (List.replicate n 0):=aQe n
 rw[e] at this
 exact this
theorem aCd {W:World}{g k:Nat}{D Z:List Int}{q:Int}(h:aB W g 3 (xC (D++q::Z)))(hk:D.length=k)(x:Int):aB (W.setCell ⟨g,k,none⟩ (.int .i64 x)) g 3 (xC (D++x::Z)):=by
 subst hk
 have:=h.set D.length (.int .i64 x)
 have e:(xC (D++q::Z)).setIfInBounds D.length (.int .i64 x)=xC (D++x::Z):=by
  apply Array.toList_inj.1
  simp only[Array.toList_setIfInBounds,List.map_append,List.map_cons]
  rw[List.set_append_right _ _ (by simp)]
  simp
 rwa[e] at this
theorem aFk {W:World}{g:Nat}{L:List Int}(h:aB W g 3 (xC L))(hl:L.length<=1024):Iz W (some ⟨g,0,none⟩) L.length L.length L:=by
 refine⟨rfl,Nat.le_refl _,by unfold maxLen;omega,.inr ⟨g,0,rfl,h.lt,fun i hi=>?_⟩⟩
 rw[Nat.zero_add]
 exact h.cell i (eQ L i hi)
theorem kM {S Z:List Int}{i:Nat}(h:i < S.length):(S++Z).getD i 0=S.getD i 0:=by
 rw[List.getD_eq_getElem?_getD,List.getElem?_append_left h,<-List.getD_eq_getElem?_getD]
theorem uG {n k:Nat}(h:k < n):List.replicate (n-k) (0:Int)=0::List.replicate (n-(k+1)) 0:=by
 rw[show n-k=(n-(k+1))+1 by omega,List.replicate_succ]
theorem aPd {D:List Int}{n:Nd}{k:Nat}(hk:k < (bV n).length):(((bV n).map fun p=>D.getD p.toNat 0).take (k+1)).foldl max 0=max ((((bV n).map fun p=>D.getD p.toNat 0).take k).foldl max 0) (D.getD ((bV n).getD k 0).toNat 0):=by
 rw[aH 0 (by simpa using hk),List.foldl_append]
 have e:((bV n).map fun p=>D.getD p.toNat 0).getD k 0=D.getD ((bV n).getD k 0).toNat 0:=by
  simp[List.getD_eq_getElem?_getD,List.getElem?_map,List.getElem?_eq_getElem hk]
 rw[e]
 rfl
theorem aK2 (BS:List Int)(A:List Nd)(n:Nd)(D:List Int):tK BS (A++[n]) D=tK BS A D++[dpN BS (tK BS A D) n]:=by
 rw[aG8];rfl
theorem aH8 {BS:List Int}{NS:List Nd}{s:Nat}(h:Wl BS s NS)(k:Nat):Wl BS s (NS.take k):=by
 rw[<-List.take_append_drop k NS,mD] at h
 exact h.1
def DpP (w:World)(n:Nat)(D:List Int)(e:Ending)(W':World):Prop :=
 ∃ g,e=.returned (.slice (some ⟨g,0,none⟩) n n)/\aB W' g 3 (xC D)/\Below w.heap.size w W'
theorem aBe {W:World}{ba da:Option Addr}{bl bc dl dc:Nat}{nv:Value}(hnv:∃ a k c,nv=.slice a k c){root:Int}{BS:List Int}{NS:List Nd}(hB:Iz W ba bl bc BS)(hN:Nz W da dl dc NS)(hw:Wl BS 0 NS)(hd:dl<=1024) :
  Calls Tryz.prog 68 #[.agg (fC nv (.slice ba bl bc) (.slice da dl dc) (.int .i64 root))] W (DpP W dl (tK BS NS [])):=by
 obtain⟨a1,n1,c1,rfl⟩:=hnv
 have hmk:=sK dl hd
 have hb1:=aC W (.cells (fC (.slice a1 n1 c1) (.slice ba bl bc) (.slice da dl dc) (.int .i64 root)) 55)
 have hb2:=bel hb1 (aC (W.alloc (.cells (fC (.slice a1 n1 c1) (.slice ba bl bc) (.slice da dl dc) (.int .i64 root)) 55)) (.cells (xC (List.replicate dl 0)) 3))
 have HT0:=aA ((aB.new W 55 (fC (.slice a1 n1 c1) (.slice ba bl bc) (.slice da dl dc) (.int .i64 root))).alloc (.cells (xC (List.replicate dl 0)) 3))
 have HG0:Hid (aB ((W.alloc (.cells (fC (.slice a1 n1 c1) (.slice ba bl bc) (.slice da dl dc) (.int .i64 root)) 55)).alloc (.cells (xC (List.replicate dl 0)) 3)) (W.heap.size+1) 3 (xC (List.replicate dl 0))):=by
  have:=aB.new (W.alloc (.cells (fC (.slice a1 n1 c1) (.slice ba bl bc) (.slice da dl dc) (.int .i64 root)) 55)) 3 (xC (List.replicate dl 0))
  simp only[World.size_alloc] at this
  exact aA this
 have HB0:=aA hb2
 have HBI:=aA hB
 have HNI:=aA hN
 have HLN:=aA hN.len
 have HLB:=aA hB.len
 have HW:=aA hw
 clear hb1 hb2 hB hN hw
 go_enter Tryz.func68,Tryz.ntmps68
 go_wp2_with fail
 go_loopw [16] (fun i wr=>∃(k:Nat) (D:List Int),k<=dl/\i=.int .i64 k/\Hid (tK BS (NS.take k) []=D)/\Hid (aB wr (W.heap.size+1) 3 (xC (D++List.replicate (dl-k) 0)))/\Hid (aB wr W.heap.size 55 (fC (.slice a1 n1 c1) (.slice ba bl bc) (.slice da dl dc) (.int .i64 root)))/\Hid (Below W.heap.size W wr)) (fun i _=>dl-(intOf i).toNat)
 case atStart=>exact⟨0,[],Nat.zero_le _,rfl,aA rfl,HG0,HT0,HB0⟩
 case round =>
  obtain⟨k,D,hk,rfl,HD,HG,HT,HB⟩:=hrel
  rename World=>V
  by_cases hlt:k < dl
  ·obtain⟨g,off,rfl,hat⟩:=(HNI.o.later HB.o).at (by omega)
   obtain⟨e0,e1,e2,e3,e4,e5,e6,e7,e8⟩:=hat k hlt
   clear hat
   have hi0:(0:Int)<=k:=by omega
   have hi1:(k:Int) < dl:=by omega
   have hDl:D.length=k:=by rw[<-HD.o,aBf];simp;rw[HLN.o];omega
   have HDb:Hid (Db D):=aA (by rw[<-HD.o];exact Db.all (fun x hx=>by simp at hx) (aH8 HW.o k))
   have HWn:=aA (aAz HW.o (by rw[HLN.o];exact hlt:k < NS.length))
   rw[Nat.zero_add] at HWn
   have HD2:=aA (aK2 BS (NS.take k) (NS.getD k n0) [])
   rw[<-aH n0 (by rw[HLN.o];exact hlt),HD.o] at HD2
   rw[uG hlt] at HG
   have x1:=HT.o.cell 1 rfl
   have hz0:W.heap.size < V.heap.size:=HT.o.lt
   have hz1:W.heap.size+1 < V.heap.size:=HG.o.lt
   have y0:=HG.o.frozen k
   generalize NS.getD k n0=n at *
   by_cases ho:n.op=4
   ·have ho1:(n.op==4)=true:=by simpa using ho
    obtain⟨u0,u1,u2,u3⟩:=HWn.o.use ho
    have hdpn:dpN BS D n=D.getD (BS.getD n.k.toNat 0).toNat 0:=by unfold dpN;rw[if_pos ho]
    rw[hdpn] at HD2
    obtain⟨kk,hkk⟩:∃ kk:Nat,n.k=(kk:Int):=⟨n.k.toNat,by omega⟩
    rw[hkk] at e4 u1 u2 u3 HD2
    simp only[Int.toNat_natCast] at u1 u2 u3 HD2
    obtain⟨bb,boff,rfl,hbb,hbc⟩:∃ b off,ba=some ⟨b,off,none⟩/\b < V.heap.size/\V.cell? ⟨b,off+kk,none⟩=some (.int .i64 (BS.getD kk 0)):=by
     rcases(HBI.o.later HB.o).cell with h0|⟨b,off,ha,hlb,hc⟩
     ·rw[HLB.o] at u1;omega
     ·exact⟨b,off,ha,hlb,hc kk (by rw[<-HLB.o];exact u1)⟩
    obtain⟨q,hq⟩:∃ q:Nat,BS.getD kk 0=(q:Int):=⟨(BS.getD kk 0).toNat,by omega⟩
    rw[hq] at hbc u3 HD2
    simp only[Int.toNat_natCast] at u3 HD2
    have s0:=eQ (D++0::List.replicate (dl-(k+1)) 0) q (by simp;omega)
    rw[kM (by rw[hDl];exact u3)] at s0
    have d0:=HG.o.cell q s0
    generalize D.getD q 0=x at *
    have HG2:=aA ((aCd HG.o hDl x).alloc (.cells #[.int .i64 n.op,.int .i64 n.a,.int .i64 n.b,.int .i64 n.c,.int .i64 kk,.int .i64 n.back,.int .i64 n.co,.int .i64 n.x,.int .i64 n.y] 93))
    have HT2:=aA ((HT.o.other (p:=⟨W.heap.size+1,k,none⟩) (by simp) (.int .i64 x)).alloc (.cells #[.int .i64 n.op,.int .i64 n.a,.int .i64 n.b,.int .i64 n.c,.int .i64 kk,.int .i64 n.back,.int .i64 n.co,.int .i64 n.x,.int .i64 n.y] 93))
    have HB2:=aA (bel (HB.o.setCell (p:=⟨W.heap.size+1,k,none⟩) (by simp) (.int .i64 x)) (aC _ (.cells #[.int .i64 n.op,.int .i64 n.a,.int .i64 n.b,.int .i64 n.c,.int .i64 kk,.int .i64 n.back,.int .i64 n.co,.int .i64 n.x,.int .i64 n.y] 93)))
    have da:=HG.o.cell k (eQ _ k (by simp;omega))
    have w0:(kk:Int) < bl:=by have:=HLB.o;omega
    have w1:(q:Int) < dl:=by omega
    have w2:(0:Int)<=kk:=by omega
    have w3:(0:Int)<=q:=by omega
    clear s0 hq u0 u1 u2 u3 hdpn ho HWn hmk HDb
    go_wp2_with fail
    go_roundw
    case rel=>exact⟨k+1,D++[x],by omega,by go_num,aA HD2.o,aA (by rw[List.append_assoc];exact HG2.o),aA HT2.o,aA HB2.o⟩
    case measure=>simp[intOf];omega
   ·have ho1:(n.op==4)=false:=by simpa using ho
    have HW2:=HWn.o
    obtain⟨ar,har⟩:∃ ar:Nat,gN n.op=ar:=⟨(gN n.op).toNat,by have:=HW2.pr;omega⟩
    have h3:ar<=3:=by
     have:gN n.op<=3:=by unfold gN mE;repeat' split <;> omega
     omega
    have HPt:=aA fun j hj=>aCb (n:=n) (j:=j) har h3 hj
    have HPl:=aA (sQ har h3)
    have HPr:=aA HW2.prt
    have HSg:=aA fun j hj=>aPd (D:=D) (n:=n) (k:=j) hj
    have hdpn:dpN BS D n=((bV n).map fun p=>D.getD p.toNat 0).foldl max 0+1:=by unfold dpN;rw[if_neg ho]
    have hin:=aK1 HDb.o (by rw[hDl];exact HW2)
    rw[hdpn] at HD2 hin
    obtain⟨L,hL⟩:∃ L,((bV n).map fun p=>D.getD p.toNat 0)=L:=⟨_,rfl⟩
    have HLl:Hid (L.length=ar):=aA (by rw[<-hL,List.length_map,HPl.o])
    have HLb:Hid (∀ j,0<=(L.take j).foldl max 0/\(L.take j).foldl max 0<=1024):=aA fun j=>⟨lH _ _,oG _ _ _ (by omega) fun x hx=>by
     have:=sM L 0 x (List.mem_of_mem_take hx)
     rw[<-hL] at this
     omega⟩
    rw[hL] at HSg HD2
    have HPO:=aA (uW n ar (by rw[HW2.ar ho,har]) h3 (V.alloc (.cells (dY n) 93)))
    have hl:=aC V (.cells (dY n) 93)
    have HG1:=aA (HG.o.alloc (.cells (dY n) 93))
    have HT1:=aA (HT.o.alloc (.cells (dY n) 93))
    have HB1:=aA (bel HB.o hl)
    clear hl hL hdpn har HW2 HWn ho hin HDb hmk
    go_wp2_with fail
    refine HPO.o.mono ?_
    rintro e V1 ⟨gp,rfl,-,hGp,hb⟩
    have HGp:=aA hGp
    have HGa:=aA (HG1.o.below hb)
    have HTa:=aA (HT1.o.below hb)
    have HBa:=aA (bel HB1.o hb)
    have hza:=HGa.o.lt
    have ya:=HGa.o.frozen k
    have da:=HGa.o.cell k (eQ _ k (by simp;omega))
    clear hb hGp HG1 HT1 HB1 HPO HG HT HB e0 e1 e2 e3 e4 e5 e6 e7 e8 x1 y0
    go_wp2_with fail
    go_loop [6,39] (fun m i=>∃ j:Nat,j<=ar/\i=.int .i64 j/\m=.int .i64 ((L.take j).foldl max 0)) (fun _ i=>ar-(intOf i).toNat)
    case atStart=>exact⟨0,Nat.zero_le _,rfl,rfl⟩
    case round =>
     obtain⟨j,hj,rfl,rfl⟩:=hrel
     by_cases hlj:j < ar
     ·have cp:=HGp.o.cell j (HPt.o j hlj).1
      obtain⟨p0,p1⟩:=HPr.o _ (HPt.o j hlj).2
      have HTt:=aA (HSg.o j (by rw[HPl.o];exact hlj))
      obtain⟨q,hq⟩:∃ q:Nat,(bV n).getD j 0=(q:Int):=⟨((bV n).getD j 0).toNat,by omega⟩
      rw[hq] at cp p1 HTt
      simp only[Int.toNat_natCast] at p1 HTt
      have s0:=eQ (D++0::List.replicate (dl-(k+1)) 0) q (by simp;omega)
      rw[kM (by rw[hDl];exact p1)] at s0
      have d0:=HGa.o.cell q s0
      generalize D.getD q 0=x at *
      have j0:(0:Int)<=j:=by omega
      have j1:(j:Int) < ar:=by omega
      have i0:(0:Int)<=q:=by omega
      have i1:(q:Int) < dl:=by omega
      clear s0 p0 p1 hq
      generalize (L.take j).foldl max 0=mm at *
      go_wp2_with fail
      go_round
      case rel=>exact⟨j+1,by omega,by go_num,by rw[HTt.o]⟩
      case measure=>simp[intOf];omega
     ·obtain rfl:j=ar:=by omega
      have e:L.take j=L:=List.take_of_length_le (by rw[HLl.o];exact Nat.le_refl _)
      obtain⟨b0,b1⟩:=HLb.o j
      rw[e] at b0 b1 ⊢
      generalize L.foldl max 0=mm at *
      have HG2:=aA (aCd HGa.o hDl (mm+1))
      have HT2:=aA (HTa.o.other (p:=⟨W.heap.size+1,k,none⟩) (by simp) (.int .i64 (mm+1)))
      have HB2:=aA (HBa.o.setCell (p:=⟨W.heap.size+1,k,none⟩) (by simp) (.int .i64 (mm+1)))
      go_wp2_with fail
      go_roundw
      case rel=>exact⟨k+1,D++[mm+1],by omega,by go_num,aA HD2.o,aA (by rw[List.append_assoc];exact HG2.o),aA HT2.o,aA HB2.o⟩
      case measure=>simp[intOf];omega
  ·obtain rfl:k=dl:=by omega
   have e:NS.take k=NS:=List.take_of_length_le (by rw[HLN.o];exact Nat.le_refl _)
   have hZ:=HD.o
   rw[e] at hZ
   have HZ:=aA hZ
   have HG1:=aA HG.o
   rw[Nat.sub_self,List.replicate_zero,List.append_nil] at HG1
   clear hZ
   go_wp2_with fail
   go_ret
   rw[HZ.o]
   exact⟨_,rfl,HG1.o,HB.o⟩
end Go.Proofs.YtihbhbeaihdgnaaGreat

import Derived.Test.YtihbhbeaihdgnaaGreatXH
import Derived.BigRegion
import Derived.Test.YtihbhbeaihdgnaaGreatX26
import Derived.Test.YtihbhbeaihdgnaaGreatX09
import Derived.Test.YtihbhbeaihdgnaaGreatX08
import Derived.Test.YtihbhbeaihdgnaaGreatX11
import Derived.Test.YtihbhbeaihdgnaaGreatX24
import Derived.Test.YtihbhbeaihdgnaaGreatX19
set_option maxRecDepth 100000
set_option maxHeartbeats 32000000
set_option linter.unusedVariables false
namespace Go.Proofs.YtihbhbeaihdgnaaGreat
open Go.RowKit Go.IntWalk Lx Pz
variable {W:World} {BS D:List Int} {d f root:Int}
structure Bx (W V:World)(g:Nat)(kd tr wd:Array Value)(D:List Int):Prop where
 k:aB V W.heap.size 23 kd
 t:aB V (W.heap.size+1) 55 tr
 w:aB V (W.heap.size+1+1) 44 wd
 c:aB V g 3 (xC D)
 hg:W.heap.size+1+1 < g
 lo:Below W.heap.size W V
theorem Bx.below {W V V':World}{g:Nat}{kd tr wd:Array Value}{D:List Int}(h:Bx W V g kd tr wd D)(hb:Below V.heap.size V V'):Bx W V' g kd tr wd D :=
 ⟨h.k.below hb,h.t.below hb,h.w.below hb,h.c.below hb,h.hg,bel h.lo hb⟩
theorem Bx.put {V:World}{g i:Nat}{kd tr wd:Array Value}{Z:List Int}{q:Int}(h:Bx W V g kd tr wd (D++q::Z))(hk:D.length=i)(x:Int):Bx W (V.setCell ⟨g,i,none⟩ (.int .i64 x)) g kd tr wd (D++x::Z):=by
 have hg:=h.hg
 exact⟨h.k.other (p:=⟨g,i,none⟩) (by simp;omega) _,h.t.other (p:=⟨g,i,none⟩) (by simp;omega) _,h.w.other (p:=⟨g,i,none⟩) (by simp;omega) _,aCd h.c hk x,hg,h.lo.setCell (p:=⟨g,i,none⟩) (by simp;omega) _⟩
def AlP (w:World)(f d:Int)(v:Wd)(NM:List aR)(BS:List Int)(NS:List Nd)(root:Int)(e:Ending)(W':World):Prop :=
 (wR f d v NM BS NS root≠0/\e=.returned (.tuple #[.slice none 0 0,.int .i64 (wR f d v NM BS NS root)])/\Below w.heap.size w W') \/
 (wR f d v NM BS NS root=0/\∃ g,e=.returned (.tuple #[.slice (some ⟨g,0,none⟩) NS.length NS.length,.int .i64 0])/\w.heap.size<=g/\aB W' g 3 (xC (vaR f d v BS NS []))/\Below w.heap.size w W')
theorem aMm {v:Wd}{p:Knd.Plc}(hF:Fits f d v){q:Nat}(hq:Knd.lV f d p=some q):q < v.ps.length:=by
 have h1:=Knd.kH f d
 have h2:=aBr _ _ _ (by omega) q hq
 have h3:=Knd.aEb f d
 have h4:=hF.2.1
 omega
theorem wG {NM:List aR}{NS:List Nd}(h:nD f d NM BS NS root=0){n:Nd}(hn:n ∈ NS)(h3:n.op=3):∃ q,Knd.lV f d (jJ n)=some q:=by
 unfold nD at h
 split at h
 ·cases h
 split at h
 ·cases h
 split at h
 ·cases h
 rename_i h1
 cases hq:Knd.lV f d (jJ n) with
 | some q=>exact⟨q,rfl⟩
 | none =>
  exfalso
  apply h1
  rw[List.any_eq_true]
  exact⟨n,hn,by unfold ahB;rw[hq,h3];rfl⟩
theorem jG {NM:List aR}{NS:List Nd}(h:nD f d NM BS NS root=0):qD NM BS NS root=true:=by
 unfold nD at h
 split at h
 ·cases h
 split at h
 ·cases h
 ·rename_i h1;simpa using h1
theorem aLg {NS:List Nd}{i:Nat}(h:i < NS.length):NS.getD i n0 ∈ NS:=by
 rw[List.getD_eq_getElem?_getD,List.getElem?_eq_getElem h];exact List.getElem_mem h
theorem aQw {Z:List Int}{n:Nd}(hn:Wn BS D.length n):opV (D++Z) n=opV D n:=by
 unfold opV
 congr 2
 apply List.map_congr_left
 intro p hp
 exact kM (hn.prt p hp).2
theorem aOk (f d:Int)(v:Wd){na ba da pa:Option Addr}{nl nc bl bc dl dc pl pc:Nat}{NM:List aR}{NS:List Nd}(hX:Tx W na nl nc NM)(hB:Iz W ba bl bc BS)(hN:Nz W da dl dc NS)(hs:∀ s ∈ NM,s.length<=9223372036854775807)(hP:Knd.Ints W pa pl pc v.ps) :
  Calls Tryz.prog 37 #[.agg (bX f d),.agg (fC (.slice na nl nc) (.slice ba bl bc) (.slice da dl dc) (.int .i64 root)),.agg (fD v pa pl pc)] W (AlP W f d v NM BS NS root):=by
 have hb1:=aC W (.cells (bX f d) 23)
 have hb2:=bel hb1 (aC (W.alloc (.cells (bX f d) 23)) (.cells (fC (.slice na nl nc) (.slice ba bl bc) (.slice da dl dc) (.int .i64 root)) 55))
 have hb3:=bel hb2 (aC ((W.alloc (.cells (bX f d) 23)).alloc (.cells (fC (.slice na nl nc) (.slice ba bl bc) (.slice da dl dc) (.int .i64 root)) 55)) (.cells (fD v pa pl pc) 44))
 have HK0:=aA (((aB.new W 23 (bX f d)).alloc (.cells (fC (.slice na nl nc) (.slice ba bl bc) (.slice da dl dc) (.int .i64 root)) 55)).alloc (.cells (fD v pa pl pc) 44))
 have HT0:Hid (aB (((W.alloc (.cells (bX f d) 23)).alloc (.cells (fC (.slice na nl nc) (.slice ba bl bc) (.slice da dl dc) (.int .i64 root)) 55)).alloc (.cells (fD v pa pl pc) 44)) (W.heap.size+1) 55 (fC (.slice na nl nc) (.slice ba bl bc) (.slice da dl dc) (.int .i64 root))):=by
  have:=(aB.new (W.alloc (.cells (bX f d) 23)) 55 (fC (.slice na nl nc) (.slice ba bl bc) (.slice da dl dc) (.int .i64 root))).alloc (.cells (fD v pa pl pc) 44)
  simp only[World.size_alloc] at this
  exact aA this
 have HW0:Hid (aB (((W.alloc (.cells (bX f d) 23)).alloc (.cells (fC (.slice na nl nc) (.slice ba bl bc) (.slice da dl dc) (.int .i64 root)) 55)).alloc (.cells (fD v pa pl pc) 44)) (W.heap.size+1+1) 44 (fD v pa pl pc)):=by
  have:=aB.new ((W.alloc (.cells (bX f d) 23)).alloc (.cells (fC (.slice na nl nc) (.slice ba bl bc) (.slice da dl dc) (.int .i64 root)) 55)) 44 (fD v pa pl pc)
  simp only[World.size_alloc] at this
  exact aA this
 have HB0:=aA hb3
 have HCk:=aA (kI f d (root:=root) (hX.later hb3) (hB.later hb3) (hN.later hb3) hs)
 have HBI:=aA hB
 have HNI:=aA hN
 have HPI:=aA hP
 have HLN:=aA hN.len
 have HLB:=aA hB.len
 have HLP:=aA hP.len
 clear hb1 hb2 hb3 hX hB hN hP
 go_enter Tryz.func37,Tryz.ntmps37
 go_wp2_with fail
 refine HCk.o.mono ?_
 rintro e V1 (⟨he,rfl,hb⟩|⟨he,g,rfl,-,-,hb⟩)
 ·obtain⟨er,hZ⟩:∃ er,nD f d NM BS NS root=er:=⟨_,rfl⟩
  have hev:wR f d v NM BS NS root=er:=by unfold wR;rw[if_neg he,hZ]
  rw[hZ] at he ⊢
  have HE:=aA he
  have HV:=aA hev
  have h1:(er != 0)=true:=by simpa using he
  have HB1:=aA (bel HB0.o hb)
  clear he hev hZ hb HB0 HCk HK0 HT0 HW0
  go_wp2_with fail
  exact bodyPost_ret (v:=.tuple #[.slice none 0 0,.int .i64 er]) (by simp[results,Tryz.results37,go_sem]) rfl (.inl (by rw[HV.o];exact⟨HE.o,rfl,bel HB1.o (aC _ _)⟩))
 ·have HE:=aA he
  have HB1:=aA (bel (bel HB0.o hb) (aC V1 (.cells #[.slice (some ⟨g,0,none⟩) NS.length NS.length,.int .i64 (vK NS),.int .i64 (mxR (tK BS NS []))] 35)))
  have HK1:=aA ((HK0.o.below hb).alloc (.cells #[.slice (some ⟨g,0,none⟩) NS.length NS.length,.int .i64 (vK NS),.int .i64 (mxR (tK BS NS []))] 35))
  have HT1:=aA ((HT0.o.below hb).alloc (.cells #[.slice (some ⟨g,0,none⟩) NS.length NS.length,.int .i64 (vK NS),.int .i64 (mxR (tK BS NS []))] 35))
  have HW1:=aA ((HW0.o.below hb).alloc (.cells #[.slice (some ⟨g,0,none⟩) NS.length NS.length,.int .i64 (vK NS),.int .i64 (mxR (tK BS NS []))] 35))
  have HF:=aA fun w h=>Knd.aDf f d v.x v.y v.c pa pl pc v.ps w h
  obtain⟨k0,k1,-,-⟩:=aQ (HK0.o.below hb)
  obtain⟨w0,w1,w2,w3⟩:=aD (HW0.o.below hb)
  have hz1:=(HW0.o.below hb).lt
  have hz0:=(HK0.o.below hb).lt
  clear hb he HB0 HCk HK0 HT0 HW0
  generalize vK NS=co at *
  generalize mxR (tK BS NS [])=mx at *
  go_wp2_with fail
  refine(HF.o _ (HPI.o.later HB1.o)).mono ?_
  rintro e V2 ⟨rfl,hb⟩
  have HK2:=aA (HK1.o.below hb)
  have HT2:=aA (HT1.o.below hb)
  have HW2:=aA (HW1.o.below hb)
  have HB2:=aA (bel HB1.o hb)
  clear hb HK1 HT1 HW1 HB1 HF k0 k1 w0 w1 w2 w3 hz1 hz0
  have hev:wR f d v NM BS NS root=Knd.vC f d v.x v.y v.c v.ps:=by unfold wR;rw[if_pos HE.o]
  have HV:=aA hev
  clear hev
  rcases dJ f d v with⟨hF,h0⟩|⟨hF,h1⟩
  ·rw[h0]
   rw[h0] at HV
   obtain⟨es,ex,hD⟩:=jS.1 (jG HE.o)
   have HW:=aA hD.wl
   have hfew:=hD.few
   rw[HLN.o] at hfew
   have hmk:=sK dl hfew
   have HNm:=aA fun(n:Nd) hn h3=>wG HE.o (n:=n) hn h3
   have HNl:=aA fun(p:Knd.Plc) q hq=>aMm hF (p:=p) (q:=q) hq
   clear hD h0 hF HE
   obtain⟨t0,t1,t2,t3⟩:=aD HT2.o
   have hzt:=HT2.o.lt
   have hzw:=HW2.o.lt
   have HBx:Hid (Bx W (V2.alloc (.cells (xC (List.replicate dl 0)) 3)) V2.heap.size (bX f d) (fC (.slice na nl nc) (.slice ba bl bc) (.slice da dl dc) (.int .i64 root)) (fD v pa pl pc) (List.replicate dl 0)) :=
    ⟨HK2.o.alloc _,HT2.o.alloc _,HW2.o.alloc _,aB.new _ _ _,hzw,bel HB2.o (aC _ _)⟩
   have hgz:=HBx.o.hg
   clear HK2 HT2 HW2 HB2
   go_wp2_with fail
   generalize V2.heap.size=gv at *
   go_loopw [36] (fun i wr=>∃(k:Nat) (D:List Int),k<=dl/\i=.int .i64 k/\Hid (vaR f d v BS (NS.take k) []=D)/\Hid (Bx W wr gv (bX f d) (fC (.slice na nl nc) (.slice ba bl bc) (.slice da dl dc) (.int .i64 root)) (fD v pa pl pc) (D++List.replicate (dl-k) 0))) (fun i _=>dl-(intOf i).toNat)
   case atStart=>exact⟨0,[],Nat.zero_le _,rfl,aA rfl,HBx⟩
   case round =>
    obtain⟨k,D,hk,rfl,HD,HX⟩:=hrel
    rename World=>V
    clear t0 t1 t2 t3 hmk
    by_cases hlt:k < dl
    ·obtain⟨g,off,rfl,hat⟩:=(HNI.o.later HX.o.lo).at (by omega)
     obtain⟨e0,e1,e2,e3,e4,e5,e6,e7,e8⟩:=hat k hlt
     clear hat
     have hi0:(0:Int)<=k:=by omega
     have hi1:(k:Int) < dl:=by omega
     have hDl:D.length=k:=by rw[<-HD.o,aCz];simp;rw[HLN.o];omega
     have HDl:=aA hDl
     have HWn:=aA (aAz HW.o (by rw[HLN.o];exact hlt:k < NS.length))
     rw[Nat.zero_add] at HWn
     have HD2:=aA (aOj f d v BS (NS.take k) (NS.getD k n0) [])
     rw[<-aH n0 (by rw[HLN.o];exact hlt),HD.o] at HD2
     have hmem:=aLg (NS:=NS) (i:=k) (by rw[HLN.o];exact hlt)
     rw[uG hlt] at HX
     have hz1:gv < V.heap.size:=HX.o.c.lt
     have y0:=HX.o.c.frozen k
     have da:=HX.o.c.cell k (eQ _ k (by simp;omega))
     have HNk:=aA (HNm.o _ hmem)
     clear hmem
     generalize NS.getD k n0=n at *
     by_cases ho1:n.op=1
     ·have q1:(n.op==1)=true:=by simpa using ho1
      have hva:zJ f d v BS D n=n.k:=by unfold zJ;rw[if_neg (by omega),if_pos ho1]
      rw[hva] at HD2
      have HX2:=aA ((HX.o.put hDl n.k).below (aC _ (.cells (dY n) 93)))
      clear hva ho1 HNk HWn hDl
      go_wp2_with fail
      go_roundw
      case rel=>exact⟨k+1,D++[n.k],by omega,by go_num,aA HD2.o,aA (by rw[List.append_assoc];exact HX2.o)⟩
      case measure=>simp[intOf];omega
     have q1:(n.op==1)=false:=by simpa using ho1
     by_cases ho2:n.op=2
     ·have q2:(n.op==2)=true:=by simpa using ho2
      have hva:zJ f d v BS D n=inpV f d v n.k:=by unfold zJ;rw[if_neg (by omega),if_neg ho1,if_pos ho2]
      rw[hva] at HD2
      have HI:=aA fun w=>aGt f d n.k v pa pl pc w
      generalize inpV f d v n.k=z at *
      have HX1:=aA (HX.o.below (aC V (.cells (dY n) 93)))
      obtain⟨k0,k1,-,-⟩:=aQ HX.o.k
      obtain⟨w0,w1,w2,w3⟩:=aD HX.o.w
      have hz2:=HX.o.k.lt
      have hz3:=HX.o.w.lt
      clear hva ho1 ho2 HNk HWn hDl y0 da
      go_wp2_with fail
      refine(HI.o _).mono ?_
      rintro e V3 ⟨rfl,hb⟩
      have HX3:=aA (HX1.o.below hb)
      have y0:=HX3.o.c.frozen k
      have da:=HX3.o.c.cell k (eQ _ k (by have:=HDl.o;simp;omega))
      have HX2:=aA (HX3.o.put HDl.o z)
      clear hb HX1 HI k0 k1 w0 w1 w2 w3 hz2 hz3 e0 e1 e2 e3 e4 e5 e6 e7 e8
      go_wp2_with fail
      go_roundw
      case rel=>exact⟨k+1,D++[z],by omega,by go_num,aA HD2.o,aA (by rw[List.append_assoc];exact HX2.o)⟩
      case measure=>simp[intOf];omega
     have q2:(n.op==2)=false:=by simpa using ho2
     by_cases ho3:n.op=3
     ·have q3:(n.op==3)=true:=by simpa using ho3
      have hva:zJ f d v BS D n=yG f d v n:=by unfold zJ;rw[if_neg (by omega),if_neg ho1,if_neg ho2,if_pos ho3]
      rw[hva] at HD2
      obtain⟨q,hq⟩:=HNk.o ho3
      have hql:=HNl.o _ q hq
      have HI:=aA (aE4 f d n v (q:=q) ((HPI.o.later HX.o.lo).later (aC V (.cells (dY n) 93))) HWn.o.wf hq (by rw[<-HLP.o];exact hql))
      generalize yG f d v n=z at *
      have HX1:=aA (HX.o.below (aC V (.cells (dY n) 93)))
      obtain⟨k0,k1,-,-⟩:=aQ HX.o.k
      obtain⟨w0,w1,w2,w3⟩:=aD HX.o.w
      have hz2:=HX.o.k.lt
      have hz3:=HX.o.w.lt
      clear hva ho1 ho2 ho3 HNk HWn hDl y0 da hq hql
      go_wp2_with fail
      refine HI.o.mono ?_
      rintro e V3 ⟨rfl,hb⟩
      have HX3:=aA (HX1.o.below hb)
      have y0:=HX3.o.c.frozen k
      have da:=HX3.o.c.cell k (eQ _ k (by have:=HDl.o;simp;omega))
      have HX2:=aA (HX3.o.put HDl.o z)
      clear hb HX1 HI k0 k1 w0 w1 w2 w3 hz2 hz3 e0 e1 e2 e3 e4 e5 e6 e7 e8
      go_wp2_with fail
      go_roundw
      case rel=>exact⟨k+1,D++[z],by omega,by go_num,aA HD2.o,aA (by rw[List.append_assoc];exact HX2.o)⟩
      case measure=>simp[intOf];omega
     have q3:(n.op==3)=false:=by simpa using ho3
     by_cases ho4:n.op=4
     ·have q4:(n.op==4)=true:=by simpa using ho4
      have hva:zJ f d v BS D n=D.getD (BS.getD n.k.toNat 0).toNat 0:=by unfold zJ;rw[if_pos ho4]
      rw[hva] at HD2
      obtain⟨u0,u1,u2,u3⟩:=HWn.o.use ho4
      obtain⟨kk,hkk⟩:∃ kk:Nat,n.k=(kk:Int):=⟨n.k.toNat,by omega⟩
      rw[hkk] at e4 u1 u2 u3 HD2
      simp only[Int.toNat_natCast] at u1 u2 u3 HD2
      obtain⟨bb,boff,rfl,hbb,hbc⟩:∃ b off,ba=some ⟨b,off,none⟩/\b < V.heap.size/\V.cell? ⟨b,off+kk,none⟩=some (.int .i64 (BS.getD kk 0)):=by
       rcases(HBI.o.later HX.o.lo).cell with h0|⟨b,off,ha,hlb,hc⟩
       ·rw[HLB.o] at u1;omega
       ·exact⟨b,off,ha,hlb,hc kk (by rw[<-HLB.o];exact u1)⟩
      obtain⟨q,hq⟩:∃ q:Nat,BS.getD kk 0=(q:Int):=⟨(BS.getD kk 0).toNat,by omega⟩
      rw[hq] at hbc u3 HD2
      simp only[Int.toNat_natCast] at u3 HD2
      have s0:=eQ (D++0::List.replicate (dl-(k+1)) 0) q (by simp;omega)
      rw[kM (by rw[hDl];exact u3)] at s0
      have d0:=HX.o.c.cell q s0
      generalize D.getD q 0=z at *
      have HX2:=aA ((HX.o.put hDl z).below (aC _ (.cells #[.int .i64 n.op,.int .i64 n.a,.int .i64 n.b,.int .i64 n.c,.int .i64 kk,.int .i64 n.back,.int .i64 n.co,.int .i64 n.x,.int .i64 n.y] 93)))
      have t1:=HX.o.t.cell 1 rfl
      have hz2:=HX.o.t.lt
      have w0:(kk:Int) < bl:=by have:=HLB.o;omega
      have w1:(q:Int) < dl:=by omega
      have w2:(0:Int)<=kk:=by omega
      have w3:(0:Int)<=q:=by omega
      clear s0 hq u0 u1 u2 u3 hva HNk HWn hDl ho1 ho2 ho3 ho4
      go_wp2_with fail
      go_roundw
      case rel=>exact⟨k+1,D++[z],by omega,by go_num,aA HD2.o,aA (by rw[List.append_assoc];exact HX2.o)⟩
      case measure=>simp[intOf];omega
     have q4:(n.op==4)=false:=by simpa using ho4
     have hva:zJ f d v BS D n=opV D n:=by unfold zJ;rw[if_neg ho4,if_neg ho1,if_neg ho2,if_neg ho3]
     rw[hva] at HD2
     have HX1:=aA (HX.o.below (aC V (.cells (dY n) 93)))
     have hlen:(D++0::List.replicate (dl-(k+1)) 0).length=dl:=by simp;omega
     have HZ:=aFk HX1.o.c (by rw[hlen];exact hfew)
     rw[hlen] at HZ
     have HI:=aA (aJ2 n HWn.o (by have:=HWn.o.lo;omega) HZ (by omega))
     rw[aQw (by rw[hDl];exact HWn.o)] at HI
     generalize opV D n=z at *
     clear HZ hlen hva ho1 ho2 ho3 ho4 HNk HWn hDl y0 da
     go_wp2_with fail
     refine HI.o.mono ?_
     rintro e V3 ⟨rfl,hb⟩
     have HX3:=aA (HX1.o.below hb)
     have y0:=HX3.o.c.frozen k
     have da:=HX3.o.c.cell k (eQ _ k (by have:=HDl.o;simp;omega))
     have HX2:=aA (HX3.o.put HDl.o z)
     clear hb HX1 HI e0 e1 e2 e3 e4 e5 e6 e7 e8
     go_wp2_with fail
     go_roundw
     case rel=>exact⟨k+1,D++[z],by omega,by go_num,aA HD2.o,aA (by rw[List.append_assoc];exact HX2.o)⟩
     case measure=>simp[intOf];omega
    ·obtain rfl:k=dl:=by omega
     have e1:NS.take k=NS:=List.take_of_length_le (by rw[HLN.o];exact Nat.le_refl _)
     have hD:=HD.o
     rw[e1] at hD
     have HX2:=HX.o
     rw[Nat.sub_self,List.replicate_zero,List.append_nil] at HX2
     have HR:=aA hD
     clear hD e1
     go_wp2_with fail
     exact bodyPost_ret (v:=.tuple #[.slice (some ⟨gv,0,none⟩) k k,.int .i64 0]) (by simp[results,Tryz.results37,go_sem]) rfl (.inr ⟨HV.o,gv,by rw[HLN.o],by omega,by rw[HR.o];exact HX2.c,HX2.lo⟩)
  ·rw[h1]
   rw[h1] at HV
   clear h1 hF HE
   go_wp2_with fail
   exact bodyPost_ret (v:=.tuple #[.slice none 0 0,.int .i64 1]) (by simp[results,Tryz.results37,go_sem]) rfl (.inl (by rw[HV.o];exact⟨by decide,rfl,HB2.o⟩))
end Go.Proofs.YtihbhbeaihdgnaaGreat
namespace Go.Proofs.YtihbhbeaihdgnaaGreat
open Go.RowKit Go.IntWalk Lx Pz
abbrev aB3 (es:List E)(ex:E):List Nd:=jK es 0++ex.flat (cZ es)
abbrev rootOf (es:List E)(ex:E):Int:=((cZ es+ex.size:Nat):Int)-1
theorem aIr {l:List UInt8}{T:List Tok}{NM:List aR}{es:List E}{ex:E}(hT:tks l=some T)(hg:GP [] [] (T.map ab) (NM,es,ex))(hl:NM.length=es.length)(hz:cZ es+ex.size<=T.length) :
  Dec NM (kG es 0) (aB3 es ex) (rootOf es ex) es ex:=by
 have hok:(T.map ab).all dX=true:=by
  rw[List.all_map,List.all_eq_true]
  intro t ht
  exact aU3 (aOd hT t ht)
 obtain⟨h1,h2,h3⟩:=aWo hg hok rfl (by intro j e h;simp at h) rfl
 have h4:=aR3 hT
 exact⟨rfl,rfl,hl,h1,h2,h3,by rw[List.length_append,dC,E.flat_len],by rw[List.length_append,dC,E.flat_len];omega⟩
theorem aMj {NM:List aR}(h:nmB NM=true):∀ s ∈ NM,s.length<=9223372036854775807:=by
 intro s hs
 simp only[nmB,Bool.and_eq_true,List.all_eq_true] at h
 have h1:=h.1 s hs
 have h2:uX s=true:=h1.1
 simp only[uX,Bool.and_eq_true,decide_eq_true_eq] at h2
 have:=h2.1.1.2
 omega
theorem aF6 (s:ByteArray)(w:World):Calls Tryz.prog 14 #[.string s] w fun e W' =>
  (e=.returned (.tuple #[.agg aB1,.int .i64 10])/\Below w.heap.size w W') \/
  (∃ A NM es ex na nc ba bc da dc,ak (bs s)=some A/\GP [] [] A (NM,es,ex)/\Dec NM (kG es 0) (aB3 es ex) (rootOf es ex) es ex /\
   e=.returned (.tuple #[.agg (fC (.slice na es.length nc) (.slice ba es.length bc) (.slice da (cZ es+ex.size) dc) (.int .i64 (rootOf es ex))),.int .i64 0])/\Tx W' na es.length nc NM/\Iz W' ba es.length bc (kG es 0) /\
   Nz W' da (cZ es+ex.size) dc (aB3 es ex)/\Below w.heap.size w W'):=by
 refine(aF7 s w).mono ?_
 rintro e W1 (⟨h1,h2,-⟩|⟨T,NM,es,ex,na,nc,ba,bc,da,dc,hT,hA,h3,h4,rfl,h6,h7,h8,h9⟩)
 ·exact .inl ⟨h1,h2⟩
 ·have hg:=(hA (NM,es,ex)).1 rfl
  exact .inr ⟨T.map ab,NM,es,ex,na,nc,ba,bc,da,dc,(aWd hT).1,hg,aIr hT hg h3 h4,rfl,h6,h7,h8,h9⟩
theorem jB {NM:List aR}{BS:List Int}{NS:List Nd}{root:Int}(h:qD NM BS NS root=true):0<=root/\root.toNat < NS.length/\NS.length<=1024:=by
 obtain⟨es,ex,hD⟩:=jS.1 h
 have h1:=hD.root
 have h2:1<=NS.length:=by rw[hD.nodes,List.length_append,E.flat_len];have:=ex.size_pos;omega
 have:=hD.few
 omega
theorem aAx (f d:Int)(v:Wd){W:World}{na ba da pa:Option Addr}{nl nc bl bc dl dc pl pc:Nat}{root:Int}{NM:List aR}{BS:List Int}{NS:List Nd}(hX:Tx W na nl nc NM)(hB:Iz W ba bl bc BS)(hN:Nz W da dl dc NS)(hs:∀ s ∈ NM,s.length<=9223372036854775807)(hP:Knd.Ints W pa pl pc v.ps) :
  Calls Tryz.prog 17 #[.agg (bX f d),.agg (fC (.slice na nl nc) (.slice ba bl bc) (.slice da dl dc) (.int .i64 root)),.agg (fD v pa pl pc)] W fun e W' =>
   e=.returned (.tuple #[.int .i64 (evV f d v NM BS NS root),.int .i64 (wR f d v NM BS NS root)])/\Below W.heap.size W W':=by
 have hb1:=aC W (.cells (bX f d) 23)
 have hb2:=bel hb1 (aC (W.alloc (.cells (bX f d) 23)) (.cells (fC (.slice na nl nc) (.slice ba bl bc) (.slice da dl dc) (.int .i64 root)) 55))
 have hb3:=bel hb2 (aC ((W.alloc (.cells (bX f d) 23)).alloc (.cells (fC (.slice na nl nc) (.slice ba bl bc) (.slice da dl dc) (.int .i64 root)) 55)) (.cells (fD v pa pl pc) 44))
 have HT0:Hid (aB (((W.alloc (.cells (bX f d) 23)).alloc (.cells (fC (.slice na nl nc) (.slice ba bl bc) (.slice da dl dc) (.int .i64 root)) 55)).alloc (.cells (fD v pa pl pc) 44)) (W.heap.size+1) 55 (fC (.slice na nl nc) (.slice ba bl bc) (.slice da dl dc) (.int .i64 root))):=by
  have:=(aB.new (W.alloc (.cells (bX f d) 23)) 55 (fC (.slice na nl nc) (.slice ba bl bc) (.slice da dl dc) (.int .i64 root))).alloc (.cells (fD v pa pl pc) 44)
  simp only[World.size_alloc] at this
  exact aA this
 have HB0:=aA hb3
 have HA:=aA (aOk f d v (root:=root) (hX.later hb3) (hB.later hb3) (hN.later hb3) hs (hP.later hb3))
 clear hb1 hb2 hb3 hX hB hN hP
 obtain⟨R,hR⟩:∃ R,evV f d v NM BS NS root=R:=⟨_,rfl⟩
 obtain⟨E,hE⟩:∃ E,wR f d v NM BS NS root=E:=⟨_,rfl⟩
 rw[hR,hE]
 have HR:=aA hR
 have HE:=aA hE
 clear hR hE
 go_enter Tryz.func17,Tryz.ntmps17
 go_wp2_with fail
 refine HA.o.mono ?_
 rintro e V1 (⟨he,rfl,hb⟩|⟨he,g,rfl,-,hG,hb⟩)
 ·rw[HE.o] at he ⊢
  have h1:(E != 0)=true:=by simpa using he
  have hz:R=0:=by rw[<-HR.o];unfold evV;rw[HE.o,if_neg he]
  subst hz
  have HB1:=aA (bel HB0.o hb)
  clear hb he HA HB0 HT0
  go_wp2_with fail
  go_ret2
  exact⟨rfl,HB1.o⟩
 ·have h2:=HE.o
  rw[he] at h2
  subst h2
  obtain⟨r0,r1,r2⟩:=jB (jG (wS.1 he).1)
  have hr:R=(vaR f d v BS NS []).getD root.toNat 0:=by rw[<-HR.o];unfold evV;rw[if_pos he]
  obtain⟨q,rfl⟩:∃ q:Nat,root=q:=⟨root.toNat,by omega⟩
  simp only[Int.toNat_natCast] at r1 hr
  have s0:=eQ (vaR f d v BS NS []) q (by rw[aCz];simpa using r1)
  rw[<-hr] at s0
  have c0:=hG.cell q s0
  have t3:=(HT0.o.below hb).cell 3 rfl
  have HB1:=aA (bel HB0.o hb)
  have i0:(0:Int)<=q:=by omega
  have i1:(q:Int) < NS.length:=by omega
  clear hb he HA HB0 HT0 s0 hr hG r0 r1 r2 HE HR
  go_wp2_with fail
  go_ret2
  exact⟨rfl,HB1.o⟩
theorem aHv {W:World}{base size b n:Nat}{t e:TypeId}{v:Value}{xs:List Value}{cs:Array Value}(h:W.ownsRow base e size v n xs)(hb:aB W b t cs)(ht:t≠e):v.ownBlock≠some b:=by
 intro hk
 obtain⟨-,cs',fr,h2⟩:=aM h b hk
 rw[hb] at h2
 cases h2
 exact ht rfl
theorem mP {V:World}{base b:Nat}{e t:TypeId}{size n:Nat}{v:Value}{xs:List Value}{cs:Array Value}(h:V.ownsRow base e size v n xs)(hb:aB V b t cs)(ht:t≠e)(i:Nat)(x:Value):(V.setCell ⟨b,i,none⟩ x).ownsRow base e size v n xs:=by
 refine ownsRow_setCell_other h (a:=⟨b,i,none⟩) ?_ x
 exact aHv h hb ht
abbrev wd0 (v:Value):Array Value:=#[.int .i64 0,.int .i64 0,.int .i64 0,v]

end Go.Proofs.YtihbhbeaihdgnaaGreat
namespace Go.Proofs.YtihbhbeaihdgnaaGreat
open Lx Pz
def Cd (e:Int):Prop:=e=0\/e=1\/e=12\/e=13
theorem rW {f d:Int}{NM:List aR}{BS:List Int}{NS:List Nd}{root:Int}:nD f d NM BS NS root=0↔Knd.May f d/\qD NM BS NS root=true/\NS.any (ahB f d)=false/\(nX f d BS NS []).2=0/\vK NS<=200/\mxR (tK BS NS [])<=24:=by
 unfold nD
 by_cases h1:Knd.May f d
 ·rw[if_neg (by simpa using h1)]
  cases h2:qD NM BS NS root
  ·simp
  ·rw[if_neg (by simp)]
   cases h3:NS.any (ahB f d)
   ·rw[if_neg (by simp)]
    by_cases h4:(nX f d BS NS []).2=0
    ·rw[if_neg (by simpa using h4)]
     by_cases h5:200 < vK NS\/24 < mxR (tK BS NS [])
     ·rw[if_pos h5]
      constructor
      ·intro h;cases h
      ·rintro⟨-,-,-,-,a,b⟩;omega
     ·rw[if_neg h5]
      exact⟨fun _=>⟨h1,rfl,rfl,h4,by omega,by omega⟩,fun _=>rfl⟩
    ·rw[if_pos h4]
     exact⟨fun h=>absurd h h4,fun h=>absurd h.2.2.2.1 h4⟩
   ·rw[if_pos rfl]
    constructor
    ·intro h;cases h
    ·rintro⟨-,-,h,-⟩;cases h
 ·rw[if_pos h1]
  constructor
  ·intro h;cases h
  ·intro h;exact absurd h.1 h1
def w32 (a:Int):Prop:=-2147483648<=a/\a<=2147483647
end Go.Proofs.YtihbhbeaihdgnaaGreat
namespace Go.Proofs.YtihbhbeaihdgnaaGreat
open Go.RowKit Go.IntWalk Lx Pz
def awL:List Int:=((List.replicate 44 10).set 16 7).set 10 30
end Go.Proofs.YtihbhbeaihdgnaaGreat
namespace Go.Proofs.YtihbhbeaihdgnaaGreat
open Lx Pz
theorem aK9 {f d:Int}{v:Wd}(h:Fits f d v):Knd.May f d:=by
 obtain⟨⟨⟨⟨lo,hi,hz,-⟩,-⟩,-⟩,-⟩:=h
 apply Classical.byContradiction
 intro hm
 unfold Knd.fM at hz
 rw[if_pos hm] at hz
 cases hz
def tH (V:List Int)(S:dM):Prop:=V.length=S.length/\∀ i,i < S.length->(S.getD i (0,0)).1<=V.getD i 0/\V.getD i 0<=(S.getD i (0,0)).2/\w32 (V.getD i 0)
theorem tH.snoc {V:List Int}{S:dM}{x:Int}{p:Int × Int}(h:tH V S)(h1:p.1<=x)(h2:x<=p.2)(h3:w32 x):tH (V++[x]) (S++[p]):=by
 have hl:=h.1
 refine⟨by simp[hl],fun i hi=>?_⟩
 simp only[List.length_append,List.length_cons,List.length_nil] at hi
 by_cases e:i < S.length
 ·rw[cK e,kM (by omega)]
  exact h.2 i e
 ·have e2:i=S.length:=by omega
  subst e2
  rw[show (S++[p]).getD S.length (0,0)=p by simp[List.getD_eq_getElem?_getD],show (V++[x]).getD S.length 0=x by rw[<-hl];simp[List.getD_eq_getElem?_getD]]
  exact⟨h1,h2,h3⟩
theorem tH.ins {V:List Int}{S:dM}(h:tH V S):∀(P:List Int),(∀ p ∈ P,p.toNat < S.length)->Spn.Ins (P.map fun p=>V.getD p.toNat 0) (P.map fun p=>S.getD p.toNat (0,0))
 | [],_=>trivial
 | p::P,hp=>by
  obtain⟨h1,h2,-⟩:=h.2 p.toNat (hp p (by simp))
  exact⟨⟨h1,h2⟩,tH.ins h P fun q hq=>hp q (by simp[hq])⟩
theorem iV (f d:Int):w32 (Knd.dR f d)/\w32 (Knd.bH f d)/\w32 (Knd.aW f d):=by
 rcases Knd.kQ f d with⟨hm,rfl⟩|⟨hm,rfl⟩|hm
 ·have:=Knd.kU (d-1) (by have:=hm.2.2;omega)
  obtain⟨a,b,c,-⟩:=Knd.zs0 hm
  rw[a,b,c];unfold w32;omega
 ·have:=Knd.kU (d-1) (by have:=hm.2.2;omega)
  obtain⟨a,b,c,-⟩:=Knd.zs1 hm
  rw[a,b,c];unfold w32;omega
 ·obtain⟨a,b,c,-⟩:=Knd.zs2 hm
  rw[a,b,c];unfold w32;omega
theorem vU {op k s x:Int}{xs:List Int}(h:Spn.bK op k s xs=(x,0)):w32 x:=by
 unfold Spn.bK at h
 split at h
 ·split at h
  ·split at h
   ·rename_i hw
    cases h
    exact Spn.dE.1 hw
   ·cases h
  ·rename_i h1
   exact absurd (congrArg Prod.snd h) h1
 ·cases h
theorem aBa (f:Int):Knd.kJ f<=2147483647/\Knd.kW f<=2147483647:=by
 unfold Knd.kJ Knd.kW
 constructor <;> (repeat' split) <;> omega
theorem aFu {f d k:Int}{v:Wd}(hF:Fits f d v)(h0:0<=k)(h5:k<=5):((Knd.fM f d k).getD (0,0)).1<=inpV f d v k/\inpV f d v k<=((Knd.fM f d k).getD (0,0)).2/\w32 (inpV f d v k):=by
 have hm:=aK9 hF
 obtain⟨⟨⟨⟨a1,a2,e1,g1,g2⟩,⟨b1,b2,e2,g3,g4⟩⟩,⟨c1,c2,e3,g5,g6⟩⟩,-⟩:=hF
 obtain⟨w1,w2,w3⟩:=iV f d
 have hcr:=aBa f
 rcases(show k=0\/k=1\/k=2\/k=3\/k=4\/k=5 by omega) with rfl|rfl|rfl|rfl|rfl|rfl
 ·rw[e1]
  have e:Knd.fM f d 0=some (0,Knd.kJ f-1):=by unfold Knd.fM;rw[if_neg (by simpa using hm)];rfl
  rw[e] at e1
  cases e1
  exact⟨g1,g2,by show w32 v.x;unfold w32;omega⟩
 ·rw[e2]
  have e:Knd.fM f d 1=some (0,Knd.kW f-1):=by unfold Knd.fM;rw[if_neg (by simpa using hm)];rfl
  rw[e] at e2
  cases e2
  exact⟨g3,g4,by show w32 v.y;unfold w32;omega⟩
 ·rw[e3]
  have e:Knd.fM f d 2=some (0,3):=by unfold Knd.fM;rw[if_neg (by simpa using hm)];rfl
  rw[e] at e3
  cases e3
  exact⟨g5,g6,by show w32 v.c;unfold w32;omega⟩
 ·have e:Knd.fM f d 3=some (Knd.dR f d,Knd.dR f d):=by unfold Knd.fM;rw[if_neg (by simpa using hm)];rfl
  rw[e];exact⟨Int.le_refl _,Int.le_refl _,w1⟩
 ·have e:Knd.fM f d 4=some (Knd.bH f d,Knd.bH f d):=by unfold Knd.fM;rw[if_neg (by simpa using hm)];rfl
  rw[e];exact⟨Int.le_refl _,Int.le_refl _,w2⟩
 ·have e:Knd.fM f d 5=some (Knd.aW f d,Knd.aW f d):=by unfold Knd.fM;rw[if_neg (by simpa using hm)];rfl
  rw[e];exact⟨Int.le_refl _,Int.le_refl _,w3⟩
theorem aVv {f d:Int}{v:Wd}{n:Nd}(hF:Fits f d v)(hn:∃ q,Knd.lV f d (jJ n)=some q):Knd.dR f d<=yG f d v n/\yG f d v n<=Knd.bH f d/\w32 (yG f d v n):=by
 obtain⟨q,hq⟩:=hn
 have hl:=aMm hF hq
 have h:=hF.2.2 (yG f d v n) (by
  unfold yG
  rw[hq,Option.getD_some,List.getD_eq_getElem?_getD,List.getElem?_eq_getElem hl]
  exact List.getElem_mem hl)
 obtain⟨w1,w2,-⟩:=iV f d
 exact⟨h.1,h.2,by unfold w32 at *;omega⟩
theorem aV2 {f d:Int}{v:Wd}{BS V:List Int}{S:dM}{n:Nd}(hF:Fits f d v)(hI:tH V S)(hn:Wn BS S.length n)(ha:n.op=3->∃ q,Knd.lV f d (jJ n)=some q)(h:(qX f d BS S n).2=0) :
  (qX f d BS S n).1.1<=zJ f d v BS V n/\zJ f d v BS V n<=(qX f d BS S n).1.2/\w32 (zJ f d v BS V n):=by
 unfold zJ
 unfold qX at h ⊢
 by_cases h4:n.op=4
 ·rw[if_pos h4] at h ⊢
  rw[if_pos h4]
  exact hI.2 _ (hn.use h4).2.2.2
 rw[if_neg h4] at h ⊢
 rw[if_neg h4]
 by_cases h1:n.op=1
 ·rw[if_pos h1] at h ⊢
  rw[if_pos h1]
  have:=hn.num h1
  exact⟨Int.le_refl _,Int.le_refl _,by unfold w32;omega⟩
 rw[if_neg h1] at h ⊢
 rw[if_neg h1]
 by_cases h2:n.op=2
 ·rw[if_pos h2] at h ⊢
  rw[if_pos h2]
  exact aFu hF (hn.inp h2).1 (hn.inp h2).2
 rw[if_neg h2] at h ⊢
 rw[if_neg h2]
 by_cases h3:n.op=3
 ·rw[if_pos h3] at h ⊢
  rw[if_pos h3]
  exact aVv hF (ha h3)
 rw[if_neg h3] at h ⊢
 rw[if_neg h3]
 obtain⟨x,h5,h6,h7⟩:=Spn.tV (Prod.ext rfl h:Spn.ofZ n.op 0 0 ((bV n).map fun p=>S.getD p.toNat (0,0))=((_,_),0)) (hI.ins (bV n) fun p hp=>(hn.prt p hp).2)
 unfold opV
 rw[h5]
 exact⟨h6,h7,vU h5⟩
end Go.Proofs.YtihbhbeaihdgnaaGreat

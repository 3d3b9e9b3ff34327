import Derived.Test.YtihbhbeaihdgnaaGreatXH
import Derived.Deep.AppendLies
import Derived.Deep.RegionHeld3
import Derived.Deep.RegionWith
import Derived.Lib.QuietBelow
import Derived.BigQuiet
import Derived.Test.YtihbhbeaihdgnaaGreatX28
import Derived.Test.YtihbhbeaihdgnaaGreatX20
import Derived.Test.YtihbhbeaihdgnaaGreatX27
set_option maxRecDepth 100000
set_option maxHeartbeats 32000000
set_option linter.unusedVariables false
namespace Go.Proofs.YtihbhbeaihdgnaaGreat
open Go.RowKit Go.IntWalk Lx Pz
variable {V W:World} {b base g gc n size:Nat} {sv v:Value} {e t:TypeId} {xs:List Value} {cs kd rs tr:Array Value} {d f:Int}
theorem kP:(Tryz.prog.info? 41).map (fun i=>(i.zero,i.size,i.bytes))=some (some (.agg (Cde.ia Cde.i0)),6,48):=by kernel_rfl
theorem lJ {n:Cde.In}(h:aB W b 41 (Cde.ia n)):∀ j u,(Cde.i6 n)[j]?=some u->W.cell? ((⟨b,0,none⟩:Addr).add j)=some u:=by
 intro j u hu
 rw[Addr.add_lit,Nat.zero_add]
 exact h.cell j (by rw[<-hu];simp[Cde.ia,Cde.i6])
theorem mJ {L:List Cde.In}{ops:Array Oper}{o:Oper}{a:Act}{K:Act->World->Prop}{Q:Exit->Act->World->Prop}{E:Prop}
  (hgd:o.guard=none) (s x:Operand) (ho:o.op=.call { callee:=.builtin .append,args:=#[s,x],argTypes:=#[24,24] })
  (hs:a.eval s=v) (hen:V.ownsRow base 41 6 v L.length (Cde.bU L)) (hbase:base<=V.heap.size) (b:Nat) (n:Cde.In) (hx:a.eval x=.slice (some ⟨b,0,none⟩) 1 1) (hc:aB V b 41 (Cde.ia n)) (h3:L.length<=2000000)
  (h:∀ g cap w',w'.ownsRow base 41 6 (.slice (some ⟨g,0,none⟩) (L.length+1) cap) (L++[n]).length (Cde.bU (L++[n]))->V.grownBy w' v.ownBlock->K (a.put o.dst (.slice (some ⟨g,0,none⟩) (L.length+1) cap)) w') :
  if Region.wanted o (yielded ops a.tmps)=true then Oper.wp Tryz.prog o a V K Q else E:=by
 obtain⟨i0,hi0,hz0,hz1,hz2⟩:=Spn.info_parts kP
 refine step_append_lies V hgd s x 24 ho base 41 i0 _ 6 48 Tryz.underlying24 hi0 hz0 hz1 hz2 rfl (by omega) v L.length (Cde.bU L) hs hen ⟨b,0,none⟩ 1 1 (Cde.i6 n) hx rfl (lJ hc) (by simp[Value.oneCell',Cde.i6]) (by omega) (by unfold maxLen;omega) (by omega) hbase V.heap.size rfl ?_
 intro g cap w' hown hgrow hat hlt
 refine h g cap w' ?_ hgrow
 rw[Cde.oJ,List.length_append]
 exact hown
abbrev bZ:Array Value:=#[.int .i64 0,.int .i64 0,.slice none 0 0,.int .i64 0]
abbrev cdv (f d:Int)(v:Value)(o:Int):Array Value:=#[.int .i64 f,.int .i64 d,v,.int .i64 o]
theorem oO {i:Nat}(h:V.ownsRow base e size v n xs)(hb:aB V b t cs)(ht:t≠e)(x:Value):(V.setCell ⟨b,i,none⟩ x).ownsRow base e size v n xs:=mP h hb ht i x
theorem aP {w':World}(h:V.ownsRow base e size v n xs)(hg:V.grownBy w' v.ownBlock)(hb:aB V b t cs)(ht:t≠e):aB w' b t cs :=
 hb.kept hg fun he=>aHv h hb ht he.symm
theorem aQz {V':World}(h:V.ownsRow base e size v n xs)(hb:Below V.heap.size V V'):V'.ownsRow base e size v n xs:=Cde.bD h hb
structure Lb (W V:World)(gc g:Nat)(kd tr rs:Array Value)(f d:Int)(sv:Value)(I:List Cde.In)(R:List Int):Prop where
 k:aB V W.heap.size 23 kd
 t:aB V (W.heap.size+1) 55 tr
 o:aB V (W.heap.size+1+1) 26 rs
 c:aB V gc 26 (cdv f d sv 0)
 m:aB V g 3 (xC R)
 s:V.ownsRow W.heap.size 41 6 sv I.length (Cde.bU I)
 hc:W.heap.size+1+1 < gc
 hg:gc < g
 lo:Below W.heap.size W V
theorem Lb.below {W V V':World}{gc g:Nat}{kd tr rs:Array Value}{f d:Int}{sv:Value}{I:List Cde.In}{R:List Int}(h:Lb W V gc g kd tr rs f d sv I R)(hb:Below V.heap.size V V'):Lb W V' gc g kd tr rs f d sv I R :=
 ⟨h.k.below hb,h.t.below hb,h.o.below hb,h.c.below hb,h.m.below hb,aQz h.s hb,h.hc,h.hg,bel h.lo hb⟩
theorem Lb.put {i:Nat}{I:List Cde.In}{D Z:List Int}{q:Int}(h:Lb W V gc g kd tr rs f d sv I (D++q::Z))(hk:D.length=i)(x:Int):Lb W (V.setCell ⟨g,i,none⟩ (.int .i64 x)) gc g kd tr rs f d sv I (D++x::Z):=by
 have hg:=h.hg
 have hc:=h.hc
 exact⟨h.k.other (p:=⟨g,i,none⟩) (by simp;omega) _,h.t.other (p:=⟨g,i,none⟩) (by simp;omega) _,h.o.other (p:=⟨g,i,none⟩) (by simp;omega) _,h.c.other (p:=⟨g,i,none⟩) (by simp;omega) _,aCd h.m hk x,oO h.s h.m (by decide) _,hc,hg,h.lo.setCell (p:=⟨g,i,none⟩) (by simp;omega) _⟩
theorem Lb.grow {w':World}{v':Value}{I J:List Cde.In}{R:List Int}(h:Lb W V gc g kd tr rs f d sv I R)(hg:V.grownBy w' sv.ownBlock)(hO:w'.ownsRow W.heap.size 41 6 v' J.length (Cde.bU J)):Lb W (w'.setCell ⟨gc,2,none⟩ v') gc g kd tr rs f d v' J R:=by
 have hgg:=h.hg
 have hc:=h.hc
 have hcc:=aP h.s hg h.c (by decide)
 refine⟨(aP h.s hg h.k (by decide)).other (p:=⟨gc,2,none⟩) (by simp;omega) _,(aP h.s hg h.t (by decide)).other (p:=⟨gc,2,none⟩) (by simp;omega) _,(aP h.s hg h.o (by decide)).other (p:=⟨gc,2,none⟩) (by simp;omega) _,?_,(aP h.s hg h.m (by decide)).other (p:=⟨gc,2,none⟩) (by simp;omega) _,oO hO hcc (by decide) _,hc,hgg,?_⟩
 ·exact hcc.set 2 v'
 ·exact(h.lo.grown hg h.lo.size fun k hk=>(Cde.aM h.s k hk).1).setCell (p:=⟨gc,2,none⟩) (by simp;omega) _
theorem aEe {w:World}{p q r s:Value}(h:aB V b t #[p,q,r,s])(hB:Below w.heap.size w V)(hb:w.heap.size<=b)(x0 x1 x2 x3:Value) :
  aB ((((V.setCell ⟨b,0,none⟩ x0).setCell ⟨b,1,none⟩ x1).setCell ⟨b,2,none⟩ x2).setCell ⟨b,3,none⟩ x3) b t #[x0,x1,x2,x3] /\
  Below w.heap.size w ((((V.setCell ⟨b,0,none⟩ x0).setCell ⟨b,1,none⟩ x1).setCell ⟨b,2,none⟩ x2).setCell ⟨b,3,none⟩ x3) :=
 ⟨(((h.set 0 x0).set 1 x1).set 2 x2).set 3 x3,(((hB.setCell (p:=⟨b,0,none⟩) hb _).setCell (p:=⟨b,1,none⟩) hb _).setCell (p:=⟨b,2,none⟩) hb _).setCell (p:=⟨b,3,none⟩) hb _⟩
theorem aMx (h:V.ownsRow base e size v n xs)(hb:aB V b t cs)(ht:t≠e)(x0 x1 x2 x3:Value):((((V.setCell ⟨b,0,none⟩ x0).setCell ⟨b,1,none⟩ x1).setCell ⟨b,2,none⟩ x2).setCell ⟨b,3,none⟩ x3).ownsRow base e size v n xs:=by
 have h0:=mP h hb ht 0 x0
 have b0:=hb.set 0 x0
 have h1:=mP h0 b0 ht 1 x1
 have b1:=b0.set 1 x1
 have h2:=mP h1 b1 ht 2 x2
 exact mP h2 (b1.set 2 x2) ht 3 x3
theorem aF3 (f d:Int){na ba da:Option Addr}{nl nc bl bc dl dc:Nat}{root:Int}{NM:List aR}{BS:List Int}{NS:List Nd}(hX:Tx W na nl nc NM)(hB:Iz W ba bl bc BS)(hN:Nz W da dl dc NS)(hs:∀ s ∈ NM,s.length<=9223372036854775807) :
  Calls Tryz.prog 15 #[.agg (bX f d),.agg (fC (.slice na nl nc) (.slice ba bl bc) (.slice da dl dc) (.int .i64 root))] W (LoP W (loV f d NM BS NS root)):=by
 have hb1:=aC W (.cells (bX f d) 23)
 have hb2:=bel hb1 (aC (W.alloc (.cells (bX f d) 23)) (.cells (fC (.slice na nl nc) (.slice ba bl bc) (.slice da dl dc) (.int .i64 root)) 55))
 have hb3:=bel hb2 (aC ((W.alloc (.cells (bX f d) 23)).alloc (.cells (fC (.slice na nl nc) (.slice ba bl bc) (.slice da dl dc) (.int .i64 root)) 55)) (.cells bZ 26))
 have HK0:=aA (((aB.new W 23 (bX f d)).alloc (.cells (fC (.slice na nl nc) (.slice ba bl bc) (.slice da dl dc) (.int .i64 root)) 55)).alloc (.cells bZ 26))
 have HT0:=aA ((aBo W (.cells (bX f d) 23) 55 (fC (.slice na nl nc) (.slice ba bl bc) (.slice da dl dc) (.int .i64 root))).alloc (.cells bZ 26))
 have HO0:=aA (aFl W (.cells (bX f d) 23) (.cells (fC (.slice na nl nc) (.slice ba bl bc) (.slice da dl dc) (.int .i64 root)) 55) 26 bZ)
 have HB0:=aA hb3
 have HCk:=aA (kI f d (root:=root) (hX.later hb3) (hB.later hb3) (hN.later hb3) hs)
 have HBI:=aA hB
 have HNI:=aA hN
 have HLN:=aA hN.len
 have HLB:=aA hB.len
 clear hb1 hb2 hb3 hX hB hN
 go_enter Tryz.func15,Tryz.ntmps15
 go_wp2_with fail
 refine HCk.o.mono ?_
 rintro e V1 (⟨he,rfl,hb⟩|⟨he,g,rfl,-,-,hb⟩)
 ·obtain⟨er,hZ⟩:∃ er,nD f d NM BS NS root=er:=⟨_,rfl⟩
  have hev:loV f d NM BS NS root=⟨er,0,0,[],0⟩:=by unfold loV;rw[if_neg he,hZ]
  rw[hZ] at he ⊢
  have HEv:=aA hev
  have h1:(er != 0)=true:=by simpa using he
  have HB1:=aA (bel HB0.o hb)
  have HO1:=aA (HO0.o.below hb)
  have hlt:=HO1.o.lt
  obtain⟨o0,o1,o2,o3⟩:=aD HO1.o
  have y0:=HO1.o.frozen 0
  have y1:=HO1.o.frozen 1
  have y2:=HO1.o.frozen 2
  have y3:=HO1.o.frozen 3
  clear he hev hZ hb HB0 HCk HK0 HT0 HO0
  go_wp2_with fail
  obtain⟨hp0,hpb0⟩:=aEe HO1.o HB1.o (by omega) (.int .i64 0) (.int .i64 0) (.slice none 0 0) (.int .i64 0)
  have hp:=hp0.alloc (.cells jM 35)
  have hpb:=bel hpb0 (aC _ (.cells jM 35))
  have p0:=hp.cell 0 rfl
  have p1:=hp.cell 1 rfl
  have p2:=hp.cell 2 rfl
  have p3:=hp.cell 3 rfl
  exact bodyPost_ret (v:=.tuple #[.agg bZ,.int .i64 er]) (by simp[results,Tryz.results15,go_sem,p0,p1,p2,p3]) rfl (by rw[HEv.o];exact⟨none,0,rfl,⟨rfl,.inl ⟨rfl,rfl⟩⟩,hpb⟩)
 ·have HE:=aA he
  have hev:loV f d NM BS NS root=⟨0,f,d,(tL f d BS NS).2,(tL f d BS NS).1.getD root.toNat 0⟩:=by unfold loV;rw[if_pos he]
  have HEv:=aA hev
  have HRt:=aA (jB (jG he))
  have HLw:=aA (xK he)
  obtain⟨es,ex,hD⟩:=jS.1 (jG he)
  have HW:=aA hD.wl
  have hfew:=hD.few
  rw[HLN.o] at hfew
  have hmk:=sK dl hfew
  have HNm:=aA fun(n:Nd) hn h3=>wG he (n:=n) hn h3
  have hz:=(HO0.o.below hb).lt
  have HBx:Hid (Lb W (((V1.alloc (.cells #[.slice (some ⟨g,0,none⟩) NS.length NS.length,.int .i64 (vK NS),.int .i64 (mxR (tK BS NS []))] 35)).alloc (.cells (cdv f d (.slice none 0 0) 0) 26)).alloc (.cells (xC (List.replicate dl 0)) 3)) (V1.heap.size+1) (V1.heap.size+1+1) (bX f d) (fC (.slice na nl nc) (.slice ba bl bc) (.slice da dl dc) (.int .i64 root)) bZ f d (.slice none 0 0) [] (List.replicate dl 0)) :=
   aA ⟨(((HK0.o.below hb).alloc _).alloc _).alloc _,(((HT0.o.below hb).alloc _).alloc _).alloc _,(((HO0.o.below hb).alloc _).alloc _).alloc _,(aBo _ _ _ _).alloc _,aFl _ _ _ _ _,⟨rfl,.inl ⟨rfl,rfl⟩⟩,by omega,by omega,bel (bel (bel (bel HB0.o hb) (aC _ _)) (aC _ _)) (aC _ _)⟩
  obtain⟨k0,k1,-,-⟩:=aQ (HK0.o.below hb)
  obtain⟨t0,t1,t2,t3⟩:=aD (HT0.o.below hb)
  have hz0:=(HK0.o.below hb).lt
  have hz1:=(HT0.o.below hb).lt
  clear hb he HB0 HCk HK0 HT0 HO0 hD hev
  generalize vK NS=co at *
  generalize mxR (tK BS NS [])=mx at *
  go_wp2_with fail
  obtain⟨gc,hgc⟩:∃ gc,V1.heap.size+1=gc:=⟨_,rfl⟩
  rw[hgc] at HBx ⊢
  obtain⟨gv,hgv⟩:∃ gv,gc+1=gv:=⟨_,rfl⟩
  rw[hgv] at HBx ⊢
  clear hgc hgv k0 k1 t0 t1 t2 t3 hz hz0 hz1 hmk
  go_loopw [31] (fun i wr=>∃(k:Nat) (D:List Int) (I:List Cde.In) (sa:Option Addr) (sc:Nat),k<=dl/\i=.int .i64 k/\Hid (tL f d BS (NS.take k)=(D,I))/\Hid (Lb W wr gc gv (bX f d) (fC (.slice na nl nc) (.slice ba bl bc) (.slice da dl dc) (.int .i64 root)) bZ f d (.slice sa I.length sc) I (D++List.replicate (dl-k) 0))) (fun i _=>dl-(intOf i).toNat)
  case atStart=>exact⟨0,[],[],none,0,Nat.zero_le _,rfl,aA rfl,HBx⟩
  case round =>
   obtain⟨k,D,I,sa,sc,hk,rfl,HD,HX⟩:=hrel
   rename World=>V
   clear HBx
   by_cases hlt:k < dl
   ·obtain⟨gn,off,rfl,hat⟩:=(HNI.o.later HX.o.lo).at (by omega)
    obtain⟨e0,e1,e2,e3,e4,e5,e6,e7,e8⟩:=hat k hlt
    clear hat
    have hi0:(0:Int)<=k:=by omega
    have hi1:(k:Int) < dl:=by omega
    have hWl:=aH8 HW.o k
    have hLk:Lw (NS.take k) D I:=by
     have:=Lw.run (f:=f) (d:=d) (BS:=BS) (NS.take k) [] ([],[]) aBu hWl (fun n hn h3=>HNm.o n (List.mem_of_mem_take hn) h3)
     rw[List.nil_append,show List.foldl (yS f d BS) ([],[]) (NS.take k)=(D,I) from HD.o] at this
     exact this
    have hDl:D.length=k:=by have:=hLk.len;rw[List.length_take,HLN.o] at this;omega
    have hIl:I.length<=1024:=by
     have h1:=hLk.cnt
     have h2:cn (NS.take k)<=(NS.take k).length:=List.length_filter_le _ _
     rw[List.length_take,HLN.o] at h2
     omega
    have HDl:=aA hDl
    have HWn:=aA (aAz HW.o (by rw[HLN.o];exact hlt:k < NS.length))
    rw[Nat.zero_add] at HWn
    have HD2:=aA (aLz f d BS (NS.take k) (NS.getD k n0))
    rw[<-aH n0 (by rw[HLN.o];exact hlt),HD.o] at HD2
    unfold yS at HD2
    rw[uG hlt] at HX
    have hz1:gv < V.heap.size:=HX.o.m.lt
    have hz2:gc < V.heap.size:=HX.o.c.lt
    have y0:=HX.o.m.frozen k
    have da:=HX.o.m.cell k (eQ _ k (by simp;omega))
    clear hWl hLk
    generalize NS.getD k n0=n at *
    by_cases ho4:n.op=4
    ·have q4:(n.op==4)=true:=by simpa using ho4
     rw[if_pos ho4] at HD2
     unfold sI at HD2
     obtain⟨u0,u1,u2,u3⟩:=HWn.o.use ho4
     obtain⟨kk,hkk⟩:∃ kk:Nat,n.k=(kk:Int):=⟨n.k.toNat,by omega⟩
     rw[hkk] at e4 u1 u2 u3 HD2
     simp only[Int.toNat_natCast] at u1 u2 u3 HD2
     obtain⟨bb,boff,rfl,hbb,hbc⟩:∃ b off,ba=some ⟨b,off,none⟩/\b < V.heap.size/\V.cell? ⟨b,off+kk,none⟩=some (.int .i64 (BS.getD kk 0)):=by
      rcases(HBI.o.later HX.o.lo).cell with h0|⟨b,off,ha,hlb,hc⟩
      ·rw[HLB.o] at u1;omega
      ·exact⟨b,off,ha,hlb,hc kk (by rw[<-HLB.o];exact u1)⟩
     obtain⟨q,hq⟩:∃ q:Nat,BS.getD kk 0=(q:Int):=⟨(BS.getD kk 0).toNat,by omega⟩
     rw[hq] at hbc u3 HD2
     simp only[Int.toNat_natCast] at u3 HD2
     have s0:=eQ (D++0::List.replicate (dl-(k+1)) 0) q (by simp;omega)
     rw[kM (by rw[hDl];exact u3)] at s0
     have d0:=HX.o.m.cell q s0
     generalize D.getD q 0=z at *
     have HX2:=aA ((HX.o.put hDl z).below (aC _ (.cells #[.int .i64 n.op,.int .i64 n.a,.int .i64 n.b,.int .i64 n.c,.int .i64 kk,.int .i64 n.back,.int .i64 n.co,.int .i64 n.x,.int .i64 n.y] 93)))
     have t1:=HX.o.t.cell 1 rfl
     have hz3:=HX.o.t.lt
     have w0:(kk:Int) < bl:=by have:=HLB.o;omega
     have w1:(q:Int) < dl:=by omega
     have w2:(0:Int)<=kk:=by omega
     have w3:(0:Int)<=q:=by omega
     clear s0 hq u0 u1 u2 u3 HWn hDl ho4
     go_wp2_with fail
     go_roundw
     case rel=>exact⟨k+1,D++[z],I,sa,sc,by omega,by go_num,aA HD2.o,aA (by rw[List.append_assoc];exact HX2.o)⟩
     case measure=>simp[intOf];omega
    have q4:(n.op==4)=false:=by simpa using ho4
    rw[if_neg ho4] at HD2
    dsimp only at HD2
    have HX4:=aA ((HX.o.put hDl (I.length:Int)).below (aC _ (.cells (dY n) 93)))
    have HNd:=aA (aB.new (V.setCell ⟨gv,k,none⟩ (.int .i64 (I.length:Int))) 93 (dY n))
    rw[World.size_setCell] at HNd
    obtain⟨c0,c1,c2,c3⟩:=aD HX.o.c
    go_wp2_with fail
    obtain⟨V4,hV4⟩:∃ V4,(V.setCell ⟨gv,k,none⟩ (.int .i64 (I.length:Int))).alloc (.cells (dY n) 93)=V4:=⟨_,rfl⟩
    rw[hV4] at HX4 HNd ⊢
    clear hV4 e0 e1 e2 e3 e4 e5 e6 e7 e8 y0 da c0 c1 c2 c3
    generalize V.heap.size=gp at *
    have hlen:(D++(I.length:Int)::List.replicate (dl-(k+1)) 0).length=dl:=by simp;omega
    have HZ:=aFk HX4.o.m (by rw[hlen];exact hfew)
    rw[hlen] at HZ
    have HLo:=aA fun(w:World) (hb:Below V4.heap.size V4 w)=>aB6 f d HWn.o ho4 (HZ.later hb) (by omega)
    rw[aP9 (by rw[hDl];exact HWn.o) ho4] at HLo
    generalize pJ f d D n=x at *
    obtain⟨c0,c1,c2,c3⟩:=aD HX4.o.c
    obtain⟨k0,k1,-,-⟩:=aQ HX4.o.k
    obtain⟨e0,e1,e2,e3,e4,e5,e6,e7,e8⟩:=jX HNd.o
    clear HZ hlen ho4 HWn hDl HX
    have HS1:=aA (show aB V4.drew W.heap.size 23 (bX f d)/\aB V4.drew gp 93 (dY n) from⟨HX4.o.k.below (aF _),HNd.o.below (aF _)⟩)
    refine wp_region_held_drew (S:=fun w=>aB w W.heap.size 23 (bX f d)/\aB w gp 93 (dY n)) (by kernel_rfl) HS1.o (fun _=>?_)
    refine wpAnyH_take (i:=0) (v:=.pointer (some ⟨gc,2,none⟩)) rfl (by kernel_rfl) (by kernel_rfl) (by kernel_rfl) (fun _ _ _ h=>h) (Or.inl ⟨by rfl,fun w hS=>by obtain⟨a0,a1,-,-⟩:=aQ hS.1;obtain⟨b0,b1,b2,b3,b4,b5,b6,b7,b8⟩:=jX hS.2;go_simp⟩) HS1.o ?_
    refine wpAnyH_take (i:=2) (v:=.agg (bX f d)) rfl (by kernel_rfl) (by kernel_rfl) (by kernel_rfl) (fun _ _ _ h=>h) (Or.inl ⟨by rfl,fun w hS=>by obtain⟨a0,a1,-,-⟩:=aQ hS.1;obtain⟨b0,b1,b2,b3,b4,b5,b6,b7,b8⟩:=jX hS.2;go_simp⟩) HS1.o ?_
    refine wpAnyH_take (i:=3) (v:=.agg (dY n)) rfl (by kernel_rfl) (by kernel_rfl) (by kernel_rfl) (fun _ _ _ h=>h) (Or.inl ⟨by rfl,fun w hS=>by obtain⟨a0,a1,-,-⟩:=aQ hS.1;obtain⟨b0,b1,b2,b3,b4,b5,b6,b7,b8⟩:=jX hS.2;go_simp⟩) HS1.o ?_
    refine wpAnyH_take (i:=4) (v:=.slice (some ⟨gv,0,none⟩) dl dl) rfl (by kernel_rfl) (by kernel_rfl) (by kernel_rfl) (fun _ _ _ h=>h) (Or.inl ⟨by rfl,fun w hS=>by obtain⟨a0,a1,-,-⟩:=aQ hS.1;obtain⟨b0,b1,b2,b3,b4,b5,b6,b7,b8⟩:=jX hS.2;go_simp⟩) HS1.o ?_
    refine wpAnyH_ready (rs:=[1,5]) (by kernel_rfl) (by simp) (AllReadyH.cons rfl (fun K hK=>?_) (AllReadyH.cons rfl (fun K hK=>?_) AllReadyH.nil))
    ·have c2:=(HX4.o.c.below (aF _)).cell 2 rfl
     go_simp
     refine hK.out _ _ ⟨HS1.o.1,HS1.o.2⟩ (fun _=>?_)
     clear hK K
     refine wpAnyH_ready (rs:=[5]) (by kernel_rfl) (by simp) (AllReadyH.cons rfl (fun K hK=>?_) AllReadyH.nil)
     go_simp
     refine(HLo.o _ (aF _)).mono ?_
     rintro r w2 ⟨rfl,hb⟩
     have HX5:=aA ((HX4.o.below (aF _)).below hb)
     have HN5:=aA ((HNd.o.below (aF _)).below hb)
     have HX6:=aA (HX5.o.below (aC w2 (.cells (Cde.ia x) 41)))
     have HN6:=aA (HN5.o.below (aC w2 (.cells (Cde.ia x) 41)))
     clear hb
     refine hK.out _ _ ⟨HX5.o.k,HN5.o⟩ (fun _=>?_)
     clear hK K
     refine wpAnyH_ready (rs:=[6]) (by kernel_rfl) (by simp) (AllReadyH.cons rfl (fun K hK=>?_) AllReadyH.nil)
     go_simp
     refine hK.out _ _ ⟨HX6.o.k,HN6.o⟩ (fun _=>?_)
     clear hK K
     refine wpAnyH_ready (rs:=[7]) (by kernel_rfl) (by simp) (AllReadyH.cons rfl (fun K hK=>?_) AllReadyH.nil)
     refine mJ (L:=I) (by rfl) _ _ (by rfl) (by rfl) HX6.o.s HX6.o.lo.size _ x (by rfl) (aB.new w2 _ _) (by omega) ?_
     intro g2 cap2 w3 hown hgrow
     have HC7:=aA (aP HX6.o.s hgrow HX6.o.c (by decide))
     have HK7:=aA (aP HX6.o.s hgrow HX6.o.k (by decide))
     have HN7:=aA (aP HX6.o.s hgrow HN6.o (by decide))
     have HX7:=aA (HX6.o.grow hgrow hown)
     have hge:=HX6.o.hc
     clear hown hgrow HX6 HN6
     refine hK.out _ _ ⟨HK7.o,HN7.o⟩ (fun _=>?_)
     clear hK K
     refine wpAnyH_ready (rs:=[8]) (by kernel_rfl) (by simp) (AllReadyH.cons rfl (fun K hK=>?_) AllReadyH.nil)
     go_simp
     refine hK.out _ _ ⟨HK7.o,HN7.o⟩ (fun _=>?_)
     clear hK K
     refine wpAnyH_ready (rs:=[9]) (by kernel_rfl) (by simp) (AllReadyH.cons rfl (fun K hK=>?_) AllReadyH.nil)
     have v2:=HC7.o.cell 2 rfl
     have yv:=HC7.o.frozen 2
     go_simp
     refine hK.out _ _ ⟨HX7.o.k,HN7.o.other (p:=⟨gc,2,none⟩) (show gp≠gc by omega) _⟩ (fun _=>?_)
     clear hK K
     refine wpAnyH_done (by kernel_rfl) ?_ _
     go_simp
     go_wp2_with fail
     go_roundw
     case rel=>exact⟨k+1,D++[(I.length:Int)],I++[x],_,_,by omega,by go_num,aA HD2.o,aA (by rw[List.append_assoc];simpa using HX7.o)⟩
     case measure=>simp[intOf];omega
    ·go_simp
     refine(HLo.o _ (aF _)).mono ?_
     rintro r w2 ⟨rfl,hb⟩
     have HX5:=aA ((HX4.o.below (aF _)).below hb)
     have HN5:=aA ((HNd.o.below (aF _)).below hb)
     have HX6:=aA (HX5.o.below (aC w2 (.cells (Cde.ia x) 41)))
     have HN6:=aA (HN5.o.below (aC w2 (.cells (Cde.ia x) 41)))
     clear hb
     refine hK.out _ _ ⟨HX5.o.k,HN5.o⟩ (fun _=>?_)
     clear hK K
     refine wpAnyH_ready (rs:=[1,6]) (by kernel_rfl) (by simp) (AllReadyH.cons rfl (fun K hK=>?_) (AllReadyH.cons rfl (fun K hK=>?_) AllReadyH.nil))
     ·have c2:=HX5.o.c.cell 2 rfl
      go_simp
      refine hK.out _ _ ⟨HX5.o.k,HN5.o⟩ (fun _=>?_)
      clear hK K
      refine wpAnyH_ready (rs:=[6]) (by kernel_rfl) (by simp) (AllReadyH.cons rfl (fun K hK=>?_) AllReadyH.nil)
      go_simp
      refine hK.out _ _ ⟨HX6.o.k,HN6.o⟩ (fun _=>?_)
      clear hK K
      refine wpAnyH_ready (rs:=[7]) (by kernel_rfl) (by simp) (AllReadyH.cons rfl (fun K hK=>?_) AllReadyH.nil)
      refine mJ (L:=I) (by rfl) _ _ (by rfl) (by rfl) HX6.o.s HX6.o.lo.size _ x (by rfl) (aB.new w2 _ _) (by omega) ?_
      intro g2 cap2 w3 hown hgrow
      have HC7:=aA (aP HX6.o.s hgrow HX6.o.c (by decide))
      have HK7:=aA (aP HX6.o.s hgrow HX6.o.k (by decide))
      have HN7:=aA (aP HX6.o.s hgrow HN6.o (by decide))
      have HX7:=aA (HX6.o.grow hgrow hown)
      have hge:=HX6.o.hc
      clear hown hgrow HX6 HN6
      refine hK.out _ _ ⟨HK7.o,HN7.o⟩ (fun _=>?_)
      clear hK K
      refine wpAnyH_ready (rs:=[8]) (by kernel_rfl) (by simp) (AllReadyH.cons rfl (fun K hK=>?_) AllReadyH.nil)
      go_simp
      refine hK.out _ _ ⟨HK7.o,HN7.o⟩ (fun _=>?_)
      clear hK K
      refine wpAnyH_ready (rs:=[9]) (by kernel_rfl) (by simp) (AllReadyH.cons rfl (fun K hK=>?_) AllReadyH.nil)
      have v2:=HC7.o.cell 2 rfl
      have yv:=HC7.o.frozen 2
      go_simp
      refine hK.out _ _ ⟨HX7.o.k,HN7.o.other (p:=⟨gc,2,none⟩) (show gp≠gc by omega) _⟩ (fun _=>?_)
      clear hK K
      refine wpAnyH_done (by kernel_rfl) ?_ _
      go_simp
      go_wp2_with fail
      go_roundw
      case rel=>exact⟨k+1,D++[(I.length:Int)],I++[x],_,_,by omega,by go_num,aA HD2.o,aA (by rw[List.append_assoc];simpa using HX7.o)⟩
      case measure=>simp[intOf];omega
     ·go_simp
      refine hK.out _ _ ⟨HX6.o.k,HN6.o⟩ (fun _=>?_)
      clear hK K
      refine wpAnyH_ready (rs:=[1]) (by kernel_rfl) (by simp) (AllReadyH.cons rfl (fun K hK=>?_) AllReadyH.nil)
      have c2:=HX6.o.c.cell 2 rfl
      go_simp
      refine hK.out _ _ ⟨HX6.o.k,HN6.o⟩ (fun _=>?_)
      clear hK K
      refine wpAnyH_ready (rs:=[7]) (by kernel_rfl) (by simp) (AllReadyH.cons rfl (fun K hK=>?_) AllReadyH.nil)
      refine mJ (L:=I) (by rfl) _ _ (by rfl) (by rfl) HX6.o.s HX6.o.lo.size _ x (by rfl) (aB.new w2 _ _) (by omega) ?_
      intro g2 cap2 w3 hown hgrow
      have HC7:=aA (aP HX6.o.s hgrow HX6.o.c (by decide))
      have HK7:=aA (aP HX6.o.s hgrow HX6.o.k (by decide))
      have HN7:=aA (aP HX6.o.s hgrow HN6.o (by decide))
      have HX7:=aA (HX6.o.grow hgrow hown)
      have hge:=HX6.o.hc
      clear hown hgrow HX6 HN6
      refine hK.out _ _ ⟨HK7.o,HN7.o⟩ (fun _=>?_)
      clear hK K
      refine wpAnyH_ready (rs:=[8]) (by kernel_rfl) (by simp) (AllReadyH.cons rfl (fun K hK=>?_) AllReadyH.nil)
      go_simp
      refine hK.out _ _ ⟨HK7.o,HN7.o⟩ (fun _=>?_)
      clear hK K
      refine wpAnyH_ready (rs:=[9]) (by kernel_rfl) (by simp) (AllReadyH.cons rfl (fun K hK=>?_) AllReadyH.nil)
      have v2:=HC7.o.cell 2 rfl
      have yv:=HC7.o.frozen 2
      go_simp
      refine hK.out _ _ ⟨HX7.o.k,HN7.o.other (p:=⟨gc,2,none⟩) (show gp≠gc by omega) _⟩ (fun _=>?_)
      clear hK K
      refine wpAnyH_done (by kernel_rfl) ?_ _
      go_simp
      go_wp2_with fail
      go_roundw
      case rel=>exact⟨k+1,D++[(I.length:Int)],I++[x],_,_,by omega,by go_num,aA HD2.o,aA (by rw[List.append_assoc];simpa using HX7.o)⟩
      case measure=>simp[intOf];omega
   ·obtain rfl:k=dl:=by omega
    have e1:NS.take k=NS:=List.take_of_length_le (by rw[HLN.o];exact Nat.le_refl _)
    have hD:=HD.o
    rw[e1] at hD
    have HX2:=HX.o
    rw[Nat.sub_self,List.replicate_zero,List.append_nil] at HX2
    obtain⟨r0,r1,-⟩:=HRt.o
    have hLk:=HLw.o
    rw[show tL f d BS NS=(D,I) from hD] at hLk
    have hDl:D.length=NS.length:=hLk.len
    rw[HLN.o] at hDl r1
    obtain⟨q,rfl⟩:∃ q:Nat,root=q:=⟨root.toNat,by omega⟩
    simp only[Int.toNat_natCast] at r1 HEv
    rw[show tL f d BS NS=(D,I) from hD] at HEv
    dsimp only at HEv
    have x0:=HX2.m.cell q (eQ D q (by omega))
    generalize D.getD q 0=z at *
    have HX:=aA HX2
    have t3:=HX2.t.cell 3 rfl
    obtain⟨c0,c1,c2,c3⟩:=aD HX2.c
    obtain⟨o0,o1,o2,o3⟩:=aD HX2.o
    have yc:=HX2.c.frozen 3
    have y0:=HX2.o.frozen 0
    have y1:=HX2.o.frozen 1
    have y2:=HX2.o.frozen 2
    have y3:=HX2.o.frozen 3
    have i0:(0:Int)<=q:=by omega
    have i1:(q:Int) < k:=by omega
    have hgc:=HX2.hc
    have hgn:gc≠W.heap.size+1+1:=by omega
    have hgn2:W.heap.size+1+1≠gc:=by omega
    clear hD e1 hLk hDl r0 r1 HX2 HD HLw HRt HW HNm HE
    go_wp2_with fail
    have hc1:=HX.o.c.set 3 (.int .i64 z)
    have ho1:=HX.o.o.other (p:=⟨gc,3,none⟩) hgn2 (.int .i64 z)
    have hs1:=mP HX.o.s HX.o.c (by decide) 3 (.int .i64 z)
    have hl1:=HX.o.lo.setCell (p:=⟨gc,3,none⟩) (show W.heap.size<=gc by omega) (.int .i64 z)
    obtain⟨hp,hpb⟩:=aEe ho1 hl1 (by omega) (.int .i64 f) (.int .i64 d) (.slice sa I.length sc) (.int .i64 z)
    have hs2:=aMx hs1 ho1 (by decide) (.int .i64 f) (.int .i64 d) (.slice sa I.length sc) (.int .i64 z)
    have p0:=hp.cell 0 rfl
    have p1:=hp.cell 1 rfl
    have p2:=hp.cell 2 rfl
    have p3:=hp.cell 3 rfl
    exact bodyPost_ret (v:=.tuple #[.agg (cdv f d (.slice sa I.length sc) z),.int .i64 0]) (by simp[results,Tryz.results15,go_sem,p0,p1,p2,p3]) rfl (by rw[HEv.o];exact⟨sa,sc,rfl,hs2,hpb⟩)
end Go.Proofs.YtihbhbeaihdgnaaGreat
namespace Go.Proofs.YtihbhbeaihdgnaaGreat
open Go.RowKit Go.IntWalk Lx Pz
theorem LoP.ins {w:World}{Z:LoV}{e:Ending}{W':World}(h:LoP w Z e W'):∃ a c,e=.returned (.tuple #[.agg (Cde.cd Z.f Z.d a Z.I.length c Z.o),.int .i64 Z.er])/\Cde.Ins W' a Z.I.length c Z.I/\Below w.heap.size w W':=by
 obtain⟨a,c,rfl,hO,hb⟩:=h
 obtain⟨a',c',e1,hI,-⟩:=Cde.Ins.of_owns hO
 cases e1
 exact⟨a,c,rfl,hI,hb⟩
theorem aR5 (W:World):Tx W none 0 0 []:=⟨rfl,Nat.le_refl _,Nat.zero_le _,.inl rfl⟩
theorem aP6 (W:World):Iz W none 0 0 []:=⟨rfl,Nat.le_refl _,Nat.zero_le _,.inl rfl⟩
theorem aQq (W:World):Nz W none 0 0 []:=⟨rfl,Nat.le_refl _,Nat.zero_le _,.inl rfl⟩
theorem xS (s:ByteArray)(w:World):Calls Tryz.prog 14 #[.string s] w fun e W' =>
  ∃ NM BS NS root na nl nc ba bl bc da dl dc er,e=.returned (.tuple #[.agg (fC (.slice na nl nc) (.slice ba bl bc) (.slice da dl dc) (.int .i64 root)),.int .i64 er]) /\
   (er≠0->qD NM BS NS root=false)/\(∀ s ∈ NM,s.length<=9223372036854775807)/\Tx W' na nl nc NM/\Iz W' ba bl bc BS/\Nz W' da dl dc NS/\Below w.heap.size w W':=by
 refine(aF6 s w).mono ?_
 rintro e W1 (⟨h1,h2⟩|⟨A,NM,es,ex,na,nc,ba,bc,da,dc,ha,hg,hD,rfl,hX,hI,hN,hb⟩)
 ·exact⟨[],[],[],0,none,0,0,none,0,0,none,0,0,10,h1,fun _=>by decide,by simp,aR5 _,aP6 _,aQq _,h2⟩
 ·exact⟨NM,_,_,_,na,_,nc,ba,_,bc,da,_,dc,0,rfl,fun h=>absurd rfl h,aMj hD.ok,hX,hI,hN,hb⟩
theorem aAg (f d:Int){W:World}{na ba da:Option Addr}{nl nc bl bc dl dc:Nat}{root:Int}{NM:List aR}{BS:List Int}{NS:List Nd}(hX:Tx W na nl nc NM)(hB:Iz W ba bl bc BS)(hN:Nz W da dl dc NS)(hs:∀ s ∈ NM,s.length<=9223372036854775807) :
  Calls Tryz.prog 15 #[.agg (bX f d),.agg (fC (.slice na nl nc) (.slice ba bl bc) (.slice da dl dc) (.int .i64 root))] W fun e W' =>
   ∃ F D I o a c,e=.returned (.tuple #[.agg (Cde.cd F D a I.length c o),.int .i64 (nD f d NM BS NS root)])/\Cde.Ins W' a I.length c I/\(nD f d NM BS NS root≠0->I=[]) /\
    (nD f d NM BS NS root=0->F=f/\D=d/\I=(tL f d BS NS).2/\o=(tL f d BS NS).1.getD root.toNat 0)/\Below W.heap.size W W':=by
 refine(aF3 f d hX hB hN hs).mono ?_
 intro e V h
 obtain⟨a,c,rfl,hI,hb⟩:=h.ins
 by_cases h0:nD f d NM BS NS root=0
 ·have hv:loV f d NM BS NS root=⟨0,f,d,(tL f d BS NS).2,(tL f d BS NS).1.getD root.toNat 0⟩:=by unfold loV;rw[if_pos h0]
  rw[hv] at hI ⊢
  rw[h0]
  exact⟨f,d,_,_,a,c,rfl,hI,fun h=>absurd rfl h,fun _=>⟨rfl,rfl,rfl,rfl⟩,hb⟩
 ·have hv:loV f d NM BS NS root=⟨nD f d NM BS NS root,0,0,[],0⟩:=by unfold loV;rw[if_neg h0]
  rw[hv] at hI ⊢
  exact⟨0,0,[],0,a,c,rfl,hI,fun _=>rfl,fun h=>absurd h h0,hb⟩
end Go.Proofs.YtihbhbeaihdgnaaGreat

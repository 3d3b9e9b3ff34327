import Derived.Test.YtjmfboegnmogdaaGreatXH
import Derived.BigRegion
import Derived.Lib.QuietBelow
import Derived.BigQuiet
import Derived.Test.YtjmfboegnmogdaaGreatX23
import Derived.Test.YtjmfboegnmogdaaGreatX24
import Derived.Test.YtjmfboegnmogdaaGreatX11
import Derived.Test.YtjmfboegnmogdaaGreatX20
set_option maxRecDepth 100000
set_option maxHeartbeats 32000000
set_option linter.unusedVariables false
namespace Go.Proofs.YtjmfboegnmogdaaGreat
open Lx Pz
def yI (f d:Int)(v:Wd)(n:Nd):Int:=v.ps.getD ((Knd.lW f d (jL n)).getD 0) 0
def opV (V:List Int)(n:Nd):Int:=(Spn.bE n.op 0 0 ((bY n).map fun p=>V.getD p.toNat 0)).1
def zL (f d:Int)(v:Wd)(BS V:List Int)(n:Nd):Int :=
 if n.op=4 then V.getD (BS.getD n.k.toNat 0).toNat 0 else if n.op=1 then n.k else if n.op=2 then inpV f d v n.k else if n.op=3 then yI f d v n else opV V n
def vaR (f d:Int)(v:Wd)(BS:List Int):List Nd->List Int->List Int
 | [],V=>V
 | n::NS,V=>vaR f d v BS NS (V++[zL f d v BS V n])
theorem aH9 (f d:Int)(v:Wd)(BS:List Int):∀(A B:List Nd) (V:List Int),vaR f d v BS (A++B) V=vaR f d v BS B (vaR f d v BS A V)
 | [],B,V=>rfl
 | n::A,B,V=>aH9 f d v BS A B _
theorem aC0 (f d:Int)(v:Wd)(BS:List Int):∀(A:List Nd) (V:List Int),(vaR f d v BS A V).length=V.length+A.length
 | [],V=>rfl
 | n::A,V=>by rw[vaR,aC0 f d v BS A];simp;omega
theorem aOn (f d:Int)(v:Wd)(BS:List Int)(A:List Nd)(n:Nd)(V:List Int):vaR f d v BS (A++[n]) V=vaR f d v BS A V++[zL f d v BS (vaR f d v BS A V) n]:=by
 rw[aH9];rfl
noncomputable def evE (f d:Int)(v:Wd)(NM:List aQ)(BS:List Int)(NS:List Nd)(root:Int):Int:=if nH f d NM BS NS root=0 then Knd.vE f d v.x v.y v.c v.ps else nH f d NM BS NS root
noncomputable def evV (f d:Int)(v:Wd)(NM:List aQ)(BS:List Int)(NS:List Nd)(root:Int):Int:=if evE f d v NM BS NS root=0 then(vaR f d v BS NS []).getD root.toNat 0 else 0
theorem wT {f d:Int}{v:Wd}{NM:List aQ}{BS:List Int}{NS:List Nd}{root:Int}:evE f d v NM BS NS root=0↔nH f d NM BS NS root=0/\Fits f d v:=by
 unfold evE
 constructor
 ·intro h
  split at h
  ·rename_i h1
   rcases dW f d v with⟨h2,-⟩|⟨-,h2⟩
   ·exact⟨h1,h2⟩
   ·omega
  ·rename_i h1;exact absurd h h1
 ·rintro⟨h1,h2⟩
  rw[if_pos h1]
  rcases dW f d v with⟨-,h3⟩|⟨h3,-⟩
  ·exact h3
  ·exact absurd h2 h3
theorem aBu (L:List Knd.Plc)(p:Knd.Plc):∀(k:Nat),k<=64->∀ q,Knd.look L (Knd.upto k) p=some q->q < k
 | 0,_,q,h=>by simp[Knd.upto,Knd.look] at h
 | k+1,hk,q,h=>by
  rw[Knd.aAz k (by omega),Knd.aAi] at h
  split at h
  ·cases h;exact Nat.lt_succ_self k
  ·have:=aBu L p k (by omega) q h;omega
end Go.Proofs.YtjmfboegnmogdaaGreat
namespace Go.Proofs.YtjmfboegnmogdaaGreat
open Go.RowKit Go.IntWalk Lx Pz
theorem aD {W:World}{b:Nat}{t:TypeId}{x y z u:Value}(h:aB W b t #[x,y,z,u]):W.cell? ⟨b,0,none⟩=some x/\W.cell? ⟨b,1,none⟩=some y/\W.cell? ⟨b,2,none⟩=some z/\W.cell? ⟨b,3,none⟩=some u :=
 ⟨h.cell 0 rfl,h.cell 1 rfl,h.cell 2 rfl,h.cell 3 rfl⟩
theorem aGt (f d k:Int)(v:Wd)(a:Option Addr)(n cap:Nat)(W:World) :
  Calls Tryz.prog 67 #[.agg (cK f d),.agg (gM v a n cap),.int .i64 k] W fun e W'=>e=.returned (.int .i64 (inpV f d v k))/\Below W.heap.size W W':=by
 have HL:=aA fun W=>Knd.nO f d W
 have HH:=aA fun W=>Knd.kS f d W
 have HO:=aA fun W=>Knd.nE f d W
 have HB:=aA (bel (aC W (.cells (cK f d) 23)) (aC (W.alloc (.cells (cK f d) 23)) (.cells (gM v a n cap) 45)))
 unfold inpV
 by_cases h0:k=0
 ·subst h0
  rw[if_pos rfl]
  go_enter Tryz.func67,Tryz.ntmps67
  go_wp2_with fail
  go_ret
  exact⟨rfl,HB.o⟩
 rw[if_neg h0]
 by_cases h1:k=1
 ·subst h1
  rw[if_pos rfl]
  go_enter Tryz.func67,Tryz.ntmps67
  go_wp2_with fail
  go_ret
  exact⟨rfl,HB.o⟩
 rw[if_neg h1]
 by_cases h2:k=2
 ·subst h2
  rw[if_pos rfl]
  go_enter Tryz.func67,Tryz.ntmps67
  go_wp2_with fail
  go_ret
  exact⟨rfl,HB.o⟩
 rw[if_neg h2]
 by_cases h3:k=3
 ·subst h3
  rw[if_pos rfl]
  go_enter Tryz.func67,Tryz.ntmps67
  go_wp2_with fail
  refine(HL.o _).mono ?_
  rintro e V1 ⟨rfl,hb⟩
  go_wp2_with fail
  go_ret
  exact⟨rfl,bel HB.o hb⟩
 rw[if_neg h3]
 by_cases h4:k=4
 ·subst h4
  rw[if_pos rfl]
  go_enter Tryz.func67,Tryz.ntmps67
  go_wp2_with fail
  refine(HH.o _).mono ?_
  rintro e V1 ⟨rfl,hb⟩
  go_wp2_with fail
  go_ret
  exact⟨rfl,bel HB.o hb⟩
 rw[if_neg h4]
 have q0:(k==0)=false:=by simpa using h0
 have q1:(k==1)=false:=by simpa using h1
 have q2:(k==2)=false:=by simpa using h2
 have q3:(k==3)=false:=by simpa using h3
 have q4:(k==4)=false:=by simpa using h4
 clear h0 h1 h2 h3 h4
 go_enter Tryz.func67,Tryz.ntmps67
 go_wp2_with fail
 refine(HO.o _).mono ?_
 rintro e V1 ⟨rfl,hb⟩
 go_wp2_with fail
 go_ret
 exact⟨rfl,bel HB.o hb⟩
theorem aE6 (f d:Int)(nd:Nd)(v:Wd){a:Option Addr}{n cap q:Nat}{W:World}(hP:Knd.Ints W a n cap v.ps)(hw:(jL nd).wf)(hq:Knd.lW f d (jL nd)=some q)(hn:q < n) :
  Calls Tryz.prog 68 #[.agg (cK f d),.agg (gM v a n cap),.agg #[.int .i64 nd.back,.int .i64 nd.co,.int .i64 nd.x,.int .i64 nd.y]] W fun e W'=>e=.returned (.int .i64 (yI f d v nd))/\Below W.heap.size W W':=by
 have HN:=aA fun W=>Knd.iZ f d (jL nd) hw W
 unfold Knd.aMu at HN
 unfold yI
 rw[hq] at HN ⊢
 simp only[Option.getD_some,Option.isSome_some] at HN ⊢
 have hb1:=aC W (.cells (cK f d) 23)
 have hb2:=bel hb1 (aC (W.alloc (.cells (cK f d) 23)) (.cells (gM v a n cap) 45))
 have hb3:=bel hb2 (aC ((W.alloc (.cells (cK f d) 23)).alloc (.cells (gM v a n cap) 45)) (.cells #[.int .i64 nd.back,.int .i64 nd.co,.int .i64 nd.x,.int .i64 nd.y] 91))
 have HB:=aA hb3
 have HW0:Hid (aB (((W.alloc (.cells (cK f d) 23)).alloc (.cells (gM v a n cap) 45)).alloc (.cells #[.int .i64 nd.back,.int .i64 nd.co,.int .i64 nd.x,.int .i64 nd.y] 91)) (W.heap.size+1) 45 (gM v a n cap)):=by
  have:=(aB.new (W.alloc (.cells (cK f d) 23)) 45 (gM v a n cap)).alloc (.cells #[.int .i64 nd.back,.int .i64 nd.co,.int .i64 nd.x,.int .i64 nd.y] 91)
  simp only[World.size_alloc] at this
  exact aA this
 have HP:=aA (hP.later hb3)
 clear hb1 hb2 hb3 hP hw hq
 have i0:(0:Int)<=q:=by omega
 have i1:(q:Int) < n:=by omega
 obtain⟨z,hz⟩:∃ z,v.ps.getD q 0=z:=⟨_,rfl⟩
 rw[hz]
 go_enter Tryz.func68,Tryz.ntmps68
 go_wp2_with fail
 refine(HN.o _).mono ?_
 rintro e V1 ⟨rfl,hb⟩
 obtain⟨x0,x1,x2,x3⟩:=aD (HW0.o.below hb)
 obtain⟨b,off,rfl,-,hc⟩:=(HP.o.later hb).at (by omega)
 have c0:=hc q hn
 rw[hz] at c0
 have HB2:=aA (bel HB.o hb)
 clear hc hb HB HP HW0 HN hz
 go_wp2_with fail
 go_ret
 exact⟨rfl,HB2.o⟩
structure Ls (w W:World)(v:Value)(L:List Int):Prop where
 a:W.ownsRow w.heap.size 3 1 v L.length (jY L)
 bel:Below w.heap.size w W
theorem Ls.alloc {w W:World}{v:Value}{L:List Int}(h:Ls w W v L)(o:Obj):Ls w (W.alloc o) v L:=⟨h.a.alloc o,h.bel.alloc h.bel.size o⟩
theorem Ls.start (W:World):Ls W W (.slice none 0 0) []:=⟨⟨rfl,.inl ⟨rfl,rfl⟩⟩,Below.refl _ _⟩
theorem aQi {w W:World}{v:Value}{L:List Int}{ops:Array Oper}{rest:List Oper}{o:Oper}{a:Act}{Q:Exit->Act->World->Prop}
  (hgd:o.guard=none) (s x:Operand) (ho:o.op=.call { callee:=.builtin .append,args:=#[s,x],argTypes:=#[43,43] })
  (hs:a.eval s=v) (hen:Ls w W v L) (b:Nat) (p:Int) (hx:a.eval x=.slice (some ⟨b,0,none⟩) 1 1) (hc:aB W b 3 #[.int .i64 p]) (h3:L.length<=2000000)
  (h:∀ g cap w',Ls w w' (.slice (some ⟨g,0,none⟩) (L.length+1) cap) (L++[p])->wpList Tryz.prog ops Q rest (a.put o.dst (.slice (some ⟨g,0,none⟩) (L.length+1) cap)) w') :
  wpList Tryz.prog ops Q (o::rest) a W :=
 gN hgd s x ho hs hen.a hen.bel.size b p hx hc h3 fun g cap w' h1 h2 h4=>h g cap w' ⟨h1,h4 w hen.bel rfl⟩
theorem aQ8 {V:List Int}{n:Nd}{k:Nat}(hk:k < (bY n).length):((bY n).map fun p=>V.getD p.toNat 0).take (k+1)=((bY n).map fun p=>V.getD p.toNat 0).take k++[V.getD ((bY n).getD k 0).toNat 0]:=by
 rw[aH 0 (by simpa using hk)]
 congr 2
 simp[List.getD_eq_getElem?_getD,List.getElem?_map,List.getElem?_eq_getElem hk]
theorem aJ4 (n:Nd){BS:List Int}{i sl sc:Nat}{a:Option Addr}{V:List Int}{W:World}(hn:Wn BS i n)(h5:5<=n.op)(hS:Iz W a sl sc V)(hi:i<=sl) :
  Calls Tryz.prog 69 #[.agg (dZ n),.slice a sl sc] W fun e W'=>e=.returned (.int .i64 (opV V n))/\Below W.heap.size W W':=by
 obtain⟨k,hk⟩:∃ k:Nat,gQ n.op=k:=⟨(gQ n.op).toNat,by have:=hn.pr;omega⟩
 have h3:k<=3:=by
  have:gQ n.op<=3:=by unfold gQ mF;repeat' split <;> omega
  omega
 have har:mF n.op=k:=by rw[hn.ar (by omega),hk]
 have hsl:sl<=9223372036854775807:=by have:=hS.le;have:=hS.max;unfold maxLen at *;omega
 unfold opV
 have HPt:=aA fun j hj=>aCd (n:=n) (j:=j) hk h3 hj
 have HPl:=aA (sQ hk h3)
 have HPr:=aA hn.prt
 have HSg:=aA fun j hj=>aQ8 (V:=V) (n:=n) (k:=j) hj
 obtain⟨L,hL⟩:∃ L,((bY n).map fun p=>V.getD p.toNat 0)=L:=⟨_,rfl⟩
 have HLl:Hid (L.length=k):=aA (by rw[<-hL,List.length_map,HPl.o])
 rw[hL] at HSg ⊢
 have HA:=aA fun W=>bI n.op W
 rw[har] at HA
 have HB:=aA (aC W (.cells (dZ n) 93))
 have HN0:=aA (aB.new W 93 (dZ n))
 obtain⟨f0,f1,f2,f3,f4,f5,f6,f7,f8⟩:=(aB.new W 93 (dZ n)).nine
 have hz:W.heap.size < (W.alloc (.cells (dZ n) 93)).heap.size:=by simp
 have HS0:=aA (hS.later HB.o)
 clear hS hL har hk hn h5
 have hk0:(0:Int)<=k:=by omega
 have hk1:(k:Int)<=3:=by omega
 go_enter Tryz.func69,Tryz.ntmps69
 go_wp2_with fail
 go_region_held3 (fun w'=>w'.cell? ⟨W.heap.size,0,none⟩=some (.int .i64 n.op)/\w'.cell? ⟨W.heap.size,1,none⟩=some (.int .i64 n.a)/\w'.cell? ⟨W.heap.size,2,none⟩=some (.int .i64 n.b)/\w'.cell? ⟨W.heap.size,3,none⟩=some (.int .i64 n.c))
  (first|exact⟨f0,f1,f2,f3⟩|go_keep)
  ((first
   | (go_at_call 63;refine(HA.o _).mono ?_;rintro e w2 ⟨rfl,rfl⟩)))
 all_goals
  have h5:=aB.new (W.alloc (.cells (dZ n) 93)) 3 (ab3 n)
  rw[World.size_alloc] at h5
  have hb5:=(aC (W.alloc (.cells (dZ n) 93)) (.cells (ab3 n) 3)).drew
  have HG:=aA (h5.below (aF _))
  have HN1:=aA (HN0.o.below hb5)
  have HB1:=aA (bel HB.o hb5)
  have HS1:=aA (HS0.o.later hb5)
  clear h5 hb5 HB HN0 HS0 f0 f1 f2 f3 f4 f5 f6 f7 f8
  go_wp2_with fail
  obtain⟨V1,hV1⟩:∃ V1,((W.alloc (.cells (dZ n) 93)).alloc (.cells (ab3 n) 3)).drew=V1:=⟨_,rfl⟩
  rw[hV1] at HG HN1 HB1 HS1 ⊢
  have hgl:=HG.o.lt
  clear hV1 HA
  go_loopw [5,22] (fun v i wr=>∃ j:Nat,j<=k/\i=.int .i64 j/\Hid (Ls V1 wr v (L.take j))) (fun _ i _=>k-(intOf i).toNat)
  case atStart=>exact⟨0,Nat.zero_le _,rfl,aA (Ls.start V1)⟩
  case round =>
   obtain⟨j,hj,rfl,HE⟩:=hrel
   rename World=>V2
   by_cases hlt:j < k
   ·have cp:=(HG.o.below HE.o.bel).cell j (HPt.o j hlt).1
    obtain⟨p0,p1⟩:=HPr.o _ (HPt.o j hlt).2
    have HT:=aA (HSg.o j (by rw[HPl.o];exact hlt))
    obtain⟨q,hq⟩:∃ q:Nat,(bY n).getD j 0=(q:Int):=⟨((bY n).getD j 0).toNat,by omega⟩
    rw[hq] at cp p1 HT
    simp only[Int.toNat_natCast] at p1 HT
    obtain⟨b,off,rfl,hcq⟩:∃ b off,a=some ⟨b,off,none⟩/\V2.cell? ⟨b,off+q,none⟩=some (.int .i64 (V.getD q 0)):=by
     rcases(HS1.o.later HE.o.bel).cell with h0|⟨b,off,ha,hlb,hc⟩
     ·omega
     ·exact⟨b,off,ha,hc q (by omega)⟩
    generalize V.getD q 0=sv at *
    have j0:(0:Int)<=j:=by omega
    have j1:(j:Int) < k:=by omega
    have j2:(j:Int) < 3:=by omega
    have i0:(0:Int)<=q:=by omega
    have i1:(q:Int) < sl:=by omega
    have HJ:Hid ((L.take j).length=j):=aA (by rw[List.length_take,HLl.o];omega)
    clear p0 p1 hq
    go_wp2_with (at_builtin;refine aQi (w:=V1) (L:=L.take j) rfl _ _ rfl rfl (HE.o.alloc _) _ sv rfl (aB.new _ _ _) (by rw[HJ.o];omega) ?_;intro g2 cap2 w2 HE2;rw[HJ.o] at HE2 ⊢)
    go_roundw
    case rel=>exact⟨j+1,by omega,by go_num,aA (by rw[HT.o];exact HE2)⟩
    case measure=>simp[intOf];omega
   ·obtain rfl:j=k:=by omega
    have e:L.take j=L:=List.take_of_length_le (by rw[HLl.o];exact Nat.le_refl _)
    have HE1:=HE.o
    rw[e] at HE1
    obtain⟨va,vc,rfl,hA,-⟩:=Spn.Ints.of_owns HE1.a
    have hLl:=HLl.o
    rw[hLl] at hA ⊢
    have HOf:=aA (Spn.uO n.op 0 0 _ _ _ _ _ hA)
    have HB2:=aA (bel HB1.o HE1.bel)
    have x0:=(HN1.o.below HE1.bel).cell 0 rfl
    obtain⟨⟨vv,er⟩,hZ⟩:∃ Z,Spn.bE n.op 0 0 L=Z:=⟨_,rfl⟩
    rw[hZ] at HOf
    have HZ:=aA hZ
    clear hZ hA e HE HE1 hLl
    go_wp2_with fail
    refine HOf.o.mono ?_
    rintro e V3 ⟨rfl,hb⟩
    have HB3:=aA (bel HB2.o hb)
    clear hb
    go_wp2_with fail
    go_ret
    exact⟨by rw[HZ.o];rfl,HB3.o⟩
end Go.Proofs.YtjmfboegnmogdaaGreat
namespace Go.Proofs.YtjmfboegnmogdaaGreat
open Go.RowKit Go.IntWalk Lx Pz
variable {W:World} {BS D:List Int} {d f root:Int}
structure Bx (W V:World)(g:Nat)(kd tr wd:Array Value)(D:List Int):Prop where
 k:aB V W.heap.size 23 kd
 t:aB V (W.heap.size+1) 50 tr
 w:aB V (W.heap.size+1+1) 45 wd
 c:aB V g 3 (xD D)
 hg:W.heap.size+1+1 < g
 lo:Below W.heap.size W V
theorem Bx.below {W V V':World}{g:Nat}{kd tr wd:Array Value}{D:List Int}(h:Bx W V g kd tr wd D)(hb:Below V.heap.size V V'):Bx W V' g kd tr wd D :=
 ⟨h.k.below hb,h.t.below hb,h.w.below hb,h.c.below hb,h.hg,bel h.lo hb⟩
theorem Bx.put {V:World}{g i:Nat}{kd tr wd:Array Value}{Z:List Int}{q:Int}(h:Bx W V g kd tr wd (D++q::Z))(hk:D.length=i)(x:Int):Bx W (V.setCell ⟨g,i,none⟩ (.int .i64 x)) g kd tr wd (D++x::Z):=by
 have hg:=h.hg
 exact⟨h.k.other (p:=⟨g,i,none⟩) (by simp;omega) _,h.t.other (p:=⟨g,i,none⟩) (by simp;omega) _,h.w.other (p:=⟨g,i,none⟩) (by simp;omega) _,aCe h.c hk x,hg,h.lo.setCell (p:=⟨g,i,none⟩) (by simp;omega) _⟩
def AlP (w:World)(f d:Int)(v:Wd)(NM:List aQ)(BS:List Int)(NS:List Nd)(root:Int)(e:Ending)(W':World):Prop :=
 (evE f d v NM BS NS root≠0/\e=.returned (.tuple #[.slice none 0 0,.int .i64 (evE f d v NM BS NS root)])/\Below w.heap.size w W') \/
 (evE f d v NM BS NS root=0/\∃ g,e=.returned (.tuple #[.slice (some ⟨g,0,none⟩) NS.length NS.length,.int .i64 0])/\w.heap.size<=g/\aB W' g 3 (xD (vaR f d v BS NS []))/\Below w.heap.size w W')
theorem aMv {v:Wd}{p:Knd.Plc}(hF:Fits f d v){q:Nat}(hq:Knd.lW f d p=some q):q < v.ps.length:=by
 have h1:=Knd.kK f d
 have h2:=aBu _ _ _ (by omega) q hq
 have h3:=Knd.aEa f d
 have h4:=hF.2.1
 omega
theorem wI {NM:List aQ}{NS:List Nd}(h:nH f d NM BS NS root=0){n:Nd}(hn:n ∈ NS)(h3:n.op=3):∃ q,Knd.lW f d (jL n)=some q:=by
 unfold nH at h
 split at h
 ·cases h
 split at h
 ·cases h
 split at h
 ·cases h
 rename_i h1
 cases hq:Knd.lW f d (jL n) with
 | some q=>exact⟨q,rfl⟩
 | none =>
  exfalso
  apply h1
  rw[List.any_eq_true]
  exact⟨n,hn,by unfold ahB;rw[hq,h3];rfl⟩
theorem jH {NM:List aQ}{NS:List Nd}(h:nH f d NM BS NS root=0):qF NM BS NS root=true:=by
 unfold nH at h
 split at h
 ·cases h
 split at h
 ·cases h
 ·rename_i h1;simpa using h1
theorem aLm {NS:List Nd}{i:Nat}(h:i < NS.length):NS.getD i n0 ∈ NS:=by
 rw[List.getD_eq_getElem?_getD,List.getElem?_eq_getElem h];exact List.getElem_mem h
theorem aQ7 {Z:List Int}{n:Nd}(hn:Wn BS D.length n):opV (D++Z) n=opV D n:=by
 unfold opV
 congr 2
 apply List.map_congr_left
 intro p hp
 exact kR (hn.prt p hp).2
theorem aOo (f d:Int)(v:Wd){na ba da pa:Option Addr}{nl nc bl bc dl dc pl pc:Nat}{NM:List aQ}{NS:List Nd}(hX:Tx W na nl nc NM)(hB:Iz W ba bl bc BS)(hN:Nz W da dl dc NS)(hs:∀ s ∈ NM,s.length<=9223372036854775807)(hP:Knd.Ints W pa pl pc v.ps) :
  Calls Tryz.prog 38 #[.agg (cK f d),.agg (fD (.slice na nl nc) (.slice ba bl bc) (.slice da dl dc) (.int .i64 root)),.agg (gM v pa pl pc)] W (AlP W f d v NM BS NS root):=by
 have hb1:=aC W (.cells (cK f d) 23)
 have hb2:=bel hb1 (aC (W.alloc (.cells (cK f d) 23)) (.cells (fD (.slice na nl nc) (.slice ba bl bc) (.slice da dl dc) (.int .i64 root)) 50))
 have hb3:=bel hb2 (aC ((W.alloc (.cells (cK f d) 23)).alloc (.cells (fD (.slice na nl nc) (.slice ba bl bc) (.slice da dl dc) (.int .i64 root)) 50)) (.cells (gM v pa pl pc) 45))
 have HK0:=aA (((aB.new W 23 (cK f d)).alloc (.cells (fD (.slice na nl nc) (.slice ba bl bc) (.slice da dl dc) (.int .i64 root)) 50)).alloc (.cells (gM v pa pl pc) 45))
 have HT0:Hid (aB (((W.alloc (.cells (cK f d) 23)).alloc (.cells (fD (.slice na nl nc) (.slice ba bl bc) (.slice da dl dc) (.int .i64 root)) 50)).alloc (.cells (gM v pa pl pc) 45)) (W.heap.size+1) 50 (fD (.slice na nl nc) (.slice ba bl bc) (.slice da dl dc) (.int .i64 root))):=by
  have:=(aB.new (W.alloc (.cells (cK f d) 23)) 50 (fD (.slice na nl nc) (.slice ba bl bc) (.slice da dl dc) (.int .i64 root))).alloc (.cells (gM v pa pl pc) 45)
  simp only[World.size_alloc] at this
  exact aA this
 have HW0:Hid (aB (((W.alloc (.cells (cK f d) 23)).alloc (.cells (fD (.slice na nl nc) (.slice ba bl bc) (.slice da dl dc) (.int .i64 root)) 50)).alloc (.cells (gM v pa pl pc) 45)) (W.heap.size+1+1) 45 (gM v pa pl pc)):=by
  have:=aB.new ((W.alloc (.cells (cK f d) 23)).alloc (.cells (fD (.slice na nl nc) (.slice ba bl bc) (.slice da dl dc) (.int .i64 root)) 50)) 45 (gM v pa pl pc)
  simp only[World.size_alloc] at this
  exact aA this
 have HB0:=aA hb3
 have HCk:=aA (kM f d (root:=root) (hX.later hb3) (hB.later hb3) (hN.later hb3) hs)
 have HBI:=aA hB
 have HNI:=aA hN
 have HPI:=aA hP
 have HLN:=aA hN.len
 have HLB:=aA hB.len
 have HLP:=aA hP.len
 clear hb1 hb2 hb3 hX hB hN hP
 go_enter Tryz.func38,Tryz.ntmps38
 go_wp2_with fail
 refine HCk.o.mono ?_
 rintro e V1 (⟨he,rfl,hb⟩|⟨he,g,rfl,-,-,hb⟩)
 ·obtain⟨er,hZ⟩:∃ er,nH f d NM BS NS root=er:=⟨_,rfl⟩
  have hev:evE f d v NM BS NS root=er:=by unfold evE;rw[if_neg he,hZ]
  rw[hZ] at he ⊢
  have HE:=aA he
  have HV:=aA hev
  have h1:(er != 0)=true:=by simpa using he
  have HB1:=aA (bel HB0.o hb)
  clear he hev hZ hb HB0 HCk HK0 HT0 HW0
  go_wp2_with fail
  exact bodyPost_ret (v:=.tuple #[.slice none 0 0,.int .i64 er]) (by simp[results,Tryz.results38,go_sem]) rfl (.inl (by rw[HV.o];exact⟨HE.o,rfl,bel HB1.o (aC _ _)⟩))
 ·have HE:=aA he
  have HB1:=aA (bel (bel HB0.o hb) (aC V1 (.cells #[.slice (some ⟨g,0,none⟩) NS.length NS.length,.int .i64 (vM NS),.int .i64 (mxR (tJ BS NS []))] 35)))
  have HK1:=aA ((HK0.o.below hb).alloc (.cells #[.slice (some ⟨g,0,none⟩) NS.length NS.length,.int .i64 (vM NS),.int .i64 (mxR (tJ BS NS []))] 35))
  have HT1:=aA ((HT0.o.below hb).alloc (.cells #[.slice (some ⟨g,0,none⟩) NS.length NS.length,.int .i64 (vM NS),.int .i64 (mxR (tJ BS NS []))] 35))
  have HW1:=aA ((HW0.o.below hb).alloc (.cells #[.slice (some ⟨g,0,none⟩) NS.length NS.length,.int .i64 (vM NS),.int .i64 (mxR (tJ BS NS []))] 35))
  have HF:=aA fun w h=>Knd.aDg f d v.x v.y v.c pa pl pc v.ps w h
  obtain⟨k0,k1,-,-⟩:=aR (HK0.o.below hb)
  obtain⟨w0,w1,w2,w3⟩:=aD (HW0.o.below hb)
  have hz1:=(HW0.o.below hb).lt
  have hz0:=(HK0.o.below hb).lt
  clear hb he HB0 HCk HK0 HT0 HW0
  generalize vM NS=co at *
  generalize mxR (tJ BS NS [])=mx at *
  go_wp2_with fail
  refine(HF.o _ (HPI.o.later HB1.o)).mono ?_
  rintro e V2 ⟨rfl,hb⟩
  have HK2:=aA (HK1.o.below hb)
  have HT2:=aA (HT1.o.below hb)
  have HW2:=aA (HW1.o.below hb)
  have HB2:=aA (bel HB1.o hb)
  clear hb HK1 HT1 HW1 HB1 HF k0 k1 w0 w1 w2 w3 hz1 hz0
  have hev:evE f d v NM BS NS root=Knd.vE f d v.x v.y v.c v.ps:=by unfold evE;rw[if_pos HE.o]
  have HV:=aA hev
  clear hev
  rcases dW f d v with⟨hF,h0⟩|⟨hF,h1⟩
  ·rw[h0]
   rw[h0] at HV
   obtain⟨es,ex,hD⟩:=jX.1 (jH HE.o)
   have HW:=aA hD.wl
   have hfew:=hD.few
   rw[HLN.o] at hfew
   have hmk:=sK dl hfew
   have HNm:=aA fun(n:Nd) hn h3=>wI HE.o (n:=n) hn h3
   have HNl:=aA fun(p:Knd.Plc) q hq=>aMv hF (p:=p) (q:=q) hq
   clear hD h0 hF HE
   obtain⟨t0,t1,t2,t3⟩:=aD HT2.o
   have hzt:=HT2.o.lt
   have hzw:=HW2.o.lt
   have HBx:Hid (Bx W (V2.alloc (.cells (xD (List.replicate dl 0)) 3)) V2.heap.size (cK f d) (fD (.slice na nl nc) (.slice ba bl bc) (.slice da dl dc) (.int .i64 root)) (gM v pa pl pc) (List.replicate dl 0)) :=
    ⟨HK2.o.alloc _,HT2.o.alloc _,HW2.o.alloc _,aB.new _ _ _,hzw,bel HB2.o (aC _ _)⟩
   have hgz:=HBx.o.hg
   clear HK2 HT2 HW2 HB2
   go_wp2_with fail
   generalize V2.heap.size=gv at *
   go_loopw [36] (fun i wr=>∃(k:Nat) (D:List Int),k<=dl/\i=.int .i64 k/\Hid (vaR f d v BS (NS.take k) []=D)/\Hid (Bx W wr gv (cK f d) (fD (.slice na nl nc) (.slice ba bl bc) (.slice da dl dc) (.int .i64 root)) (gM v pa pl pc) (D++List.replicate (dl-k) 0))) (fun i _=>dl-(intOf i).toNat)
   case atStart=>exact⟨0,[],Nat.zero_le _,rfl,aA rfl,HBx⟩
   case round =>
    obtain⟨k,D,hk,rfl,HD,HX⟩:=hrel
    rename World=>V
    clear t0 t1 t2 t3 hmk
    by_cases hlt:k < dl
    ·obtain⟨g,off,rfl,hat⟩:=(HNI.o.later HX.o.lo).at (by omega)
     obtain⟨e0,e1,e2,e3,e4,e5,e6,e7,e8⟩:=hat k hlt
     clear hat
     have hi0:(0:Int)<=k:=by omega
     have hi1:(k:Int) < dl:=by omega
     have hDl:D.length=k:=by rw[<-HD.o,aC0];simp;rw[HLN.o];omega
     have HDl:=aA hDl
     have HWn:=aA (aA3 HW.o (by rw[HLN.o];exact hlt:k < NS.length))
     rw[Nat.zero_add] at HWn
     have HD2:=aA (aOn f d v BS (NS.take k) (NS.getD k n0) [])
     rw[<-aH n0 (by rw[HLN.o];exact hlt),HD.o] at HD2
     have hmem:=aLm (NS:=NS) (i:=k) (by rw[HLN.o];exact hlt)
     rw[uG hlt] at HX
     have hz1:gv < V.heap.size:=HX.o.c.lt
     have y0:=HX.o.c.frozen k
     have da:=HX.o.c.cell k (eT _ k (by simp;omega))
     have HNk:=aA (HNm.o _ hmem)
     clear hmem
     generalize NS.getD k n0=n at *
     by_cases ho1:n.op=1
     ·have q1:(n.op==1)=true:=by simpa using ho1
      have hva:zL f d v BS D n=n.k:=by unfold zL;rw[if_neg (by omega),if_pos ho1]
      rw[hva] at HD2
      have HX2:=aA ((HX.o.put hDl n.k).below (aC _ (.cells (dZ n) 93)))
      clear hva ho1 HNk HWn hDl
      go_wp2_with fail
      go_roundw
      case rel=>exact⟨k+1,D++[n.k],by omega,by go_num,aA HD2.o,aA (by rw[List.append_assoc];exact HX2.o)⟩
      case measure=>simp[intOf];omega
     have q1:(n.op==1)=false:=by simpa using ho1
     by_cases ho2:n.op=2
     ·have q2:(n.op==2)=true:=by simpa using ho2
      have hva:zL f d v BS D n=inpV f d v n.k:=by unfold zL;rw[if_neg (by omega),if_neg ho1,if_pos ho2]
      rw[hva] at HD2
      have HI:=aA fun w=>aGt f d n.k v pa pl pc w
      generalize inpV f d v n.k=z at *
      have HX1:=aA (HX.o.below (aC V (.cells (dZ n) 93)))
      obtain⟨k0,k1,-,-⟩:=aR HX.o.k
      obtain⟨w0,w1,w2,w3⟩:=aD HX.o.w
      have hz2:=HX.o.k.lt
      have hz3:=HX.o.w.lt
      clear hva ho1 ho2 HNk HWn hDl y0 da
      go_wp2_with fail
      refine(HI.o _).mono ?_
      rintro e V3 ⟨rfl,hb⟩
      have HX3:=aA (HX1.o.below hb)
      have y0:=HX3.o.c.frozen k
      have da:=HX3.o.c.cell k (eT _ k (by have:=HDl.o;simp;omega))
      have HX2:=aA (HX3.o.put HDl.o z)
      clear hb HX1 HI k0 k1 w0 w1 w2 w3 hz2 hz3 e0 e1 e2 e3 e4 e5 e6 e7 e8
      go_wp2_with fail
      go_roundw
      case rel=>exact⟨k+1,D++[z],by omega,by go_num,aA HD2.o,aA (by rw[List.append_assoc];exact HX2.o)⟩
      case measure=>simp[intOf];omega
     have q2:(n.op==2)=false:=by simpa using ho2
     by_cases ho3:n.op=3
     ·have q3:(n.op==3)=true:=by simpa using ho3
      have hva:zL f d v BS D n=yI f d v n:=by unfold zL;rw[if_neg (by omega),if_neg ho1,if_neg ho2,if_pos ho3]
      rw[hva] at HD2
      obtain⟨q,hq⟩:=HNk.o ho3
      have hql:=HNl.o _ q hq
      have HI:=aA (aE6 f d n v (q:=q) ((HPI.o.later HX.o.lo).later (aC V (.cells (dZ n) 93))) HWn.o.wf hq (by rw[<-HLP.o];exact hql))
      generalize yI f d v n=z at *
      have HX1:=aA (HX.o.below (aC V (.cells (dZ n) 93)))
      obtain⟨k0,k1,-,-⟩:=aR HX.o.k
      obtain⟨w0,w1,w2,w3⟩:=aD HX.o.w
      have hz2:=HX.o.k.lt
      have hz3:=HX.o.w.lt
      clear hva ho1 ho2 ho3 HNk HWn hDl y0 da hq hql
      go_wp2_with fail
      refine HI.o.mono ?_
      rintro e V3 ⟨rfl,hb⟩
      have HX3:=aA (HX1.o.below hb)
      have y0:=HX3.o.c.frozen k
      have da:=HX3.o.c.cell k (eT _ k (by have:=HDl.o;simp;omega))
      have HX2:=aA (HX3.o.put HDl.o z)
      clear hb HX1 HI k0 k1 w0 w1 w2 w3 hz2 hz3 e0 e1 e2 e3 e4 e5 e6 e7 e8
      go_wp2_with fail
      go_roundw
      case rel=>exact⟨k+1,D++[z],by omega,by go_num,aA HD2.o,aA (by rw[List.append_assoc];exact HX2.o)⟩
      case measure=>simp[intOf];omega
     have q3:(n.op==3)=false:=by simpa using ho3
     by_cases ho4:n.op=4
     ·have q4:(n.op==4)=true:=by simpa using ho4
      have hva:zL f d v BS D n=D.getD (BS.getD n.k.toNat 0).toNat 0:=by unfold zL;rw[if_pos ho4]
      rw[hva] at HD2
      obtain⟨u0,u1,u2,u3⟩:=HWn.o.use ho4
      obtain⟨kk,hkk⟩:∃ kk:Nat,n.k=(kk:Int):=⟨n.k.toNat,by omega⟩
      rw[hkk] at e4 u1 u2 u3 HD2
      simp only[Int.toNat_natCast] at u1 u2 u3 HD2
      obtain⟨bb,boff,rfl,hbb,hbc⟩:∃ b off,ba=some ⟨b,off,none⟩/\b < V.heap.size/\V.cell? ⟨b,off+kk,none⟩=some (.int .i64 (BS.getD kk 0)):=by
       rcases(HBI.o.later HX.o.lo).cell with h0|⟨b,off,ha,hlb,hc⟩
       ·rw[HLB.o] at u1;omega
       ·exact⟨b,off,ha,hlb,hc kk (by rw[<-HLB.o];exact u1)⟩
      obtain⟨q,hq⟩:∃ q:Nat,BS.getD kk 0=(q:Int):=⟨(BS.getD kk 0).toNat,by omega⟩
      rw[hq] at hbc u3 HD2
      simp only[Int.toNat_natCast] at u3 HD2
      have s0:=eT (D++0::List.replicate (dl-(k+1)) 0) q (by simp;omega)
      rw[kR (by rw[hDl];exact u3)] at s0
      have d0:=HX.o.c.cell q s0
      generalize D.getD q 0=z at *
      have HX2:=aA ((HX.o.put hDl z).below (aC _ (.cells #[.int .i64 n.op,.int .i64 n.a,.int .i64 n.b,.int .i64 n.c,.int .i64 kk,.int .i64 n.back,.int .i64 n.co,.int .i64 n.x,.int .i64 n.y] 93)))
      have t1:=HX.o.t.cell 1 rfl
      have hz2:=HX.o.t.lt
      have w0:(kk:Int) < bl:=by have:=HLB.o;omega
      have w1:(q:Int) < dl:=by omega
      have w2:(0:Int)<=kk:=by omega
      have w3:(0:Int)<=q:=by omega
      clear s0 hq u0 u1 u2 u3 hva HNk HWn hDl ho1 ho2 ho3 ho4
      go_wp2_with fail
      go_roundw
      case rel=>exact⟨k+1,D++[z],by omega,by go_num,aA HD2.o,aA (by rw[List.append_assoc];exact HX2.o)⟩
      case measure=>simp[intOf];omega
     have q4:(n.op==4)=false:=by simpa using ho4
     have hva:zL f d v BS D n=opV D n:=by unfold zL;rw[if_neg ho4,if_neg ho1,if_neg ho2,if_neg ho3]
     rw[hva] at HD2
     have HX1:=aA (HX.o.below (aC V (.cells (dZ n) 93)))
     have hlen:(D++0::List.replicate (dl-(k+1)) 0).length=dl:=by simp;omega
     have HZ:=aFp HX1.o.c (by rw[hlen];exact hfew)
     rw[hlen] at HZ
     have HI:=aA (aJ4 n HWn.o (by have:=HWn.o.lo;omega) HZ (by omega))
     rw[aQ7 (by rw[hDl];exact HWn.o)] at HI
     generalize opV D n=z at *
     clear HZ hlen hva ho1 ho2 ho3 ho4 HNk HWn hDl y0 da
     go_wp2_with fail
     refine HI.o.mono ?_
     rintro e V3 ⟨rfl,hb⟩
     have HX3:=aA (HX1.o.below hb)
     have y0:=HX3.o.c.frozen k
     have da:=HX3.o.c.cell k (eT _ k (by have:=HDl.o;simp;omega))
     have HX2:=aA (HX3.o.put HDl.o z)
     clear hb HX1 HI e0 e1 e2 e3 e4 e5 e6 e7 e8
     go_wp2_with fail
     go_roundw
     case rel=>exact⟨k+1,D++[z],by omega,by go_num,aA HD2.o,aA (by rw[List.append_assoc];exact HX2.o)⟩
     case measure=>simp[intOf];omega
    ·obtain rfl:k=dl:=by omega
     have e1:NS.take k=NS:=List.take_of_length_le (by rw[HLN.o];exact Nat.le_refl _)
     have hD:=HD.o
     rw[e1] at hD
     have HX2:=HX.o
     rw[Nat.sub_self,List.replicate_zero,List.append_nil] at HX2
     have HR:=aA hD
     clear hD e1
     go_wp2_with fail
     exact bodyPost_ret (v:=.tuple #[.slice (some ⟨gv,0,none⟩) k k,.int .i64 0]) (by simp[results,Tryz.results38,go_sem]) rfl (.inr ⟨HV.o,gv,by rw[HLN.o],by omega,by rw[HR.o];exact HX2.c,HX2.lo⟩)
  ·rw[h1]
   rw[h1] at HV
   clear h1 hF HE
   go_wp2_with fail
   exact bodyPost_ret (v:=.tuple #[.slice none 0 0,.int .i64 1]) (by simp[results,Tryz.results38,go_sem]) rfl (.inl (by rw[HV.o];exact⟨by decide,rfl,HB2.o⟩))
end Go.Proofs.YtjmfboegnmogdaaGreat
namespace Go.Proofs.YtjmfboegnmogdaaGreat
open Go.RowKit Go.IntWalk Lx Pz
theorem jC {NM:List aQ}{BS:List Int}{NS:List Nd}{root:Int}(h:qF NM BS NS root=true):0<=root/\root.toNat < NS.length/\NS.length<=1024:=by
 obtain⟨es,ex,hD⟩:=jX.1 h
 have h1:=hD.root
 have h2:1<=NS.length:=by rw[hD.nodes,List.length_append,E.flat_len];have:=ex.size_pos;omega
 have:=hD.few
 omega
theorem aA1 (f d:Int)(v:Wd){W:World}{na ba da pa:Option Addr}{nl nc bl bc dl dc pl pc:Nat}{root:Int}{NM:List aQ}{BS:List Int}{NS:List Nd}(hX:Tx W na nl nc NM)(hB:Iz W ba bl bc BS)(hN:Nz W da dl dc NS)(hs:∀ s ∈ NM,s.length<=9223372036854775807)(hP:Knd.Ints W pa pl pc v.ps) :
  Calls Tryz.prog 14 #[.agg (cK f d),.agg (fD (.slice na nl nc) (.slice ba bl bc) (.slice da dl dc) (.int .i64 root)),.agg (gM v pa pl pc)] W fun e W' =>
   e=.returned (.tuple #[.int .i64 (evV f d v NM BS NS root),.int .i64 (evE f d v NM BS NS root)])/\Below W.heap.size W W':=by
 have hb1:=aC W (.cells (cK f d) 23)
 have hb2:=bel hb1 (aC (W.alloc (.cells (cK f d) 23)) (.cells (fD (.slice na nl nc) (.slice ba bl bc) (.slice da dl dc) (.int .i64 root)) 50))
 have hb3:=bel hb2 (aC ((W.alloc (.cells (cK f d) 23)).alloc (.cells (fD (.slice na nl nc) (.slice ba bl bc) (.slice da dl dc) (.int .i64 root)) 50)) (.cells (gM v pa pl pc) 45))
 have HT0:Hid (aB (((W.alloc (.cells (cK f d) 23)).alloc (.cells (fD (.slice na nl nc) (.slice ba bl bc) (.slice da dl dc) (.int .i64 root)) 50)).alloc (.cells (gM v pa pl pc) 45)) (W.heap.size+1) 50 (fD (.slice na nl nc) (.slice ba bl bc) (.slice da dl dc) (.int .i64 root))):=by
  have:=(aB.new (W.alloc (.cells (cK f d) 23)) 50 (fD (.slice na nl nc) (.slice ba bl bc) (.slice da dl dc) (.int .i64 root))).alloc (.cells (gM v pa pl pc) 45)
  simp only[World.size_alloc] at this
  exact aA this
 have HB0:=aA hb3
 have HA:=aA (aOo f d v (root:=root) (hX.later hb3) (hB.later hb3) (hN.later hb3) hs (hP.later hb3))
 clear hb1 hb2 hb3 hX hB hN hP
 obtain⟨R,hR⟩:∃ R,evV f d v NM BS NS root=R:=⟨_,rfl⟩
 obtain⟨E,hE⟩:∃ E,evE f d v NM BS NS root=E:=⟨_,rfl⟩
 rw[hR,hE]
 have HR:=aA hR
 have HE:=aA hE
 clear hR hE
 go_enter Tryz.func14,Tryz.ntmps14
 go_wp2_with fail
 refine HA.o.mono ?_
 rintro e V1 (⟨he,rfl,hb⟩|⟨he,g,rfl,-,hG,hb⟩)
 ·rw[HE.o] at he ⊢
  have h1:(E != 0)=true:=by simpa using he
  have hz:R=0:=by rw[<-HR.o];unfold evV;rw[HE.o,if_neg he]
  subst hz
  have HB1:=aA (bel HB0.o hb)
  clear hb he HA HB0 HT0
  go_wp2_with fail
  go_ret2
  exact⟨rfl,HB1.o⟩
 ·have h2:=HE.o
  rw[he] at h2
  subst h2
  obtain⟨r0,r1,r2⟩:=jC (jH (wT.1 he).1)
  have hr:R=(vaR f d v BS NS []).getD root.toNat 0:=by rw[<-HR.o];unfold evV;rw[if_pos he]
  obtain⟨q,rfl⟩:∃ q:Nat,root=q:=⟨root.toNat,by omega⟩
  simp only[Int.toNat_natCast] at r1 hr
  have s0:=eT (vaR f d v BS NS []) q (by rw[aC0];simpa using r1)
  rw[<-hr] at s0
  have c0:=hG.cell q s0
  have t3:=(HT0.o.below hb).cell 3 rfl
  have HB1:=aA (bel HB0.o hb)
  have i0:(0:Int)<=q:=by omega
  have i1:(q:Int) < NS.length:=by omega
  clear hb he HA HB0 HT0 s0 hr hG r0 r1 r2 HE HR
  go_wp2_with fail
  go_ret2
  exact⟨rfl,HB1.o⟩
theorem aHw {W:World}{base size b n:Nat}{t e:TypeId}{v:Value}{xs:List Value}{cs:Array Value}(h:W.ownsRow base e size v n xs)(hb:aB W b t cs)(ht:t≠e):v.ownBlock≠some b:=by
 intro hk
 obtain⟨-,cs',fr,h2⟩:=aN h b hk
 rw[hb] at h2
 cases h2
 exact ht rfl
theorem mR {V:World}{base b:Nat}{e t:TypeId}{size n:Nat}{v:Value}{xs:List Value}{cs:Array Value}(h:V.ownsRow base e size v n xs)(hb:aB V b t cs)(ht:t≠e)(i:Nat)(x:Value):(V.setCell ⟨b,i,none⟩ x).ownsRow base e size v n xs:=by
 refine ownsRow_setCell_other h (a:=⟨b,i,none⟩) ?_ x
 exact aHw h hb ht
abbrev wd0 (v:Value):Array Value:=#[.int .i64 0,.int .i64 0,.int .i64 0,v]
end Go.Proofs.YtjmfboegnmogdaaGreat
namespace Go.Proofs.YtjmfboegnmogdaaGreat
open Lx Pz
def w32 (a:Int):Prop:=-2147483648<=a/\a<=2147483647
end Go.Proofs.YtjmfboegnmogdaaGreat
namespace Go.Proofs.YtjmfboegnmogdaaGreat
open Go.RowKit Go.IntWalk Lx Pz
def awL:List Int:=((List.replicate 44 10).set 16 7).set 10 30
end Go.Proofs.YtjmfboegnmogdaaGreat
namespace Go.Proofs.YtjmfboegnmogdaaGreat
open Lx Pz
theorem aLf {f d:Int}{v:Wd}(h:Fits f d v):Knd.May f d:=by
 obtain⟨⟨⟨⟨lo,hi,hz,-⟩,-⟩,-⟩,-⟩:=h
 apply Classical.byContradiction
 intro hm
 unfold Knd.fQ at hz
 rw[if_pos hm] at hz
 cases hz
def rG (V:List Int)(S:dK):Prop:=V.length=S.length/\∀ i,i < S.length->(S.getD i (0,0)).1<=V.getD i 0/\V.getD i 0<=(S.getD i (0,0)).2/\w32 (V.getD i 0)
theorem rG.snoc {V:List Int}{S:dK}{x:Int}{p:Int × Int}(h:rG V S)(h1:p.1<=x)(h2:x<=p.2)(h3:w32 x):rG (V++[x]) (S++[p]):=by
 have hl:=h.1
 refine⟨by simp[hl],fun i hi=>?_⟩
 simp only[List.length_append,List.length_cons,List.length_nil] at hi
 by_cases e:i < S.length
 ·rw[dH e,kR (by omega)]
  exact h.2 i e
 ·have e2:i=S.length:=by omega
  subst e2
  rw[show (S++[p]).getD S.length (0,0)=p by simp[List.getD_eq_getElem?_getD],show (V++[x]).getD S.length 0=x by rw[<-hl];simp[List.getD_eq_getElem?_getD]]
  exact⟨h1,h2,h3⟩
theorem rG.ins {V:List Int}{S:dK}(h:rG V S):∀(P:List Int),(∀ p ∈ P,p.toNat < S.length)->Spn.Ins (P.map fun p=>V.getD p.toNat 0) (P.map fun p=>S.getD p.toNat (0,0))
 | [],_=>trivial
 | p::P,hp=>by
  obtain⟨h1,h2,-⟩:=h.2 p.toNat (hp p (by simp))
  exact⟨⟨h1,h2⟩,rG.ins h P fun q hq=>hp q (by simp[hq])⟩
theorem iW (f d:Int):w32 (Knd.dX f d)/\w32 (Knd.bK f d)/\w32 (Knd.aX f d):=by
 rcases Knd.kT f d with⟨hm,rfl⟩|⟨hm,rfl⟩|hm
 ·have:=Knd.kX (d-1) (by have:=hm.2.2;omega)
  obtain⟨a,b,c,-⟩:=Knd.zs0 hm
  rw[a,b,c];unfold w32;omega
 ·have:=Knd.kX (d-1) (by have:=hm.2.2;omega)
  obtain⟨a,b,c,-⟩:=Knd.zs1 hm
  rw[a,b,c];unfold w32;omega
 ·obtain⟨a,b,c,-⟩:=Knd.zs2 hm
  rw[a,b,c];unfold w32;omega
theorem vX {op k s x:Int}{xs:List Int}(h:Spn.bE op k s xs=(x,0)):w32 x:=by
 unfold Spn.bE at h
 split at h
 ·split at h
  ·split at h
   ·rename_i hw
    cases h
    exact Spn.bR.1 hw
   ·cases h
  ·rename_i h1
   exact absurd (congrArg Prod.snd h) h1
 ·cases h
theorem aBe (f:Int):Knd.kN f<=2147483647/\Knd.kZ f<=2147483647:=by
 unfold Knd.kN Knd.kZ
 constructor <;> (repeat' split) <;> omega
theorem aFw {f d k:Int}{v:Wd}(hF:Fits f d v)(h0:0<=k)(h5:k<=5):((Knd.fQ f d k).getD (0,0)).1<=inpV f d v k/\inpV f d v k<=((Knd.fQ f d k).getD (0,0)).2/\w32 (inpV f d v k):=by
 have hm:=aLf hF
 obtain⟨⟨⟨⟨a1,a2,e1,g1,g2⟩,⟨b1,b2,e2,g3,g4⟩⟩,⟨c1,c2,e3,g5,g6⟩⟩,-⟩:=hF
 obtain⟨w1,w2,w3⟩:=iW f d
 have hcr:=aBe f
 rcases(show k=0\/k=1\/k=2\/k=3\/k=4\/k=5 by omega) with rfl|rfl|rfl|rfl|rfl|rfl
 ·rw[e1]
  have e:Knd.fQ f d 0=some (0,Knd.kN f-1):=by unfold Knd.fQ;rw[if_neg (by simpa using hm)];rfl
  rw[e] at e1
  cases e1
  exact⟨g1,g2,by show w32 v.x;unfold w32;omega⟩
 ·rw[e2]
  have e:Knd.fQ f d 1=some (0,Knd.kZ f-1):=by unfold Knd.fQ;rw[if_neg (by simpa using hm)];rfl
  rw[e] at e2
  cases e2
  exact⟨g3,g4,by show w32 v.y;unfold w32;omega⟩
 ·rw[e3]
  have e:Knd.fQ f d 2=some (0,3):=by unfold Knd.fQ;rw[if_neg (by simpa using hm)];rfl
  rw[e] at e3
  cases e3
  exact⟨g5,g6,by show w32 v.c;unfold w32;omega⟩
 ·have e:Knd.fQ f d 3=some (Knd.dX f d,Knd.dX f d):=by unfold Knd.fQ;rw[if_neg (by simpa using hm)];rfl
  rw[e];exact⟨Int.le_refl _,Int.le_refl _,w1⟩
 ·have e:Knd.fQ f d 4=some (Knd.bK f d,Knd.bK f d):=by unfold Knd.fQ;rw[if_neg (by simpa using hm)];rfl
  rw[e];exact⟨Int.le_refl _,Int.le_refl _,w2⟩
 ·have e:Knd.fQ f d 5=some (Knd.aX f d,Knd.aX f d):=by unfold Knd.fQ;rw[if_neg (by simpa using hm)];rfl
  rw[e];exact⟨Int.le_refl _,Int.le_refl _,w3⟩
theorem aV2 {f d:Int}{v:Wd}{n:Nd}(hF:Fits f d v)(hn:∃ q,Knd.lW f d (jL n)=some q):Knd.dX f d<=yI f d v n/\yI f d v n<=Knd.bK f d/\w32 (yI f d v n):=by
 obtain⟨q,hq⟩:=hn
 have hl:=aMv hF hq
 have h:=hF.2.2 (yI f d v n) (by
  unfold yI
  rw[hq,Option.getD_some,List.getD_eq_getElem?_getD,List.getElem?_eq_getElem hl]
  exact List.getElem_mem hl)
 obtain⟨w1,w2,-⟩:=iW f d
 exact⟨h.1,h.2,by unfold w32 at *;omega⟩
theorem aWj {f d:Int}{v:Wd}{BS V:List Int}{S:dK}{n:Nd}(hF:Fits f d v)(hI:rG V S)(hn:Wn BS S.length n)(ha:n.op=3->∃ q,Knd.lW f d (jL n)=some q)(h:(qZ f d BS S n).2=0) :
  (qZ f d BS S n).1.1<=zL f d v BS V n/\zL f d v BS V n<=(qZ f d BS S n).1.2/\w32 (zL f d v BS V n):=by
 unfold zL
 unfold qZ at h ⊢
 by_cases h4:n.op=4
 ·rw[if_pos h4] at h ⊢
  rw[if_pos h4]
  exact hI.2 _ (hn.use h4).2.2.2
 rw[if_neg h4] at h ⊢
 rw[if_neg h4]
 by_cases h1:n.op=1
 ·rw[if_pos h1] at h ⊢
  rw[if_pos h1]
  have:=hn.num h1
  exact⟨Int.le_refl _,Int.le_refl _,by unfold w32;omega⟩
 rw[if_neg h1] at h ⊢
 rw[if_neg h1]
 by_cases h2:n.op=2
 ·rw[if_pos h2] at h ⊢
  rw[if_pos h2]
  exact aFw hF (hn.inp h2).1 (hn.inp h2).2
 rw[if_neg h2] at h ⊢
 rw[if_neg h2]
 by_cases h3:n.op=3
 ·rw[if_pos h3] at h ⊢
  rw[if_pos h3]
  exact aV2 hF (ha h3)
 rw[if_neg h3] at h ⊢
 rw[if_neg h3]
 obtain⟨x,h5,h6,h7⟩:=Spn.tQ (Prod.ext rfl h:Spn.ofZ n.op 0 0 ((bY n).map fun p=>S.getD p.toNat (0,0))=((_,_),0)) (hI.ins (bY n) fun p hp=>(hn.prt p hp).2)
 unfold opV
 rw[h5]
 exact⟨h6,h7,vX h5⟩
end Go.Proofs.YtjmfboegnmogdaaGreat
namespace Go.Proofs.YtjmfboegnmogdaaGreat
open Go.RowKit Go.IntWalk Lx Pz
theorem aSi (W:World):Tx W none 0 0 []:=⟨rfl,Nat.le_refl _,Nat.zero_le _,.inl rfl⟩
theorem aQe (W:World):Iz W none 0 0 []:=⟨rfl,Nat.le_refl _,Nat.zero_le _,.inl rfl⟩
theorem aQ0 (W:World):Nz W none 0 0 []:=⟨rfl,Nat.le_refl _,Nat.zero_le _,.inl rfl⟩
theorem xW (s:ByteArray)(w:World):Calls Tryz.prog 11 #[.string s] w fun e W' =>
  ∃ NM BS NS root na nl nc ba bl bc da dl dc er,e=.returned (.tuple #[.agg (fD (.slice na nl nc) (.slice ba bl bc) (.slice da dl dc) (.int .i64 root)),.int .i64 er]) /\
   (er≠0->qF NM BS NS root=false)/\(∀ s ∈ NM,s.length<=9223372036854775807)/\Tx W' na nl nc NM/\Iz W' ba bl bc BS/\Nz W' da dl dc NS/\Below w.heap.size w W':=by
 refine(aF7 s w).mono ?_
 rintro e W1 (⟨h1,h2⟩|⟨A,NM,es,ex,na,nc,ba,bc,da,dc,ha,hg,hD,rfl,hX,hI,hN,hb⟩)
 ·exact⟨[],[],[],0,none,0,0,none,0,0,none,0,0,10,h1,fun _=>by decide,by simp,aSi _,aQe _,aQ0 _,h2⟩
 ·exact⟨NM,_,_,_,na,_,nc,ba,_,bc,da,_,dc,0,rfl,fun h=>absurd rfl h,aMs hD.ok,hX,hI,hN,hb⟩
end Go.Proofs.YtjmfboegnmogdaaGreat

import Derived.Test.YtihbhbeaihdgnaaGreatXH
import Derived.Deep.AppendLies
import Derived.ArgAppend
import Derived.Deep.LoopGhost
import Derived.WalkMore
import Derived.Deep.QuietTactic
import Derived.BigQuiet
import Derived.Test.YtihbhbeaihdgnaaGreatX00
set_option maxRecDepth 100000
set_option maxHeartbeats 32000000
set_option linter.unusedVariables false
namespace Go.Proofs.YtihbhbeaihdgnaaGreat
open Go.RowKit Go.IntWalk Lx
variable {W w:World} {v:Value} {n:Nat}
theorem aWu:(Tryz.prog.info? 118).map (fun i=>(i.zero,i.size,i.bytes))=some (some (.agg #[.int .i64 0,.string ⟨#[]⟩,.int .i64 0]),3,32):=by kernel_rfl
abbrev sB (l:List UInt8):ByteArray:=⟨l.toArray⟩
theorem aEm (s:ByteArray):sB (bs s)=s:=by cases s;rfl
theorem qH (l:List UInt8):bs (sB l)=l:=rfl
def qF (T:List Tok):List Value:=T.flatMap fun t=>[.int .i64 t.kind,.string (sB t.text),.int .i64 (t.pos:Int)]
theorem aEy (T:List Tok):(qF T).length=T.length*3:=by
 induction T with
 | nil=>rfl
 | cons p L ih=>simp[qF] at *;omega
theorem aJu (T:List Tok)(t:Tok):qF (T++[t])=qF T++[.int .i64 t.kind,.string (sB t.text),.int .i64 (t.pos:Int)]:=by simp[qF]
def t0:Tok:=⟨0,[],0⟩
theorem aEx:∀(T:List Tok) (i:Nat),i < T.length->(qF T)[i*3]?=some (.int .i64 (T.getD i t0).kind)/\(qF T)[i*3+1]?=some (.string (sB (T.getD i t0).text))/\(qF T)[i*3+2]?=some (.int .i64 ((T.getD i t0).pos:Int))
 | [],i,h=>by simp at h
 | p::L,0,h=>by simp[qF]
 | p::L,i+1,h=>by
  have h':=aEx L i (by simpa using h)
  have e:qF (p::L)=.int .i64 p.kind::.string (sB p.text)::.int .i64 (p.pos:Int)::qF L:=by simp[qF]
  rw[e,show (i+1)*3=i*3+1+1+1 by omega,show i*3+1+1+1+1=(i*3+1)+1+1+1 by omega,show i*3+1+1+1+2=(i*3+2)+1+1+1 by omega]
  simp only[List.getElem?_cons_succ]
  simpa using h'
structure Toks (w:World)(a:Option Addr)(n cap:Nat)(T:List Tok):Prop where
 len:T.length=n
 le:n<=cap
 max:cap<=maxLen
 nil:a=none->cap=0
 cell:n=0\/∃ b off,a=some ⟨b,off,none⟩/\∀ i,i < n->w.cell? ⟨b,off+i*3,none⟩=some (.int .i64 (T.getD i t0).kind)/\w.cell? ⟨b,off+i*3+1,none⟩=some (.string (sB (T.getD i t0).text))/\w.cell? ⟨b,off+i*3+2,none⟩=some (.int .i64 ((T.getD i t0).pos:Int))
structure Es (w W:World)(v:Value)(n:Nat)(T:List Tok):Prop where
 a:W.ownsRow w.heap.size 118 3 v n (qF T)
 bel:Below w.heap.size w W
theorem Es.alloc {w W:World}{v:Value}{n:Nat}{T:List Tok}(h:Es w W v n T)(o:Obj):Es w (W.alloc o) v n T:=⟨h.a.alloc o,h.bel.alloc h.bel.size o⟩
theorem Es.start (W:World):Es W W (.slice none 0 0) 0 []:=⟨⟨rfl,.inl ⟨rfl,rfl⟩⟩,Below.refl _ _⟩
theorem Es.len {T:List Tok}(h:Es w W v n T):T.length=n:=by
 have:=h.a.1
 rw[aEy] at this
 omega
theorem Es.later {W':World}{T:List Tok}(h:Es w W v n T)(hb:Below W.heap.size W W'):Es w W' v n T:=by
 have hg:W.grownBy W' none:=⟨hb.os,hb.tape,hb.output,hb.size,fun k hk _=>hb.block k hk⟩
 refine⟨h.a.kept hg ?_,h.bel.trans (hb.mono h.bel.size)⟩
 cases hv:v.ownBlock with
 | none=>exact .inl rfl
 | some q=>exact .inr (by simp)
theorem Toks.of_owns {base:Nat}{T:List Tok}(h:w.ownsRow base 118 3 v n (qF T)):∃ a cap,v=.slice a n cap/\Toks w a n cap T/\(∀ x,a=some x->base<=x.block/\x.block < w.heap.size):=by
 have hl:T.length=n:=by
  have:=h.1
  rw[aEy] at this
  omega
 have hlt:=h.lt
 have hcs:=fun g hg=>h.cells (g:=g) hg
 rcases h.2 with⟨rfl,rfl⟩|⟨g,cap,cur,rfl,hb,hg,hnc,hcm,hsz,htake⟩
 ·exact⟨none,0,rfl,⟨hl,Nat.le_refl _,Nat.zero_le _,fun _=>rfl,.inl rfl⟩,fun x hx=>by cases hx⟩
 ·refine⟨some ⟨g,0,none⟩,cap,rfl,⟨hl,hnc,hcm,(fun h=>by cases h),.inr ⟨g,0,rfl,fun i hi=>?_⟩⟩,fun x hx=>by cases hx;exact hlt g rfl⟩
  obtain⟨e1,e2,e3⟩:=aEx T i (by omega)
  have h1:=hcs g rfl _ _ e1
  have h2:=hcs g rfl _ _ e2
  have h3:=hcs g rfl _ _ e3
  rw[Addr.add_lit] at h1 h2 h3
  exact⟨h1,by rw[Nat.add_assoc];exact h2,by rw[Nat.add_assoc];exact h3⟩
theorem aMg {b:Nat}{k p:Int}{s:ByteArray}(h:aB W b 118 (tc k s p)):∀ j u,[Value.int .i64 k,.string s,.int .i64 p][j]?=some u->W.cell? ((⟨b,0,none⟩:Addr).add j)=some u:=by
 intro j u hu
 rw[Addr.add_lit]
 match j,hu with
 | 0,hu=>simp at hu;subst hu;exact h.cell 0 rfl
 | 1,hu=>simp at hu;subst hu;exact h.cell 1 rfl
 | 2,hu=>simp at hu;subst hu;exact h.cell 2 rfl
 | _+3,hu=>simp at hu
theorem aLy {T:List Tok}{ops:Array Oper}{rest:List Oper}{o:Oper}{a:Act}{Q:Exit->Act->World->Prop}
  (hgd:o.guard=none) (s x:Operand) (ho:o.op=.call { callee:=.builtin .append,args:=#[s,x],argTypes:=#[84,84] })
  (hs:a.eval s=v) (hen:Es w W v n T) (b:Nat) (t:Tok) (hx:a.eval x=.slice (some ⟨b,0,none⟩) 1 1) (hc:aB W b 118 (tc t.kind (sB t.text) t.pos)) (h3:n<=2000000)
  (h:∀ g cap w',Es w w' (.slice (some ⟨g,0,none⟩) (n+1) cap) (n+1) (T++[t])->W.heap.size<=w'.heap.size->wpList Tryz.prog ops Q rest (a.put o.dst (.slice (some ⟨g,0,none⟩) (n+1) cap)) w') :
  wpList Tryz.prog ops Q (o::rest) a W:=by
 obtain⟨i0,hi0,hz0,hz1,hz2⟩:=info_parts aWu
 refine wpList_append_lies W hgd s x 84 ho w.heap.size 118 i0 _ 3 32 Tryz.underlying84 hi0 hz0 hz1 hz2 rfl (by omega) v n (qF T) hs hen.a ⟨b,0,none⟩ 1 1 [.int .i64 t.kind,.string (sB t.text),.int .i64 (t.pos:Int)] hx rfl (aMg hc) (by simp[Value.oneCell']) (by omega) (by unfold maxLen;omega) (by omega) hen.bel.size W.heap.size rfl ?_
 intro g cap w' hown hgrow hat hlt
 exact h g cap w' ⟨by rw[aJu];exact hown,hen.bel.grown hgrow hen.bel.size (fun k hk=>(hen.a.lt k hk).1)⟩ hgrow.size
def TP (w:World)(l:List UInt8)(e:Ending)(w':World):Prop :=
 (tks l=none/\e=.returned (.tuple #[.slice none 0 0,.int .i64 10])/\Below w.heap.size w w') \/
 (∃ T v,tks l=some T/\e=.returned (.tuple #[v,.int .i64 0])/\w'.ownsRow w.heap.size 118 3 v T.length (qF T)/\Below w.heap.size w w')
end Go.Proofs.YtihbhbeaihdgnaaGreat
namespace Go.Proofs.YtihbhbeaihdgnaaGreat
open Go.RowKit Go.IntWalk Lx
theorem aAh {c:UInt8}{n:Nat}(h:((c.toNat:Int)==(n:Int))=false)(m:UInt8)(hm:m.toNat=n):c≠m:=by
 intro e
 subst e
 rw[hm] at h
 simp at h
theorem mH {c:UInt8}{n:Nat}(h:((c.toNat:Int)==(n:Int))=true)(m:UInt8)(hm:m.toNat=n):c=m:=by
 simp only[beq_iff_eq] at h
 exact UInt8.toNat_inj.1 (by omega)
theorem aR1 (s:ByteArray)(k n:Nat):(s.extract k s.size).extract 0 n=sB (((bs s).drop k).take n):=by
 rw[<-aEm ((s.extract k s.size).extract 0 n),aSl,aG2]
theorem aXa {c:UInt8}(h:((c.toNat:Int)==10)=false):nl c=true:=by
 have:=aAh (n:=10) h 10 rfl
 simp[nl,this]
theorem aGo (s:ByteArray)(w:World):Calls Tryz.prog 30 #[.string s] w fun e w'=>TP w (bs s) e w':=by
 by_cases hbig:1024 < s.size
 ·have hn:tks (bs s)=none:=by unfold tks;rw[eD,if_pos hbig]
  have hn':=aA hn
  clear hn
  go_enter Tryz.func30,Tryz.ntmps30
  go_wp2
  go_step3
  go_wp2
  try rw[Exit.noGoto_ret]
  go_ret2
  exact .inl ⟨hn'.o,rfl,Below.refl _ _⟩
 ·have hs:s.size<=1024:=by omega
  have htk:=aA (show tks (bs s)=sc (bs s) 0 by unfold tks;rw[eD,if_neg hbig])
  clear hbig
  go_enter Tryz.func30,Tryz.ntmps30
  go_wp2
  go_step3
  go_wp2
  go_step3
  go_wp2
  go_loopg [4,5] s.size (fun g v i W=>∃ k n:Nat,∃ T:List Tok,k+g=s.size/\n<=k/\i=.int .i64 k/\Hid (Es w W v n T)/\Hid (Inv (bs s) k T))
  case atStart=>exact⟨0,0,[],by omega,Nat.le_refl _,rfl,aA (Es.start w),aA (Inv.start _)⟩
  case round =>
   obtain⟨k,n,T,hk,hnk,rfl,HE,HI⟩:=hrel
   by_cases hlt:k < s.size
   ·have hc:=aA (zQ hlt)
    by_cases hb:bl s[k]=true
    ·have HI2:=aA (HI.o.blank hc.o hb)
     have hw:((s[k].toNat:Int)==32)=true\/(((s[k].toNat:Int)==32)=false/\((s[k].toNat:Int)==9)=true)\/(((s[k].toNat:Int)==32)=false/\((s[k].toNat:Int)==9)=false/\((s[k].toNat:Int)==10)=true):=by
      simp only[bl,Bool.or_eq_true,beq_iff_eq] at hb
      rcases hb with(h|h)|h <;> rw[h] <;> simp
     clear hb
     rcases hw with h1|⟨h1,h2⟩|⟨h1,h2,h3⟩
     all_goals
      go_wp2
      go_roundg (gk-1)
      case measure=>omega
      case rel=>exact⟨k+1,n,T,by omega,by omega,by go_num,HE,HI2⟩
    ·have hb':bl s[k]=false:=by simpa using hb
     have h1:((s[k].toNat:Int)==32)=false:=by
      cases h:((s[k].toNat:Int)==32)
      ·rfl
      ·rw[mH (n:=32) h 32 rfl] at hb';exact absurd hb' (by decide)
     have h2:((s[k].toNat:Int)==9)=false:=by
      cases h:((s[k].toNat:Int)==9)
      ·rfl
      ·rw[mH (n:=9) h 9 rfl] at hb';exact absurd hb' (by decide)
     have h3:((s[k].toNat:Int)==10)=false:=by
      cases h:((s[k].toNat:Int)==10)
      ·rfl
      ·rw[mH (n:=10) h 10 rfl] at hb';exact absurd hb' (by decide)
     have HB':=aA hb'
     clear hb hb'
     cases h4:((s[k].toNat:Int)==35) with
     | true =>
      have H35:=aA (show (bs s)[k]?=some 35 by rw[hc.o,mH (n:=35) h4 35 rfl])
      go_wp2
      go_loopg [5] (s.size-k) (fun g2 i wy=>∃ j:Nat,j+g2=s.size/\k<=j/\i=.int .i64 j/\Hid ((((bs s).drop k).take (j-k)).all nl=true)/\wy=wr)
      case atStart=>exact⟨k,by omega,Nat.le_refl _,rfl,aA (by simp),rfl⟩
      case round =>
       obtain⟨j,hj,hkj,rfl,HA,rfl⟩:=hrel
       by_cases hjl:j < s.size
       ·have hcj:=aA (zQ hjl)
        cases h10:((s[j].toNat:Int)==10) with
        | true =>
         have hne:k < j:=by
          rcases Nat.lt_or_ge k j with h|h
          ·exact h
          ·obtain rfl:j=k:=by omega
           rw[h10] at h3;cases h3
         have HI2:=aA (HI.o.rem H35.o hne (by rw[eD];omega) HA.o (by intro c h;rw[hcj.o] at h;cases h;exact mH (n:=10) h10 10 rfl))
         go_wp2
         go_roundg (s.size-j)
         case measure=>omega
         case rel=>exact⟨j,n,T,by omega,by omega,rfl,HE,HI2⟩
        | false =>
         have HA2:=aA (rM (l:=(bs s).drop k) (k:=j-k) (c:=s[j]) HA.o (by rw[List.getElem?_drop,show k+(j-k)=j by omega];exact hcj.o) (aXa h10))
         rw[show j-k+1=j+1-k by omega] at HA2
         go_wp2
         go_roundg (s.size-(j+1))
         case measure=>omega
         case rel=>exact⟨j+1,by omega,by omega,by go_num,HA2,rfl⟩
       ·have HI2:=aA (HI.o.rem H35.o (j:=j) (by omega) (by rw[eD];omega) HA.o (by intro c h;rw[List.getElem?_eq_none (by rw[eD];omega)] at h;cases h))
        go_wp2
        try rw[Exit.noGoto_ret]
        go_ret2
        have hT:=HI2.o.ends (by rw[eD];omega)
        have hE:=HE.o
        exact .inr ⟨T,_,htk.o.trans hT,rfl,by rw[hE.len];exact hE.a,hE.bel⟩
     | false =>
      have h35:=aA (aAh (n:=35) h4 35 rfl)
      have HG:=fun w=>aIg (s.extract k s.size) w (by simp;omega) (by simp;omega)
      simp only[aR1,aG2] at HG
      have hzl:sz ((bs s).drop k)<=s.size-k:=by
       have:=aSz (l:=(bs s).drop k) (by rw[kD hc.o];simp)
       rw[List.length_drop,eD] at this
       exact this
      cases hg:gd ((bs s).drop k) with
      | false =>
       have hN:=aA (HI.o.bad hc.o HB'.o h35.o hg)
       rw[hg] at HG
       have HG':=aA HG
       clear HG hg
       go_wp2_with fail
       refine(HG'.o _).mono ?_
       rintro e w1 ⟨rfl,hb1⟩
       have HBl:=aA (bel HE.o.bel (bel hb1 (aC w1 (.cells (tc (kd ((bs s).drop k)) (sB (((bs s).drop k).take (sz ((bs s).drop k)))) 0) 118))))
       clear hb1
       go_wp2_with fail
       try rw[Exit.noGoto_ret]
       go_ret2
       exact .inl ⟨htk.o.trans hN.o,rfl,HBl.o⟩
      | true =>
       have hpos:=aBm hg
       have HI2:=aA (HI.o.tok hc.o HB'.o h35.o hg)
       have hXl:(((bs s).drop k).take (sz ((bs s).drop k))).length=sz ((bs s).drop k):=by rw[List.length_take,List.length_drop,eD];omega
       rw[hg] at HG
       obtain⟨K,hK⟩:∃ K,kd ((bs s).drop k)=K:=⟨_,rfl⟩
       obtain⟨X,hX⟩:∃ X,((bs s).drop k).take (sz ((bs s).drop k))=X:=⟨_,rfl⟩
       rw[hX] at hXl
       rw[hK,hX,<-hXl] at HI2
       rw[hK,hX] at HG
       rw[<-hXl] at hpos hzl
       have HG':=aA HG
       clear HG hg hK hX hXl
       have hsz:(sB X).size=X.length:=by simp[ByteArray.size]
       go_wp2_with fail
       refine(HG'.o _).mono ?_
       rintro e w1 ⟨rfl,hb1⟩
       have HE1:=aA (HE.o.later hb1)
       have HN:=aA (aB.new (w1.alloc (.cells (tc K (sB X) k) 118)) 118 (tc K (sB X) k))
       simp only[World.size_alloc] at HN
       clear hb1 HE
       go_wp2_with (at_builtin;refine aLy rfl _ _ rfl rfl ((HE1.o.alloc _).alloc _) (w1.heap.size+1) ⟨K,X,k⟩ rfl HN.o (by omega) ?_;intro g cap w2 hE2 hsz2)
       go_roundg (s.size-(k+X.length))
       case measure=>omega
       case rel=>exact⟨k+X.length,n+1,_,by omega,by omega,by go_num,aA hE2,HI2⟩
   ·go_wp2
    try rw[Exit.noGoto_ret]
    go_ret2
    have hT:=HI.o.ends (by rw[eD];omega)
    have hE:=HE.o
    exact .inr ⟨T,_,htk.o.trans hT,rfl,by rw[hE.len];exact hE.a,hE.bel⟩
theorem below_drewN (w:World)(q:Nat):Below w.heap.size w (w.drewN q):=⟨rfl,rfl,rfl,Nat.le_refl _,fun _ _=>rfl⟩
theorem Toks.at {w:World}{a:Option Addr}{n cap:Nat}{T:List Tok}(h:Toks w a n cap T)(hn:n≠0) :
  ∃ b off,a=some ⟨b,off,none⟩/\b < w.heap.size/\∀ i,i < n->w.cell? ⟨b,off+i*3,none⟩=some (.int .i64 (T.getD i t0).kind)/\w.cell? ⟨b,off+i*3+1,none⟩=some (.string (sB (T.getD i t0).text))/\w.cell? ⟨b,off+i*3+2,none⟩=some (.int .i64 ((T.getD i t0).pos:Int)):=by
 rcases h.cell with h0|⟨b,off,ha,hc⟩
 ·exact absurd h0 hn
 ·exact⟨b,off,ha,World.block_lt_of_cell? w _ (hc 0 (by omega)).1,hc⟩
theorem Toks.of_cells {w w':World}{a:Option Addr}{n cap:Nat}{T:List Tok}(h:Toks w a n cap T)
  (hc:∀ b off,a=some ⟨b,off,none⟩->n≠0->∀ i,w'.cell? ⟨b,i,none⟩=w.cell? ⟨b,i,none⟩):Toks w' a n cap T:=by
 refine⟨h.len,h.le,h.max,h.nil,?_⟩
 by_cases hn:n=0
 ·exact .inl hn
 ·obtain⟨b,off,ha,_,hcell⟩:=h.at hn
  refine .inr ⟨b,off,ha,fun i hi=>?_⟩
  obtain⟨c1,c2,c3⟩:=hcell i hi
  exact⟨(hc b off ha hn _).trans c1,(hc b off ha hn _).trans c2,(hc b off ha hn _).trans c3⟩
end Go.Proofs.YtihbhbeaihdgnaaGreat
namespace Pz
open Lx
abbrev aR:=List UInt8
inductive Tk where
 | num (v:Int)
 | word (s:aR)
 | op (k:Nat) (o:Int)
 | ques | colon | lp | rp | comma | semi | eq
 deriving DecidableEq
structure Nd where
 op:Int
 a:Int
 b:Int
 c:Int
 k:Int
 back:Int
 co:Int
 x:Int
 y:Int
 deriving DecidableEq
abbrev lf (op k back co x y:Int):Nd:=⟨op,0,0,0,k,back,co,x,y⟩
inductive E where
 | leaf (n:Nd)
 | un (o:Int) (a:E)
 | bin (o:Int) (a b:E)
 | tri (o:Int) (a b c:E)
def E.size:E->Nat
 | .leaf _=>1
 | .un _ a=>a.size+1
 | .bin _ a b=>a.size+b.size+1
 | .tri _ a b c=>a.size+b.size+c.size+1
def E.flat:E->Nat->List Nd
 | .leaf n,_=>[n]
 | .un o a,s=>a.flat s++[⟨o,(s+a.size:Nat)-1,0,0,0,0,0,0,0⟩]
 | .bin o a b,s=>a.flat s++b.flat (s+a.size)++[⟨o,(s+a.size:Nat)-1,(s+a.size+b.size:Nat)-1,0,0,0,0,0,0⟩]
 | .tri o a b c,s=>a.flat s++b.flat (s+a.size)++c.flat (s+a.size+b.size)++[⟨o,(s+a.size:Nat)-1,(s+a.size+b.size:Nat)-1,(s+a.size+b.size+c.size:Nat)-1,0,0,0,0,0⟩]
theorem E.size_pos (e:E):0 < e.size:=by cases e <;> simp[E.size]
theorem E.flat_len:∀(e:E) (s:Nat),(e.flat s).length=e.size
 | .leaf n,s=>rfl
 | .un o a,s=>by simp[E.flat,E.size,E.flat_len a]
 | .bin o a b,s=>by simp[E.flat,E.size,E.flat_len a,E.flat_len b];omega
 | .tri o a b c,s=>by simp[E.flat,E.size,E.flat_len a,E.flat_len b,E.flat_len c];omega
def mV:aR:=[108,101,116]
def wP:aR:=[112]
def wQ:aR:=[113]
def aY (s:aR):Int :=
 if s=[97,98,115] then 6 else if s=[115,103,110] then 7 else if s=[109,105,110] then 24 else if s=[109,97,120] then 25
 else if s=[99,108,97,109,112] then 26 else if s=[109,101,100] then 27 else 0
def yR (s:aR):Int :=
 if s=[120] then 0 else if s=[121] then 1 else if s=[99] then 2 else if s=[108,111] then 3 else if s=[104,105] then 4 else if s=[109,105,100] then 5 else -1
def mU (s:aR):Bool:=s==mV || s==wP || s==wQ || aY s != 0 || decide (0<=yR s)
def rE (o:Int):Nat:=if o=6\/o=7 then 1 else if o=24\/o=25 then 2 else if o=26\/o=27 then 3 else 0
def pos (nm:List aR)(s:aR):Nat:=nm.findIdx (·==s)
def wd (nm:List aR)(s:aR):Option E :=
 if 0<=yR s then some (.leaf (lf 2 (yR s) 0 0 0 0)) else if nm.contains s then some (.leaf (lf 4 (pos nm s) 0 0 0 0)) else none
theorem rR {s:aR}(h:aY s≠0):rE (aY s)=1\/rE (aY s)=2\/rE (aY s)=3:=by
 unfold aY at h ⊢
 split
 ·exact .inl rfl
 split
 ·exact .inl rfl
 split
 ·exact .inr (.inl rfl)
 split
 ·exact .inr (.inl rfl)
 split
 ·exact .inr (.inr rfl)
 split
 ·exact .inr (.inr rfl)
 ·rename_i h1 h2 h3 h4 h5 h6
  rw[if_neg h1,if_neg h2,if_neg h3,if_neg h4,if_neg h5,if_neg h6] at h
  exact absurd rfl h
theorem fF {s:aR}(h:0 < rE (aY s)):aY s≠0:=by
 intro e
 rw[e] at h
 exact absurd h (by decide)
def rZ (t:Tk):Option (E × List Tk)->Option (E × List Tk)
 | some (e,t'::r)=>if t'=t then some (e,r) else none
 | _=>none
theorem iD {t:Tk}{res:Option (E × List Tk)}{e:E}{r:List Tk}(h:rZ t res=some (e,r)):res=some (e,t::r):=by
 unfold rZ at h
 split at h
 ·split at h
  ·rename_i h1;cases h;rw[h1]
  ·cases h
 ·cases h
theorem dH (t:Tk)(e:E)(r:List Tk):rZ t (some (e,t::r))=some (e,r):=by simp[rZ]
def off:List Tk->Option (Int × List Tk)
 | .num v::r=>some (v,r)
 | .op k o::.num v::r=>if k=5/\o=9 then some (-v,r) else none
 | _=>none
def jY (back:Int)(l:List Tk):Option (E × List Tk) :=
 match off l with
 | some (x,.rp::r)=>some (.leaf (lf 3 0 back 1 x 0),r)
 | some (x,.comma::r) =>
  match off r with
  | some (y,.rp::r2)=>some (.leaf (lf 3 0 back 2 x y),r2)
  | _=>none
 | _=>none
def vD (q:Bool)(l:List Tk):Option (E × List Tk) :=
 match l with
 | .lp::r =>
  if q then
   match r with
   | .num v::.comma::r1=>if v=0 then none else jY v r1
   | _=>none
  else jY 0 r
 | _=>none
def inP:Tk->Bool
 | .num _=>true
 | .op _ _=>true
 | .comma=>true
 | _=>false
theorem tZ {l:List Tk}{x:Int}{r:List Tk}(h:off l=some (x,r)):∃ m,l=m++r/\m.all inP=true/\∀ r',off (m++r')=some (x,r'):=by
 unfold off at h
 split at h
 ·rename_i v r0
  cases h
  exact⟨[.num x],rfl,rfl,fun r'=>rfl⟩
 ·rename_i k o v r0
  split at h
  ·rename_i hk
   cases h
   exact⟨[.op k o,.num v],rfl,rfl,fun r'=>by simp[off,hk]⟩
  ·cases h
 ·cases h
theorem xO {back:Int}{l:List Tk}{e:E}{r:List Tk}(h:jY back l=some (e,r)):∃ m,l=m++.rp::r/\m.all inP=true/\(∃ n,e=.leaf n/\n.a=0/\n.b=0/\n.c=0)/\∀ r',jY back (m++.rp::r')=some (e,r'):=by
 unfold jY at h
 split at h
 ·rename_i x r0 h1
  cases h
  obtain⟨m,rfl,hm,hr⟩:=tZ h1
  exact⟨m,rfl,hm,⟨_,rfl,rfl,rfl,rfl⟩,fun r'=>by unfold jY;rw[hr]⟩
 ·rename_i x r0 h1
  split at h
  ·rename_i y r2 h2
   cases h
   obtain⟨m,rfl,hm,hr⟩:=tZ h1
   obtain⟨m2,rfl,hm2,hr2⟩:=tZ h2
   refine⟨m++.comma::m2,by simp,by simp[inP] at *;exact⟨hm,hm2⟩,⟨_,rfl,rfl,rfl,rfl⟩,fun r'=>?_⟩
   unfold jY
   rw[List.append_assoc,hr]
   simp only[List.cons_append]
   rw[hr2]
  ·cases h
 ·cases h
theorem pU {q:Bool}{l:List Tk}{e:E}{r:List Tk}(h:vD q l=some (e,r)):∃ m,l=.lp::m++.rp::r/\m.all inP=true/\(∃ n,e=.leaf n/\n.a=0/\n.b=0/\n.c=0)/\∀ r',vD q (.lp::m++.rp::r')=some (e,r'):=by
 unfold vD at h
 split at h
 ·split at h
  ·rename_i hq
   split at h
   ·rename_i v r1
    split at h
    ·cases h
    ·rename_i hv
     obtain⟨m,rfl,hm,hn,hr⟩:=xO h
     refine⟨.num v::.comma::m,by simp,by simp[inP] at *;exact hm,hn,fun r'=>?_⟩
     simp only[vD,List.cons_append,hq,if_true,if_neg hv]
     exact hr r'
   ·cases h
  ·rename_i hq
   obtain⟨m,rfl,hm,hn,hr⟩:=xO h
   refine⟨m,by simp,hm,hn,fun r'=>?_⟩
   simp only[vD,List.cons_append,if_neg hq]
   exact hr r'
 ·cases h
abbrev lefts (k:Nat):Nat:=if k=3 then 5 else k+1
inductive G (nm:List aR):Nat->List Tk->E->Prop
 | up {c:Nat} {l:List Tk} {e:E}:c < 8->G nm (c+1) l e->G nm c l e
 | sel {l1 l2 l3:List Tk} {a b c:E}:G nm 1 l1 a->G nm 0 l2 b->G nm 0 l3 c->G nm 0 (l1++.ques::(l2++.colon::l3)) (.tri 28 a b c)
 | bin {k:Nat} {o:Int} {l1 l2:List Tk} {a b:E}:k < 7->G nm (lefts k) l1 a->G nm (k+2) l2 b->G nm (k+1) (l1++.op k o::l2) (.bin o a b)
 | neg {l:List Tk} {a:E}:G nm 8 l a->G nm 8 (.op 5 9::l) (.un 5 a)
 | par {l:List Tk} {e:E}:G nm 0 l e->G nm 8 (.lp::(l++[.rp])) e
 | num (v:Int):G nm 8 [.num v] (.leaf (lf 1 v 0 0 0 0))
 | word {s:aR} {e:E}:s≠wP->s≠wQ->aY s=0->wd nm s=some e->G nm 8 [.word s] e
 | place {s:aR} {l:List Tk} {e:E}:s=wP\/s=wQ->vD (s==wQ) l=some (e,[])->G nm 8 (.word s::l) e
 | call1 {s:aR} {l:List Tk} {a:E}:rE (aY s)=1->G nm 0 l a->G nm 8 (.word s::.lp::(l++[.rp])) (.un (aY s) a)
 | call2 {s:aR} {l l2:List Tk} {a b:E}:rE (aY s)=2->G nm 0 l a->G nm 0 l2 b->G nm 8 (.word s::.lp::(l++.comma::(l2++[.rp]))) (.bin (aY s) a b)
 | call3 {s:aR} {l l2 l3:List Tk} {a b c:E}:rE (aY s)=3->G nm 0 l a->G nm 0 l2 b->G nm 0 l3 c->G nm 8 (.word s::.lp::(l++.comma::(l2++.comma::(l3++[.rp])))) (.tri (aY s) a b c)
inductive NR where
 | at (c:Nat)
 | lp (k:Nat) (a:E)
def begins:List Tk->Bool
 | .num _::_=>true
 | .word _::_=>true
 | .lp::_=>true
 | .op k o::_=>decide (k=5/\o=9)
 | _=>false
abbrev aUo (o:Int)(res:Option (E × List Tk)):Option (E × List Tk):=res.map fun p=>(.un o p.1,p.2)
abbrev aW3 (o:Int)(a:E)(res:Option (E × List Tk)):Option (E × List Tk):=res.map fun p=>(.bin o a p.1,p.2)
abbrev aUn (o:Int)(a b:E)(res:Option (E × List Tk)):Option (E × List Tk):=res.map fun p=>(.tri o a b p.1,p.2)
inductive R (nm:List aR):NR->List Tk->Option (E × List Tk)->Prop
 | ch_none {l:List Tk}:R nm (.at 1) l none->R nm (.at 0) l none
 | ch_up {l r:List Tk} {a:E}:R nm (.at 1) l (some (a,r))->r.head?≠some .ques->R nm (.at 0) l (some (a,r))
 | ch_no {l r:List Tk} {a:E} {res:Option (E × List Tk)}:R nm (.at 1) l (some (a,.ques::r))->R nm (.at 0) r res->rZ .colon res=none->R nm (.at 0) l none
 | ch_sel {l r r2:List Tk} {a b:E} {res res2:Option (E × List Tk)}:R nm (.at 1) l (some (a,.ques::r))->R nm (.at 0) r res->rZ .colon res=some (b,r2)->R nm (.at 0) r2 res2->R nm (.at 0) l (aUn 28 a b res2)
 | lv_none {k:Nat} {l:List Tk}:k < 7->R nm (.at (k+2)) l none->R nm (.at (k+1)) l none
 | lv_go {k:Nat} {l r:List Tk} {a:E} {res:Option (E × List Tk)}:k < 7->R nm (.at (k+2)) l (some (a,r))->R nm (.lp k a) r res->R nm (.at (k+1)) l res
 | lp_stop {k:Nat} {a:E} {r:List Tk}:(∀ o,r.head?≠some (.op k o))->R nm (.lp k a) r (some (a,r))
 | lp_none {k:Nat} {a:E} {o:Int} {r:List Tk}:R nm (.at (k+2)) r none->R nm (.lp k a) (.op k o::r) none
 | lp_cmp {a b:E} {o:Int} {r r2:List Tk}:R nm (.at 5) r (some (b,r2))->R nm (.lp 3 a) (.op 3 o::r) (some (.bin o a b,r2))
 | lp_go {k:Nat} {a b:E} {o:Int} {r r2:List Tk} {res:Option (E × List Tk)}:k≠3->R nm (.at (k+2)) r (some (b,r2))->R nm (.lp k (.bin o a b)) r2 res->R nm (.lp k a) (.op k o::r) res
 | neg {l:List Tk} {res:Option (E × List Tk)}:R nm (.at 8) l res->R nm (.at 8) (.op 5 9::l) (aUo 5 res)
 | par {l:List Tk} {res:Option (E × List Tk)}:R nm (.at 0) l res->R nm (.at 8) (.lp::l) (rZ .rp res)
 | num (v:Int) (l:List Tk):R nm (.at 8) (.num v::l) (some (.leaf (lf 1 v 0 0 0 0),l))
 | word {s:aR} {l:List Tk}:s≠wP->s≠wQ->aY s=0->R nm (.at 8) (.word s::l) ((wd nm s).map fun e=>(e,l))
 | place {s:aR} {l:List Tk}:s=wP\/s=wQ->R nm (.at 8) (.word s::l) (vD (s==wQ) l)
 | callx {s:aR} {l:List Tk}:aY s≠0->l.head?≠some .lp->R nm (.at 8) (.word s::l) none
 | call1 {s:aR} {l:List Tk} {res:Option (E × List Tk)}:rE (aY s)=1->R nm (.at 0) l res->R nm (.at 8) (.word s::.lp::l) (aUo (aY s) (rZ .rp res))
 | calln {s:aR} {l:List Tk} {res:Option (E × List Tk)}:2<=rE (aY s)->R nm (.at 0) l res->rZ .comma res=none->R nm (.at 8) (.word s::.lp::l) none
 | call2 {s:aR} {l r:List Tk} {a:E} {res res2:Option (E × List Tk)}:rE (aY s)=2->R nm (.at 0) l res->rZ .comma res=some (a,r)->R nm (.at 0) r res2->R nm (.at 8) (.word s::.lp::l) (aW3 (aY s) a (rZ .rp res2))
 | call3n {s:aR} {l r:List Tk} {a:E} {res res2:Option (E × List Tk)}:rE (aY s)=3->R nm (.at 0) l res->rZ .comma res=some (a,r)->R nm (.at 0) r res2->rZ .comma res2=none->R nm (.at 8) (.word s::.lp::l) none
 | call3 {s:aR} {l r r2:List Tk} {a b:E} {res res2 res3:Option (E × List Tk)}:rE (aY s)=3->R nm (.at 0) l res->rZ .comma res=some (a,r)->R nm (.at 0) r res2->rZ .comma res2=some (b,r2)->R nm (.at 0) r2 res3->R nm (.at 8) (.word s::.lp::l) (aUn (aY s) a b (rZ .rp res3))
 | bad {l:List Tk}:begins l=false->R nm (.at 8) l none
def uY (c:Nat)(r:List Tk):Prop:=∀ t,r.head?=some t->(∀ k o,t=.op k o->k+1 < c)/\(t=.ques->c≠0)
theorem uY.mono {c c':Nat}{r:List Tk}(h:uY c r)(hc:c<=c'):uY c' r:=fun t ht=>⟨fun k o e=>Nat.lt_of_lt_of_le ((h t ht).1 k o e) hc,fun e=>by have:=(h t ht).2 e;omega⟩
theorem uY.nil (c:Nat):uY c []:=fun t ht=>by simp at ht
theorem uY.cons {c:Nat}{t:Tk}(r:List Tk)(h1:∀ k o,t=.op k o->k+1 < c)(h2:t=.ques->c≠0):uY c (t::r):=fun t' ht=>by
 simp at ht;subst ht;exact⟨h1,h2⟩
theorem wH {nm:List aR}{c:Nat}{l:List Tk}{e:E}(h:G nm c l e):(∀ r,uY c r->R nm (.at c) (l++r) (some (e,r))) /\
  (∀ k,c=k+1->k < 7->k≠3->∀ r res,uY (k+2) r->R nm (.lp k e) r res->R nm (.at (k+1)) (l++r) res):=by
 induction h with
 | @up c l e hc hg ih =>
  have hB:∀ k,c=k+1->k < 7->∀ r res,uY (k+2) r->R nm (.lp k e) r res->R nm (.at (k+1)) (l++r) res:=by
   rintro k rfl hk r res hf hr
   exact R.lv_go hk (ih.1 r hf) hr
  refine⟨fun r hf=>?_,fun k hk h7 _ r res hf hr=>hB k hk h7 r res hf hr⟩
  cases c with
  | zero=>exact R.ch_up (ih.1 r (hf.mono (by omega))) (fun hq=>(hf _ hq).2 rfl rfl)
  | succ k=>exact hB k rfl (by omega) r _ (hf.mono (by omega)) (R.lp_stop fun o ho=>by have:=(hf _ ho).1 k o rfl;omega)
 | @sel l1 l2 l3 a b c h1 h2 h3 ih1 ih2 ih3 =>
  refine⟨fun r hf=>?_,fun k hk=>by omega⟩
  have e1:=ih1.1 (.ques::(l2++.colon::(l3++r))) (uY.cons _ (by intro k o e;cases e) (by omega))
  have e2:=ih2.1 (.colon::(l3++r)) (uY.cons _ (by intro k o e;cases e) (by intro e;cases e))
  have e3:=ih3.1 r hf
  have:=R.ch_sel (nm:=nm) e1 e2 (dH _ _ _) e3
  simpa using this
 | @bin k o l1 l2 a b hk h1 h2 ih1 ih2 =>
  have hB:∀ r,uY (k+2) r->∀ res,k≠3->R nm (.lp k (.bin o a b)) r res->R nm (.at (k+1)) (l1++.op k o::l2++r) res:=by
   intro r hf res h3 hr
   have hl:lefts k=k+1:=by unfold lefts;rw[if_neg h3]
   have:=ih1.2 k hl hk h3 (.op k o::(l2++r)) res (uY.cons _ (by intro k' o' e;cases e;omega) (by intro e;cases e)) (R.lp_go h3 (ih2.1 r hf) hr)
   simpa using this
  refine⟨fun r hf=>?_,fun k' hk' h7 h3 r res hf hr=>?_⟩
  ·by_cases h3:k=3
   ·subst h3
    have e1:=ih1.1 (.op 3 o::(l2++r)) (uY.cons _ (by intro k' o' e;cases e;decide) (by intro e;cases e))
    have e2:=ih2.1 r (hf.mono (by omega))
    have:=R.lv_go (k:=3) (by omega) e1 (R.lp_cmp (a:=a) (o:=o) e2)
    simpa using this
   ·exact hB r (hf.mono (by omega)) _ h3 (R.lp_stop fun o ho=>by have:=(hf _ ho).1 k o rfl;omega)
  ·obtain rfl:k=k':=by omega
   exact hB r hf res h3 hr
 | @neg l a h ih =>
  refine⟨fun r hf=>?_,fun k hk=>by omega⟩
  exact R.neg (ih.1 r hf)
 | @par l e h ih =>
  refine⟨fun r hf=>?_,fun k hk=>by omega⟩
  have e1:=ih.1 (.rp::r) (uY.cons _ (by intro k' o' e;cases e) (by intro e;cases e))
  have:=R.par e1
  rw[dH] at this
  simpa using this
 | num v=>exact⟨fun r hf=>R.num v r,fun k hk=>by omega⟩
 | @word s e h1 h2 h3 h4 =>
  refine⟨fun r hf=>?_,fun k hk=>by omega⟩
  have:=R.word (nm:=nm) (l:=r) h1 h2 h3
  rw[h4] at this
  exact this
 | @place s l e h1 h2 =>
  refine⟨fun r hf=>?_,fun k hk=>by omega⟩
  obtain⟨m,rfl,-,-,hr⟩:=pU h2
  have:=R.place (nm:=nm) (l:=.lp::m++.rp::r) h1
  rw[hr] at this
  simpa using this
 | @call1 s l a h1 h2 ih =>
  refine⟨fun r hf=>?_,fun k hk=>by omega⟩
  have e1:=ih.1 (.rp::r) (uY.cons _ (by intro k' o' e;cases e) (by intro e;cases e))
  have:=R.call1 h1 e1
  rw[dH] at this
  simpa using this
 | @call2 s l l2 a b h1 h2 h3 ih ih2 =>
  refine⟨fun r hf=>?_,fun k hk=>by omega⟩
  have e1:=ih.1 (.comma::(l2++.rp::r)) (uY.cons _ (by intro k' o' e;cases e) (by intro e;cases e))
  have e2:=ih2.1 (.rp::r) (uY.cons _ (by intro k' o' e;cases e) (by intro e;cases e))
  have:=R.call2 h1 e1 (dH _ _ _) e2
  rw[dH] at this
  simpa using this
 | @call3 s l l2 l3 a b c h1 h2 h3 h4 ih ih2 ih3 =>
  refine⟨fun r hf=>?_,fun k hk=>by omega⟩
  have e1:=ih.1 (.comma::(l2++.comma::(l3++.rp::r))) (uY.cons _ (by intro k' o' e;cases e) (by intro e;cases e))
  have e2:=ih2.1 (.comma::(l3++.rp::r)) (uY.cons _ (by intro k' o' e;cases e) (by intro e;cases e))
  have e3:=ih3.1 (.rp::r) (uY.cons _ (by intro k' o' e;cases e) (by intro e;cases e))
  have:=R.call3 h1 e1 (dH _ _ _) e2 (dH _ _ _) e3
  rw[dH] at this
  simpa using this
def aOs (nm:List aR):NR->List Tk->Option (E × List Tk)->Prop
 | .at c,l,res=>∀ e r,res=some (e,r)->∃ p,l=p++r/\G nm c p e
 | .lp k a,l,res=>k < 7->∀ l0,G nm (lefts k) l0 a->∀ e r,res=some (e,r)->∃ p,l=p++r/\G nm (k+1) (l0++p) e
theorem sound {nm:List aR}{x:NR}{l:List Tk}{res:Option (E × List Tk)}(h:R nm x l res):aOs nm x l res:=by
 induction h with
 | ch_none h ih=>intro e r he;cases he
 | ch_up h hq ih =>
  intro e r he
  obtain⟨p,hp,hg⟩:=ih e r he
  exact⟨p,hp,G.up (by omega) hg⟩
 | ch_no h1 h2 h3 ih1 ih2=>intro e r he;cases he
 | @ch_sel l r r2 a b res res2 h1 h2 h3 h4 ih1 ih2 ih4 =>
  intro e r3 he
  obtain⟨p1,rfl,g1⟩:=ih1 a _ rfl
  rw[iD h3] at ih2
  obtain⟨p2,rfl,g2⟩:=ih2 b _ rfl
  cases res2 with
  | none=>cases he
  | some q =>
   obtain⟨c,r4⟩:=q
   cases he
   obtain⟨p3,rfl,g3⟩:=ih4 c _ rfl
   exact⟨_,by simp,G.sel g1 g2 g3⟩
 | lv_none hk h ih=>intro e r he;cases he
 | @lv_go k l r a res hk h1 h2 ih1 ih2 =>
  intro e r3 he
  obtain⟨p1,rfl,g1⟩:=ih1 a _ rfl
  have hl:G nm (lefts k) p1 a:=by
   unfold lefts
   split
   ·rename_i h3;subst h3;exact g1
   ·exact G.up (by omega) g1
  obtain⟨p2,rfl,g2⟩:=ih2 hk p1 hl e r3 he
  exact⟨p1++p2,by simp,g2⟩
 | @lp_stop k a r h =>
  intro hk l0 hg e r3 he
  cases he
  refine⟨[],rfl,?_⟩
  rw[List.append_nil]
  unfold lefts at hg
  split at hg
  ·rename_i h3;subst h3;exact G.up (by omega) hg
  ·exact hg
 | lp_none h ih=>intro hk l0 hg e r3 he;cases he
 | @lp_cmp a b o r r2 h ih =>
  intro hk l0 hg e r3 he
  cases he
  obtain⟨p,rfl,g⟩:=ih b _ rfl
  exact⟨.op 3 o::p,rfl,G.bin (by omega) hg g⟩
 | @lp_go k a b o r r2 res h3 h1 h2 ih1 ih2 =>
  intro hk l0 hg e r3 he
  obtain⟨p,rfl,g⟩:=ih1 b _ rfl
  have hl:lefts k=k+1:=by unfold lefts;rw[if_neg h3]
  obtain⟨p2,rfl,g2⟩:=ih2 hk (l0++.op k o::p) (by rw[hl];exact G.bin hk hg g) e r3 he
  exact⟨.op k o::p++p2,by simp,by simpa using g2⟩
 | @neg l res h ih =>
  intro e r3 he
  cases res with
  | none=>cases he
  | some q =>
   obtain⟨a,r⟩:=q
   cases he
   obtain⟨p,rfl,g⟩:=ih a _ rfl
   exact⟨.op 5 9::p,rfl,G.neg g⟩
 | @par l res h ih =>
  intro e r3 he
  obtain⟨p,rfl,g⟩:=ih e _ (iD he)
  exact⟨.lp::(p++[.rp]),by simp,G.par g⟩
 | num v l=>intro e r3 he;cases he;exact⟨[.num v],rfl,G.num v⟩
 | @word s l h1 h2 h3 =>
  intro e r3 he
  cases hw:wd nm s with
  | none=>rw[hw] at he;cases he
  | some e'=>rw[hw] at he;cases he;exact⟨[.word s],rfl,G.word h1 h2 h3 hw⟩
 | @place s l h1 =>
  intro e r3 he
  obtain⟨m,rfl,-,-,hr⟩:=pU he
  exact⟨.word s::(.lp::m++[.rp]),by simp,G.place h1 (hr [])⟩
 | callx h1 h2=>intro e r3 he;cases he
 | @call1 s l res h1 h ih =>
  intro e r3 he
  cases hq:rZ .rp res with
  | none=>rw[hq] at he;cases he
  | some q =>
   obtain⟨a,r⟩:=q
   rw[hq] at he
   cases he
   obtain⟨p,rfl,g⟩:=ih a _ (iD hq)
   exact⟨.word s::.lp::(p++[.rp]),by simp,G.call1 h1 g⟩
 | calln h1 h2 h3 ih=>intro e r3 he;cases he
 | @call2 s l r a res res2 h1 h2 h3 h4 ih ih2 =>
  intro e r3 he
  cases hq:rZ .rp res2 with
  | none=>rw[hq] at he;cases he
  | some q =>
   obtain⟨b,r4⟩:=q
   rw[hq] at he
   cases he
   obtain⟨p,rfl,g⟩:=ih a _ (iD h3)
   obtain⟨p2,rfl,g2⟩:=ih2 b _ (iD hq)
   exact⟨.word s::.lp::(p++.comma::(p2++[.rp])),by simp,G.call2 h1 g g2⟩
 | call3n h1 h2 h3 h4 h5 ih ih2=>intro e r3 he;cases he
 | @call3 s l r r2 a b res res2 res3 h1 h2 h3 h4 h5 h6 ih ih2 ih3 =>
  intro e r3 he
  cases hq:rZ .rp res3 with
  | none=>rw[hq] at he;cases he
  | some q =>
   obtain⟨c,r4⟩:=q
   rw[hq] at he
   cases he
   obtain⟨p,rfl,g⟩:=ih a _ (iD h3)
   obtain⟨p2,rfl,g2⟩:=ih2 b _ (iD h5)
   obtain⟨p3,rfl,g3⟩:=ih3 c _ (iD hq)
   exact⟨.word s::.lp::(p++.comma::(p2++.comma::(p3++[.rp]))),by simp,G.call3 h1 g g2 g3⟩
 | bad h=>intro e r3 he;cases he
end Pz
namespace Lx
def gp:Bool->List UInt8->Option Bool
 | r,[]=>some r
 | r,c::t=>if ((r || c==35)&&c != 10)=false/\bl c=false then none else gp ((r || c==35)&&c != 10) t
theorem pG:∀(a b:List UInt8) (r:Bool),gp r (a++b)=(gp r a).bind fun q=>gp q b
 | [],b,r=>rfl
 | c::a,b,r=>by
  rw[List.cons_append,gp,gp]
  split
  ·rfl
  ·exact pG a b _
theorem aLh {c:UInt8}(h:bl c=true)(t:List UInt8):gp false (c::t)=gp false t:=by
 have h35:(c==35)=false:=by
  cases h':(c==35)
  ·rfl
  ·simp only[beq_iff_eq] at h';subst h';exact absurd h (by decide)
 rw[gp,if_neg (by simp[h])]
 simp[h35]
theorem aLi:∀(x:List UInt8),x.all nl=true->gp true x=some true
 | [],_=>rfl
 | c::x,h=>by
  simp only[List.all_cons,Bool.and_eq_true] at h
  have hc:(c != 10)=true:=h.1
  rw[gp,if_neg (by simp[hc])]
  simp only[Bool.true_or,Bool.true_and,hc]
  exact aLi x h.2
theorem zZ {x:List UInt8}(h:x.all nl=true):gp false (35::x)=some true:=by
 rw[gp,if_neg (by decide)]
 exact aLi x h
theorem aPw {x:List UInt8}(h:x.all nl=true):gp false (35::(x++[10]))=some false:=by
 have:gp false ((35::x)++[10])=some false:=by
  rw[pG,zZ h]
  rfl
 exact this
def Cov:List UInt8->Nat->List Tok->Prop
 | l,p,[]=>∃ r,gp false l=some r
 | l,p,t::T=>∃ g rest,l=g++(t.text++rest)/\t.pos=p+g.length/\gp false g=some false/\Fm t.kind t.text/\may t.kind t.text=true/\Cov rest (t.pos+t.text.length) T
theorem Cov.ahead {g0 r:List UInt8}{p:Nat}{T:List Tok}(h0:gp false g0=some false)(h:Cov r (p+g0.length) T):Cov (g0++r) p T:=by
 cases T with
 | nil =>
  obtain⟨q,hq⟩:=h
  exact⟨q,by rw[pG,h0];exact hq⟩
 | cons t T =>
  obtain⟨g,rest,rfl,hp,hg,hf,hm,hc⟩:=h
  exact⟨g0++g,rest,by simp,by rw[hp,List.length_append];omega,by rw[pG,h0];exact hg,hf,hm,hc⟩
theorem aTd:∀(n:Nat) (l:List UInt8) (p:Nat) (T:List Tok),l.length<=n->sc l p=some T->Cov l p T:=by
 intro n
 induction n with
 | zero =>
  intro l p T hl h
  have:l=[]:=List.eq_nil_of_length_eq_zero (by omega)
  subst this
  rw[yD] at h
  cases h
  exact⟨false,rfl⟩
 | succ n ih =>
  intro l p T hl h
  cases l with
  | nil =>
   rw[yD] at h
   cases h
   exact⟨false,rfl⟩
  | cons c r =>
   have hr:r.length<=n:=by simpa using hl
   by_cases hb:bl c=true
   ·rw[yC hb] at h
    exact Cov.ahead (g0:=[c]) (by rw[aLh hb];rfl) (ih r _ T hr h)
   ·simp only[Bool.not_eq_true] at hb
    by_cases h35:c=35
    ·subst h35
     rw[aNo] at h
     have ha:=gK nl r
     have hs:=jO nl r
     cases hd:r.dropWhile nl with
     | nil =>
      rw[hd,yD] at h
      cases h
      rw[hd,List.append_nil] at hs
      rw[hs] at ha
      exact⟨true,zZ ha⟩
     | cons d t =>
      have hd10:d=10:=by
       have:=List.head?_dropWhile_not nl r
       rw[hd] at this
       simpa [nl] using this
      subst hd10
      rw[hd,yC (by decide)] at h
      have hlen:t.length<=n:=by
       have:=nH nl r
       rw[hd] at this
       simp at this
       omega
      have hc:=ih t _ T hlen h
      have e:35::r=(35::(r.takeWhile nl++[10]))++t:=by
       rw[hd] at hs
       simp[hs]
      rw[e]
      refine Cov.ahead (aPw ha) ?_
      have e2:p+1+rn nl r+1=p+(35::(r.takeWhile nl++[10])).length:=by
       simp[rn];omega
      rw[<-e2]
      exact hc
    ·cases hg:gd (c::r) with
     | false=>rw[aNn hb h35 hg] at h;cases h
     | true =>
      have hp:=aBm hg
      have hf:=aBj (by simp) hg
      rw[aNp hb h35 hg] at h
      cases h1:sc ((c::r).drop (sz (c::r))) (p+sz (c::r)) with
      | none=>rw[h1] at h;cases h
      | some T' =>
       rw[h1] at h
       simp only[Option.map_some,Option.some.injEq] at h
       subst h
       have hne:(c::r).take (sz (c::r))≠[]:=hf.1.1
       refine⟨[],(c::r).drop (sz (c::r)),by simp,rfl,rfl,hf.1,hf.2,?_⟩
       have hcov:=ih _ _ T' (by rw[List.length_drop];simp at hl ⊢;omega) h1
       have hl2:(List.take (sz (c::r)) (c::r)).length=sz (c::r)\/(List.drop (sz (c::r)) (c::r))=[]:=by
        rcases Nat.le_total (sz (c::r)) (c::r).length with h|h
        ·left;rw[List.length_take];omega
        ·right;exact List.drop_of_length_le h
       rcases hl2 with hl2|hl2
       ·show Cov _ (p+(List.take (sz (c::r)) (c::r)).length) T'
        rw[hl2]
        exact hcov
       ·rw[hl2,yD] at h1
        cases h1
        rw[hl2]
        exact⟨false,rfl⟩
theorem aC9:∀(T:List Tok) (l:List UInt8) (p:Nat),Cov l p T->∀ t ∈ T,Fm t.kind t.text/\may t.kind t.text=true
 | [],_,_,_=>by simp
 | t::T,l,p,⟨g,rest,e,hp,hg,hf,hm,hc⟩=>by
  intro q hq
  rcases List.mem_cons.1 hq with rfl|hq
  ·exact⟨hf,hm⟩
  ·exact aC9 T rest _ hc q hq
theorem aCs {l:List UInt8}{T:List Tok}(h:tks l=some T):Cov l 0 T/\l.length<=1024:=by
 unfold tks at h
 split at h
 ·cases h
 ·exact⟨aTd _ l 0 T (Nat.le_refl _) h,by omega⟩
end Lx

import Derived.Test.YticnbcfmbhjbgabGreatDoorXH
import Derived.Deep.RegionHeld3
import Derived.Deep.AppendLies
import Derived.Test.YticnbcfmbhjbgabGreatDoorX14
set_option maxRecDepth 100000
set_option maxHeartbeats 32000000
set_option linter.unusedVariables false
namespace Go.Proofs.Spn
open Go.RowKit Go.IntWalk Go.Sort
structure Spans (w:World)(a:Option Addr)(n cap:Nat)(L:List (Int × Int)):Prop where
 len:L.length=n
 le:n<=cap
 max:cap<=maxLen
 nil:a=none->cap=0
 cell:n=0\/∃ b off,a=some ⟨b,off,none⟩/\∀ i,i < n->w.cell? ⟨b,off+i*2,none⟩=some (.i (L.getD i (0,0)).1)/\w.cell? ⟨b,off+i*2+1,none⟩=some (.i (L.getD i (0,0)).2)
theorem Spans.at {w:World}{a:Option Addr}{n cap:Nat}{L:List (Int × Int)}(h:Spans w a n cap L)(hn:n≠0) :
  ∃ b off,a=some ⟨b,off,none⟩/\b < w.heap.size/\∀ i,i < n->w.cell? ⟨b,off+i*2,none⟩=some (.i (L.getD i (0,0)).1)/\w.cell? ⟨b,off+i*2+1,none⟩=some (.i (L.getD i (0,0)).2):=by
 rcases h.cell with h0|⟨b,off,ha,hc⟩
 ·exact absurd h0 hn
 ·exact⟨b,off,ha,wBl w _ (hc 0 (by omega)).1,hc⟩
theorem Spans.later {w w':World}{a:Option Addr}{n cap:Nat}{L:List (Int × Int)}(h:Spans w a n cap L)(hb:Below w.heap.size w w'):Spans w' a n cap L:=by
 refine⟨h.len,h.le,h.max,h.nil,?_⟩
 by_cases hn:n=0
 ·exact .inl hn
 ·obtain⟨b,off,ha,hlt,hc⟩:=h.at hn
  exact .inr ⟨b,off,ha,fun i hi=>⟨(hb.cell (p:=⟨b,off+i*2,none⟩) hlt).trans (hc i hi).1,(hb.cell (p:=⟨b,off+i*2+1,none⟩) hlt).trans (hc i hi).2⟩⟩
end Go.Proofs.Spn
namespace Go.Proofs.Spn
open Go.RowKit Go.IntWalk Go.Sort
open Knd (info3)
variable {W w:World} {v1 v2:Value} {n1 n2:Nat} {xs ys:List Int}
structure En (w wr:World)(v1 v2:Value)(n1 n2:Nat)(xs ys:List Int):Prop where
 a:wr.ownsRow w.heap.size 3 1 v1 n1 (gW xs)
 b:wr.ownsRow w.heap.size 3 1 v2 n2 (gW ys)
 ap:∀ g,v1.ownBlock=some g->v2.ownBlock≠some g
 bel:Below w.heap.size w wr
theorem En.alloc {w W:World}{v1 v2:Value}{n1 n2:Nat}{xs ys:List Int}(h:En w W v1 v2 n1 n2 xs ys)(o:Obj):En w (W.alloc o) v1 v2 n1 n2 xs ys :=
 ⟨h.a.alloc o,h.b.alloc o,h.ap,h.bel.alloc h.bel.size o⟩
theorem En.drew {w W:World}{v1 v2:Value}{n1 n2:Nat}{xs ys:List Int}(h:En w W v1 v2 n1 n2 xs ys):En w W.drew v1 v2 n1 n2 xs ys :=
 ⟨h.a.drew,h.b.drew,h.ap,h.bel.trans ⟨rfl,rfl,rfl,nLr _,fun _ _=>rfl⟩⟩
theorem En.swap (h:En w W v1 v2 n1 n2 xs ys):En w W v2 v1 n2 n1 ys xs :=
 ⟨h.b,h.a,fun g hg hg'=>h.ap g hg' hg,h.bel⟩
theorem En.grow {w':World}(h:En w W v1 v2 n1 n2 xs ys){g cap m:Nat}{zs:List Int}
  (hown:w'.ownsRow w.heap.size 3 1 (.slice (some ⟨g,0,none⟩) m cap) m (gW zs)) (hgrow:W.grownBy w' v1.ownBlock) (hat:v1.ownBlock=some g\/g=W.heap.size) :
  En w w' (.slice (some ⟨g,0,none⟩) m cap) v2 m n2 zs ys:=by
 have l2:=h.b.lt
 refine⟨hown,h.b.kept hgrow ?_,?_,h.bel.grown hgrow h.bel.size (fun k hk=>(h.a.lt k hk).1)⟩
 ·cases hv:v2.ownBlock with
  | none=>exact .inl rfl
  | some q=>exact .inr fun e=>h.ap q e.symm hv
 ·intro g' hg' hv
  have e:g=g':=by simpa [Value.ownBlock] using hg'
  subst e
  rcases hat with hat|hat
  ·exact h.ap g hat hv
  ·have:=(l2 g hv).2
   omega
theorem aPo {ops:Array Oper}{o:Oper}{a:Act}{K:Act->World->Prop}{Q:Exit->Act->World->Prop}{E:Prop}
  (hgd:o.guard=none) (s x:Operand) (ho:o.op=.call { callee:=.builtin .append,args:=#[s,x],argTypes:=#[22,22] })
  (hs:a.eval s=v1) (hen:En w W v1 v2 n1 n2 xs ys) (ad:Addr) (z:Int) (hx:a.eval x=.slice (some ad) 1 1) (hc:W.cell? ad=some (.i z)) (h3:n1<=140737488355327 / 8)
  (h:∀ g cap w',En w w' (.slice (some ⟨g,0,none⟩) (n1+1) cap) v2 (n1+1) n2 (xs++[z]) ys->(∀ p:Addr,p.block < W.heap.size->v1.ownBlock≠some p.block->w'.cell? p=W.cell? p)->W.heap.size<=w'.heap.size->K (a.put o.dst (.slice (some ⟨g,0,none⟩) (n1+1) cap)) w') :
  if Region.wanted o (yielded ops a.tmps)=true then Oper.wp Tryz.prog o a W K Q else E:=by
 obtain⟨i0,hi0,hz0,hz1,hz2⟩:=info_parts info3
 refine step_append_lies W hgd s x 22 ho w.heap.size 3 i0 _ 1 8 Tryz.underlying22 hi0 hz0 hz1 hz2 rfl (by omega) v1 n1 (gW xs) hs hen.a ad 1 1 [.i z] hx rfl ?_ (by simp[Value.oneCell']) (by omega) (by unfold maxLen;omega) (by omega) hen.bel.size W.heap.size rfl ?_
 ·intro j u hu
  cases j with
  | zero =>
   simp at hu
   subst hu
   have:ad.add 0=ad:=by cases ad;simp[Addr.add]
   rw[this]
   exact hc
  | succ j=>simp at hu
 ·intro g cap w' hown hgrow hat hlt
  have hown':w'.ownsRow w.heap.size 3 1 (.slice (some ⟨g,0,none⟩) (n1+1) cap) (n1+1) (gW (xs++[z])):=by simpa [gW] using hown
  exact h g cap w' (hen.grow hown' hgrow hat) (fun p hp hne=>hgrow.cell_far p hp (fun e=>hne e.symm)) hgrow.size
theorem aXl {ops:Array Oper}{o:Oper}{a:Act}{K:Act->World->Prop}{Q:Exit->Act->World->Prop}{E:Prop}
  (hgd:o.guard=none) (s x:Operand) (ho:o.op=.call { callee:=.builtin .append,args:=#[s,x],argTypes:=#[22,22] })
  (hs:a.eval s=v2) (hen:En w W v1 v2 n1 n2 xs ys) (ad:Addr) (z:Int) (hx:a.eval x=.slice (some ad) 1 1) (hc:W.cell? ad=some (.i z)) (h3:n2<=140737488355327 / 8)
  (h:∀ g cap w',En w w' v1 (.slice (some ⟨g,0,none⟩) (n2+1) cap) n1 (n2+1) xs (ys++[z])->(∀ p:Addr,p.block < W.heap.size->v2.ownBlock≠some p.block->w'.cell? p=W.cell? p)->W.heap.size<=w'.heap.size->K (a.put o.dst (.slice (some ⟨g,0,none⟩) (n2+1) cap)) w') :
  if Region.wanted o (yielded ops a.tmps)=true then Oper.wp Tryz.prog o a W K Q else E :=
 aPo hgd s x ho hs hen.swap ad z hx hc h3 fun g cap w' he hk hl=>h g cap w' he.swap hk hl
end Go.Proofs.Spn
namespace Go.Proofs.Spn
open Go.RowKit Go.IntWalk Go.Sort
open Knd (Ints)
def rA (L:List (Int × Int)):List Int:=L.map (·.1)
def uN (L:List (Int × Int)):List Int:=L.map (·.2)
theorem aJr {L:List (Int × Int)}{j:Nat}{x y:Int}(hj:j < L.length)(h:L.getD j (0,0)=(x,y)):rA (L.take (j+1))=rA (L.take j)++[x]/\uN (L.take (j+1))=uN (L.take j)++[y]:=by
 have e:L[j]=(x,y):=by simpa [List.getD,hj] using h
 rw[lTs hj,e]
 simp[rA,uN]
def kF (f:List Int->Int × Int)(L:List (Int × Int)):(Int × Int) × Int :=
 if (f (rA L)).2≠0 then((0,0),(f (rA L)).2) else(((f (rA L)).1,(f (uN L)).1),(f (uN L)).2)
def aHv (f:List Int->Int × Int)(L:List (Int × Int)):Value:=.tuple #[.agg #[.i (kF f L).1.1,.i (kF f L).1.2],.i (kF f L).2]
theorem aY {W:World}{o:Obj}{b i:Nat}(h:b < W.heap.size):(W.alloc o).cell? ⟨b,i,none⟩=W.cell? ⟨b,i,none⟩:=(aD W o).cell (p:=⟨b,i,none⟩) h
theorem c3 (W:World)(x y p q:Int) :
  (((W.alloc (cs x y)).alloc (.cells #[.i p] 3)).alloc (.cells #[.i q] 3)).cell? ⟨W.heap.size,0,none⟩=some (.i x) /\
  (((W.alloc (cs x y)).alloc (.cells #[.i p] 3)).alloc (.cells #[.i q] 3)).cell? ⟨W.heap.size,1,none⟩=some (.i y) /\
  (((W.alloc (cs x y)).alloc (.cells #[.i p] 3)).alloc (.cells #[.i q] 3)).cell? ⟨W.heap.size+1,0,none⟩=some (.i p) /\
  (((W.alloc (cs x y)).alloc (.cells #[.i p] 3)).alloc (.cells #[.i q] 3)).cell? ⟨W.heap.size+1+1,0,none⟩=some (.i q):=by
 have h1:=((aB.new W 80 #[.i x,.i y]).alloc (.cells #[.i p] 3)).alloc (.cells #[.i q] 3)
 have h2:=(aB.new (W.alloc (cs x y)) 3 #[.i p]).alloc (.cells #[.i q] 3)
 have h3:=aB.new ((W.alloc (cs x y)).alloc (.cells #[.i p] 3)) 3 #[.i q]
 simp only[wSa] at h2 h3
 exact⟨h1.cell 0 rfl,h1.cell 1 rfl,h2.cell 0 rfl,h3.cell 0 rfl⟩
theorem xH (op k s:Int)(b1 b2 b3:Nat)(a:Option Addr)(n cap:Nat)(L:List (Int × Int))(w:World)(hc:Cap w b1 b2 b3 op k s)(h:Spans w a n cap L)(hn3:n<=3)(f:List Int->Int × Int)(hf:∀ xs,bO op k s xs=f xs) :
  Calls Tryz.prog 287 #[.slice a n cap,.func (.func 282) #[] #[ptr b1,ptr b2,ptr b3]] w fun e w'=>e=.returned (aHv f L)/\Below w.heap.size w w':=by
 have hl:=h.len
 have HC:=aA hc
 have H:=aA h
 have HL:=aA hl
 have HF:=aA hf
 clear hl hc h hf
 have R0:=aB.new w 80 #[.i 0,.i 0]
 have B0:=aD w (cs 0 0)
 have hs0:(w.alloc (cs 0 0)).heap.size=w.heap.size+1:=by simp
 obtain⟨w0,hw0⟩:∃ w0,w.alloc (cs 0 0)=w0:=⟨_,rfl⟩
 rw[hw0] at R0 B0 hs0
 have HR0:=aA R0
 have HB0:=aA B0
 have HW0:=aA hw0
 clear R0 B0 hw0
 have hE0:En w0 w0 (.slice none 0 0) (.slice none 0 0) 0 0 [] []:=by
  refine⟨⟨rfl,.inl ⟨rfl,rfl⟩⟩,⟨rfl,.inl ⟨rfl,rfl⟩⟩,?_,Below.refl _ _⟩
  intro g hg
  simp[Value.ownBlock] at hg
 have HE0:=aA hE0
 clear hE0
 go_enter Tryz.func287,Tryz.ntmps287
 go_wp2_with fail
 rw[show w.alloc (.cells #[.i 0,.i 0] 80)=w0 from HW0.o]
 go_loopw [6,7,15] (fun v1 v2 i wr=>∃ j:Nat,j<=n/\i=.i j/\En w0 wr v1 v2 j j (rA (L.take j)) (uN (L.take j))) (fun _ _ i _=>n-(intOf i).toNat)
 case atStart=>exact⟨0,by omega,rfl,HE0.o⟩
 case round =>
  rename_i wr
  obtain⟨j,hj,rfl,hen⟩:=hrel
  have HEN:=aA hen
  clear hen
  have HBW:=aA (bel HB0.o HEN.o.bel)
  by_cases hlt:j < n
  ·obtain⟨bb,off,rfl,hbb,hcell⟩:=(H.o.later HBW.o).at (by omega)
   obtain⟨g1,g2⟩:=hcell j hlt
   clear hcell
   obtain⟨⟨x,y⟩,hxy⟩:∃ p,L.getD j (0,0)=p:=⟨_,rfl⟩
   rw[hxy] at g1 g2
   have HXY:=aA hxy
   clear hxy
   have hj0:(0:Int)<=(j:Int):=by omega
   have hj1:(j:Int) < (n:Int):=by omega
   have hv1:∀ g,u6.ownBlock=some g->g < wr.heap.size:=fun g hg=>(HEN.o.a.lt g hg).2
   have HV1:=aA hv1
   clear hv1
   have hv2:∀ g,u7.ownBlock=some g->g < wr.heap.size:=fun g hg=>(HEN.o.b.lt g hg).2
   have HV2:=aA hv2
   clear hv2
   go_wp2_with fail
   go_region_held3 (fun w'=>w'.cell? ⟨wr.heap.size,0,none⟩=some (.i x)/\w'.cell? ⟨wr.heap.size,1,none⟩=some (.i y))
    (first|exact⟨t1,t2⟩|exact⟨t3,t4⟩|go_keep)
    (first
     | (refine aPo (by rfl) _ _ (by rfl) (by rfl) (by first | exact((HEN.o.alloc _).alloc _).drew | exact(((HEN.o.alloc _).alloc _).alloc _).drew) _ x (by rfl) (by first | (simp;done) | exact(c3 wr x y x y).2.2.1 | exact(c3 wr x y y x).2.2.2) (by omega) ?_;intro g cap1 w1 hen1 hk1 hsz1;have t1:w1.cell? ⟨wr.heap.size,0,none⟩=some (.i x):=(by rw[hk1 _ (by simp;omega) (fun h=>by have:=HV1.o _ h;simp at this)];first | (simp;done) | exact(c3 wr x y x y).1 | exact(c3 wr x y y x).1);have t2:w1.cell? ⟨wr.heap.size,1,none⟩=some (.i y):=(by rw[hk1 _ (by simp;omega) (fun h=>by have:=HV1.o _ h;simp at this)];first | (simp;done) | exact(c3 wr x y x y).2.1 | exact(c3 wr x y y x).2.1);have hl1:wr.heap.size < w1.heap.size:=wBl w1 _ t1)
     | (refine aXl (by rfl) _ _ (by rfl) (by rfl) (by first | exact hen1 | exact hen1.alloc _) _ y (by rfl) (by first | (simp;done) | (rw[hk1 _ (by simp) (fun h=>by have:=HV1.o _ h;simp at this;omega)];first | exact(c3 wr x y x y).2.2.2 | exact(c3 wr x y y x).2.2.1)) (by omega) ?_;intro gb cap2 w2 hen2 hk2 hsz2;have t3:w2.cell? ⟨wr.heap.size,0,none⟩=some (.i x):=(by rw[hk2 _ (by first | exact hl1 | (simp;omega)) (fun h=>by have:=HV2.o _ h;simp at this)];first | exact t1 | exact(aY hl1).trans t1);have t4:w2.cell? ⟨wr.heap.size,1,none⟩=some (.i y):=(by rw[hk2 _ (by first | exact hl1 | (simp;omega)) (fun h=>by have:=HV2.o _ h;simp at this)];first | exact t2 | exact(aY hl1).trans t2)))
   all_goals
    clear hk1 hk2 t1 t2 t3 t4 hl1 hsz1 hsz2 hen1 g1 g2 HEN HV1 HV2 HBW hbb
    have HEN2:=aA hen2
    clear hen2
    go_wp2_with fail
    go_roundw
    case rel =>
     refine⟨j+1,by omega,by go_num,?_⟩
     have hs:=aJr (by rw[HL.o];exact hlt) HXY.o
     rw[hs.1,hs.2]
     exact HEN2.o
    case measure=>simp[intOf];omega
  ·obtain rfl:j=n:=by omega
   have he:=HEN.o
   rw[lTl (by rw[HL.o];omega)] at he
   obtain⟨a1,c1,rfl,hI1,-⟩:=Ints.of_owns he.a
   obtain⟨a2,c2,rfl,hI2,-⟩:=Ints.of_owns he.b
   have HI2:=aA hI2
   have CA:=aBn op k s b1 b2 b3 a1 j c1 (rA L) wr hI1 (HC.o.later HBW.o)
   have HR:=aA (HR0.o.below HEN.o.bel)
   clear he hI1 hI2 HEN
   rw[HF.o] at CA
   obtain⟨⟨z1,e1⟩,hZ1⟩:∃ Z,f (rA L)=Z:=⟨_,rfl⟩
   rw[hZ1] at CA
   have HZ1:=aA hZ1
   have HCA:=aA CA
   clear hZ1 CA
   go_wp2_with fail
   refine HCA.o.mono ?_
   rintro e' w2 ⟨rfl,hb2⟩
   have HB2:=aA (bel HBW.o hb2)
   have HR2:=aA (HR.o.below hb2)
   have HI22:=aA (HI2.o.later hb2)
   clear hb2 HBW HR HI2 HCA
   by_cases he1:e1=0
   ·subst he1
    have CB:=aBn op k s b1 b2 b3 a2 j c2 (uN L) w2 HI22.o (HC.o.later HB2.o)
    rw[HF.o] at CB
    obtain⟨⟨z2,e2⟩,hZ2⟩:∃ Z,f (uN L)=Z:=⟨_,rfl⟩
    rw[hZ2] at CB
    have HZ2:=aA hZ2
    have HCB:=aA CB
    clear hZ2 CB
    go_wp2_with fail
    refine HCB.o.mono ?_
    rintro e' w3 ⟨rfl,hb3⟩
    have HB3:=aA (bel HB2.o hb3)
    have HR3:=aA (HR2.o.below hb3)
    clear hb3 HB2 HR2 HCB
    obtain⟨s1,s2,s3,s4⟩:=aM HR3.o
    go_wp2_with fail
    obtain⟨d0,d1,hB2⟩:=aR HR3.o HB3.o (by omega) z1 z2
    exact bPr (v:=.tuple #[.agg #[.i z1,.i z2],.i e2]) (by simp[results,Tryz.results287,go_sem,d0,d1]) rfl ⟨by simp[aHv,kF,HZ1.o,HZ2.o],hB2⟩
   ·have he':(e1 != 0)=true:=by simp[he1]
    have HE1:=aA he1
    clear he1
    obtain⟨s1,s2,s3,s4⟩:=aM HR2.o
    go_wp2_with fail
    obtain⟨d0,d1,hB2⟩:=aR HR2.o HB2.o (by omega) 0 0
    exact bPr (v:=.tuple #[.agg #[.i 0,.i 0],.i e1]) (by simp[results,Tryz.results287,go_sem,d0,d1]) rfl ⟨by simp[aHv,kF,HZ1.o,HE1.o],hB2⟩
end Go.Proofs.Spn
namespace Go.Proofs.Spn
open Go.RowKit Go.IntWalk Go.Sort
abbrev spV (Z:(Int × Int) × Int):Value:=.tuple #[.agg #[.i Z.1.1,.i Z.1.2],.i Z.2]
def sH (f:Int->Int->Int × Int)(op a b c d:Int):(Int × Int) × Int :=
 if hasB c d 0=true then((0,0),12) else if op=11 then eU f a b c d else(kY a b c d,0)
theorem aC0 (op k s a b c d:Int)(b1 b2 b3:Nat)(w:World)(hc:Cap w b1 b2 b3 op k s)(f:Int->Int->Int × Int)(hf:∀ u v,bO op k s [u,v]=f u v)
  (ho:op=11\/op=12) (ha:fA a) (hb:fA b) (hc':fA c) (hd:fA d) :
  Calls Tryz.prog 285 #[.i op,.agg #[.i a,.i b],.agg #[.i c,.i d],.func (.func 282) #[] #[ptr b1,ptr b2,ptr b3]] w fun e w' =>
   e=.returned (spV (sH f op a b c d))/\Below w.heap.size w w':=by
 have HH:=fun w=>aA (aHz c d 0 w)
 have HC:=aA hc
 have HF:=aA hf
 clear hc hf
 cases h0:hasB c d 0
 ·rw[h0] at HH
  rcases ho with rfl|rfl
  ·rw[show sH f 11 a b c d=eU f a b c d by simp[sH,h0]]
   clear h0
   go_enter Tryz.func285,Tryz.ntmps285
   go_wp2_with fail
   refine(HH _).o.mono ?_
   rintro e w2 ⟨rfl,hb2⟩
   obtain⟨k1,k2,k3,hB⟩:=tN hb2
   obtain⟨q1,q2,-,-⟩:=aM k1
   obtain⟨r1,r2,-,-⟩:=aM k2
   have HK3:=aA k3
   have HB2:=aA hB
   have CC:=aA (uW 11 k s a b c d b1 b2 b3 w2 (HC.o.later hB) f HF.o)
   clear hb2 k1 k2 k3 hB
   unfold xA at CC
   obtain⟨⟨⟨x,y⟩,e⟩,hZ⟩:∃ Z,eU f a b c d=Z:=⟨_,rfl⟩
   rw[hZ] at CC
   have HZ:=aA hZ
   clear hZ
   go_wp2_with fail
   refine CC.o.mono ?_
   rintro e' w3 ⟨rfl,hb3⟩
   have hR:=HK3.o.below hb3
   have hB3:=bel HB2.o hb3
   obtain⟨s1,s2,s3,s4⟩:=aM hR
   clear hb3
   go_wp2_with fail
   obtain⟨d0,d1,hB4⟩:=aR hR hB3 (by omega) x y
   exact bPr (v:=.tuple #[.agg #[.i x,.i y],.i e]) (by simp[results,Tryz.results285,go_sem,d0,d1]) rfl ⟨by rw[HZ.o],hB4⟩
  ·rw[show sH f 12 a b c d=(kY a b c d,0) by simp[sH,h0]]
   clear h0
   have HLf:=fun w=>aA (aNf a b c d w ha hb hc' hd)
   generalize kY a b c d=Z at *
   obtain⟨x,y⟩:=Z
   go_enter Tryz.func285,Tryz.ntmps285
   go_wp2_with fail
   refine(HH _).o.mono ?_
   rintro e w2 ⟨rfl,hb2⟩
   obtain⟨k1,k2,k3,hB⟩:=tN hb2
   obtain⟨q1,q2,-,-⟩:=aM k1
   obtain⟨r1,r2,-,-⟩:=aM k2
   have HK3:=aA k3
   have HB2:=aA hB
   clear hb2 k1 k2 k3 hB
   go_wp2_with fail
   refine(HLf _).o.mono ?_
   rintro e' w3 ⟨rfl,hb3⟩
   have hR:=HK3.o.below hb3
   have hB3:=bel HB2.o hb3
   obtain⟨s1,s2,s3,s4⟩:=aM hR
   clear hb3
   go_wp2_with fail
   obtain⟨d0,d1,hB4⟩:=aR hR hB3 (by omega) x y
   exact bPr (v:=.tuple #[.agg #[.i x,.i y],.i 0]) (by simp[results,Tryz.results285,go_sem,d0,d1]) rfl ⟨rfl,hB4⟩
 ·rw[show sH f op a b c d=((0,0),12) by simp[sH,h0]]
  rw[h0] at HH
  clear h0 ho
  go_enter Tryz.func285,Tryz.ntmps285
  go_wp2_with fail
  refine(HH _).o.mono ?_
  rintro e w2 ⟨rfl,hb2⟩
  obtain⟨-,-,k3,hB⟩:=tN hb2
  obtain⟨s1,s2,s3,s4⟩:=aM k3
  clear hb2
  go_wp2_with fail
  obtain⟨d0,d1,hB4⟩:=aR k3 hB (by omega) 0 0
  exact bPr (v:=.tuple #[.agg #[.i 0,.i 0],.i 12]) (by simp[results,Tryz.results285,go_sem,d0,d1]) rfl ⟨rfl,hB4⟩
def aWy (op:Int)(L:List (Int × Int)):Int × Int :=
 if L.length=1 then mE op (L.getD 0 (0,0)).1 (L.getD 0 (0,0)).2 else if L.length=2 then qK op (L.getD 0 (0,0)).1 (L.getD 0 (0,0)).2 (L.getD 1 (0,0)).1 (L.getD 1 (0,0)).2
 else rH (L.getD 0 (0,0)).1 (L.getD 0 (0,0)).2 (L.getD 1 (0,0)).1 (L.getD 1 (0,0)).2 (L.getD 2 (0,0)).1 (L.getD 2 (0,0)).2
theorem aPk (op a b:Int)(bb off cap:Nat)(w:World)(hcap:1<=cap)(hlt:bb < w.heap.size)(c0:w.cell? ⟨bb,off,none⟩=some (.i a))(c1:w.cell? ⟨bb,off+1,none⟩=some (.i b))(ha:fA a)(hb:fA b) :
  Calls Tryz.prog 288 #[.i op,.slice (some ⟨bb,off,none⟩) 1 cap] w fun e w'=>e=.returned (.agg #[.i (mE op a b).1,.i (mE op a b).2])/\Below w.heap.size w w':=by
 have HA:=fun w=>aA (aG1 op a b w ha hb)
 generalize mE op a b=Z at *
 obtain⟨x,y⟩:=Z
 have d0:=(aY (o:=cs 0 0) (i:=off) hlt).trans c0
 have d1:=(aY (o:=cs 0 0) (i:=off+1) hlt).trans c1
 have HR:=aA (aB.new w 80 #[.i 0,.i 0])
 have HB:=aA (aD w (cs 0 0))
 clear c0 c1
 go_enter Tryz.func288,Tryz.ntmps288
 go_wp2_with fail
 refine(HA _).o.mono ?_
 rintro e w2 ⟨rfl,hb2⟩
 have hR:=HR.o.below hb2
 have hB:=bel HB.o hb2
 obtain⟨s1,s2,s3,s4⟩:=aM hR
 clear hb2
 go_wp2_with fail
 obtain⟨d0,d1,hB4⟩:=aR hR hB (by omega) x y
 exact bPr (v:=.agg #[.i x,.i y]) (by simp[results,Tryz.results288,go_sem,d0,d1]) rfl ⟨rfl,hB4⟩
theorem aPl (op a b c d:Int)(bb off cap:Nat)(w:World)(hcap:2<=cap)(hlt:bb < w.heap.size)(c0:w.cell? ⟨bb,off,none⟩=some (.i a))(c1:w.cell? ⟨bb,off+1,none⟩=some (.i b))
  (c2:w.cell? ⟨bb,off+2,none⟩=some (.i c)) (c3:w.cell? ⟨bb,off+2+1,none⟩=some (.i d)) (ha:fA a) (hb:fA b) (hc:fA c) (hd:fA d) (ho:op=8\/op=9\/op=15\/op=16\/op=17\/op=22\/op=23) :
  Calls Tryz.prog 288 #[.i op,.slice (some ⟨bb,off,none⟩) 2 cap] w fun e w'=>e=.returned (.agg #[.i (qK op a b c d).1,.i (qK op a b c d).2])/\Below w.heap.size w w':=by
 have HA:=fun w=>aA (aG2 op a b c d w ha hb hc hd ho)
 generalize qK op a b c d=Z at *
 obtain⟨x,y⟩:=Z
 have d0:=(aY (o:=cs 0 0) (i:=off) hlt).trans c0
 have d1:=(aY (o:=cs 0 0) (i:=off+1) hlt).trans c1
 have d2:=(aY (o:=cs 0 0) (i:=off+2) hlt).trans c2
 have d3:=(aY (o:=cs 0 0) (i:=off+2+1) hlt).trans c3
 have HR:=aA (aB.new w 80 #[.i 0,.i 0])
 have HB:=aA (aD w (cs 0 0))
 have HO:=aA ho
 clear c0 c1 c2 c3 ho
 go_enter Tryz.func288,Tryz.ntmps288
 go_wp2_with fail
 have e0:=cell_regrown d0
 have e1:=cell_regrown d1
 have e2:=cell_regrown d2
 have e3:=cell_regrown d3
 refine aK (hf:=(List.dropLast_concat_getLast (by simp)).symm) mixed (by kernel_rfl) rfl (by kernel_rfl) (by kernel_rfl) (by kernel_rfl) (by kernel_rfl) (by kernel_rfl) ?_
 simp only[List.dropLast_cons_cons,List.dropLast_singleton,List.getLast_cons_cons,List.getLast_singleton]
 repeat (go_big_quiet_step ((go_at_call 309;exact Calls.regrown_of (HA _).o)))
 refine wpQuiet_nil ?_
 intro _ hw'
 obtain⟨pq,hw''⟩:=hw'
 subst hw''
 have hb2:=below_regrown (w.alloc (cs 0 0)) pq.d pq.os
 have hR:=HR.o.below hb2
 have hB:=bel HB.o hb2
 clear hb2 d0 d1 d2 d3 e0 e1 e2 e3
 generalize grow (redrawn (w.alloc (.cells #[.i 0,.i 0] 80)) pq.d) pq.os=G at *
 obtain⟨s1,s2,s3,s4⟩:=aM hR
 go_wp2_with fail
 obtain⟨d0,d1,hB4⟩:=aR hR hB (by omega) x y
 exact bPr (v:=.agg #[.i x,.i y]) (by simp[results,Tryz.results288,go_sem,d0,d1]) rfl ⟨rfl,hB4⟩
theorem aPm (op a b c d e f:Int)(bb off cap:Nat)(w:World)(hcap:3<=cap)(hlt:bb < w.heap.size)(c0:w.cell? ⟨bb,off,none⟩=some (.i a))(c1:w.cell? ⟨bb,off+1,none⟩=some (.i b))
  (c2:w.cell? ⟨bb,off+2,none⟩=some (.i c)) (c3:w.cell? ⟨bb,off+2+1,none⟩=some (.i d)) (c4:w.cell? ⟨bb,off+4,none⟩=some (.i e)) (c5:w.cell? ⟨bb,off+4+1,none⟩=some (.i f)) :
  Calls Tryz.prog 288 #[.i op,.slice (some ⟨bb,off,none⟩) 3 cap] w fun r w'=>r=.returned (.agg #[.i (rH a b c d e f).1,.i (rH a b c d e f).2])/\Below w.heap.size w w':=by
 have HA:=fun w=>aA (aE9 a b c d e f w)
 generalize rH a b c d e f=Z at *
 obtain⟨x,y⟩:=Z
 have d0:=(aY (o:=cs 0 0) (i:=off) hlt).trans c0
 have d1:=(aY (o:=cs 0 0) (i:=off+1) hlt).trans c1
 have d2:=(aY (o:=cs 0 0) (i:=off+2) hlt).trans c2
 have d3:=(aY (o:=cs 0 0) (i:=off+2+1) hlt).trans c3
 have d4:=(aY (o:=cs 0 0) (i:=off+4) hlt).trans c4
 have d5:=(aY (o:=cs 0 0) (i:=off+4+1) hlt).trans c5
 have HR:=aA (aB.new w 80 #[.i 0,.i 0])
 have HB:=aA (aD w (cs 0 0))
 clear c0 c1 c2 c3 c4 c5
 go_enter Tryz.func288,Tryz.ntmps288
 go_wp2_with fail
 have e0:=cell_regrown d0
 have e1:=cell_regrown d1
 have e2:=cell_regrown d2
 have e3:=cell_regrown d3
 have e4:=cell_regrown d4
 have e5:=cell_regrown d5
 refine aK (hf:=(List.dropLast_concat_getLast (by simp)).symm) mixed (by kernel_rfl) rfl (by kernel_rfl) (by kernel_rfl) (by kernel_rfl) (by kernel_rfl) (by kernel_rfl) ?_
 simp only[List.dropLast_cons_cons,List.dropLast_singleton,List.getLast_cons_cons,List.getLast_singleton]
 repeat (go_big_quiet_step ((go_at_call 310;exact Calls.regrown_of (HA _).o)))
 refine wpQuiet_nil ?_
 intro _ hw'
 obtain⟨pq,hw''⟩:=hw'
 subst hw''
 have hb2:=below_regrown (w.alloc (cs 0 0)) pq.d pq.os
 have hR:=HR.o.below hb2
 have hB:=bel HB.o hb2
 clear hb2 d0 d1 d2 d3 d4 d5 e0 e1 e2 e3 e4 e5
 generalize grow (redrawn (w.alloc (.cells #[.i 0,.i 0] 80)) pq.d) pq.os=G at *
 obtain⟨s1,s2,s3,s4⟩:=aM hR
 go_wp2_with fail
 obtain⟨d0,d1,hB4⟩:=aR hR hB (by omega) x y
 exact bPr (v:=.agg #[.i x,.i y]) (by simp[results,Tryz.results288,go_sem,d0,d1]) rfl ⟨rfl,hB4⟩
abbrev c1 (x:Int):Obj:=.cells #[.i x] 3
structure Rk (w W:World)(op k s:Int):Prop where
 cap:Cap W w.heap.size (w.heap.size+1) (w.heap.size+1+1) op k s
 r:aB W (w.heap.size+1+1+1) 80 #[.i 0,.i 0]
 bel:Below w.heap.size w W
theorem Rk.later {w W W':World}{op k s:Int}(h:Rk w W op k s)(hb:Below W.heap.size W W'):Rk w W' op k s:=⟨h.cap.later hb,h.r.below hb,h.bel.trans (hb.mono h.bel.size)⟩
theorem aF (W:World):Below W.heap.size W W.drew:=⟨rfl,rfl,rfl,nLr _,fun _ _=>rfl⟩
theorem Rk.drew {w W:World}{op k s:Int}(h:Rk w W op k s):Rk w W.drew op k s:=h.later (aF W)
theorem Rk.start (w:World)(op k s:Int):Rk w ((((w.alloc (c1 op)).alloc (c1 k)).alloc (c1 s)).alloc (cs 0 0)) op k s:=by
 have h1:=(((aB.new w 3 #[.i op]).alloc (c1 k)).alloc (c1 s)).alloc (cs 0 0)
 have h2:=((aB.new (w.alloc (c1 op)) 3 #[.i k]).alloc (c1 s)).alloc (cs 0 0)
 have h3:=(aB.new ((w.alloc (c1 op)).alloc (c1 k)) 3 #[.i s]).alloc (cs 0 0)
 have h4:=aB.new (((w.alloc (c1 op)).alloc (c1 k)).alloc (c1 s)) 80 #[.i 0,.i 0]
 simp only[wSa] at h2 h3 h4
 exact⟨⟨h1,h2,h3⟩,h4,((((Below.refl _ _).alloc (nLr _) _).alloc (by simp) _).alloc (by simp;omega) _).alloc (by simp;omega) _⟩
theorem lW {W:World}{B g b i:Nat}{u v x:Value}(hb:b < B)(hg:B<=g)(hc:W.cell? ⟨b,i,none⟩=some x):((W.setCell ⟨g,0,none⟩ u).setCell ⟨g,1,none⟩ v).cell? ⟨b,i,none⟩=some x :=
 ((((Below.refl B W).setCell (p:=⟨g,0,none⟩) hg u).setCell (p:=⟨g,1,none⟩) hg v).cell (p:=⟨b,i,none⟩) hb).trans hc
theorem aA8 (op k s a b c d:Int)(bb off cap:Nat)(w:World)(hcap:2<=cap)(hlt:bb < w.heap.size)(c0:w.cell? ⟨bb,off,none⟩=some (.i a))(c1:w.cell? ⟨bb,off+1,none⟩=some (.i b))(c2:w.cell? ⟨bb,off+2,none⟩=some (.i c))(c3:w.cell? ⟨bb,off+2+1,none⟩=some (.i d))(ho:op=10\/op=13\/op=14\/op=18\/op=19\/op=20\/op=21) :
  Calls Tryz.prog 248 #[.i op,.i k,.i s,.slice (some ⟨bb,off,none⟩) 2 cap] w fun r w'=>r=.returned (spV (eU (fun u v=>bO op k s [u,v]) a b c d))/\Below w.heap.size w w':=by
 have R0:=Rk.start w op k s
 have d0:=(R0.bel.cell (p:=⟨bb,off,none⟩) hlt).trans c0
 have d1:=(R0.bel.cell (p:=⟨bb,off+1,none⟩) hlt).trans c1
 have d2:=(R0.bel.cell (p:=⟨bb,off+2,none⟩) hlt).trans c2
 have d3:=(R0.bel.cell (p:=⟨bb,off+2+1,none⟩) hlt).trans c3
 have HR:=aA R0
 clear R0 c0 c1 c2 c3
 have HC:=aA fun(W':World) (hW':Rk w W' op k s)=>uW op k s a b c d _ _ _ W' hW'.cap (fun u v=>bO op k s [u,v]) (fun _ _=>rfl)
 unfold xA at HC
 obtain⟨⟨⟨x,y⟩,e⟩,hZ⟩:∃ Z,eU (fun u v=>bO op k s [u,v]) a b c d=Z:=⟨_,rfl⟩
 rw[hZ] at HC ⊢
 clear hZ
 have HWW:Hid (∃ W,((((w.alloc (.cells #[.i op] 3)).alloc (.cells #[.i k] 3)).alloc (.cells #[.i s] 3)).alloc (.cells #[.i 0,.i 0] 80))=W):=aA ⟨_,rfl⟩
 rcases ho with rfl|rfl|rfl|rfl|rfl|rfl|rfl
 all_goals
  go_enter Tryz.func248,Tryz.ntmps248
  go_wp2_with fail
  obtain⟨W,hW⟩:=HWW.o
  rw[hW] at HR d0 d1 d2 d3 ⊢
  clear hW
  have hlW:=wBl W _ d0
  go_region_held3 (fun w'=>w'.cell? ⟨bb,off,none⟩=some (.i a)/\w'.cell? ⟨bb,off+1,none⟩=some (.i b)/\w'.cell? ⟨bb,off+2,none⟩=some (.i c)/\w'.cell? ⟨bb,off+2+1,none⟩=some (.i d))
   (first|exact⟨t0,t1,t2,t3⟩|exact⟨lW hlt (by omega) t0,lW hlt (by omega) t1,lW hlt (by omega) t2,lW hlt (by omega) t3⟩|go_keep)
   ((go_at_call 286;refine(HC.o _ HR.o.drew).mono ?_;rintro e' w2 ⟨rfl,hb2⟩;have t0:=(hb2.cell (p:=⟨bb,off,none⟩) hlW).trans d0;have t1:=(hb2.cell (p:=⟨bb,off+1,none⟩) hlW).trans d1;have t2:=(hb2.cell (p:=⟨bb,off+2,none⟩) hlW).trans d2;have t3:=(hb2.cell (p:=⟨bb,off+2+1,none⟩) hlW).trans d3;have HR9:=aA (HR.o.drew.later hb2);obtain⟨s1,s2,s3,s4⟩:=aM HR9.o.r))
  go_wp2_with fail
  obtain⟨d0,d1,hB4⟩:=aR HR9.o.r HR9.o.bel (by omega) x y
  exact bPr (v:=.tuple #[.agg #[.i x,.i y],.i e]) (by simp[results,Tryz.results248,go_sem,d0,d1]) rfl ⟨rfl,hB4⟩
theorem aOy (op k s a b c d:Int)(bb off cap:Nat)(w:World)(hcap:2<=cap)(hlt:bb < w.heap.size)(c0:w.cell? ⟨bb,off,none⟩=some (.i a))(c1:w.cell? ⟨bb,off+1,none⟩=some (.i b))(c2:w.cell? ⟨bb,off+2,none⟩=some (.i c))(c3:w.cell? ⟨bb,off+2+1,none⟩=some (.i d))(ho:op=11\/op=12)(ha:fA a)(hb:fA b)(hc:fA c)(hd:fA d) :
  Calls Tryz.prog 248 #[.i op,.i k,.i s,.slice (some ⟨bb,off,none⟩) 2 cap] w fun r w'=>r=.returned (spV (sH (fun u v=>bO op k s [u,v]) op a b c d))/\Below w.heap.size w w':=by
 have R0:=Rk.start w op k s
 have d0:=(R0.bel.cell (p:=⟨bb,off,none⟩) hlt).trans c0
 have d1:=(R0.bel.cell (p:=⟨bb,off+1,none⟩) hlt).trans c1
 have d2:=(R0.bel.cell (p:=⟨bb,off+2,none⟩) hlt).trans c2
 have d3:=(R0.bel.cell (p:=⟨bb,off+2+1,none⟩) hlt).trans c3
 have HR:=aA R0
 clear R0 c0 c1 c2 c3
 have HC:=aA fun(W':World) (hW':Rk w W' op k s)=>aC0 op k s a b c d _ _ _ W' hW'.cap (fun u v=>bO op k s [u,v]) (fun _ _=>rfl) ho ha hb hc hd
 obtain⟨⟨⟨x,y⟩,e⟩,hZ⟩:∃ Z,sH (fun u v=>bO op k s [u,v]) op a b c d=Z:=⟨_,rfl⟩
 rw[hZ] at HC ⊢
 clear hZ
 rcases ho with rfl|rfl
 ·go_enter Tryz.func248,Tryz.ntmps248
  go_wp2_with fail
  obtain⟨W,hW⟩:∃ W,((((w.alloc (.cells #[.i 11] 3)).alloc (.cells #[.i k] 3)).alloc (.cells #[.i s] 3)).alloc (.cells #[.i 0,.i 0] 80))=W:=⟨_,rfl⟩
  rw[hW] at HR d0 d1 d2 d3 ⊢
  clear hW
  have hlW:=wBl W _ d0
  have d4:=HR.o.cap.o.cell 0 rfl
  go_region_held3 (fun w'=>w'.cell? ⟨bb,off,none⟩=some (.i a)/\w'.cell? ⟨bb,off+1,none⟩=some (.i b)/\w'.cell? ⟨bb,off+2,none⟩=some (.i c)/\w'.cell? ⟨bb,off+2+1,none⟩=some (.i d)/\w'.cell? ⟨w.heap.size,0,none⟩=some (.i 11))
   (first|exact⟨t0,t1,t2,t3,t4⟩|exact⟨lW hlt (by omega) t0,lW hlt (by omega) t1,lW hlt (by omega) t2,lW hlt (by omega) t3,lW (Nat.lt_succ_self _) (by omega) t4⟩|go_keep)
   ((go_at_call 285;refine(HC.o _ HR.o.drew).mono ?_;rintro e' w2 ⟨rfl,hb2⟩;have t0:=(hb2.cell (p:=⟨bb,off,none⟩) hlW).trans d0;have t1:=(hb2.cell (p:=⟨bb,off+1,none⟩) hlW).trans d1;have t2:=(hb2.cell (p:=⟨bb,off+2,none⟩) hlW).trans d2;have t3:=(hb2.cell (p:=⟨bb,off+2+1,none⟩) hlW).trans d3;have HR9:=aA (HR.o.drew.later hb2);have t4:=HR9.o.cap.o.cell 0 rfl;obtain⟨s1,s2,s3,s4⟩:=aM HR9.o.r))
  go_wp2_with fail
  obtain⟨d0,d1,hB4⟩:=aR HR9.o.r HR9.o.bel (by omega) x y
  exact bPr (v:=.tuple #[.agg #[.i x,.i y],.i e]) (by simp[results,Tryz.results248,go_sem,d0,d1]) rfl ⟨rfl,hB4⟩
 ·go_enter Tryz.func248,Tryz.ntmps248
  go_wp2_with fail
  obtain⟨W,hW⟩:∃ W,((((w.alloc (.cells #[.i 12] 3)).alloc (.cells #[.i k] 3)).alloc (.cells #[.i s] 3)).alloc (.cells #[.i 0,.i 0] 80))=W:=⟨_,rfl⟩
  rw[hW] at HR d0 d1 d2 d3 ⊢
  clear hW
  have hlW:=wBl W _ d0
  have d4:=HR.o.cap.o.cell 0 rfl
  go_region_held3 (fun w'=>w'.cell? ⟨bb,off,none⟩=some (.i a)/\w'.cell? ⟨bb,off+1,none⟩=some (.i b)/\w'.cell? ⟨bb,off+2,none⟩=some (.i c)/\w'.cell? ⟨bb,off+2+1,none⟩=some (.i d)/\w'.cell? ⟨w.heap.size,0,none⟩=some (.i 12))
   (first|exact⟨t0,t1,t2,t3,t4⟩|exact⟨lW hlt (by omega) t0,lW hlt (by omega) t1,lW hlt (by omega) t2,lW hlt (by omega) t3,lW (Nat.lt_succ_self _) (by omega) t4⟩|go_keep)
   ((go_at_call 285;refine(HC.o _ HR.o.drew).mono ?_;rintro e' w2 ⟨rfl,hb2⟩;have t0:=(hb2.cell (p:=⟨bb,off,none⟩) hlW).trans d0;have t1:=(hb2.cell (p:=⟨bb,off+1,none⟩) hlW).trans d1;have t2:=(hb2.cell (p:=⟨bb,off+2,none⟩) hlW).trans d2;have t3:=(hb2.cell (p:=⟨bb,off+2+1,none⟩) hlW).trans d3;have HR9:=aA (HR.o.drew.later hb2);have t4:=HR9.o.cap.o.cell 0 rfl;obtain⟨s1,s2,s3,s4⟩:=aM HR9.o.r))
  go_wp2_with fail
  obtain⟨d0,d1,hB4⟩:=aR HR9.o.r HR9.o.bel (by omega) x y
  exact bPr (v:=.tuple #[.agg #[.i x,.i y],.i e]) (by simp[results,Tryz.results248,go_sem,d0,d1]) rfl ⟨rfl,hB4⟩
theorem aKm (op k s:Int)(a:Option Addr)(n cap:Nat)(L:List (Int × Int))(w:World)(h:Spans w a n cap L)(hn:n<=3)(ho:op=7\/op=24\/op=25\/op=26\/op=27\/op=29\/op=30\/op=33) :
  Calls Tryz.prog 248 #[.i op,.i k,.i s,.slice a n cap] w fun r w'=>r=.returned (spV (kF (fun xs=>bO op k s xs) L))/\Below w.heap.size w w':=by
 have HR:=aA (Rk.start w op k s)
 have HC:=aA fun(W':World) (hW':Rk w W' op k s)=>xH op k s _ _ _ a n cap L W' hW'.cap (h.later hW'.bel) hn (fun xs=>bO op k s xs) (fun _=>rfl)
 unfold aHv at HC
 obtain⟨⟨⟨x,y⟩,e⟩,hZ⟩:∃ Z,kF (fun xs=>bO op k s xs) L=Z:=⟨_,rfl⟩
 rw[hZ] at HC ⊢
 clear hZ h
 have HWW:Hid (∃ W,((((w.alloc (.cells #[.i op] 3)).alloc (.cells #[.i k] 3)).alloc (.cells #[.i s] 3)).alloc (.cells #[.i 0,.i 0] 80))=W):=aA ⟨_,rfl⟩
 rcases ho with rfl|rfl|rfl|rfl|rfl|rfl|rfl|rfl
 all_goals
  go_enter Tryz.func248,Tryz.ntmps248
  go_wp2_with fail
  obtain⟨W,hW⟩:=HWW.o
  rw[hW] at HR ⊢
  clear hW
  refine(HC.o _ HR.o).mono ?_
  rintro e' w2 ⟨rfl,hb2⟩
  have HR9:=aA (HR.o.later hb2)
  obtain⟨s1,s2,s3,s4⟩:=aM HR9.o.r
  clear hb2
  go_wp2_with fail
  obtain⟨d0,d1,hB4⟩:=aR HR9.o.r HR9.o.bel (by omega) x y
  exact bPr (v:=.tuple #[.agg #[.i x,.i y],.i e]) (by simp[results,Tryz.results248,go_sem,d0,d1]) rfl ⟨rfl,hB4⟩
theorem rG (op k s:Int)(a:Option Addr)(n cap:Nat)(Z:Int × Int)(w:World)(ho:op=5\/op=6\/op=8\/op=9\/op=15\/op=16\/op=17\/op=22\/op=23\/op=28)
  (hp:∀ W,Below w.heap.size w W->Calls Tryz.prog 288 #[.i op,.slice a n cap] W fun r w'=>r=.returned (.agg #[.i Z.1,.i Z.2])/\Below W.heap.size W w') :
  Calls Tryz.prog 248 #[.i op,.i k,.i s,.slice a n cap] w fun r w'=>r=.returned (spV (Z,0))/\Below w.heap.size w w':=by
 have HR:=aA (Rk.start w op k s)
 have HC:=aA fun(W':World) (hW':Rk w W' op k s)=>hp W' hW'.bel
 clear hp
 obtain⟨x,y⟩:=Z
 have HWW:Hid (∃ W,((((w.alloc (.cells #[.i op] 3)).alloc (.cells #[.i k] 3)).alloc (.cells #[.i s] 3)).alloc (.cells #[.i 0,.i 0] 80))=W):=aA ⟨_,rfl⟩
 rcases ho with rfl|rfl|rfl|rfl|rfl|rfl|rfl|rfl|rfl|rfl
 all_goals
  go_enter Tryz.func248,Tryz.ntmps248
  go_wp2_with fail
  obtain⟨W,hW⟩:=HWW.o
  rw[hW] at HR ⊢
  clear hW
  have o4:=HR.o.cap.o.cell 0 rfl
  refine(HC.o _ HR.o).mono ?_
  rintro e' w2 ⟨rfl,hb2⟩
  have HR9:=aA (HR.o.later hb2)
  obtain⟨s1,s2,s3,s4⟩:=aM HR9.o.r
  clear hb2
  go_wp2_with fail
  obtain⟨d0,d1,hB4⟩:=aR HR9.o.r HR9.o.bel (by omega) x y
  exact bPr (v:=.tuple #[.agg #[.i x,.i y],.i 0]) (by simp[results,Tryz.results248,go_sem,d0,d1]) rfl ⟨rfl,hB4⟩
theorem aKl (op k s a b:Int)(bb off cap:Nat)(w:World)(hcap:1<=cap)(hlt:bb < w.heap.size)(c0:w.cell? ⟨bb,off,none⟩=some (.i a))(c1:w.cell? ⟨bb,off+1,none⟩=some (.i b))(ho:op=31)(ha:fA a)(hb:fA b)(hk:fA k) :
  Calls Tryz.prog 248 #[.i op,.i k,.i s,.slice (some ⟨bb,off,none⟩) 1 cap] w fun r w'=>r=.returned (spV (fC a b k k,0))/\Below w.heap.size w w':=by
 have R0:=Rk.start w op k s
 have d0:=(R0.bel.cell (p:=⟨bb,off,none⟩) hlt).trans c0
 have d1:=(R0.bel.cell (p:=⟨bb,off+1,none⟩) hlt).trans c1
 have HR:=aA R0
 clear R0 c0 c1
 have HC:=aA fun(W':World)=>aDs a b k k W' ha hb hk hk
 generalize fC a b k k=Z at *
 obtain⟨x,y⟩:=Z
 subst ho
 go_enter Tryz.func248,Tryz.ntmps248
 go_wp2_with fail
 obtain⟨W,hW⟩:∃ W,((((w.alloc (.cells #[.i 31] 3)).alloc (.cells #[.i k] 3)).alloc (.cells #[.i s] 3)).alloc (.cells #[.i 0,.i 0] 80))=W:=⟨_,rfl⟩
 rw[hW] at HR d0 d1 ⊢
 clear hW
 have hlW:=wBl W _ d0
 have d4:=HR.o.cap.k.cell 0 rfl
 go_region_held3 (fun w'=>w'.cell? ⟨bb,off,none⟩=some (.i a)/\w'.cell? ⟨bb,off+1,none⟩=some (.i b)/\w'.cell? ⟨w.heap.size+1,0,none⟩=some (.i k))
  (first|exact⟨t0,t1,t4⟩|exact⟨u0,u1,u4⟩|exact⟨lW hlt (by omega) u0,lW hlt (by omega) u1,lW (Nat.lt_succ_self _) (by omega) u4⟩|go_keep)
  ((first
   | (go_at_call 283;refine(dJ _ _).mono ?_;rintro e' w2 ⟨rfl,hb2⟩;have t0:=(hb2.cell (p:=⟨bb,off,none⟩) hlW).trans d0;have t1:=(hb2.cell (p:=⟨bb,off+1,none⟩) hlW).trans d1;have HR2:=aA (HR.o.drew.later hb2);have t4:=HR2.o.cap.k.cell 0 rfl;have hl2:=wBl w2 _ t0)
   | (go_at_call 284;refine(HC.o _).mono ?_;rintro e' w3 ⟨rfl,hb3⟩;have u0:=(hb3.cell (p:=⟨bb,off,none⟩) hl2).trans t0;have u1:=(hb3.cell (p:=⟨bb,off+1,none⟩) hl2).trans t1;have HR9:=aA (HR2.o.later hb3);have u4:=HR9.o.cap.k.cell 0 rfl;obtain⟨s1,s2,s3,s4⟩:=aM HR9.o.r)))
 go_wp2_with fail
 obtain⟨d0,d1,hB4⟩:=aR HR9.o.r HR9.o.bel (by omega) x y
 exact bPr (v:=.tuple #[.agg #[.i x,.i y],.i 0]) (by simp[results,Tryz.results248,go_sem,d0,d1]) rfl ⟨rfl,hB4⟩
theorem aBv (W:World)(a b c d:Int):(W.alloc (.cells #[.i a,.i b,.i c,.i d] 80)).cell? ⟨W.heap.size,0,none⟩=some (.i a)/\(W.alloc (.cells #[.i a,.i b,.i c,.i d] 80)).cell? ⟨W.heap.size,0+1,none⟩=some (.i b) /\
  (W.alloc (.cells #[.i a,.i b,.i c,.i d] 80)).cell? ⟨W.heap.size,0+2,none⟩=some (.i c)/\(W.alloc (.cells #[.i a,.i b,.i c,.i d] 80)).cell? ⟨W.heap.size,0+2+1,none⟩=some (.i d):=by
 have h:=aB.new W 80 #[.i a,.i b,.i c,.i d]
 exact⟨h.cell 0 rfl,h.cell 1 rfl,h.cell 2 rfl,h.cell 3 rfl⟩
theorem aKn (op k s a b:Int)(bb off cap:Nat)(w:World)(hcap:1<=cap)(hlt:bb < w.heap.size)(c0:w.cell? ⟨bb,off,none⟩=some (.i a))(c1:w.cell? ⟨bb,off+1,none⟩=some (.i b))(ho:op=32) :
  Calls Tryz.prog 248 #[.i op,.i k,.i s,.slice (some ⟨bb,off,none⟩) 1 cap] w fun r w'=>r=.returned (spV (eU (fun u v=>bO 10 0 0 [u,v]) a b k k))/\Below w.heap.size w w':=by
 have R0:=Rk.start w op k s
 have d0:=(R0.bel.cell (p:=⟨bb,off,none⟩) hlt).trans c0
 have d1:=(R0.bel.cell (p:=⟨bb,off+1,none⟩) hlt).trans c1
 have HR:=aA R0
 clear R0 c0 c1
 have HC:=aA fun(W':World)=>aA8 10 0 0 a b k k W'.heap.size 0 2 (W'.alloc (.cells #[.i a,.i b,.i k,.i k] 80)) (nLr _) (by simp) (aBv W' a b k k).1 (aBv W' a b k k).2.1 (aBv W' a b k k).2.2.1 (aBv W' a b k k).2.2.2 (.inl rfl)
 obtain⟨⟨⟨x,y⟩,e⟩,hZ⟩:∃ Z,eU (fun u v=>bO 10 0 0 [u,v]) a b k k=Z:=⟨_,rfl⟩
 rw[hZ] at HC ⊢
 clear hZ
 subst ho
 go_enter Tryz.func248,Tryz.ntmps248
 go_wp2_with fail
 obtain⟨W,hW⟩:∃ W,((((w.alloc (.cells #[.i 32] 3)).alloc (.cells #[.i k] 3)).alloc (.cells #[.i s] 3)).alloc (.cells #[.i 0,.i 0] 80))=W:=⟨_,rfl⟩
 rw[hW] at HR d0 d1 ⊢
 clear hW
 have hlW:=wBl W _ d0
 have d4:=HR.o.cap.k.cell 0 rfl
 go_region_held3 (fun w'=>w'.cell? ⟨bb,off,none⟩=some (.i a)/\w'.cell? ⟨bb,off+1,none⟩=some (.i b)/\w'.cell? ⟨w.heap.size+1,0,none⟩=some (.i k))
  (first|exact⟨t0,t1,t4⟩|exact⟨u0,u1,u4⟩|exact⟨(aY hl2).trans t0,(aY hl2).trans t1,(aY hl4).trans t4⟩|exact⟨lW hlt (by omega) u0,lW hlt (by omega) u1,lW (Nat.lt_succ_self _) (by omega) u4⟩|go_keep)
  ((first
   | (go_at_call 283;refine(dJ _ _).mono ?_;rintro e' w2 ⟨rfl,hb2⟩;have t0:=(hb2.cell (p:=⟨bb,off,none⟩) hlW).trans d0;have t1:=(hb2.cell (p:=⟨bb,off+1,none⟩) hlW).trans d1;have HR2:=aA (HR.o.drew.later hb2);have t4:=HR2.o.cap.k.cell 0 rfl;have hl2:=wBl w2 _ t0;have hl4:=wBl w2 _ t4)
   | (go_at_call 248;refine(HC.o _).mono ?_;rintro e' w3 ⟨rfl,hb3⟩;have hb4:=bel (aD _ _) hb3;have u0:=(hb4.cell (p:=⟨bb,off,none⟩) hl2).trans t0;have u1:=(hb4.cell (p:=⟨bb,off+1,none⟩) hl2).trans t1;have HR9:=aA (HR2.o.later hb4);have u4:=HR9.o.cap.k.cell 0 rfl;obtain⟨s1,s2,s3,s4⟩:=aM HR9.o.r)))
 go_wp2_with fail
 obtain⟨d0,d1,hB4⟩:=aR HR9.o.r HR9.o.bel (by omega) x y
 exact bPr (v:=.tuple #[.agg #[.i x,.i y],.i e]) (by simp[results,Tryz.results248,go_sem,d0,d1]) rfl ⟨rfl,hB4⟩
end Go.Proofs.Spn

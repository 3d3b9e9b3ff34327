import Derived.Deep.RegionHeld3
import Derived.Deep.AppendLies
import Derived.Test.YticnbcfmbhjbgaaGreatDoorX14
set_option maxRecDepth 100000
set_option maxHeartbeats 32000000
set_option linter.unusedVariables false
namespace Go.Proofs.Spn
section
open Go.RowKit Go.IntWalk Go.Sort
open Knd (info3)
variable {W w:World} {v1 v2:Value} {n1 n2:Nat} {xs ys:List Int}
structure En (w wr:World)(v1 v2:Value)(n1 n2:Nat)(xs ys:List Int):Prop where
 a:wr.ownsRow w.heap.size 3 1 v1 n1 (iD xs)
 b:wr.ownsRow w.heap.size 3 1 v2 n2 (iD ys)
 ap:∀ g,v1.ownBlock=some g->v2.ownBlock≠some g
 bel:Below w.heap.size w wr
theorem En.alloc {w W:World}{v1 v2:Value}{n1 n2:Nat}{xs ys:List Int}(h:En w W v1 v2 n1 n2 xs ys)(o:Obj):En w (W.alloc o) v1 v2 n1 n2 xs ys :=
 ⟨h.a.alloc o,h.b.alloc o,h.ap,h.bel.alloc h.bel.size o⟩
theorem En.drew {w W:World}{v1 v2:Value}{n1 n2:Nat}{xs ys:List Int}(h:En w W v1 v2 n1 n2 xs ys):En w W.drew v1 v2 n1 n2 xs ys :=
 ⟨h.a.drew,h.b.drew,h.ap,h.bel.trans ⟨rfl,rfl,rfl,nLr _,fun _ _=>rfl⟩⟩
theorem En.swap (h:En w W v1 v2 n1 n2 xs ys):En w W v2 v1 n2 n1 ys xs :=
 ⟨h.b,h.a,fun g hg hg'=>h.ap g hg' hg,h.bel⟩
theorem En.grow {w':World}(h:En w W v1 v2 n1 n2 xs ys){g cap m:Nat}{zs:List Int}
  (hown:w'.ownsRow w.heap.size 3 1 (.slice (some ⟨g,0,none⟩) m cap) m (iD zs)) (hgrow:W.grownBy w' v1.ownBlock) (hat:v1.ownBlock=some g\/g=W.heap.size) :
  En w w' (.slice (some ⟨g,0,none⟩) m cap) v2 m n2 zs ys:=by
 have l2:=h.b.lt
 refine⟨hown,h.b.kept hgrow ?_,?_,h.bel.grown hgrow h.bel.size (fun k hk=>(h.a.lt k hk).1)⟩
 ·cases hv:v2.ownBlock with
  | none=>exact .inl rfl
  | some q=>exact .inr fun e=>h.ap q e.symm hv
 ·intro g' hg' hv
  have e:g=g':=by simpa [Value.ownBlock] using hg'
  subst e
  rcases hat with hat|hat
  ·exact h.ap g hat hv
  ·have:=(l2 g hv).2
   omega
theorem aQ2 {ops:Array Oper}{o:Oper}{a:Act}{K:Act->World->Prop}{Q:Exit->Act->World->Prop}{E:Prop}
  (hgd:o.guard=none) (s x:Operand) (ho:o.op=.call { callee:=.builtin .append,args:=#[s,x],argTypes:=#[24,24] })
  (hs:a.eval s=v1) (hen:En w W v1 v2 n1 n2 xs ys) (ad:Addr) (z:Int) (hx:a.eval x=.slice (some ad) 1 1) (hc:W.cell? ad=some (.i z)) (h3:n1<=140737488355327 / 8)
  (h:∀ g cap w',En w w' (.slice (some ⟨g,0,none⟩) (n1+1) cap) v2 (n1+1) n2 (xs++[z]) ys->(∀ p:Addr,p.block < W.heap.size->v1.ownBlock≠some p.block->w'.cell? p=W.cell? p)->W.heap.size<=w'.heap.size->K (a.put o.dst (.slice (some ⟨g,0,none⟩) (n1+1) cap)) w') :
  if Region.wanted o (yielded ops a.tmps)=true then Oper.wp Tryz.prog o a W K Q else E:=by
 obtain⟨i0,hi0,hz0,hz1,hz2⟩:=info_parts info3
 refine step_append_lies W hgd s x 24 ho w.heap.size 3 i0 _ 1 8 Tryz.underlying24 hi0 hz0 hz1 hz2 rfl (by omega) v1 n1 (iD xs) hs hen.a ad 1 1 [.i z] hx rfl ?_ (by simp[Value.oneCell']) (by omega) (by unfold maxLen;omega) (by omega) hen.bel.size W.heap.size rfl ?_
 ·intro j u hu
  cases j with
  | zero =>
   simp at hu
   subst hu
   have:ad.add 0=ad:=by cases ad;simp[Addr.add]
   rw[this]
   exact hc
  | succ j=>simp at hu
 ·intro g cap w' hown hgrow hat hlt
  have hown':w'.ownsRow w.heap.size 3 1 (.slice (some ⟨g,0,none⟩) (n1+1) cap) (n1+1) (iD (xs++[z])):=by simpa [iD] using hown
  exact h g cap w' (hen.grow hown' hgrow hat) (fun p hp hne=>hgrow.cell_far p hp (fun e=>hne e.symm)) hgrow.size
theorem aZe {ops:Array Oper}{o:Oper}{a:Act}{K:Act->World->Prop}{Q:Exit->Act->World->Prop}{E:Prop}
  (hgd:o.guard=none) (s x:Operand) (ho:o.op=.call { callee:=.builtin .append,args:=#[s,x],argTypes:=#[24,24] })
  (hs:a.eval s=v2) (hen:En w W v1 v2 n1 n2 xs ys) (ad:Addr) (z:Int) (hx:a.eval x=.slice (some ad) 1 1) (hc:W.cell? ad=some (.i z)) (h3:n2<=140737488355327 / 8)
  (h:∀ g cap w',En w w' v1 (.slice (some ⟨g,0,none⟩) (n2+1) cap) n1 (n2+1) xs (ys++[z])->(∀ p:Addr,p.block < W.heap.size->v2.ownBlock≠some p.block->w'.cell? p=W.cell? p)->W.heap.size<=w'.heap.size->K (a.put o.dst (.slice (some ⟨g,0,none⟩) (n2+1) cap)) w') :
  if Region.wanted o (yielded ops a.tmps)=true then Oper.wp Tryz.prog o a W K Q else E :=
 aQ2 hgd s x ho hs hen.swap ad z hx hc h3 fun g cap w' he hk hl=>h g cap w' he.swap hk hl
end
section
open Go.RowKit Go.IntWalk Go.Sort
open Knd (Ints)
def sM (L:List (Int × Int)):List Int:=L.map (·.1)
def vS (L:List (Int × Int)):List Int:=L.map (·.2)
theorem aKu {L:List (Int × Int)}{j:Nat}{x y:Int}(hj:j < L.length)(h:L.getD j (0,0)=(x,y)):sM (L.take (j+1))=sM (L.take j)++[x]/\vS (L.take (j+1))=vS (L.take j)++[y]:=by
 have e:L[j]=(x,y):=by simpa [List.getD,hj] using h
 rw[lTs hj,e]
 simp[sM,vS]
def lC (f:List Int->Int × Int)(L:List (Int × Int)):(Int × Int) × Int :=
 if (f (sM L)).2≠0 then((0,0),(f (sM L)).2) else(((f (sM L)).1,(f (vS L)).1),(f (vS L)).2)
def aIw (f:List Int->Int × Int)(L:List (Int × Int)):Value:=.tuple #[.agg #[.i (lC f L).1.1,.i (lC f L).1.2],.i (lC f L).2]
theorem aZ {W:World}{o:Obj}{b i:Nat}(h:b < W.heap.size):(W.alloc o).cell? ⟨b,i,none⟩=W.cell? ⟨b,i,none⟩:=(aD W o).cell (p:=⟨b,i,none⟩) h
theorem c3 (W:World)(x y p q:Int) :
  (((W.alloc (cs x y)).alloc (.cells #[.i p] 3)).alloc (.cells #[.i q] 3)).cell? ⟨W.heap.size,0,none⟩=some (.i x) /\
  (((W.alloc (cs x y)).alloc (.cells #[.i p] 3)).alloc (.cells #[.i q] 3)).cell? ⟨W.heap.size,1,none⟩=some (.i y) /\
  (((W.alloc (cs x y)).alloc (.cells #[.i p] 3)).alloc (.cells #[.i q] 3)).cell? ⟨W.heap.size+1,0,none⟩=some (.i p) /\
  (((W.alloc (cs x y)).alloc (.cells #[.i p] 3)).alloc (.cells #[.i q] 3)).cell? ⟨W.heap.size+1+1,0,none⟩=some (.i q):=by
 have h1:=((aB.new W 165 #[.i x,.i y]).alloc (.cells #[.i p] 3)).alloc (.cells #[.i q] 3)
 have h2:=(aB.new (W.alloc (cs x y)) 3 #[.i p]).alloc (.cells #[.i q] 3)
 have h3:=aB.new ((W.alloc (cs x y)).alloc (.cells #[.i p] 3)) 3 #[.i q]
 simp only[wSa] at h2 h3
 exact⟨h1.cell 0 rfl,h1.cell 1 rfl,h2.cell 0 rfl,h3.cell 0 rfl⟩
theorem yK (op k s:Int)(b1 b2 b3:Nat)(a:Option Addr)(n cap:Nat)(L:List (Int × Int))(w:World)(hc:Cap w b1 b2 b3 op k s)(h:Spans w a n cap L)(hn3:n<=3)(f:List Int->Int × Int)(hf:∀ xs,bK op k s xs=f xs) :
  Calls Tryz.prog 316 #[.slice a n cap,.func (.func 311) #[] #[ptr b1,ptr b2,ptr b3]] w fun e w'=>e=.returned (aIw f L)/\Below w.heap.size w w':=by
 have hl:=h.len
 have HC:=aA hc
 have H:=aA h
 have HL:=aA hl
 have HF:=aA hf
 clear hl hc h hf
 have R0:=aB.new w 165 #[.i 0,.i 0]
 have B0:=aD w (cs 0 0)
 have hs0:(w.alloc (cs 0 0)).heap.size=w.heap.size+1:=by simp
 obtain⟨w0,hw0⟩:∃ w0,w.alloc (cs 0 0)=w0:=⟨_,rfl⟩
 rw[hw0] at R0 B0 hs0
 have HR0:=aA R0
 have HB0:=aA B0
 have HW0:=aA hw0
 clear R0 B0 hw0
 have hE0:En w0 w0 (.slice none 0 0) (.slice none 0 0) 0 0 [] []:=by
  refine⟨⟨rfl,.inl ⟨rfl,rfl⟩⟩,⟨rfl,.inl ⟨rfl,rfl⟩⟩,?_,Below.refl _ _⟩
  intro g hg
  simp[Value.ownBlock] at hg
 have HE0:=aA hE0
 clear hE0
 go_enter Tryz.func316,Tryz.ntmps316
 go_wp2_with fail
 rw[show w.alloc (.cells #[.i 0,.i 0] 165)=w0 from HW0.o]
 go_loopw [6,7,15] (fun v1 v2 i wr=>∃ j:Nat,j<=n/\i=.i j/\En w0 wr v1 v2 j j (sM (L.take j)) (vS (L.take j))) (fun _ _ i _=>n-(intOf i).toNat)
 case atStart=>exact⟨0,by omega,rfl,HE0.o⟩
 case round =>
  rename_i wr
  obtain⟨j,hj,rfl,hen⟩:=hrel
  have HEN:=aA hen
  clear hen
  have HBW:=aA (bel HB0.o HEN.o.bel)
  by_cases hlt:j < n
  ·obtain⟨bb,off,rfl,hbb,hcell⟩:=(H.o.later HBW.o).at (by omega)
   obtain⟨g1,g2⟩:=hcell j hlt
   clear hcell
   obtain⟨⟨x,y⟩,hxy⟩:∃ p,L.getD j (0,0)=p:=⟨_,rfl⟩
   rw[hxy] at g1 g2
   have HXY:=aA hxy
   clear hxy
   have hj0:(0:Int)<=(j:Int):=by omega
   have hj1:(j:Int) < (n:Int):=by omega
   have hv1:∀ g,u6.ownBlock=some g->g < wr.heap.size:=fun g hg=>(HEN.o.a.lt g hg).2
   have HV1:=aA hv1
   clear hv1
   have hv2:∀ g,u7.ownBlock=some g->g < wr.heap.size:=fun g hg=>(HEN.o.b.lt g hg).2
   have HV2:=aA hv2
   clear hv2
   go_wp2_with fail
   go_region_held3 (fun w'=>w'.cell? ⟨wr.heap.size,0,none⟩=some (.i x)/\w'.cell? ⟨wr.heap.size,1,none⟩=some (.i y))
    (first|exact⟨t1,t2⟩|exact⟨t3,t4⟩|go_keep)
    (first
     | (refine aQ2 (by rfl) _ _ (by rfl) (by rfl) (by first | exact((HEN.o.alloc _).alloc _).drew | exact(((HEN.o.alloc _).alloc _).alloc _).drew) _ x (by rfl) (by first | (simp;done) | exact(c3 wr x y x y).2.2.1 | exact(c3 wr x y y x).2.2.2) (by omega) ?_;intro g cap1 w1 hen1 hk1 hsz1;have t1:w1.cell? ⟨wr.heap.size,0,none⟩=some (.i x):=(by rw[hk1 _ (by simp;omega) (fun h=>by have:=HV1.o _ h;simp at this)];first | (simp;done) | exact(c3 wr x y x y).1 | exact(c3 wr x y y x).1);have t2:w1.cell? ⟨wr.heap.size,1,none⟩=some (.i y):=(by rw[hk1 _ (by simp;omega) (fun h=>by have:=HV1.o _ h;simp at this)];first | (simp;done) | exact(c3 wr x y x y).2.1 | exact(c3 wr x y y x).2.1);have hl1:wr.heap.size < w1.heap.size:=wBl w1 _ t1)
     | (refine aZe (by rfl) _ _ (by rfl) (by rfl) (by first | exact hen1 | exact hen1.alloc _) _ y (by rfl) (by first | (simp;done) | (rw[hk1 _ (by simp) (fun h=>by have:=HV1.o _ h;simp at this;omega)];first | exact(c3 wr x y x y).2.2.2 | exact(c3 wr x y y x).2.2.1)) (by omega) ?_;intro gb cap2 w2 hen2 hk2 hsz2;have t3:w2.cell? ⟨wr.heap.size,0,none⟩=some (.i x):=(by rw[hk2 _ (by first | exact hl1 | (simp;omega)) (fun h=>by have:=HV2.o _ h;simp at this)];first | exact t1 | exact(aZ hl1).trans t1);have t4:w2.cell? ⟨wr.heap.size,1,none⟩=some (.i y):=(by rw[hk2 _ (by first | exact hl1 | (simp;omega)) (fun h=>by have:=HV2.o _ h;simp at this)];first | exact t2 | exact(aZ hl1).trans t2)))
   all_goals
    clear hk1 hk2 t1 t2 t3 t4 hl1 hsz1 hsz2 hen1 g1 g2 HEN HV1 HV2 HBW hbb
    have HEN2:=aA hen2
    clear hen2
    go_wp2_with fail
    go_roundw
    case rel =>
     refine⟨j+1,by omega,by go_num,?_⟩
     have hs:=aKu (by rw[HL.o];exact hlt) HXY.o
     rw[hs.1,hs.2]
     exact HEN2.o
    case measure=>simp[intOf];omega
  ·obtain rfl:j=n:=by omega
   have he:=HEN.o
   rw[lTl (by rw[HL.o];omega)] at he
   obtain⟨a1,c1,rfl,hI1,-⟩:=Ints.of_owns he.a
   obtain⟨a2,c2,rfl,hI2,-⟩:=Ints.of_owns he.b
   have HI2:=aA hI2
   have CA:=aB6 op k s b1 b2 b3 a1 j c1 (sM L) wr hI1 (HC.o.later HBW.o)
   have HR:=aA (HR0.o.below HEN.o.bel)
   clear he hI1 hI2 HEN
   rw[HF.o] at CA
   obtain⟨⟨z1,e1⟩,hZ1⟩:∃ Z,f (sM L)=Z:=⟨_,rfl⟩
   rw[hZ1] at CA
   have HZ1:=aA hZ1
   have HCA:=aA CA
   clear hZ1 CA
   go_wp2_with fail
   refine HCA.o.mono ?_
   rintro e' w2 ⟨rfl,hb2⟩
   have HB2:=aA (bel HBW.o hb2)
   have HR2:=aA (HR.o.below hb2)
   have HI22:=aA (HI2.o.later hb2)
   clear hb2 HBW HR HI2 HCA
   by_cases he1:e1=0
   ·subst he1
    have CB:=aB6 op k s b1 b2 b3 a2 j c2 (vS L) w2 HI22.o (HC.o.later HB2.o)
    rw[HF.o] at CB
    obtain⟨⟨z2,e2⟩,hZ2⟩:∃ Z,f (vS L)=Z:=⟨_,rfl⟩
    rw[hZ2] at CB
    have HZ2:=aA hZ2
    have HCB:=aA CB
    clear hZ2 CB
    go_wp2_with fail
    refine HCB.o.mono ?_
    rintro e' w3 ⟨rfl,hb3⟩
    have HB3:=aA (bel HB2.o hb3)
    have HR3:=aA (HR2.o.below hb3)
    clear hb3 HB2 HR2 HCB
    obtain⟨s1,s2,s3,s4⟩:=aL HR3.o
    go_wp2_with fail
    obtain⟨d0,d1,hB2⟩:=aS HR3.o HB3.o (by omega) z1 z2
    exact bPr (v:=.tuple #[.agg #[.i z1,.i z2],.i e2]) (by simp[results,Tryz.results316,go_sem,d0,d1]) rfl ⟨by simp[aIw,lC,HZ1.o,HZ2.o],hB2⟩
   ·have he':(e1 != 0)=true:=by simp[he1]
    have HE1:=aA he1
    clear he1
    obtain⟨s1,s2,s3,s4⟩:=aL HR2.o
    go_wp2_with fail
    obtain⟨d0,d1,hB2⟩:=aS HR2.o HB2.o (by omega) 0 0
    exact bPr (v:=.tuple #[.agg #[.i 0,.i 0],.i e1]) (by simp[results,Tryz.results316,go_sem,d0,d1]) rfl ⟨by simp[aIw,lC,HZ1.o,HE1.o],hB2⟩
end
open Go.RowKit Go.IntWalk Go.Sort
abbrev spV (Z:(Int × Int) × Int):Value:=.tuple #[.agg #[.i Z.1.1,.i Z.1.2],.i Z.2]
def uA (f:Int->Int->Int × Int)(op a b c d:Int):(Int × Int) × Int :=
 if hasB c d 0=true then((0,0),12) else if op=11 then fA f a b c d else(mG a b c d,0)
theorem aDq (op k s a b c d:Int)(b1 b2 b3:Nat)(w:World)(hc:Cap w b1 b2 b3 op k s)(f:Int->Int->Int × Int)(hf:∀ u v,bK op k s [u,v]=f u v)
  (ho:op=11\/op=12) (ha:fI a) (hb:fI b) (hc':fI c) (hd:fI d) :
  Calls Tryz.prog 314 #[.i op,.agg #[.i a,.i b],.agg #[.i c,.i d],.func (.func 311) #[] #[ptr b1,ptr b2,ptr b3]] w fun e w' =>
   e=.returned (spV (uA f op a b c d))/\Below w.heap.size w w':=by
 have HH:=fun w=>aA (aI0 c d 0 w)
 have HC:=aA hc
 have HF:=aA hf
 clear hc hf
 cases h0:hasB c d 0
 ·rw[h0] at HH
  rcases ho with rfl|rfl
  ·rw[show uA f 11 a b c d=fA f a b c d by simp[uA,h0]]
   clear h0
   go_enter Tryz.func314,Tryz.ntmps314
   go_wp2_with fail
   refine(HH _).o.mono ?_
   rintro e w2 ⟨rfl,hb2⟩
   obtain⟨k1,k2,k3,hB⟩:=uW hb2
   obtain⟨q1,q2,-,-⟩:=aL k1
   obtain⟨r1,r2,-,-⟩:=aL k2
   have HK3:=aA k3
   have HB2:=aA hB
   have CC:=aA (wB 11 k s a b c d b1 b2 b3 w2 (HC.o.later hB) f HF.o)
   clear hb2 k1 k2 k3 hB
   unfold yE at CC
   obtain⟨⟨⟨x,y⟩,e⟩,hZ⟩:∃ Z,fA f a b c d=Z:=⟨_,rfl⟩
   rw[hZ] at CC
   have HZ:=aA hZ
   clear hZ
   go_wp2_with fail
   refine CC.o.mono ?_
   rintro e' w3 ⟨rfl,hb3⟩
   have hR:=HK3.o.below hb3
   have hB3:=bel HB2.o hb3
   obtain⟨s1,s2,s3,s4⟩:=aL hR
   clear hb3
   go_wp2_with fail
   obtain⟨d0,d1,hB4⟩:=aS hR hB3 (by omega) x y
   exact bPr (v:=.tuple #[.agg #[.i x,.i y],.i e]) (by simp[results,Tryz.results314,go_sem,d0,d1]) rfl ⟨by rw[HZ.o],hB4⟩
  ·rw[show uA f 12 a b c d=(mG a b c d,0) by simp[uA,h0]]
   clear h0
   have HLf:=fun w=>aA (aOm a b c d w ha hb hc' hd)
   generalize mG a b c d=Z at *
   obtain⟨x,y⟩:=Z
   go_enter Tryz.func314,Tryz.ntmps314
   go_wp2_with fail
   refine(HH _).o.mono ?_
   rintro e w2 ⟨rfl,hb2⟩
   obtain⟨k1,k2,k3,hB⟩:=uW hb2
   obtain⟨q1,q2,-,-⟩:=aL k1
   obtain⟨r1,r2,-,-⟩:=aL k2
   have HK3:=aA k3
   have HB2:=aA hB
   clear hb2 k1 k2 k3 hB
   go_wp2_with fail
   refine(HLf _).o.mono ?_
   rintro e' w3 ⟨rfl,hb3⟩
   have hR:=HK3.o.below hb3
   have hB3:=bel HB2.o hb3
   obtain⟨s1,s2,s3,s4⟩:=aL hR
   clear hb3
   go_wp2_with fail
   obtain⟨d0,d1,hB4⟩:=aS hR hB3 (by omega) x y
   exact bPr (v:=.tuple #[.agg #[.i x,.i y],.i 0]) (by simp[results,Tryz.results314,go_sem,d0,d1]) rfl ⟨rfl,hB4⟩
 ·rw[show uA f op a b c d=((0,0),12) by simp[uA,h0]]
  rw[h0] at HH
  clear h0 ho
  go_enter Tryz.func314,Tryz.ntmps314
  go_wp2_with fail
  refine(HH _).o.mono ?_
  rintro e w2 ⟨rfl,hb2⟩
  obtain⟨-,-,k3,hB⟩:=uW hb2
  obtain⟨s1,s2,s3,s4⟩:=aL k3
  clear hb2
  go_wp2_with fail
  obtain⟨d0,d1,hB4⟩:=aS k3 hB (by omega) 0 0
  exact bPr (v:=.tuple #[.agg #[.i 0,.i 0],.i 12]) (by simp[results,Tryz.results314,go_sem,d0,d1]) rfl ⟨rfl,hB4⟩
def aYo (op:Int)(L:List (Int × Int)):Int × Int :=
 if L.length=1 then nL op (L.getD 0 (0,0)).1 (L.getD 0 (0,0)).2 else if L.length=2 then rV op (L.getD 0 (0,0)).1 (L.getD 0 (0,0)).2 (L.getD 1 (0,0)).1 (L.getD 1 (0,0)).2
 else sU (L.getD 0 (0,0)).1 (L.getD 0 (0,0)).2 (L.getD 1 (0,0)).1 (L.getD 1 (0,0)).2 (L.getD 2 (0,0)).1 (L.getD 2 (0,0)).2
theorem aQy (op a b:Int)(bb off cap:Nat)(w:World)(hcap:1<=cap)(hlt:bb < w.heap.size)(c0:w.cell? ⟨bb,off,none⟩=some (.i a))(c1:w.cell? ⟨bb,off+1,none⟩=some (.i b))(ha:fI a)(hb:fI b) :
  Calls Tryz.prog 317 #[.i op,.slice (some ⟨bb,off,none⟩) 1 cap] w fun e w'=>e=.returned (.agg #[.i (nL op a b).1,.i (nL op a b).2])/\Below w.heap.size w w':=by
 have HA:=fun w=>aA (aH0 op a b w ha hb)
 generalize nL op a b=Z at *
 obtain⟨x,y⟩:=Z
 have d0:=(aZ (o:=cs 0 0) (i:=off) hlt).trans c0
 have d1:=(aZ (o:=cs 0 0) (i:=off+1) hlt).trans c1
 have HR:=aA (aB.new w 165 #[.i 0,.i 0])
 have HB:=aA (aD w (cs 0 0))
 clear c0 c1
 go_enter Tryz.func317,Tryz.ntmps317
 go_wp2_with fail
 refine(HA _).o.mono ?_
 rintro e w2 ⟨rfl,hb2⟩
 have hR:=HR.o.below hb2
 have hB:=bel HB.o hb2
 obtain⟨s1,s2,s3,s4⟩:=aL hR
 clear hb2
 go_wp2_with fail
 obtain⟨d0,d1,hB4⟩:=aS hR hB (by omega) x y
 exact bPr (v:=.agg #[.i x,.i y]) (by simp[results,Tryz.results317,go_sem,d0,d1]) rfl ⟨rfl,hB4⟩
theorem aQz (op a b c d:Int)(bb off cap:Nat)(w:World)(hcap:2<=cap)(hlt:bb < w.heap.size)(c0:w.cell? ⟨bb,off,none⟩=some (.i a))(c1:w.cell? ⟨bb,off+1,none⟩=some (.i b))
  (c2:w.cell? ⟨bb,off+2,none⟩=some (.i c)) (c3:w.cell? ⟨bb,off+2+1,none⟩=some (.i d)) (ha:fI a) (hb:fI b) (hc:fI c) (hd:fI d) (ho:op=8\/op=9\/op=15\/op=16\/op=17\/op=22\/op=23) :
  Calls Tryz.prog 317 #[.i op,.slice (some ⟨bb,off,none⟩) 2 cap] w fun e w'=>e=.returned (.agg #[.i (rV op a b c d).1,.i (rV op a b c d).2])/\Below w.heap.size w w':=by
 have HA:=fun w=>aA (aH1 op a b c d w ha hb hc hd ho)
 generalize rV op a b c d=Z at *
 obtain⟨x,y⟩:=Z
 have d0:=(aZ (o:=cs 0 0) (i:=off) hlt).trans c0
 have d1:=(aZ (o:=cs 0 0) (i:=off+1) hlt).trans c1
 have d2:=(aZ (o:=cs 0 0) (i:=off+2) hlt).trans c2
 have d3:=(aZ (o:=cs 0 0) (i:=off+2+1) hlt).trans c3
 have HR:=aA (aB.new w 165 #[.i 0,.i 0])
 have HB:=aA (aD w (cs 0 0))
 have HO:=aA ho
 clear c0 c1 c2 c3 ho
 go_enter Tryz.func317,Tryz.ntmps317
 go_wp2_with fail
 have e0:=cell_regrown d0
 have e1:=cell_regrown d1
 have e2:=cell_regrown d2
 have e3:=cell_regrown d3
 refine aN (hf:=(List.dropLast_concat_getLast (by simp)).symm) mixed (by kernel_rfl) rfl (by kernel_rfl) (by kernel_rfl) (by kernel_rfl) (by kernel_rfl) (by kernel_rfl) ?_
 simp only[List.dropLast_cons_cons,List.dropLast_singleton,List.getLast_cons_cons,List.getLast_singleton]
 repeat (go_big_quiet_step ((go_at_call 344;exact Calls.regrown_of (HA _).o)))
 refine wpQuiet_nil ?_
 intro _ hw'
 obtain⟨pq,hw''⟩:=hw'
 subst hw''
 have hb2:=below_regrown (w.alloc (cs 0 0)) pq.d pq.os
 have hR:=HR.o.below hb2
 have hB:=bel HB.o hb2
 clear hb2 d0 d1 d2 d3 e0 e1 e2 e3
 generalize grow (redrawn (w.alloc (.cells #[.i 0,.i 0] 165)) pq.d) pq.os=G at *
 obtain⟨s1,s2,s3,s4⟩:=aL hR
 go_wp2_with fail
 obtain⟨d0,d1,hB4⟩:=aS hR hB (by omega) x y
 exact bPr (v:=.agg #[.i x,.i y]) (by simp[results,Tryz.results317,go_sem,d0,d1]) rfl ⟨rfl,hB4⟩
theorem aQ0 (op a b c d e f:Int)(bb off cap:Nat)(w:World)(hcap:3<=cap)(hlt:bb < w.heap.size)(c0:w.cell? ⟨bb,off,none⟩=some (.i a))(c1:w.cell? ⟨bb,off+1,none⟩=some (.i b))
  (c2:w.cell? ⟨bb,off+2,none⟩=some (.i c)) (c3:w.cell? ⟨bb,off+2+1,none⟩=some (.i d)) (c4:w.cell? ⟨bb,off+4,none⟩=some (.i e)) (c5:w.cell? ⟨bb,off+4+1,none⟩=some (.i f)) :
  Calls Tryz.prog 317 #[.i op,.slice (some ⟨bb,off,none⟩) 3 cap] w fun r w'=>r=.returned (.agg #[.i (sU a b c d e f).1,.i (sU a b c d e f).2])/\Below w.heap.size w w':=by
 have HA:=fun w=>aA (aF3 a b c d e f w)
 generalize sU a b c d e f=Z at *
 obtain⟨x,y⟩:=Z
 have d0:=(aZ (o:=cs 0 0) (i:=off) hlt).trans c0
 have d1:=(aZ (o:=cs 0 0) (i:=off+1) hlt).trans c1
 have d2:=(aZ (o:=cs 0 0) (i:=off+2) hlt).trans c2
 have d3:=(aZ (o:=cs 0 0) (i:=off+2+1) hlt).trans c3
 have d4:=(aZ (o:=cs 0 0) (i:=off+4) hlt).trans c4
 have d5:=(aZ (o:=cs 0 0) (i:=off+4+1) hlt).trans c5
 have HR:=aA (aB.new w 165 #[.i 0,.i 0])
 have HB:=aA (aD w (cs 0 0))
 clear c0 c1 c2 c3 c4 c5
 go_enter Tryz.func317,Tryz.ntmps317
 go_wp2_with fail
 have e0:=cell_regrown d0
 have e1:=cell_regrown d1
 have e2:=cell_regrown d2
 have e3:=cell_regrown d3
 have e4:=cell_regrown d4
 have e5:=cell_regrown d5
 refine aN (hf:=(List.dropLast_concat_getLast (by simp)).symm) mixed (by kernel_rfl) rfl (by kernel_rfl) (by kernel_rfl) (by kernel_rfl) (by kernel_rfl) (by kernel_rfl) ?_
 simp only[List.dropLast_cons_cons,List.dropLast_singleton,List.getLast_cons_cons,List.getLast_singleton]
 repeat (go_big_quiet_step ((go_at_call 345;exact Calls.regrown_of (HA _).o)))
 refine wpQuiet_nil ?_
 intro _ hw'
 obtain⟨pq,hw''⟩:=hw'
 subst hw''
 have hb2:=below_regrown (w.alloc (cs 0 0)) pq.d pq.os
 have hR:=HR.o.below hb2
 have hB:=bel HB.o hb2
 clear hb2 d0 d1 d2 d3 d4 d5 e0 e1 e2 e3 e4 e5
 generalize grow (redrawn (w.alloc (.cells #[.i 0,.i 0] 165)) pq.d) pq.os=G at *
 obtain⟨s1,s2,s3,s4⟩:=aL hR
 go_wp2_with fail
 obtain⟨d0,d1,hB4⟩:=aS hR hB (by omega) x y
 exact bPr (v:=.agg #[.i x,.i y]) (by simp[results,Tryz.results317,go_sem,d0,d1]) rfl ⟨rfl,hB4⟩
abbrev c1 (x:Int):Obj:=.cells #[.i x] 3
structure Rk (w W:World)(op k s:Int):Prop where
 cap:Cap W w.heap.size (w.heap.size+1) (w.heap.size+1+1) op k s
 r:aB W (w.heap.size+1+1+1) 165 #[.i 0,.i 0]
 bel:Below w.heap.size w W
theorem Rk.later {w W W':World}{op k s:Int}(h:Rk w W op k s)(hb:Below W.heap.size W W'):Rk w W' op k s:=⟨h.cap.later hb,h.r.below hb,h.bel.trans (hb.mono h.bel.size)⟩
theorem aF (W:World):Below W.heap.size W W.drew:=⟨rfl,rfl,rfl,nLr _,fun _ _=>rfl⟩
theorem Rk.drew {w W:World}{op k s:Int}(h:Rk w W op k s):Rk w W.drew op k s:=h.later (aF W)
theorem Rk.start (w:World)(op k s:Int):Rk w ((((w.alloc (c1 op)).alloc (c1 k)).alloc (c1 s)).alloc (cs 0 0)) op k s:=by
 have h1:=(((aB.new w 3 #[.i op]).alloc (c1 k)).alloc (c1 s)).alloc (cs 0 0)
 have h2:=((aB.new (w.alloc (c1 op)) 3 #[.i k]).alloc (c1 s)).alloc (cs 0 0)
 have h3:=(aB.new ((w.alloc (c1 op)).alloc (c1 k)) 3 #[.i s]).alloc (cs 0 0)
 have h4:=aB.new (((w.alloc (c1 op)).alloc (c1 k)).alloc (c1 s)) 165 #[.i 0,.i 0]
 simp only[wSa] at h2 h3 h4
 exact⟨⟨h1,h2,h3⟩,h4,((((Below.refl _ _).alloc (nLr _) _).alloc (by simp) _).alloc (by simp;omega) _).alloc (by simp;omega) _⟩
theorem nH {W:World}{B g b i:Nat}{u v x:Value}(hb:b < B)(hg:B<=g)(hc:W.cell? ⟨b,i,none⟩=some x):((W.setCell ⟨g,0,none⟩ u).setCell ⟨g,1,none⟩ v).cell? ⟨b,i,none⟩=some x :=
 ((((Below.refl B W).setCell (p:=⟨g,0,none⟩) hg u).setCell (p:=⟨g,1,none⟩) hg v).cell (p:=⟨b,i,none⟩) hb).trans hc
theorem aBr (op k s a b c d:Int)(bb off cap:Nat)(w:World)(hcap:2<=cap)(hlt:bb < w.heap.size)(c0:w.cell? ⟨bb,off,none⟩=some (.i a))(c1:w.cell? ⟨bb,off+1,none⟩=some (.i b))(c2:w.cell? ⟨bb,off+2,none⟩=some (.i c))(c3:w.cell? ⟨bb,off+2+1,none⟩=some (.i d))(ho:op=10\/op=13\/op=14\/op=18\/op=19\/op=20\/op=21) :
  Calls Tryz.prog 266 #[.i op,.i k,.i s,.slice (some ⟨bb,off,none⟩) 2 cap] w fun r w'=>r=.returned (spV (fA (fun u v=>bK op k s [u,v]) a b c d))/\Below w.heap.size w w':=by
 have R0:=Rk.start w op k s
 have d0:=(R0.bel.cell (p:=⟨bb,off,none⟩) hlt).trans c0
 have d1:=(R0.bel.cell (p:=⟨bb,off+1,none⟩) hlt).trans c1
 have d2:=(R0.bel.cell (p:=⟨bb,off+2,none⟩) hlt).trans c2
 have d3:=(R0.bel.cell (p:=⟨bb,off+2+1,none⟩) hlt).trans c3
 have HR:=aA R0
 clear R0 c0 c1 c2 c3
 have HC:=aA fun(W':World) (hW':Rk w W' op k s)=>wB op k s a b c d _ _ _ W' hW'.cap (fun u v=>bK op k s [u,v]) (fun _ _=>rfl)
 unfold yE at HC
 obtain⟨⟨⟨x,y⟩,e⟩,hZ⟩:∃ Z,fA (fun u v=>bK op k s [u,v]) a b c d=Z:=⟨_,rfl⟩
 rw[hZ] at HC ⊢
 clear hZ
 have HWW:Hid (∃ W,((((w.alloc (.cells #[.i op] 3)).alloc (.cells #[.i k] 3)).alloc (.cells #[.i s] 3)).alloc (.cells #[.i 0,.i 0] 165))=W):=aA ⟨_,rfl⟩
 rcases ho with rfl|rfl|rfl|rfl|rfl|rfl|rfl
 all_goals
  go_enter Tryz.func266,Tryz.ntmps266
  go_wp2_with fail
  obtain⟨W,hW⟩:=HWW.o
  rw[hW] at HR d0 d1 d2 d3 ⊢
  clear hW
  have hlW:=wBl W _ d0
  go_region_held3 (fun w'=>w'.cell? ⟨bb,off,none⟩=some (.i a)/\w'.cell? ⟨bb,off+1,none⟩=some (.i b)/\w'.cell? ⟨bb,off+2,none⟩=some (.i c)/\w'.cell? ⟨bb,off+2+1,none⟩=some (.i d))
   (first|exact⟨t0,t1,t2,t3⟩|exact⟨nH hlt (by omega) t0,nH hlt (by omega) t1,nH hlt (by omega) t2,nH hlt (by omega) t3⟩|go_keep)
   ((go_at_call 315;refine(HC.o _ HR.o.drew).mono ?_;rintro e' w2 ⟨rfl,hb2⟩;have t0:=(hb2.cell (p:=⟨bb,off,none⟩) hlW).trans d0;have t1:=(hb2.cell (p:=⟨bb,off+1,none⟩) hlW).trans d1;have t2:=(hb2.cell (p:=⟨bb,off+2,none⟩) hlW).trans d2;have t3:=(hb2.cell (p:=⟨bb,off+2+1,none⟩) hlW).trans d3;have HR9:=aA (HR.o.drew.later hb2);obtain⟨s1,s2,s3,s4⟩:=aL HR9.o.r))
  go_wp2_with fail
  obtain⟨d0,d1,hB4⟩:=aS HR9.o.r HR9.o.bel (by omega) x y
  exact bPr (v:=.tuple #[.agg #[.i x,.i y],.i e]) (by simp[results,Tryz.results266,go_sem,d0,d1]) rfl ⟨rfl,hB4⟩
theorem aP7 (op k s a b c d:Int)(bb off cap:Nat)(w:World)(hcap:2<=cap)(hlt:bb < w.heap.size)(c0:w.cell? ⟨bb,off,none⟩=some (.i a))(c1:w.cell? ⟨bb,off+1,none⟩=some (.i b))(c2:w.cell? ⟨bb,off+2,none⟩=some (.i c))(c3:w.cell? ⟨bb,off+2+1,none⟩=some (.i d))(ho:op=11\/op=12)(ha:fI a)(hb:fI b)(hc:fI c)(hd:fI d) :
  Calls Tryz.prog 266 #[.i op,.i k,.i s,.slice (some ⟨bb,off,none⟩) 2 cap] w fun r w'=>r=.returned (spV (uA (fun u v=>bK op k s [u,v]) op a b c d))/\Below w.heap.size w w':=by
 have R0:=Rk.start w op k s
 have d0:=(R0.bel.cell (p:=⟨bb,off,none⟩) hlt).trans c0
 have d1:=(R0.bel.cell (p:=⟨bb,off+1,none⟩) hlt).trans c1
 have d2:=(R0.bel.cell (p:=⟨bb,off+2,none⟩) hlt).trans c2
 have d3:=(R0.bel.cell (p:=⟨bb,off+2+1,none⟩) hlt).trans c3
 have HR:=aA R0
 clear R0 c0 c1 c2 c3
 have HC:=aA fun(W':World) (hW':Rk w W' op k s)=>aDq op k s a b c d _ _ _ W' hW'.cap (fun u v=>bK op k s [u,v]) (fun _ _=>rfl) ho ha hb hc hd
 obtain⟨⟨⟨x,y⟩,e⟩,hZ⟩:∃ Z,uA (fun u v=>bK op k s [u,v]) op a b c d=Z:=⟨_,rfl⟩
 rw[hZ] at HC ⊢
 clear hZ
 rcases ho with rfl|rfl
 ·go_enter Tryz.func266,Tryz.ntmps266
  go_wp2_with fail
  obtain⟨W,hW⟩:∃ W,((((w.alloc (.cells #[.i 11] 3)).alloc (.cells #[.i k] 3)).alloc (.cells #[.i s] 3)).alloc (.cells #[.i 0,.i 0] 165))=W:=⟨_,rfl⟩
  rw[hW] at HR d0 d1 d2 d3 ⊢
  clear hW
  have hlW:=wBl W _ d0
  have d4:=HR.o.cap.o.cell 0 rfl
  go_region_held3 (fun w'=>w'.cell? ⟨bb,off,none⟩=some (.i a)/\w'.cell? ⟨bb,off+1,none⟩=some (.i b)/\w'.cell? ⟨bb,off+2,none⟩=some (.i c)/\w'.cell? ⟨bb,off+2+1,none⟩=some (.i d)/\w'.cell? ⟨w.heap.size,0,none⟩=some (.i 11))
   (first|exact⟨t0,t1,t2,t3,t4⟩|exact⟨nH hlt (by omega) t0,nH hlt (by omega) t1,nH hlt (by omega) t2,nH hlt (by omega) t3,nH (Nat.lt_succ_self _) (by omega) t4⟩|go_keep)
   ((go_at_call 314;refine(HC.o _ HR.o.drew).mono ?_;rintro e' w2 ⟨rfl,hb2⟩;have t0:=(hb2.cell (p:=⟨bb,off,none⟩) hlW).trans d0;have t1:=(hb2.cell (p:=⟨bb,off+1,none⟩) hlW).trans d1;have t2:=(hb2.cell (p:=⟨bb,off+2,none⟩) hlW).trans d2;have t3:=(hb2.cell (p:=⟨bb,off+2+1,none⟩) hlW).trans d3;have HR9:=aA (HR.o.drew.later hb2);have t4:=HR9.o.cap.o.cell 0 rfl;obtain⟨s1,s2,s3,s4⟩:=aL HR9.o.r))
  go_wp2_with fail
  obtain⟨d0,d1,hB4⟩:=aS HR9.o.r HR9.o.bel (by omega) x y
  exact bPr (v:=.tuple #[.agg #[.i x,.i y],.i e]) (by simp[results,Tryz.results266,go_sem,d0,d1]) rfl ⟨rfl,hB4⟩
 ·go_enter Tryz.func266,Tryz.ntmps266
  go_wp2_with fail
  obtain⟨W,hW⟩:∃ W,((((w.alloc (.cells #[.i 12] 3)).alloc (.cells #[.i k] 3)).alloc (.cells #[.i s] 3)).alloc (.cells #[.i 0,.i 0] 165))=W:=⟨_,rfl⟩
  rw[hW] at HR d0 d1 d2 d3 ⊢
  clear hW
  have hlW:=wBl W _ d0
  have d4:=HR.o.cap.o.cell 0 rfl
  go_region_held3 (fun w'=>w'.cell? ⟨bb,off,none⟩=some (.i a)/\w'.cell? ⟨bb,off+1,none⟩=some (.i b)/\w'.cell? ⟨bb,off+2,none⟩=some (.i c)/\w'.cell? ⟨bb,off+2+1,none⟩=some (.i d)/\w'.cell? ⟨w.heap.size,0,none⟩=some (.i 12))
   (first|exact⟨t0,t1,t2,t3,t4⟩|exact⟨nH hlt (by omega) t0,nH hlt (by omega) t1,nH hlt (by omega) t2,nH hlt (by omega) t3,nH (Nat.lt_succ_self _) (by omega) t4⟩|go_keep)
   ((go_at_call 314;refine(HC.o _ HR.o.drew).mono ?_;rintro e' w2 ⟨rfl,hb2⟩;have t0:=(hb2.cell (p:=⟨bb,off,none⟩) hlW).trans d0;have t1:=(hb2.cell (p:=⟨bb,off+1,none⟩) hlW).trans d1;have t2:=(hb2.cell (p:=⟨bb,off+2,none⟩) hlW).trans d2;have t3:=(hb2.cell (p:=⟨bb,off+2+1,none⟩) hlW).trans d3;have HR9:=aA (HR.o.drew.later hb2);have t4:=HR9.o.cap.o.cell 0 rfl;obtain⟨s1,s2,s3,s4⟩:=aL HR9.o.r))
  go_wp2_with fail
  obtain⟨d0,d1,hB4⟩:=aS HR9.o.r HR9.o.bel (by omega) x y
  exact bPr (v:=.tuple #[.agg #[.i x,.i y],.i e]) (by simp[results,Tryz.results266,go_sem,d0,d1]) rfl ⟨rfl,hB4⟩
theorem aLq (op k s:Int)(a:Option Addr)(n cap:Nat)(L:List (Int × Int))(w:World)(h:Spans w a n cap L)(hn:n<=3)(ho:op=7\/op=24\/op=25\/op=26\/op=27\/op=29\/op=30\/op=33) :
  Calls Tryz.prog 266 #[.i op,.i k,.i s,.slice a n cap] w fun r w'=>r=.returned (spV (lC (fun xs=>bK op k s xs) L))/\Below w.heap.size w w':=by
 have HR:=aA (Rk.start w op k s)
 have HC:=aA fun(W':World) (hW':Rk w W' op k s)=>yK op k s _ _ _ a n cap L W' hW'.cap (h.later hW'.bel) hn (fun xs=>bK op k s xs) (fun _=>rfl)
 unfold aIw at HC
 obtain⟨⟨⟨x,y⟩,e⟩,hZ⟩:∃ Z,lC (fun xs=>bK op k s xs) L=Z:=⟨_,rfl⟩
 rw[hZ] at HC ⊢
 clear hZ h
 have HWW:Hid (∃ W,((((w.alloc (.cells #[.i op] 3)).alloc (.cells #[.i k] 3)).alloc (.cells #[.i s] 3)).alloc (.cells #[.i 0,.i 0] 165))=W):=aA ⟨_,rfl⟩
 rcases ho with rfl|rfl|rfl|rfl|rfl|rfl|rfl|rfl
 all_goals
  go_enter Tryz.func266,Tryz.ntmps266
  go_wp2_with fail
  obtain⟨W,hW⟩:=HWW.o
  rw[hW] at HR ⊢
  clear hW
  refine(HC.o _ HR.o).mono ?_
  rintro e' w2 ⟨rfl,hb2⟩
  have HR9:=aA (HR.o.later hb2)
  obtain⟨s1,s2,s3,s4⟩:=aL HR9.o.r
  clear hb2
  go_wp2_with fail
  obtain⟨d0,d1,hB4⟩:=aS HR9.o.r HR9.o.bel (by omega) x y
  exact bPr (v:=.tuple #[.agg #[.i x,.i y],.i e]) (by simp[results,Tryz.results266,go_sem,d0,d1]) rfl ⟨rfl,hB4⟩
theorem sS (op k s:Int)(a:Option Addr)(n cap:Nat)(Z:Int × Int)(w:World)(ho:op=5\/op=6\/op=8\/op=9\/op=15\/op=16\/op=17\/op=22\/op=23\/op=28)
  (hp:∀ W,Below w.heap.size w W->Calls Tryz.prog 317 #[.i op,.slice a n cap] W fun r w'=>r=.returned (.agg #[.i Z.1,.i Z.2])/\Below W.heap.size W w') :
  Calls Tryz.prog 266 #[.i op,.i k,.i s,.slice a n cap] w fun r w'=>r=.returned (spV (Z,0))/\Below w.heap.size w w':=by
 have HR:=aA (Rk.start w op k s)
 have HC:=aA fun(W':World) (hW':Rk w W' op k s)=>hp W' hW'.bel
 clear hp
 obtain⟨x,y⟩:=Z
 have HWW:Hid (∃ W,((((w.alloc (.cells #[.i op] 3)).alloc (.cells #[.i k] 3)).alloc (.cells #[.i s] 3)).alloc (.cells #[.i 0,.i 0] 165))=W):=aA ⟨_,rfl⟩
 rcases ho with rfl|rfl|rfl|rfl|rfl|rfl|rfl|rfl|rfl|rfl
 all_goals
  go_enter Tryz.func266,Tryz.ntmps266
  go_wp2_with fail
  obtain⟨W,hW⟩:=HWW.o
  rw[hW] at HR ⊢
  clear hW
  have o4:=HR.o.cap.o.cell 0 rfl
  refine(HC.o _ HR.o).mono ?_
  rintro e' w2 ⟨rfl,hb2⟩
  have HR9:=aA (HR.o.later hb2)
  obtain⟨s1,s2,s3,s4⟩:=aL HR9.o.r
  clear hb2
  go_wp2_with fail
  obtain⟨d0,d1,hB4⟩:=aS HR9.o.r HR9.o.bel (by omega) x y
  exact bPr (v:=.tuple #[.agg #[.i x,.i y],.i 0]) (by simp[results,Tryz.results266,go_sem,d0,d1]) rfl ⟨rfl,hB4⟩
theorem aLp (op k s a b:Int)(bb off cap:Nat)(w:World)(hcap:1<=cap)(hlt:bb < w.heap.size)(c0:w.cell? ⟨bb,off,none⟩=some (.i a))(c1:w.cell? ⟨bb,off+1,none⟩=some (.i b))(ho:op=31)(ha:fI a)(hb:fI b)(hk:fI k) :
  Calls Tryz.prog 266 #[.i op,.i k,.i s,.slice (some ⟨bb,off,none⟩) 1 cap] w fun r w'=>r=.returned (spV (fJ a b k k,0))/\Below w.heap.size w w':=by
 have R0:=Rk.start w op k s
 have d0:=(R0.bel.cell (p:=⟨bb,off,none⟩) hlt).trans c0
 have d1:=(R0.bel.cell (p:=⟨bb,off+1,none⟩) hlt).trans c1
 have HR:=aA R0
 clear R0 c0 c1
 have HC:=aA fun(W':World)=>aEj a b k k W' ha hb hk hk
 generalize fJ a b k k=Z at *
 obtain⟨x,y⟩:=Z
 subst ho
 go_enter Tryz.func266,Tryz.ntmps266
 go_wp2_with fail
 obtain⟨W,hW⟩:∃ W,((((w.alloc (.cells #[.i 31] 3)).alloc (.cells #[.i k] 3)).alloc (.cells #[.i s] 3)).alloc (.cells #[.i 0,.i 0] 165))=W:=⟨_,rfl⟩
 rw[hW] at HR d0 d1 ⊢
 clear hW
 have hlW:=wBl W _ d0
 have d4:=HR.o.cap.k.cell 0 rfl
 go_region_held3 (fun w'=>w'.cell? ⟨bb,off,none⟩=some (.i a)/\w'.cell? ⟨bb,off+1,none⟩=some (.i b)/\w'.cell? ⟨w.heap.size+1,0,none⟩=some (.i k))
  (first|exact⟨t0,t1,t4⟩|exact⟨u0,u1,u4⟩|exact⟨nH hlt (by omega) u0,nH hlt (by omega) u1,nH (Nat.lt_succ_self _) (by omega) u4⟩|go_keep)
  ((first
   | (go_at_call 312;refine(dS _ _).mono ?_;rintro e' w2 ⟨rfl,hb2⟩;have t0:=(hb2.cell (p:=⟨bb,off,none⟩) hlW).trans d0;have t1:=(hb2.cell (p:=⟨bb,off+1,none⟩) hlW).trans d1;have HR2:=aA (HR.o.drew.later hb2);have t4:=HR2.o.cap.k.cell 0 rfl;have hl2:=wBl w2 _ t0)
   | (go_at_call 313;refine(HC.o _).mono ?_;rintro e' w3 ⟨rfl,hb3⟩;have u0:=(hb3.cell (p:=⟨bb,off,none⟩) hl2).trans t0;have u1:=(hb3.cell (p:=⟨bb,off+1,none⟩) hl2).trans t1;have HR9:=aA (HR2.o.later hb3);have u4:=HR9.o.cap.k.cell 0 rfl;obtain⟨s1,s2,s3,s4⟩:=aL HR9.o.r)))
 go_wp2_with fail
 obtain⟨d0,d1,hB4⟩:=aS HR9.o.r HR9.o.bel (by omega) x y
 exact bPr (v:=.tuple #[.agg #[.i x,.i y],.i 0]) (by simp[results,Tryz.results266,go_sem,d0,d1]) rfl ⟨rfl,hB4⟩
theorem aCe (W:World)(a b c d:Int):(W.alloc (.cells #[.i a,.i b,.i c,.i d] 165)).cell? ⟨W.heap.size,0,none⟩=some (.i a)/\(W.alloc (.cells #[.i a,.i b,.i c,.i d] 165)).cell? ⟨W.heap.size,0+1,none⟩=some (.i b) /\
  (W.alloc (.cells #[.i a,.i b,.i c,.i d] 165)).cell? ⟨W.heap.size,0+2,none⟩=some (.i c)/\(W.alloc (.cells #[.i a,.i b,.i c,.i d] 165)).cell? ⟨W.heap.size,0+2+1,none⟩=some (.i d):=by
 have h:=aB.new W 165 #[.i a,.i b,.i c,.i d]
 exact⟨h.cell 0 rfl,h.cell 1 rfl,h.cell 2 rfl,h.cell 3 rfl⟩
theorem aLr (op k s a b:Int)(bb off cap:Nat)(w:World)(hcap:1<=cap)(hlt:bb < w.heap.size)(c0:w.cell? ⟨bb,off,none⟩=some (.i a))(c1:w.cell? ⟨bb,off+1,none⟩=some (.i b))(ho:op=32) :
  Calls Tryz.prog 266 #[.i op,.i k,.i s,.slice (some ⟨bb,off,none⟩) 1 cap] w fun r w'=>r=.returned (spV (fA (fun u v=>bK 10 0 0 [u,v]) a b k k))/\Below w.heap.size w w':=by
 have R0:=Rk.start w op k s
 have d0:=(R0.bel.cell (p:=⟨bb,off,none⟩) hlt).trans c0
 have d1:=(R0.bel.cell (p:=⟨bb,off+1,none⟩) hlt).trans c1
 have HR:=aA R0
 clear R0 c0 c1
 have HC:=aA fun(W':World)=>aBr 10 0 0 a b k k W'.heap.size 0 2 (W'.alloc (.cells #[.i a,.i b,.i k,.i k] 165)) (nLr _) (by simp) (aCe W' a b k k).1 (aCe W' a b k k).2.1 (aCe W' a b k k).2.2.1 (aCe W' a b k k).2.2.2 (.inl rfl)
 obtain⟨⟨⟨x,y⟩,e⟩,hZ⟩:∃ Z,fA (fun u v=>bK 10 0 0 [u,v]) a b k k=Z:=⟨_,rfl⟩
 rw[hZ] at HC ⊢
 clear hZ
 subst ho
 go_enter Tryz.func266,Tryz.ntmps266
 go_wp2_with fail
 obtain⟨W,hW⟩:∃ W,((((w.alloc (.cells #[.i 32] 3)).alloc (.cells #[.i k] 3)).alloc (.cells #[.i s] 3)).alloc (.cells #[.i 0,.i 0] 165))=W:=⟨_,rfl⟩
 rw[hW] at HR d0 d1 ⊢
 clear hW
 have hlW:=wBl W _ d0
 have d4:=HR.o.cap.k.cell 0 rfl
 go_region_held3 (fun w'=>w'.cell? ⟨bb,off,none⟩=some (.i a)/\w'.cell? ⟨bb,off+1,none⟩=some (.i b)/\w'.cell? ⟨w.heap.size+1,0,none⟩=some (.i k))
  (first|exact⟨t0,t1,t4⟩|exact⟨u0,u1,u4⟩|exact⟨(aZ hl2).trans t0,(aZ hl2).trans t1,(aZ hl4).trans t4⟩|exact⟨nH hlt (by omega) u0,nH hlt (by omega) u1,nH (Nat.lt_succ_self _) (by omega) u4⟩|go_keep)
  ((first
   | (go_at_call 312;refine(dS _ _).mono ?_;rintro e' w2 ⟨rfl,hb2⟩;have t0:=(hb2.cell (p:=⟨bb,off,none⟩) hlW).trans d0;have t1:=(hb2.cell (p:=⟨bb,off+1,none⟩) hlW).trans d1;have HR2:=aA (HR.o.drew.later hb2);have t4:=HR2.o.cap.k.cell 0 rfl;have hl2:=wBl w2 _ t0;have hl4:=wBl w2 _ t4)
   | (go_at_call 266;refine(HC.o _).mono ?_;rintro e' w3 ⟨rfl,hb3⟩;have hb4:=bel (aD _ _) hb3;have u0:=(hb4.cell (p:=⟨bb,off,none⟩) hl2).trans t0;have u1:=(hb4.cell (p:=⟨bb,off+1,none⟩) hl2).trans t1;have HR9:=aA (HR2.o.later hb4);have u4:=HR9.o.cap.k.cell 0 rfl;obtain⟨s1,s2,s3,s4⟩:=aL HR9.o.r)))
 go_wp2_with fail
 obtain⟨d0,d1,hB4⟩:=aS HR9.o.r HR9.o.bel (by omega) x y
 exact bPr (v:=.tuple #[.agg #[.i x,.i y],.i e]) (by simp[results,Tryz.results266,go_sem,d0,d1]) rfl ⟨rfl,hB4⟩
def whP (p:Int × Int):Bool:=nT p.1 p.2
def jM (op k s:Int)(L:List (Int × Int)):Bool:=decide (1<=ar op)&&decide ((L.length:Int)=ar op)&&cons op k s&&L.all whP
theorem xR {L:List (Int × Int)}{k:Nat}{x y:Int}(hk:k < L.length)(h:(L.take k).all whP=true)(hx:L.getD k (0,0)=(x,y))(e:nT x y=true):(L.take (k+1)).all whP=true:=by
 have e1:L[k]=(x,y):=by simpa [List.getD,hk] using hx
 rw[lTs hk,List.all_append,h,e1]
 simp[whP,e]
theorem aQu (op k s:Int)(a:Option Addr)(n cap:Nat)(L:List (Int × Int))(w:World)(h:Spans w a n cap L) :
  Calls Tryz.prog 265 #[.i op,.i k,.i s,.slice a n cap] w fun e w'=>e=.returned (.bool (jM op k s L))/\Below w.heap.size w w':=by
 have hl:=h.len
 have hm1:n<=9223372036854775807:=by have:=h.le;have:=h.max;unfold maxLen at this;omega
 by_cases h1:ar op < 1
 ·rw[show jM op k s L=false by simp[jM];omega]
  clear hl h
  go_enter Tryz.func265,Tryz.ntmps265
  go_wp2_with (go_at_call 129;refine(bQ _ _).mono ?_;rintro e w' ⟨rfl,rfl⟩)
  go_ret
  exact⟨rfl,Below.refl _ _⟩
 by_cases h2:(n:Int)=ar op
 ·have h2':((n:Int) != ar op)=false:=by simp[h2]
  cases hc:cons op k s
  ·rw[show jM op k s L=false by simp[jM,hc]]
   clear hl h2 h
   go_enter Tryz.func265,Tryz.ntmps265
   go_wp2_with (first|(go_at_call 129;refine(bQ _ _).mono ?_;rintro e w' ⟨rfl,rfl⟩)|(go_at_call 203;refine(iC _ _ _ _).mono ?_;rintro e w' ⟨rfl,rfl⟩))
   go_ret
   exact⟨rfl,Below.refl _ _⟩
  ·rw[show jM op k s L=L.all whP by simp[jM,hc,hl,h2];omega]
   have HL:=aA hl
   have H:=aA h
   clear hl h2 h
   go_enter Tryz.func265,Tryz.ntmps265
   go_wp2_with (first|(go_at_call 129;refine(bQ _ _).mono ?_;rintro e w' ⟨rfl,hw'⟩;have hq:=hw'.symm;subst hq)|(go_at_call 203;refine(iC _ _ _ _).mono ?_;rintro e w' ⟨rfl,hw'⟩;have hq:=hw'.symm;subst hq))
   go_loopw [31] (fun i wr=>∃ j:Nat,j<=n/\i=.i j/\(L.take j).all whP=true/\Below w.heap.size w wr) (fun i _=>n-(intOf i).toNat)
   case atStart=>exact⟨0,nZl _,rfl,rfl,Below.refl _ _⟩
   case round =>
    rename_i wr
    obtain⟨j,hj,rfl,hA,hB⟩:=hrel
    have HA:=aA hA
    have HB:=aA hB
    clear hA hB
    by_cases hlt:j < n
    ·obtain⟨bb,off,rfl,hbb,hcell⟩:=(H.o.later HB.o).at (by omega)
     obtain⟨g1,g2⟩:=hcell j hlt
     clear hcell
     obtain⟨⟨x,y⟩,hxy⟩:∃ p,L.getD j (0,0)=p:=⟨_,rfl⟩
     rw[hxy] at g1 g2
     have HXY:=aA hxy
     clear hxy
     have hj0:(0:Int)<=(j:Int):=by omega
     have hj1:(j:Int) < (n:Int):=by omega
     have HWh:=fun w=>aA (aB1 x y w)
     cases hx:nT x y
     ·rw[hx] at HWh
      go_wp2_with fail
      refine(HWh _).o.mono ?_
      rintro e w2 ⟨rfl,hb2⟩
      have HB2:=aA (bel HB.o (bel (aD _ _) hb2))
      clear hb2
      go_wp2_with fail
      go_ret
      refine⟨aV ?_,HB2.o⟩
      symm
      rw[List.all_eq_false]
      refine⟨(x,y),?_,by simp[whP,hx]⟩
      rw[<-HXY.o]
      simp[List.getD,HL.o,hlt]
     ·rw[hx] at HWh
      go_wp2_with fail
      refine(HWh _).o.mono ?_
      rintro e w2 ⟨rfl,hb2⟩
      have HB2:=aA (bel HB.o (bel (aD _ _) hb2))
      clear hb2
      go_wp2_with fail
      go_roundw
      case rel=>exact⟨j+1,by omega,by go_num,xR (by rw[HL.o];exact hlt) HA.o HXY.o hx,HB2.o⟩
      case measure=>simp[intOf];omega
    ·go_wp2_with fail
     go_ret
     refine⟨aV ?_,HB.o⟩
     have h3:=HA.o
     rw[lTl (by rw[HL.o];omega)] at h3
     exact h3.symm
 ·have h2':((n:Int) != ar op)=true:=by simp[h2]
  rw[show jM op k s L=false by simp[jM,hl,h2]]
  clear hl h2 h
  go_enter Tryz.func265,Tryz.ntmps265
  go_wp2_with (go_at_call 129;refine(bQ _ _).mono ?_;rintro e w' ⟨rfl,rfl⟩)
  go_ret
  exact⟨rfl,Below.refl _ _⟩
def bV (op k s:Int)(L:List (Int × Int)):(Int × Int) × Int :=
 if op=32 then fA (fun u v=>bK 10 0 0 [u,v]) (L.getD 0 (0,0)).1 (L.getD 0 (0,0)).2 k k else
 if op=31 then(fJ (L.getD 0 (0,0)).1 (L.getD 0 (0,0)).2 k k,0) else
 if op=11\/op=12 then uA (fun u v=>bK op k s [u,v]) op (L.getD 0 (0,0)).1 (L.getD 0 (0,0)).2 (L.getD 1 (0,0)).1 (L.getD 1 (0,0)).2 else
 if op=10\/op=13\/op=14\/op=18\/op=19\/op=20\/op=21 then fA (fun u v=>bK op k s [u,v]) (L.getD 0 (0,0)).1 (L.getD 0 (0,0)).2 (L.getD 1 (0,0)).1 (L.getD 1 (0,0)).2 else
 if op=7\/op=24\/op=25\/op=26\/op=27\/op=29\/op=30\/op=33 then lC (fun xs=>bK op k s xs) L else
 (aYo op L,0)
theorem aVs {p:Int × Int}(h:whP p=true):fI p.1/\fI p.2:=by
 have:=bF.1 h
 exact⟨by omega,by omega⟩
theorem aNf {op k s:Int}(h:cons op k s=true)(ho:op=31):fI k:=by
 subst ho
 have h':fC k 0 2147483647=true:=h
 have:=aK.1 h'
 exact⟨by omega,by omega⟩
theorem aP6 (op k s:Int)(a:Option Addr)(n cap:Nat)(L:List (Int × Int))(w:World)(h:Spans w a n cap L)(hm:jM op k s L=true) :
  Calls Tryz.prog 266 #[.i op,.i k,.i s,.slice a n cap] w fun r w'=>r=.returned (spV (bV op k s L))/\Below w.heap.size w w':=by
 simp only[jM,bAt,dEt,lAe] at hm
 obtain⟨⟨⟨m1,m2⟩,m3⟩,m4⟩:=hm
 have hl:=h.len
 have h3:=xS op
 have hle:=h.le
 by_cases he:op=7\/op=24\/op=25\/op=26\/op=27\/op=29\/op=30\/op=33
 ·rw[show bV op k s L=lC (fun xs=>bK op k s xs) L by unfold bV;rw[if_neg (by omega),if_neg (by omega),if_neg (by omega),if_neg (by omega),if_pos he]]
  exact aLq op k s a n cap L w h (by omega) he
 obtain⟨b,off,rfl,hlt,hc⟩:=h.at (by omega)
 have hw:∀ p ∈ L,fI p.1/\fI p.2:=fun p hp=>aVs (m4 p hp)
 match L,hl,m2,hc,hw with
 | [(x0,y0)],hl,m2,hc,hw =>
  subst hl
  have ho:=nM (op:=op) (by simpa using m2.symm)
  obtain⟨d0,d1⟩:=hc 0 (by simp)
  obtain⟨w0,w1⟩:=hw (x0,y0) (by simp)
  simp at d0 d1
  by_cases h32:op=32
  ·rw[show bV op k s [(x0,y0)]=fA (fun u v=>bK 10 0 0 [u,v]) x0 y0 k k by unfold bV;rw[if_pos h32];rfl]
   exact aLr op k s x0 y0 b off cap w hle hlt d0 d1 h32
  by_cases h31:op=31
  ·rw[show bV op k s [(x0,y0)]=(fJ x0 y0 k k,0) by unfold bV;rw[if_neg h32,if_pos h31];rfl]
   exact aLp op k s x0 y0 b off cap w hle hlt d0 d1 h31 w0 w1 (aNf m3 h31)
  have h56:op=5\/op=6:=by omega
  rw[show bV op k s [(x0,y0)]=(nL op x0 y0,0) by unfold bV;rw[if_neg h32,if_neg h31,if_neg (by omega),if_neg (by omega),if_neg he];rfl]
  exact sS op k s _ 1 cap (nL op x0 y0) w (by omega) fun W hW=>aQy op x0 y0 b off cap W hle (by have:=hW.size;omega) ((hW.cell (p:=⟨b,off,none⟩) hlt).trans d0) ((hW.cell (p:=⟨b,off+1,none⟩) hlt).trans d1) w0 w1
 | [(x0,y0),(x1,y1)],hl,m2,hc,hw =>
  subst hl
  have ho:=aK.1 (jT (op:=op) (by simpa using m2.symm))
  obtain⟨d0,d1⟩:=hc 0 (by simp)
  obtain⟨d2,d3⟩:=hc 1 (by simp)
  obtain⟨w0,w1⟩:=hw (x0,y0) (by simp)
  obtain⟨w2,w3⟩:=hw (x1,y1) (by simp)
  simp at d0 d1 d2 d3
  by_cases hd:op=11\/op=12
  ·rw[show bV op k s [(x0,y0),(x1,y1)]=uA (fun u v=>bK op k s [u,v]) op x0 y0 x1 y1 by unfold bV;rw[if_neg (by omega),if_neg (by omega),if_pos hd];rfl]
   exact aP7 op k s x0 y0 x1 y1 b off cap w hle hlt d0 d1 d2 d3 hd w0 w1 w2 w3
  by_cases hcn:op=10\/op=13\/op=14\/op=18\/op=19\/op=20\/op=21
  ·rw[show bV op k s [(x0,y0),(x1,y1)]=fA (fun u v=>bK op k s [u,v]) x0 y0 x1 y1 by unfold bV;rw[if_neg (by omega),if_neg (by omega),if_neg hd,if_pos hcn];rfl]
   exact aBr op k s x0 y0 x1 y1 b off cap w hle hlt d0 d1 d2 d3 hcn
  have h2:op=8\/op=9\/op=15\/op=16\/op=17\/op=22\/op=23:=by omega
  rw[show bV op k s [(x0,y0),(x1,y1)]=(rV op x0 y0 x1 y1,0) by unfold bV;rw[if_neg (by omega),if_neg (by omega),if_neg hd,if_neg hcn,if_neg he];rfl]
  exact sS op k s _ 2 cap (rV op x0 y0 x1 y1) w (by omega) fun W hW=>aQz op x0 y0 x1 y1 b off cap W hle (by have:=hW.size;omega) ((hW.cell (p:=⟨b,off,none⟩) hlt).trans d0) ((hW.cell (p:=⟨b,off+1,none⟩) hlt).trans d1) ((hW.cell (p:=⟨b,off+2,none⟩) hlt).trans d2) ((hW.cell (p:=⟨b,off+2+1,none⟩) hlt).trans d3) w0 w1 w2 w3 h2
 | [(x0,y0),(x1,y1),(x2,y2)],hl,m2,hc,hw =>
  subst hl
  have ho:=aK.1 (iU (op:=op) (by simpa using m2.symm))
  obtain⟨d0,d1⟩:=hc 0 (by simp)
  obtain⟨d2,d3⟩:=hc 1 (by simp)
  obtain⟨d4,d5⟩:=hc 2 (by simp)
  simp at d0 d1 d2 d3 d4 d5
  have h28:op=28:=by omega
  rw[show bV op k s [(x0,y0),(x1,y1),(x2,y2)]=(sU x0 y0 x1 y1 x2 y2,0) by unfold bV;rw[if_neg (by omega),if_neg (by omega),if_neg (by omega),if_neg (by omega),if_neg he];rfl]
  exact sS op k s _ 3 cap (sU x0 y0 x1 y1 x2 y2) w (by omega) fun W hW=>aQ0 op x0 y0 x1 y1 x2 y2 b off cap W hle (by have:=hW.size;omega) ((hW.cell (p:=⟨b,off,none⟩) hlt).trans d0) ((hW.cell (p:=⟨b,off+1,none⟩) hlt).trans d1) ((hW.cell (p:=⟨b,off+2,none⟩) hlt).trans d2) ((hW.cell (p:=⟨b,off+2+1,none⟩) hlt).trans d3) ((hW.cell (p:=⟨b,off+4,none⟩) hlt).trans d4) ((hW.cell (p:=⟨b,off+4+1,none⟩) hlt).trans d5)
 | [],hl,m2,hc,hw=>simp at m2;omega
 | _::_::_::_::_,hl,m2,hc,hw=>simp at m2;omega
def aAo (Z:(Int × Int) × Int):(Int × Int) × Int:=if Z.2≠0 then((0,0),Z.2) else if nT Z.1.1 Z.1.2=true then(Z.1,0) else((0,0),13)
def ofZ (op k s:Int)(L:List (Int × Int)):(Int × Int) × Int:=if jM op k s L=true then aAo (bV op k s L) else((0,0),1)
theorem aPh (op k s:Int)(a:Option Addr)(n cap:Nat)(L:List (Int × Int))(w:World)(h:Spans w a n cap L) :
  Calls Tryz.prog 191 #[.i op,.i k,.i s,.slice a n cap] w fun r w'=>r=.returned (spV (ofZ op k s L))/\Below w.heap.size w w':=by
 have HR:=aA (aB.new w 165 #[.i 0,.i 0])
 have HB:=aA (aD w (cs 0 0))
 have HM:=aA (aQu op k s a n cap L _ (h.later HB.o))
 cases hm:jM op k s L
 ·rw[hm] at HM
  rw[show ofZ op k s L=((0,0),1) by simp[ofZ,hm]]
  go_enter Tryz.func191,Tryz.ntmps191
  go_wp2_with fail
  refine HM.o.mono ?_
  rintro e w2 ⟨rfl,hb2⟩
  have hR:=HR.o.below hb2
  have hB:=bel HB.o hb2
  obtain⟨s1,s2,s3,s4⟩:=aL hR
  clear hb2
  go_wp2_with fail
  obtain⟨d0,d1,hB4⟩:=aS hR hB (by omega) 0 0
  exact bPr (v:=.tuple #[.agg #[.i 0,.i 0],.i 1]) (by simp[results,Tryz.results191,go_sem,d0,d1]) rfl ⟨rfl,hB4⟩
 ·rw[hm] at HM
  have HRk:=aA fun(W:World) (hW:Below w.heap.size w W)=>aP6 op k s a n cap L W (h.later hW) hm
  rw[show ofZ op k s L=aAo (bV op k s L) by simp[ofZ,hm]]
  obtain⟨⟨⟨x,y⟩,e⟩,hZ⟩:∃ Z,bV op k s L=Z:=⟨_,rfl⟩
  rw[hZ] at HRk ⊢
  clear hZ hm h
  by_cases he:e=0
  ·subst he
   have HWh:=fun w=>aA (aB1 x y w)
   cases hx:nT x y
   ·rw[show aAo ((x,y),0)=((0,0),13) by simp[aAo,hx]]
    rw[hx] at HWh
    go_enter Tryz.func191,Tryz.ntmps191
    go_wp2_with fail
    refine HM.o.mono ?_
    rintro e w2 ⟨rfl,hb2⟩
    have HR2:=aA (HR.o.below hb2)
    have HB2:=aA (bel HB.o hb2)
    clear hb2
    go_wp2_with fail
    refine(HRk.o _ HB2.o).mono ?_
    rintro e w3 ⟨rfl,hb3⟩
    have HR3:=aA (HR2.o.below hb3)
    have HB3:=aA (bel HB2.o hb3)
    clear hb3
    go_wp2_with fail
    refine(HWh _).o.mono ?_
    rintro e w4 ⟨rfl,hb4⟩
    have hR:=(HR3.o.alloc (cs x y)).below hb4
    have hB:=bel (bel HB3.o (aD _ _)) hb4
    obtain⟨s1,s2,s3,s4⟩:=aL hR
    clear hb4
    go_wp2_with fail
    obtain⟨d0,d1,hB4⟩:=aS hR hB (by omega) 0 0
    exact bPr (v:=.tuple #[.agg #[.i 0,.i 0],.i 13]) (by simp[results,Tryz.results191,go_sem,d0,d1]) rfl ⟨rfl,hB4⟩
   ·rw[show aAo ((x,y),0)=((x,y),0) by simp[aAo,hx]]
    rw[hx] at HWh
    go_enter Tryz.func191,Tryz.ntmps191
    go_wp2_with fail
    refine HM.o.mono ?_
    rintro e w2 ⟨rfl,hb2⟩
    have HR2:=aA (HR.o.below hb2)
    have HB2:=aA (bel HB.o hb2)
    clear hb2
    go_wp2_with fail
    refine(HRk.o _ HB2.o).mono ?_
    rintro e w3 ⟨rfl,hb3⟩
    have HR3:=aA (HR2.o.below hb3)
    have HB3:=aA (bel HB2.o hb3)
    clear hb3
    go_wp2_with fail
    refine(HWh _).o.mono ?_
    rintro e w4 ⟨rfl,hb4⟩
    have hR:=(HR3.o.alloc (cs x y)).below hb4
    have hN:=(aB.new w3 165 #[.i x,.i y]).below hb4
    have hB:=bel (bel HB3.o (aD _ _)) hb4
    obtain⟨s1,s2,s3,s4⟩:=aL hR
    obtain⟨n1,n2,-,-⟩:=aL hN
    clear hb4
    go_wp2_with fail
    obtain⟨d0,d1,hB4⟩:=aS hR hB (by omega) x y
    exact bPr (v:=.tuple #[.agg #[.i x,.i y],.i 0]) (by simp[results,Tryz.results191,go_sem,d0,d1]) rfl ⟨rfl,hB4⟩
  ·rw[show aAo ((x,y),e)=((0,0),e) by simp[aAo,he]]
   have he':(e != 0)=true:=by simp[he]
   clear he
   go_enter Tryz.func191,Tryz.ntmps191
   go_wp2_with fail
   refine HM.o.mono ?_
   rintro e w2 ⟨rfl,hb2⟩
   have HR2:=aA (HR.o.below hb2)
   have HB2:=aA (bel HB.o hb2)
   clear hb2
   go_wp2_with fail
   refine(HRk.o _ HB2.o).mono ?_
   rintro e w3 ⟨rfl,hb3⟩
   have hR:=(HR2.o.below hb3).alloc (cs x y)
   have hB:=bel (bel HB2.o hb3) (aD _ (cs x y))
   obtain⟨s1,s2,s3,s4⟩:=aL hR
   clear hb3
   go_wp2_with fail
   obtain⟨d0,d1,hB4⟩:=aS hR hB (by omega) 0 0
   exact bPr (v:=.tuple #[.agg #[.i 0,.i 0],.i _]) (by simp[results,Tryz.results191,go_sem,d0,d1]) rfl ⟨rfl,hB4⟩
end Go.Proofs.Spn

import Derived.Test.YtimdcmponhcngaaGreatX02
namespace Go.Proofs.YtimdcmponhcngaaGreat.Knd
open Go.RowKit
set_option linter.unusedVariables false
set_option maxRecDepth 100000
set_option maxHeartbeats 16000000
theorem rmay_ok (f d:Int)(w:World)(h:May f d) :
  Calls Tryz.prog 58 #[.agg #[.int .i64 f,.int .i64 d]] w fun e w'=>e=.returned (.bool true)/\Below w.heap.size w w':=by
 have hb:=bel1 w (.cells #[.int .i64 f,.int .i64 d] 23)
 obtain⟨hf,h1,h2⟩:=h
 rcases hf with rfl|rfl
 ·go_enter Tryz.func58,Tryz.ntmps58
  go_wp2
  go_ret
  exact⟨rfl,hb⟩
 ·go_enter Tryz.func58,Tryz.ntmps58
  go_wp2
  go_ret
  exact⟨rfl,hb⟩
theorem rmay_bad (f d:Int)(w:World)(h:¬May f d) :
  Calls Tryz.prog 58 #[.agg #[.int .i64 f,.int .i64 d]] w fun e w'=>e=.returned (.bool false)/\Below w.heap.size w w':=by
 have hb:=bel1 w (.cells #[.int .i64 f,.int .i64 d] 23)
 by_cases h1:f=0
 ·subst h1
  by_cases h2:d < 1
  ·have h3:decide (1<=d)=false:=by simp;omega
   go_enter Tryz.func58,Tryz.ntmps58
   go_wp2
   go_ret
   exact⟨rfl,hb⟩
  ·have h3:1<=d:=by omega
   have h4:decide (d<=16)=false:=by unfold May at h;simp;omega
   go_enter Tryz.func58,Tryz.ntmps58
   go_wp2
   go_ret
   exact⟨rfl,hb⟩
 ·have h5:(f==0)=false:=by simp[h1]
  by_cases h4:f=1
  ·subst h4
   by_cases h2:d < 1
   ·have h3:decide (1<=d)=false:=by simp;omega
    go_enter Tryz.func58,Tryz.ntmps58
    go_wp2
    go_ret
    exact⟨rfl,hb⟩
   ·have h3:1<=d:=by omega
    have h4:decide (d<=16)=false:=by unfold May at h;simp;omega
    go_enter Tryz.func58,Tryz.ntmps58
    go_wp2
    go_ret
    exact⟨rfl,hb⟩
  ·have h6:(f==1)=false:=by simp[h4]
   go_enter Tryz.func58,Tryz.ntmps58
   go_wp2
   go_ret
   exact⟨rfl,hb⟩
theorem power_any (n:Int)(w:World)(h0:0<=n)(h1:n<=16) :
  Calls Tryz.prog 94 #[.int .i64 n] w fun e w'=>e=.returned (.int .i64 (pw n))/\w'=w:=by
 go_enter Tryz.func94,Tryz.ntmps94
 go_wp2
 go_loop [3,4] (fun x i=>∃ k X:Int,0<=k/\k<=n/\i=.int .i64 k/\1<=X/\X<=65536/\x=.int .i64 X/\Hid (X=pw k)) (fun _ i=>(n-intOf i).toNat)
 case atStart=>exact⟨0,1,by omega,h0,rfl,by omega,by omega,rfl,rfl⟩
 case round =>
  obtain⟨k,X,hk0,hk1,rfl,hX0,hX1,rfl,HX⟩:=hrel
  by_cases hlt:k < n
  ·have hs:=pw_succ k hk0
   have hl:=pw_le (k+1) (by omega)
   rw[<-HX.out] at hs
   rw[hs] at hl
   have HS:=hide hs
   clear hs
   go_wp2
   go_round
   case rel=>exact⟨k+1,2*X,by omega,by omega,rfl,hl.1,hl.2,by go_num,HS.out.symm⟩
   case measure=>simp[intOf];omega
  ·obtain rfl:k=n:=by omega
   go_wp2
   go_ret
   exact⟨ret_int HX.out,rfl⟩
theorem rlow_any (f d:Int)(w:World) :
  Calls Tryz.prog 65 #[.agg #[.int .i64 f,.int .i64 d]] w fun e w'=>e=.returned (.int .i64 (lowZ f d))/\Below w.heap.size w w':=by
 rcases kind3 f d with⟨hm,rfl⟩|⟨hm,rfl⟩|hm
 ·rw[(zs0 hm).1]
  have hb:=bel1 w (.cells #[.int .i64 0,.int .i64 d] 23)
  obtain⟨hd1,hd2⟩:1<=d/\d<=16:=hm.2
  go_enter Tryz.func65,Tryz.ntmps65
  go_wp2_with (go_at_call 58;refine(rmay_ok _ _ _ hm).mono ?_;rintro e w2 ⟨rfl,hb2⟩;obtain⟨hc2,hf2⟩:=bcell hb2)
  go_ret
  exact⟨rfl,bel hb hb2⟩
 ·rw[(zs1 hm).1]
  have hb:=bel1 w (.cells #[.int .i64 1,.int .i64 d] 23)
  obtain⟨hd1,hd2⟩:1<=d/\d<=16:=hm.2
  obtain⟨p1,p2⟩:=pw_le (d-1) (by omega)
  go_enter Tryz.func65,Tryz.ntmps65
  go_wp2_with (first|(go_at_call 58;refine(rmay_ok _ _ _ hm).mono ?_;rintro e w2 ⟨rfl,hb2⟩;obtain⟨hc2,hf2⟩:=bcell hb2)|(go_at_call 94;refine(power_any (d-1) _ (by omega) (by omega)).mono ?_;rintro e w3 ⟨rfl,rfl⟩))
  go_ret
  exact⟨rfl,bel hb hb2⟩
 ·rw[(zs2 hm).1]
  have hb:=bel1 w (.cells #[.int .i64 f,.int .i64 d] 23)
  go_enter Tryz.func65,Tryz.ntmps65
  go_wp2_with (go_at_call 58;refine(rmay_bad _ _ _ hm).mono ?_;rintro e w2 ⟨rfl,hb2⟩;obtain⟨hc2,hf2⟩:=bcell hb2)
  go_ret
  exact⟨rfl,bel hb hb2⟩
theorem rhigh_any (f d:Int)(w:World) :
  Calls Tryz.prog 66 #[.agg #[.int .i64 f,.int .i64 d]] w fun e w'=>e=.returned (.int .i64 (highZ f d))/\Below w.heap.size w w':=by
 rcases kind3 f d with⟨hm,rfl⟩|⟨hm,rfl⟩|hm
 ·rw[(zs0 hm).2.1]
  have hb:=bel1 w (.cells #[.int .i64 0,.int .i64 d] 23)
  obtain⟨hd1,hd2⟩:1<=d/\d<=16:=hm.2
  obtain⟨p1,p2⟩:=pw_le (d) (by omega)
  go_enter Tryz.func66,Tryz.ntmps66
  go_wp2_with (first|(go_at_call 58;refine(rmay_ok _ _ _ hm).mono ?_;rintro e w2 ⟨rfl,hb2⟩;obtain⟨hc2,hf2⟩:=bcell hb2)|(go_at_call 94;refine(power_any (d) _ (by omega) (by omega)).mono ?_;rintro e w3 ⟨rfl,rfl⟩))
  go_ret
  exact⟨ret_int (by rw[pw_half d hd1]),bel hb hb2⟩
 ·rw[(zs1 hm).2.1]
  have hb:=bel1 w (.cells #[.int .i64 1,.int .i64 d] 23)
  obtain⟨hd1,hd2⟩:1<=d/\d<=16:=hm.2
  obtain⟨p1,p2⟩:=pw_le (d-1) (by omega)
  go_enter Tryz.func66,Tryz.ntmps66
  go_wp2_with (first|(go_at_call 58;refine(rmay_ok _ _ _ hm).mono ?_;rintro e w2 ⟨rfl,hb2⟩;obtain⟨hc2,hf2⟩:=bcell hb2)|(go_at_call 94;refine(power_any (d-1) _ (by omega) (by omega)).mono ?_;rintro e w3 ⟨rfl,rfl⟩))
  go_ret
  exact⟨rfl,bel hb hb2⟩
 ·rw[(zs2 hm).2.1]
  have hb:=bel1 w (.cells #[.int .i64 f,.int .i64 d] 23)
  go_enter Tryz.func66,Tryz.ntmps66
  go_wp2_with (go_at_call 58;refine(rmay_bad _ _ _ hm).mono ?_;rintro e w2 ⟨rfl,hb2⟩;obtain⟨hc2,hf2⟩:=bcell hb2)
  go_ret
  exact⟨rfl,bel hb hb2⟩
theorem rborder_any (f d:Int)(w:World) :
  Calls Tryz.prog 95 #[.agg #[.int .i64 f,.int .i64 d]] w fun e w'=>e=.returned (.int .i64 (borderZ f d))/\Below w.heap.size w w':=by
 rcases kind3 f d with⟨hm,rfl⟩|⟨hm,rfl⟩|hm
 ·rw[(zs0 hm).2.2.1]
  have hb:=bel1 w (.cells #[.int .i64 0,.int .i64 d] 23)
  obtain⟨hd1,hd2⟩:1<=d/\d<=16:=hm.2
  obtain⟨p1,p2⟩:=pw_le (d-1) (by omega)
  go_enter Tryz.func95,Tryz.ntmps95
  go_wp2_with (first|(go_at_call 58;refine(rmay_ok _ _ _ hm).mono ?_;rintro e w2 ⟨rfl,hb2⟩;obtain⟨hc2,hf2⟩:=bcell hb2)|(go_at_call 94;refine(power_any (d-1) _ (by omega) (by omega)).mono ?_;rintro e w3 ⟨rfl,rfl⟩))
  go_ret
  exact⟨rfl,bel hb hb2⟩
 ·rw[(zs1 hm).2.2.1]
  have hb:=bel1 w (.cells #[.int .i64 1,.int .i64 d] 23)
  obtain⟨hd1,hd2⟩:1<=d/\d<=16:=hm.2
  go_enter Tryz.func95,Tryz.ntmps95
  go_wp2_with (go_at_call 58;refine(rmay_ok _ _ _ hm).mono ?_;rintro e w2 ⟨rfl,hb2⟩;obtain⟨hc2,hf2⟩:=bcell hb2)
  go_ret
  exact⟨rfl,bel hb hb2⟩
 ·rw[(zs2 hm).2.2.1]
  have hb:=bel1 w (.cells #[.int .i64 f,.int .i64 d] 23)
  go_enter Tryz.func95,Tryz.ntmps95
  go_wp2_with (go_at_call 58;refine(rmay_bad _ _ _ hm).mono ?_;rintro e w2 ⟨rfl,hb2⟩;obtain⟨hc2,hf2⟩:=bcell hb2)
  go_ret
  exact⟨rfl,bel hb hb2⟩
theorem rcount_any (f d:Int)(w:World) :
  Calls Tryz.prog 55 #[.agg #[.int .i64 f,.int .i64 d]] w fun e w'=>e=.returned (.int .i64 (countZ f d))/\Below w.heap.size w w':=by
 rcases kind3 f d with⟨hm,rfl⟩|⟨hm,rfl⟩|hm
 ·rw[(zs0 hm).2.2.2]
  have hb:=bel1 w (.cells #[.int .i64 0,.int .i64 d] 23)
  obtain⟨hd1,hd2⟩:1<=d/\d<=16:=hm.2
  go_enter Tryz.func55,Tryz.ntmps55
  go_wp2_with (go_at_call 58;refine(rmay_ok _ _ _ hm).mono ?_;rintro e w2 ⟨rfl,hb2⟩;obtain⟨hc2,hf2⟩:=bcell hb2)
  go_ret
  exact⟨rfl,bel hb hb2⟩
 ·rw[(zs1 hm).2.2.2]
  have hb:=bel1 w (.cells #[.int .i64 1,.int .i64 d] 23)
  obtain⟨hd1,hd2⟩:1<=d/\d<=16:=hm.2
  go_enter Tryz.func55,Tryz.ntmps55
  go_wp2_with (go_at_call 58;refine(rmay_ok _ _ _ hm).mono ?_;rintro e w2 ⟨rfl,hb2⟩;obtain⟨hc2,hf2⟩:=bcell hb2)
  go_ret
  exact⟨rfl,bel hb hb2⟩
 ·rw[(zs2 hm).2.2.2]
  have hb:=bel1 w (.cells #[.int .i64 f,.int .i64 d] 23)
  go_enter Tryz.func55,Tryz.ntmps55
  go_wp2_with (go_at_call 58;refine(rmay_bad _ _ _ hm).mono ?_;rintro e w2 ⟨rfl,hb2⟩;obtain⟨hc2,hf2⟩:=bcell hb2)
  go_ret
  exact⟨rfl,bel hb hb2⟩
def sndZ (p:Plc):Option Int :=
 if p.coords≠1\/p.y≠0 then none
 else if p.back=0/\-16<=p.x/\p.x<=-1 then some (16+p.x)
 else if 0 < p.back/\-4<=p.x/\p.x<=0 then some (16+5*(p.back-1)+4+p.x)
 else none
def imgZ (p:Plc):Option Int :=
 if p.coords≠2 then none
 else if 0 < p.back then
  (if p.x < -1\/1 < p.x\/p.y < -1\/1 < p.y then none else some (17+9*(p.back-1)+3*(p.y+1)+p.x+1))
 else if p.x < -3\/3 < p.x\/p.y < -2\/0 < p.y\/(p.y=0/\0<=p.x) then none
 else some (7*(p.y+2)+p.x+3)
def rnumZ (f d:Int)(p:Plc):Option Int :=
 if ¬May f d\/p.back < 0\/3 < p.back then none else if f=1 then sndZ p else imgZ p
def optV (o:Option Int):Value:=.tuple #[.int .i64 (o.getD 0),.bool o.isSome]
theorem rnum_snd (d:Int)(p:Plc)(hm:May 1 d)(h0:0<=p.back)(h3:p.back<=3)(hc:p.coords=1)(hy:p.y=0)(w:World) :
  Calls Tryz.prog 60 #[.agg #[.int .i64 1,.int .i64 d],.agg #[.int .i64 p.back,.int .i64 p.coords,.int .i64 p.x,.int .i64 p.y]] w fun e w'=>e=.returned (optV (sndZ p))/\Below w.heap.size w w':=by
 have HB1:=hide ((bel1 w (.cells #[.int .i64 1,.int .i64 d] 23)).alloc (by simp) (.cells #[.int .i64 p.back,.int .i64 p.coords,.int .i64 p.x,.int .i64 p.y] 65))
 have e:sndZ p=(if p.back=0/\-16<=p.x/\p.x<=-1 then some (16+p.x) else if 0 < p.back/\-4<=p.x/\p.x<=0 then some (16+5*(p.back-1)+4+p.x) else none):=by simp[sndZ,hc,hy]
 rw[e]
 clear e
 obtain⟨b,c,x,y⟩:=p
 simp only at h0 h3 hc hy ⊢
 subst hc hy
 go_enter Tryz.func60,Tryz.ntmps60
 go_wp2_with (go_at_call 58;refine(rmay_ok _ _ _ hm).mono ?_;rintro e w2 ⟨rfl,hb2⟩;obtain⟨hc2,hf2⟩:=bcell hb2)
 all_goals go_ret2
 all_goals exact⟨rfl,bel HB1.out hb2⟩
theorem rnum_snd_c (d:Int)(p:Plc)(hm:May 1 d)(h0:0<=p.back)(h3:p.back<=3)(hc:p.coords≠1)(w:World) :
  Calls Tryz.prog 60 #[.agg #[.int .i64 1,.int .i64 d],.agg #[.int .i64 p.back,.int .i64 p.coords,.int .i64 p.x,.int .i64 p.y]] w fun e w'=>e=.returned (optV (sndZ p))/\Below w.heap.size w w':=by
 have HB1:=hide ((bel1 w (.cells #[.int .i64 1,.int .i64 d] 23)).alloc (by simp) (.cells #[.int .i64 p.back,.int .i64 p.coords,.int .i64 p.x,.int .i64 p.y] 65))
 have e:sndZ p=none:=by simp[sndZ,hc]
 rw[e]
 clear e
 obtain⟨b,c,x,y⟩:=p
 simp only at h0 h3 hc ⊢
 have hc':(c != 1)=true:=by simp[hc]
 go_enter Tryz.func60,Tryz.ntmps60
 go_wp2_with (go_at_call 58;refine(rmay_ok _ _ _ hm).mono ?_;rintro e w2 ⟨rfl,hb2⟩;obtain⟨hc2,hf2⟩:=bcell hb2)
 all_goals go_ret2
 all_goals exact⟨rfl,bel HB1.out hb2⟩
theorem rnum_snd_y (d:Int)(p:Plc)(hm:May 1 d)(h0:0<=p.back)(h3:p.back<=3)(hc:p.coords=1)(hy:p.y≠0)(w:World) :
  Calls Tryz.prog 60 #[.agg #[.int .i64 1,.int .i64 d],.agg #[.int .i64 p.back,.int .i64 p.coords,.int .i64 p.x,.int .i64 p.y]] w fun e w'=>e=.returned (optV (sndZ p))/\Below w.heap.size w w':=by
 have HB1:=hide ((bel1 w (.cells #[.int .i64 1,.int .i64 d] 23)).alloc (by simp) (.cells #[.int .i64 p.back,.int .i64 p.coords,.int .i64 p.x,.int .i64 p.y] 65))
 have e:sndZ p=none:=by simp[sndZ,hy]
 rw[e]
 clear e
 obtain⟨b,c,x,y⟩:=p
 simp only at h0 h3 hc hy ⊢
 subst hc
 have hy':(y != 0)=true:=by simp[hy]
 go_enter Tryz.func60,Tryz.ntmps60
 go_wp2_with (go_at_call 58;refine(rmay_ok _ _ _ hm).mono ?_;rintro e w2 ⟨rfl,hb2⟩;obtain⟨hc2,hf2⟩:=bcell hb2)
 all_goals go_ret2
 all_goals exact⟨rfl,bel HB1.out hb2⟩
theorem rnum_img_c (d:Int)(p:Plc)(hm:May 0 d)(h0:0<=p.back)(h3:p.back<=3)(hc:p.coords≠2)(w:World) :
  Calls Tryz.prog 60 #[.agg #[.int .i64 0,.int .i64 d],.agg #[.int .i64 p.back,.int .i64 p.coords,.int .i64 p.x,.int .i64 p.y]] w fun e w'=>e=.returned (optV (imgZ p))/\Below w.heap.size w w':=by
 have HB1:=hide ((bel1 w (.cells #[.int .i64 0,.int .i64 d] 23)).alloc (by simp) (.cells #[.int .i64 p.back,.int .i64 p.coords,.int .i64 p.x,.int .i64 p.y] 65))
 have e:imgZ p=none:=by simp[imgZ,hc]
 rw[e]
 clear e
 obtain⟨b,c,x,y⟩:=p
 simp only at h0 h3 hc ⊢
 have hc':(c != 2)=true:=by simp[hc]
 go_enter Tryz.func60,Tryz.ntmps60
 go_wp2_with (go_at_call 58;refine(rmay_ok _ _ _ hm).mono ?_;rintro e w2 ⟨rfl,hb2⟩;obtain⟨hc2,hf2⟩:=bcell hb2)
 all_goals go_ret2
 all_goals exact⟨rfl,bel HB1.out hb2⟩
theorem rnum_img_b (d:Int)(p:Plc)(hm:May 0 d)(h0:0 < p.back)(h3:p.back<=3)(hc:p.coords=2)(w:World) :
  Calls Tryz.prog 60 #[.agg #[.int .i64 0,.int .i64 d],.agg #[.int .i64 p.back,.int .i64 p.coords,.int .i64 p.x,.int .i64 p.y]] w fun e w'=>e=.returned (optV (imgZ p))/\Below w.heap.size w w':=by
 have HB1:=hide ((bel1 w (.cells #[.int .i64 0,.int .i64 d] 23)).alloc (by simp) (.cells #[.int .i64 p.back,.int .i64 p.coords,.int .i64 p.x,.int .i64 p.y] 65))
 have e:imgZ p=(if p.x < -1\/1 < p.x\/p.y < -1\/1 < p.y then none else some (17+9*(p.back-1)+3*(p.y+1)+p.x+1)):=by simp[imgZ,hc,h0]
 rw[e]
 clear e
 obtain⟨b,c,x,y⟩:=p
 simp only at h0 h3 hc ⊢
 subst hc
 have h0':¬b < 0:=by omega
 go_enter Tryz.func60,Tryz.ntmps60
 go_wp2_with (go_at_call 58;refine(rmay_ok _ _ _ hm).mono ?_;rintro e w2 ⟨rfl,hb2⟩;obtain⟨hc2,hf2⟩:=bcell hb2)
 all_goals go_ret2
 all_goals exact⟨rfl,bel HB1.out hb2⟩
theorem rnum_img_0 (d:Int)(p:Plc)(hm:May 0 d)(h0:p.back=0)(hc:p.coords=2)(w:World) :
  Calls Tryz.prog 60 #[.agg #[.int .i64 0,.int .i64 d],.agg #[.int .i64 p.back,.int .i64 p.coords,.int .i64 p.x,.int .i64 p.y]] w fun e w'=>e=.returned (optV (imgZ p))/\Below w.heap.size w w':=by
 have HB1:=hide ((bel1 w (.cells #[.int .i64 0,.int .i64 d] 23)).alloc (by simp) (.cells #[.int .i64 p.back,.int .i64 p.coords,.int .i64 p.x,.int .i64 p.y] 65))
 have e:imgZ p=(if p.x < -3\/3 < p.x\/p.y < -2\/0 < p.y\/(p.y=0/\0<=p.x) then none else some (7*(p.y+2)+p.x+3)):=by simp[imgZ,hc,h0]
 rw[e]
 clear e
 obtain⟨b,c,x,y⟩:=p
 simp only at h0 hc ⊢
 subst hc h0
 go_enter Tryz.func60,Tryz.ntmps60
 go_wp2_with (go_at_call 58;refine(rmay_ok _ _ _ hm).mono ?_;rintro e w2 ⟨rfl,hb2⟩;obtain⟨hc2,hf2⟩:=bcell hb2)
 all_goals go_ret2
 all_goals exact⟨rfl,bel HB1.out hb2⟩
theorem rnum_neg (f d:Int)(p:Plc)(hm:May f d)(h0:p.back < 0)(w:World) :
  Calls Tryz.prog 60 #[.agg #[.int .i64 f,.int .i64 d],.agg #[.int .i64 p.back,.int .i64 p.coords,.int .i64 p.x,.int .i64 p.y]] w fun e w'=>e=.returned (optV (rnumZ f d p))/\Below w.heap.size w w':=by
 have HB1:=hide ((bel1 w (.cells #[.int .i64 f,.int .i64 d] 23)).alloc (by simp) (.cells #[.int .i64 p.back,.int .i64 p.coords,.int .i64 p.x,.int .i64 p.y] 65))
 have e:rnumZ f d p=none:=by simp[rnumZ,h0]
 rw[e]
 clear e
 obtain⟨b,c,x,y⟩:=p
 simp only at h0 ⊢
 go_enter Tryz.func60,Tryz.ntmps60
 go_wp2_with (go_at_call 58;refine(rmay_ok _ _ _ hm).mono ?_;rintro e w2 ⟨rfl,hb2⟩;obtain⟨hc2,hf2⟩:=bcell hb2)
 all_goals go_ret2
 all_goals exact⟨rfl,bel HB1.out hb2⟩
theorem rnum_big (f d:Int)(p:Plc)(hm:May f d)(h0:3 < p.back)(w:World) :
  Calls Tryz.prog 60 #[.agg #[.int .i64 f,.int .i64 d],.agg #[.int .i64 p.back,.int .i64 p.coords,.int .i64 p.x,.int .i64 p.y]] w fun e w'=>e=.returned (optV (rnumZ f d p))/\Below w.heap.size w w':=by
 have HB1:=hide ((bel1 w (.cells #[.int .i64 f,.int .i64 d] 23)).alloc (by simp) (.cells #[.int .i64 p.back,.int .i64 p.coords,.int .i64 p.x,.int .i64 p.y] 65))
 have e:rnumZ f d p=none:=by simp[rnumZ,h0]
 rw[e]
 clear e
 obtain⟨b,c,x,y⟩:=p
 simp only at h0 ⊢
 have h1:decide (b < 0)=false:=by simp;omega
 go_enter Tryz.func60,Tryz.ntmps60
 go_wp2_with (go_at_call 58;refine(rmay_ok _ _ _ hm).mono ?_;rintro e w2 ⟨rfl,hb2⟩;obtain⟨hc2,hf2⟩:=bcell hb2)
 all_goals go_ret2
 all_goals exact⟨rfl,bel HB1.out hb2⟩
theorem rnum_bad (f d:Int)(p:Plc)(hm:¬May f d)(w:World) :
  Calls Tryz.prog 60 #[.agg #[.int .i64 f,.int .i64 d],.agg #[.int .i64 p.back,.int .i64 p.coords,.int .i64 p.x,.int .i64 p.y]] w fun e w'=>e=.returned (optV (rnumZ f d p))/\Below w.heap.size w w':=by
 have HB1:=hide ((bel1 w (.cells #[.int .i64 f,.int .i64 d] 23)).alloc (by simp) (.cells #[.int .i64 p.back,.int .i64 p.coords,.int .i64 p.x,.int .i64 p.y] 65))
 have e:rnumZ f d p=none:=by simp[rnumZ,hm]
 rw[e]
 clear e
 obtain⟨b,c,x,y⟩:=p
 simp only at HB1 ⊢
 go_enter Tryz.func60,Tryz.ntmps60
 go_wp2_with (go_at_call 58;refine(rmay_bad _ _ _ hm).mono ?_;rintro e w2 ⟨rfl,hb2⟩;obtain⟨hc2,hf2⟩:=bcell hb2)
 all_goals go_ret2
 all_goals exact⟨rfl,bel HB1.out hb2⟩
theorem rnumber_any (f d:Int)(p:Plc)(w:World) :
  Calls Tryz.prog 60 #[.agg #[.int .i64 f,.int .i64 d],.agg #[.int .i64 p.back,.int .i64 p.coords,.int .i64 p.x,.int .i64 p.y]] w fun e w'=>e=.returned (optV (rnumZ f d p))/\Below w.heap.size w w':=by
 by_cases hm:May f d
 ·by_cases h0:p.back < 0
  ·exact rnum_neg f d p hm h0 w
  by_cases h3:3 < p.back
  ·exact rnum_big f d p hm h3 w
  rcases hm.1 with rfl|rfl
  ·have e:rnumZ 0 d p=imgZ p:=by simp[rnumZ,hm,h0,h3]
   rw[e]
   by_cases hc:p.coords=2
   ·by_cases hb:p.back=0
    ·exact rnum_img_0 d p hm hb hc w
    ·exact rnum_img_b d p hm (by omega) (by omega) hc w
   ·exact rnum_img_c d p hm (by omega) (by omega) hc w
  ·have e:rnumZ 1 d p=sndZ p:=by simp[rnumZ,hm,h0,h3]
   rw[e]
   by_cases hc:p.coords=1
   ·by_cases hy:p.y=0
    ·exact rnum_snd d p hm (by omega) (by omega) hc hy w
    ·exact rnum_snd_y d p hm (by omega) (by omega) hc hy w
   ·exact rnum_snd_c d p hm (by omega) (by omega) hc w
 ·exact rnum_bad f d p hm w
theorem imgA:∀ i,i < 44->imgZ ((plsAll imageB).getD i zp)=some (i:Int)/\0<=((plsAll imageB).getD i zp).back/\((plsAll imageB).getD i zp).back<=3:=by decide +kernel
theorem sndA:∀ i,i < 31->sndZ ((plsAll soundB).getD i zp)=some (i:Int)/\0<=((plsAll soundB).getD i zp).back/\((plsAll soundB).getD i zp).back<=3:=by decide +kernel
def okB (L:List Plc)(p:Plc):Option Int->Bool
 | none=>true
 | some n=>decide (0<=n)&&decide (L[n.toNat]?=some p)
theorem imgB:∀ b:Nat,b < 4->∀ x:Nat,x < 7->∀ y:Nat,y < 4->okB (plsAll imageB) ⟨(b:Int),2,(x:Int)-3,(y:Int)-2⟩ (imgZ ⟨(b:Int),2,(x:Int)-3,(y:Int)-2⟩)=true:=by decide +kernel
theorem sndB:∀ b:Nat,b < 4->∀ x:Nat,x < 17->okB (plsAll soundB) ⟨(b:Int),1,(x:Int)-16,0⟩ (sndZ ⟨(b:Int),1,(x:Int)-16,0⟩)=true:=by decide +kernel
theorem okB_some {L:List Plc}{p:Plc}{o:Option Int}{n:Int}(h:okB L p o=true)(e:o=some n):0<=n/\L[n.toNat]?=some p:=by
 subst e
 simpa [okB] using h
theorem imgB' (p:Plc)(n:Int)(h0:0<=p.back)(h3:p.back<=3)(h:imgZ p=some n):0<=n/\(plsAll imageB)[n.toNat]?=some p:=by
 obtain⟨b,c,x,y⟩:=p
 simp only at h0 h3
 have hbox:c=2/\-3<=x/\x<=3/\-2<=y/\y<=1:=by
  unfold imgZ at h
  simp only at h
  split at h
  ·cases h
  ·rename_i hc
   split at h
   ·split at h
    ·cases h
    ·rename_i h4;refine⟨by omega,by omega,by omega,by omega,by omega⟩
   ·split at h
    ·cases h
    ·rename_i h4;refine⟨by omega,by omega,by omega,by omega,by omega⟩
 obtain⟨rfl,h1,h2,h4,h5⟩:=hbox
 have e:(⟨b,2,x,y⟩:Plc)=⟨((b.toNat:Nat):Int),2,(((x+3).toNat:Nat):Int)-3,(((y+2).toNat:Nat):Int)-2⟩:=by
  simp only[Plc.mk.injEq];refine⟨by omega,trivial,by omega,by omega⟩
 have hk:=imgB b.toNat (by omega) (x+3).toNat (by omega) (y+2).toNat (by omega)
 rw[<-e] at hk
 exact okB_some hk h
theorem sndB' (p:Plc)(n:Int)(h0:0<=p.back)(h3:p.back<=3)(h:sndZ p=some n):0<=n/\(plsAll soundB)[n.toNat]?=some p:=by
 obtain⟨b,c,x,y⟩:=p
 simp only at h0 h3
 have hbox:c=1/\y=0/\-16<=x/\x<=0:=by
  unfold sndZ at h
  simp only at h
  split at h
  ·cases h
  ·rename_i hc
   split at h
   ·refine⟨by omega,by omega,by omega,by omega⟩
   ·split at h
    ·refine⟨by omega,by omega,by omega,by omega⟩
    ·cases h
 obtain⟨rfl,rfl,h1,h2⟩:=hbox
 have e:(⟨b,1,x,0⟩:Plc)=⟨((b.toNat:Nat):Int),1,(((x+16).toNat:Nat):Int)-16,0⟩:=by
  simp only[Plc.mk.injEq];refine⟨by omega,trivial,by omega,trivial⟩
 have hk:=sndB b.toNat (by omega) (x+16).toNat (by omega)
 rw[<-e] at hk
 exact okB_some hk h
theorem len44:(plsAll imageB).length=44:=by decide +kernel
theorem len31:(plsAll soundB).length=31:=by decide +kernel
theorem num_of_at (f d:Int)(i:Nat)(p:Plc)(h:(plcs f d)[i]?=some p):rnumZ f d p=some (i:Int):=by
 have hi:i < (plcs f d).length:=(List.getElem?_eq_some_iff.1 h).1
 rcases kind3 f d with⟨hm,rfl⟩|⟨hm,rfl⟩|hm
 ·have e:plcs 0 d=plsAll imageB:=by simp[plcs,blks,hm]
  rw[e] at h hi
  rw[len44] at hi
  obtain⟨h1,h2,h3⟩:=imgA i hi
  have hp:(plsAll imageB).getD i zp=p:=by simp[List.getD,h]
  rw[hp] at h1 h2 h3
  unfold rnumZ
  rw[if_neg (by simp[hm];omega),if_neg (by decide),h1]
 ·have e:plcs 1 d=plsAll soundB:=by simp[plcs,blks,hm]
  rw[e] at h hi
  rw[len31] at hi
  obtain⟨h1,h2,h3⟩:=sndA i hi
  have hp:(plsAll soundB).getD i zp=p:=by simp[List.getD,h]
  rw[hp] at h1 h2 h3
  unfold rnumZ
  rw[if_neg (by simp[hm];omega),if_pos rfl,h1]
 ·have e:plcs f d=[]:=by simp[plcs,blks,hm,plsAll]
  rw[e] at h
  simp at h
theorem at_of_num (f d:Int)(p:Plc)(n:Int)(h:rnumZ f d p=some n):0<=n/\(plcs f d)[n.toNat]?=some p:=by
 unfold rnumZ at h
 split at h
 ·cases h
 ·rename_i hc
  have hm:May f d:=Classical.byContradiction fun h'=>hc (.inl h')
  have h0:0<=p.back:=by omega
  have h3:p.back<=3:=by omega
  rcases hm.1 with rfl|rfl
  ·have e:plcs 0 d=plsAll imageB:=by simp[plcs,blks,hm]
   rw[e]
   exact imgB' p n h0 h3 h
  ·have e:plcs 1 d=plsAll soundB:=by simp[plcs,blks,hm]
   rw[e]
   exact sndB' p n h0 h3 h
theorem look_spec (L:List Plc)(p:Plc):∀ pre:List (Fin 64),(∀ m,look L pre p=some m->∃ i ∈ pre,i.val=m/\L.getD i.val zp=p)/\(look L pre p=none->∀ i ∈ pre,L.getD i.val zp≠p):=by
 intro pre
 obtain⟨qs,rfl⟩:∃ qs:List (Fin 64),pre=qs.reverse:=⟨pre.reverse,by simp⟩
 induction qs with
 | nil=>simp[look]
 | cons i qs ih =>
  rw[List.reverse_cons,look_snoc]
  by_cases e:L.getD i.val zp=p
  ·rw[if_pos e]
   exact⟨fun m hm=>⟨i,by simp,by simpa using hm,e⟩,fun h=>by cases h⟩
  ·rw[if_neg e]
   refine⟨fun m hm=>?_,fun h j hj=>?_⟩
   ·obtain⟨j,h1,h2⟩:=ih.1 m hm
    exact⟨j,by simp[h1],h2⟩
   ·rcases List.mem_append.1 hj with h1|h1
    ·exact ih.2 h j h1
    ·simp at h1;subst h1;exact e
theorem num_same (f d:Int)(p:Plc):numV f d p=optV (rnumZ f d p):=by
 have hle:=(blks_bound f d).1
 obtain⟨h1,h2⟩:=look_spec (plcs f d) p (upto (plcs f d).length)
 unfold numV numZ optV
 cases hz:look (plcs f d) (upto (plcs f d).length) p with
 | some m =>
  obtain⟨i,hi,rfl,hp⟩:=h1 m hz
  have hil:=(upto_mem _ _).1 hi
  have hp':(plcs f d)[i.val]?=some p:=by
   rw[<-hp];simp[List.getD,hil]
  rw[num_of_at f d i.val p hp']
  rfl
 | none =>
  have:rnumZ f d p=none:=by
   cases hr:rnumZ f d p with
   | none=>rfl
   | some n =>
    obtain⟨h3,h4⟩:=at_of_num f d p n hr
    have hlt:n.toNat < (plcs f d).length:=(List.getElem?_eq_some_iff.1 h4).1
    exact absurd (by simp[List.getD,h4]) (h2 hz ⟨n.toNat,by omega⟩ ((upto_mem _ _).2 hlt))
  rw[this]
  rfl
end Go.Proofs.YtimdcmponhcngaaGreat.Knd

import Derived.Test.YtijbmdmeiancgaaGreatXH
import Derived.Test.YtijbmdmeiancgaaGreatX09
set_option maxRecDepth 100000
set_option maxHeartbeats 32000000
set_option linter.unusedVariables false
namespace Go.Proofs.Spn
open Go.RowKit Go.IntWalk
theorem aLj {x k:Int}(hk:1<=k)(h0:¬4611686018427387904 < max x (-x)*k):-4611686018427387904<=x*k/\x*k<=4611686018427387904:=by
 rcases Int.le_total 0 x with h|h
 ·rw[show max x (-x)=x by omega] at h0
  have:0<=x*k:=Int.mul_nonneg h (by omega)
  omega
 ·rw[show max x (-x)=-x by omega,Int.neg_mul] at h0
  have:0<=-x*k:=Int.mul_nonneg (by omega) (by omega)
  rw[Int.neg_mul] at this
  omega
theorem aKw (x:Bool):0<=tr x/\tr x<=1:=by cases x <;> decide
theorem aSx (k s x:Int)(b off cap:Nat)(w:World)(hcap:1<=cap)(hx:-2147483648<=x/\x<=2147483647) 
  (c0:w.cell? ⟨b,off,none⟩=some (.int .i64 x)) :
  Calls Tryz.prog 87 #[.int .i64 5,.int .i64 k,.int .i64 s,.slice (some ⟨b,off,none⟩) 1 cap] w fun e w'=>e=.returned (.tuple #[.int .i64 (ex 5 k s x 0 0).1,.int .i64 (ex 5 k s x 0 0).2])/\w'=w:=by
 rw[show ex 5 k s x 0 0=(-x,0) from rfl]
 go_enter Tryz.func87,Tryz.ntmps87
 go_wp2_with fail
 go_ret2
 exact⟨jK (by omega) rfl,rfl⟩
theorem aS3 (k s x:Int)(b off cap:Nat)(w:World)(hcap:1<=cap)(hx:-2147483648<=x/\x<=2147483647) 
  (c0:w.cell? ⟨b,off,none⟩=some (.int .i64 x)) :
  Calls Tryz.prog 87 #[.int .i64 6,.int .i64 k,.int .i64 s,.slice (some ⟨b,off,none⟩) 1 cap] w fun e w'=>e=.returned (.tuple #[.int .i64 (ex 6 k s x 0 0).1,.int .i64 (ex 6 k s x 0 0).2])/\w'=w:=by
 go_enter Tryz.func87,Tryz.ntmps87
 go_wp2_with fail
 refine(lU x _ (by omega)).mono ?_
 rintro e w' ⟨rfl,rfl⟩
 go_wp2_with fail
 go_ret2
 exact⟨rfl,rfl⟩
theorem aSz (k s x:Int)(b off cap:Nat)(w:World)(hcap:1<=cap)(hx:-2147483648<=x/\x<=2147483647) 
  (c0:w.cell? ⟨b,off,none⟩=some (.int .i64 x)) :
  Calls Tryz.prog 87 #[.int .i64 7,.int .i64 k,.int .i64 s,.slice (some ⟨b,off,none⟩) 1 cap] w fun e w'=>e=.returned (.tuple #[.int .i64 (ex 7 k s x 0 0).1,.int .i64 (ex 7 k s x 0 0).2])/\w'=w:=by
 have b1:=aKw (decide (0 < x))
 have b2:=aKw (decide (x < 0))
 rw[show ex 7 k s x 0 0=(tr (decide (0 < x))-tr (decide (x < 0)),0) from rfl]
 generalize h1:tr (decide (0 < x))=t1 at *
 generalize h2:tr (decide (x < 0))=t2 at *
 have H1:=aC h1
 have H2:=aC h2
 clear h1 h2
 go_enter Tryz.func87,Tryz.ntmps87
 go_wp2_with fail
 refine(H1.o ▸ fO (decide (0 < x)) _).mono ?_
 rintro e w' ⟨rfl,rfl⟩
 go_wp2_with fail
 refine(H2.o ▸ fO (decide (x < 0)) _).mono ?_
 rintro e w' ⟨rfl,rfl⟩
 go_wp2_with fail
 go_ret2
 exact⟨rfl,rfl⟩
theorem aQt (k s x:Int)(b off cap:Nat)(w:World)(hcap:1<=cap)(hx:-2147483648<=x/\x<=2147483647)(hk:0<=k/\k<=31)
  (c0:w.cell? ⟨b,off,none⟩=some (.int .i64 x)) :
  Calls Tryz.prog 87 #[.int .i64 29,.int .i64 k,.int .i64 s,.slice (some ⟨b,off,none⟩) 1 cap] w fun e w'=>e=.returned (.tuple #[.int .i64 (ex 29 k s x 0 0).1,.int .i64 (ex 29 k s x 0 0).2])/\w'=w:=by
 have hP:=gK k.toNat 31 (by omega)
 have hM:=nN (b:=2 ^ k.toNat) hx (by omega)
 have PW:=aC (fun w=>dM k w (by omega))
 go_enter Tryz.func87,Tryz.ntmps87
 go_wp2_with fail
 refine(PW.o _).mono ?_
 rintro e w' ⟨rfl,rfl⟩
 go_wp2_with fail
 go_ret2
 exact⟨rfl,rfl⟩
theorem aSr (k s x:Int)(b off cap:Nat)(w:World)(hcap:1<=cap)(hx:-2147483648<=x/\x<=2147483647)(hk:0<=k/\k<=31)
  (c0:w.cell? ⟨b,off,none⟩=some (.int .i64 x)) :
  Calls Tryz.prog 87 #[.int .i64 30,.int .i64 k,.int .i64 s,.slice (some ⟨b,off,none⟩) 1 cap] w fun e w'=>e=.returned (.tuple #[.int .i64 (ex 30 k s x 0 0).1,.int .i64 (ex 30 k s x 0 0).2])/\w'=w:=by
 have hP:=gK k.toNat 31 (by omega)
 have PW:=aC (fun w=>dM k w (by omega))
 have FL:=aC (fun w=>iZ x (2 ^ k.toNat) w (by omega) (by omega))
 go_enter Tryz.func87,Tryz.ntmps87
 go_wp2_with fail
 refine(PW.o _).mono ?_
 rintro e w' ⟨rfl,rfl⟩
 go_wp2_with fail
 refine(FL.o _).mono ?_
 rintro e w' ⟨rfl,rfl⟩
 go_wp2_with fail
 go_ret2
 exact⟨rfl,rfl⟩
theorem aQ3 (k s x:Int)(b off cap:Nat)(w:World)(hcap:1<=cap)(hx:-2147483648<=x/\x<=2147483647)(hk:0<=k/\k<=2147483647)
  (c0:w.cell? ⟨b,off,none⟩=some (.int .i64 x)) :
  Calls Tryz.prog 87 #[.int .i64 31,.int .i64 k,.int .i64 s,.slice (some ⟨b,off,none⟩) 1 cap] w fun e w'=>e=.returned (.tuple #[.int .i64 (ex 31 k s x 0 0).1,.int .i64 (ex 31 k s x 0 0).2])/\w'=w:=by
 have BW:=aC (fun w=>jZ .and 15 x k w rfl hx (by omega))
 go_enter Tryz.func87,Tryz.ntmps87
 go_wp2_with fail
 refine(BW.o _).mono ?_
 rintro e w' ⟨rfl,rfl⟩
 go_wp2_with fail
 go_ret2
 exact⟨rfl,rfl⟩
theorem aSn (k s x:Int)(b off cap:Nat)(w:World)(hcap:1<=cap)(hx:-2147483648<=x/\x<=2147483647)(hk:-2147483648<=k/\k<=2147483647)
  (c0:w.cell? ⟨b,off,none⟩=some (.int .i64 x)) :
  Calls Tryz.prog 87 #[.int .i64 32,.int .i64 k,.int .i64 s,.slice (some ⟨b,off,none⟩) 1 cap] w fun e w'=>e=.returned (.tuple #[.int .i64 (ex 32 k s x 0 0).1,.int .i64 (ex 32 k s x 0 0).2])/\w'=w:=by
 have hM:=nN (b:=k) hx (by omega)
 go_enter Tryz.func87,Tryz.ntmps87
 go_wp2_with fail
 go_ret2
 exact⟨rfl,rfl⟩
theorem aPd (k s x:Int)(b off cap:Nat)(w:World)(hcap:1<=cap)(hx:-2147483648<=x/\x<=2147483647)(hk:1<=k/\k<=4611686018427387904)(hs:0<=s/\s<=62)(h0:x=0)
  (c0:w.cell? ⟨b,off,none⟩=some (.int .i64 x)) :
  Calls Tryz.prog 87 #[.int .i64 33,.int .i64 k,.int .i64 s,.slice (some ⟨b,off,none⟩) 1 cap] w fun e w'=>e=.returned (.tuple #[.int .i64 (ex 33 k s x 0 0).1,.int .i64 (ex 33 k s x 0 0).2])/\w'=w:=by
 subst h0
 have hP:=gK s.toNat 62 (by omega)
 have PW:=aC (fun w=>dM s w (by omega))
 have FL:=aC (fun w=>iZ 0 (2 ^ s.toNat) w (by omega) (by omega))
 rw[show ex 33 k s 0 0 0=(0,0) by simp[ex]]
 go_enter Tryz.func87,Tryz.ntmps87
 go_wp2_with fail
 refine(PW.o _).mono ?_
 rintro e w' ⟨rfl,rfl⟩
 go_wp2_with fail
 refine(FL.o _).mono ?_
 rintro e w' ⟨rfl,rfl⟩
 go_wp2_with fail
 go_ret2
 exact⟨rfl,rfl⟩
theorem aO6 (k s x:Int)(b off cap:Nat)(w:World)(hcap:1<=cap)(hx:-2147483648<=x/\x<=2147483647)(hk:1<=k/\k<=4611686018427387904)(hs:0<=s/\s<=62)(h0:x≠0)(hb:4611686018427387904 < max x (-x)*k)
  (c0:w.cell? ⟨b,off,none⟩=some (.int .i64 x)) :
  Calls Tryz.prog 87 #[.int .i64 33,.int .i64 k,.int .i64 s,.slice (some ⟨b,off,none⟩) 1 cap] w fun e w'=>e=.returned (.tuple #[.int .i64 (ex 33 k s x 0 0).1,.int .i64 (ex 33 k s x 0 0).2])/\w'=w:=by
 rw[show ex 33 k s x 0 0=(0,13) by simp[ex,hb]]
 have h1:4611686018427387904 / max x (-x) < k:=(lZ (m:=k) (k:=max x (-x)) (by omega)).2 (by rw[Int.mul_comm];exact hb)
 have h2:1<=max x (-x):=by omega
 have h3:(x != 0)=true:=by simp[h0]
 have SZ:=aC (fun w=>lU x w (by omega))
 clear hb h0
 generalize max x (-x)=M at *
 go_enter Tryz.func87,Tryz.ntmps87
 go_wp2_with fail
 refine(SZ.o _).mono ?_
 rintro e w' ⟨rfl,rfl⟩
 go_wp2_with fail
 go_ret2
 exact⟨rfl,rfl⟩
theorem aQd (k s x:Int)(b off cap:Nat)(w:World)(hcap:1<=cap)(hx:-2147483648<=x/\x<=2147483647)(hk:1<=k/\k<=4611686018427387904)(hs:0<=s/\s<=62)(h0:x≠0)(hb:¬4611686018427387904 < max x (-x)*k)
  (c0:w.cell? ⟨b,off,none⟩=some (.int .i64 x)) :
  Calls Tryz.prog 87 #[.int .i64 33,.int .i64 k,.int .i64 s,.slice (some ⟨b,off,none⟩) 1 cap] w fun e w'=>e=.returned (.tuple #[.int .i64 (ex 33 k s x 0 0).1,.int .i64 (ex 33 k s x 0 0).2])/\w'=w:=by
 rw[show ex 33 k s x 0 0=(x*k / 2 ^ s.toNat,0) by simp[ex,hb]]
 have h1:¬4611686018427387904 / max x (-x) < k:=fun h=>hb (by rw[Int.mul_comm];exact(lZ (m:=k) (k:=max x (-x)) (by omega)).1 h)
 have h2:1<=max x (-x):=by omega
 have h3:(x != 0)=true:=by simp[h0]
 have hM:=aLj hk.1 hb
 have hP:=gK s.toNat 62 (by omega)
 have SZ:=aC (fun w=>lU x w (by omega))
 have PW:=aC (fun w=>dM s w (by omega))
 have FL:=aC (fun w=>iZ (x*k) (2 ^ s.toNat) w hM (by omega))
 clear hb h0
 generalize max x (-x)=M at *
 go_enter Tryz.func87,Tryz.ntmps87
 go_wp2_with fail
 refine(SZ.o _).mono ?_
 rintro e w' ⟨rfl,rfl⟩
 go_wp2_with fail
 refine(PW.o _).mono ?_
 rintro e w' ⟨rfl,rfl⟩
 go_wp2_with fail
 refine(FL.o _).mono ?_
 rintro e w' ⟨rfl,rfl⟩
 go_wp2_with fail
 go_ret2
 exact⟨rfl,rfl⟩
theorem aSy (k s x y:Int)(b off cap:Nat)(w:World)(hcap:2<=cap)(hx:-2147483648<=x/\x<=2147483647)(hy:-2147483648<=y/\y<=2147483647) 
  (c0:w.cell? ⟨b,off,none⟩=some (.int .i64 x)) (c1:w.cell? ⟨b,off+1,none⟩=some (.int .i64 y)) :
  Calls Tryz.prog 87 #[.int .i64 8,.int .i64 k,.int .i64 s,.slice (some ⟨b,off,none⟩) 2 cap] w fun e w'=>e=.returned (.tuple #[.int .i64 (ex 8 k s x y 0).1,.int .i64 (ex 8 k s x y 0).2])/\w'=w:=by
 go_enter Tryz.func87,Tryz.ntmps87
 go_wp2_with fail
 go_ret2
 exact⟨rfl,rfl⟩
theorem aS7 (k s x y:Int)(b off cap:Nat)(w:World)(hcap:2<=cap)(hx:-2147483648<=x/\x<=2147483647)(hy:-2147483648<=y/\y<=2147483647) 
  (c0:w.cell? ⟨b,off,none⟩=some (.int .i64 x)) (c1:w.cell? ⟨b,off+1,none⟩=some (.int .i64 y)) :
  Calls Tryz.prog 87 #[.int .i64 9,.int .i64 k,.int .i64 s,.slice (some ⟨b,off,none⟩) 2 cap] w fun e w'=>e=.returned (.tuple #[.int .i64 (ex 9 k s x y 0).1,.int .i64 (ex 9 k s x y 0).2])/\w'=w:=by
 go_enter Tryz.func87,Tryz.ntmps87
 go_wp2_with fail
 go_ret2
 exact⟨rfl,rfl⟩
theorem aRb (k s x y:Int)(b off cap:Nat)(w:World)(hcap:2<=cap)(hx:-2147483648<=x/\x<=2147483647)(hy:-2147483648<=y/\y<=2147483647) 
  (c0:w.cell? ⟨b,off,none⟩=some (.int .i64 x)) (c1:w.cell? ⟨b,off+1,none⟩=some (.int .i64 y)) :
  Calls Tryz.prog 87 #[.int .i64 10,.int .i64 k,.int .i64 s,.slice (some ⟨b,off,none⟩) 2 cap] w fun e w'=>e=.returned (.tuple #[.int .i64 (ex 10 k s x y 0).1,.int .i64 (ex 10 k s x y 0).2])/\w'=w:=by
 have hM:=nN (b:=y) hx (by omega)
 go_enter Tryz.func87,Tryz.ntmps87
 go_wp2_with fail
 go_ret2
 exact⟨rfl,rfl⟩
theorem aOo (k s x y:Int)(b off cap:Nat)(w:World)(hcap:2<=cap)(hx:-2147483648<=x/\x<=2147483647)(hy:-2147483648<=y/\y<=2147483647)(h0:y=0)
  (c0:w.cell? ⟨b,off,none⟩=some (.int .i64 x)) (c1:w.cell? ⟨b,off+1,none⟩=some (.int .i64 y)) :
  Calls Tryz.prog 87 #[.int .i64 11,.int .i64 k,.int .i64 s,.slice (some ⟨b,off,none⟩) 2 cap] w fun e w'=>e=.returned (.tuple #[.int .i64 (ex 11 k s x y 0).1,.int .i64 (ex 11 k s x y 0).2])/\w'=w:=by
 subst h0
 go_enter Tryz.func87,Tryz.ntmps87
 go_wp2_with fail
 go_ret2
 exact⟨rfl,rfl⟩
theorem aPs (k s x y:Int)(b off cap:Nat)(w:World)(hcap:2<=cap)(hx:-2147483648<=x/\x<=2147483647)(hy:-2147483648<=y/\y<=2147483647)(h0:y=0)
  (c0:w.cell? ⟨b,off,none⟩=some (.int .i64 x)) (c1:w.cell? ⟨b,off+1,none⟩=some (.int .i64 y)) :
  Calls Tryz.prog 87 #[.int .i64 12,.int .i64 k,.int .i64 s,.slice (some ⟨b,off,none⟩) 2 cap] w fun e w'=>e=.returned (.tuple #[.int .i64 (ex 12 k s x y 0).1,.int .i64 (ex 12 k s x y 0).2])/\w'=w:=by
 subst h0
 go_enter Tryz.func87,Tryz.ntmps87
 go_wp2_with fail
 go_ret2
 exact⟨rfl,rfl⟩
theorem aR3 (k s x y:Int)(b off cap:Nat)(w:World)(hcap:2<=cap)(hx:-2147483648<=x/\x<=2147483647)(hy:-2147483648<=y/\y<=2147483647)(h0:y≠0)
  (c0:w.cell? ⟨b,off,none⟩=some (.int .i64 x)) (c1:w.cell? ⟨b,off+1,none⟩=some (.int .i64 y)) :
  Calls Tryz.prog 87 #[.int .i64 11,.int .i64 k,.int .i64 s,.slice (some ⟨b,off,none⟩) 2 cap] w fun e w'=>e=.returned (.tuple #[.int .i64 (ex 11 k s x y 0).1,.int .i64 (ex 11 k s x y 0).2])/\w'=w:=by
 have h1:(y==0)=false:=by simp[h0]
 rw[show ex 11 k s x y 0=(x.tdiv y,0) by simp[ex,h0]]
 have DV:=aC (fun w=>sK x y w hx hy h0)
 clear h0
 go_enter Tryz.func87,Tryz.ntmps87
 go_wp2_with fail
 refine(DV.o _).mono ?_
 rintro e w' ⟨rfl,rfl⟩
 go_wp2_with fail
 go_ret2
 exact⟨rfl,rfl⟩
theorem aSt (k s x y:Int)(b off cap:Nat)(w:World)(hcap:2<=cap)(hx:-2147483648<=x/\x<=2147483647)(hy:-2147483648<=y/\y<=2147483647)(h0:y≠0)
  (c0:w.cell? ⟨b,off,none⟩=some (.int .i64 x)) (c1:w.cell? ⟨b,off+1,none⟩=some (.int .i64 y)) :
  Calls Tryz.prog 87 #[.int .i64 12,.int .i64 k,.int .i64 s,.slice (some ⟨b,off,none⟩) 2 cap] w fun e w'=>e=.returned (.tuple #[.int .i64 (ex 12 k s x y 0).1,.int .i64 (ex 12 k s x y 0).2])/\w'=w:=by
 have h1:(y==0)=false:=by simp[h0]
 have h2:=Int.mul_tdiv_add_tmod x y
 have h3:(x.tmod y).natAbs < y.natAbs:=by rw[Int.natAbs_tmod];exact Nat.mod_lt _ (by omega)
 rw[show ex 12 k s x y 0=(x.tmod y,0) by simp[ex,h0]]
 have DV:=aC (fun w=>sK x y w hx hy h0)
 generalize x.tmod y=r at *
 generalize x.tdiv y=q at *
 have h4:-4294967296<=y*q/\y*q<=4294967296:=⟨by omega,by omega⟩
 have H5:=aC (show x-y*q=r by omega)
 have h6:-4294967296<=r/\r<=4294967296:=⟨by omega,by omega⟩
 clear h0 h2 h3
 go_enter Tryz.func87,Tryz.ntmps87
 go_wp2_with fail
 refine(DV.o _).mono ?_
 rintro e w' ⟨rfl,rfl⟩
 go_wp2_with fail
 go_ret2
 exact⟨jK H5.o rfl,rfl⟩
theorem aL1 (k s x y:Int)(b off cap:Nat)(w:World)(hcap:2<=cap)(hx:-2147483648<=x/\x<=2147483647)(hy:-2147483648<=y/\y<=2147483647)(h0:y < 0)
  (c0:w.cell? ⟨b,off,none⟩=some (.int .i64 x)) (c1:w.cell? ⟨b,off+1,none⟩=some (.int .i64 y)) :
  Calls Tryz.prog 87 #[.int .i64 13,.int .i64 k,.int .i64 s,.slice (some ⟨b,off,none⟩) 2 cap] w fun e w'=>e=.returned (.tuple #[.int .i64 (ex 13 k s x y 0).1,.int .i64 (ex 13 k s x y 0).2])/\w'=w:=by
 rw[show ex 13 k s x y 0=(0,13) by simp[ex,fI (x:=y) (l:=0) (h:=31) (by omega)]]
 go_enter Tryz.func87,Tryz.ntmps87
 go_wp2_with fail
 go_ret2
 exact⟨rfl,rfl⟩
theorem aM9 (k s x y:Int)(b off cap:Nat)(w:World)(hcap:2<=cap)(hx:-2147483648<=x/\x<=2147483647)(hy:-2147483648<=y/\y<=2147483647)(h0:31 < y)
  (c0:w.cell? ⟨b,off,none⟩=some (.int .i64 x)) (c1:w.cell? ⟨b,off+1,none⟩=some (.int .i64 y)) :
  Calls Tryz.prog 87 #[.int .i64 13,.int .i64 k,.int .i64 s,.slice (some ⟨b,off,none⟩) 2 cap] w fun e w'=>e=.returned (.tuple #[.int .i64 (ex 13 k s x y 0).1,.int .i64 (ex 13 k s x y 0).2])/\w'=w:=by
 rw[show ex 13 k s x y 0=(0,13) by simp[ex,fI (x:=y) (l:=0) (h:=31) (by omega)]]
 go_enter Tryz.func87,Tryz.ntmps87
 go_wp2_with fail
 go_ret2
 exact⟨rfl,rfl⟩
theorem aK6 (k s x y:Int)(b off cap:Nat)(w:World)(hcap:2<=cap)(hx:-2147483648<=x/\x<=2147483647)(hy:-2147483648<=y/\y<=2147483647)(h0:y < 0)
  (c0:w.cell? ⟨b,off,none⟩=some (.int .i64 x)) (c1:w.cell? ⟨b,off+1,none⟩=some (.int .i64 y)) :
  Calls Tryz.prog 87 #[.int .i64 14,.int .i64 k,.int .i64 s,.slice (some ⟨b,off,none⟩) 2 cap] w fun e w'=>e=.returned (.tuple #[.int .i64 (ex 14 k s x y 0).1,.int .i64 (ex 14 k s x y 0).2])/\w'=w:=by
 rw[show ex 14 k s x y 0=(0,13) by simp[ex,fI (x:=y) (l:=0) (h:=31) (by omega)]]
 go_enter Tryz.func87,Tryz.ntmps87
 go_wp2_with fail
 go_ret2
 exact⟨rfl,rfl⟩
theorem aNc (k s x y:Int)(b off cap:Nat)(w:World)(hcap:2<=cap)(hx:-2147483648<=x/\x<=2147483647)(hy:-2147483648<=y/\y<=2147483647)(h0:31 < y)
  (c0:w.cell? ⟨b,off,none⟩=some (.int .i64 x)) (c1:w.cell? ⟨b,off+1,none⟩=some (.int .i64 y)) :
  Calls Tryz.prog 87 #[.int .i64 14,.int .i64 k,.int .i64 s,.slice (some ⟨b,off,none⟩) 2 cap] w fun e w'=>e=.returned (.tuple #[.int .i64 (ex 14 k s x y 0).1,.int .i64 (ex 14 k s x y 0).2])/\w'=w:=by
 rw[show ex 14 k s x y 0=(0,13) by simp[ex,fI (x:=y) (l:=0) (h:=31) (by omega)]]
 go_enter Tryz.func87,Tryz.ntmps87
 go_wp2_with fail
 go_ret2
 exact⟨rfl,rfl⟩
theorem aRg (k s x y:Int)(b off cap:Nat)(w:World)(hcap:2<=cap)(hx:-2147483648<=x/\x<=2147483647)(hy:-2147483648<=y/\y<=2147483647)(h0:0<=y/\y<=31)
  (c0:w.cell? ⟨b,off,none⟩=some (.int .i64 x)) (c1:w.cell? ⟨b,off+1,none⟩=some (.int .i64 y)) :
  Calls Tryz.prog 87 #[.int .i64 13,.int .i64 k,.int .i64 s,.slice (some ⟨b,off,none⟩) 2 cap] w fun e w'=>e=.returned (.tuple #[.int .i64 (ex 13 k s x y 0).1,.int .i64 (ex 13 k s x y 0).2])/\w'=w:=by
 rw[show ex 13 k s x y 0=(x*2 ^ y.toNat,0) by simp[ex,kR h0.1 h0.2]]
 have hP:=gK y.toNat 31 (by omega)
 have hM:=nN (b:=2 ^ y.toNat) hx (by omega)
 have PW:=aC (fun w=>dM y w (by omega))
 go_enter Tryz.func87,Tryz.ntmps87
 go_wp2_with fail
 refine(PW.o _).mono ?_
 rintro e w' ⟨rfl,rfl⟩
 go_wp2_with fail
 go_ret2
 exact⟨rfl,rfl⟩
theorem aR5 (k s x y:Int)(b off cap:Nat)(w:World)(hcap:2<=cap)(hx:-2147483648<=x/\x<=2147483647)(hy:-2147483648<=y/\y<=2147483647)(h0:0<=y/\y<=31)
  (c0:w.cell? ⟨b,off,none⟩=some (.int .i64 x)) (c1:w.cell? ⟨b,off+1,none⟩=some (.int .i64 y)) :
  Calls Tryz.prog 87 #[.int .i64 14,.int .i64 k,.int .i64 s,.slice (some ⟨b,off,none⟩) 2 cap] w fun e w'=>e=.returned (.tuple #[.int .i64 (ex 14 k s x y 0).1,.int .i64 (ex 14 k s x y 0).2])/\w'=w:=by
 rw[show ex 14 k s x y 0=(x / 2 ^ y.toNat,0) by simp[ex,kR h0.1 h0.2]]
 have hP:=gK y.toNat 31 (by omega)
 have PW:=aC (fun w=>dM y w (by omega))
 have FL:=aC (fun w=>iZ x (2 ^ y.toNat) w (by omega) (by omega))
 go_enter Tryz.func87,Tryz.ntmps87
 go_wp2_with fail
 refine(PW.o _).mono ?_
 rintro e w' ⟨rfl,rfl⟩
 go_wp2_with fail
 refine(FL.o _).mono ?_
 rintro e w' ⟨rfl,rfl⟩
 go_wp2_with fail
 go_ret2
 exact⟨rfl,rfl⟩
theorem aSf (k s x y:Int)(b off cap:Nat)(w:World)(hcap:2<=cap)(hx:-2147483648<=x/\x<=2147483647)(hy:-2147483648<=y/\y<=2147483647) 
  (c0:w.cell? ⟨b,off,none⟩=some (.int .i64 x)) (c1:w.cell? ⟨b,off+1,none⟩=some (.int .i64 y)) :
  Calls Tryz.prog 87 #[.int .i64 15,.int .i64 k,.int .i64 s,.slice (some ⟨b,off,none⟩) 2 cap] w fun e w'=>e=.returned (.tuple #[.int .i64 (ex 15 k s x y 0).1,.int .i64 (ex 15 k s x y 0).2])/\w'=w:=by
 have BW:=aC (fun w=>jZ .and 15 x y w rfl hx hy)
 go_enter Tryz.func87,Tryz.ntmps87
 go_wp2_with fail
 refine(BW.o _).mono ?_
 rintro e w' ⟨rfl,rfl⟩
 go_wp2_with fail
 go_ret2
 exact⟨rfl,rfl⟩
theorem aRy (k s x y:Int)(b off cap:Nat)(w:World)(hcap:2<=cap)(hx:-2147483648<=x/\x<=2147483647)(hy:-2147483648<=y/\y<=2147483647) 
  (c0:w.cell? ⟨b,off,none⟩=some (.int .i64 x)) (c1:w.cell? ⟨b,off+1,none⟩=some (.int .i64 y)) :
  Calls Tryz.prog 87 #[.int .i64 16,.int .i64 k,.int .i64 s,.slice (some ⟨b,off,none⟩) 2 cap] w fun e w'=>e=.returned (.tuple #[.int .i64 (ex 16 k s x y 0).1,.int .i64 (ex 16 k s x y 0).2])/\w'=w:=by
 have BW:=aC (fun w=>jZ .or 16 x y w rfl hx hy)
 go_enter Tryz.func87,Tryz.ntmps87
 go_wp2_with fail
 refine(BW.o _).mono ?_
 rintro e w' ⟨rfl,rfl⟩
 go_wp2_with fail
 go_ret2
 exact⟨rfl,rfl⟩
theorem aRq (k s x y:Int)(b off cap:Nat)(w:World)(hcap:2<=cap)(hx:-2147483648<=x/\x<=2147483647)(hy:-2147483648<=y/\y<=2147483647) 
  (c0:w.cell? ⟨b,off,none⟩=some (.int .i64 x)) (c1:w.cell? ⟨b,off+1,none⟩=some (.int .i64 y)) :
  Calls Tryz.prog 87 #[.int .i64 17,.int .i64 k,.int .i64 s,.slice (some ⟨b,off,none⟩) 2 cap] w fun e w'=>e=.returned (.tuple #[.int .i64 (ex 17 k s x y 0).1,.int .i64 (ex 17 k s x y 0).2])/\w'=w:=by
 have BW:=aC (fun w=>jZ .xor 17 x y w rfl hx hy)
 go_enter Tryz.func87,Tryz.ntmps87
 go_wp2_with fail
 refine(BW.o _).mono ?_
 rintro e w' ⟨rfl,rfl⟩
 go_wp2_with fail
 go_ret2
 exact⟨rfl,rfl⟩
theorem aR7 (k s x y:Int)(b off cap:Nat)(w:World)(hcap:2<=cap)  
  (c0:w.cell? ⟨b,off,none⟩=some (.int .i64 x)) (c1:w.cell? ⟨b,off+1,none⟩=some (.int .i64 y)) :
  Calls Tryz.prog 87 #[.int .i64 18,.int .i64 k,.int .i64 s,.slice (some ⟨b,off,none⟩) 2 cap] w fun e w'=>e=.returned (.tuple #[.int .i64 (ex 18 k s x y 0).1,.int .i64 (ex 18 k s x y 0).2])/\w'=w:=by
 have CH:=aC (fun w=>dL 18 k s x y 0 w rfl)
 go_enter Tryz.func87,Tryz.ntmps87
 go_wp2_with fail
 refine(CH.o _).mono ?_
 rintro e w' ⟨rfl,rfl⟩
 go_wp2_with fail
 go_ret2
 exact⟨rfl,rfl⟩
theorem aR9 (k s x y:Int)(b off cap:Nat)(w:World)(hcap:2<=cap)  
  (c0:w.cell? ⟨b,off,none⟩=some (.int .i64 x)) (c1:w.cell? ⟨b,off+1,none⟩=some (.int .i64 y)) :
  Calls Tryz.prog 87 #[.int .i64 19,.int .i64 k,.int .i64 s,.slice (some ⟨b,off,none⟩) 2 cap] w fun e w'=>e=.returned (.tuple #[.int .i64 (ex 19 k s x y 0).1,.int .i64 (ex 19 k s x y 0).2])/\w'=w:=by
 have CH:=aC (fun w=>dL 19 k s x y 0 w rfl)
 go_enter Tryz.func87,Tryz.ntmps87
 go_wp2_with fail
 refine(CH.o _).mono ?_
 rintro e w' ⟨rfl,rfl⟩
 go_wp2_with fail
 go_ret2
 exact⟨rfl,rfl⟩
theorem aSu (k s x y:Int)(b off cap:Nat)(w:World)(hcap:2<=cap)  
  (c0:w.cell? ⟨b,off,none⟩=some (.int .i64 x)) (c1:w.cell? ⟨b,off+1,none⟩=some (.int .i64 y)) :
  Calls Tryz.prog 87 #[.int .i64 20,.int .i64 k,.int .i64 s,.slice (some ⟨b,off,none⟩) 2 cap] w fun e w'=>e=.returned (.tuple #[.int .i64 (ex 20 k s x y 0).1,.int .i64 (ex 20 k s x y 0).2])/\w'=w:=by
 have CH:=aC (fun w=>dL 20 k s x y 0 w rfl)
 go_enter Tryz.func87,Tryz.ntmps87
 go_wp2_with fail
 refine(CH.o _).mono ?_
 rintro e w' ⟨rfl,rfl⟩
 go_wp2_with fail
 go_ret2
 exact⟨rfl,rfl⟩
theorem aR6 (k s x y:Int)(b off cap:Nat)(w:World)(hcap:2<=cap)  
  (c0:w.cell? ⟨b,off,none⟩=some (.int .i64 x)) (c1:w.cell? ⟨b,off+1,none⟩=some (.int .i64 y)) :
  Calls Tryz.prog 87 #[.int .i64 21,.int .i64 k,.int .i64 s,.slice (some ⟨b,off,none⟩) 2 cap] w fun e w'=>e=.returned (.tuple #[.int .i64 (ex 21 k s x y 0).1,.int .i64 (ex 21 k s x y 0).2])/\w'=w:=by
 have CH:=aC (fun w=>dL 21 k s x y 0 w rfl)
 go_enter Tryz.func87,Tryz.ntmps87
 go_wp2_with fail
 refine(CH.o _).mono ?_
 rintro e w' ⟨rfl,rfl⟩
 go_wp2_with fail
 go_ret2
 exact⟨rfl,rfl⟩
theorem aSc (k s x y:Int)(b off cap:Nat)(w:World)(hcap:2<=cap)  
  (c0:w.cell? ⟨b,off,none⟩=some (.int .i64 x)) (c1:w.cell? ⟨b,off+1,none⟩=some (.int .i64 y)) :
  Calls Tryz.prog 87 #[.int .i64 22,.int .i64 k,.int .i64 s,.slice (some ⟨b,off,none⟩) 2 cap] w fun e w'=>e=.returned (.tuple #[.int .i64 (ex 22 k s x y 0).1,.int .i64 (ex 22 k s x y 0).2])/\w'=w:=by
 have CH:=aC (fun w=>dL 22 k s x y 0 w rfl)
 go_enter Tryz.func87,Tryz.ntmps87
 go_wp2_with fail
 refine(CH.o _).mono ?_
 rintro e w' ⟨rfl,rfl⟩
 go_wp2_with fail
 go_ret2
 exact⟨rfl,rfl⟩
theorem aRu (k s x y:Int)(b off cap:Nat)(w:World)(hcap:2<=cap)  
  (c0:w.cell? ⟨b,off,none⟩=some (.int .i64 x)) (c1:w.cell? ⟨b,off+1,none⟩=some (.int .i64 y)) :
  Calls Tryz.prog 87 #[.int .i64 23,.int .i64 k,.int .i64 s,.slice (some ⟨b,off,none⟩) 2 cap] w fun e w'=>e=.returned (.tuple #[.int .i64 (ex 23 k s x y 0).1,.int .i64 (ex 23 k s x y 0).2])/\w'=w:=by
 have CH:=aC (fun w=>dL 23 k s x y 0 w rfl)
 go_enter Tryz.func87,Tryz.ntmps87
 go_wp2_with fail
 refine(CH.o _).mono ?_
 rintro e w' ⟨rfl,rfl⟩
 go_wp2_with fail
 go_ret2
 exact⟨rfl,rfl⟩
theorem aRp (k s x y:Int)(b off cap:Nat)(w:World)(hcap:2<=cap)  
  (c0:w.cell? ⟨b,off,none⟩=some (.int .i64 x)) (c1:w.cell? ⟨b,off+1,none⟩=some (.int .i64 y)) :
  Calls Tryz.prog 87 #[.int .i64 24,.int .i64 k,.int .i64 s,.slice (some ⟨b,off,none⟩) 2 cap] w fun e w'=>e=.returned (.tuple #[.int .i64 (ex 24 k s x y 0).1,.int .i64 (ex 24 k s x y 0).2])/\w'=w:=by
 have CH:=aC (fun w=>dL 24 k s x y 0 w rfl)
 go_enter Tryz.func87,Tryz.ntmps87
 go_wp2_with fail
 refine(CH.o _).mono ?_
 rintro e w' ⟨rfl,rfl⟩
 go_wp2_with fail
 go_ret2
 exact⟨rfl,rfl⟩
theorem aSa (k s x y:Int)(b off cap:Nat)(w:World)(hcap:2<=cap)  
  (c0:w.cell? ⟨b,off,none⟩=some (.int .i64 x)) (c1:w.cell? ⟨b,off+1,none⟩=some (.int .i64 y)) :
  Calls Tryz.prog 87 #[.int .i64 25,.int .i64 k,.int .i64 s,.slice (some ⟨b,off,none⟩) 2 cap] w fun e w'=>e=.returned (.tuple #[.int .i64 (ex 25 k s x y 0).1,.int .i64 (ex 25 k s x y 0).2])/\w'=w:=by
 have CH:=aC (fun w=>dL 25 k s x y 0 w rfl)
 go_enter Tryz.func87,Tryz.ntmps87
 go_wp2_with fail
 refine(CH.o _).mono ?_
 rintro e w' ⟨rfl,rfl⟩
 go_wp2_with fail
 go_ret2
 exact⟨rfl,rfl⟩
theorem aQr (k s x y z:Int)(b off cap:Nat)(w:World)(hcap:3<=cap)  
  (c0:w.cell? ⟨b,off,none⟩=some (.int .i64 x)) (c1:w.cell? ⟨b,off+1,none⟩=some (.int .i64 y)) (c2:w.cell? ⟨b,off+2,none⟩=some (.int .i64 z)) :
  Calls Tryz.prog 87 #[.int .i64 26,.int .i64 k,.int .i64 s,.slice (some ⟨b,off,none⟩) 3 cap] w fun e w'=>e=.returned (.tuple #[.int .i64 (ex 26 k s x y z).1,.int .i64 (ex 26 k s x y z).2])/\w'=w:=by
 have CH:=aC (fun w=>dL 26 k s x y z w rfl)
 go_enter Tryz.func87,Tryz.ntmps87
 go_wp2_with fail
 refine(CH.o _).mono ?_
 rintro e w' ⟨rfl,rfl⟩
 go_wp2_with fail
 go_ret2
 exact⟨rfl,rfl⟩
theorem aSl (k s x y z:Int)(b off cap:Nat)(w:World)(hcap:3<=cap)  
  (c0:w.cell? ⟨b,off,none⟩=some (.int .i64 x)) (c1:w.cell? ⟨b,off+1,none⟩=some (.int .i64 y)) (c2:w.cell? ⟨b,off+2,none⟩=some (.int .i64 z)) :
  Calls Tryz.prog 87 #[.int .i64 27,.int .i64 k,.int .i64 s,.slice (some ⟨b,off,none⟩) 3 cap] w fun e w'=>e=.returned (.tuple #[.int .i64 (ex 27 k s x y z).1,.int .i64 (ex 27 k s x y z).2])/\w'=w:=by
 have CH:=aC (fun w=>dL 27 k s x y z w rfl)
 go_enter Tryz.func87,Tryz.ntmps87
 go_wp2_with fail
 refine(CH.o _).mono ?_
 rintro e w' ⟨rfl,rfl⟩
 go_wp2_with fail
 go_ret2
 exact⟨rfl,rfl⟩
theorem aQ4 (k s x y z:Int)(b off cap:Nat)(w:World)(hcap:3<=cap)  
  (c0:w.cell? ⟨b,off,none⟩=some (.int .i64 x)) (c1:w.cell? ⟨b,off+1,none⟩=some (.int .i64 y)) (c2:w.cell? ⟨b,off+2,none⟩=some (.int .i64 z)) :
  Calls Tryz.prog 87 #[.int .i64 28,.int .i64 k,.int .i64 s,.slice (some ⟨b,off,none⟩) 3 cap] w fun e w'=>e=.returned (.tuple #[.int .i64 (ex 28 k s x y z).1,.int .i64 (ex 28 k s x y z).2])/\w'=w:=by
 have CH:=aC (fun w=>dL 28 k s x y z w rfl)
 go_enter Tryz.func87,Tryz.ntmps87
 go_wp2_with fail
 refine(CH.o _).mono ?_
 rintro e w' ⟨rfl,rfl⟩
 go_wp2_with fail
 go_ret2
 exact⟨rfl,rfl⟩
theorem aMo (op k s x:Int)(b off cap:Nat)(w:World)(hcap:1<=cap)(ho:ar op=1)(hk:cons op k s=true)(hx:-2147483648<=x/\x<=2147483647)
  (c0:w.cell? ⟨b,off,none⟩=some (.int .i64 x)) :
  Calls Tryz.prog 87 #[.int .i64 op,.int .i64 k,.int .i64 s,.slice (some ⟨b,off,none⟩) 1 cap] w fun e w'=>e=.returned (.tuple #[.int .i64 (ex op k s x 0 0).1,.int .i64 (ex op k s x 0 0).2])/\w'=w:=by
 rcases mG ho with rfl|rfl|rfl|rfl|rfl|rfl|rfl|rfl
 ·exact aSx k s x b off cap w hcap hx c0
 ·exact aS3 k s x b off cap w hcap hx c0
 ·exact aSz k s x b off cap w hcap hx c0
 ·exact aQt k s x b off cap w hcap hx (aP.1 hk) c0
 ·exact aSr k s x b off cap w hcap hx (aP.1 hk) c0
 ·exact aQ3 k s x b off cap w hcap hx (aP.1 hk) c0
 ·exact aSn k s x b off cap w hcap hx (bE.1 hk) c0
 ·have hk:(dW k 1 4611686018427387904&&dW s 0 62)=true:=hk
  rw[Bool.and_eq_true,aP,aP] at hk
  by_cases h0:x=0
  ·exact aPd k s x b off cap w hcap hx hk.1 hk.2 h0 c0
  ·by_cases hb:4611686018427387904 < max x (-x)*k
   ·exact aO6 k s x b off cap w hcap hx hk.1 hk.2 h0 hb c0
   ·exact aQd k s x b off cap w hcap hx hk.1 hk.2 h0 hb c0
theorem aMe (op k s x y:Int)(b off cap:Nat)(w:World)(hcap:2<=cap)(ho:ar op=2)(hx:-2147483648<=x/\x<=2147483647)(hy:-2147483648<=y/\y<=2147483647)
  (c0:w.cell? ⟨b,off,none⟩=some (.int .i64 x)) (c1:w.cell? ⟨b,off+1,none⟩=some (.int .i64 y)) :
  Calls Tryz.prog 87 #[.int .i64 op,.int .i64 k,.int .i64 s,.slice (some ⟨b,off,none⟩) 2 cap] w fun e w'=>e=.returned (.tuple #[.int .i64 (ex op k s x y 0).1,.int .i64 (ex op k s x y 0).2])/\w'=w:=by
 have h:=aP.1 (kC ho)
 clear ho
 rcases(show op=8\/op=9\/op=10\/op=11\/op=12\/op=13\/op=14\/op=15\/op=16\/op=17\/op=18\/op=19\/op=20\/op=21\/op=22\/op=23\/op=24\/op=25 by omega) with
  rfl|rfl|rfl|rfl|rfl|rfl|rfl|rfl|rfl|rfl|rfl|rfl|rfl|rfl|rfl|rfl|rfl|rfl
 ·exact aSy k s x y b off cap w hcap hx hy c0 c1
 ·exact aS7 k s x y b off cap w hcap hx hy c0 c1
 ·exact aRb k s x y b off cap w hcap hx hy c0 c1
 ·by_cases h0:y=0
  ·exact aOo k s x y b off cap w hcap hx hy h0 c0 c1
  ·exact aR3 k s x y b off cap w hcap hx hy h0 c0 c1
 ·by_cases h0:y=0
  ·exact aPs k s x y b off cap w hcap hx hy h0 c0 c1
  ·exact aSt k s x y b off cap w hcap hx hy h0 c0 c1
 ·rcases(show y < 0\/31 < y\/(0<=y/\y<=31) by omega) with h0|h0|h0
  ·exact aL1 k s x y b off cap w hcap hx hy h0 c0 c1
  ·exact aM9 k s x y b off cap w hcap hx hy h0 c0 c1
  ·exact aRg k s x y b off cap w hcap hx hy h0 c0 c1
 ·rcases(show y < 0\/31 < y\/(0<=y/\y<=31) by omega) with h0|h0|h0
  ·exact aK6 k s x y b off cap w hcap hx hy h0 c0 c1
  ·exact aNc k s x y b off cap w hcap hx hy h0 c0 c1
  ·exact aR5 k s x y b off cap w hcap hx hy h0 c0 c1
 ·exact aSf k s x y b off cap w hcap hx hy c0 c1
 ·exact aRy k s x y b off cap w hcap hx hy c0 c1
 ·exact aRq k s x y b off cap w hcap hx hy c0 c1
 ·exact aR7 k s x y b off cap w hcap c0 c1
 ·exact aR9 k s x y b off cap w hcap c0 c1
 ·exact aSu k s x y b off cap w hcap c0 c1
 ·exact aR6 k s x y b off cap w hcap c0 c1
 ·exact aSc k s x y b off cap w hcap c0 c1
 ·exact aRu k s x y b off cap w hcap c0 c1
 ·exact aRp k s x y b off cap w hcap c0 c1
 ·exact aSa k s x y b off cap w hcap c0 c1
theorem aM1 (op k s x y z:Int)(b off cap:Nat)(w:World)(hcap:3<=cap)(ho:ar op=3)
  (c0:w.cell? ⟨b,off,none⟩=some (.int .i64 x)) (c1:w.cell? ⟨b,off+1,none⟩=some (.int .i64 y)) (c2:w.cell? ⟨b,off+2,none⟩=some (.int .i64 z)) :
  Calls Tryz.prog 87 #[.int .i64 op,.int .i64 k,.int .i64 s,.slice (some ⟨b,off,none⟩) 3 cap] w fun e w'=>e=.returned (.tuple #[.int .i64 (ex op k s x y z).1,.int .i64 (ex op k s x y z).2])/\w'=w:=by
 have h:=aP.1 (iB ho)
 clear ho
 rcases(show op=26\/op=27\/op=28 by omega) with rfl|rfl|rfl
 ·exact aQr k s x y z b off cap w hcap c0 c1 c2
 ·exact aSl k s x y z b off cap w hcap c0 c1 c2
 ·exact aQ4 k s x y z b off cap w hcap c0 c1 c2
theorem aF3 (op k s:Int)(a:Option Addr)(n cap:Nat)(xs:List Int)(w:World)(h:Ints w a n cap xs)(hm:fG op k s xs=true) :
  Calls Tryz.prog 87 #[.int .i64 op,.int .i64 k,.int .i64 s,.slice a n cap] w fun e w' =>
   e=.returned (.tuple #[.int .i64 (ex op k s (xs.getD 0 0) (xs.getD 1 0) (xs.getD 2 0)).1,.int .i64 (ex op k s (xs.getD 0 0) (xs.getD 1 0) (xs.getD 2 0)).2])/\w'=w:=by
 simp only[fG,Bool.and_eq_true,decide_eq_true_eq,List.all_eq_true] at hm
 obtain⟨⟨⟨m1,m2⟩,m3⟩,m4⟩:=hm
 have hl:=h.len
 have h3:=wT op
 have hle:=h.le
 obtain⟨b,off,rfl,-,hc⟩:=h.at (by omega)
 have hw:∀ x ∈ xs,-2147483648<=x/\x<=2147483647:=fun x hx=>bE.1 (m4 x hx)
 match xs,hl,m2,hc,hw with
 | [x],hl,m2,hc,hw =>
  subst hl
  exact aMo op k s x b off cap w hle (by simpa using m2.symm) m3 (hw x (by simp)) (hc 0 (by simp))
 | [x,y],hl,m2,hc,hw =>
  subst hl
  exact aMe op k s x y b off cap w hle (by simpa using m2.symm) (hw x (by simp)) (hw y (by simp)) (hc 0 (by simp)) (hc 1 (by simp))
 | [x,y,z],hl,m2,hc,hw =>
  subst hl
  exact aM1 op k s x y z b off cap w hle (by simpa using m2.symm) (hc 0 (by simp)) (hc 1 (by simp)) (hc 2 (by simp))
 | [],hl,m2,hc,hw=>simp at m2;omega
 | _::_::_::_::_,hl,m2,hc,hw=>simp at m2;omega
def fin (E:Int × Int):Int × Int:=if E.2=0 then(if wd E.1=true then(E.1,0) else(0,13)) else(0,E.2)
theorem aNb {op k s:Int}{xs:List Int}(h:fG op k s xs=true):aR op k s xs=fin (ex op k s (xs.getD 0 0) (xs.getD 1 0) (xs.getD 2 0)):=by
 unfold aR fin
 rw[if_pos h]
theorem aA6 (op k s:Int)(a:Option Addr)(n cap:Nat)(xs:List Int)(w:World)(h:Ints w a n cap xs)(hm:¬(1<=ar op/\(n:Int)=ar op/\cons op k s=true)) :
  Calls Tryz.prog 56 #[.int .i64 op,.int .i64 k,.int .i64 s,.slice a n cap] w fun e w'=>e=.returned (.tuple #[.int .i64 0,.int .i64 1])/\w'=w:=by
 clear h
 by_cases h1:ar op < 1
 ·go_enter Tryz.func56,Tryz.ntmps56
  go_wp2_with fail
  refine(bZ _ _).mono ?_
  rintro e w' ⟨rfl,rfl⟩
  go_wp2_with fail
  go_ret2
  exact⟨rfl,rfl⟩
 ·by_cases h2:(n:Int)=ar op
  ·have h3:cons op k s=false:=by
    cases h:cons op k s
    ·rfl
    ·exact absurd ⟨by omega,h2,h⟩ hm
   have h2':((n:Int) != ar op)=false:=by simp[h2]
   clear hm h2
   go_enter Tryz.func56,Tryz.ntmps56
   go_wp2_with fail
   refine(bZ _ _).mono ?_
   rintro e w' ⟨rfl,rfl⟩
   go_wp2_with fail
   refine(bZ _ _).mono ?_
   rintro e w' ⟨rfl,rfl⟩
   go_wp2_with fail
   refine(dR _ _ _ _).mono ?_
   rintro e w' ⟨rfl,rfl⟩
   go_wp2_with fail
   go_ret2
   exact⟨rfl,rfl⟩
  ·have h2':((n:Int) != ar op)=true:=by simp[h2]
   clear hm h2
   go_enter Tryz.func56,Tryz.ntmps56
   go_wp2_with fail
   refine(bZ _ _).mono ?_
   rintro e w' ⟨rfl,rfl⟩
   go_wp2_with fail
   refine(bZ _ _).mono ?_
   rintro e w' ⟨rfl,rfl⟩
   go_wp2_with fail
   go_ret2
   exact⟨rfl,rfl⟩
theorem dF (op k s:Int)(a:Option Addr)(n cap:Nat)(xs:List Int)(w:World)(h:Ints w a n cap xs) :
  Calls Tryz.prog 56 #[.int .i64 op,.int .i64 k,.int .i64 s,.slice a n cap] w fun e w'=>e=.returned (.tuple #[.int .i64 (aR op k s xs).1,.int .i64 (aR op k s xs).2])/\w'=w:=by
 have hl:=h.len
 by_cases hm:1<=ar op/\(n:Int)=ar op/\cons op k s=true
 ·obtain⟨m1,m2,m3⟩:=hm
  have hmb:fG op k s xs=xs.all wd:=by simp[fG,m1,m3,hl,m2]
  have h2':((n:Int) != ar op)=false:=by simp[m2]
  have h1:¬ar op < 1:=by omega
  have hm1:n<=9223372036854775807:=by have:=h.le;have:=h.max;unfold maxLen at this;omega
  have H:=aC h
  have HL:=aC hl
  have HMB:=aC hmb
  clear hl hmb h m1 m2
  go_enter Tryz.func56,Tryz.ntmps56
  go_wp2_with fail
  refine(bZ _ _).mono ?_
  rintro e w' ⟨rfl,rfl⟩
  go_wp2_with fail
  refine(bZ _ _).mono ?_
  rintro e w' ⟨rfl,rfl⟩
  go_wp2_with fail
  refine(dR _ _ _ _).mono ?_
  rintro e w' ⟨rfl,rfl⟩
  go_wp2_with fail
  go_loop [10] (fun i=>∃ j:Nat,j<=n/\i=.int .i64 j/\(xs.take j).all wd=true) (fun i=>n-(intOf i).toNat)
  case atStart=>exact⟨0,Nat.zero_le _,rfl,rfl⟩
  case round =>
   obtain⟨j,hj,rfl,hA⟩:=hrel
   have HA:=aC hA
   clear hA
   by_cases hlt:j < n
   ·obtain⟨b1,o1,rfl,_,hc1⟩:=H.o.at (by omega)
    have g1:=hc1 j hlt
    clear hc1
    generalize ea:xs.getD j 0=x at g1
    have EA:=aC ea
    clear ea
    cases hx:wd x
    ·have HV:Hid (aR op k s xs=(0,1)):=by
      unfold Hid aR
      rw[if_neg]
      rw[HMB.o]
      simp only[Bool.not_eq_true,List.all_eq_false]
      refine⟨x,?_,by simp[hx]⟩
      have e1:=EA.o
      rw[<-e1]
      simp[List.getD,HL.o,hlt]
     go_wp2_with fail
     refine(gI _ _).mono ?_
     rintro e w' ⟨rfl,rfl⟩
     go_wp2_with fail
     go_ret2
     exact⟨jK (show (0:Int)=(aR op k s xs).1 by rw[HV.o]) (show (1:Int)=(aR op k s xs).2 by rw[HV.o]),rfl⟩
    ·go_wp2_with fail
     refine(gI _ _).mono ?_
     rintro e w' ⟨rfl,rfl⟩
     go_wp2_with fail
     go_round
     case rel=>exact⟨j+1,by omega,by go_num,pE (by rw[HL.o];exact hlt) HA.o (by rw[EA.o];exact hx)⟩
     case measure=>simp[intOf];omega
   ·have hall:fG op k s xs=true:=by
     rw[HMB.o]
     have h3:=HA.o
     rw[List.take_of_length_le (by rw[HL.o];omega)] at h3
     exact h3
    have PL:=aC (aF3 op k s a n cap xs _ H.o hall)
    have HV:=aC (aNb hall)
    generalize ex op k s (xs.getD 0 0) (xs.getD 1 0) (xs.getD 2 0)=E at *
    obtain⟨x,e⟩:=E
    clear hall
    by_cases he:e=0
    ·subst he
     cases hx:wd x
     ·have HV2:Hid (aR op k s xs=(0,13)):=aC (by rw[HV.o];simp[fin,hx])
      go_wp2_with fail
      refine PL.o.mono ?_
      rintro e w' ⟨rfl,rfl⟩
      go_wp2_with fail
      refine(gI _ _).mono ?_
      rintro e w' ⟨rfl,rfl⟩
      go_wp2_with fail
      go_ret2
      exact⟨jK (show (0:Int)=(aR op k s xs).1 by rw[HV2.o]) (show (13:Int)=(aR op k s xs).2 by rw[HV2.o]),rfl⟩
     ·have HV2:Hid (aR op k s xs=(x,0)):=aC (by rw[HV.o];simp[fin,hx])
      go_wp2_with fail
      refine PL.o.mono ?_
      rintro e w' ⟨rfl,rfl⟩
      go_wp2_with fail
      refine(gI _ _).mono ?_
      rintro e w' ⟨rfl,rfl⟩
      go_wp2_with fail
      go_ret2
      exact⟨jK (show (x:Int)=(aR op k s xs).1 by rw[HV2.o]) (show (0:Int)=(aR op k s xs).2 by rw[HV2.o]),rfl⟩
    ·have HV2:Hid (aR op k s xs=(0,e)):=aC (by rw[HV.o];simp[fin,he])
     have he':(e != 0)=true:=by simp[he]
     clear he
     go_wp2_with fail
     refine PL.o.mono ?_
     rintro r w' ⟨rfl,rfl⟩
     go_wp2_with fail
     go_ret2
     exact⟨jK (show (0:Int)=(aR op k s xs).1 by rw[HV2.o]) (show (e:Int)=(aR op k s xs).2 by rw[HV2.o]),rfl⟩
 ·have hv:aR op k s xs=(0,1):=by
   unfold aR
   rw[if_neg]
   intro hb
   simp only[fG,Bool.and_eq_true,decide_eq_true_eq] at hb
   exact hm ⟨hb.1.1.1,by rw[<-hl];exact hb.1.1.2,hb.1.2⟩
  rw[hv]
  exact aA6 op k s a n cap xs w h hm
end Go.Proofs.Spn

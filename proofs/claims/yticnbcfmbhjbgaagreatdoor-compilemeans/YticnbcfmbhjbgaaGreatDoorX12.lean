import Derived.Test.YticnbcfmbhjbgaaGreatDoorX11
set_option maxRecDepth 100000
set_option maxHeartbeats 32000000
set_option linter.unusedVariables false
namespace Go.Proofs.YticnbcfmbhjbgaaGreatDoor
open Lx Pz
theorem xD {bd:Nat}{n:Nd}(h:Gd bd (.leaf n)) :
  n.a=0/\n.b=0/\n.c=0/\((n.op=3/\n.k=0/\(n.co=2\/(n.co=1/\n.y=0))/\0<=n.back/\n.back<=2147483647/\-2147483647<=n.x/\n.x<=2147483647/\-2147483647<=n.y/\n.y<=2147483647) \/
   (n.back=0/\n.co=0/\n.x=0/\n.y=0/\((n.op=1/\0<=n.k/\n.k<=2147483647)\/(n.op=2/\0<=n.k/\n.k<=5)\/(n.op=4/\0<=n.k/\n.k < bd)))):=by
 obtain⟨h1,h2,h3,h4,h5⟩:=h
 refine⟨h1,h2,h3,?_⟩
 obtain⟨op,a,b,c,k,back,co,x,y⟩:=n
 simp only at *
 have hop:op=1\/op=2\/op=3\/op=4:=by
  unfold gM lW at h4
  split at h4
  ·omega
  ·split at h4
   ·omega
   ·split at h4
    ·omega
    ·repeat' split at h4
     all_goals omega
 rcases hop with rfl|rfl|rfl|rfl
 ·right
  simp[kC,rR,bW,jC,MX] at h5
  omega
 ·right
  simp[kC,rR,bW,jC] at h5
  omega
 ·left
  simp[kC,zM,bW,MX] at h5
  omega
 ·right
  simp[kC,rR,bW,jC] at h5
  omega
theorem aPx {o:Int}(h:gM o=1):o=5\/o=6\/o=7:=by
 unfold gM lW at h
 repeat' split at h
 all_goals omega
theorem aPy {o:Int}(h:gM o=2):8<=o/\o<=25:=by
 unfold gM lW at h
 repeat' split at h
 all_goals omega
theorem aFt {o:Int}(h:gM o=3):o=26\/o=27\/o=28:=by
 unfold gM lW at h
 repeat' split at h
 all_goals omega
end Go.Proofs.YticnbcfmbhjbgaaGreatDoor

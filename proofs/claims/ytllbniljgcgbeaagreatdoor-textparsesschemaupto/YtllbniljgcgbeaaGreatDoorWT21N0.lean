import Derived.Test.YtllbniljgcgbeaaGreatDoorA4
import Derived.Test.YtllbniljgcgbeaaGreatDoorA1
namespace Go.Proofs.YtllbniljgcgbeaaGreatDoor
open Go.RowKit
theorem dc.told{w w':World}{R:Nat}{S:ByteArray}{y:Tx.R (Ty×Tx.Bs)}{r:Ending}(h:dc w R S y r w'):∃k p n c,r=.returned (.agg #[.int .i64 k,.slice p n c])∧aW w' R S y∧Aside (fun k=>k=R) w w'∧∀x l,y=.ok (x,l)->∃F:Nat->Prop,aT w' F #[.int .i64 k,.slice p n c] x∧∀i,F i->w.1.size<=i∧i<w'.1.size:=by
 obtain⟨h1,h2⟩:=h
 match y,h2 with
 |.error (e,m),⟨k,p,n,c,hr,hb⟩=>exact⟨k,p,n,c,hr,hb,h1,fun x l hc=>by cases hc⟩
 |.ok (t,l),⟨k,p,n,c,F,hr,ho,hF,hd⟩=>exact⟨k,p,n,c,hr,hd,h1,fun x l' hc=>by cases hc;exact⟨F,ho,hF⟩⟩
theorem oI{α:Type}(S:ByteArray)(y:Tx.R (α×Tx.Bs))(er:α->Nat):aA S y er=match fa y with
 |.error (k,n)=>.error (k,S.size-n)
 |.ok x=>if er x=0 then .ok x else .error (er x,0):=by
 match y with
 |.error (k,n)=>rfl
 |.ok (x,r)=>
  by_cases h:r=[]
  ·subst h;rfl
  ·have e:fa (.ok (x,r):Tx.R (α×Tx.Bs))=.error (5,r.length):=if_neg h
   rw[e]
   exact if_neg h
theorem an.made{w:World}{S:ByteArray}(hS:S.size<=140737488351232):an (w.alloc (.cells #[.string S,.int .i64 0,.int .i64 0,.int .i64 0] 61)) w.1.size S S.data.toList:=by
 have e:S.size-S.data.toList.length=0:=by rw[Array.length_toList];show S.data.size-S.data.size=0;omega
 refine⟨?_,?_,?_,hS⟩
 ·rw[e];exact aj w _
 ·rw[e];rfl
 ·rw[Array.length_toList];exact tX
end Go.Proofs.YtllbniljgcgbeaaGreatDoor

import Derived.Test.YtllbniljgcgbeaaGreatDoorA1
namespace Go.Proofs.YtllbniljgcgbeaaGreatDoor
def NZ{α:Type}(y:Tx.R α):Prop:=∀k n,y=.error (k,n)->k≠0
theorem NZ.ok{α:Type}{x:α}:NZ (.ok x:Tx.R α):=fun k n h=>by cases h
theorem NZ.err{α:Type}{k n:Nat}(h:k≠0):NZ (.error (k,n):Tx.R α):=fun k' n' e=>by
 injection e with e
 injection e with e1 e2
 omega
theorem NZ.same{α β:Type}{y:Tx.R α}{e:Nat×Nat}(h:NZ y)(he:y=.error e):NZ (.error e:Tx.R β):=by
 obtain⟨k,n⟩:=e
 exact NZ.err (h k n he)
theorem NZ.m{y:Tx.R Tx.Bs}{β:Type}{g:Tx.Bs->Tx.R β}(h:NZ y)(hg:∀r,y=.ok r->NZ (g r)):NZ (az y g):=by
 match y,h,hg with
 |.ok r,_,hg=>exact hg r rfl
 |.error (k,n),h,_=>exact NZ.err (h k n rfl)
theorem NZ.p{α β:Type}{y:Tx.R (α×Tx.Bs)}{g:α->Tx.Bs->Tx.R β}(h:NZ y)(hg:∀x r,y=.ok (x,r)->NZ (g x r)):NZ (aB y g):=by
 match y,h,hg with
 |.ok (x,r),_,hg=>exact hg x r rfl
 |.error (k,n),h,_=>exact NZ.err (h k n rfl)
section
variable {rf:Tx.Bs->Option Nat} (hF:bP rf)
include hF
theorem lO(f:Nat)(l:Tx.Bs)(x:V)(r:Tx.Bs)(h:Tx.pval rf f l=.ok (x,r)):r.length<=l.length:=by
 have g:=(Tx.pval_fore (cQ hF) f l x r h).text
 rw[g,List.length_append]
 omega
theorem lQ(l:Tx.Bs)(x:Col)(r:Tx.Bs)(h:Tx.pcol rf l=.ok (x,r)):r.length<=l.length:=by
 have g:=(Tx.pcol_fore (cQ hF) h).1
 rw[g,List.length_append]
 omega
end
end Go.Proofs.YtllbniljgcgbeaaGreatDoor

import Derived.Test.YtceomhodhmcknaaGreatDoorB07
namespace Go.Proofs.YtceomhodhmcknaaGreatDoor
variable{B a n z:Nat}{W W' w w2:World}{l:L8}{v:Value}{q:OA}
section
open Go.RowKit
end
section
open Go.RowKit
end
section
def oS(m:Nat)(xs:L8)(n:Nat):Prop:=xs.length<=8∧n<18446744073709551616∧Sch.le 8 m=xs++Sch.le (8-xs.length) n
theorem nJ{m:Nat}{xs:L8}(h:oS m xs n)(h8:xs.length<8):oS m (xs++[UInt8.ofNat (n % 256)]) (n / 256):=by
 obtain⟨h1,h2,h3⟩:=h
 refine⟨by rw[List.length_append,List.length_singleton];omega,by omega,?_⟩
 rw[h3,List.append_assoc,List.length_append,List.length_singleton,show 8-xs.length=(8-(xs.length+1))+1 by omega,Sch.le]
 rfl
end
section
open Go.RowKit
end
section
open Go.RowKit
attribute [local go_sem] af
structure Apart(a z:Nat)(w2 W:World)(v:Value):Prop where
 own:∀k,v.ownBlock=some k->k<a∨z<=k
 keep:∀k,a<=k->k<z->W.1[k]?=w2.1[k]?
 size:z<=W.1.size
theorem Apart.step{v':Value}(h:Apart a z w2 W v)(ha:Aside (fun k=>v.ownBlock=some k) W W')(hb:∀k,v'.ownBlock=some k->v.ownBlock=some k∨W.1.size<=k):Apart a z w2 W' v':=by
 have hs:=h.size
 refine⟨fun k hk=>?_,fun k h1 h2=>?_,Nat.le_trans h.size ha.size⟩
 ·rcases hb k hk with h1 | h1
  ·exact h.own k h1
  ·exact .inr (by omega)
 ·rw[ha.block k (by omega) (fun hc=>by have:=h.own k hc;omega)]
  exact h.keep k h1 h2
theorem Apart.on(h:Apart a z w2 W v)(hb:Below W.1.size W W'):Apart a z w2 W' v:=by
 have hs:=h.size
 exact⟨h.own,fun k h1 h2=>by rw[hb.block k (by omega)];exact h.keep k h1 h2,Nat.le_trans h.size hb.size⟩
theorem Apart.cell(h:Apart a z w2 W v){g o:Nat}{x:Value}(h1:a<=g)(h2:g<z)(hc:w2.cell? ⟨g,o,none⟩=some x):W.cell? ⟨g,o,none⟩=some x:=by
 rw[World.cell?_of_block (w:=w2) (h.keep g h1 h2)];exact hc
theorem Apart.at(h:Apart a z w2 W v){p:OA}{l:L8}(hp:∀b o,p=some ⟨b,o,none⟩->a<=b∧b<z)(hl:At w2 p l):At W p l:=by
 rcases hl with rfl | ⟨b,o,hpe,h2,h3⟩
 ·exact .inl rfl
 ·obtain⟨h4,h5⟩:=hp b o hpe
  have hs:=h.size
  exact .inr ⟨b,o,hpe,by omega,fun j hj=>by rw[World.cell?_of_block (w:=w2) (h.keep b h4 h5)];exact h3 j hj⟩
theorem Has.place{cap:Nat}(h:Has w B (.slice q n cap) l):∀b o,q=some ⟨b,o,none⟩->B<=b∧b<w.1.size:=by
 intro b o hq
 subst hq
 exact h.lt b rfl
theorem Has.here{cap:Nat}(h:Has w B (.slice q l.length cap) l):At w q l:=by
 obtain⟨p,c,he,hat,-⟩:=h.at
 injection he with he
 rw[he];exact hat
end
section
open Go.RowKit
def tm(a:Nat):Except Nat (Nat×Nat)->Value
 |.error e=>.tuple #[.int .u64 0,.int .i64 0,.int .i64 (e:Nat)]
 |.ok (n,k)=>.tuple #[.int .u64 (n:Nat),.int .i64 ((a+k:Nat):Int),.int .i64 0]
theorem rV(l:L8)(a:Nat):eB l (a:Int)=tm a (Sch.num (l.drop a)):=by
 by_cases ha:a<l.length
 ·by_cases h:(Leb.get (l.drop a)).err=0
  ·have e:Leb.get (l.drop a)=⟨0,(Leb.get (l.drop a)).n,(Leb.get (l.drop a)).k⟩:=by rw[<-h]
   rw[kh l a _ _ e,Sch.num,if_pos h]
   simp only[tm]
   rfl
  ·have hb:=Leb.getF_bad 10 true (l.drop a) h
   have e:Leb.get (l.drop a)=⟨(Leb.get (l.drop a)).err,0,0⟩:=by
    have h1:(Leb.get (l.drop a)).n=0:=hb.1
    have h2:(Leb.get (l.drop a)).k=0:=hb.2
    generalize Leb.get (l.drop a)=g at *
    cases g
    simp_all
   rw[eA l a _ h e,Sch.num,if_neg h]
   rfl
 ·rw[iD l a (by omega),List.drop_eq_nil_of_le (by omega)]
  rfl
end
section
open Go.RowKit
attribute [local go_sem] af
theorem eJ(w:World)(o o2:Obj):((w.alloc o).alloc o2).1[w.1.size]?=some o:=by rw[az _ _ (by simp)];exact ap w o
end
section
open Go.RowKit
attribute [local go_sem] af
def glue(ys:List V)(n:Nat):Except Nat (List V×Nat)->Except Nat (List V×Nat)
 |.error e=>.error e
 |.ok (vs,k)=>.ok (ys++vs,n+k)
theorem ga(ys:List V)(n:Nat)(v:V)(j:Nat)(r:Except Nat (List V×Nat)):glue ys n (glue [v] j r)=glue (ys++[v]) (n+j) r:=by
 cases r with
 |error e=>rfl
 |ok p=>simp[glue,Nat.add_assoc]
def ol(f:L8->Except Nat (V×Nat))(m:Nat)(l:L8):Except Nat (V×Nat)->Except Nat (List V×Nat)
 |.error e=>.error e
 |.ok (v,j)=>glue [v] j (Sch.rdN f m (l.drop j))
theorem fm(f:L8->Except Nat (V×Nat))(m:Nat)(l:L8):Sch.rdN f (m+1) l=ol f m l (f l):=by
 rw[Sch.rdN]
 cases f l with
 |error e=>rfl
 |ok p=>
  obtain⟨v,j⟩:=p
  rw[ol]
  dsimp only
  cases Sch.rdN f m (l.drop j) with
  |error e=>rfl
  |ok q=>rfl
theorem nU(w:World)(o o2:Obj):((w.alloc o).alloc o2).1[w.1.size+1]?=some o2:=by
 have:=ap (w.alloc o) o2
 simpa using this
structure fL(w:World)(C0:AV)(k:Int)(ys:List V)(v:Value)(wr:World):Prop where
 built:∃us Fs,bd wr (w.1.size+3) v ys.length us Fs ys
 b0:wr.1[w.1.size]?=some (.cells C0 88 (0,0))
 b1:wr.1[w.1.size+1]?=some (.cells (cells5 0 0 0 ⟨#[]⟩ none 0 0) 47 (0,0))
 b2:wr.1[w.1.size+2]?=some (.cells #[.int .i64 k,.int .i64 0,.float .f64 0,.string ⟨#[]⟩,v] 47 (0,0))
 below:Below w.1.size w wr
 size:w.1.size+3<=wr.1.size
section
variable {w wr:World} {C0:AV} {k:Int} {ys:List V} {v:Value}
theorem fL.slice(h:fL w C0 k ys v wr):∃p c,v=.slice p ys.length c:=by
 obtain⟨us,Fs,hb⟩:=h.built
 rcases hb.row.2 with ⟨h1,h2⟩ | ⟨g,cap,cur,h1,_⟩
 ·exact⟨none,0,by rw[h1,h2]⟩
 ·exact⟨_,cap,h1⟩
theorem fL.next{w3 w4:World}{u:AV}{F:Nat->Prop}{g cap:Nat}{us:Nat->AV}{Fs:Nat->Nat->Prop}{y:V}(h:fL w C0 k ys v wr)(hbt:bd wr (w.1.size+3) v ys.length us Fs ys)(hb:Below wr.1.size wr w2)(hx:aR w2 F u y)(hF:∀k,F k->wr.1.size<=k∧k<w2.1.size)(hb3:Below w2.1.size w2 w3)(hr:w4.ownsRow (w.1.size+3) 47 5 (.slice (some ⟨g,0,none⟩) (ys.length+1) cap) (ys.length+1) (flat us ys.length++u.toList))(hg:w3.grownBy w4 v.ownBlock)(hn:v.ownBlock=some g∨g=w3.1.size):
  (∀n,n<3->w4.1[w.1.size+n]?=wr.1[w.1.size+n]?)∧fL w C0 k (ys++[y]) (.slice (some ⟨g,0,none⟩) (ys.length+1) cap) (w4.setCell ⟨w.1.size+2,4,none⟩ (.slice (some ⟨g,0,none⟩) (ys.length+1) cap)):=by
 have hs:=h.size
 have hs2:=hb.size
 have hs3:=hb3.size
 have hst:=hbt.step hb hx hF hb3 hs hr hg hn
 have hold:∀n,n<3->w4.1[w.1.size+n]?=wr.1[w.1.size+n]?:=fun n hn=>by
  rw[hg.block _ (by omega) (fun hc=>by have:=(hbt.lt _ hc.symm).1;omega),hb3.block _ (by omega),hb.block _ (by omega)]
 have hb4:Below w.1.size w w4:=((h.below.trans (hb.mono (by omega))).trans (hb3.mono (by omega))).grown hg (by omega) (fun k hk=>by have:=(hbt.lt k hk).1;omega)
 refine⟨hold,⟨⟨(fun n=>if n=ys.length then u else us n),(fun n=>if n=ys.length then F else Fs n),?_⟩,?_,?_,?_,?_,?_⟩⟩
 ·rw[List.length_append,List.length_singleton]
  exact hst.set ⟨w.1.size+2,4,none⟩ _ (by show w.1.size+2<_;omega)
 ·have:=hold 0 (by omega)
  rw[Nat.add_zero] at this
  exact aw (this.trans h.b0) _ _ (by show w.1.size≠w.1.size+2;omega)
 ·exact aw ((hold 1 (by omega)).trans h.b1) _ _ (by show w.1.size+1≠w.1.size+2;omega)
 ·rw[al ((hold 2 (by omega)).trans h.b2)]
  rfl
 ·exact hb4.setCell (by show w.1.size<=w.1.size+2;omega) _
 ·have:=hg.size
  simp[World.setCell]
  omega
end
end
end Go.Proofs.YtceomhodhmcknaaGreatDoor

import Derived.Test.YtdgacombdcajmaaGreatDoorB06
namespace Go.Proofs.YtdgacombdcajmaaGreatDoor
section
open Go.RowKit
def uG(a:Nat):Except Nat (Nat×Nat)->Value
 |.error e=>.tuple #[.int .u64 0,.int .i64 0,.int .i64 (e:Nat)]
 |.ok (n,k)=>.tuple #[.int .u64 (n:Nat),.int .i64 ((a+k:Nat):Int),.int .i64 0]
theorem s8(l:L8)(a:Nat):fu l (a:Int)=uG a (Sch.num (l.drop a)):=by
 by_cases ha:a<l.length
 ·by_cases h:(Leb.get (l.drop a)).err=0
  ·have e:Leb.get (l.drop a)=⟨0,(Leb.get (l.drop a)).n,(Leb.get (l.drop a)).k⟩:=by rw[<-h]
   rw[lq l a _ _ e,Sch.num,if_pos h]
   simp only[uG]
   rfl
  ·have hb:=Leb.getF_bad 10 true (l.drop a) h
   have e:Leb.get (l.drop a)=⟨(Leb.get (l.drop a)).err,0,0⟩:=by
    have h1:(Leb.get (l.drop a)).n=0:=hb.1
    have h2:(Leb.get (l.drop a)).k=0:=hb.2
    generalize Leb.get (l.drop a)=g at *
    cases g
    simp_all
   rw[ft l a _ h e,Sch.num,if_neg h]
   rfl
 ·rw[jy l a (by omega),List.drop_eq_nil_of_le (by omega)]
  rfl
end
section
open Go.RowKit
attribute [local go_sem] af
theorem fK(w:World)(o o2:Obj):((w.alloc o).alloc o2).1[w.1.size]?=some o:=by rw[aw _ _ (by simp)];exact an w o
end
section
open Go.RowKit
attribute [local go_sem] af
def glue(ys:List V)(n:Nat):Except Nat (List V×Nat)->Except Nat (List V×Nat)
 |.error e=>.error e
 |.ok (vs,k)=>.ok (ys++vs,n+k)
theorem ig(ys:List V)(n:Nat)(v:V)(j:Nat)(r:Except Nat (List V×Nat)):glue ys n (glue [v] j r)=glue (ys++[v]) (n+j) r:=by
 cases r with
 |error e=>rfl
 |ok p=>simp[glue,Nat.add_assoc]
def pc(f:L8->Except Nat (V×Nat))(m:Nat)(l:L8):Except Nat (V×Nat)->Except Nat (List V×Nat)
 |.error e=>.error e
 |.ok (v,j)=>glue [v] j (Sch.rdN f m (l.drop j))
theorem gy(f:L8->Except Nat (V×Nat))(m:Nat)(l:L8):Sch.rdN f (m+1) l=pc f m l (f l):=by
 rw[Sch.rdN]
 cases f l with
 |error e=>rfl
 |ok p=>
  obtain⟨v,j⟩:=p
  rw[pc]
  dsimp only
  cases Sch.rdN f m (l.drop j) with
  |error e=>rfl
  |ok q=>rfl
theorem oP(w:World)(o o2:Obj):((w.alloc o).alloc o2).1[w.1.size+1]?=some o2:=by
 have:=an (w.alloc o) o2
 simpa using this
structure gP(w:World)(C0:AV)(k:Int)(ys:List V)(v:Value)(wr:World):Prop where
 built:∃us Fs,aZ wr (w.1.size+3) v ys.length us Fs ys
 b0:wr.1[w.1.size]?=some (.cells C0 72 (0,0))
 b1:wr.1[w.1.size+1]?=some (.cells (cells5 0 0 0 ⟨#[]⟩ none 0 0) 46 (0,0))
 b2:wr.1[w.1.size+2]?=some (.cells #[.int .i64 k,.int .i64 0,.float .f64 0,.string ⟨#[]⟩,v] 46 (0,0))
 below:Below w.1.size w wr
 size:w.1.size+3<=wr.1.size
section
variable {w wr:World} {C0:AV} {k:Int} {ys:List V} {v:Value}
theorem gP.slice(h:gP w C0 k ys v wr):∃p c,v=.slice p ys.length c:=by
 obtain⟨us,Fs,hb⟩:=h.built
 rcases hb.row.2 with ⟨h1,h2⟩ | ⟨g,cap,cur,h1,_⟩
 ·exact⟨none,0,by rw[h1,h2]⟩
 ·exact⟨_,cap,h1⟩
theorem gP.next{w2 w3 w4:World}{u:AV}{F:Nat->Prop}{g cap:Nat}{us:Nat->AV}{Fs:Nat->Nat->Prop}{y:V}(h:gP w C0 k ys v wr)(hbt:aZ wr (w.1.size+3) v ys.length us Fs ys)(hb:Below wr.1.size wr w2)(hx:aQ w2 F u y)(hF:∀k,F k->wr.1.size<=k∧k<w2.1.size)(hb3:Below w2.1.size w2 w3)(hr:w4.ownsRow (w.1.size+3) 46 5 (.slice (some ⟨g,0,none⟩) (ys.length+1) cap) (ys.length+1) (flat us ys.length++u.toList))(hg:w3.grownBy w4 v.ownBlock)(hn:v.ownBlock=some g∨g=w3.1.size):
  (∀n,n<3->w4.1[w.1.size+n]?=wr.1[w.1.size+n]?)∧gP w C0 k (ys++[y]) (.slice (some ⟨g,0,none⟩) (ys.length+1) cap) (w4.setCell ⟨w.1.size+2,4,none⟩ (.slice (some ⟨g,0,none⟩) (ys.length+1) cap)):=by
 have hs:=h.size
 have hs2:=hb.size
 have hs3:=hb3.size
 have hst:=hbt.step hb hx hF hb3 hs hr hg hn
 have hold:∀n,n<3->w4.1[w.1.size+n]?=wr.1[w.1.size+n]?:=fun n hn=>by
  rw[hg.block _ (by omega) (fun hc=>by have:=(hbt.lt _ hc.symm).1;omega),hb3.block _ (by omega),hb.block _ (by omega)]
 have hb4:Below w.1.size w w4:=((h.below.trans (hb.mono (by omega))).trans (hb3.mono (by omega))).grown hg (by omega) (fun k hk=>by have:=(hbt.lt k hk).1;omega)
 refine⟨hold,⟨⟨(fun n=>if n=ys.length then u else us n),(fun n=>if n=ys.length then F else Fs n),?_⟩,?_,?_,?_,?_,?_⟩⟩
 ·rw[List.length_append,List.length_singleton]
  exact hst.set ⟨w.1.size+2,4,none⟩ _ (by show w.1.size+2<_;omega)
 ·have:=hold 0 (by omega)
  rw[Nat.add_zero] at this
  exact au (this.trans h.b0) _ _ (by show w.1.size≠w.1.size+2;omega)
 ·exact au ((hold 1 (by omega)).trans h.b1) _ _ (by show w.1.size+1≠w.1.size+2;omega)
 ·rw[al ((hold 2 (by omega)).trans h.b2)]
  rfl
 ·exact hb4.setCell (by show w.1.size<=w.1.size+2;omega) _
 ·have:=hg.size
  simp[World.setCell]
  omega
end
end
end Go.Proofs.YtdgacombdcajmaaGreatDoor

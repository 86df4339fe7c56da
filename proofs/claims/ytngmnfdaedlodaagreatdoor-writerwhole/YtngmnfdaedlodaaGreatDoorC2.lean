import Derived.Test.YtngmnfdaedlodaaGreatDoorB07
set_option maxHeartbeats 2000000
namespace Go.Proofs.YtngmnfdaedlodaaGreatDoor
open Option renaming none->I,some->U
open Go.Value renaming slice->Y,int->O,string->qj
open Go.IntKind renaming i64->C
open Go renaming World->R,Value->AA
open Go.RowKit renaming Below->N
open Go.Obj renaming cells->wx
open Except renaming error->AQ
variable{B a g n z:Nat}{W W' w w2 w3 w4:R}{l:L8}{v:AA}{q:OA}{u:AV}{x:Ty}
section
open Go.RowKit
end
section
open Go.RowKit
end
section
def lh(m:Nat)(xs:L8)(n:Nat):Prop:=xs.length<=8∧n<18446744073709551616∧Sch.le 8 m=xs++Sch.le (8-xs.length) n
theorem jF{m:Nat}{xs:L8}(h:lh m xs n)(D:xs.length<8):lh m (xs++[UInt8.ofNat (n % 256)]) (n / 256):=by
 obtain⟨y,A,o⟩:=h;refine⟨by rw[AH,AO];omega,by omega,?_⟩;rw[o,AN,AH,AO,show 8-xs.length=(8-(xs.length+1))+1 by omega,Sch.le];rfl
end
section
open Go.RowKit
end
section
open Go.RowKit
attribute [local go_sem] al
structure Apart(a z:Nat)(w2 W:R)(v:AA):Prop where
 own:∀k,v.ownBlock=U k->k<a∨z<=k
 keep:∀k,a<=k->k<z->W.1[k]?=w2.1[k]?
 size:z<=W.1.size
theorem Apart.step{v':AA}(h:Apart a z w2 W v)(y:Aside (fun k=>v.ownBlock=U k) W W')(hb:∀k,v'.ownBlock=U k->v.ownBlock=U k∨W.1.size<=k):Apart a z w2 W' v':=by
 have J:=h.size;refine⟨fun k E=>?_,fun k o A=>?_,AT h.size y.size⟩
 ·rcases hb k E with o | o
  ·exact h.own k o
  ·exact .inr (by omega)
 ·rw[y.block k (by omega) (fun D=>by have:=h.own k D;omega)];exact h.keep k o A
theorem Apart.on(h:Apart a z w2 W v)(hb:N W.1.size W W'):Apart a z w2 W' v:=by
 have A:=h.size;exact⟨h.own,fun k o y=>by rw[hb.block k (by omega)];exact h.keep k o y,AT h.size hb.size⟩
theorem Apart.cell(h:Apart a z w2 W v){g o:Nat}{x:AA}(y:a<=g)(A:g<z)(D:w2.cell? ⟨g,o,I⟩=U x):W.cell? ⟨g,o,I⟩=U x:=by
 rw[World.cell?_of_block (w:=w2) (h.keep g y A)];exact D
theorem Apart.at(h:Apart a z w2 W v){p:OA}{l:L8}(L:∀b o,p=U ⟨b,o,I⟩->a<=b∧b<z)(K:At w2 p l):At W p l:=by
 rcases K with rfl | ⟨b,o,y,M,A⟩
 ·exact .inl rfl
 ·obtain⟨D,E⟩:=L b o y;have Q:=h.size;exact .inr ⟨b,o,y,by omega,fun j J=>by rw[World.cell?_of_block (w:=w2) (h.keep b D E)];exact A j J⟩
theorem Has.place{cap:Nat}(h:Has w B (Y q n cap) l):∀b o,q=U ⟨b,o,I⟩->B<=b∧b<w.1.size:=by
 intro b o y;subst y;exact h.lt b rfl
theorem Has.here{cap:Nat}(h:Has w B (Y q l.length cap) l):At w q l:=by
 obtain⟨p,c,o,y,-⟩:=h.at;injection o with o;rw[o];exact y
end
section
open Go.RowKit
def wc(a:Nat):Except Nat (Nat×Nat)->AA
 |AQ e=>.tuple #[O .u64 0,O C 0,O C (e:Nat)]
 |.ok (n,k)=>.tuple #[O .u64 (n:Nat),O C ((a+k:Nat):Int),O C 0]
theorem uu(l:L8)(a:Nat):ik l (a:Int)=wc a (Sch.num (l.drop a)):=by
 by_cases A:a<l.length
 ·by_cases h:(Leb.get (l.drop a)).err=0
  ·have e:Leb.get (l.drop a)=⟨0,(Leb.get (l.drop a)).n,(Leb.get (l.drop a)).k⟩:=(by rw[<-h]);rw[qB l a _ _ e,Sch.num,AG h];simp only[wc];rfl
  ·have hb:=Leb.getF_bad 10 true (l.drop a) h;have e:Leb.get (l.drop a)=⟨(Leb.get (l.drop a)).err,0,0⟩:=by
    have o:(Leb.get (l.drop a)).n=0:=hb.1;have y:(Leb.get (l.drop a)).k=0:=hb.2;generalize Leb.get (l.drop a)=g at *
    cases g
    simp_all
   rw[gG l a _ h e,Sch.num,AF h];rfl
 ·rw[jA l a (by omega),List.drop_eq_nil_of_le (by omega)];rfl
end
section
open Go.RowKit
attribute [local go_sem] al
theorem fw(w:R)(o y:Obj):((w.alloc o).alloc y).1[w.1.size]?=U o:=by rw[ay _ _ (by simp)];exact an w o
end
section
open Go.RowKit
attribute [local go_sem] al
def glue(ys:List V)(n:Nat):Except Nat (List V×Nat)->Except Nat (List V×Nat)
 |AQ e=>AQ e
 |.ok (vs,k)=>.ok (ys++vs,n+k)
theorem il(ys:List V)(n:Nat)(v:V)(j:Nat)(r:Except Nat (List V×Nat)):glue ys n (glue [v] j r)=glue (ys++[v]) (n+j) r:=by
 cases r with
 |error e=>rfl
 |ok p=>simp[glue,Nat.add_assoc]
def qb(f:L8->Except Nat (V×Nat))(m:Nat)(l:L8):Except Nat (V×Nat)->Except Nat (List V×Nat)
 |AQ e=>AQ e
 |.ok (v,j)=>glue [v] j (Sch.rdN f m (l.drop j))
theorem gC(f:L8->Except Nat (V×Nat))(m:Nat)(l:L8):Sch.rdN f (m+1) l=qb f m l (f l):=by
 rw[Sch.rdN];cases f l with
 |error e=>rfl
 |ok p=>
  obtain⟨v,j⟩:=p;rw[qb];dsimp only;cases Sch.rdN f m (l.drop j) with
  |error e=>rfl
  |ok q=>rfl
theorem pN(w:R)(y o:Obj):((w.alloc y).alloc o).1[w.1.size+1]?=U o:=by
 have:=an (w.alloc y) o;simpa using this
structure gQ(w:R)(C0:AV)(k:Int)(ys:List V)(v:AA)(wr:R):Prop where
 built:∃us Fs,bd wr (w.1.size+3) v ys.length us Fs ys
 b0:wr.1[w.1.size]?=U (wx C0 99 (0,0))
 b1:wr.1[w.1.size+1]?=U (wx (cells5 0 0 0 ⟨#[]⟩ I 0 0) 102 (0,0))
 b2:wr.1[w.1.size+2]?=U (wx #[O C k,O C 0,.float .f64 0,qj ⟨#[]⟩,v] 102 (0,0))
 below:N w.1.size w wr
 size:w.1.size+3<=wr.1.size
section
variable {w wr:R} {C0:AV} {k:Int} {ys:List V} {v:AA}
theorem gQ.slice(h:gQ w C0 k ys v wr):∃p c,v=Y p ys.length c:=by
 obtain⟨us,Fs,hb⟩:=h.built;rcases hb.row.2 with ⟨o,y⟩ | ⟨g,cap,A,o,_⟩
 ·exact⟨I,0,by rw[o,y]⟩
 ·exact⟨_,cap,o⟩
theorem gQ.next{F:Nat->Prop}{cap:Nat}{us:Nat->AV}{Fs:Nat->Nat->Prop}{E:V}(h:gQ w C0 k ys v wr)(A:bd wr (w.1.size+3) v ys.length us Fs ys)(hb:N wr.1.size wr w2)(Z:aY w2 F u E)(J:∀k,F k->wr.1.size<=k∧k<w2.1.size)(o:N w2.1.size w2 w3)(Q:w4.ownsRow (w.1.size+3) 102 5 (Y (U ⟨g,0,I⟩) (ys.length+1) cap) (ys.length+1) (flat us ys.length++u.toList))(y:w3.grownBy w4 v.ownBlock)(D:v.ownBlock=U g∨g=w3.1.size):
  (∀n,n<3->w4.1[w.1.size+n]?=wr.1[w.1.size+n]?)∧gQ w C0 k (ys++[E]) (Y (U ⟨g,0,I⟩) (ys.length+1) cap) (w4.setCell ⟨w.1.size+2,4,I⟩ (Y (U ⟨g,0,I⟩) (ys.length+1) cap)):=by
 have S:=h.size;have ab:=hb.size;have ah:=o.size;have X:=A.step hb Z J o S Q y D;have hold:∀n,n<3->w4.1[w.1.size+n]?=wr.1[w.1.size+n]?:=fun n D=>by
  rw[y.block _ (by omega) (fun L=>by have:=(A.lt _ L.symm).1;omega),o.block _ (by omega),hb.block _ (by omega)]
 have K:N w.1.size w w4:=((h.below.trans (hb.mono (by omega))).trans (o.mono (by omega))).grown y (by omega) (fun k M=>by have:=(A.lt k M).1;omega);refine⟨hold,⟨⟨(fun n=>if n=ys.length then u else us n),(fun n=>if n=ys.length then F else Fs n),?_⟩,?_,?_,?_,?_,?_⟩⟩
 ·rw[AH,AO];exact X.set ⟨w.1.size+2,4,I⟩ _ (by show w.1.size+2<_;omega)
 ·have:=hold 0 (by omega);rw[Nat.add_zero] at this;exact aL (this.trans h.b0) _ _ (by show w.1.size≠w.1.size+2;omega)
 ·exact aL ((hold 1 (by omega)).trans h.b1) _ _ (by show w.1.size+1≠w.1.size+2;omega)
 ·rw[ao ((hold 2 (by omega)).trans h.b2)];rfl
 ·exact K.setCell (by show w.1.size<=w.1.size+2;omega) _
 ·have:=y.size;simp[World.setCell];omega
end
end
section
open Go.RowKit
end
section
open Go.RowKit
attribute [local go_sem] al
def oI(w:R)(g:Nat)(n:ByteArray)(k:Int)(s:AA)(h:Bool)(vk vi:Int)(vb:Nat)(vt:ByteArray)(vs:AA):World :=
 ((((((((w.setCell ⟨g,0,I⟩ (qj n)).setCell ⟨g,1,I⟩ (O C k)).setCell ⟨g,2,I⟩ s).setCell ⟨g,3,I⟩ (.bool h)).setCell ⟨g,4,I⟩ (O C vk)).setCell ⟨g,5,I⟩ (O C vi)).setCell ⟨g,6,I⟩ (.float .f64 vb)).setCell ⟨g,7,I⟩ (qj vt)).setCell ⟨g,8,I⟩ vs
theorem tz{w1:R}{n:ByteArray}{k:Int}{A:OA}{y o:Nat}{h:Bool}{D E:Int}{J:Nat}{K:ByteArray}{Q:OA}{M L:Nat}{c:Col}{F:Nat->Prop}(bk:w1.1[w.1.size]?=U (wx (aB ⟨#[]⟩ 0 I 0 0 false 0 0 0 ⟨#[]⟩ I 0 0) 104 (0,0)))(hb:N w.1.size w w1)(bp:w.1.size+1<=w1.1.size)(bn:dx w1 F (aB n k A y o h D E J K Q M L) c)(X:∀j,F j->w.1.size+1<=j∧j<w1.1.size):
  (oI w1 w.1.size n k (Y A y o) h D E J K (Y Q M L)).1[w.1.size]?=U (wx (aB n k A y o h D E J K Q M L) 104 (0,0))∧dx (oI w1 w.1.size n k (Y A y o) h D E J K (Y Q M L)) (fun j=>w.1.size<=j∧j<(oI w1 w.1.size n k (Y A y o) h D E J K (Y Q M L)).1.size) (aB n k A y o h D E J K Q M L) c∧N w.1.size w (oI w1 w.1.size n k (Y A y o) h D E J K (Y Q M L)):=by
 have Z:=Aside.refl (fun k=>k=w.1.size) w1;have ab:=Z.setCell (p:=⟨w.1.size,0,I⟩) (.inl rfl) (qj n);have ah:=ab.setCell (p:=⟨w.1.size,1,I⟩) (.inl rfl) (O C k);have ai:=ah.setCell (p:=⟨w.1.size,2,I⟩) (.inl rfl) (Y A y o);have aj:=ai.setCell (p:=⟨w.1.size,3,I⟩) (.inl rfl) (.bool h);have ak:=aj.setCell (p:=⟨w.1.size,4,I⟩) (.inl rfl) (O C D);have aw:=ak.setCell (p:=⟨w.1.size,5,I⟩) (.inl rfl) (O C E);have a0:=aw.setCell (p:=⟨w.1.size,6,I⟩) (.inl rfl) (.float .f64 J);have a1:=a0.setCell (p:=⟨w.1.size,7,I⟩) (.inl rfl) (qj K);have a2:=a1.setCell (p:=⟨w.1.size,8,I⟩) (.inl rfl) (Y Q M L);have S:Aside (fun k=>k=w.1.size) w1 (oI w1 w.1.size n k (Y A y o) h D E J K (Y Q M L)):=a2;clear Z ab ah ai aj ak aw a0 a1 a2;have a5:w1.1[w.1.size]?=U (wx (aB ⟨#[]⟩ 0 I 0 0 false 0 0 0 ⟨#[]⟩ I 0 0) 104 (0,0)):=bk;have a6:(w1.setCell ⟨w.1.size,0,I⟩ (qj n)).1[w.1.size]?=U (wx (aB n 0 I 0 0 false 0 0 0 ⟨#[]⟩ I 0 0) 104 (0,0)):=ao a5 0 (qj n);have a7:((w1.setCell ⟨w.1.size,0,I⟩ (qj n)).setCell ⟨w.1.size,1,I⟩ (O C k)).1[w.1.size]?=U (wx (aB n k I 0 0 false 0 0 0 ⟨#[]⟩ I 0 0) 104 (0,0)):=ao a6 1 (O C k);have a8:(((w1.setCell ⟨w.1.size,0,I⟩ (qj n)).setCell ⟨w.1.size,1,I⟩ (O C k)).setCell ⟨w.1.size,2,I⟩ (Y A y o)).1[w.1.size]?=U (wx (aB n k A y o false 0 0 0 ⟨#[]⟩ I 0 0) 104 (0,0)):=ao a7 2 (Y A y o)
 have a9:((((w1.setCell ⟨w.1.size,0,I⟩ (qj n)).setCell ⟨w.1.size,1,I⟩ (O C k)).setCell ⟨w.1.size,2,I⟩ (Y A y o)).setCell ⟨w.1.size,3,I⟩ (.bool h)).1[w.1.size]?=U (wx (aB n k A y o h 0 0 0 ⟨#[]⟩ I 0 0) 104 (0,0)):=ao a8 3 (.bool h);have bb:(((((w1.setCell ⟨w.1.size,0,I⟩ (qj n)).setCell ⟨w.1.size,1,I⟩ (O C k)).setCell ⟨w.1.size,2,I⟩ (Y A y o)).setCell ⟨w.1.size,3,I⟩ (.bool h)).setCell ⟨w.1.size,4,I⟩ (O C D)).1[w.1.size]?=U (wx (aB n k A y o h D 0 0 ⟨#[]⟩ I 0 0) 104 (0,0)):=ao a9 4 (O C D);have bc:((((((w1.setCell ⟨w.1.size,0,I⟩ (qj n)).setCell ⟨w.1.size,1,I⟩ (O C k)).setCell ⟨w.1.size,2,I⟩ (Y A y o)).setCell ⟨w.1.size,3,I⟩ (.bool h)).setCell ⟨w.1.size,4,I⟩ (O C D)).setCell ⟨w.1.size,5,I⟩ (O C E)).1[w.1.size]?=U (wx (aB n k A y o h D E 0 ⟨#[]⟩ I 0 0) 104 (0,0)):=ao bb 5 (O C E);have be:(((((((w1.setCell ⟨w.1.size,0,I⟩ (qj n)).setCell ⟨w.1.size,1,I⟩ (O C k)).setCell ⟨w.1.size,2,I⟩ (Y A y o)).setCell ⟨w.1.size,3,I⟩ (.bool h)).setCell ⟨w.1.size,4,I⟩ (O C D)).setCell ⟨w.1.size,5,I⟩ (O C E)).setCell ⟨w.1.size,6,I⟩ (.float .f64 J)).1[w.1.size]?=U (wx (aB n k A y o h D E J ⟨#[]⟩ I 0 0) 104 (0,0)):=ao bc 6 (.float .f64 J)
 have bi:((((((((w1.setCell ⟨w.1.size,0,I⟩ (qj n)).setCell ⟨w.1.size,1,I⟩ (O C k)).setCell ⟨w.1.size,2,I⟩ (Y A y o)).setCell ⟨w.1.size,3,I⟩ (.bool h)).setCell ⟨w.1.size,4,I⟩ (O C D)).setCell ⟨w.1.size,5,I⟩ (O C E)).setCell ⟨w.1.size,6,I⟩ (.float .f64 J)).setCell ⟨w.1.size,7,I⟩ (qj K)).1[w.1.size]?=U (wx (aB n k A y o h D E J K I 0 0) 104 (0,0)):=ao be 7 (qj K);have bj:(((((((((w1.setCell ⟨w.1.size,0,I⟩ (qj n)).setCell ⟨w.1.size,1,I⟩ (O C k)).setCell ⟨w.1.size,2,I⟩ (Y A y o)).setCell ⟨w.1.size,3,I⟩ (.bool h)).setCell ⟨w.1.size,4,I⟩ (O C D)).setCell ⟨w.1.size,5,I⟩ (O C E)).setCell ⟨w.1.size,6,I⟩ (.float .f64 J)).setCell ⟨w.1.size,7,I⟩ (qj K)).setCell ⟨w.1.size,8,I⟩ (Y Q M L)).1[w.1.size]?=U (wx (aB n k A y o h D E J K Q M L) 104 (0,0)):=ao bi 8 (Y Q M L);refine⟨bj,?_,?_⟩
 ·exact(bn.aside S (fun k a4 bl=>by have:=X k a4;omega)).mono (fun j a3=>⟨by have:=X j a3;omega,by have:=X j a3;have:=S.size;omega⟩)
 ·exact hb.trans (S.below (by omega) (fun k a4 bl=>by omega))
end
section
open Go.RowKit
attribute [local go_sem] al
def Ac(w:R)(r:Except Nat (List Col))(e:Ending)(w':R):Prop:=match r with
 |AQ er=>e=.returned (.tuple #[.agg #[Y I 0 0],O C (er:Nat)])∧N w.1.size w w'
 |.ok s=>∃u,e=.returned (.tuple #[.agg u,O C 0])∧dt w' w.1.size u s∧N w.1.size w w'
def shift(n:Nat):Except Nat (List Col×Nat)->Except Nat (List Col×Nat)
 |AQ e=>AQ e
 |.ok (s,k)=>.ok (s,n+k)
def s9(m:Nat)(s:List Col)(b:L8):Except Nat (Col×Nat)->Except Nat (List Col×Nat)
 |AQ e=>AQ e
 |.ok (c,j)=>shift j (Sch.rdCs m (s++[c]) (b.drop j))
theorem kC(m:Nat)(s:List Col)(b:L8):Sch.rdCs (m+1) s b=s9 m s b (Sch.rdC s b):=by
 rw[Sch.rdCs];cases Sch.rdC s b with
 |error e=>rfl
 |ok p=>
  obtain⟨c,j⟩:=p;rw[s9];dsimp only;cases Sch.rdCs m (s++[c]) (b.drop j) with
  |error e=>rfl
  |ok q=>rfl
theorem mG(n j:Nat)(r:Except Nat (List Col×Nat)):shift n (shift j r)=shift (n+j) r:=by
 cases r with
 |error e=>rfl
 |ok p=>simp[shift,Nat.add_assoc]
structure mf(w:R)(s:List Col)(v:AA)(wr:R):Prop where
 built:∃us Fs,aS wr (w.1.size+1) v s.length us Fs s
 b0:wr.1[w.1.size]?=U (wx #[Y I 0 0] 35 (0,0))
 below:N w.1.size w wr
 size:w.1.size+1<=wr.1.size
theorem mf.next{wr:R}{s:List Col}{F:Nat->Prop}{cap:Nat}{us:Nat->AV}{Fs:Nat->Nat->Prop}{D:Col}(h:mf w s v wr)(A:aS wr (w.1.size+1) v s.length us Fs s)(hb:N wr.1.size wr w2)(Z:dx w2 F u D)(E:∀k,F k->wr.1.size<=k∧k<w2.1.size)(o:N w2.1.size w2 w3)(Q:w4.ownsRow (w.1.size+1) 104 9 (Y (U ⟨g,0,I⟩) (s.length+1) cap) (s.length+1) (flat us s.length++u.toList))(y:w3.grownBy w4 v.ownBlock)(M:v.ownBlock=U g∨g=w3.1.size):
  mf w (s++[D]) (Y (U ⟨g,0,I⟩) (s.length+1) cap) w4:=by
 have S:=h.size;have ab:=hb.size;have ah:=o.size;have X:=A.step hb Z E o S Q y M;have J:N w.1.size w w4:=((h.below.trans (hb.mono (by omega))).trans (o.mono (by omega))).grown y (by omega) (fun k L=>by have:=(A.lt k L).1;omega);refine⟨⟨(fun n=>if n=s.length then u else us n),(fun n=>if n=s.length then F else Fs n),?_⟩,?_,J,?_⟩
 ·rw[AH,AO];exact X
 ·rw[y.block _ (by omega) (fun K=>by have:=(A.lt _ K.symm).1;omega),o.block _ (by omega),hb.block _ (by omega)];exact h.b0
 ·have:=y.size;omega
end
section
open Go.RowKit
theorem kU(us:Nat->AV):∀n,(∀j,j<n->(us j).size=2)->(flat us n).length=n*2
 |0,_=>by simp[flat]
 |n+1,h=>by
  rw[flat,AH,kU us n fun j o=>h j (by omega),Array.length_toList,h n (by omega)];omega
theorem kV(us:Nat->AV):∀n,(∀j,j<n->(us j).size=2)->∀j,j<n->∀m,m<2->(flat us n)[j*2+m]?=(us j)[m]?
 |0,_,j,o,_,_=>by omega
 |n+1,h,j,o,m,hm=>by
  have D:=kU us n fun j o=>h j (by omega);rw[flat];rcases Nat.lt_or_ge j n with y | y
  ·rw[List.getElem?_append_left (by omega),kV us n (fun j o=>h j (by omega)) j y m hm]
  ·have A:j=n:=(by omega);subst A;rw[List.getElem?_append_right (by omega),D,Nat.add_sub_cancel_left];simp
def xk:Value:=.agg (au 0 I 0 0)
theorem yy:(Tryz.prog.info? 99).map (fun i=>(i.zero,i.size,i.bytes))=U (U xk,2,32):=by kernel_rfl
theorem Af{F:Nat->Prop}(h:bD w F u x):∀a∈u.toList,a.oneCell'=true:=by
 obtain⟨k,p,n,c,rfl⟩:=h.shape;intro a o;simp[au] at o;rcases o with rfl | rfl <;> rfl
section
variable {B:Nat} {v:AA} {n:Nat} {us:Nat->AV} {w:R} {u:AV} {ad H:Nat}
theorem ov(a0:w.ownsRow B 99 2 v n (flat us n))(Q:u.size=2)(J:∀a∈u.toList,a.oneCell'=true)(ab:w.1[ad]?=U (wx u 99 (0,0)))(ak:(n+1)*32<=140737488355328)(S:B<=w.1.size)(X:w.1.size=H){a5:Array Oper}{o:Oper}{a:Act}{A:Act->R->Prop}{E:Exit->Act->R->Prop}{D:Prop}(y x:Operand)(ai:o.guard=I)(aw:o.op=Op.call { callee:=Callee.builtin Builtin.append,args:=#[y,x],argTypes:=#[97,97] })(a1:a.eval y=v)(a3:a.eval x=Y (U ⟨ad,0,I⟩) 1 1)(Z:∀g cap w',w'.ownsRow B 99 2 (Y (U ⟨g,0,I⟩) (n+1) cap) (n+1) (flat us n++u.toList)->w.grownBy w' v.ownBlock->(v.ownBlock=U g∨g=H)->A (a.put o.dst (Y (U ⟨g,0,I⟩) (n+1) cap)) w'):
  if Region.wanted o (yielded a5 a.tmps)=true then Oper.wp Tryz.prog o a w A E else D:=by
 obtain⟨i,aj,a4,a2,ah⟩:=info_parts yy
 exact step_append_lies w ai y x 97 aw B 99 i xk 2 32 Tryz.underlying97 aj a4 a2 ah rfl (by decide) v n (flat us n) a1 a0 ⟨ad,0,I⟩ 1 1 u.toList a3 (by simp[Q])
  (World.news_of_block ab) J (by decide) (by unfold maxLen;omega) ak S H X fun g cap w' K L M _=>Z g cap w' K L M
end
structure bK(w:R)(B:Nat)(v:AA)(n:Nat)(us:Nat->AV)(Fs:Nat->Nat->Prop)(ys:List Ty):Prop where
 len:ys.length=n
 five:∀j,j<n->(us j).size=2
 row:w.ownsRow B 99 2 v n (flat us n)
 own:∀j (h:j<ys.length),bD w (Fs j) (us j) ys[j]
 apart:∀j m,j<n->m<n->j≠m->∀k,Fs j k->¬Fs m k
 beside:∀g,v.ownBlock=U g->∀j,j<n->¬Fs j g
 range:∀j,j<n->∀k,Fs j k->B<=k∧k<w.1.size
theorem ji(w:R)(B:Nat):bK w B (Y I 0 0) 0 (fun _=>#[]) (fun _ _=>False) [] :=
 ⟨rfl,fun j o=>by omega,World.ownsRow_nil _ _ _ _,fun j o=>by simp at o,fun j m o=>by omega,fun g y=>by simp[Value.ownBlock] at y,fun j o=>by omega⟩
section
variable {w w':R} {B:Nat} {v:AA} {n:Nat} {us:Nat->AV} {Fs:Nat->Nat->Prop} {ys:List Ty}
theorem bK.aside{G:Nat->Prop}(h:bK w B v n us Fs ys)(y:Aside G w w')(J:∀g,v.ownBlock=U g->¬G g)(K:∀j,j<n->∀k,Fs j k->¬G k):bK w' B v n us Fs ys:=by
 refine⟨h.len,h.five,?_,fun j o=>(h.own j o).aside y (K j (by rw[<-h.len];exact o)),h.apart,h.beside,fun j o k D=>⟨(h.range j o k D).1,AS (h.range j o k D).2 y.size⟩⟩;refine⟨h.row.1,?_⟩;rcases h.row.2 with L | ⟨g,cap,E,rfl,M,A,Q⟩
 ·exact .inl L
 ·exact .inr ⟨g,cap,E,rfl,M,by rw[y.block g (Array.getElem?_eq_some_iff.1 A).1 (J g rfl)];exact A,Q⟩
theorem bK.lt(h:bK w B v n us Fs ys):∀g,v.ownBlock=U g->B<=g∧g<w.1.size:=World.ownsRow.lt h.row
theorem bK.on(h:bK w B v n us Fs ys)(hb:N w.1.size w w'):bK w' B v n us Fs ys :=
 h.aside (af hb (fun _=>False)) (fun _ _ o=>o) (fun _ _ _ _ o=>o)
theorem bK.set(h:bK w B v n us Fs ys)(p:Addr)(u:AA)(E:p.block<B):bK (w.setCell p u) B v n us Fs ys :=
 h.aside (G:=fun k=>k=p.block) ((Aside.refl (fun k=>k=p.block) w).setCell (p:=p) (.inl rfl) u) (fun g y o=>by have:=(h.lt g y).1;omega) (fun j A k D o=>by have:=(h.range j A k D).1;omega)
theorem bK.step{F:Nat->Prop}{cap:Nat}(h:bK w B v n us Fs ys)(hb:N w.1.size w w2)(Z:bD w2 F u x)(J:∀k,F k->w.1.size<=k∧k<w2.1.size)(M:N w2.1.size w2 w3)(a1:B<=w.1.size)(ai:w4.ownsRow B 99 2 (Y (U ⟨g,0,I⟩) (n+1) cap) (n+1) (flat us n++u.toList))(K:w3.grownBy w4 v.ownBlock)(D:v.ownBlock=U g∨g=w3.1.size):
  bK w4 B (Y (U ⟨g,0,I⟩) (n+1) cap) (n+1) (fun j=>if j=n then u else us j) (fun j=>if j=n then F else Fs j) (ys++[x]):=by
 have a4:=hb.size;have a5:=M.size;have L:Aside (fun k=>v.ownBlock=U k) w2 w4:=by
  refine(af M _).trans (G:=fun k=>v.ownBlock=U k) ⟨K.os,K.tape,K.output,K.size,fun k o ab=>K.block k o (fun y=>ab y.symm)⟩ (fun _ _ h=>h)
 have S:∀k,F k->¬v.ownBlock=U k:=fun k o y=>by have:=(h.lt k y).2;have:=(J k o).1;omega
 have a3:∀j,j<n+1->j≠n->j<n:=fun j ak aw=>by omega
 refine⟨by rw[AH,h.len];rfl,fun j E=>?_,?_,fun j E=>?_,fun j m E a2 ah k o=>?_,fun aj Q j E=>?_,fun j E k o=>?_⟩
 ·split
  ·exact Z.five
  ·exact h.five j (by omega)
 ·rw[flat,eB _ us n (fun j E=>by simp[show ¬j=n by omega])];simpa using ai
 ·rw[AH,h.len,AO] at E;by_cases A:j=n
  ·subst A;rw[AG rfl,AG rfl,List.getElem_append_right (by rw[h.len];exact gQx)];simp only[h.len,Nat.sub_self,List.getElem_singleton];exact Z.aside L S
  ·rw[AF A,AF A,List.getElem_append_left (by rw[h.len];omega)];exact((h.own j (by rw[h.len];omega)).under hb (fun k o=>(h.range j (by omega) k o).2)).aside L (fun k o y=>h.beside k y j (by omega) o)
 ·by_cases A:j=n
  ·rw[AG A] at o;rw[AF (by omega)];exact fun y=>by have:=(h.range m (by omega) k y).2;have:=(J k o).1;omega
  ·rw[AF A] at o;by_cases X:m=n
   ·rw[AG X];exact fun y=>by have:=(h.range j (by omega) k o).2;have:=(J k y).1;omega
   ·rw[AF X];exact h.apart j m (by omega) (by omega) ah k o
 ·simp only[Value.ownBlock,Option.some.injEq] at Q;subst Q;by_cases A:j=n
  ·rw[AG A];intro y;have:=J _ y;rcases D with D | D
   ·exact S _ y D
   ·omega
  ·rw[AF A];intro y;rcases D with D | D
   ·exact h.beside _ D j (by omega) y
   ·have:=(h.range j (by omega) _ y).2;omega
 ·have a0:=L.size;by_cases A:j=n
  ·rw[AG A] at o;have:=J k o;omega
  ·rw[AF A] at o;have:=h.range j (by omega) k o;omega
theorem bK.done(h:bK w B v n us Fs ys)(S:n*32<=140737488351232)(k:Int):∃p c,v=Y p n c∧bD w (fun k=>B<=k∧k<w.1.size) (au k p n c) (.mk k ys):=by
 rcases h.row.2 with ⟨rfl,A⟩ | ⟨g,cap,ah,rfl,J,y,K,ai,aj,L⟩
 ·have ab:ys=[]:=List.eq_nil_of_length_eq_zero (by rw[h.len];exact A);subst ab;subst A;exact⟨I,0,rfl,.none⟩
 ·refine⟨_,cap,rfl,?_⟩;have D:=(Array.getElem?_eq_some_iff.1 y).1;have X:=h.len;have M:∀q,q<n*2->w.cell? ⟨g,q,I⟩=(flat us n)[q]?:=fun q Z=>by
   rw[<-L,List.getElem?_take_of_lt Z];simp[World.cell?,y]
  subst X;refine .some us Fs S K h.five ⟨D,fun j o m E=>?_⟩ (fun j o m E=>by simp[World.frozen?,y]) ⟨J,D⟩ (fun j o=>h.beside g rfl j o) h.apart (fun j o k Q=>h.range j o k Q) h.own;rw[Nat.zero_add,M _ (by omega),kV us _ h.five j o m E]
end
structure gR(w:R)(C0:AV)(k:Int)(zs:List Ty)(j:Nat)(v:AA)(wr:R):Prop where
 built:∃us Fs,bK wr (w.1.size+3) v j us Fs (zs.take j)
 b0:wr.1[w.1.size]?=U (wx C0 99 (0,0))
 b1:wr.1[w.1.size+1]?=U (wx (au 0 I 0 0) 99 (0,0))
 b2:wr.1[w.1.size+2]?=U (wx #[O C k,v] 99 (0,0))
 below:N w.1.size w wr
 size:w.1.size+3<=wr.1.size
section
variable {w wr:R} {C0:AV} {k:Int} {zs:List Ty} {j:Nat} {v:AA}
theorem gR.slice(h:gR w C0 k zs j v wr):∃p c,v=Y p j c:=by
 obtain⟨us,Fs,hb⟩:=h.built;rcases hb.row.2 with ⟨o,y⟩ | ⟨g,cap,A,o,_⟩
 ·exact⟨I,0,by rw[o,y]⟩
 ·exact⟨_,cap,o⟩
theorem gR.next{F:Nat->Prop}{cap:Nat}{us:Nat->AV}{Fs:Nat->Nat->Prop}(h:gR w C0 k zs j v wr)(A:bK wr (w.1.size+3) v j us Fs (zs.take j))(L:j<zs.length)(hb:N wr.1.size wr w2)(Z:bD w2 F u zs[j])(J:∀k,F k->wr.1.size<=k∧k<w2.1.size)(o:N w2.1.size w2 w3)(Q:w4.ownsRow (w.1.size+3) 99 2 (Y (U ⟨g,0,I⟩) (j+1) cap) (j+1) (flat us j++u.toList))(y:w3.grownBy w4 v.ownBlock)(E:v.ownBlock=U g∨g=w3.1.size):
  N w.1.size w w4∧(∀n,n<3->w4.1[w.1.size+n]?=wr.1[w.1.size+n]?)∧gR w C0 k zs (j+1) (Y (U ⟨g,0,I⟩) (j+1) cap) (w4.setCell ⟨w.1.size+2,1,I⟩ (Y (U ⟨g,0,I⟩) (j+1) cap)):=by
 have S:=h.size;have ab:=hb.size;have ah:=o.size;have X:=A.step hb Z J o S Q y E;have hold:∀n,n<3->w4.1[w.1.size+n]?=wr.1[w.1.size+n]?:=fun n E=>by
  rw[y.block _ (by omega) (fun K=>by have:=(A.lt _ K.symm).1;omega),o.block _ (by omega),hb.block _ (by omega)]
 have D:N w.1.size w w4:=((h.below.trans (hb.mono (by omega))).trans (o.mono (by omega))).grown y (by omega) (fun k M=>by have:=(A.lt k M).1;omega);refine⟨D,hold,⟨⟨(fun n=>if n=j then u else us n),(fun n=>if n=j then F else Fs n),?_⟩,?_,?_,?_,?_,?_⟩⟩
 ·rw[List.take_succ_eq_append_getElem L];exact X.set ⟨w.1.size+2,1,I⟩ _ (by show w.1.size+2<_;omega)
 ·have:=hold 0 (by omega);rw[Nat.add_zero] at this;exact aL (this.trans h.b0) _ _ (by show w.1.size≠w.1.size+2;omega)
 ·exact aL ((hold 1 (by omega)).trans h.b1) _ _ (by show w.1.size+1≠w.1.size+2;omega)
 ·rw[ao ((hold 2 (by omega)).trans h.b2)];rfl
 ·exact D.setCell (by show w.1.size<=w.1.size+2;omega) _
 ·have:=y.size;simp[World.setCell];omega
end
end
end Go.Proofs.YtngmnfdaedlodaaGreatDoor

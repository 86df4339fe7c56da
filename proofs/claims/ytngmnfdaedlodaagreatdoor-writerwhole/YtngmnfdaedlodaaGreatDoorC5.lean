import Derived.Test.YtngmnfdaedlodaaGreatDoorB37
import Derived.Test.YtngmnfdaedlodaaGreatDoorB29
import Derived.Test.YtngmnfdaedlodaaGreatDoorB32
namespace Go.Proofs.YtngmnfdaedlodaaGreatDoor
open Option renaming some->I,none->U
variable{k:Nat}
section
open Go.RowKit Go.Shelf
attribute [local go_sem] al Oper.semAt_some
def Ap(w:World)(F:Nat->Prop)(q:OA)(d:Nat)(vs:List V):Prop:=aY w F (cells5 0 0 0 ⟨#[]⟩ q vs.length d) (.mk 0 0 0 ⟨#[]⟩ vs)
structure dw(w:World)(B:Nat)(v:Value)(ys:List (List V)):Prop where
 out:∃us:List Value,w.ownsRow B 64 1 v ys.length us∧∀j (hj:j<ys.length),∃q d,us[j]?=I (.slice q ys[j].length d)∧Ap w (fun k=>B<=k∧k<w.1.size∧v.ownBlock≠I k) q d ys[j]
section
variable {w w':World} {B:Nat} {v:Value} {ys:List (List V)}
theorem dw.lt(h:dw w B v ys):∀k,v.ownBlock=I k->B<=k∧k<w.1.size:=by
 obtain⟨us,o,_⟩:=h.out;exact World.ownsRow.lt o
theorem dw.aside{G:Nat->Prop}(h:dw w B v ys)(A:Aside G w w')(J:∀k,B<=k->k<w.1.size->¬G k):dw w' B v ys:=by
 have ab:=h.lt;obtain⟨us,D,Q⟩:=h.out;have ah:=A.size;refine⟨us,⟨D.1,?_⟩,fun j Z=>?_⟩
 ·rcases D.2 with S | ⟨g,cap,K,rfl,E,y,X⟩
  ·exact .inl S
  ·exact .inr ⟨g,cap,K,rfl,E,by rw[A.block g (Array.getElem?_eq_some_iff.1 y).1 (J g E (Array.getElem?_eq_some_iff.1 y).1)];exact y,X⟩
 ·obtain⟨q,d,L,M⟩:=Q j Z;exact⟨q,d,L,(aY.aside M A (fun k o=>J k o.1 o.2.1)).mono (fun k o=>⟨o.1,by omega,o.2.2⟩)⟩
theorem dw.on(h:dw w B v ys)(hb:Below w.1.size w w'):dw w' B v ys:=h.aside (af hb (fun _=>False)) (fun _ _ _ o=>o)
theorem dw.lower{B':Nat}(h:dw w B v ys)(X:B'<=B):dw w B' v ys:=by
 obtain⟨us,o,E⟩:=h.out;refine⟨us,⟨o.1,?_⟩,fun j M=>?_⟩
 ·rcases o.2 with J | ⟨g,cap,y,rfl,S,K,L⟩
  ·exact .inl J
  ·exact .inr ⟨g,cap,y,rfl,by omega,K,L⟩
 ·obtain⟨q,d,A,D⟩:=E j M;exact⟨q,d,A,aY.mono D (fun k Q=>⟨by omega,Q.2⟩)⟩
theorem dw.form(h:dw w B v ys):∃q c,v=.slice q ys.length c∧ys.length<=c:=by
 obtain⟨us,o,E⟩:=h.out;rcases o.2 with ⟨rfl,y⟩ | ⟨g,cap,D,rfl,_,_,A,_⟩
 ·exact⟨U,0,by rw[y],by omega⟩
 ·exact⟨_,_,rfl,A⟩
theorem dw.rows{q:OA}{c:Nat}(h:dw w B (.slice q ys.length c) ys)(E:ys.length*24<=140737488351232)(X:∀y∈ys,∀x∈y,x.wf):cQ w q c ys:=by
 obtain⟨us,L,M⟩:=h.out;rcases L.2 with ⟨A,ai⟩ | ⟨g,cap,ah,A,aj,D,Q,ak,aw,S⟩
 ·injection A with e1 _ e2;exact⟨E,by omega,fun j hj=>by omega⟩
 ·injection A with e1 _ e2;subst e1 e2;refine⟨E,Q,fun j hj=>?_⟩;obtain⟨Z,J,o,K⟩:=M j hj;refine⟨g,0,Z,J,rfl,(Array.getElem?_eq_some_iff.1 D).1,?_,aY.lies K,X _ (Aw hj)⟩;rw[aa D];rw[<-S,List.getElem?_take] at o;simp only[Nat.mul_one] at o;rw[AG hj] at o;simpa using o
end
end
section
open Go.RowKit Go.Shelf
attribute [local go_sem] al Oper.semAt_some
structure me(w w3:World)(B:Nat)(rec:Loop)(v:Value)(ys:List (List V))(W:World):Prop where
 below:Below w.1.size w W
 same:∀k,k<w3.1.size->k≠B->W.1[k]?=w3.1[k]?
 box:W.1[B]?=I (.cells #[v] 36 (0,0))
 has:dw W (w3.1.size+2) v ys
 dfr:W.1[w3.1.size]?=I (.deferred (I []))
 lp:W.1[w3.1.size+1]?=I (.loop rec)
 size:w3.1.size+2<=W.1.size
structure Av(w w3:World)(rec:Loop)(er:Nat)(W:World):Prop where
 below:Below w.1.size w W
 r1:W.1[w.1.size+1]?=I (.cells #[.slice U 0 0] 36 (0,0))
 r2:W.1[w.1.size+1+1]?=I (.cells #[.int .i64 er] 25 (0,0))
 dfr:W.1[w3.1.size]?=I (.deferred (I []))
 lp:W.1[w3.1.size+1]?=I (.loop rec)
section
variable {w w3 W W':World} {B:Nat} {rec:Loop} {v v':Value} {xs ys:List (List V)}
theorem me.on(h:me w w3 B rec v xs W)(hb:Below W.1.size W W'):me w w3 B rec v xs W':=by
 have E:=h.size;have D:=h.below.size;have o:=ap h.box;exact⟨h.below.trans (hb.mono D),fun k y A=>(hb.block k (by omega)).trans (h.same k y A),bQ h.box hb o,h.has.on hb,bQ h.dfr hb (by omega),bQ h.lp hb (by omega),by have:=hb.size;omega⟩
theorem me.turn(h:me w w3 B rec v xs W)(K:w.1.size<=w3.1.size)(D:B<w3.1.size)(y:Loop):me w w3 B y v xs (W.putObj (w3.1.size+1) (.loop y)):=by
 have J:=h.size;exact⟨h.below.trans (dc _ (by omega) h.below.size),fun k o A=>(World.putObj_heap_other (by omega)).trans (h.same k o A),(World.putObj_heap_other (by omega)).trans h.box,h.has.aside (fz _) (fun k o _ E=>by omega),(World.putObj_heap_other (by omega)).trans h.dfr,World.putObj_heap_same (by omega),by simp;omega⟩
theorem me.more(h:me w w3 B rec v xs W)(M:w.1.size<=B)(Q:B<w3.1.size)(A:Aside (fun k=>v.ownBlock=I k) W W')(L:dw W' (w3.1.size+2) v' ys):
  W'.1[B]?=I (.cells #[v] 36 (0,0))∧me w w3 B rec v' ys (W'.setCell ⟨B,0,U⟩ v'):=by
 have S:=h.size;have hold:∀k,k<w3.1.size+2->W'.1[k]?=W.1[k]?:=fun k o=>A.block k (by omega) (fun y=>by have:=(h.has.lt k y).1;omega);have E:W'.1[B]?=I (.cells #[v] 36 (0,0)):=(hold B (by omega)).trans h.box;have D:∀k,k≠B->(W'.setCell ⟨B,0,U⟩ v').1[k]?=W'.1[k]?:=fun k o=>Below.heap_setCell _ _ _ _ o;have K:Below w.1.size W W':=A.below h.below.size (fun k o y=>by have:=(h.has.lt k y).1;omega);refine⟨E,⟨(h.below.trans K).setCell (p:=⟨B,0,U⟩) M _,fun k o J=>?_,by simpa using ao E 0 v',?_,?_,?_,?_⟩⟩
 ·rw[D k J,hold k (by omega)];exact h.same k o J
 ·exact L.aside ((Aside.refl (fun k=>k=B) W').setCell (p:=⟨B,0,U⟩) (.inl rfl) v') (fun k o _ y=>by omega)
 ·rw[D _ (by omega),hold _ (by omega)];exact h.dfr
 ·rw[D _ (by omega),hold _ (by omega)];exact h.lp
 ·have:=A.size;have:(W'.setCell ⟨B,0,U⟩ v').1.size=W'.1.size:=by simp[World.setCell]
  omega
end
end
section
open Go.RowKit
theorem xS:RowsIn:=⟨fun s p c K q d w o y=>uE s p c K q d w o y,fun s p c l q d a w o y A D E J=>uI s p c l q d a w o y A D E J⟩
end
section
abbrev Run:=Nat×L8
structure Sp where
 n:Nat
 last:Option Nat
 out:List Run
 tail:L8
namespace Sp
def start:Sp:=⟨0,U,[],[]⟩
def op(d:Sp):Option Nat:=if d.tail.length<=2200 then d.last else U
def held(d:Sp):L8:=match d.op with | some _=>d.tail | none=>[]
def told(d:Sp)(c:UInt8):List Run:=if c=0 then (match d.op with | some k=>if d.tail=[] then [] else [(k,d.tail)] | none=>[]) else []
def step(d:Sp)(c:UInt8):Sp:=if c=0 then ⟨d.n+1,I d.n,d.out++d.told c,[]⟩ else ⟨d.n+1,d.last,d.out,d.tail++[c]⟩
def run(d:Sp)(l:L8):Sp:=l.foldl step d
def of(l:L8):Sp:=run start l
theorem step_out(d:Sp)(c:UInt8):(d.step c).out=d.out++d.told c:=by
 unfold step;split
 ·rfl
 ·rename_i h;simp[told,h]
theorem step_n(d:Sp)(c:UInt8):(d.step c).n=d.n+1:=by unfold step;split <;> rfl
theorem run_nil(d:Sp):run d []=d:=rfl
theorem run_cons(d:Sp)(c:UInt8)(l:L8):run d (c::l)=run (d.step c) l:=rfl
theorem run_snoc(d:Sp)(a:L8)(c:UInt8):run d (a++[c])=(run d a).step c:=by simp[run,List.foldl_append]
theorem run_n(l:L8):∀d:Sp,(run d l).n=d.n+l.length:=by
 induction l with
 |nil=>intro d;rfl
 |cons c l ih=>
  intro d;rw[run_cons,ih,step_n,AI];omega
theorem run_out(l:L8):∀d:Sp,∃o,(run d l).out=d.out++o:=by
 induction l with
 |nil=>intro d;exact⟨[],by simp[run_nil]⟩
 |cons c l ih=>
  intro d;obtain⟨o,h⟩:=ih (d.step c);exact⟨d.told c++o,by rw[run_cons,h,step_out,AN]⟩
def tolds(d:Sp)(l:L8):List Run:=(run d l).out.drop d.out.length
theorem tolds_out(d:Sp)(l:L8):(run d l).out=d.out++d.tolds l:=by
 obtain⟨o,h⟩:=run_out l d;unfold tolds;rw[h,List.drop_left]
theorem tolds_nil(d:Sp):d.tolds []=[]:=by simp[tolds,run_nil]
theorem tolds_snoc(d:Sp)(l:L8)(c:UInt8):d.tolds (l++[c])=d.tolds l++(run d l).told c:=by
 have o:=tolds_out d (l++[c]);rw[run_snoc,step_out,tolds_out,AN] at o;exact(List.append_cancel_left o).symm
structure Ok(d:Sp):Prop where
 tail0:d.last=U->d.out=[]
 lastn:∀k,d.last=I k->k+1+d.tail.length=d.n
 none0:d.last=U->d.tail.length=d.n
theorem held_le(d:Sp):d.held.length<=2200:=by
 unfold held op;by_cases h:d.tail.length<=2200
 ·rw[AG h];cases d.last <;> simp[h]
 ·rw[AF h];simp
theorem held_op{d:Sp}(o:d.op=I k):d.held=d.tail:=by simp[held,o]
theorem held_none{d:Sp}(o:d.op=U):d.held=[]:=by simp[held,o]
theorem step_fence(d:Sp):d.step 0=⟨d.n+1,I d.n,d.out++d.told 0,[]⟩:=by simp[step]
theorem fence_op(d:Sp):(d.step 0).op=I d.n:=by simp[step,op]
theorem fence_held(d:Sp):(d.step 0).held=[]:=by rw[held_op (fence_op d),step_fence]
theorem told_some{d:Sp}(o:d.op=I k):d.told 0=if d.held=[] then [] else [(k,d.held)]:=by simp[told,o,held_op o]
theorem told_none{d:Sp}(o:d.op=U)(c:UInt8):d.told c=[]:=by simp[told,o]
theorem told_else{d:Sp}{c:UInt8}(o:c≠0):d.told c=[]:=by simp[told,o]
theorem step_op_none{d:Sp}(o:d.op=U){c:UInt8}(y:c≠0):(d.step c).op=none:=by
 unfold op at o ⊢;simp only[step,AF y,AH,AO];by_cases h:d.tail.length<=2200
 ·rw[AG h] at o;rw[o];split <;> rfl
 ·rw[AF (by omega)]
theorem step_op_full{d:Sp}(A:d.op=I k){c:UInt8}(o:c≠0)(y:d.held.length=2200):(d.step c).op=none:=by
 rw[held_op A] at y;unfold op;simp only[step,AF o,AH,AO];rw[AF (by omega)]
theorem step_op_some{d:Sp}(E:d.op=I k){c:UInt8}(D:c≠0)(K:d.held.length≠2200):(d.step c).op=I k∧(d.step c).held=d.held++[c]:=by
 have J:=held_le d;have y:=held_op E;rw[y] at K J;have A:(d.step c).op=I k:=by
  have o:=E;unfold op at o ⊢;rw[AG J] at o;simp only[step,AF D,AH,AO];rw[AG (by omega)];exact o
 refine⟨A,?_⟩;rw[held_op A,y];simp[step,D]
theorem told_pos{d:Sp}{c:UInt8}:∀r∈d.told c,r.2≠[]∧r.2.length<=2200:=by
 intro r o;unfold told at o;split at o
 ·cases hk:d.op with
  |none=>rw[hk] at o;simp at o
  |some k=>
   rw[hk] at o;have:=held_le d;rw[held_op hk] at this;by_cases y:d.tail=[]
   ·simp[y] at o
   ·simp[y] at o;subst o;exact⟨y,this⟩
 ·simp at o
theorem told_len(d:Sp)(c:UInt8):(d.told c).length<=1:=by
 unfold told;split
 ·cases d.op with
  |none=>simp
  |some k=>simp only[];split <;> simp
 ·simp
theorem tolds_len(d:Sp)(l:L8):(d.tolds l).length<=l.length:=by
 have:∀l:L8,∀d:Sp,(run d l).out.length<=d.out.length+l.length:=by
  intro l;induction l with
  |nil=>intro d;simp[run_nil]
  |cons c l ih=>
   intro d;have o:=ih (d.step c);have y:=told_len d c;rw[run_cons];rw[step_out,AH] at o;rw[AI];omega
 have h:=this l d;unfold tolds;rw[AL];omega
theorem out_len(l:L8):(of l).out.length<=l.length:=by
 have:=tolds_len start l;have o:=tolds_out start l;simp[start] at o;unfold of;rw[show(start.run l).out=_ from o];exact this
end Sp
end
section
namespace Sp
structure In(m:L8):Prop where
 some_:∀k,(of m).last=I k->k<m.length∧m[k]?=I 0∧m.drop (k+1)=(of m).tail
 none_:(of m).last=U->m=(of m).tail
 tail:∀x∈(of m).tail,x≠0
end Sp
end
section
namespace Sp
structure Stand(m:L8)(r:Run):Prop where
 pos:1<=r.2.length
 most:r.2.length<=2200
 fit:r.1+r.2.length+1<m.length
 ahead:m[r.1]?=I 0
 behind:m[r.1+r.2.length+1]?=I 0
 bytes:(m.drop (r.1+1)).take r.2.length=r.2
 clean:∀x∈r.2,x≠0
theorem Stand.append{m:L8}{r:Run}(h:Stand m r)(l:L8):Stand (m++l) r:=by
 have o:=h.fit;refine⟨h.pos,h.most,by simp;omega,?_,?_,?_,h.clean⟩
 ·rw[List.getElem?_append_left (by omega)];exact h.ahead
 ·rw[List.getElem?_append_left (by omega)];exact h.behind
 ·rw[List.drop_append_of_le_length (by omega),List.take_append_of_le_length (by simp;omega)];exact h.bytes
structure Row(m:L8):Prop where
 stand:∀r∈(of m).out,Stand m r
 sorted:(of m).out.Pairwise (fun a b=>a.1<b.1)
 low:∀r∈(of m).out,∀k,(of m).last=I k->r.1<k
def shift(s:Nat)(rs:List Run):List Run:=rs.map fun r=>(r.1+s,r.2)
structure Twin(s:Nat)(pre:List Run)(d e:Sp):Prop where
 n:d.n=e.n+s
 last:d.last=e.last.map (·+s)
 tail:d.tail=e.tail
 out:d.out=pre++shift s e.out
theorem Twin.step{s:Nat}{pre:List Run}{d e:Sp}(h:Twin s pre d e)(c:UInt8):Twin s pre (d.step c) (e.step c):=by
 by_cases o:c=0
 ·subst o;have y:d.op=e.op.map (·+s):=by
   unfold op;rw[h.tail];split
   ·exact h.last
   ·rfl
  have A:d.told 0=shift s (e.told 0):=by
   unfold told;simp only[if_true,y,h.tail];cases e.op with
   |none=>rfl
   |some k=>
    simp only[Option.map_some];split <;> simp[shift]
  rw[step_fence,step_fence];refine⟨by have:=h.n;simp only;omega,?_,rfl,?_⟩
  ·simp only[Option.map_some];rw[h.n]
  ·simp only;rw[h.out,A,AN];simp[shift]
 ·simp only[Sp.step,AF o];refine⟨by have:=h.n;simp only;omega,h.last,?_,h.out⟩;simp only;rw[h.tail]
theorem Twin.run{s:Nat}{pre:List Run}(l:L8):∀{d e:Sp},Twin s pre d e->Twin s pre (d.run l) (e.run l):=by
 induction l with
 |nil=>intro d e h;exact h
 |cons c l ih=>intro d e h;rw[run_cons,run_cons];exact ih (h.step c)
end Sp
end
end Go.Proofs.YtngmnfdaedlodaaGreatDoor

import Derived.Test.YtngmnfdaedlodaaGreatDoorRows
import Derived.WalkSpells
import Derived.WalkLawsBesides
import Derived.BigQuiet
import Derived.Lib.ItoaMem
import Derived.Deep.Upon
import Derived.Deep.AppendLies
set_option maxRecDepth 100000
namespace Go.Proofs.YtngmnfdaedlodaaGreatDoor
theorem AF{c:Prop}{h:Decidable c}(n:¬c){α:Sort _}{t e:α}:ite c t e=e:=if_neg n
theorem AG{c:Prop}{h:Decidable c}(n:c){α:Sort _}{t e:α}:ite c t e=t:=if_pos n
theorem AH{α}{a b:List α}:(a++b).length=a.length+b.length:=List.length_append
theorem AI{α}{x:α}{a:List α}:(x::a).length=a.length+1:=List.length_cons
theorem AL{α}{i:Nat}{a:List α}:(a.drop i).length=a.length-i:=List.length_drop
theorem AM{α}{i:Nat}{a:List α}:(a.take i).length=min i a.length:=List.length_take
theorem AN{α}(a b c:List α):a++b++c=a++(b++c):=List.append_assoc a b c
theorem AO{α}{a:α}:[a].length=1:=List.length_singleton
theorem AP{p:Prop}[i:Decidable p](h:¬p):decide p=false:=decide_eq_false h
theorem AR{p:Prop}[i:Decidable p](h:p):decide p=true:=decide_eq_true h
theorem AS{n m k:Nat}(h:n<m)(g:m<=k):n<k:=Nat.lt_of_lt_of_le h g
theorem AT{n m k:Nat}(h:n<=m)(g:m<=k):n<=k:=Nat.le_trans h g
theorem Az{α}(a:List α):a++[]=a:=List.append_nil a
theorem Ax{α}{i j:Nat}{l:List α}:(l.drop j).drop i=l.drop (j+i):=List.drop_drop
theorem Aw{α}{l:List α}{n:Nat}(h:n<l.length):l[n]∈l:=List.getElem_mem h
theorem BQ{α}[BEq α][LawfulBEq α]{a b:α}:(a==b)=false↔a≠b:=beq_eq_false_iff_ne
open Go.Proofs.Tryz
open Go renaming World->I,Value->R
open Option renaming some->U,none->Y
open Go.Value renaming slice->O
open Go.Proofs.Tryz renaming prog->N
open Go.RowKit renaming Below->AC
open Go.Obj renaming cells->wx
abbrev L8:=List UInt8
abbrev OA:=Option Addr
abbrev AV:=Array R
theorem gQq{p:Prop}(h:p):Go.RowKit.Hid p:=h
theorem gQx{n:Nat}:n<=n:=Nat.le_refl n
theorem gQz{B:Nat}{w:I}:Go.RowKit.Below B w w:=Go.RowKit.Below.refl _ _
theorem gQy{w:I}{o:Obj}:Go.RowKit.Below w.heap.size w (w.alloc o):=gQz.alloc gQx _
section
open Go.RowKit
def cT(w:I)(b o:Nat)(l:L8):Prop:=∀j (h:j<l.length),w.cell? ⟨b,o+j,Y⟩=U (.int .u8 (l[j].toNat:Int))
def At(w:I)(p:OA)(l:L8):Prop:=l=[]∨∃b o,p=U ⟨b,o,Y⟩∧b<w.1.size∧cT w b o l
theorem At.on{w w':I}{p:OA}{l:L8}(h:At w p l)(hb:AC w.1.size w w'):At w' p l:=by
 rcases h with rfl | ⟨b,o,rfl,y,A⟩
 ·exact .inl rfl
 ·refine .inr ⟨b,o,rfl,by have:=hb.size;omega,fun j D=>?_⟩;rw[hb.cell (p:=⟨b,o+j,Y⟩) y];exact A j D
theorem At.drewN{w:I}{p:OA}{l:L8}(h:At w p l)(n:Nat):At (w.drewN n) p l:=by
 rcases h with rfl | ⟨b,A,rfl,o,y⟩
 ·exact .inl rfl
 ·exact .inr ⟨b,A,rfl,o,y⟩
theorem below_drewN{B:Nat}{a w:I}(h:AC B a w)(n:Nat):AC B a (w.drewN n):=⟨h.os,h.tape,h.output,h.size,h.block⟩
end
section
open Go.RowKit
def cellsOf(l:L8):List Value:=l.map fun b=>Value.int .u8 (b.toNat:Int)
theorem bC(l:L8)(j:Nat)(h:j<l.length):(cellsOf l)[j]?=U (.int .u8 (l[j].toNat:Int)):=by
 simp[cellsOf,h]
theorem gX{w:I}{p:OA}{l:L8}(c:Nat)(h:At w p l):Src N 1 40 (O p l.length c) l.length (cellsOf l) w:=by
 have E:∀u∈cellsOf l,u.oneCell'=true:=fun u J=>by
  obtain⟨_,_,rfl⟩:=List.mem_map.1 J;rfl
 cases p with
 |none=>
  rcases h with rfl | ⟨b,K,y,_,_⟩
  ·exact Src.ofNil w underlying40 c
  ·cases y
 |some a=>
  refine Src.ofSlice w underlying40 a l.length c (cellsOf l) (by simp[cellsOf]) (fun j u o=>?_) E;rcases h with rfl | ⟨b,K,y,_,D⟩
  ·simp[cellsOf] at o
  ·cases y
   have A:j<l.length:=by
    have:=(List.getElem?_eq_some_iff.1 o).1;simpa[cellsOf] using this
   rw[bC l j A] at o;cases o
   have:=D j A;rw[Lib.add_plain];exact this
theorem iI:(Tryz.prog.info? 5).map (fun i=>(i.zero,i.size,i.bytes))=U (U (.int .u8 0),1,1):=by kernel_rfl
theorem rx(w:I)(l:L8)(zs:AV)(T:TypeId):cT (w.alloc (wx ((cellsOf l).toArray++zs) T)) w.1.size 0 l:=fun j o=>by
 rw[Nat.zero_add,World.cell?_alloc_new];have y:j<(cellsOf l).toArray.size:=by simpa[cellsOf] using o
 rw[Array.getElem?_append_left y];have:=bC l j o;simpa using this
def Own(w:I)(b:Nat)(l:L8):Prop:=∃zs,w.1[b]?=U (wx ((cellsOf l).toArray++zs) 5)
theorem Own.lt{w:I}{b:Nat}{l:L8}(h:Own w b l):b<w.1.size:=by
 obtain⟨zs,h⟩:=h;exact(Array.getElem?_eq_some_iff.1 h).1
theorem Own.cells{w:I}{b:Nat}{l:L8}(h:Own w b l):cT w b 0 l:=fun j o=>by
 obtain⟨zs,h⟩:=h;rw[Nat.zero_add];have y:j<(cellsOf l).toArray.size:=by simpa[cellsOf] using o
 have A:=bC l j o;unfold World.cell?;rw[h];show((cellsOf l).toArray++zs)[j]?=_;rw[Array.getElem?_append_left y];simpa using A
theorem Own.at{w:I}{b:Nat}{l:L8}(h:Own w b l):At w (U ⟨b,0,Y⟩) l:=.inr ⟨b,0,rfl,h.lt,h.cells⟩
theorem Own.thawed{w:I}{b:Nat}{l:L8}(h:Own w b l)(j:Nat):w.frozen? ⟨b,j,Y⟩=false:=by
 obtain⟨zs,h⟩:=h;simp[World.frozen?,h]
theorem Own.set{w:I}{b:Nat}{l:L8}(h:Own w b l)(i:Nat)(v:UInt8)(y:i<l.length):Own (w.setCell ⟨b,i,Y⟩ (.int .u8 (v.toNat:Int))) b (l.set i v):=by
 obtain⟨zs,h⟩:=h;refine⟨zs,?_⟩;have o:i<(cellsOf l).toArray.size:=by simpa[cellsOf] using y
 have e:(cellsOf (l.set i v)).toArray=(cellsOf l).toArray.set! i (.int .u8 (v.toNat:Int)):=by
  simp[cellsOf,List.map_set]
 rw[e];have hb:=(Array.getElem?_eq_some_iff.1 h).1;simp only[World.setCell,Array.getElem?_modify,h,if_true,Option.map_some];rw[AF (by simp),Array.set!_eq_setIfInBounds,Array.setIfInBounds_append_left o]
theorem aV(w:I)(o:Obj):(w.alloc o).1[w.1.size]?=U o:=by
 show(w.1.push o)[w.1.size]?=_;simp
theorem wpList_append_run{P:Program}(w:I){A:Array Oper}{rest:List Oper}{o:Oper}{a:Act}{y:Exit->Act->I->Prop}(M:o.guard=Y)(s x:Operand)(t D:TypeId)(Q:o.op=Op.call { callee:=Callee.builtin Builtin.append,args:=#[s,x],argTypes:=#[t,D] })(E J:R)(V:a.eval s=E)(X:a.eval x=J)(v':R)(w':I)(S:(Builtin.append_ #[t,D] o.type #[E,J]).run P w=.ok v' w')(K:wpList P A y rest (a.put o.dst v') w'):wpList P A y (o::rest) a w:=by
 refine wpList_plain M fun Z L=>?_;unfold Oper.wp;simp[execOp,Q,resolve,invoke,builtin,V,X,S,Result.andThen];exact L _ _ K
structure cA(P:Program)(t tx ty:TypeId)(vs vx:R)(w:I)(v':R)(w':I):Prop where
 run:(Builtin.append_ #[t,tx] ty #[vs,vx]).run P w=.ok v' w'
theorem aQ{P:Program}{w:I}{J:Array Oper}{rest:List Oper}{o:Oper}{a:Act}{E:Exit->Act->I->Prop}{s x:Operand}{t y:TypeId}{A D v':R}{w':I}(h:cA P t y o.type A D w v' w')(L:o.guard=Y)(M:o.op=Op.call { callee:=Callee.builtin Builtin.append,args:=#[s,x],argTypes:=#[t,y] })(Q:a.eval s=A)(S:a.eval x=D)(K:wpList P J E rest (a.put o.dst v') w'):wpList P J E (o::rest) a w :=
 wpList_append_run w L s x t y M A D Q S v' w' h.run K
end
section
open Go.RowKit
def br(w:I)(B g cap:Nat)(l:L8):Prop:=w.ownsRow B 5 1 (O (U ⟨g,0,Y⟩) l.length cap) l.length (cellsOf l)
theorem br.at{w:I}{B g cap:Nat}{l:L8}(h:br w B g cap l):At w (U ⟨g,0,Y⟩) l:=by
 refine .inr ⟨g,0,rfl,(World.ownsRow.lt h g rfl).2,fun j o=>?_⟩;have:=World.ownsRow.cells h (g:=g) rfl j _ (bC l j o);rw[Lib.add_plain] at this;exact this
theorem nc(w:I):br (w.alloc (wx #[] 5)) w.1.size w.1.size 0 []:=by
 refine⟨rfl,.inr ⟨w.1.size,0,#[],rfl,gQx,aV w _,gQx,by simp[maxLen],rfl,rfl⟩⟩
theorem bZ(a b:L8):cellsOf (a++b)=cellsOf a++cellsOf b:=by simp[cellsOf]
theorem aX(a:L8):(cellsOf a).length=a.length:=by simp[cellsOf]
end
section
open Go.RowKit
def fD(w:I)(g o:Nat)(l:L8):Prop:=g<w.1.size∧cT w g o l∧∀j,j<l.length->w.frozen? ⟨g,o+j,Y⟩=false
theorem fD.at{w:I}{g o:Nat}{l:L8}(h:fD w g o l):At w (U ⟨g,o,Y⟩) l:=.inr ⟨g,o,rfl,h.1,h.2.1⟩
theorem fD.set{w:I}{g y:Nat}{l:L8}(h:fD w g y l)(i:Nat)(v:UInt8)(K:i<l.length):fD (w.setCell ⟨g,y+i,Y⟩ (.int .u8 (v.toNat:Int))) g y (l.set i v):=by
 obtain⟨D,A,E⟩:=h;refine⟨by simpa[World.setCell] using D,fun j o=>?_,fun j o=>?_⟩
 ·rw[List.length_set] at o;by_cases e:i=j
  ·subst e;rw[World.cell?_setCell_same (h:=A i K),List.getElem_set_self]
  ·rw[World.cell?_setCell_other (h:=by intro J;injection J;omega),A j o,List.getElem_set_ne e]
 ·rw[List.length_set] at o;rw[World.frozen?_setCell];exact E j o
theorem fD.on{w w':I}{B g o:Nat}{l:L8}(h:fD w g o l)(A:g<B)(hb:AC B w w'):fD w' g o l:=by
 obtain⟨J,D,E⟩:=h;refine⟨by have:=hb.size;omega,fun j y=>?_,fun j y=>?_⟩
 ·rw[hb.cell (p:=⟨g,o+j,Y⟩) A];exact D j y
 ·rw[hb.frozen (p:=⟨g,o+j,Y⟩) A];exact E j y
theorem Own.free{w:I}{b:Nat}{l:L8}(h:Own w b l):fD w b 0 l:=⟨h.lt,h.cells,fun j _=>by rw[Nat.zero_add];exact h.thawed j⟩
theorem br.free{w:I}{B g cap:Nat}{l:L8}(h:br w B g cap l):fD w g 0 l:=by
 refine⟨(World.ownsRow.lt h g rfl).2,fun j A=>?_,fun j _=>?_⟩
 ·have:=World.ownsRow.cells h (g:=g) rfl j _ (bC l j A);rw[Lib.add_plain] at this;exact this
 ·rcases h.2 with ⟨o,_⟩ | ⟨J,D,E,o,_,y,_⟩
  ·cases o
  ·cases o
   simp[World.frozen?,y]
theorem br.base{w:I}{B g cap:Nat}{l:L8}(h:br w B g cap l):B<=g∧g<w.1.size∧l.length<=cap:=by
 refine⟨(World.ownsRow.lt h g rfl).1,(World.ownsRow.lt h g rfl).2,?_⟩;rcases h.2 with ⟨o,_⟩ | ⟨E,A,D,o,_,_,y,_⟩
 ·cases o
 ·cases o;exact y
theorem dL{w:I}{b o:Nat}{l:L8}(h:cT w b o l)(n:Nat):cT w b (o+n) (l.drop n):=fun j y=>by
 have A:n+j<l.length:=by rw[AL] at y;omega
 have:=h (n+j) A;rw[<-Nat.add_assoc] at this;rw[this,List.getElem_drop]
theorem cF{w:I}{b o:Nat}{l:L8}(h:cT w b o l)(n:Nat):cT w b o (l.take n):=fun j y=>by
 have A:j<l.length:=by rw[AM] at y;omega
 rw[h j A,List.getElem_take]
theorem aP{w:I}{p:OA}{l:L8}(h:At w p l)(y:0<l.length):∃b o,p=U ⟨b,o,Y⟩∧b<w.1.size∧cT w b o l:=by
 rcases h with rfl | h
 ·simp at y
 ·exact h
end
section
open Go.RowKit
def Has(w:I)(B:Nat)(v:R)(l:L8):Prop:=w.ownsRow B 5 1 v l.length (cellsOf l)
theorem bG(w:I)(B:Nat):Has w B (O Y 0 0) []:=⟨rfl,.inl ⟨rfl,rfl⟩⟩
theorem br.has{w:I}{B g cap:Nat}{l:L8}(h:br w B g cap l):Has w B (O (U ⟨g,0,Y⟩) l.length cap) l:=h
theorem Has.form{w:I}{B:Nat}{v:R}{l:L8}(h:Has w B v l):(v=O Y 0 0∧l=[])∨∃g cap,v=O (U ⟨g,0,Y⟩) l.length cap∧br w B g cap l:=by
 rcases h.2 with ⟨y,A⟩ | ⟨g,cap,o,rfl,D⟩
 ·exact .inl ⟨y,List.eq_nil_of_length_eq_zero A⟩
 ·exact .inr ⟨g,cap,rfl,h.1,.inr ⟨g,cap,o,rfl,D⟩⟩
theorem Has.at{w:I}{B:Nat}{v:R}{l:L8}(h:Has w B v l):∃p cap,v=O p l.length cap∧At w p l∧l.length<=cap:=by
 rcases h.form with ⟨rfl,rfl⟩ | ⟨g,cap,rfl,o⟩
 ·exact⟨Y,0,rfl,.inl rfl,gQx⟩
 ·exact⟨_,cap,rfl,o.at,o.base.2.2⟩
theorem Has.drew{w:I}{B:Nat}{v:R}{l:L8}(h:Has w B v l):Has w.drew B v l:=h
theorem Has.drewN{w:I}{B:Nat}{v:R}{l:L8}(h:Has w B v l)(n:Nat):Has (w.drewN n) B v l:=h
theorem Has.alloc{w:I}{B:Nat}{v:R}{l:L8}(h:Has w B v l)(o:Obj):Has (w.alloc o) B v l:=World.ownsRow.alloc h o
theorem tE(B:Nat)(v:R)(xs l:L8)(a:Addr)(c:Nat)(w:I)(L:Has w B v xs)(h:At w (U a) l)(M:l≠[])(a2:xs.length+l.length<=140737488355328)(K:B<=w.1.size):
  ∃(y cap':Nat) (W:I),cA N 40 40 40 v (O (U a) l.length c) w (O (U ⟨y,0,Y⟩) (xs++l).length cap') W∧br W B y cap' (xs++l)∧AC B w W:=by
 obtain⟨i,ab,a1,aw,Q⟩:=info_parts iI;have V:∀j u,(cellsOf l)[j]?=U u->w.cell? (a.add j)=U u:=fun j u D=>by
  have E:j<l.length:=by
   have:=(List.getElem?_eq_some_iff.1 D).1;simpa[cellsOf] using this
  rcases h with rfl | ⟨b,o,aj,_,S⟩
  ·simp at E
  ·cases aj
   rw[bC l j E] at D;cases D
   rw[Lib.add_plain];exact S j E
 obtain⟨v',W,ak,J,Z,ai⟩:=run_append_own (P:=N) w B 40 40 5 i (.int .u8 0) 1 1 underlying40 ab a1 aw Q rfl (by decide) v xs.length (cellsOf xs) L a l.length c (cellsOf l) (by rw[aX,Nat.mul_one]) V
  (fun u a0=>by obtain⟨_,_,rfl⟩:=List.mem_map.1 a0;rfl) (by unfold maxLen;omega) (by omega) K
 rw[<-bZ,<-AH] at J;have X:∃y cap',v'=O (U ⟨y,0,Y⟩) (xs++l).length cap':=by
  rcases J.2 with ⟨A,_⟩ | ⟨y,cap',_,A,_⟩
  ·have:=(ai.1 A).2;exact absurd (List.eq_nil_of_length_eq_zero this) M
  ·exact⟨y,cap',A⟩
 obtain⟨y,cap',rfl⟩:=X;exact⟨y,cap',W,⟨ak⟩,J,gQz.grown Z K (fun k ah=>(World.ownsRow.lt L k ah).1)⟩
theorem gk{B:Nat}{v:R}{xs:L8}{w:I}(ab:Has w B v xs)(c:UInt8)(V:xs.length+1<=140737488355328)(A:B<=w.1.size){z:Int}{J:Array Oper}{rest:List Oper}{o:Oper}{a:Act}{y:Exit->Act->I->Prop}{s x:Operand}(aw:z=(c.toNat:Int))(aj:o.type=40)(M:o.guard=Y)(Z:o.op=Op.call { callee:=Callee.builtin Builtin.append,args:=#[s,x],argTypes:=#[40,40] })(ai:a.eval s=v)(ak:a.eval x=O (U ⟨w.1.size,0,Y⟩) 1 1)(K:∀g cap W,br W B g cap (xs++[c])->AC B w W->wpList N J y rest (a.put o.dst (O (U ⟨g,0,Y⟩) (xs.length+1) cap)) W):
  wpList N J y (o::rest) a (w.alloc (wx #[.int .u8 z] 5)):=by
 have L:At (w.alloc (wx #[.int .u8 z] 5)) (U ⟨w.1.size,0,Y⟩) [c]:=by
  refine .inr ⟨_,_,rfl,by simp,fun j Q=>?_⟩;have S:j=0:=by simp at Q;omega
  subst S;rw[World.cell?_alloc_new,aw];rfl
 have D:AC B w (w.alloc (wx #[.int .u8 z] 5)):=gQz.alloc A _;obtain⟨g,cap,W,E,X,hb⟩:=tE B v xs [c] ⟨w.1.size,0,Y⟩ 1 _ (ab.alloc _) L (by simp) (by simpa using V) (AT A D.size);have e:(xs++[c]).length=xs.length+1:=by simp
 rw[e] at E;have ah:cA N 40 40 o.type v (O (U ⟨w.1.size,0,Y⟩) 1 1) (w.alloc (wx #[.int .u8 z] 5)) (O (U ⟨g,0,Y⟩) (xs.length+1) cap) W:=by rw[aj];exact E
 exact aQ ah M Z ai ak (K g cap W X (D.trans hb))
end
section
open Go.RowKit
structure Aside(F:Nat->Prop)(w w':I):Prop where
 os:w'.os=w.os
 tape:w'.tape=w.tape
 output:w'.output=w.output
 size:w.1.size<=w'.1.size
 block:∀k,k<w.1.size->¬F k->w'.1[k]?=w.1[k]?
section
variable {F G:Nat->Prop} {w w' w'':I}
theorem Aside.refl(F:Nat->Prop)(w:I):Aside F w w:=⟨rfl,rfl,rfl,gQx,fun _ _ _=>rfl⟩
theorem Aside.trans(h:Aside F w w')(k:Aside G w' w'')(D:∀i,i<w.1.size->G i->F i):Aside F w w'' :=
 ⟨k.os.trans h.os,k.tape.trans h.tape,k.output.trans h.output,AT h.size k.size,fun i o y=>(k.block i (AS o h.size) (fun A=>y (D i o A))).trans (h.block i o y)⟩
theorem Aside.mono(h:Aside F w w')(D:∀i,i<w.1.size->F i->G i):Aside G w w' :=
 ⟨h.os,h.tape,h.output,h.size,fun i o A=>h.block i o (fun y=>A (D i o y))⟩
theorem gO{B:Nat}(h:AC B w w')(y:∀k,k<w.1.size->B<=k->F k):Aside F w w' :=
 ⟨h.os,h.tape,h.output,h.size,fun k D A=>h.block k (by
  rcases Nat.lt_or_ge k B with o | o
  ·exact o
  ·exact absurd (y k D o) A)⟩
theorem af(h:AC w.1.size w w')(F:Nat->Prop):Aside F w w':=gO h fun _ o y=>absurd o (Nat.not_lt_of_le y)
theorem Aside.below{B:Nat}(h:Aside F w w')(A:B<=w.1.size)(o:∀k,k<B->¬F k):AC B w w' :=
 ⟨h.os,h.tape,h.output,h.size,fun k y=>h.block k (by omega) (o k y)⟩
theorem Aside.alloc(h:Aside F w w')(o:Obj):Aside F w (w'.alloc o) :=
 h.trans (af ((Below.refl w'.1.size w').alloc gQx o) F) fun _ _ h=>h
theorem Aside.drew(h:Aside F w w'):Aside F w w'.drew:=⟨h.os,h.tape,h.output,h.size,h.block⟩
theorem Aside.drewN(h:Aside F w w')(n:Nat):Aside F w (w'.drewN n):=⟨h.os,h.tape,h.output,h.size,h.block⟩
theorem Aside.setCell(h:Aside F w w'){p:Addr}(o:F p.block∨w.1.size<=p.block)(u:R):Aside F w (w'.setCell p u):=by
 refine⟨h.os,h.tape,h.output,by simpa[World.setCell] using h.size,fun k D y=>?_⟩;rw[Below.heap_setCell _ _ _ _ (fun A=>?_)]
 ·exact h.block k D y
 ·rcases o with o | o
  ·rw[<-A] at o;exact y o
  ·omega
theorem Aside.cell(h:Aside F w w'){p:Addr}(o:p.block<w.1.size)(y:¬F p.block):w'.cell? p=w.cell? p:=World.cell?_of_block (w:=w) (h.block p.block o y)
theorem Aside.frozen(h:Aside F w w'){p:Addr}(o:p.block<w.1.size)(y:¬F p.block):w'.frozen? p=w.frozen? p:=World.frozen?_of_block (w:=w) (h.block p.block o y)
end
end
section
open Go.RowKit
section
variable {F G:Nat->Prop} {w w' w'':I}
theorem At.aside{p:OA}{l:L8}(h:At w p l)(y:Aside F w w')(J:∀b o,p=U ⟨b,o,Y⟩->¬F b):At w' p l:=by
 rcases h with rfl | ⟨b,o,rfl,E,A⟩
 ·exact .inl rfl
 ·refine .inr ⟨b,o,rfl,by have:=y.size;omega,fun j D=>?_⟩;rw[y.cell (p:=⟨b,o+j,Y⟩) E (J b o rfl)];exact A j D
theorem Has.lt{B:Nat}{v:R}{l:L8}(h:Has w B v l):∀k,v.ownBlock=U k->B<=k∧k<w.1.size:=World.ownsRow.lt h
theorem Has.aside{B:Nat}{v:R}{l:L8}(h:Has w B v l)(J:Aside F w w')(K:∀k,v.ownBlock=U k->¬F k):Has w' B v l:=by
 refine⟨h.1,?_⟩;rcases h.2 with A | ⟨g,cap,y,rfl,D,o,E⟩
 ·exact .inl A
 ·refine .inr ⟨g,cap,y,rfl,D,?_,E⟩;rw[J.block g (Array.getElem?_eq_some_iff.1 o).1 (K g rfl)];exact o
theorem Has.low{B B':Nat}{v:R}{l:L8}(h:Has w B v l)(E:B'<=B):Has w B' v l:=by
 refine⟨h.1,?_⟩;rcases h.2 with y | ⟨g,cap,o,rfl,D,A⟩
 ·exact .inl y
 ·exact .inr ⟨g,cap,o,rfl,by omega,A⟩
end
end
section
open Go.RowKit
theorem ce{w w':I}{row:Option Nat}(o:w.grownBy w' row):Aside (fun k=>row=U k) w w':=⟨o.os,o.tape,o.output,o.size,fun k D A=>o.block k D (fun y=>A y.symm)⟩
theorem eW(B:Nat)(v:R)(xs l:L8)(p:OA)(c:Nat)(w:I)(D:Has w B v xs)(h:At w p l)(a4:xs.length+l.length<=140737488355328)(X:B<=w.1.size):
  ∃(q:OA) (cap:Nat) (W:I),cA N 40 40 40 v (O p l.length c) w (O q (xs++l).length cap) W∧Has W B (O q (xs++l).length cap) (xs++l)∧Aside (fun k=>v.ownBlock=U k) w W∧(xs++l).length<=cap∧∀k,(O q (xs++l).length cap).ownBlock=U k->v.ownBlock=U k∨w.1.size<=k:=by
 obtain⟨i,L,aw,V,Z⟩:=info_parts iI;by_cases y:l=[]
 ·subst y;obtain⟨q,cap,rfl,-,K⟩:=D.at;rw[Az];exact⟨q,cap,w,⟨run_append_nothing (P:=N) w 40 40 40 5 i underlying40 L q xs.length cap K (O p 0 c) (by rw[V];exact gX c h)⟩,D,Aside.refl _ _,K,fun k hk=>.inl hk⟩
 ·obtain⟨b,o,rfl,a3,ab⟩:=aP h (List.length_pos_iff.2 y)
  obtain⟨g,cap,W,S,Q,aj,ai,_⟩:=run_append_lies (P:=N) w 40 40 B 5 i (.int .u8 0) 1 1 underlying40 L aw V Z rfl (by decide) v xs.length (cellsOf xs) D ⟨b,o,Y⟩ l.length c (cellsOf l) (by rw[aX,Nat.mul_one])
   (fun j u A=>by
    have M:j<l.length:=by
     have:=(List.getElem?_eq_some_iff.1 A).1;simpa[cellsOf] using this
    rw[bC l j M] at A;cases A
    rw[Lib.add_plain];exact ab j M)
   (fun u ak=>by obtain⟨_,_,rfl⟩:=List.mem_map.1 ak;rfl) (List.length_pos_iff.2 y) (by unfold maxLen;omega) (by omega) X w.1.size rfl
  rw[<-bZ,<-AH] at Q;rw[<-AH] at S;have J:Has W B (O (U ⟨g,0,Y⟩) (xs++l).length cap) (xs++l):=Q;refine⟨U ⟨g,0,Y⟩,cap,W,⟨S⟩,J,ce aj,?_,?_⟩
  ·obtain⟨a5,a1,ah,_,a2⟩:=J.at;injection ah with _ _ e2;omega
  ·intro k hk;simp only[Value.ownBlock,Option.some.injEq] at hk;subst hk;rcases ai with E | E
   ·exact .inl E
   ·exact .inr (by omega)
theorem aD{B:Nat}{v:R}{xs l:L8}{p:OA}{c:Nat}{w:I}(X:Has w B v xs)(h:At w p l)(Q:xs.length+l.length<=140737488355328)(J:B<=w.1.size){D:Array Oper}{rest:List Oper}{o:Oper}{a:Act}{A:Exit->Act->I->Prop}{E x:Operand}(ai:o.type=40)(M:o.guard=Y)(V:o.op=Op.call { callee:=Callee.builtin Builtin.append,args:=#[E,x],argTypes:=#[40,40] })(ah:a.eval E=v)(aj:a.eval x=O p l.length c)(K:∀y q cap W,Hid (y=xs++l)->Has W B (O q y.length cap) y->Aside (fun k=>v.ownBlock=U k) w W->(∀k,(O q y.length cap).ownBlock=U k->v.ownBlock=U k∨w.1.size<=k)->wpList N D A rest (a.put o.dst (O q y.length cap)) W):
  wpList N D A (o::rest) a w:=by
 obtain⟨q,cap,W,Z,S,L,-,hb⟩:=eW B v xs l p c w X h Q J;have ab:cA N 40 40 o.type v (O p l.length c) w (O q (xs++l).length cap) W:=by rw[ai];exact Z
 exact aQ ab M V ah aj (K _ q cap W (gQq rfl) S L hb)
theorem strCells_eq(t:ByteArray):Lib.strCells t=cellsOf t.data.toList:=by
 simp[Lib.strCells,cellsOf]
theorem m7(B:Nat)(v:R)(xs:L8)(t:ByteArray)(w:I)(J:Has w B v xs)(aj:xs.length+t.size<=140737488355328)(Z:B<=w.1.size):
  ∃(q:OA) (cap:Nat) (W:I),cA N 40 9 40 v (.string t) w (O q (xs++t.data.toList).length cap) W∧Has W B (O q (xs++t.data.toList).length cap) (xs++t.data.toList)∧Aside (fun k=>v.ownBlock=U k) w W∧∀k,(O q (xs++t.data.toList).length cap).ownBlock=U k->v.ownBlock=U k∨w.1.size<=k:=by
 obtain⟨i,A,L,K,E⟩:=info_parts iI;obtain⟨v',w',D,Q,V,X⟩:=Lib.run_append_own_string (P:=N) w B 40 9 40 5 i underlying40 underlying9 A L K E v xs.length (cellsOf xs) J t (by unfold maxLen;omega) aj Z;have a0:t.data.toList.length=t.size:=by rw[Array.length_toList];rfl
 have ab:∀k,v'.ownBlock=U k->v.ownBlock=U k∨w.1.size<=k:=by
  intro k o;rcases J.2 with ⟨rfl,a5⟩ | ⟨g,cap,M,rfl,a2,ai,a6,a3,ah,a7⟩
  ·by_cases ak:t.size=0
   ·rw[X.2 ⟨rfl,ak⟩] at o;simp[Value.ownBlock] at o
   ·have y:=run_append_nil_string (P:=N) w 40 9 40 5 i (.int .u8 0) underlying40 underlying9 A L t (by omega) (by omega) (by rw[E];omega);have e:=D.symm.trans y;injection e with e1 e2;rw[e1] at o;simp only[Value.ownBlock,Option.some.injEq] at o;exact .inr (by omega)
  ·by_cases aw:xs.length+t.size<=cap
   ·have a4:M.size=cap:=(by simpa using ah);have y:=Lib.run_append_room_string (P:=N) w 40 9 40 5 i underlying40 underlying9 A K g xs.length cap M ai t aw (by omega);have e:=D.symm.trans y;injection e with e1 e2;rw[e1] at o;exact .inl o
   ·have a1:(cellsOf xs).length=xs.length:=aX xs;have y:=Lib.run_append_grow_string (P:=N) w 40 9 40 5 i (.int .u8 0) underlying40 underlying9 A L ⟨g,0,Y⟩ xs.length cap (cellsOf xs) (by rw[K,a1,Nat.mul_one]) (World.ownsRow.cells (g:=g) J rfl) t (by omega) (by omega) (by rw[E];exact growslice_fits (by omega) (by omega));have e:=D.symm.trans y;injection e with e1 e2;rw[e1] at o;simp only[Value.ownBlock,Option.some.injEq] at o;exact .inr (by omega)
 rw[strCells_eq,<-bZ,<-a0,<-AH] at Q;have S:Has w' B v' (xs++t.data.toList):=Q;obtain⟨q,cap,rfl,-,-⟩:=S.at;exact⟨q,cap,w',⟨D⟩,S,ce V,ab⟩
theorem sR{B:Nat}{v:R}{xs:L8}{t:ByteArray}{w:I}(X:Has w B v xs)(Q:xs.length+t.size<=140737488355328)(J:B<=w.1.size){D:Array Oper}{rest:List Oper}{o:Oper}{a:Act}{A:Exit->Act->I->Prop}{E x:Operand}(ai:o.type=40)(M:o.guard=Y)(V:o.op=Op.call { callee:=Callee.builtin Builtin.append,args:=#[E,x],argTypes:=#[40,9] })(ah:a.eval E=v)(aj:a.eval x=.string t)(K:∀y q cap W,Hid (y=xs++t.data.toList)->Has W B (O q y.length cap) y->Aside (fun k=>v.ownBlock=U k) w W->(∀k,(O q y.length cap).ownBlock=U k->v.ownBlock=U k∨w.1.size<=k)->wpList N D A rest (a.put o.dst (O q y.length cap)) W):
  wpList N D A (o::rest) a w:=by
 obtain⟨q,cap,W,Z,S,L,hb⟩:=m7 B v xs t w X Q J;have ab:cA N 40 9 o.type v (.string t) w (O q (xs++t.data.toList).length cap) W:=by rw[ai];exact Z
 exact aQ ab M V ah aj (K _ q cap W (gQq rfl) S L hb)
theorem aC{B:Nat}{v:R}{xs:L8}{w W:I}(y:Aside (fun k=>v.ownBlock=U k) w W)(D:Has w B v xs)(o:B<=w.1.size):AC B w W :=
 y.below o (fun k E A=>by have:=(D.lt k A).1;omega)
theorem dB{B:Nat}{w:I}(l:L8){C:AV}(y:C=(cellsOf l).toArray)(o:B<=w.1.size)(A:l.length<=1000000):Has (w.alloc (wx C 5)) B (O (U ⟨w.1.size,0,Y⟩) l.length l.length) l:=by
 subst y;refine⟨by rw[aX,Nat.mul_one],.inr ⟨w.1.size,l.length,(cellsOf l).toArray,rfl,o,aV w _,gQx,by unfold maxLen;omega,by simp[cellsOf],?_⟩⟩;rw[List.toList_toArray,Nat.mul_one,List.take_of_length_le (by rw[aX];exact gQx)]
theorem Has.on{B:Nat}{w w':I}{v:R}{l:L8}(h:Has w B v l)(hb:AC w.1.size w w'):Has w' B v l:=h.aside (af hb (fun _=>False)) (fun _ _ o=>o)
theorem Has.lower{B B':Nat}{w:I}{v:R}{l:L8}(h:Has w B v l)(o:B'<=B):Has w B' v l:=h.low o
end
section
open Go.RowKit
def textOf(l:L8):ByteArray:=⟨l.toArray⟩
theorem iC(l:L8):(textOf l).data.toList=l:=by simp[textOf]
theorem cP{w:I}{p:OA}{l:L8}(h:At w p l)(c:Nat):(convert 40 9 (O p l.length c)).run N w=.ok (.string (textOf l)) w:=by
 have y:Tryz.prog.underlying 5=U (.int .u8):=underlying5;rcases h with rfl | ⟨b,J,rfl,hb,A⟩
 ·rw[run_convert_bytes_string w 40 9 5 _ _ c underlying40 y underlying9];cases p with
  |none=>
   simp[Conv.bytesToString,textOf,ByteArray.empty,ByteArray.emptyWithCapacity];rfl
  |some a=>
   have E:(loadCells a 0).run N w=.ok ((([]:List Int).map (Value.int .u8)).toArray) w:=by
    have:=run_loadCells_list (P:=N) w a [] (fun j v D=>by simp at D);simpa using this
   rw[List.length_nil,run_bytesToString w a 0 c [] E];rfl
 ·have h:=run_convert_bytes_arg (P:=N) w 40 5 underlying40 y b J l.length c (l.map fun x=>(x.toNat:Int)) (by simp) (fun i o=>by
   rw[A i o]
   simp[o]) 9 underlying9
  rw[h];congr 2;show(⟨_⟩:ByteArray)=⟨_⟩;congr 1;rw[List.map_map];congr 1;have:(l.map ((fun n:Int=>UInt8.ofNat n.toNat) ∘ fun x:UInt8=>(x.toNat:Int)))=l.map id:=List.map_congr_left (fun x _=>by simp);rw[this,List.map_id]
theorem dz{P:Program}{fn:Func}{p u v:Tmp}{y:TypeId}(h:fn.results=#[.cell p y,.tmp u,.tmp v])(tmps:AV)(w:I)(g:Nat)(t:TypeId)(o:AV)(fr:Nat×Nat)(d:TypeDesc)(E:tmps.getD p undef=.pointer (U ⟨g,0,Y⟩))(A:w.1[g]?=U (wx o t fr))(K:P.underlying y=U d)(hd:(match d with | .struct _ | .array _ _=>true | _=>false)=true)(D:(P.info? y).map (·.size)=U o.size):
  (results fn tmps).run P w=.ok (.tuple #[.agg o,tmps.getD u undef,tmps.getD v undef]) w:=by
 have J:tmps[p]?.getD undef=.pointer (U ⟨g,0,Y⟩):=by simpa using E
 simp[results,h,J,asAddr,run_loadVar_row w g t y o fr d A K hd D]
theorem eu{P:Program}{fn:Func}{p u:Tmp}{y:TypeId}(h:fn.results=#[.cell p y,.tmp u])(tmps:AV)(w:I)(g:Nat)(t:TypeId)(o:AV)(fr:Nat×Nat)(d:TypeDesc)(E:tmps.getD p undef=.pointer (U ⟨g,0,Y⟩))(A:w.1[g]?=U (wx o t fr))(K:P.underlying y=U d)(hd:(match d with | .struct _ | .array _ _=>true | _=>false)=true)(D:(P.info? y).map (·.size)=U o.size):
  (results fn tmps).run P w=.ok (.tuple #[.agg o,tmps.getD u undef]) w:=by
 have J:tmps[p]?.getD undef=.pointer (U ⟨g,0,Y⟩):=by simpa using E
 simp[results,h,J,asAddr,run_loadVar_row w g t y o fr d A K hd D]
end
end Go.Proofs.YtngmnfdaedlodaaGreatDoor

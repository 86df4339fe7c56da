import Derived.Test.YtbahfgdbjgkklaaGreatDoorRows
import Derived.WalkSpells
import Derived.WalkLawsBesides
import Derived.BigQuiet
import Derived.Lib.ItoaMem
import Derived.Deep.Upon
import Derived.Deep.AppendLies
set_option maxRecDepth 100000
namespace Go.Proofs.YtbahfgdbjgkklaaGreatDoor
abbrev L8:=List UInt8
abbrev OA:=Option Addr
abbrev AV:=Array Value
theorem gQq{p:Prop}(h:p):Go.RowKit.Hid p:=h
theorem gQx{n:Nat}:n<=n:=Nat.le_refl n
theorem gQz{B:Nat}{w:World}:Go.RowKit.Below B w w:=Go.RowKit.Below.refl _ _
theorem gQy{w:World}{o:Obj}:Go.RowKit.Below w.heap.size w (w.alloc o):=gQz.alloc gQx _
section
open Go.RowKit
def dQ(w:World)(b o:Nat)(l:L8):Prop:=∀j (h:j<l.length),w.cell? ⟨b,o+j,none⟩=some (.int .u8 (l[j].toNat:Int))
def At(w:World)(p:OA)(l:L8):Prop:=l=[]∨∃b o,p=some ⟨b,o,none⟩∧b<w.1.size∧dQ w b o l
theorem At.on{w w':World}{p:OA}{l:L8}(h:At w p l)(hb:Below w.1.size w w'):At w' p l:=by
 rcases h with rfl | ⟨b,o,rfl,y,z⟩
 ·exact .inl rfl
 ·refine .inr ⟨b,o,rfl,by have:=hb.size;omega,fun j D=>?_⟩;rw[hb.cell (p:=⟨b,o+j,none⟩) y];exact z j D
theorem At.drewN{w:World}{p:OA}{l:L8}(h:At w p l)(n:Nat):At (w.drewN n) p l:=by
 rcases h with rfl | ⟨b,z,rfl,o,y⟩
 ·exact .inl rfl
 ·exact .inr ⟨b,z,rfl,o,y⟩
theorem below_drewN{B:Nat}{a w:World}(h:Below B a w)(n:Nat):Below B a (w.drewN n):=⟨h.os,h.tape,h.output,h.size,h.block⟩
end
section
open Go.RowKit
def cellsOf(l:L8):List Value:=l.map fun b=>Value.int .u8 (b.toNat:Int)
theorem bH(l:L8)(j:Nat)(h:j<l.length):(cellsOf l)[j]?=some (.int .u8 (l[j].toNat:Int)):=by
 simp[cellsOf,h]
theorem lm{w:World}{p:OA}{l:L8}(c:Nat)(h:At w p l):Src Tryz.prog 1 22 (.slice p l.length c) l.length (cellsOf l) w:=by
 have E:∀u∈cellsOf l,u.oneCell'=true:=fun u I=>by
  obtain⟨_,_,rfl⟩:=List.mem_map.1 I;rfl
 cases p with
 |none=>
  rcases h with rfl | ⟨b,J,y,_,_⟩
  ·exact Src.ofNil w Tryz.underlying22 c
  ·cases y
 |some a=>
  refine Src.ofSlice w Tryz.underlying22 a l.length c (cellsOf l) (by simp[cellsOf]) (fun j u o=>?_) E;rcases h with rfl | ⟨b,J,y,_,D⟩
  ·simp[cellsOf] at o
  ·cases y
   have z:j<l.length:=by
    have:=(List.getElem?_eq_some_iff.1 o).1;simpa[cellsOf] using this
   rw[bH l j z] at o;cases o
   have:=D j z;rw[Lib.add_plain];exact this
theorem kh:(Tryz.prog.info? 5).map (fun i=>(i.zero,i.size,i.bytes))=some (some (.int .u8 0),1,1):=by kernel_rfl
theorem sq(w:World)(l:L8)(zs:AV)(T:TypeId):dQ (w.alloc (.cells ((cellsOf l).toArray++zs) T)) w.1.size 0 l:=fun j o=>by
 rw[Nat.zero_add,World.cell?_alloc_new];have y:j<(cellsOf l).toArray.size:=by simpa[cellsOf] using o
 rw[Array.getElem?_append_left y];have:=bH l j o;simpa using this
def Own(w:World)(b:Nat)(l:L8):Prop:=∃zs,w.1[b]?=some (.cells ((cellsOf l).toArray++zs) 5)
theorem Own.lt{w:World}{b:Nat}{l:L8}(h:Own w b l):b<w.1.size:=by
 obtain⟨zs,h⟩:=h;exact(Array.getElem?_eq_some_iff.1 h).1
theorem Own.cells{w:World}{b:Nat}{l:L8}(h:Own w b l):dQ w b 0 l:=fun j o=>by
 obtain⟨zs,h⟩:=h;rw[Nat.zero_add];have y:j<(cellsOf l).toArray.size:=by simpa[cellsOf] using o
 have z:=bH l j o;unfold World.cell?;rw[h];show((cellsOf l).toArray++zs)[j]?=_;rw[Array.getElem?_append_left y];simpa using z
theorem Own.at{w:World}{b:Nat}{l:L8}(h:Own w b l):At w (some ⟨b,0,none⟩) l:=.inr ⟨b,0,rfl,h.lt,h.cells⟩
theorem Own.thawed{w:World}{b:Nat}{l:L8}(h:Own w b l)(j:Nat):w.frozen? ⟨b,j,none⟩=false:=by
 obtain⟨zs,h⟩:=h;simp[World.frozen?,h]
theorem Own.set{w:World}{b:Nat}{l:L8}(h:Own w b l)(i:Nat)(v:UInt8)(y:i<l.length):Own (w.setCell ⟨b,i,none⟩ (.int .u8 (v.toNat:Int))) b (l.set i v):=by
 obtain⟨zs,h⟩:=h;refine⟨zs,?_⟩;have o:i<(cellsOf l).toArray.size:=by simpa[cellsOf] using y
 have e:(cellsOf (l.set i v)).toArray=(cellsOf l).toArray.set! i (.int .u8 (v.toNat:Int)):=by
  simp[cellsOf,List.map_set]
 rw[e];have hb:=(Array.getElem?_eq_some_iff.1 h).1;simp only[World.setCell,Array.getElem?_modify,h,if_true,Option.map_some];rw[if_neg (by simp),Array.set!_eq_setIfInBounds,Array.setIfInBounds_append_left o]
theorem bC(w:World)(o:Obj):(w.alloc o).1[w.1.size]?=some o:=by
 show(w.1.push o)[w.1.size]?=_;simp
theorem wpList_append_run{P:Program}(w:World){z:Array Oper}{rest:List Oper}{o:Oper}{a:Act}{y:Exit->Act->World->Prop}(L:o.guard=none)(s x:Operand)(t D:TypeId)(M:o.op=Op.call { callee:=Callee.builtin Builtin.append,args:=#[s,x],argTypes:=#[t,D] })(E I:Value)(Q:a.eval s=E)(S:a.eval x=I)(v':Value)(w':World)(O:(Builtin.append_ #[t,D] o.type #[E,I]).run P w=.ok v' w')(J:wpList P z y rest (a.put o.dst v') w'):wpList P z y (o::rest) a w:=by
 refine wpList_plain L fun U K=>?_;unfold Oper.wp;simp[execOp,M,resolve,invoke,builtin,Q,S,O,Result.andThen];exact K _ _ J
structure cY(P:Program)(t tx ty:TypeId)(vs vx:Value)(w:World)(v':Value)(w':World):Prop where
 run:(Builtin.append_ #[t,tx] ty #[vs,vx]).run P w=.ok v' w'
theorem bv{P:Program}{w:World}{I:Array Oper}{rest:List Oper}{o:Oper}{a:Act}{E:Exit->Act->World->Prop}{s x:Operand}{t y:TypeId}{z D v':Value}{w':World}(h:cY P t y o.type z D w v' w')(K:o.guard=none)(L:o.op=Op.call { callee:=Callee.builtin Builtin.append,args:=#[s,x],argTypes:=#[t,y] })(M:a.eval s=z)(O:a.eval x=D)(J:wpList P I E rest (a.put o.dst v') w'):wpList P I E (o::rest) a w :=
 wpList_append_run w K s x t y L z D M O v' w' h.run J
end
section
open Go.RowKit
def bh(w:World)(B g cap:Nat)(l:L8):Prop:=w.ownsRow B 5 1 (.slice (some ⟨g,0,none⟩) l.length cap) l.length (cellsOf l)
theorem bh.at{w:World}{B g cap:Nat}{l:L8}(h:bh w B g cap l):At w (some ⟨g,0,none⟩) l:=by
 refine .inr ⟨g,0,rfl,(World.ownsRow.lt h g rfl).2,fun j o=>?_⟩;have:=World.ownsRow.cells h (g:=g) rfl j _ (bH l j o);rw[Lib.add_plain] at this;exact this
theorem oc(w:World):bh (w.alloc (.cells #[] 5)) w.1.size w.1.size 0 []:=by
 refine⟨rfl,.inr ⟨w.1.size,0,#[],rfl,gQx,bC w _,gQx,by simp[maxLen],rfl,rfl⟩⟩
theorem cV(a b:L8):cellsOf (a++b)=cellsOf a++cellsOf b:=by simp[cellsOf]
theorem bE(a:L8):(cellsOf a).length=a.length:=by simp[cellsOf]
end
section
open Go.RowKit
def fZ(w:World)(g o:Nat)(l:L8):Prop:=g<w.1.size∧dQ w g o l∧∀j,j<l.length->w.frozen? ⟨g,o+j,none⟩=false
theorem fZ.at{w:World}{g o:Nat}{l:L8}(h:fZ w g o l):At w (some ⟨g,o,none⟩) l:=.inr ⟨g,o,rfl,h.1,h.2.1⟩
theorem fZ.set{w:World}{g y:Nat}{l:L8}(h:fZ w g y l)(i:Nat)(v:UInt8)(J:i<l.length):fZ (w.setCell ⟨g,y+i,none⟩ (.int .u8 (v.toNat:Int))) g y (l.set i v):=by
 obtain⟨D,z,E⟩:=h;refine⟨by simpa[World.setCell] using D,fun j o=>?_,fun j o=>?_⟩
 ·rw[List.length_set] at o;by_cases e:i=j
  ·subst e;rw[World.cell?_setCell_same (h:=z i J),List.getElem_set_self]
  ·rw[World.cell?_setCell_other (h:=by intro I;injection I;omega),z j o,List.getElem_set_ne e]
 ·rw[List.length_set] at o;rw[World.frozen?_setCell];exact E j o
theorem fZ.on{w w':World}{B g o:Nat}{l:L8}(h:fZ w g o l)(z:g<B)(hb:Below B w w'):fZ w' g o l:=by
 obtain⟨I,D,E⟩:=h;refine⟨by have:=hb.size;omega,fun j y=>?_,fun j y=>?_⟩
 ·rw[hb.cell (p:=⟨g,o+j,none⟩) z];exact D j y
 ·rw[hb.frozen (p:=⟨g,o+j,none⟩) z];exact E j y
theorem Own.free{w:World}{b:Nat}{l:L8}(h:Own w b l):fZ w b 0 l:=⟨h.lt,h.cells,fun j _=>by rw[Nat.zero_add];exact h.thawed j⟩
theorem bh.free{w:World}{B g cap:Nat}{l:L8}(h:bh w B g cap l):fZ w g 0 l:=by
 refine⟨(World.ownsRow.lt h g rfl).2,fun j z=>?_,fun j _=>?_⟩
 ·have:=World.ownsRow.cells h (g:=g) rfl j _ (bH l j z);rw[Lib.add_plain] at this;exact this
 ·rcases h.2 with ⟨o,_⟩ | ⟨I,D,E,o,_,y,_⟩
  ·cases o
  ·cases o
   simp[World.frozen?,y]
theorem bh.base{w:World}{B g cap:Nat}{l:L8}(h:bh w B g cap l):B<=g∧g<w.1.size∧l.length<=cap:=by
 refine⟨(World.ownsRow.lt h g rfl).1,(World.ownsRow.lt h g rfl).2,?_⟩;rcases h.2 with ⟨o,_⟩ | ⟨E,z,D,o,_,_,y,_⟩
 ·cases o
 ·cases o;exact y
theorem cF{w:World}{b o:Nat}{l:L8}(h:dQ w b o l)(n:Nat):dQ w b (o+n) (l.drop n):=fun j y=>by
 have z:n+j<l.length:=by rw[List.length_drop] at y;omega
 have:=h (n+j) z;rw[<-Nat.add_assoc] at this;rw[this,List.getElem_drop]
theorem cE{w:World}{b o:Nat}{l:L8}(h:dQ w b o l)(n:Nat):dQ w b o (l.take n):=fun j y=>by
 have z:j<l.length:=by rw[List.length_take] at y;omega
 rw[h j z,List.getElem_take]
theorem aC{w:World}{p:OA}{l:L8}(h:At w p l)(y:0<l.length):∃b o,p=some ⟨b,o,none⟩∧b<w.1.size∧dQ w b o l:=by
 rcases h with rfl | h
 ·simp at y
 ·exact h
end
section
open Go.RowKit
def Has(w:World)(B:Nat)(v:Value)(l:L8):Prop:=w.ownsRow B 5 1 v l.length (cellsOf l)
theorem aM(w:World)(B:Nat):Has w B (.slice none 0 0) []:=⟨rfl,.inl ⟨rfl,rfl⟩⟩
theorem bh.has{w:World}{B g cap:Nat}{l:L8}(h:bh w B g cap l):Has w B (.slice (some ⟨g,0,none⟩) l.length cap) l:=h
theorem Has.form{w:World}{B:Nat}{v:Value}{l:L8}(h:Has w B v l):(v=.slice none 0 0∧l=[])∨∃g cap,v=.slice (some ⟨g,0,none⟩) l.length cap∧bh w B g cap l:=by
 rcases h.2 with ⟨y,z⟩ | ⟨g,cap,o,rfl,D⟩
 ·exact .inl ⟨y,List.eq_nil_of_length_eq_zero z⟩
 ·exact .inr ⟨g,cap,rfl,h.1,.inr ⟨g,cap,o,rfl,D⟩⟩
theorem Has.at{w:World}{B:Nat}{v:Value}{l:L8}(h:Has w B v l):∃p cap,v=.slice p l.length cap∧At w p l∧l.length<=cap:=by
 rcases h.form with ⟨rfl,rfl⟩ | ⟨g,cap,rfl,o⟩
 ·exact⟨none,0,rfl,.inl rfl,gQx⟩
 ·exact⟨_,cap,rfl,o.at,o.base.2.2⟩
theorem Has.drew{w:World}{B:Nat}{v:Value}{l:L8}(h:Has w B v l):Has w.drew B v l:=h
theorem Has.drewN{w:World}{B:Nat}{v:Value}{l:L8}(h:Has w B v l)(n:Nat):Has (w.drewN n) B v l:=h
theorem Has.alloc{w:World}{B:Nat}{v:Value}{l:L8}(h:Has w B v l)(o:Obj):Has (w.alloc o) B v l:=World.ownsRow.alloc h o
theorem ug(B:Nat)(v:Value)(xs l:L8)(a:Addr)(c:Nat)(w:World)(K:Has w B v xs)(h:At w (some a) l)(L:l≠[])(a0:xs.length+l.length<=140737488355328)(J:B<=w.1.size):
  ∃(y cap':Nat) (W:World),cY Tryz.prog 22 22 22 v (.slice (some a) l.length c) w (.slice (some ⟨y,0,none⟩) (xs++l).length cap') W∧bh W B y cap' (xs++l)∧Below B w W:=by
 obtain⟨i,V,ak,ah,M⟩:=info_parts kh;have Q:∀j u,(cellsOf l)[j]?=some u->w.cell? (a.add j)=some u:=fun j u D=>by
  have E:j<l.length:=by
   have:=(List.getElem?_eq_some_iff.1 D).1;simpa[cellsOf] using this
  rcases h with rfl | ⟨b,o,Z,_,O⟩
  ·simp at E
  ·cases Z
   rw[bH l j E] at D;cases D
   rw[Lib.add_plain];exact O j E
 obtain⟨v',W,ab,I,U,Y⟩:=run_append_own (P:=Tryz.prog) w B 22 22 5 i (.int .u8 0) 1 1 Tryz.underlying22 V ak ah M rfl (by decide) v xs.length (cellsOf xs) K a l.length c (cellsOf l) (by rw[bE,Nat.mul_one]) Q
  (fun u aj=>by obtain⟨_,_,rfl⟩:=List.mem_map.1 aj;rfl) (by unfold maxLen;omega) (by omega) J
 rw[<-cV,<-List.length_append] at I;have S:∃y cap',v'=.slice (some ⟨y,0,none⟩) (xs++l).length cap':=by
  rcases I.2 with ⟨z,_⟩ | ⟨y,cap',_,z,_⟩
  ·have:=(Y.1 z).2;exact absurd (List.eq_nil_of_length_eq_zero this) L
  ·exact⟨y,cap',z⟩
 obtain⟨y,cap',rfl⟩:=S;exact⟨y,cap',W,⟨ab⟩,I,gQz.grown U J (fun k X=>(World.ownsRow.lt K k X).1)⟩
theorem eX{B:Nat}{v:Value}{xs:L8}{w:World}(X:Has w B v xs)(c:UInt8)(S:xs.length+1<=140737488355328)(D:B<=w.1.size){y:Int}{J:Array Oper}{rest:List Oper}{o:Oper}{a:Act}{z:Exit->Act->World->Prop}{s x:Operand}(aj:y=(c.toNat:Int))(ab:o.type=22)(M:o.guard=none)(V:o.op=Op.call { callee:=Callee.builtin Builtin.append,args:=#[s,x],argTypes:=#[22,22] })(Z:a.eval s=v)(ah:a.eval x=.slice (some ⟨w.1.size,0,none⟩) 1 1)(K:∀g cap W,bh W B g cap (xs++[c])->Below B w W->wpList Tryz.prog J z rest (a.put o.dst (.slice (some ⟨g,0,none⟩) (xs.length+1) cap)) W):
  wpList Tryz.prog J z (o::rest) a (w.alloc (.cells #[.int .u8 y] 5)):=by
 have L:At (w.alloc (.cells #[.int .u8 y] 5)) (some ⟨w.1.size,0,none⟩) [c]:=by
  refine .inr ⟨_,_,rfl,by simp,fun j O=>?_⟩;have Q:j=0:=by simp at O;omega
  subst Q;rw[World.cell?_alloc_new,aj];rfl
 have E:Below B w (w.alloc (.cells #[.int .u8 y] 5)):=gQz.alloc D _;obtain⟨g,cap,W,I,U,hb⟩:=ug B v xs [c] ⟨w.1.size,0,none⟩ 1 _ (X.alloc _) L (by simp) (by simpa using S) (Nat.le_trans D E.size);have e:(xs++[c]).length=xs.length+1:=by simp
 rw[e] at I;have Y:cY Tryz.prog 22 22 o.type v (.slice (some ⟨w.1.size,0,none⟩) 1 1) (w.alloc (.cells #[.int .u8 y] 5)) (.slice (some ⟨g,0,none⟩) (xs.length+1) cap) W:=by rw[ab];exact I
 exact bv Y M V Z ah (K g cap W U (E.trans hb))
end
section
open Go.RowKit
structure Aside(F:Nat->Prop)(w w':World):Prop where
 os:w'.os=w.os
 tape:w'.tape=w.tape
 output:w'.output=w.output
 size:w.1.size<=w'.1.size
 block:∀k,k<w.1.size->¬F k->w'.1[k]?=w.1[k]?
section
variable {F G:Nat->Prop} {w w' w'':World}
theorem Aside.refl(F:Nat->Prop)(w:World):Aside F w w:=⟨rfl,rfl,rfl,gQx,fun _ _ _=>rfl⟩
theorem Aside.trans(h:Aside F w w')(k:Aside G w' w'')(D:∀i,i<w.1.size->G i->F i):Aside F w w'' :=
 ⟨k.os.trans h.os,k.tape.trans h.tape,k.output.trans h.output,Nat.le_trans h.size k.size,fun i o y=>(k.block i (Nat.lt_of_lt_of_le o h.size) (fun z=>y (D i o z))).trans (h.block i o y)⟩
theorem Aside.mono(h:Aside F w w')(D:∀i,i<w.1.size->F i->G i):Aside G w w' :=
 ⟨h.os,h.tape,h.output,h.size,fun i o z=>h.block i o (fun y=>z (D i o y))⟩
theorem ij{B:Nat}(h:Below B w w')(y:∀k,k<w.1.size->B<=k->F k):Aside F w w' :=
 ⟨h.os,h.tape,h.output,h.size,fun k D z=>h.block k (by
  rcases Nat.lt_or_ge k B with o | o
  ·exact o
  ·exact absurd (y k D o) z)⟩
theorem al(h:Below w.1.size w w')(F:Nat->Prop):Aside F w w':=ij h fun _ o y=>absurd o (Nat.not_lt_of_le y)
theorem Aside.below{B:Nat}(h:Aside F w w')(z:B<=w.1.size)(o:∀k,k<B->¬F k):Below B w w' :=
 ⟨h.os,h.tape,h.output,h.size,fun k y=>h.block k (by omega) (o k y)⟩
theorem Aside.alloc(h:Aside F w w')(o:Obj):Aside F w (w'.alloc o) :=
 h.trans (al ((Below.refl w'.1.size w').alloc gQx o) F) fun _ _ h=>h
theorem Aside.drew(h:Aside F w w'):Aside F w w'.drew:=⟨h.os,h.tape,h.output,h.size,h.block⟩
theorem Aside.drewN(h:Aside F w w')(n:Nat):Aside F w (w'.drewN n):=⟨h.os,h.tape,h.output,h.size,h.block⟩
theorem Aside.setCell(h:Aside F w w'){p:Addr}(o:F p.block∨w.1.size<=p.block)(u:Value):Aside F w (w'.setCell p u):=by
 refine⟨h.os,h.tape,h.output,by simpa[World.setCell] using h.size,fun k D y=>?_⟩;rw[Below.heap_setCell _ _ _ _ (fun z=>?_)]
 ·exact h.block k D y
 ·rcases o with o | o
  ·rw[<-z] at o;exact y o
  ·omega
theorem Aside.cell(h:Aside F w w'){p:Addr}(o:p.block<w.1.size)(y:¬F p.block):w'.cell? p=w.cell? p:=World.cell?_of_block (w:=w) (h.block p.block o y)
theorem Aside.frozen(h:Aside F w w'){p:Addr}(o:p.block<w.1.size)(y:¬F p.block):w'.frozen? p=w.frozen? p:=World.frozen?_of_block (w:=w) (h.block p.block o y)
end
end
section
open Go.RowKit
section
variable {F G:Nat->Prop} {w w' w'':World}
theorem At.aside{p:OA}{l:L8}(h:At w p l)(y:Aside F w w')(I:∀b o,p=some ⟨b,o,none⟩->¬F b):At w' p l:=by
 rcases h with rfl | ⟨b,o,rfl,E,z⟩
 ·exact .inl rfl
 ·refine .inr ⟨b,o,rfl,by have:=y.size;omega,fun j D=>?_⟩;rw[y.cell (p:=⟨b,o+j,none⟩) E (I b o rfl)];exact z j D
theorem Has.lt{B:Nat}{v:Value}{l:L8}(h:Has w B v l):∀k,v.ownBlock=some k->B<=k∧k<w.1.size:=World.ownsRow.lt h
theorem Has.aside{B:Nat}{v:Value}{l:L8}(h:Has w B v l)(I:Aside F w w')(J:∀k,v.ownBlock=some k->¬F k):Has w' B v l:=by
 refine⟨h.1,?_⟩;rcases h.2 with z | ⟨g,cap,y,rfl,D,o,E⟩
 ·exact .inl z
 ·refine .inr ⟨g,cap,y,rfl,D,?_,E⟩;rw[I.block g (Array.getElem?_eq_some_iff.1 o).1 (J g rfl)];exact o
theorem Has.low{B B':Nat}{v:Value}{l:L8}(h:Has w B v l)(E:B'<=B):Has w B' v l:=by
 refine⟨h.1,?_⟩;rcases h.2 with y | ⟨g,cap,o,rfl,D,z⟩
 ·exact .inl y
 ·exact .inr ⟨g,cap,o,rfl,by omega,z⟩
end
end
section
open Go.RowKit
theorem cK{w w':World}{row:Option Nat}(o:w.grownBy w' row):Aside (fun k=>row=some k) w w':=⟨o.os,o.tape,o.output,o.size,fun k D z=>o.block k D (fun y=>z y.symm)⟩
theorem eL(B:Nat)(v:Value)(xs l:L8)(p:OA)(c:Nat)(w:World)(D:Has w B v xs)(h:At w p l)(a2:xs.length+l.length<=140737488355328)(S:B<=w.1.size):
  ∃(q:OA) (cap:Nat) (W:World),cY Tryz.prog 22 22 22 v (.slice p l.length c) w (.slice q (xs++l).length cap) W∧Has W B (.slice q (xs++l).length cap) (xs++l)∧Aside (fun k=>v.ownBlock=some k) w W∧(xs++l).length<=cap∧∀k,(Value.slice q (xs++l).length cap).ownBlock=some k->v.ownBlock=some k∨w.1.size<=k:=by
 obtain⟨i,K,ah,Q,U⟩:=info_parts kh;by_cases y:l=[]
 ·subst y;obtain⟨q,cap,rfl,-,J⟩:=D.at;rw[List.append_nil];exact⟨q,cap,w,⟨run_append_nothing (P:=Tryz.prog) w 22 22 22 5 i Tryz.underlying22 K q xs.length cap J (.slice p 0 c) (by rw[Q];exact lm c h)⟩,D,Aside.refl _ _,J,fun k hk=>.inl hk⟩
 ·obtain⟨b,o,rfl,a1,V⟩:=aC h (List.length_pos_iff.2 y)
  obtain⟨g,cap,W,O,M,Z,Y,_⟩:=run_append_lies (P:=Tryz.prog) w 22 22 B 5 i (.int .u8 0) 1 1 Tryz.underlying22 K ah Q U rfl (by decide) v xs.length (cellsOf xs) D ⟨b,o,none⟩ l.length c (cellsOf l) (by rw[bE,Nat.mul_one])
   (fun j u z=>by
    have L:j<l.length:=by
     have:=(List.getElem?_eq_some_iff.1 z).1;simpa[cellsOf] using this
    rw[bH l j L] at z;cases z
    rw[Lib.add_plain];exact V j L)
   (fun u ab=>by obtain⟨_,_,rfl⟩:=List.mem_map.1 ab;rfl) (List.length_pos_iff.2 y) (by unfold maxLen;omega) (by omega) S w.1.size rfl
  rw[<-cV,<-List.length_append] at M;rw[<-List.length_append] at O;have I:Has W B (.slice (some ⟨g,0,none⟩) (xs++l).length cap) (xs++l):=M;refine⟨some ⟨g,0,none⟩,cap,W,⟨O⟩,I,cK Z,?_,?_⟩
  ·obtain⟨a3,ak,X,_,a0⟩:=I.at;injection X with _ _ e2;omega
  ·intro k hk;simp only[Value.ownBlock,Option.some.injEq] at hk;subst hk;rcases Y with E | E
   ·exact .inl E
   ·exact .inr (by omega)
theorem aE{B:Nat}{v:Value}{xs l:L8}{p:OA}{c:Nat}{w:World}(S:Has w B v xs)(h:At w p l)(M:xs.length+l.length<=140737488355328)(I:B<=w.1.size){D:Array Oper}{rest:List Oper}{o:Oper}{a:Act}{z:Exit->Act->World->Prop}{E x:Operand}(Y:o.type=22)(L:o.guard=none)(Q:o.op=Op.call { callee:=Callee.builtin Builtin.append,args:=#[E,x],argTypes:=#[22,22] })(X:a.eval E=v)(Z:a.eval x=.slice p l.length c)(J:∀y q cap W,Hid (y=xs++l)->Has W B (.slice q y.length cap) y->Aside (fun k=>v.ownBlock=some k) w W->(∀k,(Value.slice q y.length cap).ownBlock=some k->v.ownBlock=some k∨w.1.size<=k)->wpList Tryz.prog D z rest (a.put o.dst (.slice q y.length cap)) W):
  wpList Tryz.prog D z (o::rest) a w:=by
 obtain⟨q,cap,W,U,O,K,-,hb⟩:=eL B v xs l p c w S h M I;have V:cY Tryz.prog 22 22 o.type v (.slice p l.length c) w (.slice q (xs++l).length cap) W:=by rw[Y];exact U
 exact bv V L Q X Z (J _ q cap W (gQq rfl) O K hb)
theorem strCells_eq(t:ByteArray):Lib.strCells t=cellsOf t.data.toList:=by
 simp[Lib.strCells,cellsOf]
theorem nV(B:Nat)(v:Value)(xs:L8)(t:ByteArray)(w:World)(I:Has w B v xs)(Z:xs.length+t.size<=140737488355328)(U:B<=w.1.size):
  ∃(q:OA) (cap:Nat) (W:World),cY Tryz.prog 22 9 22 v (.string t) w (.slice q (xs++t.data.toList).length cap) W∧Has W B (.slice q (xs++t.data.toList).length cap) (xs++t.data.toList)∧Aside (fun k=>v.ownBlock=some k) w W∧∀k,(Value.slice q (xs++t.data.toList).length cap).ownBlock=some k->v.ownBlock=some k∨w.1.size<=k:=by
 obtain⟨i,z,K,J,E⟩:=info_parts kh;obtain⟨v',w',D,M,Q,S⟩:=Lib.run_append_own_string (P:=Tryz.prog) w B 22 9 22 5 i Tryz.underlying22 Tryz.underlying9 z K J E v xs.length (cellsOf xs) I t (by unfold maxLen;omega) Z U;have aj:t.data.toList.length=t.size:=by rw[Array.length_toList];rfl
 have V:∀k,v'.ownBlock=some k->v.ownBlock=some k∨w.1.size<=k:=by
  intro k o;rcases I.2 with ⟨rfl,a3⟩ | ⟨g,cap,L,rfl,a0,Y,a4,a1,X,a5⟩
  ·by_cases ab:t.size=0
   ·rw[S.2 ⟨rfl,ab⟩] at o;simp[Value.ownBlock] at o
   ·have y:=run_append_nil_string (P:=Tryz.prog) w 22 9 22 5 i (.int .u8 0) Tryz.underlying22 Tryz.underlying9 z K t (by omega) (by omega) (by rw[E];omega);have e:=D.symm.trans y;injection e with e1 e2;rw[e1] at o;simp only[Value.ownBlock,Option.some.injEq] at o;exact .inr (by omega)
  ·by_cases ah:xs.length+t.size<=cap
   ·have a2:L.size=cap:=(by simpa using X);have y:=Lib.run_append_room_string (P:=Tryz.prog) w 22 9 22 5 i Tryz.underlying22 Tryz.underlying9 z J g xs.length cap L Y t ah (by omega);have e:=D.symm.trans y;injection e with e1 e2;rw[e1] at o;exact .inl o
   ·have ak:(cellsOf xs).length=xs.length:=bE xs;have y:=Lib.run_append_grow_string (P:=Tryz.prog) w 22 9 22 5 i (.int .u8 0) Tryz.underlying22 Tryz.underlying9 z K ⟨g,0,none⟩ xs.length cap (cellsOf xs) (by rw[J,ak,Nat.mul_one]) (World.ownsRow.cells (g:=g) I rfl) t (by omega) (by omega) (by rw[E];exact growslice_fits (by omega) (by omega));have e:=D.symm.trans y;injection e with e1 e2;rw[e1] at o;simp only[Value.ownBlock,Option.some.injEq] at o;exact .inr (by omega)
 rw[strCells_eq,<-cV,<-aj,<-List.length_append] at M;have O:Has w' B v' (xs++t.data.toList):=M;obtain⟨q,cap,rfl,-,-⟩:=O.at;exact⟨q,cap,w',⟨D⟩,O,cK Q,V⟩
theorem tv{B:Nat}{v:Value}{xs:L8}{t:ByteArray}{w:World}(S:Has w B v xs)(M:xs.length+t.size<=140737488355328)(I:B<=w.1.size){D:Array Oper}{rest:List Oper}{o:Oper}{a:Act}{z:Exit->Act->World->Prop}{E x:Operand}(Y:o.type=22)(L:o.guard=none)(Q:o.op=Op.call { callee:=Callee.builtin Builtin.append,args:=#[E,x],argTypes:=#[22,9] })(X:a.eval E=v)(Z:a.eval x=.string t)(J:∀y q cap W,Hid (y=xs++t.data.toList)->Has W B (.slice q y.length cap) y->Aside (fun k=>v.ownBlock=some k) w W->(∀k,(Value.slice q y.length cap).ownBlock=some k->v.ownBlock=some k∨w.1.size<=k)->wpList Tryz.prog D z rest (a.put o.dst (.slice q y.length cap)) W):
  wpList Tryz.prog D z (o::rest) a w:=by
 obtain⟨q,cap,W,U,O,K,hb⟩:=nV B v xs t w S M I;have V:cY Tryz.prog 22 9 o.type v (.string t) w (.slice q (xs++t.data.toList).length cap) W:=by rw[Y];exact U
 exact bv V L Q X Z (J _ q cap W (gQq rfl) O K hb)
theorem aB{B:Nat}{v:Value}{xs:L8}{w W:World}(y:Aside (fun k=>v.ownBlock=some k) w W)(D:Has w B v xs)(o:B<=w.1.size):Below B w W :=
 y.below o (fun k E z=>by have:=(D.lt k z).1;omega)
theorem dC{B:Nat}{w:World}(l:L8){C:AV}(y:C=(cellsOf l).toArray)(o:B<=w.1.size)(z:l.length<=1000000):Has (w.alloc (.cells C 5)) B (.slice (some ⟨w.1.size,0,none⟩) l.length l.length) l:=by
 subst y;refine⟨by rw[bE,Nat.mul_one],.inr ⟨w.1.size,l.length,(cellsOf l).toArray,rfl,o,bC w _,gQx,by unfold maxLen;omega,by simp[cellsOf],?_⟩⟩;rw[List.toList_toArray,Nat.mul_one,List.take_of_length_le (by rw[bE];exact gQx)]
theorem Has.on{B:Nat}{w w':World}{v:Value}{l:L8}(h:Has w B v l)(hb:Below w.1.size w w'):Has w' B v l:=h.aside (al hb (fun _=>False)) (fun _ _ o=>o)
theorem Has.lower{B B':Nat}{w:World}{v:Value}{l:L8}(h:Has w B v l)(o:B'<=B):Has w B' v l:=h.low o
end
section
open Go.RowKit
def textOf(l:L8):ByteArray:=⟨l.toArray⟩
theorem iQ(l:L8):(textOf l).data.toList=l:=by simp[textOf]
theorem dL{w:World}{p:OA}{l:L8}(h:At w p l)(c:Nat):(convert 22 9 (.slice p l.length c)).run Tryz.prog w=.ok (.string (textOf l)) w:=by
 have y:Tryz.prog.underlying 5=some (.int .u8):=Tryz.underlying5;rcases h with rfl | ⟨b,I,rfl,hb,z⟩
 ·rw[run_convert_bytes_string w 22 9 5 _ _ c Tryz.underlying22 y Tryz.underlying9];cases p with
  |none=>
   simp[Conv.bytesToString,textOf,ByteArray.empty,ByteArray.emptyWithCapacity];rfl
  |some a=>
   have E:(loadCells a 0).run Tryz.prog w=.ok ((([]:List Int).map (Value.int .u8)).toArray) w:=by
    have:=run_loadCells_list (P:=Tryz.prog) w a [] (fun j v D=>by simp at D);simpa using this
   rw[List.length_nil,run_bytesToString w a 0 c [] E];rfl
 ·have h:=run_convert_bytes_arg (P:=Tryz.prog) w 22 5 Tryz.underlying22 y b I l.length c (l.map fun x=>(x.toNat:Int)) (by simp) (fun i o=>by
   rw[z i o]
   simp[o]) 9 Tryz.underlying9
  rw[h];congr 2;show(⟨_⟩:ByteArray)=⟨_⟩;congr 1;rw[List.map_map];congr 1;have:(l.map ((fun n:Int=>UInt8.ofNat n.toNat) ∘ fun x:UInt8=>(x.toNat:Int)))=l.map id:=List.map_congr_left (fun x _=>by simp);rw[this,List.map_id]
theorem ap{P:Program}{fn:Func}{p u v:Tmp}{y:TypeId}(h:fn.results=#[.cell p y,.tmp u,.tmp v])(tmps:AV)(w:World)(g:Nat)(t:TypeId)(o:AV)(fr:Nat×Nat)(d:TypeDesc)(E:tmps.getD p undef=.pointer (some ⟨g,0,none⟩))(z:w.1[g]?=some (.cells o t fr))(J:P.underlying y=some d)(hd:(match d with | .struct _ | .array _ _=>true | _=>false)=true)(D:(P.info? y).map (·.size)=some o.size):
  (results fn tmps).run P w=.ok (.tuple #[.agg o,tmps.getD u undef,tmps.getD v undef]) w:=by
 have I:tmps[p]?.getD undef=.pointer (some ⟨g,0,none⟩):=by simpa using E
 simp[results,h,I,asAddr,run_loadVar_row w g t y o fr d z J hd D]
theorem aw{P:Program}{fn:Func}{p u:Tmp}{y:TypeId}(h:fn.results=#[.cell p y,.tmp u])(tmps:AV)(w:World)(g:Nat)(t:TypeId)(o:AV)(fr:Nat×Nat)(d:TypeDesc)(E:tmps.getD p undef=.pointer (some ⟨g,0,none⟩))(z:w.1[g]?=some (.cells o t fr))(J:P.underlying y=some d)(hd:(match d with | .struct _ | .array _ _=>true | _=>false)=true)(D:(P.info? y).map (·.size)=some o.size):
  (results fn tmps).run P w=.ok (.tuple #[.agg o,tmps.getD u undef]) w:=by
 have I:tmps[p]?.getD undef=.pointer (some ⟨g,0,none⟩):=by simpa using E
 simp[results,h,I,asAddr,run_loadVar_row w g t y o fr d z J hd D]
end
end Go.Proofs.YtbahfgdbjgkklaaGreatDoor

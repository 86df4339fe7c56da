import Derived.Test.YtdkammppnkhhoaaGreatDoorRows
import Derived.WalkSpells
import Derived.WalkLawsBesides
import Derived.BigQuiet
import Derived.Lib.ItoaMem
import Derived.Deep.Upon
import Derived.Deep.AppendLies
set_option maxRecDepth 100000
namespace Go.Proofs.YtdkammppnkhhoaaGreatDoor
abbrev L8:=List UInt8
abbrev OA:=Option Addr
abbrev AV:=Array Value
theorem xX{p:Prop}(h:p):Go.RowKit.Hid p:=h
theorem xZ{n:Nat}:n<=n:=Nat.le_refl n
theorem xY{B:Nat}{w:World}:Go.RowKit.Below B w w:=Go.RowKit.Below.refl _ _
theorem xV{w:World}{o:Obj}:Go.RowKit.Below w.heap.size w (w.alloc o):=xY.alloc xZ _
section
open Go.RowKit
def bR(w:World)(b o:Nat)(l:L8):Prop:=∀j (h:j<l.length),w.cell? ⟨b,o+j,none⟩=some (.int .u8 (l[j].toNat:Int))
def At(w:World)(p:OA)(l:L8):Prop:=l=[]∨∃b o,p=some ⟨b,o,none⟩∧b<w.1.size∧bR w b o l
theorem At.on{w w':World}{p:OA}{l:L8}(h:At w p l)(hb:Below w.1.size w w'):At w' p l:=by
 rcases h with rfl | ⟨b,o,rfl,y,z⟩
 ·exact .inl rfl
 ·refine .inr ⟨b,o,rfl,by have:=hb.size;omega,fun j A=>?_⟩;rw[hb.cell (p:=⟨b,o+j,none⟩) y];exact z j A
theorem At.drewN{w:World}{p:OA}{l:L8}(h:At w p l)(n:Nat):At (w.drewN n) p l:=by
 rcases h with rfl | ⟨b,z,rfl,o,y⟩
 ·exact .inl rfl
 ·exact .inr ⟨b,z,rfl,o,y⟩
theorem below_drewN{B:Nat}{a w:World}(h:Below B a w)(n:Nat):Below B a (w.drewN n):=⟨h.os,h.tape,h.output,h.size,h.block⟩
end
section
open Go.RowKit
def cellsOf(l:L8):List Value:=l.map fun b=>Value.int .u8 (b.toNat:Int)
theorem br(l:L8)(j:Nat)(h:j<l.length):(cellsOf l)[j]?=some (.int .u8 (l[j].toNat:Int)):=by
 simp[cellsOf,h]
theorem gv{w:World}{p:OA}{l:L8}(c:Nat)(h:At w p l):Src Tryz.prog 1 22 (.slice p l.length c) l.length (cellsOf l) w:=by
 have D:∀u∈cellsOf l,u.oneCell'=true:=fun u E=>by
  obtain⟨_,_,rfl⟩:=List.mem_map.1 E;rfl
 cases p with
 |none=>
  rcases h with rfl | ⟨b,I,y,_,_⟩
  ·exact Src.ofNil w Tryz.underlying22 c
  ·cases y
 |some a=>
  refine Src.ofSlice w Tryz.underlying22 a l.length c (cellsOf l) (by simp[cellsOf]) (fun j u o=>?_) D;rcases h with rfl | ⟨b,I,y,_,A⟩
  ·simp[cellsOf] at o
  ·cases y
   have z:j<l.length:=by
    have:=(List.getElem?_eq_some_iff.1 o).1;simpa[cellsOf] using this
   rw[br l j z] at o;cases o
   have:=A j z;rw[Lib.add_plain];exact this
theorem fT:(Tryz.prog.info? 5).map (fun i=>(i.zero,i.size,i.bytes))=some (some (.int .u8 0),1,1):=by kernel_rfl
theorem pX(w:World)(l:L8)(zs:AV)(T:TypeId):bR (w.alloc (.cells ((cellsOf l).toArray++zs) T)) w.1.size 0 l:=fun j o=>by
 rw[Nat.zero_add,World.cell?_alloc_new];have y:j<(cellsOf l).toArray.size:=by simpa[cellsOf] using o
 rw[Array.getElem?_append_left y];have:=br l j o;simpa using this
def Own(w:World)(b:Nat)(l:L8):Prop:=∃zs,w.1[b]?=some (.cells ((cellsOf l).toArray++zs) 5)
theorem Own.lt{w:World}{b:Nat}{l:L8}(h:Own w b l):b<w.1.size:=by
 obtain⟨zs,h⟩:=h;exact(Array.getElem?_eq_some_iff.1 h).1
theorem Own.cells{w:World}{b:Nat}{l:L8}(h:Own w b l):bR w b 0 l:=fun j o=>by
 obtain⟨zs,h⟩:=h;rw[Nat.zero_add];have y:j<(cellsOf l).toArray.size:=by simpa[cellsOf] using o
 have z:=br l j o;unfold World.cell?;rw[h];show((cellsOf l).toArray++zs)[j]?=_;rw[Array.getElem?_append_left y];simpa using z
theorem Own.at{w:World}{b:Nat}{l:L8}(h:Own w b l):At w (some ⟨b,0,none⟩) l:=.inr ⟨b,0,rfl,h.lt,h.cells⟩
theorem Own.thawed{w:World}{b:Nat}{l:L8}(h:Own w b l)(j:Nat):w.frozen? ⟨b,j,none⟩=false:=by
 obtain⟨zs,h⟩:=h;simp[World.frozen?,h]
theorem Own.set{w:World}{b:Nat}{l:L8}(h:Own w b l)(i:Nat)(v:UInt8)(y:i<l.length):Own (w.setCell ⟨b,i,none⟩ (.int .u8 (v.toNat:Int))) b (l.set i v):=by
 obtain⟨zs,h⟩:=h;refine⟨zs,?_⟩;have o:i<(cellsOf l).toArray.size:=by simpa[cellsOf] using y
 have e:(cellsOf (l.set i v)).toArray=(cellsOf l).toArray.set! i (.int .u8 (v.toNat:Int)):=by
  simp[cellsOf,List.map_set]
 rw[e];have hb:=(Array.getElem?_eq_some_iff.1 h).1;simp only[World.setCell,Array.getElem?_modify,h,if_true,Option.map_some];rw[if_neg (by simp),Array.set!_eq_setIfInBounds,Array.setIfInBounds_append_left o]
theorem bB(w:World)(o:Obj):(w.alloc o).1[w.1.size]?=some o:=by
 show(w.1.push o)[w.1.size]?=_;simp
theorem wpList_append_run{P:Program}(w:World){ops:Array Oper}{rest:List Oper}{o:Oper}{a:Act}{Q:Exit->Act->World->Prop}(J:o.guard=none)(s x:Operand)(t y:TypeId)(K:o.op=Op.call { callee:=Callee.builtin Builtin.append,args:=#[s,x],argTypes:=#[t,y] })(A D:Value)(M:a.eval s=A)(O:a.eval x=D)(z:Value)(w':World)(L:(Builtin.append_ #[t,y] o.type #[A,D]).run P w=.ok z w')(E:wpList P ops Q rest (a.put o.dst z) w'):wpList P ops Q (o::rest) a w:=by
 refine wpList_plain J fun R I=>?_;unfold Oper.wp;simp[execOp,K,resolve,invoke,builtin,M,O,L,Result.andThen];exact I _ _ E
structure bJ(P:Program)(t tx ty:TypeId)(vs vx:Value)(w:World)(v':Value)(w':World):Prop where
 run:(Builtin.append_ #[t,tx] ty #[vs,vx]).run P w=.ok v' w'
theorem aF{P:Program}{w:World}{ops:Array Oper}{rest:List Oper}{o:Oper}{a:Act}{Q:Exit->Act->World->Prop}{s x:Operand}{t y:TypeId}{A D z:Value}{w':World}(h:bJ P t y o.type A D w z w')(I:o.guard=none)(J:o.op=Op.call { callee:=Callee.builtin Builtin.append,args:=#[s,x],argTypes:=#[t,y] })(K:a.eval s=A)(L:a.eval x=D)(E:wpList P ops Q rest (a.put o.dst z) w'):wpList P ops Q (o::rest) a w :=
 wpList_append_run w I s x t y J A D K L z w' h.run E
end
section
open Go.RowKit
def bA(w:World)(B g cap:Nat)(l:L8):Prop:=w.ownsRow B 5 1 (.slice (some ⟨g,0,none⟩) l.length cap) l.length (cellsOf l)
theorem bA.at{w:World}{B g cap:Nat}{l:L8}(h:bA w B g cap l):At w (some ⟨g,0,none⟩) l:=by
 refine .inr ⟨g,0,rfl,(World.ownsRow.lt h g rfl).2,fun j o=>?_⟩;have:=World.ownsRow.cells h (g:=g) rfl j _ (br l j o);rw[Lib.add_plain] at this;exact this
theorem sy(w:World):bA (w.alloc (.cells #[] 5)) w.1.size w.1.size 0 []:=by
 refine⟨rfl,.inr ⟨w.1.size,0,#[],rfl,xZ,bB w _,xZ,by simp[maxLen],rfl,rfl⟩⟩
theorem bD(a b:L8):cellsOf (a++b)=cellsOf a++cellsOf b:=by simp[cellsOf]
theorem aS(a:L8):(cellsOf a).length=a.length:=by simp[cellsOf]
end
section
open Go.RowKit
def eW(w:World)(g o:Nat)(l:L8):Prop:=g<w.1.size∧bR w g o l∧∀j,j<l.length->w.frozen? ⟨g,o+j,none⟩=false
theorem eW.at{w:World}{g o:Nat}{l:L8}(h:eW w g o l):At w (some ⟨g,o,none⟩) l:=.inr ⟨g,o,rfl,h.1,h.2.1⟩
theorem eW.set{w:World}{g y:Nat}{l:L8}(h:eW w g y l)(i:Nat)(v:UInt8)(I:i<l.length):eW (w.setCell ⟨g,y+i,none⟩ (.int .u8 (v.toNat:Int))) g y (l.set i v):=by
 obtain⟨A,z,D⟩:=h;refine⟨by simpa[World.setCell] using A,fun j o=>?_,fun j o=>?_⟩
 ·rw[List.length_set] at o;by_cases e:i=j
  ·subst e;rw[World.cell?_setCell_same (h:=z i I),List.getElem_set_self]
  ·rw[World.cell?_setCell_other (h:=by intro E;injection E;omega),z j o,List.getElem_set_ne e]
 ·rw[List.length_set] at o;rw[World.frozen?_setCell];exact D j o
theorem eW.on{w w':World}{B g o:Nat}{l:L8}(h:eW w g o l)(z:g<B)(hb:Below B w w'):eW w' g o l:=by
 obtain⟨E,A,D⟩:=h;refine⟨by have:=hb.size;omega,fun j y=>?_,fun j y=>?_⟩
 ·rw[hb.cell (p:=⟨g,o+j,none⟩) z];exact A j y
 ·rw[hb.frozen (p:=⟨g,o+j,none⟩) z];exact D j y
theorem Own.free{w:World}{b:Nat}{l:L8}(h:Own w b l):eW w b 0 l:=⟨h.lt,h.cells,fun j _=>by rw[Nat.zero_add];exact h.thawed j⟩
theorem bA.free{w:World}{B g cap:Nat}{l:L8}(h:bA w B g cap l):eW w g 0 l:=by
 refine⟨(World.ownsRow.lt h g rfl).2,fun j z=>?_,fun j _=>?_⟩
 ·have:=World.ownsRow.cells h (g:=g) rfl j _ (br l j z);rw[Lib.add_plain] at this;exact this
 ·rcases h.2 with ⟨o,_⟩ | ⟨E,A,D,o,_,y,_⟩
  ·cases o
  ·cases o
   simp[World.frozen?,y]
theorem bA.base{w:World}{B g cap:Nat}{l:L8}(h:bA w B g cap l):B<=g∧g<w.1.size∧l.length<=cap:=by
 refine⟨(World.ownsRow.lt h g rfl).1,(World.ownsRow.lt h g rfl).2,?_⟩;rcases h.2 with ⟨o,_⟩ | ⟨D,z,A,o,_,_,y,_⟩
 ·cases o
 ·cases o;exact y
theorem cu{w:World}{b o:Nat}{l:L8}(h:bR w b o l)(n:Nat):bR w b (o+n) (l.drop n):=fun j y=>by
 have z:n+j<l.length:=by rw[List.length_drop] at y;omega
 have:=h (n+j) z;rw[<-Nat.add_assoc] at this;rw[this,List.getElem_drop]
theorem dq{w:World}{b o:Nat}{l:L8}(h:bR w b o l)(n:Nat):bR w b o (l.take n):=fun j y=>by
 have z:j<l.length:=by rw[List.length_take] at y;omega
 rw[h j z,List.getElem_take]
theorem aL{w:World}{p:OA}{l:L8}(h:At w p l)(y:0<l.length):∃b o,p=some ⟨b,o,none⟩∧b<w.1.size∧bR w b o l:=by
 rcases h with rfl | h
 ·simp at y
 ·exact h
end
section
open Go.RowKit
def Has(w:World)(B:Nat)(v:Value)(l:L8):Prop:=w.ownsRow B 5 1 v l.length (cellsOf l)
theorem aI(w:World)(B:Nat):Has w B (.slice none 0 0) []:=⟨rfl,.inl ⟨rfl,rfl⟩⟩
theorem bA.has{w:World}{B g cap:Nat}{l:L8}(h:bA w B g cap l):Has w B (.slice (some ⟨g,0,none⟩) l.length cap) l:=h
theorem Has.form{w:World}{B:Nat}{v:Value}{l:L8}(h:Has w B v l):(v=.slice none 0 0∧l=[])∨∃g cap,v=.slice (some ⟨g,0,none⟩) l.length cap∧bA w B g cap l:=by
 rcases h.2 with ⟨y,z⟩ | ⟨g,cap,o,rfl,A⟩
 ·exact .inl ⟨y,List.eq_nil_of_length_eq_zero z⟩
 ·exact .inr ⟨g,cap,rfl,h.1,.inr ⟨g,cap,o,rfl,A⟩⟩
theorem Has.at{w:World}{B:Nat}{v:Value}{l:L8}(h:Has w B v l):∃p cap,v=.slice p l.length cap∧At w p l∧l.length<=cap:=by
 rcases h.form with ⟨rfl,rfl⟩ | ⟨g,cap,rfl,o⟩
 ·exact⟨none,0,rfl,.inl rfl,xZ⟩
 ·exact⟨_,cap,rfl,o.at,o.base.2.2⟩
theorem Has.drew{w:World}{B:Nat}{v:Value}{l:L8}(h:Has w B v l):Has w.drew B v l:=h
theorem Has.drewN{w:World}{B:Nat}{v:Value}{l:L8}(h:Has w B v l)(n:Nat):Has (w.drewN n) B v l:=h
theorem Has.alloc{w:World}{B:Nat}{v:Value}{l:L8}(h:Has w B v l)(o:Obj):Has (w.alloc o) B v l:=World.ownsRow.alloc h o
theorem r9(B:Nat)(v:Value)(xs l:L8)(a:Addr)(c:Nat)(w:World)(J:Has w B v xs)(h:At w (some a) l)(K:l≠[])(a2:xs.length+l.length<=140737488355328)(I:B<=w.1.size):
  ∃(y cap':Nat) (W:World),bJ Tryz.prog 22 22 22 v (.slice (some a) l.length c) w (.slice (some ⟨y,0,none⟩) (xs++l).length cap') W∧bA W B y cap' (xs++l)∧Below B w W:=by
 obtain⟨i,V,a0,aj,L⟩:=info_parts fT;have O:∀j u,(cellsOf l)[j]?=some u->w.cell? (a.add j)=some u:=fun j u A=>by
  have D:j<l.length:=by
   have:=(List.getElem?_eq_some_iff.1 A).1;simpa[cellsOf] using this
  rcases h with rfl | ⟨b,o,Z,_,M⟩
  ·simp at D
  ·cases Z
   rw[br l j D] at A;cases A
   rw[Lib.add_plain];exact M j D
 obtain⟨a1,W,ah,E,U,Y⟩:=run_append_own (P:=Tryz.prog) w B 22 22 5 i (.int .u8 0) 1 1 Tryz.underlying22 V a0 aj L rfl (by decide) v xs.length (cellsOf xs) J a l.length c (cellsOf l) (by rw[aS,Nat.mul_one]) O
  (fun u ak=>by obtain⟨_,_,rfl⟩:=List.mem_map.1 ak;rfl) (by unfold maxLen;omega) (by omega) I
 rw[<-bD,<-List.length_append] at E;have R:∃y cap',a1=.slice (some ⟨y,0,none⟩) (xs++l).length cap':=by
  rcases E.2 with ⟨z,_⟩ | ⟨y,cap',_,z,_⟩
  ·have:=(Y.1 z).2;exact absurd (List.eq_nil_of_length_eq_zero this) K
  ·exact⟨y,cap',z⟩
 obtain⟨y,cap',rfl⟩:=R;exact⟨y,cap',W,⟨ah⟩,E,xY.grown U I (fun k X=>(World.ownsRow.lt J k X).1)⟩
theorem aW{B:Nat}{v:Value}{xs:L8}{w:World}(U:Has w B v xs)(c:UInt8)(M:xs.length+1<=140737488355328)(z:B<=w.1.size){y:Int}{ops:Array Oper}{rest:List Oper}{o:Oper}{a:Act}{Q:Exit->Act->World->Prop}{s x:Operand}(ah:y=(c.toNat:Int))(Y:o.type=22)(J:o.guard=none)(R:o.op=Op.call { callee:=Callee.builtin Builtin.append,args:=#[s,x],argTypes:=#[22,22] })(X:a.eval s=v)(Z:a.eval x=.slice (some ⟨w.1.size,0,none⟩) 1 1)(E:∀g cap W,bA W B g cap (xs++[c])->Below B w W->wpList Tryz.prog ops Q rest (a.put o.dst (.slice (some ⟨g,0,none⟩) (xs.length+1) cap)) W):
  wpList Tryz.prog ops Q (o::rest) a (w.alloc (.cells #[.int .u8 y] 5)):=by
 have I:At (w.alloc (.cells #[.int .u8 y] 5)) (some ⟨w.1.size,0,none⟩) [c]:=by
  refine .inr ⟨_,_,rfl,by simp,fun j K=>?_⟩;have L:j=0:=by simp at K;omega
  subst L;rw[World.cell?_alloc_new,ah];rfl
 have A:Below B w (w.alloc (.cells #[.int .u8 y] 5)):=xY.alloc z _;obtain⟨g,cap,W,D,O,hb⟩:=r9 B v xs [c] ⟨w.1.size,0,none⟩ 1 _ (U.alloc _) I (by simp) (by simpa using M) (Nat.le_trans z A.size);have e:(xs++[c]).length=xs.length+1:=by simp
 rw[e] at D;have V:bJ Tryz.prog 22 22 o.type v (.slice (some ⟨w.1.size,0,none⟩) 1 1) (w.alloc (.cells #[.int .u8 y] 5)) (.slice (some ⟨g,0,none⟩) (xs.length+1) cap) W:=by rw[Y];exact D
 exact aF V J R X Z (E g cap W O (A.trans hb))
end
section
open Go.RowKit
structure Aside(F:Nat->Prop)(w w':World):Prop where
 os:w'.os=w.os
 tape:w'.tape=w.tape
 output:w'.output=w.output
 size:w.1.size<=w'.1.size
 block:∀k,k<w.1.size->¬F k->w'.1[k]?=w.1[k]?
section
variable {F G:Nat->Prop} {w w' w'':World}
theorem Aside.refl(F:Nat->Prop)(w:World):Aside F w w:=⟨rfl,rfl,rfl,xZ,fun _ _ _=>rfl⟩
theorem Aside.trans(h:Aside F w w')(k:Aside G w' w'')(A:∀i,i<w.1.size->G i->F i):Aside F w w'' :=
 ⟨k.os.trans h.os,k.tape.trans h.tape,k.output.trans h.output,Nat.le_trans h.size k.size,fun i o y=>(k.block i (Nat.lt_of_lt_of_le o h.size) (fun z=>y (A i o z))).trans (h.block i o y)⟩
theorem Aside.mono(h:Aside F w w')(A:∀i,i<w.1.size->F i->G i):Aside G w w' :=
 ⟨h.os,h.tape,h.output,h.size,fun i o z=>h.block i o (fun y=>z (A i o y))⟩
theorem fZ{B:Nat}(h:Below B w w')(y:∀k,k<w.1.size->B<=k->F k):Aside F w w' :=
 ⟨h.os,h.tape,h.output,h.size,fun k A z=>h.block k (by
  rcases Nat.lt_or_ge k B with o | o
  ·exact o
  ·exact absurd (y k A o) z)⟩
theorem ae(h:Below w.1.size w w')(F:Nat->Prop):Aside F w w':=fZ h fun _ o y=>absurd o (Nat.not_lt_of_le y)
theorem Aside.below{B:Nat}(h:Aside F w w')(z:B<=w.1.size)(o:∀k,k<B->¬F k):Below B w w' :=
 ⟨h.os,h.tape,h.output,h.size,fun k y=>h.block k (by omega) (o k y)⟩
theorem Aside.alloc(h:Aside F w w')(o:Obj):Aside F w (w'.alloc o) :=
 h.trans (ae ((Below.refl w'.1.size w').alloc xZ o) F) fun _ _ h=>h
theorem Aside.drew(h:Aside F w w'):Aside F w w'.drew:=⟨h.os,h.tape,h.output,h.size,h.block⟩
theorem Aside.drewN(h:Aside F w w')(n:Nat):Aside F w (w'.drewN n):=⟨h.os,h.tape,h.output,h.size,h.block⟩
theorem Aside.setCell(h:Aside F w w'){p:Addr}(o:F p.block∨w.1.size<=p.block)(u:Value):Aside F w (w'.setCell p u):=by
 refine⟨h.os,h.tape,h.output,by simpa[World.setCell] using h.size,fun k A y=>?_⟩;rw[Below.heap_setCell _ _ _ _ (fun z=>?_)]
 ·exact h.block k A y
 ·rcases o with o | o
  ·rw[<-z] at o;exact y o
  ·omega
theorem Aside.cell(h:Aside F w w'){p:Addr}(o:p.block<w.1.size)(y:¬F p.block):w'.cell? p=w.cell? p:=World.cell?_of_block (w:=w) (h.block p.block o y)
theorem Aside.frozen(h:Aside F w w'){p:Addr}(o:p.block<w.1.size)(y:¬F p.block):w'.frozen? p=w.frozen? p:=World.frozen?_of_block (w:=w) (h.block p.block o y)
end
end
section
open Go.RowKit
section
variable {F G:Nat->Prop} {w w' w'':World}
theorem At.aside{p:OA}{l:L8}(h:At w p l)(y:Aside F w w')(E:∀b o,p=some ⟨b,o,none⟩->¬F b):At w' p l:=by
 rcases h with rfl | ⟨b,o,rfl,D,z⟩
 ·exact .inl rfl
 ·refine .inr ⟨b,o,rfl,by have:=y.size;omega,fun j A=>?_⟩;rw[y.cell (p:=⟨b,o+j,none⟩) D (E b o rfl)];exact z j A
theorem Has.lt{B:Nat}{v:Value}{l:L8}(h:Has w B v l):∀k,v.ownBlock=some k->B<=k∧k<w.1.size:=World.ownsRow.lt h
theorem Has.aside{B:Nat}{v:Value}{l:L8}(h:Has w B v l)(E:Aside F w w')(I:∀k,v.ownBlock=some k->¬F k):Has w' B v l:=by
 refine⟨h.1,?_⟩;rcases h.2 with z | ⟨g,cap,y,rfl,A,o,D⟩
 ·exact .inl z
 ·refine .inr ⟨g,cap,y,rfl,A,?_,D⟩;rw[E.block g (Array.getElem?_eq_some_iff.1 o).1 (I g rfl)];exact o
theorem Has.low{B B':Nat}{v:Value}{l:L8}(h:Has w B v l)(D:B'<=B):Has w B' v l:=by
 refine⟨h.1,?_⟩;rcases h.2 with y | ⟨g,cap,o,rfl,A,z⟩
 ·exact .inl y
 ·exact .inr ⟨g,cap,o,rfl,by omega,z⟩
end
end
section
open Go.RowKit
theorem cz{w w':World}{row:Option Nat}(o:w.grownBy w' row):Aside (fun k=>row=some k) w w':=⟨o.os,o.tape,o.output,o.size,fun k A z=>o.block k A (fun y=>z y.symm)⟩
theorem i8(B:Nat)(v:Value)(xs l:L8)(p:OA)(c:Nat)(w:World)(A:Has w B v xs)(h:At w p l)(a3:xs.length+l.length<=140737488355328)(R:B<=w.1.size):
  ∃(q:OA) (cap:Nat) (W:World),bJ Tryz.prog 22 22 22 v (.slice p l.length c) w (.slice q (xs++l).length cap) W∧Has W B (.slice q (xs++l).length cap) (xs++l)∧Aside (fun k=>v.ownBlock=some k) w W∧(xs++l).length<=cap∧∀k,(Value.slice q (xs++l).length cap).ownBlock=some k->v.ownBlock=some k∨w.1.size<=k:=by
 obtain⟨i,J,aj,O,U⟩:=info_parts fT;by_cases y:l=[]
 ·subst y;obtain⟨q,cap,rfl,-,I⟩:=A.at;rw[List.append_nil];exact⟨q,cap,w,⟨run_append_nothing (P:=Tryz.prog) w 22 22 22 5 i Tryz.underlying22 J q xs.length cap I (.slice p 0 c) (by rw[O];exact gv c h)⟩,A,Aside.refl _ _,I,fun k hk=>.inl hk⟩
 ·obtain⟨b,o,rfl,a2,V⟩:=aL h (List.length_pos_iff.2 y)
  obtain⟨g,cap,W,M,L,Z,Y,_⟩:=run_append_lies (P:=Tryz.prog) w 22 22 B 5 i (.int .u8 0) 1 1 Tryz.underlying22 J aj O U rfl (by decide) v xs.length (cellsOf xs) A ⟨b,o,none⟩ l.length c (cellsOf l) (by rw[aS,Nat.mul_one])
   (fun j u z=>by
    have K:j<l.length:=by
     have:=(List.getElem?_eq_some_iff.1 z).1;simpa[cellsOf] using this
    rw[br l j K] at z;cases z
    rw[Lib.add_plain];exact V j K)
   (fun u ah=>by obtain⟨_,_,rfl⟩:=List.mem_map.1 ah;rfl) (List.length_pos_iff.2 y) (by unfold maxLen;omega) (by omega) R w.1.size rfl
  rw[<-bD,<-List.length_append] at L;rw[<-List.length_append] at M;have E:Has W B (.slice (some ⟨g,0,none⟩) (xs++l).length cap) (xs++l):=L;refine⟨some ⟨g,0,none⟩,cap,W,⟨M⟩,E,cz Z,?_,?_⟩
  ·obtain⟨a4,a0,X,_,a1⟩:=E.at;injection X with _ _ e2;omega
  ·intro k hk;simp only[Value.ownBlock,Option.some.injEq] at hk;subst hk;rcases Y with D | D
   ·exact .inl D
   ·exact .inr (by omega)
theorem aw{B:Nat}{v:Value}{xs l:L8}{p:OA}{c:Nat}{w:World}(M:Has w B v xs)(h:At w p l)(J:xs.length+l.length<=140737488355328)(A:B<=w.1.size){ops:Array Oper}{rest:List Oper}{o:Oper}{a:Act}{Q:Exit->Act->World->Prop}{z x:Operand}(V:o.type=22)(I:o.guard=none)(L:o.op=Op.call { callee:=Callee.builtin Builtin.append,args:=#[z,x],argTypes:=#[22,22] })(U:a.eval z=v)(X:a.eval x=.slice p l.length c)(D:∀y q cap W,Hid (y=xs++l)->Has W B (.slice q y.length cap) y->Aside (fun k=>v.ownBlock=some k) w W->(∀k,(Value.slice q y.length cap).ownBlock=some k->v.ownBlock=some k∨w.1.size<=k)->wpList Tryz.prog ops Q rest (a.put o.dst (.slice q y.length cap)) W):
  wpList Tryz.prog ops Q (o::rest) a w:=by
 obtain⟨q,cap,W,O,K,E,-,hb⟩:=i8 B v xs l p c w M h J A;have R:bJ Tryz.prog 22 22 o.type v (.slice p l.length c) w (.slice q (xs++l).length cap) W:=by rw[V];exact O
 exact aF R I L U X (D _ q cap W (xX rfl) K E hb)
theorem strCells_eq(t:ByteArray):Lib.strCells t=cellsOf t.data.toList:=by
 simp[Lib.strCells,cellsOf]
theorem rZ(B:Nat)(v:Value)(xs:L8)(t:ByteArray)(w:World)(E:Has w B v xs)(ah:xs.length+t.size<=140737488355328)(V:B<=w.1.size):
  ∃(q:OA) (cap:Nat) (W:World),bJ Tryz.prog 22 9 22 v (.string t) w (.slice q (xs++t.data.toList).length cap) W∧Has W B (.slice q (xs++t.data.toList).length cap) (xs++t.data.toList)∧Aside (fun k=>v.ownBlock=some k) w W∧∀k,(Value.slice q (xs++t.data.toList).length cap).ownBlock=some k->v.ownBlock=some k∨w.1.size<=k:=by
 obtain⟨i,z,J,I,D⟩:=info_parts fT;obtain⟨O,w',A,L,R,U⟩:=Lib.run_append_own_string (P:=Tryz.prog) w B 22 9 22 5 i Tryz.underlying22 Tryz.underlying9 z J I D v xs.length (cellsOf xs) E t (by unfold maxLen;omega) ah V;have a0:t.data.toList.length=t.size:=by rw[Array.length_toList];rfl
 have X:∀k,O.ownBlock=some k->v.ownBlock=some k∨w.1.size<=k:=by
  intro k o;rcases E.2 with ⟨rfl,a5⟩ | ⟨g,cap,K,rfl,a2,Z,a6,a3,Y,a7⟩
  ·by_cases aj:t.size=0
   ·rw[U.2 ⟨rfl,aj⟩] at o;simp[Value.ownBlock] at o
   ·have y:=run_append_nil_string (P:=Tryz.prog) w 22 9 22 5 i (.int .u8 0) Tryz.underlying22 Tryz.underlying9 z J t (by omega) (by omega) (by rw[D];omega);have e:=A.symm.trans y;injection e with e1 e2;rw[e1] at o;simp only[Value.ownBlock,Option.some.injEq] at o;exact .inr (by omega)
  ·by_cases ak:xs.length+t.size<=cap
   ·have a4:K.size=cap:=(by simpa using Y);have y:=Lib.run_append_room_string (P:=Tryz.prog) w 22 9 22 5 i Tryz.underlying22 Tryz.underlying9 z I g xs.length cap K Z t ak (by omega);have e:=A.symm.trans y;injection e with e1 e2;rw[e1] at o;exact .inl o
   ·have a1:(cellsOf xs).length=xs.length:=aS xs;have y:=Lib.run_append_grow_string (P:=Tryz.prog) w 22 9 22 5 i (.int .u8 0) Tryz.underlying22 Tryz.underlying9 z J ⟨g,0,none⟩ xs.length cap (cellsOf xs) (by rw[I,a1,Nat.mul_one]) (World.ownsRow.cells (g:=g) E rfl) t (by omega) (by omega) (by rw[D];exact growslice_fits (by omega) (by omega));have e:=A.symm.trans y;injection e with e1 e2;rw[e1] at o;simp only[Value.ownBlock,Option.some.injEq] at o;exact .inr (by omega)
 rw[strCells_eq,<-bD,<-a0,<-List.length_append] at L;have M:Has w' B O (xs++t.data.toList):=L;obtain⟨q,cap,rfl,-,-⟩:=M.at;exact⟨q,cap,w',⟨A⟩,M,cz R,X⟩
theorem fD{B:Nat}{v:Value}{xs:L8}{t:ByteArray}{w:World}(M:Has w B v xs)(J:xs.length+t.size<=140737488355328)(A:B<=w.1.size){ops:Array Oper}{rest:List Oper}{o:Oper}{a:Act}{Q:Exit->Act->World->Prop}{z x:Operand}(V:o.type=22)(I:o.guard=none)(L:o.op=Op.call { callee:=Callee.builtin Builtin.append,args:=#[z,x],argTypes:=#[22,9] })(U:a.eval z=v)(X:a.eval x=.string t)(D:∀y q cap W,Hid (y=xs++t.data.toList)->Has W B (.slice q y.length cap) y->Aside (fun k=>v.ownBlock=some k) w W->(∀k,(Value.slice q y.length cap).ownBlock=some k->v.ownBlock=some k∨w.1.size<=k)->wpList Tryz.prog ops Q rest (a.put o.dst (.slice q y.length cap)) W):
  wpList Tryz.prog ops Q (o::rest) a w:=by
 obtain⟨q,cap,W,O,K,E,hb⟩:=rZ B v xs t w M J A;have R:bJ Tryz.prog 22 9 o.type v (.string t) w (.slice q (xs++t.data.toList).length cap) W:=by rw[V];exact O
 exact aF R I L U X (D _ q cap W (xX rfl) K E hb)
theorem au{B:Nat}{v:Value}{xs:L8}{w W:World}(y:Aside (fun k=>v.ownBlock=some k) w W)(A:Has w B v xs)(o:B<=w.1.size):Below B w W :=
 y.below o (fun k D z=>by have:=(A.lt k z).1;omega)
theorem bP{B:Nat}{w:World}(l:L8){C:AV}(y:C=(cellsOf l).toArray)(o:B<=w.1.size)(z:l.length<=1000000):Has (w.alloc (.cells C 5)) B (.slice (some ⟨w.1.size,0,none⟩) l.length l.length) l:=by
 subst y;refine⟨by rw[aS,Nat.mul_one],.inr ⟨w.1.size,l.length,(cellsOf l).toArray,rfl,o,bB w _,xZ,by unfold maxLen;omega,by simp[cellsOf],?_⟩⟩;rw[List.toList_toArray,Nat.mul_one,List.take_of_length_le (by rw[aS];exact xZ)]
theorem Has.on{B:Nat}{w w':World}{v:Value}{l:L8}(h:Has w B v l)(hb:Below w.1.size w w'):Has w' B v l:=h.aside (ae hb (fun _=>False)) (fun _ _ o=>o)
theorem Has.lower{B B':Nat}{w:World}{v:Value}{l:L8}(h:Has w B v l)(o:B'<=B):Has w B' v l:=h.low o
theorem lz{B:Nat}{v:Value}{xs:L8}{w:World}{H:Nat}(A:w.1.size=H)(K:Has w B v xs)(c:UInt8)(I:xs.length+1<=140737488355328)(z:B<=w.1.size){y:Int}{ops:Array Oper}{rest:List Oper}{o:Oper}{a:Act}{Q:Exit->Act->World->Prop}{s x:Operand}(R:y=(c.toNat:Int))(M:o.type=22)(E:o.guard=none)(J:o.op=Op.call { callee:=Callee.builtin Builtin.append,args:=#[s,x],argTypes:=#[22,22] })(L:a.eval s=v)(O:a.eval x=.slice (some ⟨H,0,none⟩) 1 1)(D:∀g cap W,bA W B g cap (xs++[c])->Below B w W->wpList Tryz.prog ops Q rest (a.put o.dst (.slice (some ⟨g,0,none⟩) (xs.length+1) cap)) W):
  wpList Tryz.prog ops Q (o::rest) a (w.alloc (.cells #[.int .u8 y] 5)):=by
 subst A;exact aW K c I z R M E J L O D
end
section
open Go.RowKit
def textOf(l:L8):ByteArray:=⟨l.toArray⟩
theorem gJ(l:L8):(textOf l).data.toList=l:=by simp[textOf]
theorem dO{w:World}{p:OA}{l:L8}(h:At w p l)(c:Nat):(convert 22 9 (.slice p l.length c)).run Tryz.prog w=.ok (.string (textOf l)) w:=by
 have y:Tryz.prog.underlying 5=some (.int .u8):=Tryz.underlying5;rcases h with rfl | ⟨b,E,rfl,hb,z⟩
 ·rw[run_convert_bytes_string w 22 9 5 _ _ c Tryz.underlying22 y Tryz.underlying9];cases p with
  |none=>
   simp[Conv.bytesToString,textOf,ByteArray.empty,ByteArray.emptyWithCapacity];rfl
  |some a=>
   have D:(loadCells a 0).run Tryz.prog w=.ok ((([]:List Int).map (Value.int .u8)).toArray) w:=by
    have:=run_loadCells_list (P:=Tryz.prog) w a [] (fun j v A=>by simp at A);simpa using this
   rw[List.length_nil,run_bytesToString w a 0 c [] D];rfl
 ·have h:=run_convert_bytes_arg (P:=Tryz.prog) w 22 5 Tryz.underlying22 y b E l.length c (l.map fun x=>(x.toNat:Int)) (by simp) (fun i o=>by
   rw[z i o]
   simp[o]) 9 Tryz.underlying9
  rw[h];congr 2;show(⟨_⟩:ByteArray)=⟨_⟩;congr 1;rw[List.map_map];congr 1;have:(l.map ((fun n:Int=>UInt8.ofNat n.toNat) ∘ fun x:UInt8=>(x.toNat:Int)))=l.map id:=List.map_congr_left (fun x _=>by simp);rw[this,List.map_id]
theorem af{P:Program}{fn:Func}{p u v:Tmp}{y:TypeId}(h:fn.results=#[.cell p y,.tmp u,.tmp v])(tmps:AV)(w:World)(g:Nat)(t:TypeId)(o:AV)(z:Nat×Nat)(d:TypeDesc)(E:tmps.getD p undef=.pointer (some ⟨g,0,none⟩))(A:w.1[g]?=some (.cells o t z))(J:P.underlying y=some d)(hd:(match d with | .struct _ | .array _ _=>true | _=>false)=true)(D:(P.info? y).map (·.size)=some o.size):
  (results fn tmps).run P w=.ok (.tuple #[.agg o,tmps.getD u undef,tmps.getD v undef]) w:=by
 have I:tmps[p]?.getD undef=.pointer (some ⟨g,0,none⟩):=by simpa using E
 simp[results,h,I,asAddr,run_loadVar_row w g t y o z d A J hd D]
theorem ap{P:Program}{fn:Func}{p u:Tmp}{y:TypeId}(h:fn.results=#[.cell p y,.tmp u])(tmps:AV)(w:World)(g:Nat)(t:TypeId)(o:AV)(z:Nat×Nat)(d:TypeDesc)(E:tmps.getD p undef=.pointer (some ⟨g,0,none⟩))(A:w.1[g]?=some (.cells o t z))(J:P.underlying y=some d)(hd:(match d with | .struct _ | .array _ _=>true | _=>false)=true)(D:(P.info? y).map (·.size)=some o.size):
  (results fn tmps).run P w=.ok (.tuple #[.agg o,tmps.getD u undef]) w:=by
 have I:tmps[p]?.getD undef=.pointer (some ⟨g,0,none⟩):=by simpa using E
 simp[results,h,I,asAddr,run_loadVar_row w g t y o z d A J hd D]
end
end Go.Proofs.YtdkammppnkhhoaaGreatDoor

import Derived.Test.YtngmnfdaedlodaaGreatDoorB01
import Derived.Deep.RegionHeld3
import Derived.Deep.RegionLaw
set_option maxRecDepth 100000
set_option maxHeartbeats 1000000
namespace Go.Proofs.YtngmnfdaedlodaaGreatDoor
open Go.Proofs.Tryz
open Option renaming none->I,some->U
open Go.Value renaming int->Y,slice->N,bool->qz,pointer->qq
open Go.IntKind renaming i64->O
open Go.Obj renaming cells->wx
open Or renaming inl->AZ
open Bool renaming true->AJ,false->AK
open Go renaming World->AU,Value->AA,Calls->AB
open Go.Proofs.Tryz renaming prog->AE
open Go.Ending renaming returned->wv
variable{B bx g k k' m n x x':Nat}{w w':AU}{l:L8}{fv v:AA}{q:OA}{T:TypeId}
namespace Dv
structure St where
 b:L8
 most:Nat
 safe:Nat
 down:Bool
 bound:Bool
 after:Nat
 keep:Nat
 told:Nat
 done:Nat
def new(quota:Nat):St:=⟨[],quota,0,AK,AK,0,0,0,0⟩
def may(s:St):Bool:=!s.bound||decide (0<s.after)
def did(s:St):St:={ s with after:=if s.bound then s.after-1 else s.after,done:=s.done+1 }
def fails(s:St):St:={ s with b:=if s.keep<s.b.length-s.safe then s.b.take (s.safe+s.keep) else s.b,bound:=AK,down:=AJ }
def lay:St->L8->Bool×St
 |s,[]=>(AK,s)
 |s,c::r=>if may s then lay { did s with b:=s.b++[c] } r else (AJ,fails s)
def write(s:St)(l:L8):Nat×St :=
 if s.down then (50,s) else if l≠[]∧s.most<s.b.length+l.length then (52,s) else
  let r:=lay s l
  (if r.1 then 51 else 0,r.2)
def sync(s:St):Nat×St:=if s.down then (50,s) else (0,{ s with safe:=s.b.length })
def cut(s:St)(n:Int):Nat×St :=
 if s.down then (50,s) else if n<0∨(s.b.length:Int)<n then (7,s) else if may s then (0,{ did s with b:=s.b.take n.toNat,safe:=if n.toNat<s.safe then n.toNat else s.safe }) else (51,fails s)
def read(s:St)(a n:Int):L8×Nat×St :=
 if a<0∨(s.b.length:Int)<a∨n<0 then ([],7,s) else
  let l:=(s.b.drop a.toNat).take n.toNat
  (l,0,{ s with told:=s.told+l.length })
def fail(s:St)(after keep:Int):Nat×St:=if s.down then (50,s) else if after<0∨keep<0 then (1,s) else (0,{ s with bound:=AJ,after:=after.toNat,keep:=keep.toNat })
def start(s:St):Nat×St:=if s.down then (0,{ s with down:=AK }) else (6,s)
def tail(s:St)(l:L8):Nat×St:=if 2097152<s.b.length+l.length then (2,s) else (0,{ s with b:=s.b++l,safe:=(s.b++l).length })
def Sound(s:St):Prop:=s.safe<=s.b.length
def Keeps(s t:St)(all:L8):Prop:=s.b.take s.safe <+: t.b∧t.b <+: all∧Sound t∧t.most=s.most
structure Held(s t:St)(e:Nat)(all:L8):Prop where
 keeps:Keeps s t all
 room:s.b.length<=s.most->t.b.length<=t.most
 power:(e=51)↔(s.down=AK∧t.down=AJ)
 space:e=52->t.b=s.b
theorem lay_free:∀(l:L8) (s:St),s.bound=AK->lay s l=(AK,{ s with b:=s.b++l,done:=s.done+l.length })
 | [],s,_=>by simp[lay]
 |c::r,s,h=>by
  rw[lay,AG (by simp[may,h]),lay_free r _ (by simp[did,h])];simp only[did,h,Bool.false_eq_true,if_false,AN,List.cons_append,List.nil_append,AI];congr 2;omega
end Dv
section
open Go.RowKit
def aJ(v:AA)(s:Dv.St)(x k:Nat)(f:AA):AV:=#[v,Y O s.most,Y O s.safe,Y O s.told,Y O s.done,qz s.down,qz s.bound,Y O x,Y O k,f]
structure ax(w:AU)(B g:Nat)(v:AA)(s:Dv.St)(x k:Nat):Prop where
 lies:w.1[g]?=U (wx (aJ v s x k .nilFunc) 70)
 has:Has w B v s.b
 base:B<=g
 due:s.bound=AJ->x=s.after∧k=s.keep
 left:x<9223372036854775808
 keep:k<9223372036854775808
theorem ax.lt{s:Dv.St}(h:ax w B g v s x k):g<w.1.size:=(Array.getElem?_eq_some_iff.1 h.lies).1
theorem fe{s:Dv.St}{f:AA}(h:w.1[g]?=U (wx (aJ v s x k f) 70))(i:Nat):w.cell? ⟨g,i,I⟩=(aJ v s x k f)[i]?:=by
 unfold World.cell?;rw[h];rfl
theorem lE{s:Dv.St}{f:AA}(h:w.1[g]?=U (wx (aJ v s x k f) 70))(i:Nat):w.frozen? ⟨g,i,I⟩=false:=by
 simp[World.frozen?,h]
theorem eJ{v':AA}{s s':Dv.St}{f f':AA}(h:w.1[g]?=U (wx (aJ v s x k f) 70))(i:Nat)(u:AA)(o:aJ v' s' x' k' f'=(aJ v s x k f).setIfInBounds i u):(w.setCell ⟨g,i,I⟩ u).1[g]?=U (wx (aJ v' s' x' k' f') 70):=by
 simp only[World.setCell,Array.getElem?_modify,h,if_true,Option.map_some];rw[AF (by simp),o]
theorem ax.cell{s:Dv.St}(h:ax w B g v s x k)(i:Nat):w.cell? ⟨g,i,I⟩=(aJ v s x k .nilFunc)[i]?:=fe h.lies i
theorem ax.thawed{s:Dv.St}(h:ax w B g v s x k)(i:Nat):w.frozen? ⟨g,i,I⟩=false:=lE h.lies i
theorem dY(h:Has w B v l){C:AV}{T:TypeId}(A:w.1[g]?=U (wx C T))(E:T≠5):v.ownBlock≠U g:=by
 intro o;rcases h.2 with ⟨y,_⟩ | ⟨K,cap,J,y,_,D,_⟩
 ·rw[y] at o;cases o
 ·rw[y] at o;simp only[Value.ownBlock,Option.some.injEq] at o;subst o;rw[D] at A;injection A with h4;injection h4 with _ h5;exact E h5.symm
theorem ax.apart{s:Dv.St}(h:ax w B g v s x k):v.ownBlock≠U g:=dY h.has h.lies (by decide)
theorem ax.put{s s':Dv.St}(h:ax w B g v s x k)(i:Nat)(u:AA)(A:aJ v s' x' k' .nilFunc=(aJ v s x k .nilFunc).setIfInBounds i u)(hb:s'.b=s.b)(hd:s'.bound=AJ->x'=s'.after∧k'=s'.keep)(J:x'<9223372036854775808)(E:k'<9223372036854775808):ax (w.setCell ⟨g,i,I⟩ u) B g v s' x' k':=by
 have o:Aside (·=g) w (w.setCell ⟨g,i,I⟩ u):=(Aside.refl (·=g) w).setCell (p:=⟨g,i,I⟩) (AZ rfl) u;refine⟨eJ h.lies i u A,?_,h.base,hd,J,E⟩;rw[hb];exact h.has.aside o (fun j D y=>h.apart (by rw[D,y]))
theorem ax.aside{s:Dv.St}{F:Nat->Prop}(h:ax w B g v s x k)(o:Aside F w w')(y:¬F g)(A:∀k,v.ownBlock=U k->¬F k):ax w' B g v s x k :=
 ⟨by rw[o.block g h.lt y];exact h.lies,h.has.aside o A,h.base,h.due,h.left,h.keep⟩
theorem ax.below{s:Dv.St}(h:ax w B g v s x k)(hb:Below w.1.size w w'):ax w' B g v s x k :=
 h.aside (F:=fun _=>False) (af hb _) (fun h=>h) (fun _ _ h=>h)
def cV(w:AU)(B g:Nat)(v:AA)(r:Nat×Dv.St)(e:Ending)(w':AU):Prop :=
 e=wv (Y O (r.1:Nat))∧∃v' x' k',ax w' B g v' r.2 x' k'∧Aside (fun i=>i=g∨v.ownBlock=U i) w w'∧∀i,v'.ownBlock=U i->v.ownBlock=U i∨w.1.size<=i
section
variable {B g:Nat} {v:AA} {s:Dv.St} {x k:Nat} {w:AU}
theorem lG(h:ax w B g v s x k):AB AE 11 #[qq (U ⟨g,0,I⟩)] w fun e w'=>e=wv (Y O (s.b.length:Nat))∧w'=w:=by
 have c0:w.cell? ⟨g,0,I⟩=U v:=h.cell 0;obtain⟨p,cap,o,-,-⟩:=h.has.at;subst o;clear h;go_enter func11,ntmps11;go_wp2;go_ret;exact⟨rfl,rfl⟩
theorem kUp(h:ax w B g v s x k):AB AE 28 #[qq (U ⟨g,0,I⟩)] w fun e w'=>e=wv (qz (!s.down))∧w'=w:=by
 have c0:w.cell? ⟨g,5,I⟩=U (qz s.down):=h.cell 5;clear h;go_enter func28,ntmps28;go_wp2;go_ret;exact⟨rfl,rfl⟩
theorem xB(h:ax w B g v s x k):AB AE 43 #[qq (U ⟨g,0,I⟩)] w (cV w B g v (Dv.sync s)):=by
 have c0:w.cell? ⟨g,0,I⟩=U v:=h.cell 0;have c2:w.cell? ⟨g,2,I⟩=U (Y O s.safe):=h.cell 2;have c3:w.cell? ⟨g,5,I⟩=U (qz s.down):=h.cell 5;have E:=h.thawed 2;obtain⟨p,cap,D,-,-⟩:=h.has.at;subst D;by_cases hd:s.down=AJ
 ·have o:Hid (Dv.sync s=(50,s)):=by show _=_;unfold Dv.sync;rw[AG hd]
  have y:=gQq h;rw[hd] at c3;clear h hd;go_enter func43,ntmps43;go_wp2;go_ret;rw[o.out];exact⟨rfl,_,_,_,y.out,Aside.refl _ _,fun _ h=>AZ h⟩
 ·have A:s.down=false:=by simpa using hd
  have o:Hid (Dv.sync s=(0,{ s with safe:=s.b.length })):=by show _=_;unfold Dv.sync;rw[AF hd]
  have y:Hid (ax (w.setCell ⟨g,2,I⟩ (Y O (s.b.length:Nat))) B g (N p s.b.length cap) { s with safe:=s.b.length } x k):=h.put 2 _ rfl rfl h.due h.left h.keep;rw[A] at c3;clear h hd A;go_enter func43,ntmps43;go_wp2;go_ret;rw[o.out];exact⟨rfl,_,_,_,y.out,(Aside.refl _ _).setCell (AZ (AZ rfl)) _,fun _ h=>AZ h⟩
theorem yk(h:ax w B g v s x k):AB AE 24 #[qq (U ⟨g,0,I⟩)] w (cV w B g v (Dv.start s)):=by
 have c3:w.cell? ⟨g,5,I⟩=U (qz s.down):=h.cell 5;have D:=h.thawed 5;by_cases hd:s.down=AJ
 ·have o:Hid (Dv.start s=(0,{ s with down:=AK })):=by show _=_;unfold Dv.start;rw[AG hd]
  have y:Hid (ax (w.setCell ⟨g,5,I⟩ (qz AK)) B g v { s with down:=AK } x k):=h.put 5 _ rfl rfl h.due h.left h.keep;rw[hd] at c3;clear h hd;go_enter func24,ntmps24;go_wp2;go_ret;rw[o.out];exact⟨rfl,_,_,_,y.out,(Aside.refl _ _).setCell (AZ (AZ rfl)) _,fun _ h=>AZ h⟩
 ·have A:s.down=false:=by simpa using hd
  have o:Hid (Dv.start s=(6,s)):=by show _=_;unfold Dv.start;rw[AF hd]
  have y:=gQq h;rw[A] at c3;clear h hd A;go_enter func24,ntmps24;go_wp2;go_ret;rw[o.out];exact⟨rfl,_,_,_,y.out,Aside.refl _ _,fun _ h=>AZ h⟩
theorem zE(h:ax w B g v s x k)(a m:Int)(a0:a<=9223372036854775807)(a2:m<=9223372036854775807):AB AE 23 #[qq (U ⟨g,0,I⟩),Y O a,Y O m] w (cV w B g v (Dv.fail s a m)):=by
 have c3:w.cell? ⟨g,5,I⟩=U (qz s.down):=h.cell 5;have c4:w.cell? ⟨g,6,I⟩=U (qz s.bound):=h.cell 6;have ab:w.cell? ⟨g,7,I⟩=U (Y O x):=h.cell 7;have ah:w.cell? ⟨g,8,I⟩=U (Y O k):=h.cell 8;have ai:=h.thawed 6;have aj:=h.thawed 7;have ak:=h.thawed 8;by_cases hd:s.down=AJ
 ·have y:Hid (Dv.fail s a m=(50,s)):=by show _=_;unfold Dv.fail;rw[AG hd]
  have A:=gQq h;rw[hd] at c3;clear h hd;go_enter func23,ntmps23;go_wp2;go_ret;rw[y.out];exact⟨rfl,_,_,_,A.out,Aside.refl _ _,fun _ h=>AZ h⟩
 ·have J:s.down=false:=by simpa using hd
  rw[J] at c3;by_cases D:a<0∨m<0
  ·have y:Hid (Dv.fail s a m=(1,s)):=(by show _=_;unfold Dv.fail;rw[AF hd,AG D]);have A:=gQq h;clear h hd J;by_cases E:a<0
   ·clear D;have L:decide (a<0)=true:=AR E;go_enter func23,ntmps23;go_wp2;go_ret;rw[y.out];exact⟨rfl,_,_,_,A.out,Aside.refl _ _,fun _ h=>AZ h⟩
   ·have Z:m<0:=(by omega);have aw:0<=a:=(by omega);have L:decide (a<0)=false:=AP E;clear D E;go_enter func23,ntmps23;go_wp2;go_ret;rw[y.out];exact⟨rfl,_,_,_,A.out,Aside.refl _ _,fun _ h=>AZ h⟩
  ·have y:Hid (Dv.fail s a m=(0,{ s with bound:=AJ,after:=a.toNat,keep:=m.toNat })):=(by show _=_;unfold Dv.fail;rw[AF hd,AF D]);have E:0<=a:=(by omega);have Z:0<=m:=(by omega);obtain⟨o,rfl⟩:∃o:Nat,a=(o:Int):=⟨a.toNat,by omega⟩;obtain⟨z,rfl⟩:∃z:Nat,m=(z:Int):=⟨m.toNat,by omega⟩;have M:(w.setCell ⟨g,6,I⟩ (qz AJ)).1[g]?=U (wx (aJ v { s with bound:=AJ,after:=o,keep:=z } x k .nilFunc) 70):=eJ h.lies 6 _ rfl;have Q:((w.setCell ⟨g,6,I⟩ (qz AJ)).setCell ⟨g,7,I⟩ (Y O o)).1[g]?=U (wx (aJ v { s with bound:=AJ,after:=o,keep:=z } o k .nilFunc) 70):=eJ M 7 _ rfl;have S:(((w.setCell ⟨g,6,I⟩ (qz AJ)).setCell ⟨g,7,I⟩ (Y O o)).setCell ⟨g,8,I⟩ (Y O z)).1[g]?=U (wx (aJ v { s with bound:=AJ,after:=o,keep:=z } o z .nilFunc) 70):=eJ Q 8 _ rfl;have K:Hid (Aside (fun i=>i=g) w (((w.setCell ⟨g,6,I⟩ (qz AJ)).setCell ⟨g,7,I⟩ (Y O o)).setCell ⟨g,8,I⟩ (Y O z))):=(((Aside.refl (fun i=>i=g) w).setCell (p:=⟨g,6,I⟩) (AZ rfl) _).setCell (p:=⟨g,7,I⟩) (AZ rfl) _).setCell (p:=⟨g,8,I⟩) (AZ rfl) _
   have A:Hid (ax (((w.setCell ⟨g,6,I⟩ (qz AJ)).setCell ⟨g,7,I⟩ (Y O o)).setCell ⟨g,8,I⟩ (Y O z)) B g v { s with bound:=AJ,after:=o,keep:=z } o z) :=
    ⟨S,h.has.aside K.out (fun j X V=>h.apart (by rw[X,V])),h.base,fun _=>⟨rfl,rfl⟩,by omega,by omega⟩
   have L:decide ((o:Int)<0)=false:=AP (by omega);have a1:decide ((z:Int)<0)=false:=AP (by omega);clear h hd J D M Q S;go_enter func23,ntmps23;go_wp2;go_ret;rw[y.out];exact⟨rfl,_,_,_,A.out,K.out.mono (fun _ _ h=>AZ h),fun _ h=>AZ h⟩
end
end
section
open Go.RowKit
theorem eD{P:Program}{f:FuncId}{fn:Func}{c:Code}(y : P.funcs[f]?=U fn)(A : (fn.name== "runtime.NumGoroutine")=AK)(hb : fn.body=U c)(args : AV)(w : AU):
  (callFunc f args).run P w=.ok (.enter f args) w:=by
 have o : fn.name≠ "runtime.NumGoroutine" := by simpa using A
 simp[callFunc,y,o,hb]
theorem Has.cut{cap:Nat}(h:Has w B (N q m cap) l)(X:n<=l.length):Has w B (N q n cap) (l.take n):=by
 have A:(l.take n).length=n:=by rw[AM];omega
 unfold Has World.ownsRow;rw[A];refine⟨by rw[aX,A,Nat.mul_one],?_⟩;rcases h.2 with ⟨y,S⟩ | ⟨D,Q,o,y,E,J,V,K,L,M⟩
 ·have:n=0:=by omega
  subst this;cases y
  exact AZ ⟨rfl,rfl⟩
 ·cases y
  refine .inr ⟨D,cap,o,rfl,E,J,by omega,K,L,?_⟩;have:o.toList.take (n*1)=(o.toList.take (l.length*1)).take (n*1):=by rw[List.take_take,Nat.min_eq_left (by omega)]
  rw[this,M];simp[cellsOf,List.map_take]
theorem bf(P:Program)(w:AU)(a:Addr)(m:Mode)(fn:Fn)(first captured:AV):(store a (.func fn first captured) m).run P w=stored P w a (.func fn first captured) m:=run_store P w a _ m rfl
theorem bo(P:Program)(w:AU)(a:Addr)(m:Mode):(store a .nilFunc m).run P w=stored P w a .nilFunc m:=run_store P w a _ m rfl
attribute [local go_sem] bf bo
theorem ow{A:Array Oper}{o:Oper}{a:Act}{y:Act->AU->Prop}{J:Exit->Act->AU->Prop}{E:Prop}{f:FuncId}{env:AV}{u:AA}{R:Ending->AU->Prop}(D x:Operand)(t:TypeId)(S:o.guard=I)(X:o.op=Op.call { callee:=.value D,args:=#[x],argTypes:=#[t] })(ai:a.eval D=.func (.func f) #[] env)(ah:a.eval x=u)(K:∀(args:AV) (w:AU),(callFunc f args).run AE w=.ok (.enter f args) w)(M:AB AE f (#[u]++env) w R)(L:∀e w',R e w'->∃v,e=wv v∧y (a.put o.dst v) w'):
  if Region.wanted o (yielded A a.tmps)=AJ then Oper.wp AE o a w y J else E:=by
 have ab:Region.wanted o (yielded A a.tmps)=true:=by simp[Region.wanted,S]
 rw[AG ab];unfold Oper.wp;have Q:(execOp a.eval o).run AE w=.ok (.enter f (#[u]++env)) w:=by
  simp[execOp,X,resolve,invoke,ah,ai,Deferred.ofValue,K]
 rw[Q,Oper.upon_enter];refine M.mono ?_;intro e w' Z;obtain⟨v,rfl,V⟩:=L e w' Z;exact V
theorem pJ{s:Dv.St}{cap:Nat}{o:AU}(D:Has o B (N q l.length cap) l)(A:o.1[g]?=U (wx (aJ v s x k fv) 70))(E:B<=g)(hd:s.bound=AJ->x=s.after∧k=s.keep)(Q:x<9223372036854775808)(L:k<9223372036854775808)(m:Nat)(M:m=min s.safe l.length):
  Aside (·=g) o (((o.setCell ⟨g,0,I⟩ (N q l.length cap)).setCell ⟨g,9,I⟩ .nilFunc).setCell ⟨g,2,I⟩ (Y O (m:Int))).drew∧ax (((o.setCell ⟨g,0,I⟩ (N q l.length cap)).setCell ⟨g,9,I⟩ .nilFunc).setCell ⟨g,2,I⟩ (Y O (m:Int))).drew B g (N q l.length cap) { s with b:=l,safe:=min s.safe l.length } x k:=by
 have S:(o.setCell ⟨g,0,I⟩ (N q l.length cap)).1[g]?=U (wx (aJ (N q l.length cap) s x k fv) 70):=eJ A 0 _ rfl;have V:((o.setCell ⟨g,0,I⟩ (N q l.length cap)).setCell ⟨g,9,I⟩ .nilFunc).1[g]?=U (wx (aJ (N q l.length cap) s x k .nilFunc) 70):=eJ S 9 _ rfl;have X:(((o.setCell ⟨g,0,I⟩ (N q l.length cap)).setCell ⟨g,9,I⟩ .nilFunc).setCell ⟨g,2,I⟩ (Y O (m:Int))).drew.1[g]?=U (wx (aJ (N q l.length cap) { s with b:=l,safe:=min s.safe l.length } x k .nilFunc) 70):=by
  rw[<-M];exact eJ V 2 _ rfl
 have y:Aside (·=g) o (((o.setCell ⟨g,0,I⟩ (N q l.length cap)).setCell ⟨g,9,I⟩ .nilFunc).setCell ⟨g,2,I⟩ (Y O (m:Int))).drew:=((((Aside.refl (·=g) o).setCell (p:=⟨g,0,I⟩) (AZ rfl) _).setCell (p:=⟨g,9,I⟩) (AZ rfl) _).setCell (p:=⟨g,2,I⟩) (AZ rfl) _).drew;exact⟨y,X,D.aside y (fun j K J=>dY D A (by decide) (by rw[K,J])),E,hd,Q,L⟩
section
variable {B g:Nat} {v:AA} {s:Dv.St} {x k:Nat} {w:AU}
theorem fZ(f:FuncId)(env:AV)(X:AA->L8->AU->Prop)(h:ax w B g v s x k)(Z:∀(args:AV) (w:AU),(callFunc f args).run AE w=.ok (.enter f args) w)(ah:∀w',w'.1[g]?=U (wx (aJ v s x k (.func (.func f) #[] env)) 70)->Aside (·=g) w w'->AB AE f (#[v]++env) w' fun e A=>∃u l,e=wv u∧Has A B u l∧A.1[g]?=U (wx (aJ v s x k (.func (.func f) #[] env)) 70)∧X u l A):
  AB AE 110 #[qq (U ⟨g,0,I⟩),.func (.func f) #[] env] w fun e ai=>e=wv (.tuple #[])∧∃u l A,X u l A∧Aside (·=g) A ai∧ax ai B g u { s with b:=l,safe:=min s.safe l.length } x k:=by
 have a0:w.cell? ⟨g,9,I⟩=U .nilFunc:=h.cell 9;have a7:=h.thawed 9;have y:=gQq h;have J:(w.setCell ⟨g,9,I⟩ (.func (.func f) #[] env)).1[g]?=U (wx (aJ v s x k (.func (.func f) #[] env)) 70):=eJ h.lies 9 _ rfl;have a1:(w.setCell ⟨g,9,I⟩ (.func (.func f) #[] env)).cell? ⟨g,0,I⟩=U v:=fe J 0;have a2:(w.setCell ⟨g,9,I⟩ (.func (.func f) #[] env)).cell? ⟨g,9,I⟩=U (.func (.func f) #[] env):=fe J 9;have L:=gQq (ah (w.setCell ⟨g,9,I⟩ (.func (.func f) #[] env)).drew J (((Aside.refl (·=g) w).setCell (p:=⟨g,9,I⟩) (AZ rfl) _).drew));have aj:=gQq Z;clear ah h J Z;go_enter func110,ntmps110;go_wp2_with fail;go_region_law (refine ow (.tmp 12) (.tmp 16) 40 (by rfl) (by rfl) (by rfl) (by rfl) aj.out L.out ?_;rintro e D ⟨u,l,rfl,Q,E,ab⟩;refine⟨_,rfl,?_⟩;obtain⟨q,cap,aw,-,-⟩:=Q.at;subst aw;have c0:D.cell? ⟨g,0,I⟩=U v:=fe E 0;have a5:=lE E 0;have M:=gQq Q;have o:=gQq E;have V:=gQq ab;clear Q E ab)
 all_goals
  have a8:=lE o.out 9;have a6:=lE o.out 2;have a3:D.cell? ⟨g,2,I⟩=U (Y O s.safe):=fe o.out 2;have a4:D.cell? ⟨g,9,I⟩=U (.func (.func f) #[] env):=fe o.out 9;have S:=gQq (pJ M.out o.out y.out.base y.out.due y.out.left y.out.keep);by_cases a9:l.length<s.safe
  ·have ak:(l.length:Int)<(s.safe:Int):=(by omega);have K:Hid (l.length=min s.safe l.length):=(by show _=_;omega);clear L M o y;go_wp2;go_region_law (fail)
   all_goals
    go_wp2;go_end0;exact⟨rfl,_,l,D,V.out,S.out _ K.out⟩
  ·have K:Hid (s.safe=min s.safe l.length):=(by show _=_;omega);have ak:¬(l.length:Int)<(s.safe:Int):=(by omega);clear L M o y;go_wp2;go_region_law (fail)
   all_goals
    go_wp2;go_end0;exact⟨rfl,_,l,D,V.out,S.out _ K.out⟩
end
end
section
open Go.RowKit
attribute [local go_sem] bf bo
theorem fj{b:Nat}(h:w.1[b]?=U (wx #[v] T)):w.cell? ⟨b,0,I⟩=U v:=by
 simp[World.cell?,h]
theorem uW{b:Nat}(h:w.1[b]?=U (wx #[v] T)):w.frozen? ⟨b,0,I⟩=false:=by
 simp[World.frozen?,h]
theorem dW{b:Nat}{o:Obj}(h:w.1[b]?=U o):b<w.1.size:=(Array.getElem?_eq_some_iff.1 h).1
abbrev zZ(f:FuncId)(env:AV)(w:AU)(B g:Nat)(v:AA)(s:Dv.St)(k:Nat)(Q:AA->L8->AU->Prop):Prop :=
 ∀w' x',w'.1[g]?=U (wx (aJ v s x' k (.func (.func f) #[] env)) 70)->Aside (·=g) w w'->AB AE f (#[v]++env) w' fun e w''=>∃u l,e=wv u∧Has w'' B u l∧w''.1[g]?=U (wx (aJ v s x' k (.func (.func f) #[] env)) 70)∧Q u l w''
section
variable {B g:Nat} {v:AA} {s:Dv.St} {x k:Nat} {w:AU}
theorem yo{cap:Nat}(y:w.1[g]?=U (wx (aJ (N q s.b.length cap) s x k fv) 70))(hb:w.1[bx]?=U (wx #[qq (U ⟨g,0,I⟩)] 24))(V:s.safe<=s.b.length)(Q:s.b.length<=2097152)(K:s.b.length<=cap)(L:k<9223372036854775808)(n:Nat)(A:n=s.safe+min k (s.b.length-s.safe)):
  AB AE 142 #[N q s.b.length cap,qq (U ⟨bx,0,I⟩)] w fun e w'=>e=wv (N q n cap)∧∃m,w'=w.drewN m:=by
 have c2:w.cell? ⟨g,2,I⟩=U (Y O s.safe):=fe y 2;have E:w.cell? ⟨g,8,I⟩=U (Y O k):=fe y 8;have J:=fj hb;clear y hb;by_cases S:s.b.length-s.safe<k
 ·have D:(s.b.length:Int)-(s.safe:Int)<(k:Int):=by omega
  have o:Hid (n=s.safe+(s.b.length-s.safe)):=by show _=_;omega
  rw[o.out];clear A;go_enter func142,ntmps142;go_wp2;go_quiet (fail);go_wp2;go_ret;exact⟨rfl,_,rfl⟩
 ·have D:¬(s.b.length:Int)-(s.safe:Int)<(k:Int):=by omega
  have o:Hid (n=s.safe+k):=by show _=_;omega
  have M:s.safe+k<=s.b.length:=by omega
  rw[o.out];clear A;go_enter func142,ntmps142;go_wp2;go_quiet (fail);go_wp2;go_ret;exact⟨rfl,_,rfl⟩
theorem pt(y:s.safe<=s.b.length)(o:k=s.keep):(Dv.fails s).b=s.b.take (s.safe+min k (s.b.length-s.safe)):=by
 subst o;unfold Dv.fails;simp only;split
 ·rw[Nat.min_eq_left (by omega)]
 ·rw[List.take_of_length_le (by omega)]
theorem rj{cap:Nat}{o:AU}(E:Aside (·=g) w o)(h:ax o B g (N q n cap) { s with b:=s.b.take n,safe:=s.safe } x k)(D:(Dv.fails s).b=s.b.take n):
  ∃v',ax ((((o.setCell ⟨g,5,I⟩ (qz AJ)).setCell ⟨g,6,I⟩ (qz AK)).setCell ⟨g,7,I⟩ (Y O 0)).setCell ⟨g,8,I⟩ (Y O 0)).drew B g v' (Dv.fails s) 0 0∧Aside (fun i=>i=g) w ((((o.setCell ⟨g,5,I⟩ (qz AJ)).setCell ⟨g,6,I⟩ (qz AK)).setCell ⟨g,7,I⟩ (Y O 0)).setCell ⟨g,8,I⟩ (Y O 0)).drew∧v'.ownBlock=(N q s.b.length cap).ownBlock:=by
 have K:(o.setCell ⟨g,5,I⟩ (qz AJ)).1[g]?=U (wx (aJ (N q n cap) { s with down:=AJ } x k .nilFunc) 70):=eJ h.lies 5 _ rfl;have L:((o.setCell ⟨g,5,I⟩ (qz AJ)).setCell ⟨g,6,I⟩ (qz AK)).1[g]?=U (wx (aJ (N q n cap) { s with down:=AJ,bound:=AK } x k .nilFunc) 70):=eJ K 6 _ rfl;have M:(((o.setCell ⟨g,5,I⟩ (qz AJ)).setCell ⟨g,6,I⟩ (qz AK)).setCell ⟨g,7,I⟩ (Y O 0)).1[g]?=U (wx (aJ (N q n cap) { s with down:=AJ,bound:=AK } 0 k .nilFunc) 70):=eJ L 7 _ rfl;have Q:((((o.setCell ⟨g,5,I⟩ (qz AJ)).setCell ⟨g,6,I⟩ (qz AK)).setCell ⟨g,7,I⟩ (Y O 0)).setCell ⟨g,8,I⟩ (Y O 0)).1[g]?=U (wx (aJ (N q n cap) (Dv.fails s) 0 0 .nilFunc) 70):=eJ M 8 _ rfl
 have A:Aside (fun i=>i=g) o ((((o.setCell ⟨g,5,I⟩ (qz AJ)).setCell ⟨g,6,I⟩ (qz AK)).setCell ⟨g,7,I⟩ (Y O 0)).setCell ⟨g,8,I⟩ (Y O 0)).drew :=
  (((((Aside.refl (fun i=>i=g) o).setCell (p:=⟨g,5,I⟩) (AZ rfl) _).setCell (p:=⟨g,6,I⟩) (AZ rfl) _).setCell (p:=⟨g,7,I⟩) (AZ rfl) _).setCell (p:=⟨g,8,I⟩) (AZ rfl) _).drew
 refine⟨N q n cap,⟨Q,?_,h.base,fun y=>by simp[Dv.fails] at y,by omega,by omega⟩,E.trans A (fun _ _ h=>h),by cases q <;> rfl⟩;rw[D];exact h.has.aside A (fun j J y=>h.apart (by rw[J,y]))
theorem ym(h:ax w B g v s x k)(Z:s.safe<=s.b.length)(a4:s.b.length<=2097152)(a3:k=s.keep):
  AB AE 109 #[qq (U ⟨g,0,I⟩)] w fun e w'=>e=wv (.tuple #[])∧∃v',ax w' B g v' (Dv.fails s) 0 0∧Aside (·=g) w w'∧v'.ownBlock=v.ownBlock:=by
 obtain⟨q,cap,a6,-,a1⟩:=h.has.at;subst a6;obtain⟨n,L⟩:∃n,n=s.safe+min k (s.b.length-s.safe):=⟨_,rfl⟩;have a5:n<=s.b.length:=by omega
 have bq:s.safe<=n:=by omega
 have aj:Hid ((Dv.fails s).b=s.b.take n):=by show _=_;rw[L];exact pt Z a3
 have bn:=h.lt;have A:ax (w.alloc (wx #[qq (U ⟨g,0,I⟩)] 24)) B g (N q s.b.length cap) s x k:=h.below gQy;have D:=aV w (wx #[qq (U ⟨g,0,I⟩)] 24);have M:=gQq (fZ 142 #[qq (U ⟨w.1.size,0,I⟩)] (fun u l ab=>u=N q n cap∧l=s.b.take n∧Aside (·=g) (w.alloc (wx #[qq (U ⟨g,0,I⟩)] 24)) ab) A (fun args w=>eD func142 (by kernel_rfl) rfl args w) (fun w' X J=>by
  have aw:w'.1[w.1.size]?=U (wx #[qq (U ⟨g,0,I⟩)] 24):=by rw[J.block _ (dW D) (by omega)];exact D
  refine(yo X aw Z a4 a1 h.keep n L).mono ?_;rintro e ab ⟨rfl,m,rfl⟩;exact⟨_,s.b.take n,rfl,((A.has.aside J (fun j a2 a0=>A.apart (by rw[a2,a0]))).drewN m).cut a5,X,rfl,rfl,J.drewN m⟩))
 have a7:=gQq h;have E:=gQq D;have ak:Hid (min s.safe (s.b.take n).length=s.safe):=by show _=_;rw[AM];omega
 clear h A D L;go_enter func109,ntmps109;go_wp2_with fail;refine M.out.mono ?_;rintro e y ⟨rfl,u,l,bs,⟨rfl,rfl,Q⟩,S,o⟩;rw[ak.out] at o;have K:=Q.trans S (fun _ _ h=>h);have V:y.1[w.1.size]?=U (wx #[qq (U ⟨g,0,I⟩)] 24):=by rw[K.block _ (dW E.out) (by omega)];exact E.out
 have be:=fj V;have a8:y.cell? ⟨g,5,I⟩=U (qz s.down):=o.cell 5;have a9:y.cell? ⟨g,6,I⟩=U (qz s.bound):=o.cell 6;have bb:y.cell? ⟨g,7,I⟩=U (Y O x):=o.cell 7;have bc:y.cell? ⟨g,8,I⟩=U (Y O k):=o.cell 8;have bi:=o.thawed 5;have bj:=o.thawed 6;have bk:=o.thawed 7;have bl:=o.thawed 8;have ah:Hid (Aside (·=g) w y):=((Aside.refl (·=g) w).alloc _).trans K (fun _ _ h=>h);have ai:=gQq (rj ah.out o aj.out);have bp:w.1.size≠g:=by omega
 clear Q S o K V M E;go_wp2;go_region_law (fail)
 all_goals
  go_wp2;go_end0;exact⟨rfl,ai.out⟩
theorem jH(fv:AA)(h:ax w B g v s x k)(y:Dv.may s=AK)(L:s.safe<=s.b.length)(K:s.b.length<=2097152):
  AB AE 84 #[qq (U ⟨g,0,I⟩),fv] w fun e w'=>e=wv (Y O 51)∧∃v',ax w' B g v' (Dv.fails s) 0 0∧Aside (·=g) w w'∧v'.ownBlock=v.ownBlock:=by
 have o:s.bound=true:=by
  cases hb:s.bound with
  |true=>rfl
  |false=>simp[Dv.may,hb] at y
 have D:s.after=0:=by simpa[Dv.may,o] using y
 have M:w.cell? ⟨g,6,I⟩=U (qz AJ):=by rw[<-o];exact h.cell 6
 have Q:w.cell? ⟨g,7,I⟩=U (Y O 0):=by have:=h.cell 7;rw[this];simp[aJ,(h.due o).1,D]
 have E:=gQq (ym h L K (h.due o).2);clear h y o D;go_enter func84,ntmps84;go_wp2_with fail;refine E.out.mono ?_;rintro e w1 ⟨rfl,A⟩;have J:=gQq A;clear A;go_wp2;go_ret;exact⟨rfl,J.out⟩
theorem nJ(f:FuncId)(env:AV)(K:AA->L8->AU->Prop)(h:ax w B g v s x k)(a0:Dv.may s=AJ)(hd:s.done<4611686018427387904)(L:∀(args:AV) (w:AU),(callFunc f args).run AE w=.ok (.enter f args) w)(M:zZ f env w B g v s k K):
  AB AE 84 #[qq (U ⟨g,0,I⟩),.func (.func f) #[] env] w fun e A=>e=wv (Y O 0)∧∃u l aj x',K u l aj∧Aside (·=g) aj A∧ax A B g u { Dv.did s with b:=l,safe:=min s.safe l.length } x' k:=by
 have ab:w.cell? ⟨g,6,I⟩=U (qz s.bound):=h.cell 6;have a2:w.cell? ⟨g,7,I⟩=U (Y O x):=h.cell 7;have a3:=h.thawed 7;have a5:=h.left;cases hbd:s.bound with
 |false=>
  rw[hbd] at ab;have D:=gQq (fZ f env K h L (fun w' X y=>M w' x X y));have J:=gQq hbd;clear h M L hbd;go_enter func84,ntmps84;go_wp2_with fail;refine D.out.mono ?_;rintro e A ⟨rfl,u,l,Z,E,y,o⟩;have c4:A.cell? ⟨g,4,I⟩=U (Y O s.done):=o.cell 4;have ak:=o.thawed 4;have S:Hid (ax (A.setCell ⟨g,4,I⟩ (Y O ((s.done:Int)+1))) B g u { Dv.did s with b:=l,safe:=min s.safe l.length } x k):=o.put 4 _ (by simp[aJ,Dv.did]) rfl (fun aw=>by simp[Dv.did,J.out] at aw) o.left o.keep;have Q:=gQq (y.setCell (p:=⟨g,4,I⟩) (AZ rfl) (Y O ((s.done:Int)+1)));have V:=gQq E;clear E y o D;go_wp2;go_ret;exact⟨rfl,u,l,Z,x,V.out,Q.out,S.out⟩
 |true=>
  have a1:0<s.after:=by simpa[Dv.may,hbd] using a0
  have ai:x=s.after:=(h.due hbd).1;have a6:0<x:=by omega
  have a4:(0:Int)<(x:Int):=by omega
  have a7:((x:Int)==0)=false:=by simp;omega
  have ah:ax (w.setCell ⟨g,7,I⟩ (Y O ((x:Int)-1))) B g v { s with after:=s.after-1 } (x-1) k:=h.put 7 _ (by simp[aJ];omega) rfl (fun _=>⟨by simp[ai],(h.due hbd).2⟩) (by omega) h.keep;rw[hbd] at ab;have D:=gQq (fZ f env K ah L (fun w' X y=>M w' (x-1) X (((Aside.refl (·=g) w).setCell (p:=⟨g,7,I⟩) (AZ rfl) _).trans y (fun _ _ h=>h))));have J:=gQq hbd;clear h M L hbd ah a1 ai;go_enter func84,ntmps84;go_wp2_with fail;refine D.out.mono ?_;rintro e A ⟨rfl,u,l,Z,E,y,o⟩;have c4:A.cell? ⟨g,4,I⟩=U (Y O s.done):=o.cell 4;have ak:=o.thawed 4;have S:Hid (ax (A.setCell ⟨g,4,I⟩ (Y O ((s.done:Int)+1))) B g u { Dv.did s with b:=l,safe:=min s.safe l.length } (x-1) k):=o.put 4 _ (by simp[aJ,Dv.did]) rfl (fun _=>by have:=o.due J.out;simpa[Dv.did,J.out] using this) o.left o.keep;have Q:=gQq (y.setCell (p:=⟨g,4,I⟩) (AZ rfl) (Y O ((s.done:Int)+1)));have V:=gQq E;clear E y o D;go_wp2;go_ret;exact⟨rfl,u,l,Z,x-1,V.out,Q.out,S.out⟩
end
end
section
open Go.RowKit
attribute [local go_sem] bf bo
theorem ax.drewN{s:Dv.St}(h:ax w B g v s x k)(j:Nat):ax (w.drewN j) B g v s x k:=⟨h.lies,h.has.drewN j,h.base,h.due,h.left,h.keep⟩
section
variable {B g:Nat} {v:AA} {s:Dv.St} {x k:Nat} {w:AU}
theorem zF{cap:Nat}(hb:w.1[bx]?=U (wx #[Y O n] 3))(A:n<=m)(y:m<=cap):
  AB AE 120 #[N q m cap,qq (U ⟨bx,0,I⟩)] w fun e w'=>e=wv (N q n cap)∧∃j,w'=w.drewN j:=by
 have o:=fj hb;have D:n<=cap:=by omega
 clear hb;go_enter func120,ntmps120;go_wp2;go_ret;exact⟨rfl,0,rfl⟩
theorem wS(o:n<=s.b.length):min s.safe (s.b.take n).length=(if n<s.safe then n else s.safe)∨¬s.safe<=s.b.length:=by
 by_cases h:s.safe<=s.b.length
 ·left;rw[AM];split <;> omega
 ·exact .inr h
theorem Ai(h:ax w B g v s x k)(n:Int)(a3:s.safe<=s.b.length)(be:s.b.length<=2097152)(a9:s.done<4611686018427387904):
  AB AE 89 #[qq (U ⟨g,0,I⟩),Y O n] w (cV w B g v (Dv.cut s n)):=by
 obtain⟨q,cap,bi,-,a8⟩:=h.has.at;subst bi;have bl:=h.lt;have D:Below w.1.size w (w.alloc (wx #[Y O n] 3)):=gQy;have o:ax (w.alloc (wx #[Y O n] 3)) B g (N q s.b.length cap) s x k:=h.below D;have V:=gQq o;have J:Hid (Aside (fun i=>i=g∨(N q s.b.length cap).ownBlock=U i) w (w.alloc (wx #[Y O n] 3))):=af D _;have ai:w.cell? ⟨g,5,I⟩=U (qz s.down):=h.cell 5;have c0:w.cell? ⟨g,0,I⟩=U (N q s.b.length cap):=h.cell 0;have E:=aV w (wx #[Y O n] 3);by_cases hd:s.down=AJ
 ·have y:Hid (Dv.cut s n=(50,s)):=by show _=_;unfold Dv.cut;rw[AG hd]
  rw[hd] at ai;clear hd h o E D;go_enter func89,ntmps89;go_wp2;go_ret;unfold cV;rw[y.out];exact⟨rfl,_,_,_,V.out,J.out,fun _ h=>AZ h⟩
 ·have L:s.down=false:=by simpa using hd
  rw[L] at ai;by_cases A:n<0∨(s.b.length:Int)<n
  ·have y:Hid (Dv.cut s n=(7,s)):=(by show _=_;unfold Dv.cut;rw[AF hd,AG A]);clear hd L h o E D;by_cases aj:n<0
   ·have a1:decide (n<0)=true:=AR aj;clear A;go_enter func89,ntmps89;go_wp2;go_quiet (fail);go_wp2;go_ret;unfold cV;rw[y.out];exact⟨rfl,_,_,_,V.out.drewN _,J.out.drewN _,fun _ h=>AZ h⟩
   ·have a1:decide (n<0)=false:=AP aj;have bj:(s.b.length:Int)<n:=(by omega);clear A;go_enter func89,ntmps89;go_wp2;go_quiet (fail);go_wp2;go_ret;unfold cV;rw[y.out];exact⟨rfl,_,_,_,V.out.drewN _,J.out.drewN _,fun _ h=>AZ h⟩
  ·obtain⟨m,rfl⟩:∃m:Nat,n=(m:Int):=⟨n.toNat,by omega⟩;have ab:m<=s.b.length:=(by omega);have a1:decide ((m:Int)<0)=false:=AP (by omega);have bk:decide (s.b.length<m)=false:=AP (by omega);cases hm:Dv.may s with
   |false=>
    have y:Hid (Dv.cut s m=(51,Dv.fails s)):=(by show _=_;unfold Dv.cut;rw[AF hd,AF A,AF (by rw[hm];simp)]);have Q:=gQq (fun j=>jH (.func (.func 120) #[] #[qq (U ⟨w.1.size,0,I⟩)]) (o.drewN j) hm a3 be);clear hd L A hm h o E D;go_enter func89,ntmps89;go_wp2_with fail;go_quiet (fail);go_wp2_with fail;refine(Q.out _).mono ?_;rintro e w1 ⟨rfl,v',K,ak,a2⟩;have S:=gQq K;have M:=gQq ((J.out.drewN _).trans ak (fun _ _ h=>AZ h));have a5:=gQq a2;clear K ak a2;go_wp2;go_ret;unfold cV;rw[y.out];exact⟨rfl,_,_,_,S.out,M.out,fun i Z=>AZ (by rw[<-a5.out];exact Z)⟩
   |true=>
    have y:Hid (Dv.cut s m=(0,{ Dv.did s with b:=s.b.take m,safe:=min s.safe (s.b.take m).length })):=by
     show _=_;unfold Dv.cut;rw[AF hd,AF A,AG (by rw[hm]),Int.toNat_natCast];rcases wS (s:=s) ab with h | h
     ·rw[h]
     ·exact absurd a3 h
    have Q:=gQq (fun ah=>nJ 120 #[qq (U ⟨w.1.size,0,I⟩)] (fun u l a4=>u=N q m cap∧l=s.b.take m∧Aside (·=g) ((w.alloc (wx #[Y O (m:Int)] 3)).drewN ah) a4) (o.drewN ah) hm a9 (fun args w=>eD func120 (by kernel_rfl) rfl args w) (fun w' x' bc X=>by
     have a6:w'.1[w.1.size]?=U (wx #[Y O (m:Int)] 3):=(by rw[X.block _ (dW E) (by omega)];exact E);refine(zF a6 ab a8).mono ?_;rintro e a4 ⟨rfl,j,rfl⟩;exact⟨_,s.b.take m,rfl,(((o.drewN ah).has.aside X (fun j bb a7=>o.apart (by rw[bb,a7]))).drewN j).cut ab,bc,rfl,rfl,X.drewN j⟩))
    clear hd L A hm h o E D;go_enter func89,ntmps89;go_wp2_with fail;go_quiet (fail);go_wp2_with fail;refine(Q.out _).mono ?_;rintro e w1 ⟨rfl,u,l,bn,x',⟨rfl,rfl,aw⟩,a0,K⟩;have S:=gQq K;have M:=gQq ((J.out.drewN _).trans (aw.trans a0 (fun _ _ h=>h)) (fun _ _ h=>AZ h));clear K aw a0;go_wp2;go_ret;unfold cV;rw[y.out];exact⟨rfl,_,_,_,S.out,M.out,fun i Z=>AZ (by cases q <;> exact Z)⟩
end
end
section
open Go.RowKit
attribute [local go_sem] bf bo
theorem tF(B:Nat)(v:AA)(xs l:L8)(p:OA)(c:Nat)(w:AU)(D:Has w B v xs)(h:At w p l)(a4:xs.length+l.length<=140737488355328)(X:B<=w.1.size):
  ∃(q:OA) (cap:Nat) (W:AU),cA AE 40 40 40 v (N p l.length c) w (N q (xs++l).length cap) W∧Has W B (N q (xs++l).length cap) (xs++l)∧Aside (fun k=>v.ownBlock=U k) w W∧(xs++l).length<=cap∧∀k,(N q (xs++l).length cap).ownBlock=U k->v.ownBlock=U k∨w.1.size<=k:=by
 obtain⟨i,L,aw,V,Z⟩:=info_parts iI;by_cases y:l=[]
 ·subst y;obtain⟨q,cap,rfl,-,K⟩:=D.at;rw[Az];exact⟨q,cap,w,⟨run_append_nothing (P:=AE) w 40 40 40 5 i underlying40 L q xs.length cap K (N p 0 c) (by rw[V];exact gX c h)⟩,D,Aside.refl _ _,K,fun k hk=>AZ hk⟩
 ·obtain⟨b,o,rfl,a3,ab⟩:=aP h (List.length_pos_iff.2 y)
  obtain⟨g,cap,W,S,Q,aj,ai,_⟩:=run_append_lies (P:=AE) w 40 40 B 5 i (Y .u8 0) 1 1 underlying40 L aw V Z rfl (by decide) v xs.length (cellsOf xs) D ⟨b,o,I⟩ l.length c (cellsOf l) (by rw[aX,Nat.mul_one])
   (fun j u A=>by
    have M:j<l.length:=by
     have:=(List.getElem?_eq_some_iff.1 A).1;simpa[cellsOf] using this
    rw[bC l j M] at A;cases A
    rw[Lib.add_plain];exact ab j M)
   (fun u ak=>by obtain⟨_,_,rfl⟩:=List.mem_map.1 ak;rfl) (List.length_pos_iff.2 y) (by unfold maxLen;omega) (by omega) X w.1.size rfl
  rw[<-bZ,<-AH] at Q;rw[<-AH] at S;have J:Has W B (N (U ⟨g,0,I⟩) (xs++l).length cap) (xs++l):=Q;refine⟨U ⟨g,0,I⟩,cap,W,⟨S⟩,J,ce aj,?_,?_⟩
  ·obtain⟨a5,a1,ah,_,a2⟩:=J.at;injection ah with _ _ e2;omega
  ·intro k hk;simp only[Value.ownBlock,Option.some.injEq] at hk;subst hk;rcases ai with E | E
   ·exact AZ E
   ·exact .inr (by omega)
theorem mr{xs:L8}{p:OA}{c:Nat}(X:Has w B v xs)(h:At w p l)(Q:xs.length+l.length<=140737488355328)(J:B<=w.1.size){D:Array Oper}{rest:List Oper}{o:Oper}{a:Act}{A:Exit->Act->AU->Prop}{E x:Operand}(ai:o.type=40)(M:o.guard=I)(V:o.op=Op.call { callee:=Callee.builtin Builtin.append,args:=#[E,x],argTypes:=#[40,40] })(ah:a.eval E=v)(aj:a.eval x=N p l.length c)(K:∀y q cap W,Hid (y=xs++l)->Has W B (N q y.length cap) y->Aside (fun k=>v.ownBlock=U k) w W->(∀k,(N q y.length cap).ownBlock=U k->v.ownBlock=U k∨w.1.size<=k)->wpList AE D A rest (a.put o.dst (N q y.length cap)) W):
  wpList AE D A (o::rest) a w:=by
 obtain⟨q,cap,W,Z,S,L,-,hb⟩:=tF B v xs l p c w X h Q J;have ab:cA AE 40 40 o.type v (N p l.length c) w (N q (xs++l).length cap) W:=by rw[ai];exact Z
 exact aQ ab M V ah aj (K _ q cap W (gQq rfl) S L hb)
theorem lH(p:OA)(c:Nat)(l:L8)(L:l.length<=140737488351232)(w:AU)(h:At w p l):
  AB AE 27 #[N p l.length c] w fun e w'=>∃q cap,e=wv (N q l.length cap)∧Has w' w.1.size (N q l.length cap) l∧Below w.1.size w w':=by
 have o:=gQq h;clear h;go_enter func27,ntmps27;go_wp2_with (at_builtin;refine mr (xs:=[]) (v:=N I 0 0) (bG _ _) o.out (by simp;omega) gQx rfl rfl rfl rfl rfl ?_;intro K q cap W y A D _);go_ret;have J:K=l:=y.out;subst J;exact⟨q,cap,rfl,A,D.below gQx (fun k _ E=>by cases E)⟩
section
variable {B g:Nat} {v:AA} {s:Dv.St} {x k:Nat} {w:AU}
theorem zG(h:ax w B g v s x k)(L:s.b.length<=2097152):AB AE 9 #[qq (U ⟨g,0,I⟩)] w fun e w'=>∃q cap,e=wv (N q s.b.length cap)∧Has w' w.1.size (N q s.b.length cap) s.b∧Below w.1.size w w':=by
 have c0:w.cell? ⟨g,0,I⟩=U v:=h.cell 0;obtain⟨p,cap,J,o,-⟩:=h.has.at;subst J;have D:=gQq (lH p cap s.b (by omega) w o);clear h o;go_enter func9,ntmps9;go_wp2_with fail;refine D.out.mono ?_;rintro e w1 ⟨K,c1,rfl,y,hb⟩;have E:=gQq y;have A:=gQq hb;clear y hb;go_wp2;go_ret;exact⟨K,c1,rfl,E.out,A.out⟩
end
end
section
open Go.RowKit
attribute [local go_sem] bf bo
section
variable {B g:Nat} {v:AA} {s:Dv.St} {x k:Nat} {w:AU}
end
end
end Go.Proofs.YtngmnfdaedlodaaGreatDoor

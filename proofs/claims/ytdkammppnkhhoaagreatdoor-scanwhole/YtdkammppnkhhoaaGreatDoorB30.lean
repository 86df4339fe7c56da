import Derived.Test.YtdkammppnkhhoaaGreatDoorB29
import Derived.Deep.RegionHeld3
set_option maxRecDepth 100000
set_option maxHeartbeats 1000000
namespace Go.Proofs.YtdkammppnkhhoaaGreatDoor
variable{B b bx c g k k' n x x':Nat}{w w':World}{l:L8}{f fv v:Value}{p q:OA}{T:TypeId}
section
open Go.RowKit
def aN(v:Value)(s:Dv.St)(x k:Nat)(f:Value):AV:=#[v,.int .i64 s.most,.int .i64 s.safe,.int .i64 s.told,.int .i64 s.done,.bool s.down,.bool s.bound,.int .i64 x,.int .i64 k,f]
structure aH(w:World)(B g:Nat)(v:Value)(s:Dv.St)(x k:Nat):Prop where
 lies:w.1[g]?=some (.cells (aN v s x k .nilFunc) 82)
 has:Has w B v s.b
 base:B<=g
 due:s.bound=true->x=s.after∧k=s.keep
 left:x<9223372036854775808
 keep:k<9223372036854775808
theorem aH.lt{s:Dv.St}(h:aH w B g v s x k):g<w.1.size:=(Array.getElem?_eq_some_iff.1 h.lies).1
theorem eE{s:Dv.St}(h:w.1[g]?=some (.cells (aN v s x k f) 82))(i:Nat):w.cell? ⟨g,i,none⟩=(aN v s x k f)[i]?:=by
 unfold World.cell?;rw[h];rfl
theorem kK{s:Dv.St}(h:w.1[g]?=some (.cells (aN v s x k f) 82))(i:Nat):w.frozen? ⟨g,i,none⟩=false:=by
 simp[World.frozen?,h]
theorem fR{y:Value}{s s':Dv.St}{o:Value}(h:w.1[g]?=some (.cells (aN v s x k f) 82))(i:Nat)(u:Value)(z:aN y s' x' k' o=(aN v s x k f).setIfInBounds i u):(w.setCell ⟨g,i,none⟩ u).1[g]?=some (.cells (aN y s' x' k' o) 82):=by
 simp only[World.setCell,Array.getElem?_modify,h,if_true,Option.map_some];rw[if_neg (by simp),z]
theorem aH.cell{s:Dv.St}(h:aH w B g v s x k)(i:Nat):w.cell? ⟨g,i,none⟩=(aN v s x k .nilFunc)[i]?:=eE h.lies i
theorem aH.thawed{s:Dv.St}(h:aH w B g v s x k)(i:Nat):w.frozen? ⟨g,i,none⟩=false:=kK h.lies i
theorem dk(h:Has w B v l){C:AV}{T:TypeId}(z:w.1[g]?=some (.cells C T))(D:T≠5):v.ownBlock≠some g:=by
 intro o;rcases h.2 with ⟨y,_⟩ | ⟨I,cap,E,y,_,A,_⟩
 ·rw[y] at o;cases o
 ·rw[y] at o;simp only[Value.ownBlock,Option.some.injEq] at o;subst o;rw[A] at z;injection z with h4;injection h4 with _ h5;exact D h5.symm
theorem aH.apart{s:Dv.St}(h:aH w B g v s x k):v.ownBlock≠some g:=dk h.has h.lies (by decide)
theorem aH.put{s s':Dv.St}(h:aH w B g v s x k)(i:Nat)(u:Value)(z:aN v s' x' k' .nilFunc=(aN v s x k .nilFunc).setIfInBounds i u)(hb:s'.b=s.b)(hd:s'.bound=true->x'=s'.after∧k'=s'.keep)(E:x'<9223372036854775808)(D:k'<9223372036854775808):aH (w.setCell ⟨g,i,none⟩ u) B g v s' x' k':=by
 have o:Aside (·=g) w (w.setCell ⟨g,i,none⟩ u):=(Aside.refl (·=g) w).setCell (p:=⟨g,i,none⟩) (.inl rfl) u;refine⟨fR h.lies i u z,?_,h.base,hd,E,D⟩;rw[hb];exact h.has.aside o (fun j A y=>h.apart (by rw[A,y]))
theorem aH.aside{s:Dv.St}{F:Nat->Prop}(h:aH w B g v s x k)(o:Aside F w w')(y:¬F g)(z:∀k,v.ownBlock=some k->¬F k):aH w' B g v s x k :=
 ⟨by rw[o.block g h.lt y];exact h.lies,h.has.aside o z,h.base,h.due,h.left,h.keep⟩
theorem aH.below{s:Dv.St}(h:aH w B g v s x k)(hb:Below w.1.size w w'):aH w' B g v s x k :=
 h.aside (F:=fun _=>False) (ae hb _) (fun h=>h) (fun _ _ h=>h)
def eN(w:World)(B g:Nat)(v:Value)(r:Nat×Dv.St)(e:Ending)(w':World):Prop :=
 e=.returned (.int .i64 (r.1:Nat))∧∃v' x' k',aH w' B g v' r.2 x' k'∧Aside (fun i=>i=g∨v.ownBlock=some i) w w'∧∀i,v'.ownBlock=some i->v.ownBlock=some i∨w.1.size<=i
section
variable {B g:Nat} {v:Value} {s:Dv.St} {x k:Nat} {w:World}
theorem wl(h:aH w B g v s x k):Calls Tryz.prog 75 #[.pointer (some ⟨g,0,none⟩)] w fun e w'=>e=.returned (.int .i64 (s.b.length:Nat))∧w'=w:=by
 have c0:w.cell? ⟨g,0,none⟩=some v:=h.cell 0;obtain⟨p,cap,o,-,-⟩:=h.has.at;subst o;clear h;go_enter Tryz.func75,Tryz.ntmps75;go_wp2;go_ret;exact⟨rfl,rfl⟩
theorem kUp(h:aH w B g v s x k):Calls Tryz.prog 28 #[.pointer (some ⟨g,0,none⟩)] w fun e w'=>e=.returned (.bool (!s.down))∧w'=w:=by
 have c0:w.cell? ⟨g,5,none⟩=some (.bool s.down):=h.cell 5;clear h;go_enter Tryz.func28,Tryz.ntmps28;go_wp2;go_ret;exact⟨rfl,rfl⟩
theorem sO(h:aH w B g v s x k):Calls Tryz.prog 9 #[.pointer (some ⟨g,0,none⟩)] w fun e w'=>e=.returned (.int .i64 (s.told:Nat))∧w'=w:=by
 have c0:w.cell? ⟨g,3,none⟩=some (.int .i64 s.told):=h.cell 3;clear h;go_enter Tryz.func9,Tryz.ntmps9;go_wp2;go_ret;exact⟨rfl,rfl⟩
end
end
section
open Go.RowKit
theorem dX{P:Program}{f:FuncId}{fn:Func}{c:Code}(y : P.funcs[f]?=some fn)(z : (fn.name== "runtime.NumGoroutine")=false)(hb : fn.body=some c)(args : AV)(w : World):
  (callFunc f args).run P w=.ok (.enter f args) w:=by
 have o : fn.name≠ "runtime.NumGoroutine" := by simpa using z
 simp[callFunc,y,o,hb]
theorem Has.cut{cap m:Nat}(h:Has w B (.slice q m cap) l)(R:n<=l.length):Has w B (.slice q n cap) (l.take n):=by
 have z:(l.take n).length=n:=by rw[List.length_take];omega
 unfold Has World.ownsRow;rw[z];refine⟨by rw[aS,z,Nat.mul_one],?_⟩;rcases h.2 with ⟨y,M⟩ | ⟨A,L,o,y,D,E,O,I,J,K⟩
 ·have:n=0:=by omega
  subst this;cases y
  exact .inl ⟨rfl,rfl⟩
 ·cases y
  refine .inr ⟨A,cap,o,rfl,D,E,by omega,I,J,?_⟩;have:o.toList.take (n*1)=(o.toList.take (l.length*1)).take (n*1):=by rw[List.take_take,Nat.min_eq_left (by omega)]
  rw[this,K];simp[cellsOf,List.map_take]
theorem bf(P:Program)(w:World)(a:Addr)(m:Mode)(fn:Fn)(first captured:AV):(store a (.func fn first captured) m).run P w=stored P w a (.func fn first captured) m:=run_store P w a _ m rfl
theorem bh(P:Program)(w:World)(a:Addr)(m:Mode):(store a .nilFunc m).run P w=stored P w a .nilFunc m:=run_store P w a _ m rfl
attribute [local go_sem] bf bh
theorem mV{ops:Array Oper}{o:Oper}{a:Act}{y:Act->World->Prop}{Q:Exit->Act->World->Prop}{D:Prop}{f:FuncId}{env:AV}{u:Value}{z:Ending->World->Prop}(A x:Operand)(t:TypeId)(L:o.guard=none)(O:o.op=Op.call { callee:=.value A,args:=#[x],argTypes:=#[t] })(W:a.eval A=.func (.func f) #[] env)(V:a.eval x=u)(E:∀(args:AV) (w:World),(callFunc f args).run Tryz.prog w=.ok (.enter f args) w)(J:Calls Tryz.prog f (#[u]++env) w z)(I:∀e w',z e w'->∃v,e=.returned v∧y (a.put o.dst v) w'):
  if Region.wanted o (yielded ops a.tmps)=true then Oper.wp Tryz.prog o a w y Q else D:=by
 have U:Region.wanted o (yielded ops a.tmps)=true:=by simp[Region.wanted,L]
 rw[if_pos U];unfold Oper.wp;have K:(execOp a.eval o).run Tryz.prog w=.ok (.enter f (#[u]++env)) w:=by
  simp[execOp,O,resolve,invoke,V,W,Deferred.ofValue,E]
 rw[K,Oper.upon_enter];refine J.mono ?_;intro e w' R;obtain⟨v,rfl,M⟩:=I e w' R;exact M
theorem oA{s:Dv.St}{cap:Nat}{o:World}(A:Has o B (.slice q l.length cap) l)(z:o.1[g]?=some (.cells (aN v s x k fv) 82))(D:B<=g)(hd:s.bound=true->x=s.after∧k=s.keep)(L:x<9223372036854775808)(J:k<9223372036854775808)(m:Nat)(K:m=min s.safe l.length):
  Aside (·=g) o (((o.setCell ⟨g,0,none⟩ (.slice q l.length cap)).setCell ⟨g,9,none⟩ .nilFunc).setCell ⟨g,2,none⟩ (.int .i64 (m:Int))).drew∧aH (((o.setCell ⟨g,0,none⟩ (.slice q l.length cap)).setCell ⟨g,9,none⟩ .nilFunc).setCell ⟨g,2,none⟩ (.int .i64 (m:Int))).drew B g (.slice q l.length cap) { s with b:=l,safe:=min s.safe l.length } x k:=by
 have M:(o.setCell ⟨g,0,none⟩ (.slice q l.length cap)).1[g]?=some (.cells (aN (.slice q l.length cap) s x k fv) 82):=fR z 0 _ rfl;have O:((o.setCell ⟨g,0,none⟩ (.slice q l.length cap)).setCell ⟨g,9,none⟩ .nilFunc).1[g]?=some (.cells (aN (.slice q l.length cap) s x k .nilFunc) 82):=fR M 9 _ rfl;have R:(((o.setCell ⟨g,0,none⟩ (.slice q l.length cap)).setCell ⟨g,9,none⟩ .nilFunc).setCell ⟨g,2,none⟩ (.int .i64 (m:Int))).drew.1[g]?=some (.cells (aN (.slice q l.length cap) { s with b:=l,safe:=min s.safe l.length } x k .nilFunc) 82):=by
  rw[<-K];exact fR O 2 _ rfl
 have y:Aside (·=g) o (((o.setCell ⟨g,0,none⟩ (.slice q l.length cap)).setCell ⟨g,9,none⟩ .nilFunc).setCell ⟨g,2,none⟩ (.int .i64 (m:Int))).drew:=((((Aside.refl (·=g) o).setCell (p:=⟨g,0,none⟩) (.inl rfl) _).setCell (p:=⟨g,9,none⟩) (.inl rfl) _).setCell (p:=⟨g,2,none⟩) (.inl rfl) _).drew;exact⟨y,R,A.aside y (fun j I E=>dk A z (by decide) (by rw[I,E])),D,hd,L,J⟩
section
variable {B g:Nat} {v:Value} {s:Dv.St} {x k:Nat} {w:World}
theorem ee(f:FuncId)(env:AV)(Q:Value->L8->World->Prop)(h:aH w B g v s x k)(R:∀(args:AV) (w:World),(callFunc f args).run Tryz.prog w=.ok (.enter f args) w)(V:∀w',w'.1[g]?=some (.cells (aN v s x k (.func (.func f) #[] env)) 82)->Aside (·=g) w w'->Calls Tryz.prog f (#[v]++env) w' fun e z=>∃u l,e=.returned u∧Has z B u l∧z.1[g]?=some (.cells (aN v s x k (.func (.func f) #[] env)) 82)∧Q u l z):
  Calls Tryz.prog 58 #[.pointer (some ⟨g,0,none⟩),.func (.func f) #[] env] w fun e W=>e=.returned (.tuple #[])∧∃u l z,Q u l z∧Aside (·=g) z W∧aH W B g u { s with b:=l,safe:=min s.safe l.length } x k:=by
 have ah:w.cell? ⟨g,9,none⟩=some .nilFunc:=h.cell 9;have a4:=h.thawed 9;have y:=xX h;have E:(w.setCell ⟨g,9,none⟩ (.func (.func f) #[] env)).1[g]?=some (.cells (aN v s x k (.func (.func f) #[] env)) 82):=fR h.lies 9 _ rfl;have aj:(w.setCell ⟨g,9,none⟩ (.func (.func f) #[] env)).cell? ⟨g,0,none⟩=some v:=eE E 0;have ak:(w.setCell ⟨g,9,none⟩ (.func (.func f) #[] env)).cell? ⟨g,9,none⟩=some (.func (.func f) #[] env):=eE E 9;have J:=xX (V (w.setCell ⟨g,9,none⟩ (.func (.func f) #[] env)).drew E (((Aside.refl (·=g) w).setCell (p:=⟨g,9,none⟩) (.inl rfl) _).drew));have X:=xX R;clear V h E R;go_enter Tryz.func58,Tryz.ntmps58;go_wp2_with fail;go_region_law (refine mV (.tmp 12) (.tmp 16) 22 (by rfl) (by rfl) (by rfl) (by rfl) X.out J.out ?_;rintro e A ⟨u,l,rfl,L,D,U⟩;refine⟨_,rfl,?_⟩;obtain⟨q,cap,Z,-,-⟩:=L.at;subst Z;have c0:A.cell? ⟨g,0,none⟩=some v:=eE D 0;have a2:=kK D 0;have K:=xX L;have o:=xX D;have O:=xX U;clear L D U)
 all_goals
  have a5:=kK o.out 9;have a3:=kK o.out 2;have a0:A.cell? ⟨g,2,none⟩=some (.int .i64 s.safe):=eE o.out 2;have a1:A.cell? ⟨g,9,none⟩=some (.func (.func f) #[] env):=eE o.out 9;have M:=xX (oA K.out o.out y.out.base y.out.due y.out.left y.out.keep);by_cases a6:l.length<s.safe
  ·have Y:(l.length:Int)<(s.safe:Int):=(by omega);have I:Hid (l.length=min s.safe l.length):=(by show _=_;omega);clear J K o y;go_wp2;go_region_law (fail)
   all_goals
    go_wp2;go_end0;exact⟨rfl,_,l,A,O.out,M.out _ I.out⟩
  ·have I:Hid (s.safe=min s.safe l.length):=(by show _=_;omega);have Y:¬(l.length:Int)<(s.safe:Int):=(by omega);clear J K o y;go_wp2;go_region_law (fail)
   all_goals
    go_wp2;go_end0;exact⟨rfl,_,l,A,O.out,M.out _ I.out⟩
end
end
section
open Go.RowKit
attribute [local go_sem] bf bh
theorem eK(h:w.1[b]?=some (.cells #[v] T)):w.cell? ⟨b,0,none⟩=some v:=by
 simp[World.cell?,h]
theorem tv(h:w.1[b]?=some (.cells #[v] T)):w.frozen? ⟨b,0,none⟩=false:=by
 simp[World.frozen?,h]
theorem dt{o:Obj}(h:w.1[b]?=some o):b<w.1.size:=(Array.getElem?_eq_some_iff.1 h).1
abbrev xK(f:FuncId)(env:AV)(w:World)(B g:Nat)(v:Value)(s:Dv.St)(k:Nat)(Q:Value->L8->World->Prop):Prop :=
 ∀w' x',w'.1[g]?=some (.cells (aN v s x' k (.func (.func f) #[] env)) 82)->Aside (·=g) w w'->Calls Tryz.prog f (#[v]++env) w' fun e w''=>∃u l,e=.returned u∧Has w'' B u l∧w''.1[g]?=some (.cells (aN v s x' k (.func (.func f) #[] env)) 82)∧Q u l w''
section
variable {B g:Nat} {v:Value} {s:Dv.St} {x k:Nat} {w:World}
theorem wj{cap:Nat}(y:w.1[g]?=some (.cells (aN (.slice q s.b.length cap) s x k fv) 82))(hb:w.1[bx]?=some (.cells #[.pointer (some ⟨g,0,none⟩)] 24))(O:s.safe<=s.b.length)(L:s.b.length<=2097152)(I:s.b.length<=cap)(J:k<9223372036854775808)(n:Nat)(z:n=s.safe+min k (s.b.length-s.safe)):
  Calls Tryz.prog 103 #[.slice q s.b.length cap,.pointer (some ⟨bx,0,none⟩)] w fun e w'=>e=.returned (.slice q n cap)∧∃m,w'=w.drewN m:=by
 have c2:w.cell? ⟨g,2,none⟩=some (.int .i64 s.safe):=eE y 2;have D:w.cell? ⟨g,8,none⟩=some (.int .i64 k):=eE y 8;have E:=eK hb;clear y hb;by_cases M:s.b.length-s.safe<k
 ·have A:(s.b.length:Int)-(s.safe:Int)<(k:Int):=by omega
  have o:Hid (n=s.safe+(s.b.length-s.safe)):=by show _=_;omega
  rw[o.out];clear z;go_enter Tryz.func103,Tryz.ntmps103;go_wp2;go_quiet (fail);go_wp2;go_ret;exact⟨rfl,_,rfl⟩
 ·have A:¬(s.b.length:Int)-(s.safe:Int)<(k:Int):=by omega
  have o:Hid (n=s.safe+k):=by show _=_;omega
  have K:s.safe+k<=s.b.length:=by omega
  rw[o.out];clear z;go_enter Tryz.func103,Tryz.ntmps103;go_wp2;go_quiet (fail);go_wp2;go_ret;exact⟨rfl,_,rfl⟩
theorem oi(y:s.safe<=s.b.length)(o:k=s.keep):(Dv.fails s).b=s.b.take (s.safe+min k (s.b.length-s.safe)):=by
 subst o;unfold Dv.fails;simp only;split
 ·rw[Nat.min_eq_left (by omega)]
 ·rw[List.take_of_length_le (by omega)]
theorem pT{cap:Nat}{o:World}(E:Aside (·=g) w o)(h:aH o B g (.slice q n cap) { s with b:=s.b.take n,safe:=s.safe } x k)(D:(Dv.fails s).b=s.b.take n):
  ∃A,aH ((((o.setCell ⟨g,5,none⟩ (.bool true)).setCell ⟨g,6,none⟩ (.bool false)).setCell ⟨g,7,none⟩ (.int .i64 0)).setCell ⟨g,8,none⟩ (.int .i64 0)).drew B g A (Dv.fails s) 0 0∧Aside (fun i=>i=g) w ((((o.setCell ⟨g,5,none⟩ (.bool true)).setCell ⟨g,6,none⟩ (.bool false)).setCell ⟨g,7,none⟩ (.int .i64 0)).setCell ⟨g,8,none⟩ (.int .i64 0)).drew∧A.ownBlock=(Value.slice q s.b.length cap).ownBlock:=by
 have J:(o.setCell ⟨g,5,none⟩ (.bool true)).1[g]?=some (.cells (aN (.slice q n cap) { s with down:=true } x k .nilFunc) 82):=fR h.lies 5 _ rfl;have K:((o.setCell ⟨g,5,none⟩ (.bool true)).setCell ⟨g,6,none⟩ (.bool false)).1[g]?=some (.cells (aN (.slice q n cap) { s with down:=true,bound:=false } x k .nilFunc) 82):=fR J 6 _ rfl;have L:(((o.setCell ⟨g,5,none⟩ (.bool true)).setCell ⟨g,6,none⟩ (.bool false)).setCell ⟨g,7,none⟩ (.int .i64 0)).1[g]?=some (.cells (aN (.slice q n cap) { s with down:=true,bound:=false } 0 k .nilFunc) 82):=fR K 7 _ rfl;have M:((((o.setCell ⟨g,5,none⟩ (.bool true)).setCell ⟨g,6,none⟩ (.bool false)).setCell ⟨g,7,none⟩ (.int .i64 0)).setCell ⟨g,8,none⟩ (.int .i64 0)).1[g]?=some (.cells (aN (.slice q n cap) (Dv.fails s) 0 0 .nilFunc) 82):=fR L 8 _ rfl
 have z:Aside (fun i=>i=g) o ((((o.setCell ⟨g,5,none⟩ (.bool true)).setCell ⟨g,6,none⟩ (.bool false)).setCell ⟨g,7,none⟩ (.int .i64 0)).setCell ⟨g,8,none⟩ (.int .i64 0)).drew :=
  (((((Aside.refl (fun i=>i=g) o).setCell (p:=⟨g,5,none⟩) (.inl rfl) _).setCell (p:=⟨g,6,none⟩) (.inl rfl) _).setCell (p:=⟨g,7,none⟩) (.inl rfl) _).setCell (p:=⟨g,8,none⟩) (.inl rfl) _).drew
 refine⟨.slice q n cap,⟨M,?_,h.base,fun y=>by simp[Dv.fails] at y,by omega,by omega⟩,E.trans z (fun _ _ h=>h),by cases q <;> rfl⟩;rw[D];exact h.has.aside z (fun j I y=>h.apart (by rw[I,y]))
theorem wg(h:aH w B g v s x k)(U:s.safe<=s.b.length)(a3:s.b.length<=2097152)(a2:k=s.keep):
  Calls Tryz.prog 74 #[.pointer (some ⟨g,0,none⟩)] w fun e w'=>e=.returned (.tuple #[])∧∃V,aH w' B g V (Dv.fails s) 0 0∧Aside (·=g) w w'∧V.ownBlock=v.ownBlock:=by
 obtain⟨q,cap,a5,-,a0⟩:=h.has.at;subst a5;obtain⟨n,J⟩:∃n,n=s.safe+min k (s.b.length-s.safe):=⟨_,rfl⟩;have a4:n<=s.b.length:=by omega
 have bp:s.safe<=n:=by omega
 have Z:Hid ((Dv.fails s).b=s.b.take n):=by show _=_;rw[J];exact oi U a2
 have bl:=h.lt;have z:aH (w.alloc (.cells #[.pointer (some ⟨g,0,none⟩)] 24)) B g (.slice q s.b.length cap) s x k:=h.below xV;have A:=bB w (.cells #[.pointer (some ⟨g,0,none⟩)] 24);have K:=xX (ee 103 #[.pointer (some ⟨w.1.size,0,none⟩)] (fun u l W=>u=.slice q n cap∧l=s.b.take n∧Aside (·=g) (w.alloc (.cells #[.pointer (some ⟨g,0,none⟩)] 24)) W) z (fun args w=>dX Tryz.func103 (by kernel_rfl) rfl args w) (fun w' R E=>by
  have aj:w'.1[w.1.size]?=some (.cells #[.pointer (some ⟨g,0,none⟩)] 24):=by rw[E.block _ (dt A) (by omega)];exact A
  refine(wj R aj U a3 a0 h.keep n J).mono ?_;rintro e W ⟨rfl,m,rfl⟩;exact⟨_,s.b.take n,rfl,((z.has.aside E (fun j a1 ak=>z.apart (by rw[a1,ak]))).drewN m).cut a4,R,rfl,rfl,E.drewN m⟩))
 have a6:=xX h;have D:=xX A;have ah:Hid (min s.safe (s.b.take n).length=s.safe):=by show _=_;rw[List.length_take];omega
 clear h z A J;go_enter Tryz.func74,Tryz.ntmps74;go_wp2_with fail;refine K.out.mono ?_;rintro e y ⟨rfl,u,l,bq,⟨rfl,rfl,L⟩,M,o⟩;rw[ah.out] at o;have I:=L.trans M (fun _ _ h=>h);have O:y.1[w.1.size]?=some (.cells #[.pointer (some ⟨g,0,none⟩)] 24):=by rw[I.block _ (dt D.out) (by omega)];exact D.out
 have bc:=eK O;have a7:y.cell? ⟨g,5,none⟩=some (.bool s.down):=o.cell 5;have a8:y.cell? ⟨g,6,none⟩=some (.bool s.bound):=o.cell 6;have a9:y.cell? ⟨g,7,none⟩=some (.int .i64 x):=o.cell 7;have bb:y.cell? ⟨g,8,none⟩=some (.int .i64 k):=o.cell 8;have bd:=o.thawed 5;have be:=o.thawed 6;have bj:=o.thawed 7;have bk:=o.thawed 8;have X:Hid (Aside (·=g) w y):=((Aside.refl (·=g) w).alloc _).trans I (fun _ _ h=>h);have Y:=xX (pT X.out o Z.out);have bn:w.1.size≠g:=by omega
 clear L M o I O K D;go_wp2;go_region_law (fail)
 all_goals
  go_wp2;go_end0;exact⟨rfl,Y.out⟩
theorem ou(fv:Value)(h:aH w B g v s x k)(y:Dv.may s=false)(K:s.safe<=s.b.length)(J:s.b.length<=2097152):
  Calls Tryz.prog 52 #[.pointer (some ⟨g,0,none⟩),fv] w fun e w'=>e=.returned (.int .i64 51)∧∃D,aH w' B g D (Dv.fails s) 0 0∧Aside (·=g) w w'∧D.ownBlock=v.ownBlock:=by
 have o:s.bound=true:=by
  cases hb:s.bound with
  |true=>rfl
  |false=>simp[Dv.may,hb] at y
 have A:s.after=0:=by simpa[Dv.may,o] using y
 have L:w.cell? ⟨g,6,none⟩=some (.bool true):=by rw[<-o];exact h.cell 6
 have M:w.cell? ⟨g,7,none⟩=some (.int .i64 0):=by have:=h.cell 7;rw[this];simp[aN,(h.due o).1,A]
 have E:=xX (wg h K J (h.due o).2);clear h y o A;go_enter Tryz.func52,Tryz.ntmps52;go_wp2_with fail;refine E.out.mono ?_;rintro e w1 ⟨rfl,z⟩;have I:=xX z;clear z;go_wp2;go_ret;exact⟨rfl,I.out⟩
theorem td(f:FuncId)(env:AV)(Q:Value->L8->World->Prop)(h:aH w B g v s x k)(ah:Dv.may s=true)(hd:s.done<4611686018427387904)(I:∀(args:AV) (w:World),(callFunc f args).run Tryz.prog w=.ok (.enter f args) w)(J:xK f env w B g v s k Q):
  Calls Tryz.prog 52 #[.pointer (some ⟨g,0,none⟩),.func (.func f) #[] env] w fun e z=>e=.returned (.int .i64 0)∧∃u l X x',Q u l X∧Aside (·=g) X z∧aH z B g u { Dv.did s with b:=l,safe:=min s.safe l.length } x' k:=by
 have U:w.cell? ⟨g,6,none⟩=some (.bool s.bound):=h.cell 6;have ak:w.cell? ⟨g,7,none⟩=some (.int .i64 x):=h.cell 7;have a0:=h.thawed 7;have a2:=h.left;cases hbd:s.bound with
 |false=>
  rw[hbd] at U;have A:=xX (ee f env Q h I (fun w' O y=>J w' x O y));have E:=xX hbd;clear h J I hbd;go_enter Tryz.func52,Tryz.ntmps52;go_wp2_with fail;refine A.out.mono ?_;rintro e z ⟨rfl,u,l,R,D,y,o⟩;have c4:z.cell? ⟨g,4,none⟩=some (.int .i64 s.done):=o.cell 4;have Y:=o.thawed 4;have L:Hid (aH (z.setCell ⟨g,4,none⟩ (.int .i64 ((s.done:Int)+1))) B g u { Dv.did s with b:=l,safe:=min s.safe l.length } x k):=o.put 4 _ (by simp[aN,Dv.did]) rfl (fun Z=>by simp[Dv.did,E.out] at Z) o.left o.keep;have K:=xX (y.setCell (p:=⟨g,4,none⟩) (.inl rfl) (.int .i64 ((s.done:Int)+1)));have M:=xX D;clear D y o A;go_wp2;go_ret;exact⟨rfl,u,l,R,x,M.out,K.out,L.out⟩
 |true=>
  have aj:0<s.after:=by simpa[Dv.may,hbd] using ah
  have W:x=s.after:=(h.due hbd).1;have a3:0<x:=by omega
  have a1:(0:Int)<(x:Int):=by omega
  have a4:((x:Int)==0)=false:=by simp;omega
  have V:aH (w.setCell ⟨g,7,none⟩ (.int .i64 ((x:Int)-1))) B g v { s with after:=s.after-1 } (x-1) k:=h.put 7 _ (by simp[aN];omega) rfl (fun _=>⟨by simp[W],(h.due hbd).2⟩) (by omega) h.keep;rw[hbd] at U;have A:=xX (ee f env Q V I (fun w' O y=>J w' (x-1) O (((Aside.refl (·=g) w).setCell (p:=⟨g,7,none⟩) (.inl rfl) _).trans y (fun _ _ h=>h))));have E:=xX hbd;clear h J I hbd V aj W;go_enter Tryz.func52,Tryz.ntmps52;go_wp2_with fail;refine A.out.mono ?_;rintro e z ⟨rfl,u,l,R,D,y,o⟩;have c4:z.cell? ⟨g,4,none⟩=some (.int .i64 s.done):=o.cell 4;have Y:=o.thawed 4;have L:Hid (aH (z.setCell ⟨g,4,none⟩ (.int .i64 ((s.done:Int)+1))) B g u { Dv.did s with b:=l,safe:=min s.safe l.length } (x-1) k):=o.put 4 _ (by simp[aN,Dv.did]) rfl (fun _=>by have:=o.due E.out;simpa[Dv.did,E.out] using this) o.left o.keep;have K:=xX (y.setCell (p:=⟨g,4,none⟩) (.inl rfl) (.int .i64 ((s.done:Int)+1)));have M:=xX D;clear D y o A;go_wp2;go_ret;exact⟨rfl,u,l,R,x-1,M.out,K.out,L.out⟩
end
end
section
open Go.RowKit
attribute [local go_sem] bf bh
theorem aH.drewN{s:Dv.St}(h:aH w B g v s x k)(j:Nat):aH (w.drewN j) B g v s x k:=⟨h.lies,h.has.drewN j,h.base,h.due,h.left,h.keep⟩
section
variable {B g:Nat} {v:Value} {s:Dv.St} {x k:Nat} {w:World}
end
end
section
open Go.RowKit
attribute [local go_sem] bf bh
theorem sa(B:Nat)(v:Value)(xs l:L8)(p:OA)(c:Nat)(w:World)(A:Has w B v xs)(h:At w p l)(a3:xs.length+l.length<=140737488355328)(R:B<=w.1.size):
  ∃(q:OA) (cap:Nat) (W:World),bJ Tryz.prog 22 22 22 v (.slice p l.length c) w (.slice q (xs++l).length cap) W∧Has W B (.slice q (xs++l).length cap) (xs++l)∧Aside (fun k=>v.ownBlock=some k) w W∧(xs++l).length<=cap∧∀k,(Value.slice q (xs++l).length cap).ownBlock=some k->v.ownBlock=some k∨w.1.size<=k:=by
 obtain⟨i,J,aj,O,U⟩:=info_parts fT;by_cases y:l=[]
 ·subst y;obtain⟨q,cap,rfl,-,I⟩:=A.at;rw[List.append_nil];exact⟨q,cap,w,⟨run_append_nothing (P:=Tryz.prog) w 22 22 22 5 i Tryz.underlying22 J q xs.length cap I (.slice p 0 c) (by rw[O];exact gv c h)⟩,A,Aside.refl _ _,I,fun k hk=>.inl hk⟩
 ·obtain⟨b,o,rfl,a2,V⟩:=aL h (List.length_pos_iff.2 y)
  obtain⟨g,cap,W,M,L,Z,Y,_⟩:=run_append_lies (P:=Tryz.prog) w 22 22 B 5 i (.int .u8 0) 1 1 Tryz.underlying22 J aj O U rfl (by decide) v xs.length (cellsOf xs) A ⟨b,o,none⟩ l.length c (cellsOf l) (by rw[aS,Nat.mul_one])
   (fun j u z=>by
    have K:j<l.length:=by
     have:=(List.getElem?_eq_some_iff.1 z).1;simpa[cellsOf] using this
    rw[br l j K] at z;cases z
    rw[Lib.add_plain];exact V j K)
   (fun u ah=>by obtain⟨_,_,rfl⟩:=List.mem_map.1 ah;rfl) (List.length_pos_iff.2 y) (by unfold maxLen;omega) (by omega) R w.1.size rfl
  rw[<-bD,<-List.length_append] at L;rw[<-List.length_append] at M;have E:Has W B (.slice (some ⟨g,0,none⟩) (xs++l).length cap) (xs++l):=L;refine⟨some ⟨g,0,none⟩,cap,W,⟨M⟩,E,gX Z,?_,?_⟩
  ·obtain⟨a4,a0,X,_,a1⟩:=E.at;injection X with _ _ e2;omega
  ·intro k hk;simp only[Value.ownBlock,Option.some.injEq] at hk;subst hk;rcases Y with D | D
   ·exact .inl D
   ·exact .inr (by omega)
theorem iF{xs:L8}(M:Has w B v xs)(h:At w p l)(J:xs.length+l.length<=140737488355328)(A:B<=w.1.size){ops:Array Oper}{rest:List Oper}{o:Oper}{a:Act}{Q:Exit->Act->World->Prop}{z x:Operand}(V:o.type=22)(I:o.guard=none)(L:o.op=Op.call { callee:=Callee.builtin Builtin.append,args:=#[z,x],argTypes:=#[22,22] })(U:a.eval z=v)(X:a.eval x=.slice p l.length c)(D:∀y q cap W,Hid (y=xs++l)->Has W B (.slice q y.length cap) y->Aside (fun k=>v.ownBlock=some k) w W->(∀k,(Value.slice q y.length cap).ownBlock=some k->v.ownBlock=some k∨w.1.size<=k)->wpList Tryz.prog ops Q rest (a.put o.dst (.slice q y.length cap)) W):
  wpList Tryz.prog ops Q (o::rest) a w:=by
 obtain⟨q,cap,W,O,K,E,-,hb⟩:=sa B v xs l p c w M h J A;have R:bJ Tryz.prog 22 22 o.type v (.slice p l.length c) w (.slice q (xs++l).length cap) W:=by rw[V];exact O
 exact aF R I L U X (D _ q cap W (xX rfl) K E hb)
theorem o8(p:OA)(c:Nat)(l:L8)(J:l.length<=140737488351232)(w:World)(h:At w p l):
  Calls Tryz.prog 104 #[.slice p l.length c] w fun e w'=>∃q cap,e=.returned (.slice q l.length cap)∧Has w' w.1.size (.slice q l.length cap) l∧Below w.1.size w w':=by
 have o:=xX h;clear h;go_enter Tryz.func104,Tryz.ntmps104;go_wp2_with (at_builtin;refine iF (xs:=[]) (v:=.slice none 0 0) (aI _ _) o.out (by simp;omega) xZ rfl rfl rfl rfl rfl ?_;intro I q cap W y z A _);go_ret;have E:I=l:=y.out;subst E;exact⟨q,cap,rfl,z,A.below xZ (fun k _ D=>by cases D)⟩
section
variable {B g:Nat} {v:Value} {s:Dv.St} {x k:Nat} {w:World}
end
end
section
open Go.RowKit
attribute [local go_sem] bf bh
section
variable {B g:Nat} {v:Value} {s:Dv.St} {x k:Nat} {w:World}
theorem we(o:Has w B v s.b)(hb:w.1[bx]?=some (.cells #[.slice p l.length c] 22))(y:At w p l)(R:s.b.length+l.length<=140737488355328)(E:B<=w.1.size):
  Calls Tryz.prog 59 #[v,.pointer (some ⟨bx,0,none⟩)] w fun e w'=>∃q cap,e=.returned (.slice q (s.b++l).length cap)∧Has w' B (.slice q (s.b++l).length cap) (s.b++l)∧Aside (fun k=>v.ownBlock=some k) w w'∧∀k,(Value.slice q (s.b++l).length cap).ownBlock=some k->v.ownBlock=some k∨w.1.size<=k:=by
 have O:=eK hb;have A:=xX o;have z:=xX y;obtain⟨U,M,L,-,-⟩:=o.at;subst L;clear hb o y;go_enter Tryz.func59,Tryz.ntmps59;go_wp2_with (at_builtin;refine iF A.out z.out (by omega) E rfl rfl rfl rfl rfl ?_;intro V q cap W D I J K);go_ret;rw[<-D.out];exact⟨q,cap,rfl,I,J,K⟩
theorem lI(h:aH w B g v s x k)(hb:w.1[bx]?=some (.cells #[.slice p l.length c] 22))(a0:bx≠g)(M:At w p l)(ak:l≠[]->∀b E,p=some ⟨b,E,none⟩->b≠g)(a1:s.b.length+l.length<=2097152)(R:B<=w.1.size):
  Calls Tryz.prog 58 #[.pointer (some ⟨g,0,none⟩),.func (.func 59) #[] #[.pointer (some ⟨bx,0,none⟩)]] w fun e I=>e=.returned (.tuple #[])∧∃q cap,aH I B g (.slice q (s.b++l).length cap) { s with b:=s.b++l,safe:=min s.safe (s.b++l).length } x k∧Aside (fun j=>j=g∨v.ownBlock=some j) w I∧∀i,(Value.slice q (s.b++l).length cap).ownBlock=some i->v.ownBlock=some i∨w.1.size<=i:=by
 refine(ee 59 #[.pointer (some ⟨bx,0,none⟩)] (fun u l' L=>l'=s.b++l∧Aside (fun j=>j=g∨v.ownBlock=some j) w L∧∃q cap,u=.slice q (s.b++l).length cap∧∀i,u.ownBlock=some i->v.ownBlock=some i∨w.1.size<=i) h (fun args w=>dX Tryz.func59 (by kernel_rfl) rfl args w) (fun w' K o=>?_)).mono ?_
 ·have Y:w'.1[bx]?=some (.cells #[.slice p l.length c] 22):=by rw[o.block _ (dt hb) a0];exact hb
  have U:=h.has.aside o (fun j aj Z=>h.apart (by rw[aj,Z]));have O:At w' p l:=by
   by_cases J:l=[]
   ·exact .inl J
   ·exact M.aside o (fun b E ah=>ak J b E ah)
  refine(we U Y O (by omega) (Nat.le_trans R o.size)).mono ?_;rintro e L ⟨q,cap,rfl,V,y,D⟩;refine⟨_,s.b++l,rfl,V,?_,rfl,(o.mono (fun i _ A=>.inl A)).trans y (fun _ _ h=>.inr h),q,cap,rfl,fun i A=>?_⟩
  ·rw[y.block g (dt K) h.apart];exact K
  ·rcases D i A with z | z
   ·exact .inl z
   ·exact .inr (Nat.le_trans o.size z)
 ·rintro e I ⟨rfl,u,l',a2,⟨rfl,y,q,cap,rfl,D⟩,X,W⟩;exact⟨rfl,q,cap,W,y.trans X (fun _ _ h=>.inl h),D⟩
theorem xu(h:aH w B g v s x k)(p:OA)(c:Nat)(l:L8)(I:At w p l)(J:l≠[]->∀b o,p=some ⟨b,o,none⟩->b≠g)(hb:s.b.length<=2097152)(ah:B<=w.1.size):
  Calls Tryz.prog 26 #[.pointer (some ⟨g,0,none⟩),.slice p l.length c] w (eN w B g v (Dv.tail s l)):=by
 have a5:=h.lt;have y:Below w.1.size w (w.alloc (.cells #[.slice p l.length c] 22)):=xV;have A:=h.below y;have Z:=xX A;have M:Hid (Aside (fun i=>i=g∨v.ownBlock=some i) w (w.alloc (.cells #[.slice p l.length c] 22))):=ae y _;have c0:w.cell? ⟨g,0,none⟩=some v:=h.cell 0;obtain⟨q,cap,ak,-,a4⟩:=h.has.at;subst ak;by_cases W:2097152<s.b.length+l.length
 ·have z:Hid (Dv.tail s l=(2,s)):=by show _=_;unfold Dv.tail;rw[if_pos W]
  have a0:(2097152:Int)-(s.b.length:Int)<(l.length:Int):=by omega
  clear h I J ah A y;go_enter Tryz.func26,Tryz.ntmps26;go_wp2;go_quiet (fail);go_wp2;go_ret;unfold eN;rw[z.out];exact⟨rfl,_,_,_,Z.out.drewN _,M.out.drewN _,fun _ h=>.inl h⟩
 ·have z:Hid (Dv.tail s l=(0,{ s with b:=s.b++l,safe:=(s.b++l).length })):=by show _=_;unfold Dv.tail;rw[if_neg W]
  have a0:¬(2097152:Int)-(s.b.length:Int)<(l.length:Int):=by omega
  have Y:=xX (fun j=>lI (c:=c) (bx:=w.1.size) (A.drewN j) (bB w _) (by omega) ((I.on y).drewN j) J (by omega) (by simp;omega));clear h I J A y;go_enter Tryz.func26,Tryz.ntmps26;go_wp2_with fail;go_quiet (fail);go_wp2_with fail;refine(Y.out _).mono ?_;rintro e L ⟨rfl,K,D,hK,U,V⟩;have X:=xX ((M.out.drewN _).trans U (fun _ _ h=>h));have R:Hid (∀i,(Value.slice K (s.b++l).length D).ownBlock=some i->(Value.slice q s.b.length cap).ownBlock=some i∨w.1.size<=i):=fun i aj=>by
   rcases V i aj with E | E
   ·exact .inl E
   ·exact .inr (by simp at E;omega)
  have c3:L.cell? ⟨g,0,none⟩=some (.slice K (s.b++l).length D):=hK.cell 0;have c2:L.cell? ⟨g,2,none⟩=some (.int .i64 ((min s.safe (s.b++l).length:Nat):Int)):=hK.cell 2;have a3:=hK.thawed 2;have O:Hid (aH (L.setCell ⟨g,2,none⟩ (.int .i64 ((s.b++l).length:Nat))) B g (.slice K (s.b++l).length D) { s with b:=s.b++l,safe:=(s.b++l).length } x k):=hK.put 2 _ rfl rfl hK.due hK.left hK.keep;generalize s.b++l=a2 at O R z c3 c2 ⊢;generalize min s.safe a2.length=a6 at c2;clear hK U V;go_wp2;go_ret;unfold eN;rw[z.out];exact⟨rfl,_,_,_,O.out,X.out.setCell (.inl (.inl rfl)) _,R.out⟩
end
end
end Go.Proofs.YtdkammppnkhhoaaGreatDoor

import Derived.Test.YtbahfgdbjgkklaaGreatDoorB16
import Derived.Test.YtbahfgdbjgkklaaGreatDoorB15
set_option maxRecDepth 100000
set_option maxHeartbeats 1000000
namespace Go.Proofs.YtbahfgdbjgkklaaGreatDoor
variable{B R:Nat}{w w' w1:World}{l xs:L8}{u v:Value}{most:Int}{a:Act}{ops:Array Oper}{o:Oper}{f:FuncId}
section
open Go.RowKit
theorem pm{p:OA}{c:Nat}(V:Has w B v xs)(h:At w p l)(Q:xs.length+l.length<=140737488355328)(I:B<=w.1.size){ops:Array Oper}{o:Oper}{a:Act}{z:Act->World->Prop}{E:Exit->Act->World->Prop}{D:Prop}(s x:Operand)(Z:o.type=22)(O:o.guard=none)(U:o.op=Op.call { callee:=Callee.builtin Builtin.append,args:=#[s,x],argTypes:=#[22,22] })(Y:a.eval s=v)(hx:a.eval x=.slice p l.length c)(J:∀q cap W y,Hid (y=xs++l)->bA w B v W (.slice q y.length cap) y->z (a.put o.dst (.slice q y.length cap)) W):
  if Region.wanted o (yielded ops a.tmps)=true then Oper.wp Tryz.prog o a w z E else D:=by
 have ab:Region.wanted o (yielded ops a.tmps)=true:=by simp[Region.wanted,O]
 rw[if_pos ab];obtain⟨q,cap,W,⟨X⟩,S,K,-,L⟩:=eL B v xs l p c w V h Q I;unfold Oper.wp;have M:(execOp a.eval o).run Tryz.prog w=.ok (.value (.slice q (xs++l).length cap)) W:=by
  simp only[execOp,U,resolve,invoke,builtin];simp[Y,hx,Z,X,Result.andThen]
 rw[M];exact J q cap W (xs++l) (gQq rfl) ⟨S,K,L⟩
theorem iR{y:Act->World->Prop}{I:Exit->Act->World->Prop}{E:Prop}{R:Ending->World->Prop}(D x z:Operand)(t Y:TypeId)(O:o.guard=none)(S:o.op=Op.call { callee:=.value D,args:=#[x,z],argTypes:=#[t,Y] })(X:a.eval D=.func (.func f) #[] #[])(hx:a.eval x=u)(W:a.eval z=v)(J:∀(args:AV) (w:World),(callFunc f args).run Tryz.prog w=.ok (.enter f args) w)(L:Calls Tryz.prog f #[u,v] w R)(K:∀e w',R e w'->∃v,e=.returned v∧y (a.put o.dst v) w'):
  if Region.wanted o (yielded ops a.tmps)=true then Oper.wp Tryz.prog o a w y I else E:=by
 have V:Region.wanted o (yielded ops a.tmps)=true:=by simp[Region.wanted,O]
 rw[if_pos V];unfold Oper.wp;have M:(execOp a.eval o).run Tryz.prog w=.ok (.enter f #[u,v]) w:=by
  simp[execOp,S,resolve,invoke,hx,W,X,Deferred.ofValue,J]
 rw[M,Oper.upon_enter];refine L.mono ?_;intro e w' U;obtain⟨v,rfl,Q⟩:=K e w' U;exact Q
theorem l9{y:Act->World->Prop}{z:Exit->Act->World->Prop}{I:Prop}{R:Ending->World->Prop}(E x D:Operand)(t Y:TypeId)(O:o.guard=none)(S:o.op=Op.call { callee:=.value E,args:=#[x,D],argTypes:=#[t,Y] })(X:a.eval E=.func (.func f) #[] #[])(hx:a.eval x=u)(W:a.eval D=v)(J:∀(args:AV) (w:World),(callFunc f args).run Tryz.prog w=.ok (.enter f args) w)(L:Calls Tryz.prog f #[u,v] w R)(K:∀e w',R e w'->∃ch,e=.panicked ch∧z (.panic ch) a w')(v':Value)(_:Hid False->y (a.put o.dst v') w):
  if Region.wanted o (yielded ops a.tmps)=true then Oper.wp Tryz.prog o a w y z else I:=by
 have V:Region.wanted o (yielded ops a.tmps)=true:=by simp[Region.wanted,O]
 rw[if_pos V];unfold Oper.wp;have M:(execOp a.eval o).run Tryz.prog w=.ok (.enter f #[u,v]) w:=by
  simp[execOp,S,resolve,invoke,hx,W,X,Deferred.ofValue,J]
 rw[M,Oper.upon_enter];refine L.mono ?_;intro e w' U;obtain⟨v,rfl,Q⟩:=K e w' U;exact Q
theorem enters{fn:Func}{code:Code}(z : Tryz.prog.funcs[f]?=some fn)(D : (fn.name== "runtime.NumGoroutine")=false)(hb : fn.body=some code)(args : AV)(w : World): (callFunc f args).run Tryz.prog w=.ok (.enter f args) w := by
 have y : fn.name≠ "runtime.NumGoroutine" := by simpa using D
 simp[callFunc,z,y,hb]
def jD:AV:=#[.nilFunc,.func (.func 235) #[] #[],.func (.func 236) #[] #[],.func (.func 237) #[] #[],.func (.func 238) #[] #[],.func (.func 238) #[] #[],.func (.func 239) #[] #[],.func (.func 239) #[] #[]]
structure Wtr(w:World)(B R:Nat)(most:Int)(l:L8):Prop where
 out:∃T q cap,w.1[R]?=some (.cells #[.slice (some ⟨T,0,none⟩) 8 8,.slice q l.length cap,.int .i64 most] 272 (0,0))∧w.1[T]?=some (.cells jD 294 (0,0))∧Has w B (.slice q l.length cap) l∧T≠R∧T<B
 low:R<B
 base:B<=w.1.size
theorem Wtr.on(h:Wtr w B R most l)(hb:Below w.1.size w w'):Wtr w' B R most l:=by
 obtain⟨T,q,cap,y,z,D,E,I⟩:=h.out;exact⟨⟨T,q,cap,by rw[hb.block R (au y)];exact y,by rw[hb.block T (au z)];exact z,D.on hb,E,I⟩,h.low,Nat.le_trans h.base hb.size⟩
theorem Wtr.lt(h:Wtr w B R most l):R<w.1.size:=Nat.lt_of_lt_of_le h.low h.base
def nT(w:World)(R k:Nat):Prop:=∃t v m,w.1[R]?=some (.cells #[t,v,m] 272 (0,0))∧v.ownBlock=some k
theorem lA(h:w'.1[R]?=w.1[R]?)(k:Nat):nT w' R k↔nT w R k:=by unfold nT;rw[h]
theorem qQ{k:Nat}{t m:Value}(h:w.1[R]?=some (.cells #[t,v,m] 272 (0,0)))(D:nT w R k):v.ownBlock=some k:=by
 obtain⟨I,v',E,y,z⟩:=D;rw[h] at y;injection y with y;injection y with y;simp only[Array.mk.injEq,List.cons.injEq,and_true] at y;rw[y.2.1];exact z
theorem Wtr.owns(h:Wtr w B R most l){k:Nat}(D:nT w R k):B<=k∧k<w.1.size:=by
 obtain⟨T,q,cap,y,E,z,I,J⟩:=h.out;exact z.lt k (qQ y D)
structure AsW(R:Nat)(w w':World):Prop where
 aside:Aside (fun k=>k=R∨nT w R k) w w'
 fresh:∀k,nT w' R k->nT w R k∨w.1.size<=k
theorem AsW.trans{E:World}(h:AsW R w w1)(k:AsW R w1 E):AsW R w E:=by
 have J:=h.aside.size;refine⟨h.aside.trans k.aside (fun i D I=>?_),fun i D=>?_⟩
 ·rcases I with y | y
  ·exact .inl y
  ·rcases h.fresh i y with z | z
   ·exact .inr z
   ·omega
 ·rcases k.fresh i D with y | y
  ·exact h.fresh i y
  ·exact .inr (by omega)
theorem AsW.new(y:R<w.1.size)(h:Below w.1.size w w1):AsW R w w1:=⟨al h _,fun k z=>.inl ((lA (h.block R y) k).1 z)⟩
theorem AsW.below{A:Nat}(h:AsW R w w1)(y:Wtr w B R most l)(J:A<=R):Below A w w1:=by
 have E:=y.low;have I:=y.base;exact h.aside.below (by omega) (fun k K D=>by
  rcases D with z | z
  ·omega
  ·have:=(y.owns z).1;omega)
theorem AsW.far{y:World}(h:AsW R y w1)(D:Wtr w B R most l)(hb:Below w.1.size w y){k:Nat}(K:w.1.size<=k)(E:k<y.1.size):w1.1[k]?=y.1[k]?:=by
 have I:=D.lt;refine h.aside.block k E (fun J=>?_);rcases J with z | z
 ·omega
 ·have:=(D.owns ((lA (hb.block R I) k).1 z)).2;omega
theorem Wtr.more{T:Nat}{q D:OA}{cap z:Nat}{y:L8}(h:Wtr w B R most l)(K:w.1[R]?=some (.cells #[.slice (some ⟨T,0,none⟩) 8 8,.slice q l.length cap,.int .i64 most] 272 (0,0)))(Y:w.1[T]?=some (.cells jD 294 (0,0)))(Q:T≠R)(S:T<B)(Z:Has w B (.slice q l.length cap) l)(E:bA w B (.slice q l.length cap) w1 (.slice D y.length z) y):
  w1.1[R]?=some (.cells #[.slice (some ⟨T,0,none⟩) 8 8,.slice q l.length cap,.int .i64 most] 272 (0,0))∧Wtr (w1.setCell ⟨R,1,none⟩ (.slice D y.length z)) B R most y∧AsW R w (w1.setCell ⟨R,1,none⟩ (.slice D y.length z)):=by
 have V:=h.low;have ah:=h.base;have ab:=Z.lt;have W:∀k,k<B->w1.1[k]?=w.1[k]?:=fun k I=>E.aside.block k (by omega) (fun M=>by have:=(ab k M).1;omega);have O:w1.1[R]?=some (.cells #[.slice (some ⟨T,0,none⟩) 8 8,.slice q l.length cap,.int .i64 most] 272 (0,0)):=(W R V).trans K;have J:Aside (fun i=>i=R) w1 (w1.setCell ⟨R,1,none⟩ (.slice D y.length z)):=ag _ _ _ _;have aj:=E.aside.size;have ak:=J.size;refine⟨O,⟨⟨T,D,z,by rw[ai O 1];rfl,?_,?_,Q,S⟩,V,by omega⟩,?_⟩
 ·rw[J.block T (by omega) Q,W T S];exact Y
 ·exact E.has.aside J (fun k I U=>by have:=(E.has.lt k I).1;omega)
 ·refine⟨Aside.trans (Aside.mono E.aside (fun k I M=>.inr ⟨_,_,_,K,M⟩)) J (fun k I U=>.inl U),fun k I=>?_⟩;have X:(w1.setCell ⟨R,1,none⟩ (.slice D y.length z)).1[R]?=some (.cells #[.slice (some ⟨T,0,none⟩) 8 8,.slice D y.length z,.int .i64 most] 272 (0,0)):=by rw[ai O 1];rfl
  rcases E.fresh k (qQ X I) with L | L
  ·exact .inl ⟨_,_,_,K,L⟩
  ·exact .inr L
structure iL(most:Int)(xs full ys:L8):Prop where
 eq:ys=xs++full∨(most<ys.length∧most<(xs++full).length)
 len:ys.length<=xs.length+full.length
theorem iL.all{full:L8}:iL most xs full (xs++full):=⟨.inl rfl,by rw[List.length_append];omega⟩
def WrA(w:World)(B R:Nat)(most:Int)(xs full:L8)(e:Ending)(w':World):Prop:=∃ys,iL most xs full ys∧e=.returned (.tuple #[])∧Wtr w' B R most ys∧AsW R w w'
theorem l4(w:World):Calls Tryz.prog 196 #[] w fun e w'=>e=.returned (.slice (some ⟨w.1.size,0,none⟩) 8 8)∧w'=w.alloc (.cells jD 294):=by
 go_enter Tryz.func196,Tryz.ntmps196;go_wp2_with fail;go_ret;exact⟨rfl,rfl⟩
theorem Wtr.drew(h:Wtr w B R most l):Wtr w.drew B R most l:=h.on (gQz.drew)
theorem rH(w:World)(most:Int):Wtr ((w.alloc (.cells jD 294)).alloc (.cells #[.slice (some ⟨w.1.size,0,none⟩) 8 8,.slice none 0 0,.int .i64 most] 272)) (w.1.size+2) (w.1.size+1) most []:=by
 refine⟨⟨w.1.size,none,0,?_,?_,aM _ _,by omega,by omega⟩,by omega,by simp⟩
 ·have:=am (w.alloc (.cells jD 294)) (.cells #[.slice (some ⟨w.1.size,0,none⟩) 8 8,.slice none 0 0,.int .i64 most] 272);simpa using this
 ·rw[aG _ _ (by simp)];exact am w _
end
section
open Go.RowKit
attribute [local go_sem] af
theorem mz(n:Nat)(a0:n<18446744073709551616)(xs:L8)(hx:xs.length<=100000000000000)(B R:Nat)(most:Int)(w:World)(h:Wtr w B R most xs):Calls Tryz.prog 258 #[.pointer (some ⟨R,0,none⟩),.int .u64 n] w fun e w'=>e=.returned (.tuple #[])∧Wtr w' B R most (xs++Leb.put n)∧AsW R w w':=by
  have K:=gQq (dT n a0);have a1:=Leb.put_length_le n;obtain⟨J,Q⟩:∃J,J=Leb.put n:=⟨_,rfl⟩;rw[<-Q] at K a1 ⊢;obtain⟨T,q,cap,E,L,M,ah,aj⟩:=h.out;have c1:w.cell? ⟨R,1,none⟩=some (.slice q xs.length cap):=aa E 1;have X:=gQq h;have U:=gQq E;have V:=gQq L;have z:=gQq M;have ak:=h.base;clear Q h E L M;go_enter Tryz.func258,Tryz.ntmps258;go_wp2_with fail
  go_region_law (first|(refine pt (.tmp 9) 153 (by rfl) (by rfl) (by rfl) Tryz.func107 (by kernel_rfl) (by rfl) (K.out _) ?_;rintro e w1 ⟨g,a2,rfl,S,hb⟩;refine⟨_,rfl,?_⟩;have I:Below w.1.size w w1:=⟨hb.os,hb.tape,hb.output,hb.size,hb.block⟩;have a4:w1.cell? ⟨R,1,none⟩=some (.slice q xs.length cap):=ae I c1;have Y:=gQq S;have D:=gQq I;clear S hb I)|(refine pm (B:=B) (xs:=xs) (l:=J) (z.out.on D.out) Y.out.at (by omega) (Nat.le_trans ak D.out.size) (.tmp 8) (.tmp 10) (by rfl) (by rfl) (by rfl) (by rfl) (by rfl) ?_;intro a6 a3 W a7 ab O;have y:=X.out.more U.out V.out ah aj z.out (O.from D.out z.out);have a5:W.cell? ⟨R,1,none⟩=some (.slice q xs.length cap):=aa y.1 1;have f1:W.frozen? ⟨R,1,none⟩=false:=ac y.1 1;have Z:=gQq y.2;clear y O)|fail)
  all_goals
    go_end0;rw[<-ab.out];exact⟨rfl,Z.out⟩
section
variable {w:World} {B R:Nat} {most:Int} {xs:L8} (h:Wtr w B R most xs) (hx:xs.length<=90000000000000)
include h hx
theorem oV(k i:Int)(X:i=0∨i=1)(b:Nat)(t:ByteArray)(p:OA)(n c:Nat):Calls Tryz.prog 235 #[.pointer (some ⟨R,0,none⟩),.agg #[.int .i64 k,.int .i64 i,.float .f64 b,.string t,.slice p n c]] w fun e w'=>e=.returned (.tuple #[])∧Wtr w' B R most (xs++[UInt8.ofNat i.toNat])∧AsW R w w':=by
  obtain⟨c0,K⟩:∃c0,c0=UInt8.ofNat i.toNat:=⟨_,rfl⟩;have Y:i=(c0.toNat:Int):=by rw[K,UInt8.toNat_ofNat'];omega
  have aj:Hid (IntKind.u8.wrap i=(c0.toNat:Int)):=by
    show _=_;rw[<-Y];rcases X with rfl | rfl <;> rfl
  rw[<-K];obtain⟨y,D⟩:∃y,y=w.alloc (.cells #[.int .i64 k,.int .i64 i,.float .f64 b,.string t,.slice p n c] 38):=⟨_,rfl⟩;have M:Hid (Below w.1.size w y):=by rw[D];exact gQy
  have a5:y.1.size=w.1.size+1:=by rw[D];simp
  have a8:y.cell? ⟨w.1.size,1,none⟩=some (.int .i64 i):=by rw[D];simp
  have Q:=gQq D;have I:=gQq (h.on M.out);obtain⟨T,q,cap,J,S,U,a1,a2⟩:=I.out.out;have c1:y.cell? ⟨R,1,none⟩=some (.slice q xs.length cap):=aa J 1;have a7:∀o,(y.alloc o).cell? ⟨R,1,none⟩=some (.slice q xs.length cap):=fun o=>ae gQy c1;have ab:=gQq J;have ah:=gQq S;have L:=gQq U;have a3:=I.out.base;have a4:=h.lt;clear h J S U Y K X D;go_enter Tryz.func235,Tryz.ntmps235;go_wp2_with fail;rw[<-Q.out];clear Q
  go_region_law (first|(refine jI (B:=B) (xs:=xs) (v:=.slice q xs.length cap) (w:=y.drew) (H:=w.1.size+1) (by exact a5) L.out.drew c0 (by omega) a3 (.tmp 8) (.tmp 12) aj.out (by rfl) (by rfl) (by rfl) (by rfl) (by rfl) ?_;intro a6 a0 W Z ak z;have V:bA y B (.slice q xs.length cap) W (.slice a6 Z.length a0) Z:=⟨z.has,⟨z.aside.os,z.aside.tape,z.aside.output,z.aside.size,z.aside.block⟩,z.fresh⟩;have E:=I.out.more ab.out ah.out a1 a2 L.out V;have a9:W.cell? ⟨R,1,none⟩=some (.slice q xs.length cap):=aa E.1 1;have f1:W.frozen? ⟨R,1,none⟩=false:=ac E.1 1;have O:=gQq E.2;clear E z V)|fail)
  all_goals
    go_end0;rw[<-ak.out];exact⟨rfl,O.out.1,(AsW.new a4 M.out).trans O.out.2⟩
end
end
section
open Go.RowKit
attribute [local go_sem] af
theorem pj{t:ByteArray}(V:Has w B v xs)(Q:xs.length+t.size<=140737488355328)(I:B<=w.1.size){ops:Array Oper}{o:Oper}{a:Act}{z:Act->World->Prop}{E:Exit->Act->World->Prop}{D:Prop}(s x:Operand)(Z:o.type=22)(O:o.guard=none)(U:o.op=Op.call { callee:=Callee.builtin Builtin.append,args:=#[s,x],argTypes:=#[22,9] })(Y:a.eval s=v)(hx:a.eval x=.string t)(J:∀q cap W y,Hid (y=xs++t.data.toList)->bA w B v W (.slice q y.length cap) y->z (a.put o.dst (.slice q y.length cap)) W):
  if Region.wanted o (yielded ops a.tmps)=true then Oper.wp Tryz.prog o a w z E else D:=by
 have ab:Region.wanted o (yielded ops a.tmps)=true:=by simp[Region.wanted,O]
 rw[if_pos ab];obtain⟨q,cap,W,⟨X⟩,S,K,L⟩:=nV B v xs t w V Q I;unfold Oper.wp;have M:(execOp a.eval o).run Tryz.prog w=.ok (.value (.slice q (xs++t.data.toList).length cap)) W:=by
  simp only[execOp,U,resolve,invoke,builtin];simp[Y,hx,Z,X,Result.andThen]
 rw[M];exact J q cap W (xs++t.data.toList) (gQq rfl) ⟨S,K,L⟩
section
variable {w:World} {B R:Nat} {most:Int} {xs:L8} (h:Wtr w B R most xs) (hx:xs.length<=90000000000000)
include h hx
theorem rI(k i:Int)(E:-9223372036854775808<=i∧i<=9223372036854775807)(b:Nat)(t:ByteArray)(p:OA)(n c:Nat):Calls Tryz.prog 236 #[.pointer (some ⟨R,0,none⟩),.agg #[.int .i64 k,.int .i64 i,.float .f64 b,.string t,.slice p n c]] w fun e w'=>e=.returned (.tuple #[])∧Wtr w' B R most (xs++Leb.put (Leb.zig i))∧AsW R w w':=by
 have O:Leb.zig i<18446744073709551616:=by unfold Leb.zig;split <;> omega
 have J:=gQq (qA i E.1 E.2);obtain⟨y,D⟩:∃y,y=w.alloc (.cells #[.int .i64 k,.int .i64 i,.float .f64 b,.string t,.slice p n c] 38):=⟨_,rfl⟩;have I:Hid (Below w.1.size w y):=by rw[D];exact gQy
 have z:=gQq (mz (Leb.zig i) O xs (by omega) B R most y (h.on I.out));obtain⟨S,Q⟩:∃S,S=Leb.zig i:=⟨_,rfl⟩;rw[<-Q] at J z ⊢;have W:=gQq D;have X:=h.lt;clear E O h Q D;go_enter Tryz.func236,Tryz.ntmps236;go_wp2_with fail;refine(J.out _).mono ?_;rintro e w1 ⟨rfl,M⟩;rw[M];clear M w1;go_wp2_with fail;rw[<-W.out];refine z.out.mono ?_;rintro e Y ⟨rfl,K,L⟩;have U:=gQq K;have V:=gQq L;clear K L z;go_wp2;go_end0;exact⟨rfl,U.out,(AsW.new X I.out).trans V.out⟩
theorem oU(k i:Int)(b:Nat)(t:ByteArray)(br:t.size<=1024)(p:OA)(n c:Nat):Calls Tryz.prog 238 #[.pointer (some ⟨R,0,none⟩),.agg #[.int .i64 k,.int .i64 i,.float .f64 b,.string t,.slice p n c]] w fun e w'=>e=.returned (.tuple #[])∧Wtr w' B R most (xs++(Leb.put t.size++t.data.toList))∧AsW R w w':=by
  obtain⟨D,E⟩:∃D,D=w.alloc (.cells #[.int .i64 k,.int .i64 i,.float .f64 b,.string t,.slice p n c] 38):=⟨_,rfl⟩;have O:Hid (Below w.1.size w D):=by rw[E];exact gQy
  have be:=h.lt;have Z:=gQq h;have ah:D.cell? ⟨w.1.size,3,none⟩=some (.string t):=by rw[E];simp
  have bq:D.1.size=w.1.size+1:=by rw[E];simp
  have Q:=gQq (mz t.size (by omega) xs (by omega) B R most D (h.on O.out));have bi:=Leb.put_length_le t.size;obtain⟨V,a1⟩:∃z,z=Leb.put t.size:=⟨_,rfl⟩;rw[<-a1] at Q bi ⊢;have bs:(t.size:Int)<=1024:=by omega
  have a5:=gQq E;clear h a1 E;go_enter Tryz.func238,Tryz.ntmps238;go_wp2_with fail;rw[<-a5.out];refine Q.out.mono ?_;rintro e L ⟨rfl,J,U⟩;have Y:=gQq J;have a4:=gQq U;obtain⟨T,q,cap,S,aj,ak,a9,bb⟩:=J.out;have c1:L.cell? ⟨R,1,none⟩=some (.slice q (xs++V).length cap):=aa S 1;have bp:L.cell? ⟨w.1.size,3,none⟩=some (.string t):=by
    rw[World.cell?_of_block (w:=D) (U.far Z.out O.out gQx (by show w.1.size<_;omega))];exact ah
  have X:=gQq S;have a3:=gQq aj;have M:=gQq ak;have bc:=J.base;obtain⟨ys0,K⟩:∃ys0,ys0=xs++V:=⟨_,rfl⟩;have bN:ys0.length<=xs.length+10:=by rw[K,List.length_append];omega
  have a7:Hid (xs++(V++t.data.toList)=ys0++t.data.toList):=by show _=_;rw[K,List.append_assoc]
  rw[<-K] at c1 X M Y;clear J U S aj ak Q ah Z K;go_wp2_with fail
  go_region_law (first|(refine pj (B:=B) (xs:=ys0) (t:=t) (v:=.slice q ys0.length cap) (w:=L.drew) M.out.drew (by omega) bc (.tmp 14) (.tmp 16) (by rfl) (by rfl) (by rfl) (by rfl) (by rfl) ?_;intro bj a8 W a2 a6 y;have a0:bA L B (.slice q ys0.length cap) W (.slice bj a2.length a8) a2:=⟨y.has,⟨y.aside.os,y.aside.tape,y.aside.output,y.aside.size,y.aside.block⟩,y.fresh⟩;have I:=Y.out.more X.out a3.out a9 bb M.out a0;have bn:W.cell? ⟨R,1,none⟩=some (.slice q ys0.length cap):=aa I.1 1;have f1:W.frozen? ⟨R,1,none⟩=false:=ac I.1 1;have ab:=gQq I.2;clear I y a0)|fail)
  all_goals
    go_end0;rw[a7.out,<-a6.out];exact⟨rfl,ab.out.1,((AsW.new be O.out).trans a4.out).trans ab.out.2⟩
theorem m8(k i:Int)(b:Nat)(a0:b<18446744073709551616)(t:ByteArray)(p:OA)(n c:Nat):Calls Tryz.prog 237 #[.pointer (some ⟨R,0,none⟩),.agg #[.int .i64 k,.int .i64 i,.float .f64 b,.string t,.slice p n c]] w fun e w'=>e=.returned (.tuple #[])∧Wtr w' B R most (xs++Sch.le 8 (ay b))∧AsW R w w':=by
  obtain⟨I,M⟩:∃I,I=w.alloc (.cells #[.int .i64 k,.int .i64 i,.float .f64 b,.string t,.slice p n c] 38):=⟨_,rfl⟩;have U:Hid (Below w.1.size w I):=by rw[M];exact gQy
  have a3:=Sch.fixB_lt a0;have a9:=gQq (cS b);generalize ay b=m at *
  have Z:Hid (lY m [] m):=⟨by simp,a3,rfl⟩;have V:=gQq (h.on U.out);have bp:=h.lt;have ab:=gQq M;clear a3 a0 h M;go_enter Tryz.func237,Tryz.ntmps237;go_wp2_with fail;refine(a9.out _).mono ?_;rintro e w1 ⟨rfl,a5⟩;rw[a5];clear a5 w1;go_wp2_with fail;rw[<-ab.out];clear ab;go_loopw [4,8] (fun br O wr=>∃(n:Nat) (es:L8),br=.int .u64 n∧O=.int .i64 es.length∧es.length<=8∧n<18446744073709551616∧Hid (lY m es n∧Wtr wr B R most (xs++es)∧AsW R I wr)) (fun _ O _=>8-(intOf O).toNat);case atStart=>exact⟨m,[],rfl,rfl,by simp,Z.out.2.1,Z.out,by rw[List.append_nil];exact V.out,AsW.new V.out.lt gQz⟩
  case round=>
    obtain⟨E,es,rfl,rfl,bO,b0,z⟩:=hrel;obtain⟨y,K⟩:∃y,y=xs++es:=⟨_,rfl⟩;have a6:y.length=xs.length+es.length:=(by rw[K,List.length_append]);have ah:=gQq K;have D:=gQq z.out.2.1;have S:=gQq z.out.2.2;rw[<-K] at D;clear K;by_cases bq:es.length<8
    · have bX:(es.length:Int)<8:=(by omega);have Y:=gQq (kr z.out.1 bq);have a1:(UInt8.ofNat (E % 256)).toNat=E % 256:=(by rw[UInt8.toNat_ofNat'];omega);generalize UInt8.ofNat (E % 256)=c1 at a1 Y;obtain⟨T,q,cap,L,aj,ak,bj,bk⟩:=D.out.out;have b2:wr.cell? ⟨R,1,none⟩=some (.slice q y.length cap):=aa L 1;have a7:=gQq L;have a8:=gQq aj;have Q:=gQq ak;have bn:=D.out.base;have bi:Hid ((E:Int) % 256=(c1.toNat:Int)):=by
        show _=_;omega
      have be:=gQq a6;clear z L aj ak a1 a6
      go_wp2_with (first|(at_builtin;refine gI (B:=B) (xs:=y) (v:=.slice q y.length cap) (w:=wr) rfl Q.out c1 (by have:=be.out;omega) bn bi.out rfl rfl rfl rfl rfl ?_;intro b1 bs W b3 bc a4;have J:=D.out.more a7.out a8.out bj bk Q.out a4;have bN:W.cell? ⟨R,1,none⟩=some (.slice q y.length cap):=aa J.1 1;have f1:W.frozen? ⟨R,1,none⟩=false:=ac J.1 1;have X:=gQq J.2;clear J a4))
      go_roundw;case rel=>exact⟨E / 256,es++[c1],by go_num,by simp,by simp;omega,by omega,Y.out,by rw[<-List.append_assoc,<-ah.out,<-bc.out];exact X.out.1,S.out.trans X.out.2⟩
      case measure=>simp[intOf];omega
    · have bT:¬(es.length:Int)<8:=(by omega);have a2:Sch.le 8 m=es:=by
        rw[z.out.1.2.2,show 8-es.length=0 by omega];simp[Sch.le]
      have bb:Hid (xs++Sch.le 8 m=y):=(by show _=_;rw[a2,ah.out]);clear z a2;go_wp2;go_end0;rw[bb.out];exact⟨rfl,D.out,(AsW.new bp U.out).trans S.out⟩
end
end
section
open Go.RowKit
attribute [local go_sem] af
def yQ(x:V):Prop:=∀(w0 w:World) (u:AV) (B R:Nat) (most:Int) (xs:L8),aJ w0 u x->Below w0.1.size w0 w->w0.1.size<=R->Wtr w B R most xs->xs.length+(Sch.vB x).length<=80000000000000->Calls Tryz.prog 198 #[.pointer (some ⟨R,0,none⟩),.agg u] w (WrA w B R most xs (Sch.vB x))
section
variable {w:World} {B R:Nat} {most:Int} {xs:L8} (h:Wtr w B R most xs)
include h
theorem m7(k i:Int)(b:Nat)(t:ByteArray)(items:List V)(dh:items.length<=256)(bX:∀x∈items,yQ x)(p:OA)(c:Nat)(w0:World)(hx:dm w0 p items)(bn:Below w0.1.size w0 w)(bs:w0.1.size<=R)(br:xs.length+(Leb.put items.length++(items.map Sch.vB).flatten).length<=80000000000000):
  Calls Tryz.prog 239 #[.pointer (some ⟨R,0,none⟩),.agg #[.int .i64 k,.int .i64 i,.float .f64 b,.string t,.slice p items.length c]] w (WrA w B R most xs (Leb.put items.length++(items.map Sch.vB).flatten)):=by
 obtain⟨I,O⟩:∃I,I=w.alloc (.cells #[.int .i64 k,.int .i64 i,.float .f64 b,.string t,.slice p items.length c] 38):=⟨_,rfl⟩;have Z:Hid (Below w.1.size w I):=by rw[O];exact gQy
 have cr:=h.lt;have a9:=gQq h;have b9:=gQq bn;have cs:xs.length+((Leb.put items.length).length+(items.map Sch.vB).flatten.length)<=80000000000000:=by rw[<-List.length_append];exact br
 have be:I.cell? ⟨w.1.size,4,none⟩=some (.slice p items.length c):=by rw[O];simp
 have di:I.1.size=w.1.size+1:=by rw[O];simp
 have ah:=gQq (mz items.length (by omega) xs (by omega) B R most I (h.on Z.out));have a5:=Leb.put_length_le items.length;obtain⟨l0,bq⟩:∃z,z=Leb.put items.length:=⟨_,rfl⟩;rw[<-bq] at ah a5 cs ⊢;have dj:(items.length:Int)<=256:=by omega
 have ce:=gQq O;have cf:=gQq hx;have cb:=gQq bX;clear h bq O br bn hx bX;go_enter Tryz.func239,Tryz.ntmps239;go_wp2_with fail;rw[<-ce.out];refine ah.out.mono ?_;rintro e b5 ⟨rfl,bN,U⟩;have ca:=gQq bN;have c7:=gQq U;have cp:b5.cell? ⟨w.1.size,4,none⟩=some (.slice p items.length c):=by
  rw[World.cell?_of_block (w:=I) (U.far a9.out Z.out gQx (by show w.1.size<_;omega))];exact be
 have b8:Hid (AsW R w b5):=(AsW.new cr Z.out).trans U;have cg:Hid (iL most xs (l0++((items.take 0).map Sch.vB).flatten) (xs++l0)):=by
  show iL _ _ _ _;rw[List.take_zero,List.map_nil,List.flatten_nil,List.append_nil];exact iL.all
 clear bN U ah be;go_wp2_with fail;clear cp;go_loopw [15] (fun a7 wr=>∃(j:Nat) (zs:L8),j<=items.length∧a7=.int .i64 j∧zs.length<=80000000000000∧Hid (iL most xs (l0++((items.take j).map Sch.vB).flatten) zs∧Wtr wr B R most zs∧AsW R w wr)) (fun a7 _=>items.length-(intOf a7).toNat);case atStart=>exact⟨0,xs++l0,by omega,rfl,by rw[List.length_append];omega,cg.out,ca.out,b8.out⟩
 case round=>
  obtain⟨j,zs,dd,rfl,dk,y⟩:=hrel;have K:Below w0.1.size w0 wr:=b9.out.trans (y.out.2.2.below a9.out bs);by_cases a4:j<items.length
  ·obtain⟨ds,a6,a3⟩:=cf.out j a4;obtain⟨bx,dn,b1,b0,bj,b4,b3,b2,bc,rfl,_,rfl,ci,cj,ck,cn,co⟩:=(a3.on K).lies;have de:(j:Int)<(items.length:Int):=(by omega);obtain⟨D,Q⟩:∃D,D=wr.alloc (.cells #[.int .i64 b1,.int .i64 b0,.float .f64 bj,.string b4,.slice b3 b2 bc] 38):=⟨_,rfl⟩;have ab:Hid (Below wr.1.size wr D):=(by rw[Q];exact gQy);have Y:Hid (D.cell? ⟨wr.1.size,0,none⟩=some (.int .i64 b1)∧D.cell? ⟨wr.1.size,1,none⟩=some (.int .i64 b0)∧D.cell? ⟨wr.1.size,2,none⟩=some (.float .f64 bj)∧D.cell? ⟨wr.1.size,3,none⟩=some (.string b4)∧D.cell? ⟨wr.1.size,4,none⟩=some (.slice b3 b2 bc)):=(by rw[Q];exact⟨by simp,by simp,by simp,by simp,by simp⟩);have M:=gQq (y.out.2.1.on ab.out);have a8:Hid (AsW R w D):=y.out.2.2.trans (AsW.new y.out.2.1.lt ab.out);obtain⟨T,q,cap,E,-,-,-,-⟩:=M.out.out;have dp:D.cell? ⟨R,1,none⟩=some (.slice q zs.length cap):=aa E 1;have dr:D.cell? ⟨R,2,none⟩=some (.int .i64 most):=aa E 2;have a0:=gQq Q;have L:=gQq (Sch.flatten_take Sch.vB items j a4);have ak:=gQq (Sch.flatten_take_le Sch.vB items j);have bb:=gQq (Sch.flatten_take_le Sch.vB items (j+1));by_cases J:most<zs.length
   ·have cq:most<(zs.length:Int):=J;have aj:Hid (iL most xs (l0++(items.map Sch.vB).flatten) zs):=by
     have c8:=ak.out;have ct:=y.out.1;have a5:=ct.len;rw[List.length_append] at a5;refine⟨.inr ⟨J,?_⟩,by rw[List.length_append];omega⟩;have:zs.length<=(xs++(l0++(items.map Sch.vB).flatten)).length:=(by rw[List.length_append,List.length_append];omega);omega
    clear a6 a3 K y Q Y J E L ak bb;go_wp2_with fail;rw[<-a0.out];go_region_law (fail)
    all_goals
     go_wp2;go_end0;exact⟨zs,aj.out,rfl,M.out.drew,a8.out.trans (AsW.new M.out.lt gQz.drew)⟩
   ·have cq:¬most<(zs.length:Int):=J;have a1:Hid (zs=xs++(l0++((items.take j).map Sch.vB).flatten)):=by
     rcases y.out.1.eq with a2 | a2
     ·exact a2
     ·exact absurd a2.1 J
    have bT:zs.length+(Sch.vB items[j]).length<=80000000000000:=by
     have E:=bb.out;rw[L.out,List.length_append] at E;rw[a1.out,List.length_append,List.length_append];omega
    have S:=gQq (cb.out _ (List.getElem_mem a4) w0 D.drew _ B R most zs a6 (K.trans (ab.out.drew.mono K.size)) bs M.out.drew bT);unfold cells5 at S;obtain⟨full,bp⟩:∃l,l=Sch.vB items[j]:=⟨_,rfl⟩;rw[<-bp] at S L bT;obtain⟨cv,cw,cx,cy,c5⟩:=Y.out;clear a6 a3 K y Q J bp E ak Y;go_wp2_with fail;rw[<-a0.out];clear a0 ci cj ck cn co;go_region_law (fail)
    all_goals
     go_wp2_with fail;refine S.out.mono ?_;rintro e b6 ⟨X,W,rfl,bO,bk⟩;have cc:Hid (iL most xs (l0++((items.take (j+1)).map Sch.vB).flatten) X∧Wtr b6 B R most X∧AsW R w b6):=by
      refine⟨?_,bO,(a8.out.trans (AsW.new M.out.lt gQz.drew)).trans bk⟩;have bi:xs++(l0++((items.take (j+1)).map Sch.vB).flatten)=zs++full:=(by rw[L.out,a1.out];simp);refine⟨by rw[bi];exact W.eq,?_⟩;have c9:=congrArg List.length bi;have da:(zs++full).length=zs.length+full.length:=List.length_append;have db:(xs++(l0++((items.take (j+1)).map Sch.vB).flatten)).length=xs.length+(l0++((items.take (j+1)).map Sch.vB).flatten).length:=List.length_append;have dc:=W.len;omega
     have cu:X.length<=80000000000000:=(by have:=W.len;omega);clear W bO bk S L a1 cv cw cx cy c5;go_wp2;go_roundw;case rel=>exact⟨j+1,X,by omega,by go_num,cu,cc.out⟩
     case measure=>simp[intOf];omega
  ·have df:¬(j:Int)<(items.length:Int):=(by omega);have aj:Hid (iL most xs (l0++(items.map Sch.vB).flatten) zs):=by
    have E:=y.out.1;rw[List.take_of_length_le (by omega)] at E;exact E
   have cd:=gQq y.out.2.1;have b7:=gQq y.out.2.2;clear y K;go_wp2;go_end0;exact⟨zs,aj.out,rfl,cd.out,b7.out⟩
end
end
section
open Go.RowKit
attribute [local go_sem] af
theorem dq(k:Nat)(f:FuncId)(a4:k<8)(Q:jD[k]?=some (.func (.func f) #[] #[]))(i:Int)(b:Nat)(t:ByteArray)(p:OA)(n c:Nat){w:World}{B R:Nat}{most:Int}{xs full:L8}(h:Wtr w B R most xs)(L:∀(args:AV) (w:World),(callFunc f args).run Tryz.prog w=.ok (.enter f args) w)(O:∀w',Below w.1.size w w'->Wtr w' B R most xs->Calls Tryz.prog f #[.pointer (some ⟨R,0,none⟩),.agg #[.int .i64 k,.int .i64 i,.float .f64 b,.string t,.slice p n c]] w' (WrA w' B R most xs full)):
    Calls Tryz.prog 198 #[.pointer (some ⟨R,0,none⟩),.agg #[.int .i64 k,.int .i64 i,.float .f64 b,.string t,.slice p n c]] w (WrA w B R most xs full):=by
  obtain⟨y,z⟩:∃y,y=w.alloc (.cells #[.int .i64 k,.int .i64 i,.float .f64 b,.string t,.slice p n c] 38):=⟨_,rfl⟩;have D:Hid (Below w.1.size w y):=by rw[z];exact gQy
  have ab:=h.lt;have ak:y.cell? ⟨w.1.size,0,none⟩=some (.int .i64 k):=by rw[z];simp
  have a0:y.cell? ⟨w.1.size,1,none⟩=some (.int .i64 i):=by rw[z];simp
  have a1:y.cell? ⟨w.1.size,2,none⟩=some (.float .f64 b):=by rw[z];simp
  have a2:y.cell? ⟨w.1.size,3,none⟩=some (.string t):=by rw[z];simp
  have a3:y.cell? ⟨w.1.size,4,none⟩=some (.slice p n c):=by rw[z];simp
  have E:=gQq (h.on D.out);obtain⟨T,q,cap,J,K,-,-,-⟩:=E.out.out;have c0:y.cell? ⟨R,0,none⟩=some (.slice (some ⟨T,0,none⟩) 8 8):=aa J 0;have aj:y.cell? ⟨T,k,none⟩=some (.func (.func f) #[] #[]):=(aa K k).trans Q;have a5:(k:Int)<8:=by omega
  have I:=gQq z;have W:=gQq O;have X:=gQq L;clear h z O L J K Q;go_enter Tryz.func198,Tryz.ntmps198;go_wp2_with fail;rw[<-I.out];clear I
  go_region_law (first|(refine iR (.tmp 11) (.tmp 12) (.tmp 13) 295 38 (by rfl) (by rfl) (by rfl) (by rfl) (by rfl) X.out (W.out _ D.out.drew E.out.drew) ?_;rintro e w1 ⟨ah,S,rfl,U,M⟩;refine⟨_,rfl,?_⟩;have Y:=gQq S;have Z:=gQq U;have V:=gQq M;clear S U M)|fail)
  all_goals
    go_end0;exact⟨ah,Y.out,rfl,Z.out,(AsW.new ab D.out.drew).trans V.out⟩
theorem xZ:∀(x:V) (d:Nat),chk d x=0->x.wf->yQ x:=by
 intro x;refine V.ind (P:=fun x=>∀(d:Nat),chk d x=0->x.wf->yQ x) ?_ x;rintro k i b t items aj d Q ab w0 w u B R most xs hx I Y D O;obtain⟨p,c,rfl,a8,a7,ah⟩:=hx.open;obtain⟨bb,a2,a1,bc,a3⟩:=V.wf_mk.1 ab;obtain⟨a5,X,Z,W,-,U⟩:=Sch.chk_open Q;obtain⟨a6,-,-,-,a9,ak,a0⟩:=Sch.own_open X;unfold cells5;have all:∀{w:World} {full:L8} {e:Ending} {w':World},(e=.returned (.tuple #[])∧Wtr w' B R most (xs++full)∧AsW R w w')->WrA w B R most xs full e w':=fun h=>⟨_,iL.all,h.1,h.2.1,h.2.2⟩;have S:k=1∨k=2∨k=3∨k=4∨k=5∨k=6∨k=7:=by omega
 have L:∀f:FuncId,f=238->k=4∨k=5->∀w,Wtr w B R most xs->Calls Tryz.prog f #[.pointer (some ⟨R,0,none⟩),.agg #[.int .i64 k,.int .i64 i,.float .f64 b,.string t,.slice p items.length c]] w (WrA w B R most xs (Sch.vB (.mk k i b t items))):=by
  rintro f rfl h w y;have e:Sch.vB (.mk k i b t items)=Leb.put t.size++t.data.toList:=by rw[Sch.vB_mk,Sch.vH,if_neg (by omega),if_neg (by omega),if_neg (by omega),if_pos h,if_pos (by omega),List.append_nil]
  rw[e];exact(oU y (by omega) k i b t Z p items.length c).mono fun _ _ h=>all h
 have M:∀f:FuncId,f=239->k=6∨k=7->∀w,Below w0.1.size w0 w->Wtr w B R most xs->Calls Tryz.prog f #[.pointer (some ⟨R,0,none⟩),.agg #[.int .i64 k,.int .i64 i,.float .f64 b,.string t,.slice p items.length c]] w (WrA w B R most xs (Sch.vB (.mk k i b t items))):=by
  rintro f rfl h w hb y;have e:Sch.vB (.mk k i b t items)=Leb.put items.length++(items.map Sch.vB).flatten:=by
   rw[Sch.vB_mk,Sch.vH,if_neg (by omega),if_neg (by omega),if_neg (by omega),if_neg (by omega),if_neg (c:=k=1∨k=2∨k=3∨k=4∨k=5) (by omega)];congr 1;rcases h with h | h
   ·rw[if_pos h];have a4:=a0 h;have E:items.length=0∨items.length=1:=(by omega);rcases E with E | E
    ·rw[E,xI];rfl
    ·rw[E,xH];rfl
   ·rw[if_neg (by omega),if_pos h]
  rw[e] at O ⊢;exact m7 y k i b t items W (fun K J=>aj K J (d+1) (U K J) (a3 K J)) p c w0 ah hb Y O
 rcases S with h | h | h | h | h | h | h
 ·have e:Sch.vB (.mk k i b t items)=[UInt8.ofNat i.toNat]:=by rw[Sch.vB_mk,Sch.vH,if_pos h,if_pos (.inl h),List.append_nil]
  rw[e];subst h;exact dq 1 235 (by omega) rfl i b t p items.length c D (enters Tryz.func235 (by kernel_rfl) rfl) (fun w' _ y=>(oV y (by omega) 1 i (ak rfl) b t p items.length c).mono fun _ _ h=>all h)
 ·have e:Sch.vB (.mk k i b t items)=Leb.put (Leb.zig i):=by rw[Sch.vB_mk,Sch.vH,if_neg (by omega),if_pos h,if_pos (.inr (.inl h)),List.append_nil]
  rw[e];subst h;exact dq 2 236 (by omega) rfl i b t p items.length c D (enters Tryz.func236 (by kernel_rfl) rfl) (fun w' _ y=>(rI y (by omega) 2 i a2 b t p items.length c).mono fun _ _ h=>all h)
 ·have e:Sch.vB (.mk k i b t items)=Sch.le 8 (ay b):=by rw[Sch.vB_mk,Sch.vH,if_neg (by omega),if_neg (by omega),if_pos h,if_pos (.inr (.inr (.inl h))),List.append_nil]
  rw[e];subst h;exact dq 3 237 (by omega) rfl i b t p items.length c D (enters Tryz.func237 (by kernel_rfl) rfl) (fun w' _ y=>(m8 y (by omega) 3 i b a1 t p items.length c).mono fun _ _ h=>all h)
 ·have z:=L _ rfl (.inl h);subst h;exact dq 4 238 (by omega) rfl i b t p items.length c D (enters Tryz.func238 (by kernel_rfl) rfl) (fun w' _ y=>z w' y)
 ·have z:=L _ rfl (.inr h);subst h;exact dq 5 238 (by omega) rfl i b t p items.length c D (enters Tryz.func238 (by kernel_rfl) rfl) (fun w' _ y=>z w' y)
 ·have z:=M _ rfl (.inl h);subst h;exact dq 6 239 (by omega) rfl i b t p items.length c D (enters Tryz.func239 (by kernel_rfl) rfl) (fun w' hb y=>z w' (I.trans (hb.mono I.size)) y)
 ·have z:=M _ rfl (.inr h);subst h;exact dq 7 239 (by omega) rfl i b t p items.length c D (enters Tryz.func239 (by kernel_rfl) rfl) (fun w' hb y=>z w' (I.trans (hb.mono I.size)) y)
end
end Go.Proofs.YtbahfgdbjgkklaaGreatDoor

import Derived.Test.YtngmnfdaedlodaaGreatDoorB16
import Derived.Test.YtngmnfdaedlodaaGreatDoorB15
set_option maxRecDepth 100000
set_option maxHeartbeats 1000000
namespace Go.Proofs.YtngmnfdaedlodaaGreatDoor
open Go.Proofs.Tryz
open Go.Value renaming slice->I,int->O,string->qj,float->sq,pointer->qq
open Option renaming none->U,some->Y
open Go.IntKind renaming i64->C
open Go renaming World->F,Calls->AB
open Go.Proofs.Tryz renaming prog->N
open Go.Obj renaming cells->wx
open Go.FloatKind renaming f64->ux
open Go.RowKit renaming Below->AC
open Go.Ending renaming returned->wv
variable{B R:Nat}{w w' w1:F}{l xs:L8}{u v:Value}{most:Int}{a:Act}{ops:Array Oper}{o:Oper}
section
open Go.RowKit
theorem ot{p:OA}{c:Nat}(ab:Has w B v xs)(h:At w p l)(V:xs.length+l.length<=140737488355328)(J:B<=w.1.size){ops:Array Oper}{o:Oper}{a:Act}{A:Act->F->Prop}{E:Exit->Act->F->Prop}{D:Prop}(s x:Operand)(aj:o.type=40)(S:o.guard=U)(Z:o.op=Op.call { callee:=Callee.builtin Builtin.append,args:=#[s,x],argTypes:=#[40,40] })(ai:a.eval s=v)(hx:a.eval x=I p l.length c)(K:∀q cap W y,Hid (y=xs++l)->bE w B v W (I q y.length cap) y->A (a.put o.dst (I q y.length cap)) W):
  if Region.wanted o (yielded ops a.tmps)=true then Oper.wp N o a w A E else D:=by
 have ak:Region.wanted o (yielded ops a.tmps)=true:=by simp[Region.wanted,S]
 rw[AG ak];obtain⟨q,cap,W,⟨ah⟩,X,L,-,M⟩:=eW B v xs l p c w ab h V J;unfold Oper.wp;have Q:(execOp a.eval o).run N w=.ok (.value (I q (xs++l).length cap)) W:=by
  simp only[execOp,Z,resolve,invoke,builtin];simp[ai,hx,aj,ah,Result.andThen]
 rw[Q];exact K q cap W (xs++l) (gQq rfl) ⟨X,L,M⟩
theorem iD{y:Act->F->Prop}{J:Exit->Act->F->Prop}{E:Prop}{f:FuncId}{R:Ending->F->Prop}(D x A:Operand)(t t':TypeId)(S:o.guard=U)(X:o.op=Op.call { callee:=.value D,args:=#[x,A],argTypes:=#[t,t'] })(ai:a.eval D=.func (.func f) #[] #[])(hx:a.eval x=u)(ah:a.eval A=v)(K:∀(args:AV) (w:F),(callFunc f args).run N w=.ok (.enter f args) w)(M:AB N f #[u,v] w R)(L:∀e w',R e w'->∃v,e=wv v∧y (a.put o.dst v) w'):
  if Region.wanted o (yielded ops a.tmps)=true then Oper.wp N o a w y J else E:=by
 have ab:Region.wanted o (yielded ops a.tmps)=true:=by simp[Region.wanted,S]
 rw[AG ab];unfold Oper.wp;have Q:(execOp a.eval o).run N w=.ok (.enter f #[u,v]) w:=by
  simp[execOp,X,resolve,invoke,hx,ah,ai,Deferred.ofValue,K]
 rw[Q,Oper.upon_enter];refine M.mono ?_;intro e w' Z;obtain⟨v,rfl,V⟩:=L e w' Z;exact V
theorem lm{y:Act->F->Prop}{A:Exit->Act->F->Prop}{J:Prop}{f:FuncId}{R:Ending->F->Prop}(E x D:Operand)(t t':TypeId)(S:o.guard=U)(X:o.op=Op.call { callee:=.value E,args:=#[x,D],argTypes:=#[t,t'] })(ai:a.eval E=.func (.func f) #[] #[])(hx:a.eval x=u)(ah:a.eval D=v)(K:∀(args:AV) (w:F),(callFunc f args).run N w=.ok (.enter f args) w)(M:AB N f #[u,v] w R)(L:∀e w',R e w'->∃ch,e=.panicked ch∧A (.panic ch) a w')(v':Value)(_:Hid False->y (a.put o.dst v') w):
  if Region.wanted o (yielded ops a.tmps)=true then Oper.wp N o a w y A else J:=by
 have ab:Region.wanted o (yielded ops a.tmps)=true:=by simp[Region.wanted,S]
 rw[AG ab];unfold Oper.wp;have Q:(execOp a.eval o).run N w=.ok (.enter f #[u,v]) w:=by
  simp[execOp,X,resolve,invoke,hx,ah,ai,Deferred.ofValue,K]
 rw[Q,Oper.upon_enter];refine M.mono ?_;intro e w' Z;obtain⟨v,rfl,V⟩:=L e w' Z;exact V
theorem enters{f:FuncId}{fn:Func}{code:Code}(A : Tryz.prog.funcs[f]?=Y fn)(D : (fn.name== "runtime.NumGoroutine")=false)(hb : fn.body=Y code)(args : AV)(w : F): (callFunc f args).run N w=.ok (.enter f args) w := by
 have y : fn.name≠ "runtime.NumGoroutine" := by simpa using D
 simp[callFunc,A,y,hb]
def jh:AV:=#[.nilFunc,.func (.func 188) #[] #[],.func (.func 189) #[] #[],.func (.func 190) #[] #[],.func (.func 191) #[] #[],.func (.func 191) #[] #[],.func (.func 192) #[] #[],.func (.func 192) #[] #[]]
structure Wtr(w:F)(B R:Nat)(most:Int)(l:L8):Prop where
 out:∃T q cap,w.1[R]?=Y (wx #[I (Y ⟨T,0,U⟩) 8 8,I q l.length cap,O C most] 269 (0,0))∧w.1[T]?=Y (wx jh 288 (0,0))∧Has w B (I q l.length cap) l∧T≠R∧T<B
 low:R<B
 base:B<=w.1.size
theorem Wtr.on(h:Wtr w B R most l)(hb:AC w.1.size w w'):Wtr w' B R most l:=by
 obtain⟨T,q,cap,y,A,D,E,J⟩:=h.out;exact⟨⟨T,q,cap,by rw[hb.block R (ap y)];exact y,by rw[hb.block T (ap A)];exact A,D.on hb,E,J⟩,h.low,AT h.base hb.size⟩
theorem Wtr.lt(h:Wtr w B R most l):R<w.1.size:=AS h.low h.base
def mX(w:F)(R k:Nat):Prop:=∃t v m,w.1[R]?=Y (wx #[t,v,m] 269 (0,0))∧v.ownBlock=Y k
theorem kF(h:w'.1[R]?=w.1[R]?)(k:Nat):mX w' R k↔mX w R k:=by unfold mX;rw[h]
theorem qh{k:Nat}{t m:Value}(h:w.1[R]?=Y (wx #[t,v,m] 269 (0,0)))(D:mX w R k):v.ownBlock=Y k:=by
 obtain⟨t',v',E,y,A⟩:=D;rw[h] at y;injection y with y;injection y with y;simp only[Array.mk.injEq,List.cons.injEq,and_true] at y;rw[y.2.1];exact A
theorem Wtr.owns(h:Wtr w B R most l){k:Nat}(D:mX w R k):B<=k∧k<w.1.size:=by
 obtain⟨T,q,cap,y,E,A,J,K⟩:=h.out;exact A.lt k (qh y D)
structure AsW(R:Nat)(w w':F):Prop where
 aside:Aside (fun k=>k=R∨mX w R k) w w'
 fresh:∀k,mX w' R k->mX w R k∨w.1.size<=k
theorem AsW.trans{E:F}(h:AsW R w w1)(k:AsW R w1 E):AsW R w E:=by
 have K:=h.aside.size;refine⟨h.aside.trans k.aside (fun i D J=>?_),fun i D=>?_⟩
 ·rcases J with y | y
  ·exact .inl y
  ·rcases h.fresh i y with A | A
   ·exact .inr A
   ·omega
 ·rcases k.fresh i D with y | y
  ·exact h.fresh i y
  ·exact .inr (by omega)
theorem AsW.new(y:R<w.1.size)(h:AC w.1.size w w1):AsW R w w1:=⟨af h _,fun k A=>.inl ((kF (h.block R y) k).1 A)⟩
theorem AsW.below{A:Nat}(h:AsW R w w1)(y:Wtr w B R most l)(L:A<=R):AC A w w1:=by
 have J:=y.low;have K:=y.base;exact h.aside.below (by omega) (fun k M E=>by
  rcases E with D | D
  ·omega
  ·have:=(y.owns D).1;omega)
theorem AsW.far{y:F}(h:AsW R y w1)(D:Wtr w B R most l)(hb:AC w.1.size w y){k:Nat}(L:w.1.size<=k)(E:k<y.1.size):w1.1[k]?=y.1[k]?:=by
 have J:=D.lt;refine h.aside.block k E (fun K=>?_);rcases K with A | A
 ·omega
 ·have:=(D.owns ((kF (hb.block R J) k).1 A)).2;omega
theorem Wtr.more{T:Nat}{q D:OA}{cap A:Nat}{y:L8}(h:Wtr w B R most l)(L:w.1[R]?=Y (wx #[I (Y ⟨T,0,U⟩) 8 8,I q l.length cap,O C most] 269 (0,0)))(aj:w.1[T]?=Y (wx jh 288 (0,0)))(V:T≠R)(X:T<B)(ak:Has w B (I q l.length cap) l)(E:bE w B (I q l.length cap) w1 (I D y.length A) y):
  w1.1[R]?=Y (wx #[I (Y ⟨T,0,U⟩) 8 8,I q l.length cap,O C most] 269 (0,0))∧Wtr (w1.setCell ⟨R,1,U⟩ (I D y.length A)) B R most y∧AsW R w (w1.setCell ⟨R,1,U⟩ (I D y.length A)):=by
 have ab:=h.low;have a0:=h.base;have aw:=ak.lt;have ah:∀k,k<B->w1.1[k]?=w.1[k]?:=fun k J=>E.aside.block k (by omega) (fun Q=>by have:=(aw k Q).1;omega);have S:w1.1[R]?=Y (wx #[I (Y ⟨T,0,U⟩) 8 8,I q l.length cap,O C most] 269 (0,0)):=(ah R ab).trans L;have K:Aside (fun i=>i=R) w1 (w1.setCell ⟨R,1,U⟩ (I D y.length A)):=am _ _ _ _;have a1:=E.aside.size;have a2:=K.size;refine⟨S,⟨⟨T,D,A,by rw[ao S 1];rfl,?_,?_,V,X⟩,ab,by omega⟩,?_⟩
 ·rw[K.block T (by omega) V,ah T X];exact aj
 ·exact E.has.aside K (fun k J Z=>by have:=(E.has.lt k J).1;omega)
 ·refine⟨Aside.trans (Aside.mono E.aside (fun k J Q=>.inr ⟨_,_,_,L,Q⟩)) K (fun k J Z=>.inl Z),fun k J=>?_⟩;have ai:(w1.setCell ⟨R,1,U⟩ (I D y.length A)).1[R]?=Y (wx #[I (Y ⟨T,0,U⟩) 8 8,I D y.length A,O C most] 269 (0,0)):=by rw[ao S 1];rfl
  rcases E.fresh k (qh ai J) with M | M
  ·exact .inl ⟨_,_,_,L,M⟩
  ·exact .inr M
structure iw(most:Int)(xs full ys:L8):Prop where
 eq:ys=xs++full∨(most<ys.length∧most<(xs++full).length)
 len:ys.length<=xs.length+full.length
theorem iw.all{full:L8}:iw most xs full (xs++full):=⟨.inl rfl,by rw[AH];omega⟩
def WrA(w:F)(B R:Nat)(most:Int)(xs full:L8)(e:Ending)(w':F):Prop:=∃ys,iw most xs full ys∧e=wv (.tuple #[])∧Wtr w' B R most ys∧AsW R w w'
theorem li(w:F):AB N 168 #[] w fun e w'=>e=wv (I (Y ⟨w.1.size,0,U⟩) 8 8)∧w'=w.alloc (wx jh 288):=by
 go_enter func168,ntmps168;go_wp2_with fail;go_ret;exact⟨rfl,rfl⟩
theorem Wtr.drew(h:Wtr w B R most l):Wtr w.drew B R most l:=h.on (gQz.drew)
theorem qM(w:F)(most:Int):Wtr ((w.alloc (wx jh 288)).alloc (wx #[I (Y ⟨w.1.size,0,U⟩) 8 8,I U 0 0,O C most] 269)) (w.1.size+2) (w.1.size+1) most []:=by
 refine⟨⟨w.1.size,U,0,?_,?_,bG _ _,by omega,by omega⟩,by omega,by simp⟩
 ·have:=an (w.alloc (wx jh 288)) (wx #[I (Y ⟨w.1.size,0,U⟩) 8 8,I U 0 0,O C most] 269);simpa using this
 ·rw[ay _ _ (by simp)];exact an w _
end
section
open Go.RowKit
attribute [local go_sem] al
theorem ly(n:Nat)(a2:n<18446744073709551616)(xs:L8)(hx:xs.length<=100000000000000)(B R:Nat)(most:Int)(w:F)(h:Wtr w B R most xs):AB N 202 #[qq (Y ⟨R,0,U⟩),O .u64 n] w fun e w'=>e=wv (.tuple #[])∧Wtr w' B R most (xs++Leb.put n)∧AsW R w w':=by
  have L:=gQq (dA n a2);have a3:=Leb.put_length_le n;obtain⟨K,V⟩:∃K,K=Leb.put n:=⟨_,rfl⟩;rw[<-V] at L a3 ⊢;obtain⟨T,q,cap,E,M,Q,aw,a0⟩:=h.out;have c1:w.cell? ⟨R,1,U⟩=Y (I q xs.length cap):=aa E 1;have ah:=gQq h;have Z:=gQq E;have ab:=gQq M;have A:=gQq Q;have a1:=h.base;clear V h E M Q;go_enter func202,ntmps202;go_wp2_with fail
  go_region_law (first|(refine oA (.tmp 9) 160 (by rfl) (by rfl) (by rfl) func86 (by kernel_rfl) (by rfl) (L.out _) ?_;rintro e w1 ⟨g,a4,rfl,X,hb⟩;refine⟨_,rfl,?_⟩;have J:AC w.1.size w w1:=⟨hb.os,hb.tape,hb.output,hb.size,hb.block⟩;have a6:w1.cell? ⟨R,1,U⟩=Y (I q xs.length cap):=ae J c1;have ai:=gQq X;have D:=gQq J;clear X hb J)|(refine ot (B:=B) (xs:=xs) (l:=K) (A.out.on D.out) ai.out.at (by omega) (AT a1 D.out.size) (.tmp 8) (.tmp 10) (by rfl) (by rfl) (by rfl) (by rfl) (by rfl) ?_;intro a8 a5 W a9 ak S;have y:=ah.out.more Z.out ab.out aw a0 A.out (S.from D.out A.out);have a7:W.cell? ⟨R,1,U⟩=Y (I q xs.length cap):=aa y.1 1;have f1:W.frozen? ⟨R,1,U⟩=false:=ac y.1 1;have aj:=gQq y.2;clear y S)|fail)
  all_goals
    go_end0;rw[<-ak.out];exact⟨rfl,aj.out⟩
section
variable {w:F} {B R:Nat} {most:Int} {xs:L8} (h:Wtr w B R most xs) (hx:xs.length<=90000000000000)
include h hx
theorem nZ(k i:Int)(ah:i=0∨i=1)(b:Nat)(t:ByteArray)(p:OA)(n c:Nat):AB N 188 #[qq (Y ⟨R,0,U⟩),.agg #[O C k,O C i,sq ux b,qj t,I p n c]] w fun e w'=>e=wv (.tuple #[])∧Wtr w' B R most (xs++[UInt8.ofNat i.toNat])∧AsW R w w':=by
  obtain⟨c0,L⟩:∃c0,c0=UInt8.ofNat i.toNat:=⟨_,rfl⟩;have ai:i=(c0.toNat:Int):=by rw[L,UInt8.toNat_ofNat'];omega
  have a0:Hid (IntKind.u8.wrap i=(c0.toNat:Int)):=by
    show _=_;rw[<-ai];rcases ah with rfl | rfl <;> rfl
  rw[<-L];obtain⟨y,D⟩:∃y,y=w.alloc (wx #[O C k,O C i,sq ux b,qj t,I p n c] 102):=⟨_,rfl⟩;have Q:Hid (AC w.1.size w y):=by rw[D];exact gQy
  have a7:y.1.size=w.1.size+1:=by rw[D];simp
  have bb:y.cell? ⟨w.1.size,1,U⟩=Y (O C i):=by rw[D];simp
  have V:=gQq D;have J:=gQq (h.on Q.out);obtain⟨T,q,cap,K,X,Z,a3,a4⟩:=J.out.out;have c1:y.cell? ⟨R,1,U⟩=Y (I q xs.length cap):=aa K 1;have a9:∀o,(y.alloc o).cell? ⟨R,1,U⟩=Y (I q xs.length cap):=fun o=>ae gQy c1;have ak:=gQq K;have aw:=gQq X;have M:=gQq Z;have a5:=J.out.base;have a6:=h.lt;clear h K X Z ai L ah D;go_enter func188,ntmps188;go_wp2_with fail;rw[<-V.out];clear V
  go_region_law (first|(refine jj (B:=B) (xs:=xs) (v:=I q xs.length cap) (w:=y.drew) (H:=w.1.size+1) (by exact a7) M.out.drew c0 (by omega) a5 (.tmp 8) (.tmp 12) a0.out (by rfl) (by rfl) (by rfl) (by rfl) (by rfl) ?_;intro a8 a2 W aj a1 A;have ab:bE y B (I q xs.length cap) W (I a8 aj.length a2) aj:=⟨A.has,⟨A.aside.os,A.aside.tape,A.aside.output,A.aside.size,A.aside.block⟩,A.fresh⟩;have E:=J.out.more ak.out aw.out a3 a4 M.out ab;have bc:W.cell? ⟨R,1,U⟩=Y (I q xs.length cap):=aa E.1 1;have f1:W.frozen? ⟨R,1,U⟩=false:=ac E.1 1;have S:=gQq E.2;clear E A ab)|fail)
  all_goals
    go_end0;rw[<-a1.out];exact⟨rfl,S.out.1,(AsW.new a6 Q.out).trans S.out.2⟩
end
end
section
open Go.RowKit
attribute [local go_sem] al
theorem om{t:ByteArray}(ab:Has w B v xs)(V:xs.length+t.size<=140737488355328)(J:B<=w.1.size){ops:Array Oper}{o:Oper}{a:Act}{A:Act->F->Prop}{E:Exit->Act->F->Prop}{D:Prop}(s x:Operand)(aj:o.type=40)(S:o.guard=U)(Z:o.op=Op.call { callee:=Callee.builtin Builtin.append,args:=#[s,x],argTypes:=#[40,9] })(ai:a.eval s=v)(hx:a.eval x=qj t)(K:∀q cap W y,Hid (y=xs++t.data.toList)->bE w B v W (I q y.length cap) y->A (a.put o.dst (I q y.length cap)) W):
  if Region.wanted o (yielded ops a.tmps)=true then Oper.wp N o a w A E else D:=by
 have ak:Region.wanted o (yielded ops a.tmps)=true:=by simp[Region.wanted,S]
 rw[AG ak];obtain⟨q,cap,W,⟨ah⟩,X,L,M⟩:=m7 B v xs t w ab V J;unfold Oper.wp;have Q:(execOp a.eval o).run N w=.ok (.value (I q (xs++t.data.toList).length cap)) W:=by
  simp only[execOp,Z,resolve,invoke,builtin];simp[ai,hx,aj,ah,Result.andThen]
 rw[Q];exact K q cap W (xs++t.data.toList) (gQq rfl) ⟨X,L,M⟩
section
variable {w:F} {B R:Nat} {most:Int} {xs:L8} (h:Wtr w B R most xs) (hx:xs.length<=90000000000000)
include h hx
theorem qN(k i:Int)(E:-9223372036854775808<=i∧i<=9223372036854775807)(b:Nat)(t:ByteArray)(p:OA)(n c:Nat):AB N 189 #[qq (Y ⟨R,0,U⟩),.agg #[O C k,O C i,sq ux b,qj t,I p n c]] w fun e w'=>e=wv (.tuple #[])∧Wtr w' B R most (xs++Leb.put (Leb.zig i))∧AsW R w w':=by
 have S:Leb.zig i<18446744073709551616:=by unfold Leb.zig;split <;> omega
 have K:=gQq (pT i E.1 E.2);obtain⟨y,D⟩:∃y,y=w.alloc (wx #[O C k,O C i,sq ux b,qj t,I p n c] 102):=⟨_,rfl⟩;have J:Hid (AC w.1.size w y):=by rw[D];exact gQy
 have A:=gQq (ly (Leb.zig i) S xs (by omega) B R most y (h.on J.out));obtain⟨z,V⟩:∃z,z=Leb.zig i:=⟨_,rfl⟩;rw[<-V] at K A ⊢;have ab:=gQq D;have ah:=h.lt;clear E S h V D;go_enter func189,ntmps189;go_wp2_with fail;refine(K.out _).mono ?_;rintro e w1 ⟨rfl,Q⟩;rw[Q];clear Q w1;go_wp2_with fail;rw[<-ab.out];refine A.out.mono ?_;rintro e ai ⟨rfl,L,M⟩;have X:=gQq L;have Z:=gQq M;clear L M A;go_wp2;go_end0;exact⟨rfl,X.out,(AsW.new ah J.out).trans Z.out⟩
theorem nY(k i:Int)(b:Nat)(t:ByteArray)(bs:t.size<=1024)(p:OA)(n c:Nat):AB N 191 #[qq (Y ⟨R,0,U⟩),.agg #[O C k,O C i,sq ux b,qj t,I p n c]] w fun e w'=>e=wv (.tuple #[])∧Wtr w' B R most (xs++(Leb.put t.size++t.data.toList))∧AsW R w w':=by
  obtain⟨D,E⟩:∃D,D=w.alloc (wx #[O C k,O C i,sq ux b,qj t,I p n c] 102):=⟨_,rfl⟩;have S:Hid (AC w.1.size w D):=by rw[E];exact gQy
  have bj:=h.lt;have aj:=gQq h;have aw:D.cell? ⟨w.1.size,3,U⟩=Y (qj t):=by rw[E];simp
  have bq:D.1.size=w.1.size+1:=by rw[E];simp
  have V:=gQq (ly t.size (by omega) xs (by omega) B R most D (h.on S.out));have bk:=Leb.put_length_le t.size;obtain⟨ab,a3⟩:∃z,z=Leb.put t.size:=⟨_,rfl⟩;rw[<-a3] at V bk ⊢;have bv:(t.size:Int)<=1024:=by omega
  have a7:=gQq E;clear h a3 E;go_enter func191,ntmps191;go_wp2_with fail;rw[<-a7.out];refine V.out.mono ?_;rintro e M ⟨rfl,K,Z⟩;have ai:=gQq K;have a6:=gQq Z;obtain⟨T,q,cap,X,a0,a1,bc,be⟩:=K.out;have c1:M.cell? ⟨R,1,U⟩=Y (I q (xs++ab).length cap):=aa X 1;have bp:M.cell? ⟨w.1.size,3,U⟩=Y (qj t):=by
    rw[World.cell?_of_block (w:=D) (Z.far aj.out S.out gQx (by show w.1.size<_;omega))];exact aw
  have ah:=gQq X;have a5:=gQq a0;have Q:=gQq a1;have bi:=K.base;obtain⟨A,L⟩:∃A,A=xs++ab:=⟨_,rfl⟩;have bN:A.length<=xs.length+10:=by rw[L,AH];omega
  have a9:Hid (xs++(ab++t.data.toList)=A++t.data.toList):=by show _=_;rw[L,AN]
  rw[<-L] at c1 ah Q ai;clear K Z X a0 a1 V aw aj L;go_wp2_with fail
  go_region_law (first|(refine om (B:=B) (xs:=A) (t:=t) (v:=I q A.length cap) (w:=M.drew) Q.out.drew (by omega) bi (.tmp 14) (.tmp 16) (by rfl) (by rfl) (by rfl) (by rfl) (by rfl) ?_;intro bl bb W a4 a8 y;have a2:bE M B (I q A.length cap) W (I bl a4.length bb) a4:=⟨y.has,⟨y.aside.os,y.aside.tape,y.aside.output,y.aside.size,y.aside.block⟩,y.fresh⟩;have J:=ai.out.more ah.out a5.out bc be Q.out a2;have bn:W.cell? ⟨R,1,U⟩=Y (I q A.length cap):=aa J.1 1;have f1:W.frozen? ⟨R,1,U⟩=false:=ac J.1 1;have ak:=gQq J.2;clear J y a2)|fail)
  all_goals
    go_end0;rw[a9.out,<-a8.out];exact⟨rfl,ak.out.1,((AsW.new bj S.out).trans a6.out).trans ak.out.2⟩
theorem mp(k i:Int)(b:Nat)(a1:b<18446744073709551616)(t:ByteArray)(p:OA)(n c:Nat):AB N 190 #[qq (Y ⟨R,0,U⟩),.agg #[O C k,O C i,sq ux b,qj t,I p n c]] w fun e w'=>e=wv (.tuple #[])∧Wtr w' B R most (xs++Sch.le 8 (aH b))∧AsW R w w':=by
  obtain⟨E,M⟩:∃E,E=w.alloc (wx #[O C k,O C i,sq ux b,qj t,I p n c] 102):=⟨_,rfl⟩;have X:Hid (AC w.1.size w E):=by rw[M];exact gQy
  have a4:=Sch.fixB_lt a1;have bb:=gQq (cN b);generalize aH b=m at *
  have ai:Hid (lh m [] m):=⟨by simp,a4,rfl⟩;have Z:=gQq (h.on X.out);have bp:=h.lt;have aj:=gQq M;clear a4 a1 h M;go_enter func190,ntmps190;go_wp2_with fail;refine(bb.out _).mono ?_;rintro e w1 ⟨rfl,a6⟩;rw[a6];clear a6 w1;go_wp2_with fail;rw[<-aj.out];clear aj;go_loopw [4,8] (fun bs Q wr=>∃(n:Nat) (es:L8),bs=O .u64 n∧Q=O C es.length∧es.length<=8∧n<18446744073709551616∧Hid (lh m es n∧Wtr wr B R most (xs++es)∧AsW R E wr)) (fun _ Q _=>8-(intOf Q).toNat);case atStart=>exact⟨m,[],rfl,rfl,by simp,ai.out.2.1,ai.out,by rw[Az];exact Z.out,AsW.new Z.out.lt gQz⟩
  case round=>
    obtain⟨z,es,rfl,rfl,bO,b0,A⟩:=hrel;obtain⟨y,K⟩:∃y,y=xs++es:=⟨_,rfl⟩;have a7:y.length=xs.length+es.length:=(by rw[K,AH]);have ak:=gQq K;have D:=gQq A.out.2.1;have V:=gQq A.out.2.2;rw[<-K] at D;clear K;by_cases bq:es.length<8
    · have bX:(es.length:Int)<8:=(by omega);have ah:=gQq (jF A.out.1 bq);have a2:(UInt8.ofNat (z % 256)).toNat=z % 256:=(by rw[UInt8.toNat_ofNat'];omega);generalize UInt8.ofNat (z % 256)=c1 at a2 ah;obtain⟨T,q,cap,L,aw,a0,bk,bl⟩:=D.out.out;have b2:wr.cell? ⟨R,1,U⟩=Y (I q y.length cap):=aa L 1;have a8:=gQq L;have a9:=gQq aw;have S:=gQq a0;have bn:=D.out.base;have bj:Hid ((z:Int) % 256=(c1.toNat:Int)):=by
        show _=_;omega
      have bi:=gQq a7;clear A L aw a0 a2 a7
      go_wp2_with (first|(at_builtin;refine gj (B:=B) (xs:=y) (v:=I q y.length cap) (w:=wr) rfl S.out c1 (by have:=bi.out;omega) bn bj.out rfl rfl rfl rfl rfl ?_;intro b1 bv W b3 be a5;have J:=D.out.more a8.out a9.out bk bl S.out a5;have bN:W.cell? ⟨R,1,U⟩=Y (I q y.length cap):=aa J.1 1;have f1:W.frozen? ⟨R,1,U⟩=false:=ac J.1 1;have ab:=gQq J.2;clear J a5))
      go_roundw;case rel=>exact⟨z / 256,es++[c1],by go_num,by simp,by simp;omega,by omega,ah.out,by rw[<-AN,<-ak.out,<-be.out];exact ab.out.1,V.out.trans ab.out.2⟩
      case measure=>simp[intOf];omega
    · have bT:¬(es.length:Int)<8:=(by omega);have a3:Sch.le 8 m=es:=by
        rw[A.out.1.2.2,show 8-es.length=0 by omega];simp[Sch.le]
      have bc:Hid (xs++Sch.le 8 m=y):=(by show _=_;rw[a3,ak.out]);clear A a3;go_wp2;go_end0;rw[bc.out];exact⟨rfl,D.out,(AsW.new bp X.out).trans V.out⟩
end
end
section
open Go.RowKit
attribute [local go_sem] al
def yT(x:V):Prop:=∀(w0 w:F) (u:AV) (B R:Nat) (most:Int) (xs:L8),aK w0 u x->AC w0.1.size w0 w->w0.1.size<=R->Wtr w B R most xs->xs.length+(Sch.vB x).length<=80000000000000->AB N 170 #[qq (Y ⟨R,0,U⟩),.agg u] w (WrA w B R most xs (Sch.vB x))
section
variable {w:F} {B R:Nat} {most:Int} {xs:L8} (h:Wtr w B R most xs)
include h
theorem mm(k i:Int)(b:Nat)(t:ByteArray)(items:List V)(d5:items.length<=256)(b1:∀x∈items,yT x)(p:OA)(c:Nat)(w0:F)(hx:fN w0 p items)(bq:AC w0.1.size w0 w)(bO:w0.1.size<=R)(bN:xs.length+(Leb.put items.length++(items.map Sch.vB).flatten).length<=80000000000000):
  AB N 192 #[qq (Y ⟨R,0,U⟩),.agg #[O C k,O C i,sq ux b,qj t,I p items.length c]] w (WrA w B R most xs (Leb.put items.length++(items.map Sch.vB).flatten)):=by
 obtain⟨J,S⟩:∃J,J=w.alloc (wx #[O C k,O C i,sq ux b,qj t,I p items.length c] 102):=⟨_,rfl⟩;have ak:Hid (AC w.1.size w J):=by rw[S];exact gQy
 have cx:=h.lt;have be:=gQq h;have cc:=gQq bq;have cy:xs.length+((Leb.put items.length).length+(items.map Sch.vB).flatten.length)<=80000000000000:=by rw[<-AH];exact bN
 have bk:J.cell? ⟨w.1.size,4,U⟩=Y (I p items.length c):=by rw[S];simp
 have d6:J.1.size=w.1.size+1:=by rw[S];simp
 have a0:=gQq (ly items.length (by omega) xs (by omega) B R most J (h.on ak.out));have a8:=Leb.put_length_le items.length;obtain⟨A,bv⟩:∃z,z=Leb.put items.length:=⟨_,rfl⟩;rw[<-bv] at a0 a8 cy ⊢;have d7:(items.length:Int)<=256:=by omega
 have cn:=gQq S;have co:=gQq hx;have ci:=gQq b1;clear h bv S bN bq hx b1;go_enter func192,ntmps192;go_wp2_with fail;rw[<-cn.out];refine a0.out.mono ?_;rintro e b7 ⟨rfl,bT,ab⟩;have cd:=gQq bT;have dr:=gQq ab;have cv:b7.cell? ⟨w.1.size,4,U⟩=Y (I p items.length c):=by
  rw[World.cell?_of_block (w:=J) (ab.far be.out ak.out gQx (by show w.1.size<_;omega))];exact bk
 have cb:Hid (AsW R w b7):=(AsW.new cx ak.out).trans ab;have cp:Hid (iw most xs (A++((items.take 0).map Sch.vB).flatten) (xs++A)):=by
  show iw _ _ _ _;rw[List.take_zero,List.map_nil,List.flatten_nil,Az];exact iw.all
 clear bT ab a0 bk;go_wp2_with fail;clear cv;go_loopw [15] (fun bb wr=>∃(j:Nat) (zs:L8),j<=items.length∧bb=O C j∧zs.length<=80000000000000∧Hid (iw most xs (A++((items.take j).map Sch.vB).flatten) zs∧Wtr wr B R most zs∧AsW R w wr)) (fun bb _=>items.length-(intOf bb).toNat);case atStart=>exact⟨0,xs++A,by omega,rfl,by rw[AH];omega,cp.out,cd.out,cb.out⟩
 case round=>
  obtain⟨j,zs,d2,rfl,d8,y⟩:=hrel;have L:AC w0.1.size w0 wr:=cc.out.trans (y.out.2.2.below be.out bO);by_cases a7:j<items.length
  ·obtain⟨ec,a9,a6⟩:=co.out j a7;obtain⟨bx,d9,b3,b2,bn,b6,b5,b4,bj,rfl,_,rfl,cq,cr,cs,ct,cu⟩:=(a6.on L).lies;have d3:(j:Int)<(items.length:Int):=(by omega);obtain⟨D,X⟩:∃D,D=wr.alloc (wx #[O C b3,O C b2,sq ux bn,qj b6,I b5 b4 bj] 102):=⟨_,rfl⟩;have aw:Hid (AC wr.1.size wr D):=(by rw[X];exact gQy);have aj:Hid (D.cell? ⟨wr.1.size,0,U⟩=Y (O C b3)∧D.cell? ⟨wr.1.size,1,U⟩=Y (O C b2)∧D.cell? ⟨wr.1.size,2,U⟩=Y (sq ux bn)∧D.cell? ⟨wr.1.size,3,U⟩=Y (qj b6)∧D.cell? ⟨wr.1.size,4,U⟩=Y (I b5 b4 bj)):=(by rw[X];exact⟨by simp,by simp,by simp,by simp,by simp⟩);have Q:=gQq (y.out.2.1.on aw.out);have bc:Hid (AsW R w D):=y.out.2.2.trans (AsW.new y.out.2.1.lt aw.out);obtain⟨T,q,cap,E,-,-,-,-⟩:=Q.out.out;have ea:D.cell? ⟨R,1,U⟩=Y (I q zs.length cap):=aa E 1;have eb:D.cell? ⟨R,2,U⟩=Y (O C most):=aa E 2;have a3:=gQq X;have M:=gQq (Sch.flatten_take Sch.vB items j a7);have a2:=gQq (Sch.flatten_take_le Sch.vB items j);have bi:=gQq (Sch.flatten_take_le Sch.vB items (j+1));by_cases K:most<zs.length
   ·have cw:most<(zs.length:Int):=K;have a1:Hid (iw most xs (A++(items.map Sch.vB).flatten) zs):=by
     have ds:=a2.out;have c5:=y.out.1;have a8:=c5.len;rw[AH] at a8;refine⟨.inr ⟨K,?_⟩,by rw[AH];omega⟩;have:zs.length<=(xs++(A++(items.map Sch.vB).flatten)).length:=(by rw[AH,AH];omega);omega
    clear a9 a6 L y X aj K E M a2 bi;go_wp2_with fail;rw[<-a3.out];go_region_law (fail)
    all_goals
     go_wp2;go_end0;exact⟨zs,a1.out,rfl,Q.out.drew,bc.out.trans (AsW.new Q.out.lt gQz.drew)⟩
   ·have cw:¬most<(zs.length:Int):=K;have a4:Hid (zs=xs++(A++((items.take j).map Sch.vB).flatten)):=by
     rcases y.out.1.eq with a5 | a5
     ·exact a5
     ·exact absurd a5.1 K
    have b0:zs.length+(Sch.vB items[j]).length<=80000000000000:=by
     have E:=bi.out;rw[M.out,AH] at E;rw[a4.out,AH,AH];omega
    have Z:=gQq (ci.out _ (Aw a7) w0 D.drew _ B R most zs a9 (L.trans (aw.out.drew.mono L.size)) bO Q.out.drew b0);unfold cells5 at Z;obtain⟨full,bs⟩:∃l,l=Sch.vB items[j]:=⟨_,rfl⟩;rw[<-bs] at Z M b0;obtain⟨c7,c8,c9,df,dj⟩:=aj.out;clear a9 a6 L y X K bs E a2 aj;go_wp2_with fail;rw[<-a3.out];clear a3 cq cr cs ct cu;go_region_law (fail)
    all_goals
     go_wp2_with fail;refine Z.out.mono ?_;rintro e b8 ⟨ai,ah,rfl,bX,bp⟩;have cj:Hid (iw most xs (A++((items.take (j+1)).map Sch.vB).flatten) ai∧Wtr b8 B R most ai∧AsW R w b8):=by
      refine⟨?_,bX,(bc.out.trans (AsW.new Q.out.lt gQz.drew)).trans bp⟩;have bl:xs++(A++((items.take (j+1)).map Sch.vB).flatten)=zs++full:=(by rw[M.out,a4.out];simp);refine⟨by rw[bl];exact ah.eq,?_⟩;have du:=congrArg List.length bl;have dv:(zs++full).length=zs.length+full.length:=AH;have d0:(xs++(A++((items.take (j+1)).map Sch.vB).flatten)).length=xs.length+(A++((items.take (j+1)).map Sch.vB).flatten).length:=AH;have d1:=ah.len;omega
     have c6:ai.length<=80000000000000:=(by have:=ah.len;omega);clear ah bX bp Z M a4 c7 c8 c9 df dj;go_wp2;go_roundw;case rel=>exact⟨j+1,ai,by omega,by go_num,c6,cj.out⟩
     case measure=>simp[intOf];omega
  ·have d4:¬(j:Int)<(items.length:Int):=(by omega);have a1:Hid (iw most xs (A++(items.map Sch.vB).flatten) zs):=by
    have E:=y.out.1;rw[List.take_of_length_le (by omega)] at E;exact E
   have ck:=gQq y.out.2.1;have b9:=gQq y.out.2.2;clear y L;go_wp2;go_end0;exact⟨zs,a1.out,rfl,ck.out,b9.out⟩
end
end
section
open Go.RowKit
attribute [local go_sem] al
theorem cW(k:Nat)(f:FuncId)(a7:k<8)(V:jh[k]?=Y (.func (.func f) #[] #[]))(i:Int)(b:Nat)(t:ByteArray)(p:OA)(n c:Nat){w:F}{B R:Nat}{most:Int}{xs full:L8}(h:Wtr w B R most xs)(M:∀(args:AV) (w:F),(callFunc f args).run N w=.ok (.enter f args) w)(S:∀w',AC w.1.size w w'->Wtr w' B R most xs->AB N f #[qq (Y ⟨R,0,U⟩),.agg #[O C k,O C i,sq ux b,qj t,I p n c]] w' (WrA w' B R most xs full)):
    AB N 170 #[qq (Y ⟨R,0,U⟩),.agg #[O C k,O C i,sq ux b,qj t,I p n c]] w (WrA w B R most xs full):=by
  obtain⟨y,A⟩:∃y,y=w.alloc (wx #[O C k,O C i,sq ux b,qj t,I p n c] 102):=⟨_,rfl⟩;have D:Hid (AC w.1.size w y):=by rw[A];exact gQy
  have aw:=h.lt;have a2:y.cell? ⟨w.1.size,0,U⟩=Y (O C k):=by rw[A];simp
  have a3:y.cell? ⟨w.1.size,1,U⟩=Y (O C i):=by rw[A];simp
  have a4:y.cell? ⟨w.1.size,2,U⟩=Y (sq ux b):=by rw[A];simp
  have a5:y.cell? ⟨w.1.size,3,U⟩=Y (qj t):=by rw[A];simp
  have a6:y.cell? ⟨w.1.size,4,U⟩=Y (I p n c):=by rw[A];simp
  have E:=gQq (h.on D.out);obtain⟨T,q,cap,K,L,-,-,-⟩:=E.out.out;have c0:y.cell? ⟨R,0,U⟩=Y (I (Y ⟨T,0,U⟩) 8 8):=aa K 0;have a1:y.cell? ⟨T,k,U⟩=Y (.func (.func f) #[] #[]):=(aa L k).trans V;have a8:(k:Int)<8:=by omega
  have J:=gQq A;have ah:=gQq S;have ai:=gQq M;clear h A S M K L V;go_enter func170,ntmps170;go_wp2_with fail;rw[<-J.out];clear J
  go_region_law (first|(refine iD (.tmp 11) (.tmp 12) (.tmp 13) 289 102 (by rfl) (by rfl) (by rfl) (by rfl) (by rfl) ai.out (ah.out _ D.out.drew E.out.drew) ?_;rintro e w1 ⟨a0,X,rfl,Z,Q⟩;refine⟨_,rfl,?_⟩;have aj:=gQq X;have ak:=gQq Z;have ab:=gQq Q;clear X Z Q)|fail)
  all_goals
    go_end0;exact⟨a0,aj.out,rfl,ak.out,(AsW.new aw D.out.drew).trans ab.out⟩
theorem xM:∀(x:V) (d:Nat),chk d x=0->x.wf->yT x:=by
 intro x;refine V.ind (P:=fun x=>∀(d:Nat),chk d x=0->x.wf->yT x) ?_ x;rintro k i b t items a1 d X aw w0 w u B R most xs hx J aj D S;obtain⟨p,c,rfl,bc,bb,a0⟩:=hx.open;obtain⟨bi,a5,a4,bj,a6⟩:=V.wf_mk.1 aw;obtain⟨a8,ai,ak,ah,-,ab⟩:=Sch.chk_open X;obtain⟨a9,-,-,-,be,a2,a3⟩:=Sch.own_open ai;unfold cells5;have all:∀{w:F} {full:L8} {e:Ending} {w':F},(e=wv (.tuple #[])∧Wtr w' B R most (xs++full)∧AsW R w w')->WrA w B R most xs full e w':=fun h=>⟨_,iw.all,h.1,h.2.1,h.2.2⟩;have Z:k=1∨k=2∨k=3∨k=4∨k=5∨k=6∨k=7:=by omega
 have M:∀f:FuncId,f=191->k=4∨k=5->∀w,Wtr w B R most xs->AB N f #[qq (Y ⟨R,0,U⟩),.agg #[O C k,O C i,sq ux b,qj t,I p items.length c]] w (WrA w B R most xs (Sch.vB (.mk k i b t items))):=by
  rintro f rfl h w y;have e:Sch.vB (.mk k i b t items)=Leb.put t.size++t.data.toList:=by rw[Sch.vB_mk,Sch.vH,AF (by omega),AF (by omega),AF (by omega),AG h,AG (by omega),Az]
  rw[e];exact(nY y (by omega) k i b t ak p items.length c).mono fun _ _ h=>all h
 have Q:∀f:FuncId,f=192->k=6∨k=7->∀w,AC w0.1.size w0 w->Wtr w B R most xs->AB N f #[qq (Y ⟨R,0,U⟩),.agg #[O C k,O C i,sq ux b,qj t,I p items.length c]] w (WrA w B R most xs (Sch.vB (.mk k i b t items))):=by
  rintro f rfl h w hb y;have e:Sch.vB (.mk k i b t items)=Leb.put items.length++(items.map Sch.vB).flatten:=by
   rw[Sch.vB_mk,Sch.vH,AF (by omega),AF (by omega),AF (by omega),AF (by omega),AF (c:=k=1∨k=2∨k=3∨k=4∨k=5) (by omega)];congr 1;rcases h with h | h
   ·rw[AG h];have a7:=a3 h;have E:items.length=0∨items.length=1:=(by omega);rcases E with E | E
    ·rw[E,xr];rfl
    ·rw[E,xq];rfl
   ·rw[AF (by omega),AG h]
  rw[e] at S ⊢;exact mm y k i b t items ah (fun L K=>a1 L K (d+1) (ab L K) (a6 L K)) p c w0 a0 hb aj S
 rcases Z with h | h | h | h | h | h | h
 ·have e:Sch.vB (.mk k i b t items)=[UInt8.ofNat i.toNat]:=by rw[Sch.vB_mk,Sch.vH,AG h,AG (.inl h),Az]
  rw[e];subst h;exact cW 1 188 (by omega) rfl i b t p items.length c D (enters func188 (by kernel_rfl) rfl) (fun w' _ y=>(nZ y (by omega) 1 i (a2 rfl) b t p items.length c).mono fun _ _ h=>all h)
 ·have e:Sch.vB (.mk k i b t items)=Leb.put (Leb.zig i):=by rw[Sch.vB_mk,Sch.vH,AF (by omega),AG h,AG (.inr (.inl h)),Az]
  rw[e];subst h;exact cW 2 189 (by omega) rfl i b t p items.length c D (enters func189 (by kernel_rfl) rfl) (fun w' _ y=>(qN y (by omega) 2 i a5 b t p items.length c).mono fun _ _ h=>all h)
 ·have e:Sch.vB (.mk k i b t items)=Sch.le 8 (aH b):=by rw[Sch.vB_mk,Sch.vH,AF (by omega),AF (by omega),AG h,AG (.inr (.inr (.inl h))),Az]
  rw[e];subst h;exact cW 3 190 (by omega) rfl i b t p items.length c D (enters func190 (by kernel_rfl) rfl) (fun w' _ y=>(mp y (by omega) 3 i b a4 t p items.length c).mono fun _ _ h=>all h)
 ·have A:=M _ rfl (.inl h);subst h;exact cW 4 191 (by omega) rfl i b t p items.length c D (enters func191 (by kernel_rfl) rfl) (fun w' _ y=>A w' y)
 ·have A:=M _ rfl (.inr h);subst h;exact cW 5 191 (by omega) rfl i b t p items.length c D (enters func191 (by kernel_rfl) rfl) (fun w' _ y=>A w' y)
 ·have A:=Q _ rfl (.inl h);subst h;exact cW 6 192 (by omega) rfl i b t p items.length c D (enters func192 (by kernel_rfl) rfl) (fun w' hb y=>A w' (J.trans (hb.mono J.size)) y)
 ·have A:=Q _ rfl (.inr h);subst h;exact cW 7 192 (by omega) rfl i b t p items.length c D (enters func192 (by kernel_rfl) rfl) (fun w' hb y=>A w' (J.trans (hb.mono J.size)) y)
end
end Go.Proofs.YtngmnfdaedlodaaGreatDoor

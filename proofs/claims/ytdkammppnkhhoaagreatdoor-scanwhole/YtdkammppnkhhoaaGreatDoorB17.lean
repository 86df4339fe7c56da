import Derived.Test.YtdkammppnkhhoaaGreatDoorB16
import Derived.Test.YtdkammppnkhhoaaGreatDoorA10
import Derived.Deep.RegionLaw
set_option maxRecDepth 100000
set_option maxHeartbeats 2000000
namespace Go.Proofs.YtdkammppnkhhoaaGreatDoor
variable{A R c m n:Nat}{W w w' w2 w4 wr:World}{l:L8}{v:Value}{b k:Int}{q:OA}{C0 u:AV}{a:Act}{ops:Array Oper}{o:Oper}{fn:Func}{f:FuncId}{code:Code}{t x:Ty}
section
open Go.RowKit
theorem Aside.split(h:Aside (fun i=>i=R) w w2)(J:R<w.1.size):∃w1,Aside (fun i=>i=R) w w1∧w1.1.size=w.1.size∧Below w1.1.size w1 w2:=by
 have I:=h.size;refine⟨{ w with heap:=w.1.setIfInBounds R (w2.1[R]'(by omega)) },⟨rfl,rfl,rfl,by simp,fun k y E=>?_⟩,by simp,⟨h.os,h.tape,h.output,by simpa using I,fun k y=>?_⟩⟩
 ·show(w.1.setIfInBounds R _)[k]?=_;rw[Array.getElem?_setIfInBounds_ne (fun e=>E e.symm)]
 ·have z:k<w.1.size:=by simpa using y
  show _=(w.1.setIfInBounds R _)[k]?;by_cases e:k=R
  ·subst e;rw[Array.getElem?_setIfInBounds_self_of_lt z];exact Array.getElem?_eq_getElem _
  ·rw[Array.getElem?_setIfInBounds_ne (fun D=>e D.symm)];exact h.block k z e
theorem lK{K:Act->World->Prop}{Q:Exit->Act->World->Prop}{D:Prop}{u:Value}{R:Ending->World->Prop}(x y:Operand)(t ak:TypeId)(O:o.guard=none)(X:o.op=Op.call { callee:=.value (.func f),args:=#[x,y],argTypes:=#[t,ak] })(ah:a.eval x=u)(aj:a.eval y=v)(M : Tryz.prog.funcs[f]?=some fn)(V : (fn.name== "runtime.NumGoroutine")=false)(hb : fn.body=some code)(J:Calls Tryz.prog f #[u,v] w R)(I:∀e w',R e w'->∃ch,e=.panicked ch∧Q (.panic ch) a w')(a0:Value)(_:Hid False->K (a.put o.dst a0) w):
  if Region.wanted o (yielded ops a.tmps)=true then Oper.wp Tryz.prog o a w K Q else D:=by
 have Z:Region.wanted o (yielded ops a.tmps)=true:=by simp[Region.wanted,O]
 rw[if_pos Z];have E : fn.name≠ "runtime.NumGoroutine" := by simpa using V
 unfold Oper.wp;have he:(execOp a.eval o).run Tryz.prog w=.ok (.enter f #[u,v]) w:=by
  have L:a.eval (.func f)=.func (.func f) #[] #[]:=rfl;simp[execOp,X,resolve,invoke,ah,aj,L,Deferred.ofValue,callFunc,M,E,hb]
 rw[he,Oper.upon_enter];refine J.mono ?_;intro e w' Y;obtain⟨z,rfl,U⟩:=I e w' Y;exact U
theorem cM{y:Act->World->Prop}{Q:Exit->Act->World->Prop}{z:Prop}(h:Hid False)(D:Value)(_:y (a.put o.dst D) w):
  if Region.wanted o (yielded ops a.tmps)=true then Oper.wp Tryz.prog o a w y Q else z:=h.out.elim
theorem lJ{z:Act->World->Prop}{Q:Exit->Act->World->Prop}{E:Prop}{u:Value}{R:Ending->World->Prop}(x D:Operand)(t a0:TypeId)(U:o.guard=none)(Y:o.op=Op.call { callee:=.value (.func f),args:=#[x,D],argTypes:=#[t,a0] })(aj:a.eval x=u)(ak:a.eval D=v)(O : Tryz.prog.funcs[f]?=some fn)(X : (fn.name== "runtime.NumGoroutine")=false)(hb : fn.body=some code)(K:Calls Tryz.prog f #[u,v] w R)(J:∀e w',R e w'->∃y,e=.returned y∧z (a.put o.dst y) w'):
  if Region.wanted o (yielded ops a.tmps)=true then Oper.wp Tryz.prog o a w z Q else E:=by
 have ah:Region.wanted o (yielded ops a.tmps)=true:=by simp[Region.wanted,U]
 rw[if_pos ah];have I : fn.name≠ "runtime.NumGoroutine" := by simpa using X
 unfold Oper.wp;have L:(execOp a.eval o).run Tryz.prog w=.ok (.enter f #[u,v]) w:=by
  have M:a.eval (.func f)=.func (.func f) #[] #[]:=rfl;simp[execOp,Y,resolve,invoke,aj,ak,M,Deferred.ofValue,callFunc,O,I,hb]
 rw[L,Oper.upon_enter];refine K.mono ?_;intro e w' Z;obtain⟨y,rfl,V⟩:=J e w' Z;exact V
theorem Rdr.drew(h:Rdr w A R l):Rdr w.drew A R l:=h.keep (fun _ _=>rfl) xZ
theorem RdA.undrew{E:Type}{w w':World}{A R:Nat}{l:L8}{r:Except Nat (E×Nat)}{V:E->Value->World->Prop}{e:Ending}(h:RdA w.drew A R l r V e w'):RdA w A R l r V e w':=by
 cases r with
 |error k=>
  obtain⟨D,y⟩:=h.bad;exact⟨D,⟨y.os,y.tape,y.output,y.size,y.block⟩⟩
 |ok aj=>
  obtain⟨a,j⟩:=aj;obtain⟨v,D,y,I,z⟩:=h.good;exact⟨v,D,y,I,⟨z.os,z.tape,z.output,z.size,z.block⟩⟩
def qj(w:World)(t:Ty)(v:Value)(w':World):Prop:=∃u,v=.agg u∧aY w' (fun k=>w.1.size<=k∧k<w'.1.size) u t
theorem qj.open(h:qj w t v w'):∃u,v=.agg u∧aY w' (fun k=>w.1.size<=k∧k<w'.1.size) u t:=h
theorem rR(f:Nat)(c:UInt8)(r:L8):Sch.rdT (f+1) (c::r)=if c.toNat<1∨7<c.toNat then .error 60 else if c.toNat≠6∧c.toNat≠7 then .ok (⟨(c.toNat:Int),[]⟩,1) else ao (Sch.rdT f r) fun t j=>.ok (⟨(c.toNat:Int),[t]⟩,j+1):=by
 rw[Sch.rdT];split
 ·rfl
 ·split
  ·rfl
  ·cases Sch.rdT f r with
   |error e=>rfl
   |ok p=>rfl
theorem xo{T N:Nat}{X:Ty}{g cap:Nat}{V:L8}(bj:R<w.1.size)(bd:w.1.size<=N)(be:N<T)(aj:T<W.1.size)(ah:W.1[T]?=some (.cells #[.int .i64 b,.slice none 0 0] 73 (0,0)))(Y:W.1[N]?=some (.cells #[.int .i64 0,.slice none 0 0] 73 (0,0)))(O:Aside (fun i=>i=R) w W)(E:Aside (fun i=>i=R) W w2)(a4:aY w2 (fun k=>W.1.size<=k∧k<w2.1.size) u X)(a7:Rdr w2 A R V)(a6:w4.ownsRow W.1.size 73 2 (.slice (some ⟨g,0,none⟩) 1 cap) 1 (flat (fun _=>#[]) 0++u.toList))(z:(w2.alloc (.cells u 73)).grownBy w4 none)(a2:g=w2.1.size+1):
  w4.frozen? ⟨T,1,none⟩=false∧w4.cell? ⟨T,1,none⟩=some (.slice none 0 0)∧∀w5,w5=w4.setCell ⟨T,1,none⟩ (.slice (some ⟨g,0,none⟩) 1 cap)->w5.cell? ⟨T,0,none⟩=some (.int .i64 b)∧w5.cell? ⟨T,1,none⟩=some (.slice (some ⟨g,0,none⟩) 1 cap) ∧
   w5.1[N]?=some (.cells #[.int .i64 0,.slice none 0 0] 73 (0,0))∧aY w5 (fun k=>W.1.size<=k∧k<w5.1.size) (al b (some ⟨g,0,none⟩) 1 cap) ⟨b,[X]⟩∧Rdr w5 A R V∧Aside (fun i=>i=R) w w5∧W.1.size<=w5.1.size:=by
 have bk:=E.size;have bq:=O.size;have I:Below w2.1.size w2 (w2.alloc (.cells u 73)):=xV;have bl:=I.size;have bn:=z.size;obtain⟨bc,bs,U,bb⟩:=E.split (by omega);have a9:=(iK bc W.1.size).step bb a4 (fun k y=>⟨by rw[U];exact y.1,y.2⟩) I (by rw[U];exact xZ) a6 z (.inr (by rw[a2];simp));obtain⟨p3,c3,a0,a5⟩:=a9.done (by omega) b;injection a0 with e1 e2 e3;subst e1 e3
 -- what stands in w4
 have keep:∀k,k<W.1.size->k≠R->w4.1[k]?=W.1[k]?:=fun k y a3=>by
  rw[z.block k (by omega) (by simp),I.block k (by omega),E.block k y a3]
 have J:w4.1[T]?=some (.cells #[.int .i64 b,.slice none 0 0] 73 (0,0)):=(keep T aj (by omega)).trans ah;have Z:w4.1[N]?=some (.cells #[.int .i64 0,.slice none 0 0] 73 (0,0)):=(keep N (by omega) (by omega)).trans Y;refine⟨ab J 1,aa J 1,fun w5 K=>?_⟩;have D:Aside (fun i=>i=T) w4 w5:=by rw[K];exact ai _ _ _ _
 have bp:=D.size;have a8:w5.1.size=w4.1.size:=by rw[K];simp[World.setCell]
 have M:w5.1[T]?=some (.cells #[.int .i64 b,.slice (some ⟨g,0,none⟩) 1 cap] 73 (0,0)):=by rw[K,an J 1];rfl
 have L:Aside (fun _=>False) w2 w4:=(ae I (fun _=>False)).trans (G:=fun _=>False) ⟨z.os,z.tape,z.output,z.size,fun k y _=>z.block k y (by simp)⟩ (fun _ _ h=>h);refine⟨aa M 0,aa M 1,?_,?_,?_,?_,by omega⟩
 ·rw[D.block N (by omega) (by omega)];exact Z
 ·rw[a8];exact a5.aside D (fun k y=>by omega)
 ·exact(a7.aside L (fun _ h=>h.elim)).aside D (fun k y=>by rw[y];omega)
 ·refine((O.trans E (fun _ _ h=>h)).trans L (fun _ _ h=>h.elim)).trans D (fun i a1 ak=>?_);rw[ak] at a1;omega
theorem xB{F:Nat->Prop}(L:R<w.1.size)(J:wr.1[w.1.size]?=some (.cells #[.int .i64 0,.slice none 0 0] 73 (0,0)))(U:aY wr F (al b q n c) x)(E:∀k,F k->w.1.size<k∧k<wr.1.size)(V:Rdr wr A R l)(M:Aside (fun i=>i=R) w wr){w5:World}(D:w5=(wr.setCell ⟨w.1.size,0,none⟩ (.int .i64 b)).setCell ⟨w.1.size,1,none⟩ (.slice q n c)):
  w5.1[w.1.size]?=some (.cells (al b q n c) 73 (0,0))∧qj w x (.agg (al b q n c)) w5∧Rdr w5 A R l∧Aside (fun i=>i=R) w w5:=by
 have K:Aside (fun i=>i=w.1.size) wr (wr.setCell ⟨w.1.size,0,none⟩ (.int .i64 b)):=ai _ _ _ _;have z:Aside (fun i=>i=w.1.size) wr w5:=by rw[D];exact K.trans (ai _ _ _ _) (fun _ _ h=>h)
 have X:w5.1.size=wr.1.size:=by rw[D];simp[World.setCell]
 refine⟨?_,⟨_,rfl,?_⟩,V.aside z (fun k y=>by rw[y];exact L),M.trans z (fun i O I=>by rw[I] at O;omega)⟩
 ·rw[D,an (an J 0 _) 1];rfl
 ·exact(U.aside z (fun k y I=>by have:=E k y;omega)).mono (fun k y=>by have:=E k y;omega)
theorem tU:∀(f d:Nat) (l:L8) (A R:Nat) (w:World),d+f=5->Rdr w A R l->Calls Tryz.prog 164 #[.pointer (some ⟨R,0,none⟩),.int .i64 d] w (RdA w A R l (Sch.rdT f l) (qj w)):=by
  intro f;induction f with
  |zero=>
    intro d l A R w hd h;have a4:decide ((d:Int)<=4)=false:=decide_eq_false (by omega);have L:Hid (Below w.1.size w (w.alloc (.cells #[.int .i64 0,.slice none 0 0] 73))):=xV;have E:Sch.rdT 0 l=.error 62:=rfl;rw[E];clear h E;go_enter Tryz.func164,Tryz.ntmps164;go_wp2_with fail;try rw[a4]
    refine(cQ _ 62 _).mono ?_;rintro e w2 ⟨rfl,y⟩;rw[y];clear y w2;go_wp2;exact⟨rfl,rfl,ae L.out _⟩
  |succ f ih=>
    intro d l A R w hd h;have a4:decide ((d:Int)<=4)=true:=decide_eq_true (by omega);have ep:(d:Int)<=4:=(by omega);obtain⟨Y,a6⟩:∃Y,Y=w.alloc (.cells #[.int .i64 0,.slice none 0 0] 73):=⟨_,rfl⟩;have L:Hid (Below w.1.size w Y):=(by rw[a6];exact xV);have bc:Hid (Y.1[w.1.size]?=some (.cells #[.int .i64 0,.slice none 0 0] 73 (0,0))):=(by rw[a6];exact ag w _);have bj:=xX a6;have O:=xX (lH 1 l A R Y (h.on L.out));have bp:=h.lt;have bb:=xX ih;clear h a6 ih;cases l with
    |nil=>
      have E:ca 1 []=.error 30:=rfl;have b6:Sch.rdT (f+1) []=.error 30:=rfl;rw[E] at O;rw[b6];clear E b6;go_enter Tryz.func164,Tryz.ntmps164;go_wp2_with fail;rw[<-bj.out];try rw[a4]
      refine(cP _ 62 _).mono ?_;rintro e w2 ⟨rfl,y⟩;rw[y];clear y w2;go_wp2_with fail;refine O.out.mono ?_;intro e w1 D;obtain⟨U,z⟩:=D.bad;subst U;clear D;have cx:=xX ((ae L.out _).trans z (fun _ _ h=>h));clear z O;go_wp2;exact⟨rfl,rfl,cx.out⟩
    |cons b t=>
      have E:ca 1 (b::t)=.ok ([b],1):=by
        unfold ca;rw[if_neg (by simp)];rfl
      rw[E] at O;obtain⟨r,Z⟩:∃r,r=Sch.rdT (f+1) (b::t):=⟨_,rfl⟩;have a0:=xX (Z.trans (rR f b t));rw[<-Z];clear Z E;have en:=b.toNat_lt;go_enter Tryz.func164,Tryz.ntmps164;go_wp2_with fail;rw[<-bj.out];try rw[a4]
      refine(cP _ 62 _).mono ?_;rintro e w2 ⟨rfl,y⟩;rw[y];clear y w2 bj;go_wp2_with fail;refine O.out.mono ?_;intro e w1 D;obtain⟨v,U,aj,ah,z⟩:=D.good;obtain⟨q,c,bO,b9,-⟩:=aj.open;clear D aj;subst bO;subst U;obtain⟨c8,d8,df,-,cb⟩:=aL b9 (by simp);subst df;have dd:w1.cell? ⟨c8,d8,none⟩=some (.int .u8 (b.toNat:Int)):=cb 0 (by simp);have b5:Hid (Rdr w1 A R t):=ah;have bX:=xX ((ae L.out (fun i=>i=R)).trans z (fun _ _ h=>h));have b2:=xX (az bc.out);have b1:Hid (w1.1[w.1.size]?=some (.cells #[.int .i64 0,.slice none 0 0] 73 (0,0))):=by
        show _=_;rw[z.block _ b2.out (by omega)];exact bc.out
      have co:w.1.size<w1.1.size:=Nat.lt_of_lt_of_le b2.out z.size;clear z b9 ah cb O bc L;obtain⟨W,a5⟩:∃W,W=w1.alloc (.cells #[.int .i64 (b.toNat:Int),.slice none 0 0] 73):=⟨_,rfl⟩;have a7:Hid (Below w1.1.size w1 W):=(by rw[a5];exact xV);have X:Hid (W.1[w1.1.size]?=some (.cells #[.int .i64 (b.toNat:Int),.slice none 0 0] 73 (0,0))):=(by rw[a5];exact ag w1 _);have M:Hid (W.1[w.1.size]?=some (.cells #[.int .i64 0,.slice none 0 0] 73 (0,0))):=lg b1.out a7.out co;have V:=xX (bX.out.trans (ae a7.out (fun _=>False)) (fun _ _ h=>h.elim));have bd:=xX (b5.out.on a7.out);have cp:w1.1.size<W.1.size:=az X.out;have a2:=xX a5;clear a5 b1 bX b5;by_cases bs:b.toNat<1∨7<b.toNat
      · have K:Hid (r=.error 60):=a0.out.trans (if_pos bs);clear a0;rcases bs with bq | bq
        · have b8:decide ((1:Int)<=(b.toNat:Int))=false:=decide_eq_false (by omega);go_wp2_with fail;rw[<-a2.out];refine(cQ _ 60 _).mono ?_;rintro e w2 ⟨rfl,y⟩;rw[y];clear y w2;go_wp2;rw[K.out];exact⟨rfl,rfl,V.out⟩
        · have b8:decide ((1:Int)<=(b.toNat:Int))=true:=decide_eq_true (by omega);have bn:decide ((b.toNat:Int)<=7)=false:=decide_eq_false (by omega);go_wp2_with fail;rw[<-a2.out];refine(cQ _ 60 _).mono ?_;rintro e w2 ⟨rfl,y⟩;rw[y];clear y w2;go_wp2;rw[K.out];exact⟨rfl,rfl,V.out⟩
      have b8:decide ((1:Int)<=(b.toNat:Int))=true:=decide_eq_true (by omega);have bn:decide ((b.toNat:Int)<=7)=true:=decide_eq_true (by omega);have a1:=xX (a0.out.trans (if_neg bs));clear a0;go_wp2_with fail;rw[<-a2.out];refine(cP _ 60 _).mono ?_;rintro e w2 ⟨rfl,y⟩;rw[y];clear y w2 a2 dd;have c0:W.cell? ⟨w1.1.size,0,none⟩=some (.int .i64 (b.toNat:Int)):=aa X.out 0;have c1:W.cell? ⟨w1.1.size,1,none⟩=some (.slice none 0 0):=aa X.out 1;have d4:W.cell? ⟨w.1.size,0,none⟩=some (.int .i64 0):=aa M.out 0;have d5:W.cell? ⟨w.1.size,1,none⟩=some (.slice none 0 0):=aa M.out 1;have d6:=ab M.out 0;have d7:=ab M.out 1;have d9:=ab X.out 1;have b3:=xX (me (b.toNat:Int) W);go_wp2_with fail;refine b3.out.mono ?_;rintro e w2 ⟨rfl,y⟩;rw[y];clear y w2 b3;by_cases em:b.toNat=6∨b.toNat=7
      · have ak:Ty.want (b.toNat:Int)=1:=(by unfold Ty.want;rw[if_pos (by omega)]);rw[ak];have K:Hid (r=ao (Sch.rdT f t) fun t j=>.ok (⟨(b.toNat:Int),[t]⟩,j+1)):=a1.out.trans (if_neg (by omega));have b7:IntKind.i64.wrap ((d:Int)+1)=((d+1:Nat):Int):=(by rw[IntKind.wrap_i64];omega);have a8:Hid (∀w',Rdr w' A R t->Calls Tryz.prog 164 #[.pointer (some ⟨R,0,none⟩),.int .i64 (IntKind.i64.wrap ((d:Int)+1))] w'.drew (RdA w' A R t (Sch.rdT f t) (qj w'))):=fun w' Z=>by
          rw[b7];exact(bb.out (d+1) t A R w'.drew (by omega) Z.drew).mono fun _ _ h=>h.undrew
        obtain⟨m,ci⟩:∃m,m=Sch.rdT f t:=⟨_,rfl⟩;rw[<-ci] at K a8;clear ak a1 ci bb b7;cases m with
        |error er=>
          have c5:Hid (∀w2,Aside (fun i=>i=R) W w2->RdA w A R (b::t) r (qj w) (.panicked (ei er)) w2):=fun w2 z=>by
            rw[K.out];exact⟨rfl,V.out.trans z (fun _ _ h=>h)⟩
          go_wp2_with fail;go_loopw [29] (fun J wr=>J=.int .i64 0∧wr=W) (fun _ _=>0);case atStart=>exact⟨rfl,rfl⟩
          case round=>
            obtain⟨rfl,rfl⟩:=hrel;go_wp2_with fail
            go_region_law (first|(refine lK (.tmp 33) (.tmp 35) 176 3 (by rfl) (by rfl) (by rfl) (by rfl) Tryz.func164 (by kernel_rfl) (by rfl) (a8.out _ bd.out) (fun e w2 D=>⟨_,D.bad.1,rfl,c5.out w2 D.bad.2⟩) (.agg #[.int .i64 0,.slice none 0 0]) ?_;intro b0)|(refine cM b0 (.slice none 0 0) ?_))
            all_goals exact b0.out.elim
        |ok tj=>
          obtain⟨cv,cq⟩:=tj;have be:Hid (r=.ok (⟨(b.toNat:Int),[cv]⟩,cq+1)):=K.out;have eb:=xX (iK W W.1.size);clear K;go_wp2_with fail;go_loopw [29] (fun J wr=>(J=.int .i64 0∧wr=W)∨(J=.int .i64 1∧∃q c,wr.cell? ⟨w1.1.size,0,none⟩=some (.int .i64 (b.toNat:Int))∧wr.cell? ⟨w1.1.size,1,none⟩=some (.slice q 1 c)∧Hid (wr.1[w.1.size]?=some (.cells #[.int .i64 0,.slice none 0 0] 73 (0,0))∧aY wr (fun k=>W.1.size<=k∧k<wr.1.size) (al (b.toNat:Int) q 1 c) ⟨(b.toNat:Int),[cv]⟩∧Rdr wr A R ((b::t).drop (cq+1))∧Aside (fun i=>i=R) w wr∧W.1.size<=wr.1.size))) (fun J _=>1-(intOf J).toNat);case atStart=>exact .inl ⟨rfl,rfl⟩
          case round=>
            rcases hrel with ⟨rfl,rfl⟩ | ⟨rfl,q,c2,ec,E,I⟩
            · go_wp2_with fail
              go_region_law (first
                | (refine lJ (.tmp 33) (.tmp 35) 176 3 (by rfl) (by rfl) (by rfl) (by rfl) Tryz.func164 (by kernel_rfl) (by rfl) (a8.out _ bd.out) ?_;intro e w2 D;obtain⟨eu,U,aj,ah,z⟩:=D.good;obtain⟨u2,bO,bN⟩:=aj.open;clear D aj;obtain⟨cs,p2,ct,c2,dp⟩:=bN.shape;subst dp;subst bO;refine⟨_,U,?_⟩;clear U;unfold al;have cw:w2.cell? ⟨w1.1.size,1,none⟩=some (.slice none 0 0):=by(rw[z.cell cp (by show ¬w1.1.size=R;omega)];exact c1)
                   have ez:∀o,(w2.alloc o).cell? ⟨w1.1.size,1,none⟩=some (.slice none 0 0):=fun o=>by(rw[World.cell?_alloc_past _ _ _ (by have:=z.size;show w1.1.size<_;omega)];exact cw)
                   have b4:=xX bN;have c7:=xX ah;have cy:=xX z;have ea:Hid (Below w2.1.size w2 (w2.alloc (.cells #[.int .i64 cs,.slice p2 ct c2] 73))):=xV;have eq:=z.size;clear bN ah z)
                | (refine mU (B:=wr.1.size) (us:=fun _=>#[]) (v:=.slice none 0 0) (n:=0) (World.ownsRow_nil _ _ _ _) (u:=#[.int .i64 cs,.slice p2 ct c2]) rfl (xO b4.out) (ad:=w2.1.size) (by exact ag w2 _) (by omega) (by simp;omega) (H:=w2.1.size+1) (by simp) (.tmp 32) (.tmp 37) (by rfl) (by rfl) (by rfl) (by rfl) ?_;intro bn c9 w4 cn cc ck;obtain⟨a3,el,cj⟩:=xo (N:=w.1.size) (T:=w1.1.size) bp xZ co cp X.out M.out V.out cy.out b4.out c7.out cn cc (ck.resolve_left (by simp[Value.ownBlock]));have c6:=xX cj;clear cj cn cc ck))
              all_goals
                go_wp2;go_roundw;case rel=>
                  obtain⟨dr,ds,dv,d0,d1,d2,d3⟩:=c6.out _ rfl;refine .inr ⟨by go_num,some ⟨bn,0,none⟩,c9,dr,ds,dv,d0,?_,d2,d3⟩;rw[List.drop_succ_cons];exact d1
                case measure=>simp[intOf]
            · have ew:=aa I.out.1 0;have cw:=aa I.out.1 1;have eC:=ab I.out.1 0;have eL:=ab I.out.1 1;clear c0 c1 d4 d5 d6 d7 d9;have a9:=xX (fun w5 bT=>xB (w5:=w5) bp I.out.1 I.out.2.1 (fun k bq=>⟨by omega,bq.2⟩) I.out.2.2.1 I.out.2.2.2.1 bT);go_wp2;obtain⟨f1,bk,bl,a3⟩:=a9.out _ rfl;refine bodyPost_ret (v:=.agg (al (b.toNat:Int) q 1 c2)) (results_cell_row rfl _ _ w.1.size _ _ _ _ rfl f1 Tryz.underlying73 rfl (by kernel_rfl)) rfl ?_;rw[be.out];exact⟨_,rfl,bk,bl,a3⟩
      · have ak:Ty.want (b.toNat:Int)=0:=(by unfold Ty.want;rw[if_neg (by omega)]);rw[ak];have be:Hid (r=.ok (⟨(b.toNat:Int),[]⟩,1)):=a1.out.trans (if_pos (by omega));have a9:=xX (fun w5 bT=>xB (w5:=w5) (b:=(b.toNat:Int)) (q:=none) (n:=0) (c:=0) (x:=⟨(b.toNat:Int),[]⟩) (F:=fun _=>False) bp M.out .none (fun _ h=>h.elim) bd.out V.out bT);clear ak a1 bb;go_wp2_with fail;go_loopw [29] (fun J wr=>J=.int .i64 0∧wr=W) (fun _ _=>0);case atStart=>exact⟨rfl,rfl⟩
        case round=>
          obtain⟨rfl,rfl⟩:=hrel;go_wp2;obtain⟨f1,bk,bl,a3⟩:=a9.out _ rfl;refine bodyPost_ret (v:=.agg (al (b.toNat:Int) none 0 0)) (results_cell_row rfl _ _ w.1.size _ _ _ _ rfl f1 Tryz.underlying73 rfl (by kernel_rfl)) rfl ?_;rw[be.out];exact⟨_,rfl,bk,bl,a3⟩
end
section
open Go.RowKit
attribute [local go_sem] am
def isV(w:World)(x:V)(v:Value)(w':World):Prop:=∃u,v=.agg u∧bg w' (fun k=>w.1.size<=k∧k<w'.1.size) u x
theorem isV.open{x:V}(h:isV w x v w'):∃u,v=.agg u∧bg w' (fun k=>w.1.size<=k∧k<w'.1.size) u x:=h
def ij(w:World)(N:Nat)(k i:Int)(b:Nat)(t:ByteArray)(s:Value):World:=((((w.setCell ⟨N,0,none⟩ (.int .i64 k)).setCell ⟨N,1,none⟩ (.int .i64 i)).setCell ⟨N,2,none⟩ (.float .f64 b)).setCell ⟨N,3,none⟩ (.string t)).setCell ⟨N,4,none⟩ s
theorem nU(w:World)(N:Nat)(k i:Int)(b:Nat)(t:ByteArray)(s:Value):Aside (fun j=>j=N) w (ij w N k i b t s):=by
 have y:Aside (fun j=>j=N) w (w.setCell ⟨N,0,none⟩ (.int .i64 k)):=ai _ _ _ _;have z:=y.trans (ai _ N 1 (.int .i64 i)) (fun _ _ h=>h);have D:=z.trans (ai _ N 2 (.float .f64 b)) (fun _ _ h=>h);have E:=D.trans (ai _ N 3 (.string t)) (fun _ _ h=>h);exact E.trans (ai _ N 4 s) (fun _ _ h=>h)
theorem sJ{N:Nat}{C:AV}(h:w.1[N]?=some (.cells C 77 (0,0)))(D:C.size=5)(k i:Int)(b:Nat)(t:ByteArray)(q:OA)(n c:Nat):(ij w N k i b t (.slice q n c)).1[N]?=some (.cells (cells5 k i b t q n c) 77 (0,0)):=by
 have e:((((C.set! 0 (.int .i64 k)).set! 1 (.int .i64 i)).set! 2 (.float .f64 b)).set! 3 (.string t)).set! 4 (.slice q n c)=cells5 k i b t q n c:=by
  obtain⟨z⟩:=C;match z,D with
  | [a0,a1,a2,a3,a4],_=>rfl
 have y:=an (an (an (an (an h 0 (.int .i64 k)) 1 (.int .i64 i)) 2 (.float .f64 b)) 3 (.string t)) 4 (.slice q n c);rw[e] at y;exact y
theorem qb(w:World)(N:Nat)(k i:Int)(b:Nat)(t:ByteArray)(s:Value):(ij w N k i b t s).1.size=w.1.size:=by simp[ij,World.setCell]
theorem uJ{N:Nat}{i:Int}{b:Nat}{t:ByteArray}{x:V}{F:Nat->Prop}(U:R<w.1.size)(O:w.1.size<=N)(I:wr.1[N]?=some (.cells #[.int .i64 0,.int .i64 0,.float .f64 0,.string ⟨#[]⟩,.slice none 0 0] 77 (0,0)))(K:bg wr F (cells5 k i b t q n c) x)(D:∀j,F j->N<j∧j<wr.1.size)(L:Rdr wr A R l)(J:Aside (fun j=>j=R) w wr):
  (ij wr N k i b t (.slice q n c)).1[N]?=some (.cells (cells5 k i b t q n c) 77 (0,0))∧isV w x (.agg (cells5 k i b t q n c)) (ij wr N k i b t (.slice q n c))∧Rdr (ij wr N k i b t (.slice q n c)) A R l∧Aside (fun j=>j=R) w (ij wr N k i b t (.slice q n c)):=by
 have z:=nU wr N k i b t (.slice q n c);have M:=qb wr N k i b t (.slice q n c);refine⟨sJ I rfl k i b t q n c,⟨_,rfl,?_⟩,L.aside z (fun j y=>by rw[y];omega),J.trans z (fun j y E=>by rw[E] at y;omega)⟩;rw[M];exact(K.aside z (fun j y E=>by have:=D j y;omega)).mono (fun j y=>by have:=D j y;omega)
structure du(w W:World)(A R:Nat)(k:Int)(C0:AV)(l:L8):Prop where
 b0:W.1[w.1.size]?=some (.cells C0 73 (0,0))
 b1:W.1[w.1.size+1]?=some (.cells #[.int .i64 0,.int .i64 0,.float .f64 0,.string ⟨#[]⟩,.slice none 0 0] 77 (0,0))
 b2:W.1[w.1.size+1+1]?=some (.cells #[.int .i64 k,.int .i64 0,.float .f64 0,.string ⟨#[]⟩,.slice none 0 0] 77 (0,0))
 rd:Rdr W A R l
 aside:Aside (fun i=>i=R) w W
 size:w.1.size+3<=W.1.size
theorem bU(k:Int)(C0:AV){l:L8}(h:Rdr w A R l):du w (((w.alloc (.cells C0 73)).alloc (.cells #[.int .i64 0,.int .i64 0,.float .f64 0,.string ⟨#[]⟩,.slice none 0 0] 77)).alloc (.cells #[.int .i64 k,.int .i64 0,.float .f64 0,.string ⟨#[]⟩,.slice none 0 0] 77)) A R k C0 l:=by
 have hb:Below w.1.size w (((w.alloc (.cells C0 73)).alloc (.cells #[.int .i64 0,.int .i64 0,.float .f64 0,.string ⟨#[]⟩,.slice none 0 0] 77)).alloc (.cells #[.int .i64 k,.int .i64 0,.float .f64 0,.string ⟨#[]⟩,.slice none 0 0] 77)):=(xV.alloc (by simp) _).alloc (by simp;omega) _;refine⟨?_,?_,?_,h.on hb,ae hb _,by simp⟩
 ·rw[aG _ _ (by simp;omega),aG _ _ (by simp)];exact ag w _
 ·rw[aG _ _ (by simp)];have:=ag (w.alloc (.cells C0 73)) (.cells #[.int .i64 0,.int .i64 0,.float .f64 0,.string ⟨#[]⟩,.slice none 0 0] 77);simpa using this
 ·have:=ag ((w.alloc (.cells C0 73)).alloc (.cells #[.int .i64 0,.int .i64 0,.float .f64 0,.string ⟨#[]⟩,.slice none 0 0] 77)) (.cells #[.int .i64 k,.int .i64 0,.float .f64 0,.string ⟨#[]⟩,.slice none 0 0] 77);simpa using this
theorem du.step{z:World}{l':L8}(h:du w W A R k C0 l)(y:Aside (fun i=>i=R) W z)(D:Rdr z A R l')(I:R<w.1.size):du w z A R k C0 l':=by
 have E:=h.size;refine⟨?_,?_,?_,D,h.aside.trans y (fun _ _ h=>h),Nat.le_trans E y.size⟩
 ·rw[y.block _ (by omega) (by omega)];exact h.b0
 ·rw[y.block _ (by omega) (by omega)];exact h.b1
 ·rw[y.block _ (by omega) (by omega)];exact h.b2
theorem du.fin(h:du w W A R k C0 l)(D:R<w.1.size)(m:Nat)(u:Value)(i:Int)(b:Nat)(t:ByteArray):
  (ij (W.setCell ⟨w.1.size+1+1,m,none⟩ u) (w.1.size+1) k i b t (.slice none 0 0)).1[w.1.size+1]?=some (.cells (cells5 k i b t none 0 0) 77 (0,0))∧isV w (.mk k i b t []) (.agg (cells5 k i b t none 0 0)) (ij (W.setCell ⟨w.1.size+1+1,m,none⟩ u) (w.1.size+1) k i b t (.slice none 0 0))∧Rdr (ij (W.setCell ⟨w.1.size+1+1,m,none⟩ u) (w.1.size+1) k i b t (.slice none 0 0)) A R l∧Aside (fun j=>j=R) w (ij (W.setCell ⟨w.1.size+1+1,m,none⟩ u) (w.1.size+1) k i b t (.slice none 0 0)):=by
 have y:Aside (fun i=>i=w.1.size+1+1) W (W.setCell ⟨w.1.size+1+1,m,none⟩ u):=ai _ _ _ _;have I:=h.size;refine uJ (F:=fun _=>False) D (by omega) ?_ .none (fun _ h=>h.elim) (h.rd.aside y (fun j z=>by rw[z];omega)) (h.aside.trans y (fun j z E=>by rw[E] at z;omega));rw[y.block _ (by omega) (by omega)];exact h.b1
theorem rC(l:L8):Sch.scalar 1 l=ao (Sch.bit l) fun n j=>.ok (.mk 1 n 0 ⟨#[]⟩ [],j):=by
 unfold Sch.scalar;rw[if_pos rfl];cases Sch.bit l with
 |error e=>rfl
 |ok p=>rfl
theorem rB(l:L8):Sch.scalar 2 l=ao (Sch.num l) fun n j=>.ok (.mk 2 (Leb.zag n) 0 ⟨#[]⟩ [],j):=by
 unfold Sch.scalar;rw[if_neg (by decide),if_pos rfl];cases Sch.num l with
 |error e=>rfl
 |ok p=>rfl
theorem rA(l:L8):Sch.scalar 3 l=ao (Sch.float l) fun n j=>.ok (.mk 3 0 n ⟨#[]⟩ [],j):=by
 unfold Sch.scalar;rw[if_neg (by decide),if_neg (by decide),if_pos rfl];cases Sch.float l with
 |error e=>rfl
 |ok p=>rfl
theorem rz(l:L8):Sch.scalar 4 l=ao (Sch.text 1024 2 l) fun t j=>if cK t=false then .error 61 else .ok (.mk 4 0 0 t [],j):=by
 unfold Sch.scalar;rw[if_neg (by decide),if_neg (by decide),if_neg (by decide)];cases Sch.text 1024 2 l with
 |error e=>rfl
 |ok p=>
  obtain⟨t,j⟩:=p;rw[aQ];dsimp only;by_cases h:cK t=false
  ·rw[if_pos ⟨rfl,h⟩,if_pos h]
  ·rw[if_neg (fun y=>h y.2),if_neg h]
theorem ry(l:L8):Sch.scalar 5 l=ao (Sch.text 1024 2 l) fun t j=>.ok (.mk 5 0 0 t [],j):=by
 unfold Sch.scalar;rw[if_neg (by decide),if_neg (by decide),if_neg (by decide)];cases Sch.text 1024 2 l with
 |error e=>rfl
 |ok p=>
  obtain⟨t,j⟩:=p;rw[aQ];dsimp only;rw[if_neg (fun y=>by have:=y.1;omega)]
theorem tR(l:L8)(A R:Nat)(w:World)(p:OA)(n c:Nat)(h:Rdr w A R l):Calls Tryz.prog 166 #[.pointer (some ⟨R,0,none⟩),.agg #[.int .i64 1,.slice p n c]] w (RdA w A R l (Sch.scalar 1 l) (isV w)):=by
 have Y:=h.lt;obtain⟨W,M⟩:∃W,W=((w.alloc (.cells #[.int .i64 1,.slice p n c] 73)).alloc (.cells #[.int .i64 0,.int .i64 0,.float .f64 0,.string ⟨#[]⟩,.slice none 0 0] 77)).alloc (.cells #[.int .i64 1,.int .i64 0,.float .f64 0,.string ⟨#[]⟩,.slice none 0 0] 77):=⟨_,rfl⟩;have J:Hid (du w W A R 1 #[.int .i64 1,.slice p n c] l):=by rw[M];exact bU 1 _ h
 have L:=xX M;obtain⟨r,V⟩:∃r,r=Sch.scalar 1 l:=⟨_,rfl⟩;have D:=xX (V.trans (rC l));rw[<-V];have z:=xX (sZ l A R W J.out.rd);obtain⟨m,U⟩:∃m,m=Sch.bit l:=⟨_,rfl⟩;rw[<-U] at D z;have a2:=xX U;clear V U h M;cases m with
 |error er=>
  have K:Hid (r=.error er):=D.out;clear D;go_enter Tryz.func166,Tryz.ntmps166;go_wp2_with fail;rw[<-L.out];refine z.out.mono ?_;intro e w1 I;obtain⟨O,E⟩:=I.bad;subst O;clear I;have ah:=xX (J.out.aside.trans E (fun _ _ h=>h));clear E z;go_wp2;rw[K.out];exact⟨rfl,rfl,ah.out⟩
 |ok xj=>
  obtain⟨x,j⟩:=xj;have K:Hid (r=.ok (.mk 1 (x:Nat) 0 ⟨#[]⟩ [],j)):=D.out;clear D;go_enter Tryz.func166,Tryz.ntmps166;go_wp2_with fail;rw[<-L.out];refine z.out.mono ?_;intro e w1 I;obtain⟨v,O,X,Z,E⟩:=I.good;clear I
  replace X:v=.int .i64 (x:Nat):=X
  subst X;subst O;have y:=xX (J.out.step E Z Y);clear E Z z L J;obtain⟨a3,a4,a5,a6,a7⟩:=cQ5 y.out.b2;obtain⟨be,bj,bk,bl,bn⟩:=cQ5 y.out.b1;have a8:=ab y.out.b2 0;have a9:=ab y.out.b2 1;have bb:=ab y.out.b2 2;have bc:=ab y.out.b2 3;have bd:=ab y.out.b2 4;have bp:=ab y.out.b1 0;have bq:=ab y.out.b1 1;have bs:=ab y.out.b1 2;have bN:=ab y.out.b1 3;have bO:=ab y.out.b1 4;have aj:=xX (y.out.fin Y 1 (.int .i64 (x:Nat)) (x:Nat) 0 ⟨#[]⟩);go_wp2;obtain⟨f1,ak,a0,a1⟩:=aj.out;refine bodyPost_ret (v:=.agg (cells5 1 (x:Nat) 0 ⟨#[]⟩ none 0 0)) (results_cell_row rfl _ _ (w.1.size+1) _ _ _ _ rfl f1 Tryz.underlying77 rfl (by kernel_rfl)) rfl ?_;rw[K.out];exact⟨_,rfl,ak,a0,a1⟩
theorem tP(l:L8)(A R:Nat)(w:World)(p:OA)(n c:Nat)(h:Rdr w A R l):Calls Tryz.prog 166 #[.pointer (some ⟨R,0,none⟩),.agg #[.int .i64 3,.slice p n c]] w (RdA w A R l (Sch.scalar 3 l) (isV w)):=by
 have Y:=h.lt;obtain⟨W,M⟩:∃W,W=((w.alloc (.cells #[.int .i64 3,.slice p n c] 73)).alloc (.cells #[.int .i64 0,.int .i64 0,.float .f64 0,.string ⟨#[]⟩,.slice none 0 0] 77)).alloc (.cells #[.int .i64 3,.int .i64 0,.float .f64 0,.string ⟨#[]⟩,.slice none 0 0] 77):=⟨_,rfl⟩;have J:Hid (du w W A R 3 #[.int .i64 3,.slice p n c] l):=by rw[M];exact bU 3 _ h
 have L:=xX M;obtain⟨r,V⟩:∃r,r=Sch.scalar 3 l:=⟨_,rfl⟩;have D:=xX (V.trans (rA l));rw[<-V];have z:=xX (wC l A R W J.out.rd);obtain⟨m,U⟩:∃m,m=Sch.float l:=⟨_,rfl⟩;rw[<-U] at D z;have a2:=xX U;clear V U h M;cases m with
 |error er=>
  have K:Hid (r=.error er):=D.out;clear D;go_enter Tryz.func166,Tryz.ntmps166;go_wp2_with fail;rw[<-L.out];refine z.out.mono ?_;intro e w1 I;obtain⟨O,E⟩:=I.bad;subst O;clear I;have ah:=xX (J.out.aside.trans E (fun _ _ h=>h));clear E z;go_wp2;rw[K.out];exact⟨rfl,rfl,ah.out⟩
 |ok xj=>
  obtain⟨x,j⟩:=xj;have K:Hid (r=.ok (.mk 3 0 x ⟨#[]⟩ [],j)):=D.out;clear D;go_enter Tryz.func166,Tryz.ntmps166;go_wp2_with fail;rw[<-L.out];refine z.out.mono ?_;intro e w1 I;obtain⟨v,O,X,Z,E⟩:=I.good;clear I
  replace X:v=.float .f64 x:=X
  subst X;subst O;have y:=xX (J.out.step E Z Y);clear E Z z L J;obtain⟨a3,a4,a5,a6,a7⟩:=cQ5 y.out.b2;obtain⟨be,bj,bk,bl,bn⟩:=cQ5 y.out.b1;have a8:=ab y.out.b2 0;have a9:=ab y.out.b2 1;have bb:=ab y.out.b2 2;have bc:=ab y.out.b2 3;have bd:=ab y.out.b2 4;have bp:=ab y.out.b1 0;have bq:=ab y.out.b1 1;have bs:=ab y.out.b1 2;have bN:=ab y.out.b1 3;have bO:=ab y.out.b1 4;have aj:=xX (y.out.fin Y 2 (.float .f64 x) 0 x ⟨#[]⟩);go_wp2;obtain⟨f1,ak,a0,a1⟩:=aj.out;refine bodyPost_ret (v:=.agg (cells5 3 0 x ⟨#[]⟩ none 0 0)) (results_cell_row rfl _ _ (w.1.size+1) _ _ _ _ rfl f1 Tryz.underlying77 rfl (by kernel_rfl)) rfl ?_;rw[K.out];exact⟨_,rfl,ak,a0,a1⟩
theorem tN(l:L8)(A R:Nat)(w:World)(p:OA)(n c:Nat)(h:Rdr w A R l):Calls Tryz.prog 166 #[.pointer (some ⟨R,0,none⟩),.agg #[.int .i64 5,.slice p n c]] w (RdA w A R l (Sch.scalar 5 l) (isV w)):=by
 have Y:=h.lt;obtain⟨W,M⟩:∃W,W=((w.alloc (.cells #[.int .i64 5,.slice p n c] 73)).alloc (.cells #[.int .i64 0,.int .i64 0,.float .f64 0,.string ⟨#[]⟩,.slice none 0 0] 77)).alloc (.cells #[.int .i64 5,.int .i64 0,.float .f64 0,.string ⟨#[]⟩,.slice none 0 0] 77):=⟨_,rfl⟩;have J:Hid (du w W A R 5 #[.int .i64 5,.slice p n c] l):=by rw[M];exact bU 5 _ h
 have L:=xX M;obtain⟨r,V⟩:∃r,r=Sch.scalar 5 l:=⟨_,rfl⟩;have D:=xX (V.trans (ry l));rw[<-V];have z:=xX (uW l A R W J.out.rd);obtain⟨m,U⟩:∃m,m=Sch.text 1024 2 l:=⟨_,rfl⟩;rw[<-U] at D z;have a2:=xX U;clear V U h M;cases m with
 |error er=>
  have K:Hid (r=.error er):=D.out;clear D;go_enter Tryz.func166,Tryz.ntmps166;go_wp2_with fail;rw[<-L.out];refine z.out.mono ?_;intro e w1 I;obtain⟨O,E⟩:=I.bad;subst O;clear I;have ah:=xX (J.out.aside.trans E (fun _ _ h=>h));clear E z;go_wp2;rw[K.out];exact⟨rfl,rfl,ah.out⟩
 |ok xj=>
  obtain⟨x,j⟩:=xj;have K:Hid (r=.ok (.mk 5 0 0 x [],j)):=D.out;clear D;go_enter Tryz.func166,Tryz.ntmps166;go_wp2_with fail;rw[<-L.out];refine z.out.mono ?_;intro e w1 I;obtain⟨v,O,X,Z,E⟩:=I.good;clear I
  replace X:v=.string x:=X
  subst X;subst O;have y:=xX (J.out.step E Z Y);clear E Z z L J;obtain⟨a3,a4,a5,a6,a7⟩:=cQ5 y.out.b2;obtain⟨be,bj,bk,bl,bn⟩:=cQ5 y.out.b1;have a8:=ab y.out.b2 0;have a9:=ab y.out.b2 1;have bb:=ab y.out.b2 2;have bc:=ab y.out.b2 3;have bd:=ab y.out.b2 4;have bp:=ab y.out.b1 0;have bq:=ab y.out.b1 1;have bs:=ab y.out.b1 2;have bN:=ab y.out.b1 3;have bO:=ab y.out.b1 4;have aj:=xX (y.out.fin Y 3 (.string x) 0 0 x);go_wp2;obtain⟨f1,ak,a0,a1⟩:=aj.out;refine bodyPost_ret (v:=.agg (cells5 5 0 0 x none 0 0)) (results_cell_row rfl _ _ (w.1.size+1) _ _ _ _ rfl f1 Tryz.underlying77 rfl (by kernel_rfl)) rfl ?_;rw[K.out];exact⟨_,rfl,ak,a0,a1⟩
theorem tQ(l:L8)(A R:Nat)(w:World)(p:OA)(n c:Nat)(h:Rdr w A R l):Calls Tryz.prog 166 #[.pointer (some ⟨R,0,none⟩),.agg #[.int .i64 2,.slice p n c]] w (RdA w A R l (Sch.scalar 2 l) (isV w)):=by
 have aj:=h.lt;obtain⟨W,U⟩:∃W,W=((w.alloc (.cells #[.int .i64 2,.slice p n c] 73)).alloc (.cells #[.int .i64 0,.int .i64 0,.float .f64 0,.string ⟨#[]⟩,.slice none 0 0] 77)).alloc (.cells #[.int .i64 2,.int .i64 0,.float .f64 0,.string ⟨#[]⟩,.slice none 0 0] 77):=⟨_,rfl⟩;have K:Hid (du w W A R 2 #[.int .i64 2,.slice p n c] l):=by rw[U];exact bU 2 _ h
 have M:=xX U;obtain⟨r,Y⟩:∃r,r=Sch.scalar 2 l:=⟨_,rfl⟩;have D:=xX (Y.trans (rB l));rw[<-Y];have z:=xX (oS l A R W K.out.rd);obtain⟨m,X⟩:∃m,m=Sch.num l:=⟨_,rfl⟩;rw[<-X] at D z;have ah:=xX X;clear Y X h U;cases m with
 |error er=>
  have L:Hid (r=.error er):=D.out;clear D;go_enter Tryz.func166,Tryz.ntmps166;go_wp2_with fail;rw[<-M.out];refine z.out.mono ?_;intro e w1 I;obtain⟨V,E⟩:=I.bad;subst V;clear I;have a2:=xX (K.out.aside.trans E (fun _ _ h=>h));clear E z;go_wp2;rw[L.out];exact⟨rfl,rfl,a2.out⟩
 |ok xj=>
  obtain⟨x,j⟩:=xj;have L:Hid (r=.ok (.mk 2 (Leb.zag x) 0 ⟨#[]⟩ [],j)):=D.out;clear D;go_enter Tryz.func166,Tryz.ntmps166;go_wp2_with fail;rw[<-M.out];refine z.out.mono ?_;intro e w1 I;obtain⟨v,V,Z,ak,E⟩:=I.good;clear I
  replace Z:v=.int .u64 (x:Nat):=Z
  subst Z;subst V;have y:=xX (K.out.step E ak aj);clear E ak z M K;have O:=xX (tI x (i9 ah.out.symm).2);obtain⟨J,a1⟩:∃J,J=Leb.zag x:=⟨_,rfl⟩;rw[<-a1] at O L;clear a1 ah;go_wp2_with fail;refine(O.out _).mono ?_;rintro e w2 ⟨rfl,a0⟩;rw[a0];clear a0 w2 O;obtain⟨a7,a8,a9,bb,bc⟩:=cQ5 y.out.b2;obtain⟨bn,bp,bq,bs,bN⟩:=cQ5 y.out.b1;have bd:=ab y.out.b2 0;have be:=ab y.out.b2 1;have bj:=ab y.out.b2 2;have bk:=ab y.out.b2 3;have bl:=ab y.out.b2 4;have bO:=ab y.out.b1 0;have bT:=ab y.out.b1 1;have bX:=ab y.out.b1 2;have b0:=ab y.out.b1 3;have b3:=ab y.out.b1 4;have a3:=xX (y.out.fin aj 1 (.int .i64 J) J 0 ⟨#[]⟩);go_wp2;obtain⟨f1,a4,a5,a6⟩:=a3.out;refine bodyPost_ret (v:=.agg (cells5 2 J 0 ⟨#[]⟩ none 0 0)) (results_cell_row rfl _ _ (w.1.size+1) _ _ _ _ rfl f1 Tryz.underlying77 rfl (by kernel_rfl)) rfl ?_;rw[L.out];exact⟨_,rfl,a4,a5,a6⟩
end
section
open Go.RowKit
attribute [local go_sem] am
structure ej(w:World)(R:Nat)(u:AV)(t:Ty):Prop where
 out:∃F:Nat->Prop,aY w F u t∧∀k,F k->R<k∧k<w.1.size
theorem ej.aside(h:ej w R u t)(D:Aside (fun i=>i=R) w w'):ej w' R u t:=by
 obtain⟨F,E,z⟩:=h.out;have J:=D.size;exact⟨F,E.aside D (fun k y I=>by have:=z k y;omega),fun k y=>⟨(z k y).1,by have:=z k y;omega⟩⟩
theorem ej.on(h:ej w R u t)(hb:Below w.1.size w w'):ej w' R u t:=by
 obtain⟨F,D,z⟩:=h.out;have E:=hb.size;exact⟨F,D.under hb (fun k y=>(z k y).2),fun k y=>⟨(z k y).1,by have:=z k y;omega⟩⟩
theorem ej.one(h:ej w R u (.mk k [x])):∃g z c E q I D,u=al k (some ⟨g,z,none⟩) 1 c∧ej w R (al E q I D) x∧R<g∧g<w.1.size∧w.cell? ⟨g,z,none⟩=some (.int .i64 E)∧w.cell? ⟨g,z+1,none⟩=some (.slice q I D):=by
 obtain⟨F,U,K⟩:=h.out;rcases U.inv with ⟨X,p,c,L,y⟩ | ⟨X,g,z,c,xs,us,O,L,y,s⟩
 ·simp only[Ty.mk.injEq] at y;exact absurd y.2 (by simp)
 ·simp only[Ty.mk.injEq] at y;obtain⟨rfl,rfl⟩:=y;have J:=s.hr 0 (by simp);obtain⟨E,q,I,D,M⟩:=J.shape;have c0:=s.hp.2 0 (by simp) 0 (by omega);have c1:=s.hp.2 0 (by simp) 1 (by omega);rw[M] at c0 c1;rw[M] at J;exact⟨g,z,c,E,q,I,D,L,⟨O 0,J,fun j V=>K j (s.hs 0 (by simp) j V)⟩,(K g s.hg).1,s.hp.1,by simpa[al] using c0,by simpa[al] using c1⟩
theorem ej.shape(h:ej w R u t):∃k p n c,u=al k p n c:=by
 obtain⟨F,y,_⟩:=h.out;exact y.shape
def pb(w:World)(vs:List V)(v:Value)(w':World):Prop:=∃q c,v=.slice q vs.length c∧∀k,bg w' (fun i=>w.1.size<=i∧i<w'.1.size) (cells5 k 0 0 ⟨#[]⟩ q vs.length c) (.mk k 0 0 ⟨#[]⟩ vs)
theorem pb.open{y:List V}(h:pb w y v w'):∃q c,v=.slice q y.length c∧∀k,bg w' (fun i=>w.1.size<=i∧i<w'.1.size) (cells5 k 0 0 ⟨#[]⟩ q y.length c) (.mk k 0 0 ⟨#[]⟩ y):=h
def mK(t:Ty):Prop:=∀(l:L8) (A R:Nat) (w:World) (u:AV),ej w R u t->Rdr w A R l->Calls Tryz.prog 166 #[.pointer (some ⟨R,0,none⟩),.agg u] w (RdA w A R l (Sch.rdV t l) (isV w))
structure mL(w wr:World)(A R:Nat)(u:AV)(t:Ty)(m:Nat)(l:L8)(r:Except Nat (List V×Nat))(ys:List V)(v:Value):Prop where
 built:∃us Fs,bS wr (w.1.size+1) v ys.length us Fs ys
 b0:wr.1[w.1.size]?=some (.cells u 73 (0,0))
 far:ej w R u t
 left:∃n,Rdr wr A R (l.drop n)∧r=glue ys n (Sch.rdN (Sch.rdV t) (m-ys.length) (l.drop n))
 aside:Aside (fun i=>i=R) w wr
 low:R<w.1.size
 size:w.1.size+1<=wr.1.size
 len:ys.length<=m
theorem mw(y:ej w R u t)(h:Rdr w A R l):mL w (w.alloc (.cells u 73)) A R u t m l (Sch.rdN (Sch.rdV t) m l) [] (.slice none 0 0):=by
 have hb:Below w.1.size w (w.alloc (.cells u 73)):=xV;refine⟨⟨_,_,kq _ _⟩,ag w _,y,⟨0,h.on hb,?_⟩,ae hb _,h.lt,by simp,Nat.zero_le _⟩;rw[List.drop_zero,List.length_nil,Nat.sub_zero];cases Sch.rdN (Sch.rdV t) m l with
 |error e=>rfl
 |ok p=>simp[glue]
theorem mL.next{r:Except Nat (List V×Nat)}{y:List V}{v:Value}(h:mL w wr A R u t m l r y v){us:Nat->AV}{X:Nat->Nat->Prop}(M:bS wr (w.1.size+1) v y.length us X y){n j:Nat}{x:V}{E:AV}(be:y.length<m)(a1:r=glue y n (Sch.rdN (Sch.rdV t) (m-y.length) (l.drop n)))(bb:Sch.rdV t (l.drop n)=.ok (x,j))(J:Aside (fun i=>i=R) wr w2)(a5:bg w2 (fun k=>wr.1.size<=k∧k<w2.1.size) E x)(a7:Rdr w2 A R ((l.drop n).drop j)):
  (w2.alloc (.cells E 77)).ownsRow (w.1.size+1) 77 5 v y.length (flat us y.length) ∧
  ∀g cap,w4.ownsRow (w.1.size+1) 77 5 (.slice (some ⟨g,0,none⟩) (y.length+1) cap) (y.length+1) (flat us y.length++E.toList)->(w2.alloc (.cells E 77)).grownBy w4 v.ownBlock->(v.ownBlock=some g∨g=(w2.alloc (.cells E 77)).1.size) ->
   mL w w4 A R u t m l r (y++[x]) (.slice (some ⟨g,0,none⟩) (y.length+1) cap):=by
 have a8:=h.size;have a2:=h.low;have bj:=J.size;have K:Below w2.1.size w2 (w2.alloc (.cells E 77)):=xV;have bk:=K.size;obtain⟨bd,bc,Z,ah⟩:=J.split (by omega);have O:bS bd (w.1.size+1) v y.length us X y:=M.aside bc (fun g D ak=>by have:=(M.lt g D).1;omega) (fun i Y k z ak=>by have:=(M.range i Y k z).1;omega);refine⟨((O.on ah).on K).row,fun g cap a6 D a3=>?_⟩;have a9:=O.step ah a5 (fun k z=>⟨by rw[Z];exact z.1,z.2⟩) K (by rw[Z];exact a8) a6 D a3;have bl:=D.size;have U:=fun k (z:v.ownBlock=some k)=>(O.lt k z);have L:Aside (fun k=>v.ownBlock=some k) w2 w4:=(ae K _).trans (G:=fun k=>v.ownBlock=some k) ⟨D.os,D.tape,D.output,D.size,fun k z a0=>D.block k z (fun I=>a0 I.symm)⟩ (fun _ _ h=>h);have keep:∀k,k<=w.1.size->k≠R->w4.1[k]?=wr.1[k]?:=fun k z a4=>by
  rw[L.block k (by omega) (fun I=>by have:=(U k I).1;omega),J.block k (by omega) a4]
 have aj:Aside (fun i=>i=R) w w4:=by
  refine(h.aside.trans J (fun _ _ h=>h)).trans L (fun i Y I=>?_);have:=(U i I).1;omega
 refine⟨⟨_,_,by rw[List.length_append,List.length_singleton];exact a9⟩,(keep _ xZ (by omega)).trans h.b0,?_,⟨n+j,?_,?_⟩,aj,a2,by omega,by rw[List.length_append,List.length_singleton];omega⟩
 ·exact h.far
 ·rw[<-List.drop_drop];exact a7.aside L (fun k z=>by have:=(U k z).1;omega)
 ·rw[a1,show m-y.length=(m-(y++[x]).length)+1 by rw[List.length_append,List.length_singleton];omega,fM,bb,iL,gF,List.drop_drop]
theorem sP(t:Ty)(U:mK t)(m:Nat)(co:m<=256)(l:L8)(A R:Nat)(w:World)(u:AV)(Z:ej w R u t)(h:Rdr w A R l):Calls Tryz.prog 183 #[.pointer (some ⟨R,0,none⟩),.int .i64 m,.agg u] w (RdA w A R l (Sch.rdN (Sch.rdV t) m l) (pb w)):=by
  obtain⟨a9,bc,bb,c0,b3⟩:=Z.shape;have Y:=xX (mw (m:=m) Z h);have bs:=xX U;have cn:=h.lt;obtain⟨r,a7⟩:∃r,r=Sch.rdN (Sch.rdV t) m l:=⟨_,rfl⟩;rw[<-a7] at Y ⊢;subst b3;unfold al at Y ⊢;clear a7 Z h U;go_enter Tryz.func183,Tryz.ntmps183;go_wp2_with fail;go_loopw [7,9] (fun ci aj wr=>∃(y:List V) (q:OA) (c:Nat),aj=.int .i64 y.length∧ci=.slice q y.length c∧y.length<=m∧Hid (mL w wr A R #[.int .i64 a9,.slice bc bb c0] t m l r y (.slice q y.length c))) (fun _ aj _=>m-(intOf aj).toNat);case atStart=>exact⟨[],none,0,rfl,rfl,Nat.zero_le _,Y.out⟩
  case round=>
    obtain⟨y,q,c,rfl,rfl,cp,z⟩:=hrel;by_cases b1:y.length<m
    · have cj:(y.length:Int)<(m:Int):=(by omega);have bO:wr.cell? ⟨w.1.size,0,none⟩=some (.int .i64 a9):=aa z.out.b0 0;have bT:wr.cell? ⟨w.1.size,1,none⟩=some (.slice bc bb c0):=aa z.out.b0 1;obtain⟨n,D,O⟩:=z.out.left;obtain⟨us,bd,K⟩:=z.out.built;have J:=xX (bs.out (l.drop n) A R wr _ (z.out.far.aside z.out.aside) D);have a1:=xX O;have be:=xX K;obtain⟨b8,ah⟩:∃x,x=Sch.rdV t (l.drop n):=⟨_,rfl⟩;rw[<-ah] at J;have ak:=xX ah;clear D O K ah;cases b8 with
      |error er=>
        have bp:Hid (r=.error er):=by
          show _=_;rw[a1.out,show m-y.length=(m-y.length-1)+1 by omega,fM,<-ak.out];rfl
        go_wp2_with fail;refine J.out.mono ?_;intro e w1 M;obtain⟨L,I⟩:=M.bad;subst L;clear M;have X:=xX (z.out.aside.trans I (fun _ _ h=>h));clear I J;go_wp2;rw[bp.out];exact⟨rfl,rfl,X.out⟩
      |ok xj=>
        obtain⟨x,j⟩:=xj;go_wp2_with fail;refine J.out.mono ?_;intro e w2 M;obtain⟨v,L,U,D,I⟩:=M.good;obtain⟨cq,b5,E⟩:=U.open;clear M U;obtain⟨b7,b6,bN,cc,cb,b9,bX,b4⟩:=E.shape;subst b4;subst b5;subst L;unfold cells5 at E ⊢;have a0:=xX (fun w4=>z.out.next (w4:=w4) be.out b1 a1.out ak.out.symm I E D);have bl:=xX E;have b2:w.1.size+1<=w2.1.size+1:=(by have:=z.out.size;have:=I.size;omega);clear I D E J bO bT
        go_wp2_with (first|(at_builtin;refine ks (B:=w.1.size+1) (us:=us) (v:=.slice q y.length c) (n:=y.length) (a0.out w2).1 (u:=#[.int .i64 b7,.int .i64 b6,.float .f64 bN,.string cc,.slice cb b9 bX]) rfl (vP bl.out) (ad:=w2.1.size) (ag w2 _) (by omega) (by simpa using b2) (H:=w2.1.size+1) (by simp) rfl rfl rfl rfl ?_;intro a3 a2 w4 a8 a4 a6;have bj:=xX ((a0.out w4).2 a3 a2 a8 a4 (by simpa using a6));clear a8 a4 a6))
        go_roundw;case rel=>
          refine⟨y++[x],some ⟨a3,0,none⟩,a2,by simp,by simp,by simp;omega,?_⟩;have:=bj.out;rw[List.length_append,List.length_singleton];exact this
        case measure=>simp[intOf];omega
    · have ck:¬(y.length:Int)<(m:Int):=(by omega);have a5:m-y.length=0:=(by omega);obtain⟨n,D,O⟩:=z.out.left;obtain⟨us,bd,K⟩:=z.out.built;have bq:Hid (r=.ok (y,n)):=by
        show _=_;rw[O,a5,Sch.rdN,glue,List.append_nil,Nat.add_zero]
      have bk:Hid (pb w y (.slice q y.length c) wr):=by
        refine⟨q,c,rfl,fun k=>?_⟩;obtain⟨p2,c2,L,E⟩:=K.done (by omega) k 0 0 ⟨#[]⟩;injection L with e1 e2 e3;subst e1 e3;exact E.mono (fun i b0=>⟨by omega,b0.2⟩)
      have bn:=xX D;have X:=xX z.out.aside;clear D O K z a5;go_wp2;go_ret;rw[bq.out];exact⟨_,rfl,bk.out,bn.out,X.out⟩
end
end Go.Proofs.YtdkammppnkhhoaaGreatDoor

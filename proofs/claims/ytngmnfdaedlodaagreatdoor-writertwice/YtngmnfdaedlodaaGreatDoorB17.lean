import Derived.Test.YtngmnfdaedlodaaGreatDoorB16
import Derived.Test.YtngmnfdaedlodaaGreatDoorC2
import Derived.Deep.RegionLaw
set_option maxRecDepth 100000
set_option maxHeartbeats 2000000
namespace Go.Proofs.YtngmnfdaedlodaaGreatDoor
open Go.Proofs.Tryz
open Option renaming none->I,some->tO
open Go.Value renaming int->U,slice->O,string->mI,float->ox,agg->nx,pointer->mE
open Go.IntKind renaming i64->Y
open Go.Obj renaming cells->qj
open Go.RowKit renaming Hid->AY
open Go renaming World->wv,Value->AQ
open Go.FloatKind renaming f64->qq
open Go.Proofs.Tryz renaming prog->AW
open Except renaming error->qx
variable{A R c m n:Nat}{W w w' w2 w4 wr:wv}{l:L8}{v:AQ}{k:Int}{q:OA}{C0 u:AV}{a:Act}{ops:Array Oper}{o:Oper}{fn:Func}{code:Code}{t x:Ty}
section
open Go.RowKit
theorem Aside.split(h:Aside (fun i=>i=R) w w2)(L:R<w.1.size):∃w1,Aside (fun i=>i=R) w w1∧w1.1.size=w.1.size∧Below w1.1.size w1 w2:=by
 have K:=h.size;refine⟨{ w with heap:=w.1.setIfInBounds R (w2.1[R]'(by omega)) },⟨rfl,rfl,rfl,by simp,fun k y J=>?_⟩,by simp,⟨h.os,h.tape,h.output,by simpa using K,fun k y=>?_⟩⟩
 ·show(w.1.setIfInBounds R _)[k]?=_;rw[Array.getElem?_setIfInBounds_ne (fun e=>J e.symm)]
 ·have D:k<w.1.size:=by simpa using y
  show _=(w.1.setIfInBounds R _)[k]?;by_cases e:k=R
  ·subst e;rw[Array.getElem?_setIfInBounds_self_of_lt D];exact Array.getElem?_eq_getElem _
  ·rw[Array.getElem?_setIfInBounds_ne (fun E=>e E.symm)];exact h.block k D e
theorem iA{y:Act->wv->Prop}{D:Exit->Act->wv->Prop}{J:Prop}{f:FuncId}{u:AQ}{R:Ending->wv->Prop}(x E:Operand)(t a1:TypeId)(X:o.guard=I)(ah:o.op=Op.call { callee:=.value (.func f),args:=#[x,E],argTypes:=#[t,a1] })(aw:a.eval x=u)(a0:a.eval E=v)(V : Tryz.prog.funcs[f]?=tO fn)(ab : (fn.name== "runtime.NumGoroutine")=false)(hb : fn.body=tO code)(M:Calls AW f #[u,v] w R)(L:∀e w',R e w'->∃ch,e=.panicked ch∧D (.panic ch) a w')(v':AQ)(_:AY False->y (a.put o.dst v') w):
  if Region.wanted o (yielded ops a.tmps)=true then Oper.wp AW o a w y D else J:=by
 have ak:Region.wanted o (yielded ops a.tmps)=true:=by simp[Region.wanted,X]
 rw[AK ak];have K : fn.name≠ "runtime.NumGoroutine" := by simpa using ab
 unfold Oper.wp;have Q:(execOp a.eval o).run AW w=.ok (.enter f #[u,v]) w:=by
  have S:a.eval (.func f)=.func (.func f) #[] #[]:=rfl;simp[execOp,ah,resolve,invoke,aw,a0,S,Deferred.ofValue,callFunc,V,K,hb]
 rw[Q,Oper.upon_enter];refine M.mono ?_;intro e w' aj;obtain⟨z,rfl,Z⟩:=L e w' aj;exact Z
theorem bh{y:Act->wv->Prop}{E:Exit->Act->wv->Prop}{D:Prop}(h:AY False)(v':AQ)(_:y (a.put o.dst v') w):
  if Region.wanted o (yielded ops a.tmps)=true then Oper.wp AW o a w y E else D:=h.out.elim
theorem dd{y:Act->wv->Prop}{J:Exit->Act->wv->Prop}{E:Prop}{f:FuncId}{u:AQ}{R:Ending->wv->Prop}(x D:Operand)(t a1:TypeId)(X:o.guard=I)(ah:o.op=Op.call { callee:=.value (.func f),args:=#[x,D],argTypes:=#[t,a1] })(aw:a.eval x=u)(a0:a.eval D=v)(V : Tryz.prog.funcs[f]?=tO fn)(ab : (fn.name== "runtime.NumGoroutine")=false)(hb : fn.body=tO code)(M:Calls AW f #[u,v] w R)(L:∀e w',R e w'->∃z,e=.returned z∧y (a.put o.dst z) w'):
  if Region.wanted o (yielded ops a.tmps)=true then Oper.wp AW o a w y J else E:=by
 have ak:Region.wanted o (yielded ops a.tmps)=true:=by simp[Region.wanted,X]
 rw[AK ak];have K : fn.name≠ "runtime.NumGoroutine" := by simpa using ab
 unfold Oper.wp;have Q:(execOp a.eval o).run AW w=.ok (.enter f #[u,v]) w:=by
  have S:a.eval (.func f)=.func (.func f) #[] #[]:=rfl;simp[execOp,ah,resolve,invoke,aw,a0,S,Deferred.ofValue,callFunc,V,K,hb]
 rw[Q,Oper.upon_enter];refine M.mono ?_;intro e w' aj;obtain⟨z,rfl,Z⟩:=L e w' aj;exact Z
theorem Rdr.drew(h:Rdr w A R l):Rdr w.drew A R l:=h.keep (fun _ _=>rfl) gQx
theorem RdA.undrew{J:Type}{w w':wv}{A R:Nat}{l:L8}{r:Except Nat (J×Nat)}{V:J->AQ->wv->Prop}{e:Ending}(h:RdA w.drew A R l r V e w'):RdA w A R l r V e w':=by
 cases r with
 |error k=>
  obtain⟨E,y⟩:=h.bad;exact⟨E,⟨y.os,y.tape,y.output,y.size,y.block⟩⟩
 |ok aj=>
  obtain⟨a,j⟩:=aj;obtain⟨v,E,y,K,D⟩:=h.good;exact⟨v,E,y,K,⟨D.os,D.tape,D.output,D.size,D.block⟩⟩
def rM(w:wv)(t:Ty)(v:AQ)(w':wv):Prop:=∃u,v=nx u∧bC w' (fun k=>w.1.size<=k∧k<w'.1.size) u t
theorem rM.open(h:rM w t v w'):∃u,v=nx u∧bC w' (fun k=>w.1.size<=k∧k<w'.1.size) u t:=h
theorem td(f:Nat)(c:UInt8)(r:L8):Sch.rdT (f+1) (c::r)=if c.toNat<1∨7<c.toNat then qx 60 else if c.toNat≠6∧c.toNat≠7 then .ok (⟨(c.toNat:Int),[]⟩,1) else ap (Sch.rdT f r) fun t j=>.ok (⟨(c.toNat:Int),[t]⟩,j+1):=by
 rw[Sch.rdT];split
 ·rfl
 ·split
  ·rfl
  ·cases Sch.rdT f r with
   |error e=>rfl
   |ok p=>rfl
theorem ze{T N:Nat}{b:Int}{ab:Ty}{g cap:Nat}{Z:L8}(bk:R<w.1.size)(bi:w.1.size<=N)(bj:N<T)(aw:T<W.1.size)(ak:W.1[T]?=tO (qj #[U Y b,O I 0 0] 99 (0,0)))(ah:W.1[N]?=tO (qj #[U Y 0,O I 0 0] 99 (0,0)))(V:Aside (fun i=>i=R) w W)(J:Aside (fun i=>i=R) W w2)(a5:bC w2 (fun k=>W.1.size<=k∧k<w2.1.size) u ab)(a8:Rdr w2 A R Z)(a7:w4.ownsRow W.1.size 99 2 (O (tO ⟨g,0,I⟩) 1 cap) 1 (flat (fun _=>#[]) 0++u.toList))(D:(w2.alloc (qj u 99)).grownBy w4 I)(a3:g=w2.1.size+1):
  w4.frozen? ⟨T,1,I⟩=false∧w4.cell? ⟨T,1,I⟩=tO (O I 0 0)∧∀w5,w5=w4.setCell ⟨T,1,I⟩ (O (tO ⟨g,0,I⟩) 1 cap)->w5.cell? ⟨T,0,I⟩=tO (U Y b)∧w5.cell? ⟨T,1,I⟩=tO (O (tO ⟨g,0,I⟩) 1 cap) ∧
   w5.1[N]?=tO (qj #[U Y 0,O I 0 0] 99 (0,0))∧bC w5 (fun k=>W.1.size<=k∧k<w5.1.size) (ar b (tO ⟨g,0,I⟩) 1 cap) ⟨b,[ab]⟩∧Rdr w5 A R Z∧Aside (fun i=>i=R) w w5∧W.1.size<=w5.1.size:=by
 have bl:=J.size;have bs:=V.size;have K:Below w2.1.size w2 (w2.alloc (qj u 99)):=gQy;have bn:=K.size;have bp:=D.size;obtain⟨be,bv,X,bc⟩:=J.split (by omega);have bb:=(je be W.1.size).step bc a5 (fun k y=>⟨by rw[X];exact y.1,y.2⟩) K (by rw[X];exact gQx) a7 D (.inr (by rw[a3];simp));obtain⟨p3,c3,a1,a6⟩:=bb.done (by omega) b;injection a1 with e1 e2 e3;subst e1 e3
 -- what stands in w4
 have keep:∀k,k<W.1.size->k≠R->w4.1[k]?=W.1[k]?:=fun k y a4=>by
  rw[D.block k (by omega) (by simp),K.block k (by omega),J.block k y a4]
 have L:w4.1[T]?=tO (qj #[U Y b,O I 0 0] 99 (0,0)):=(keep T aw (by omega)).trans ak;have aj:w4.1[N]?=tO (qj #[U Y 0,O I 0 0] 99 (0,0)):=(keep N (by omega) (by omega)).trans ah;refine⟨ac L 1,aa L 1,fun w5 M=>?_⟩;have E:Aside (fun i=>i=T) w4 w5:=by rw[M];exact al _ _ _ _
 have bq:=E.size;have a9:w5.1.size=w4.1.size:=by rw[M];simp[World.setCell]
 have S:w5.1[T]?=tO (qj #[U Y b,O (tO ⟨g,0,I⟩) 1 cap] 99 (0,0)):=by rw[M,an L 1];rfl
 have Q:Aside (fun _=>False) w2 w4:=(af K (fun _=>False)).trans (G:=fun _=>False) ⟨D.os,D.tape,D.output,D.size,fun k y _=>D.block k y (by simp)⟩ (fun _ _ h=>h);refine⟨aa S 0,aa S 1,?_,?_,?_,?_,by omega⟩
 ·rw[E.block N (by omega) (by omega)];exact aj
 ·rw[a9];exact a6.aside E (fun k y=>by omega)
 ·exact(a8.aside Q (fun _ h=>h.elim)).aside E (fun k y=>by rw[y];omega)
 ·refine((V.trans J (fun _ _ h=>h)).trans Q (fun _ _ h=>h.elim)).trans E (fun i a2 a0=>?_);rw[a0] at a2;omega
theorem zz{b:Int}{F:Nat->Prop}(Q:R<w.1.size)(L:wr.1[w.1.size]?=tO (qj #[U Y 0,O I 0 0] 99 (0,0)))(X:bC wr F (ar b q n c) x)(J:∀k,F k->w.1.size<k∧k<wr.1.size)(Z:Rdr wr A R l)(S:Aside (fun i=>i=R) w wr){w5:wv}(E:w5=(wr.setCell ⟨w.1.size,0,I⟩ (U Y b)).setCell ⟨w.1.size,1,I⟩ (O q n c)):
  w5.1[w.1.size]?=tO (qj (ar b q n c) 99 (0,0))∧rM w x (nx (ar b q n c)) w5∧Rdr w5 A R l∧Aside (fun i=>i=R) w w5:=by
 have M:Aside (fun i=>i=w.1.size) wr (wr.setCell ⟨w.1.size,0,I⟩ (U Y b)):=al _ _ _ _;have D:Aside (fun i=>i=w.1.size) wr w5:=by rw[E];exact M.trans (al _ _ _ _) (fun _ _ h=>h)
 have ab:w5.1.size=wr.1.size:=by rw[E];simp[World.setCell]
 refine⟨?_,⟨_,rfl,?_⟩,Z.aside D (fun k y=>by rw[y];exact Q),S.trans D (fun i V K=>by rw[K] at V;omega)⟩
 ·rw[E,an (an L 0 _) 1];rfl
 ·exact(X.aside D (fun k y K=>by have:=J k y;omega)).mono (fun k y=>by have:=J k y;omega)
theorem vC:∀(f d:Nat) (l:L8) (A R:Nat) (w:wv),d+f=5->Rdr w A R l->Calls AW 160 #[mE (tO ⟨R,0,I⟩),U Y d] w (RdA w A R l (Sch.rdT f l) (rM w)):=by
  intro f;induction f with
  |zero=>
    intro d l A R w hd h;have a5:decide ((d:Int)<=4)=false:=AD (by omega);have Q:AY (Below w.1.size w (w.alloc (qj #[U Y 0,O I 0 0] 99))):=gQy;have J:Sch.rdT 0 l=qx 62:=rfl;rw[J];clear h J;go_enter func160,ntmps160;go_wp2_with fail;try rw[a5]
    refine(cY _ 62 _).mono ?_;rintro e w2 ⟨rfl,y⟩;rw[y];clear y w2;go_wp2;exact⟨rfl,rfl,af Q.out _⟩
  |succ f ih=>
    intro d l A R w hd h;have a5:decide ((d:Int)<=4)=true:=AE (by omega);have ec:(d:Int)<=4:=(by omega);obtain⟨ah,a7⟩:∃ah,ah=w.alloc (qj #[U Y 0,O I 0 0] 99):=⟨_,rfl⟩;have Q:AY (Below w.1.size w ah):=(by rw[a7];exact gQy);have be:AY (ah.1[w.1.size]?=tO (qj #[U Y 0,O I 0 0] 99 (0,0))):=(by rw[a7];exact am w _);have bk:=gQq a7;have V:=gQq (mm 1 l A R ah (h.on Q.out));have bq:=h.lt;have bc:=gQq ih;clear h a7 ih;cases l with
    |nil=>
      have J:aS 1 []=qx 30:=rfl;have b6:Sch.rdT (f+1) []=qx 30:=rfl;rw[J] at V;rw[b6];clear J b6;go_enter func160,ntmps160;go_wp2_with fail;rw[<-bk.out];try rw[a5]
      refine(cX _ 62 _).mono ?_;rintro e w2 ⟨rfl,y⟩;rw[y];clear y w2;go_wp2_with fail;refine V.out.mono ?_;intro e w1 E;obtain⟨X,D⟩:=E.bad;subst X;clear E;have ct:=gQq ((af Q.out _).trans D (fun _ _ h=>h));clear D V;go_wp2;exact⟨rfl,rfl,ct.out⟩
    |cons b t=>
      have J:aS 1 (b::t)=.ok ([b],1):=by
        unfold aS;rw[AJ (by simp)];rfl
      rw[J] at V;obtain⟨r,aj⟩:∃r,r=Sch.rdT (f+1) (b::t):=⟨_,rfl⟩;have a1:=gQq (aj.trans (td f b t));rw[<-aj];clear aj J;have eb:=b.toNat_lt;go_enter func160,ntmps160;go_wp2_with fail;rw[<-bk.out];try rw[a5]
      refine(cX _ 62 _).mono ?_;rintro e w2 ⟨rfl,y⟩;rw[y];clear y w2 bk;go_wp2_with fail;refine V.out.mono ?_;intro e w1 E;obtain⟨v,X,aw,ak,D⟩:=E.good;obtain⟨q,c,bO,b9,-⟩:=aw.open;clear E aw;subst bO;subst X;obtain⟨cy,d4,c7,-,cb⟩:=aO b9 (by simp);subst c7;have c6:w1.cell? ⟨cy,d4,I⟩=tO (U .u8 (b.toNat:Int)):=cb 0 (by simp);have b5:AY (Rdr w1 A R t):=ak;have bX:=gQq ((af Q.out (fun i=>i=R)).trans D (fun _ _ h=>h));have b2:=gQq (ao be.out);have b1:AY (w1.1[w.1.size]?=tO (qj #[U Y 0,O I 0 0] 99 (0,0))):=by
        show _=_;rw[D.block _ b2.out (by omega)];exact be.out
      have cn:w.1.size<w1.1.size:=AF b2.out D.size;clear D b9 ak cb V be Q;obtain⟨W,a6⟩:∃W,W=w1.alloc (qj #[U Y (b.toNat:Int),O I 0 0] 99):=⟨_,rfl⟩;have a8:AY (Below w1.1.size w1 W):=(by rw[a6];exact gQy);have ab:AY (W.1[w1.1.size]?=tO (qj #[U Y (b.toNat:Int),O I 0 0] 99 (0,0))):=(by rw[a6];exact am w1 _);have S:AY (W.1[w.1.size]?=tO (qj #[U Y 0,O I 0 0] 99 (0,0))):=bP b1.out a8.out cn;have Z:=gQq (bX.out.trans (af a8.out (fun _=>False)) (fun _ _ h=>h.elim));have bi:=gQq (b5.out.on a8.out);have co:w1.1.size<W.1.size:=ao ab.out;have a3:=gQq a6;clear a6 b1 bX b5;by_cases bv:b.toNat<1∨7<b.toNat
      · have M:AY (r=qx 60):=a1.out.trans (AK bv);clear a1;rcases bv with bs | bs
        · have b8:decide ((1:Int)<=(b.toNat:Int))=false:=AD (by omega);go_wp2_with fail;rw[<-a3.out];refine(cY _ 60 _).mono ?_;rintro e w2 ⟨rfl,y⟩;rw[y];clear y w2;go_wp2;rw[M.out];exact⟨rfl,rfl,Z.out⟩
        · have b8:decide ((1:Int)<=(b.toNat:Int))=true:=AE (by omega);have bp:decide ((b.toNat:Int)<=7)=false:=AD (by omega);go_wp2_with fail;rw[<-a3.out];refine(cY _ 60 _).mono ?_;rintro e w2 ⟨rfl,y⟩;rw[y];clear y w2;go_wp2;rw[M.out];exact⟨rfl,rfl,Z.out⟩
      have b8:decide ((1:Int)<=(b.toNat:Int))=true:=AE (by omega);have bp:decide ((b.toNat:Int)<=7)=true:=AE (by omega);have a2:=gQq (a1.out.trans (AJ bv));clear a1;go_wp2_with fail;rw[<-a3.out];refine(cX _ 60 _).mono ?_;rintro e w2 ⟨rfl,y⟩;rw[y];clear y w2 a3 c6;have c0:W.cell? ⟨w1.1.size,0,I⟩=tO (U Y (b.toNat:Int)):=aa ab.out 0;have c1:W.cell? ⟨w1.1.size,1,I⟩=tO (O I 0 0):=aa ab.out 1;have d0:W.cell? ⟨w.1.size,0,I⟩=tO (U Y 0):=aa S.out 0;have d1:W.cell? ⟨w.1.size,1,I⟩=tO (O I 0 0):=aa S.out 1;have d2:=ac S.out 0;have d3:=ac S.out 1;have d5:=ac ab.out 1;have b3:=gQq (mS (b.toNat:Int) W);go_wp2_with fail;refine b3.out.mono ?_;rintro e w2 ⟨rfl,y⟩;rw[y];clear y w2 b3;by_cases ea:b.toNat=6∨b.toNat=7
      · have a0:Ty.want (b.toNat:Int)=1:=(by unfold Ty.want;rw[AK (by omega)]);rw[a0];have M:AY (r=ap (Sch.rdT f t) fun t j=>.ok (⟨(b.toNat:Int),[t]⟩,j+1)):=a2.out.trans (AJ (by omega));have b7:IntKind.i64.wrap ((d:Int)+1)=((d+1:Nat):Int):=(by rw[IntKind.wrap_i64];omega);have a9:AY (∀w',Rdr w' A R t->Calls AW 160 #[mE (tO ⟨R,0,I⟩),U Y (IntKind.i64.wrap ((d:Int)+1))] w'.drew (RdA w' A R t (Sch.rdT f t) (rM w'))):=fun w' aj=>by
          rw[b7];exact(bc.out (d+1) t A R w'.drew (by omega) aj.drew).mono fun _ _ h=>h.undrew
        obtain⟨m,cd⟩:∃m,m=Sch.rdT f t:=⟨_,rfl⟩;rw[<-cd] at M a9;clear a0 a2 cd bc b7;cases m with
        |error er=>
          have cv:AY (∀w2,Aside (fun i=>i=R) W w2->RdA w A R (b::t) r (rM w) (.panicked (dl er)) w2):=fun w2 D=>by
            rw[M.out];exact⟨rfl,Z.out.trans D (fun _ _ h=>h)⟩
          go_wp2_with fail;go_loopw [29] (fun L wr=>L=U Y 0∧wr=W) (fun _ _=>0);case atStart=>exact⟨rfl,rfl⟩
          case round=>
            obtain⟨rfl,rfl⟩:=hrel;go_wp2_with fail
            go_region_law (first|(refine iA (.tmp 33) (.tmp 35) 211 3 (by rfl) (by rfl) (by rfl) (by rfl) func160 (by kernel_rfl) (by rfl) (a9.out _ bi.out) (fun e w2 E=>⟨_,E.bad.1,rfl,cv.out w2 E.bad.2⟩) (nx #[U Y 0,O I 0 0]) ?_;intro b0)|(refine bh b0 (O I 0 0) ?_))
            all_goals exact b0.out.elim
        |ok tj=>
          obtain⟨cs,cp⟩:=tj;have bj:AY (r=.ok (⟨(b.toNat:Int),[cs]⟩,cp+1)):=M.out;have d7:=gQq (je W W.1.size);clear M;go_wp2_with fail;go_loopw [29] (fun L wr=>(L=U Y 0∧wr=W)∨(L=U Y 1∧∃q c,wr.cell? ⟨w1.1.size,0,I⟩=tO (U Y (b.toNat:Int))∧wr.cell? ⟨w1.1.size,1,I⟩=tO (O q 1 c)∧AY (wr.1[w.1.size]?=tO (qj #[U Y 0,O I 0 0] 99 (0,0))∧bC wr (fun k=>W.1.size<=k∧k<wr.1.size) (ar (b.toNat:Int) q 1 c) ⟨(b.toNat:Int),[cs]⟩∧Rdr wr A R ((b::t).drop (cp+1))∧Aside (fun i=>i=R) w wr∧W.1.size<=wr.1.size))) (fun L _=>1-(intOf L).toNat);case atStart=>exact .inl ⟨rfl,rfl⟩
          case round=>
            rcases hrel with ⟨rfl,rfl⟩ | ⟨rfl,q,c2,d8,J,K⟩
            · go_wp2_with fail
              go_region_law (first
                | (refine dd (.tmp 33) (.tmp 35) 211 3 (by rfl) (by rfl) (by rfl) (by rfl) func160 (by kernel_rfl) (by rfl) (a9.out _ bi.out) ?_;intro e w2 E;obtain⟨el,X,aw,ak,D⟩:=E.good;obtain⟨u2,bO,bN⟩:=aw.open;clear E aw;obtain⟨cq,p2,cr,c2,c8⟩:=bN.shape;subst c8;subst bO;refine⟨_,X,?_⟩;clear X;unfold ar;have z1:w2.cell? ⟨w1.1.size,1,I⟩=tO (O I 0 0):=by(rw[D.cell co (by show ¬w1.1.size=R;omega)];exact c1)
                   have z2:∀o,(w2.alloc o).cell? ⟨w1.1.size,1,I⟩=tO (O I 0 0):=fun o=>by(rw[World.cell?_alloc_past _ _ _ (by have:=D.size;show w1.1.size<_;omega)];exact z1)
                   have b4:=gQq bN;have cx:=gQq ak;have cu:=gQq D;have d6:AY (Below w2.1.size w2 (w2.alloc (qj #[U Y cq,O p2 cr c2] 99))):=gQy;have eg:=D.size;clear bN ak D)
                | (refine oc (B:=wr.1.size) (us:=fun _=>#[]) (v:=O I 0 0) (n:=0) (World.ownsRow_nil _ _ _ _) (u:=#[U Y cq,O p2 cr c2]) rfl (zR b4.out) (ad:=w2.1.size) (by exact am w2 _) (by omega) (by simp;omega) (H:=w2.1.size+1) (by simp) (.tmp 32) (.tmp 37) (by rfl) (by rfl) (by rfl) (by rfl) ?_;intro bp c5 w4 ck cc cj;obtain⟨a4,d9,ci⟩:=ze (N:=w.1.size) (T:=w1.1.size) bq gQx cn co ab.out S.out Z.out cu.out b4.out cx.out ck cc (cj.resolve_left (by simp[Value.ownBlock]));have cw:=gQq ci;clear ci ck cc cj))
              all_goals
                go_wp2;go_roundw;case rel=>
                  obtain⟨c9,df,dj,dr,ds,du,dv⟩:=cw.out _ rfl;refine .inr ⟨by go_num,tO ⟨bp,0,I⟩,c5,c9,df,dj,dr,?_,du,dv⟩;rw[List.drop_succ_cons];exact ds
                case measure=>simp[intOf]
            · have z0:=aa K.out.1 0;have z1:=aa K.out.1 1;have em:=ac K.out.1 0;have en:=ac K.out.1 1;clear c0 c1 d0 d1 d2 d3 d5;have bb:=gQq (fun w5 bT=>zz (w5:=w5) bq K.out.1 K.out.2.1 (fun k bs=>⟨by omega,bs.2⟩) K.out.2.2.1 K.out.2.2.2.1 bT);go_wp2;obtain⟨f1,bl,bn,a4⟩:=bb.out _ rfl;refine bodyPost_ret (v:=nx (ar (b.toNat:Int) q 1 c2)) (results_cell_row rfl _ _ w.1.size _ _ _ _ rfl f1 underlying99 rfl (by kernel_rfl)) rfl ?_;rw[bj.out];exact⟨_,rfl,bl,bn,a4⟩
      · have a0:Ty.want (b.toNat:Int)=0:=(by unfold Ty.want;rw[AJ (by omega)]);rw[a0];have bj:AY (r=.ok (⟨(b.toNat:Int),[]⟩,1)):=a2.out.trans (AK (by omega));have bb:=gQq (fun w5 bT=>zz (w5:=w5) (b:=(b.toNat:Int)) (q:=I) (n:=0) (c:=0) (x:=⟨(b.toNat:Int),[]⟩) (F:=fun _=>False) bq S.out .none (fun _ h=>h.elim) bi.out Z.out bT);clear a0 a2 bc;go_wp2_with fail;go_loopw [29] (fun L wr=>L=U Y 0∧wr=W) (fun _ _=>0);case atStart=>exact⟨rfl,rfl⟩
        case round=>
          obtain⟨rfl,rfl⟩:=hrel;go_wp2;obtain⟨f1,bl,bn,a4⟩:=bb.out _ rfl;refine bodyPost_ret (v:=nx (ar (b.toNat:Int) I 0 0)) (results_cell_row rfl _ _ w.1.size _ _ _ _ rfl f1 underlying99 rfl (by kernel_rfl)) rfl ?_;rw[bj.out];exact⟨_,rfl,bl,bn,a4⟩
end
section
open Go.RowKit
attribute [local go_sem] ai
def isV(w:wv)(x:V)(v:AQ)(w':wv):Prop:=∃u,v=nx u∧aX w' (fun k=>w.1.size<=k∧k<w'.1.size) u x
theorem isV.open{x:V}(h:isV w x v w'):∃u,v=nx u∧aX w' (fun k=>w.1.size<=k∧k<w'.1.size) u x:=h
def dU(w:wv)(N:Nat)(k i:Int)(b:Nat)(t:ByteArray)(s:AQ):World:=((((w.setCell ⟨N,0,I⟩ (U Y k)).setCell ⟨N,1,I⟩ (U Y i)).setCell ⟨N,2,I⟩ (ox qq b)).setCell ⟨N,3,I⟩ (mI t)).setCell ⟨N,4,I⟩ s
theorem jt(w:wv)(N:Nat)(k i:Int)(b:Nat)(t:ByteArray)(s:AQ):Aside (fun j=>j=N) w (dU w N k i b t s):=by
 have y:Aside (fun j=>j=N) w (w.setCell ⟨N,0,I⟩ (U Y k)):=al _ _ _ _;have D:=y.trans (al _ N 1 (U Y i)) (fun _ _ h=>h);have E:=D.trans (al _ N 2 (ox qq b)) (fun _ _ h=>h);have J:=E.trans (al _ N 3 (mI t)) (fun _ _ h=>h);exact J.trans (al _ N 4 s) (fun _ _ h=>h)
theorem mZ{N:Nat}{C:AV}(h:w.1[N]?=tO (qj C 102 (0,0)))(E:C.size=5)(k i:Int)(b:Nat)(t:ByteArray)(q:OA)(n c:Nat):(dU w N k i b t (O q n c)).1[N]?=tO (qj (cells5 k i b t q n c) 102 (0,0)):=by
 have e:((((C.set! 0 (U Y k)).set! 1 (U Y i)).set! 2 (ox qq b)).set! 3 (mI t)).set! 4 (O q n c)=cells5 k i b t q n c:=by
  obtain⟨D⟩:=C;match D,E with
  | [a0,a1,a2,a3,a4],_=>rfl
 have y:=an (an (an (an (an h 0 (U Y k)) 1 (U Y i)) 2 (ox qq b)) 3 (mI t)) 4 (O q n c);rw[e] at y;exact y
theorem kD(w:wv)(N:Nat)(k i:Int)(b:Nat)(t:ByteArray)(s:AQ):(dU w N k i b t s).1.size=w.1.size:=by simp[dU,World.setCell]
theorem wy{N:Nat}{i:Int}{b:Nat}{t:ByteArray}{x:V}{F:Nat->Prop}(Z:R<w.1.size)(X:w.1.size<=N)(K:wr.1[N]?=tO (qj #[U Y 0,U Y 0,ox qq 0,mI ⟨#[]⟩,O I 0 0] 102 (0,0)))(M:aX wr F (cells5 k i b t q n c) x)(E:∀j,F j->N<j∧j<wr.1.size)(Q:Rdr wr A R l)(L:Aside (fun j=>j=R) w wr):
  (dU wr N k i b t (O q n c)).1[N]?=tO (qj (cells5 k i b t q n c) 102 (0,0))∧isV w x (nx (cells5 k i b t q n c)) (dU wr N k i b t (O q n c))∧Rdr (dU wr N k i b t (O q n c)) A R l∧Aside (fun j=>j=R) w (dU wr N k i b t (O q n c)):=by
 have D:=jt wr N k i b t (O q n c);have S:=kD wr N k i b t (O q n c);refine⟨mZ K rfl k i b t q n c,⟨_,rfl,?_⟩,Q.aside D (fun j y=>by rw[y];omega),L.trans D (fun j y J=>by rw[J] at y;omega)⟩;rw[S];exact(M.aside D (fun j y J=>by have:=E j y;omega)).mono (fun j y=>by have:=E j y;omega)
structure dJ(w W:wv)(A R:Nat)(k:Int)(C0:AV)(l:L8):Prop where
 b0:W.1[w.1.size]?=tO (qj C0 99 (0,0))
 b1:W.1[w.1.size+1]?=tO (qj #[U Y 0,U Y 0,ox qq 0,mI ⟨#[]⟩,O I 0 0] 102 (0,0))
 b2:W.1[w.1.size+1+1]?=tO (qj #[U Y k,U Y 0,ox qq 0,mI ⟨#[]⟩,O I 0 0] 102 (0,0))
 rd:Rdr W A R l
 aside:Aside (fun i=>i=R) w W
 size:w.1.size+3<=W.1.size
theorem bQ(k:Int)(C0:AV){l:L8}(h:Rdr w A R l):dJ w (((w.alloc (qj C0 99)).alloc (qj #[U Y 0,U Y 0,ox qq 0,mI ⟨#[]⟩,O I 0 0] 102)).alloc (qj #[U Y k,U Y 0,ox qq 0,mI ⟨#[]⟩,O I 0 0] 102)) A R k C0 l:=by
 have hb:Below w.1.size w (((w.alloc (qj C0 99)).alloc (qj #[U Y 0,U Y 0,ox qq 0,mI ⟨#[]⟩,O I 0 0] 102)).alloc (qj #[U Y k,U Y 0,ox qq 0,mI ⟨#[]⟩,O I 0 0] 102)):=(gQy.alloc (by simp) _).alloc (by simp;omega) _;refine⟨?_,?_,?_,h.on hb,af hb _,by simp⟩
 ·rw[ax _ _ (by simp;omega),ax _ _ (by simp)];exact am w _
 ·rw[ax _ _ (by simp)];have:=am (w.alloc (qj C0 99)) (qj #[U Y 0,U Y 0,ox qq 0,mI ⟨#[]⟩,O I 0 0] 102);simpa using this
 ·have:=am ((w.alloc (qj C0 99)).alloc (qj #[U Y 0,U Y 0,ox qq 0,mI ⟨#[]⟩,O I 0 0] 102)) (qj #[U Y k,U Y 0,ox qq 0,mI ⟨#[]⟩,O I 0 0] 102);simpa using this
theorem dJ.step{D:wv}{l':L8}(h:dJ w W A R k C0 l)(y:Aside (fun i=>i=R) W D)(E:Rdr D A R l')(K:R<w.1.size):dJ w D A R k C0 l':=by
 have J:=h.size;refine⟨?_,?_,?_,E,h.aside.trans y (fun _ _ h=>h),AG J y.size⟩
 ·rw[y.block _ (by omega) (by omega)];exact h.b0
 ·rw[y.block _ (by omega) (by omega)];exact h.b1
 ·rw[y.block _ (by omega) (by omega)];exact h.b2
theorem dJ.fin(h:dJ w W A R k C0 l)(E:R<w.1.size)(m:Nat)(u:AQ)(i:Int)(b:Nat)(t:ByteArray):
  (dU (W.setCell ⟨w.1.size+1+1,m,I⟩ u) (w.1.size+1) k i b t (O I 0 0)).1[w.1.size+1]?=tO (qj (cells5 k i b t I 0 0) 102 (0,0))∧isV w (.mk k i b t []) (nx (cells5 k i b t I 0 0)) (dU (W.setCell ⟨w.1.size+1+1,m,I⟩ u) (w.1.size+1) k i b t (O I 0 0))∧Rdr (dU (W.setCell ⟨w.1.size+1+1,m,I⟩ u) (w.1.size+1) k i b t (O I 0 0)) A R l∧Aside (fun j=>j=R) w (dU (W.setCell ⟨w.1.size+1+1,m,I⟩ u) (w.1.size+1) k i b t (O I 0 0)):=by
 have y:Aside (fun i=>i=w.1.size+1+1) W (W.setCell ⟨w.1.size+1+1,m,I⟩ u):=al _ _ _ _;have K:=h.size;refine wy (F:=fun _=>False) E (by omega) ?_ .none (fun _ h=>h.elim) (h.rd.aside y (fun j D=>by rw[D];omega)) (h.aside.trans y (fun j D J=>by rw[J] at D;omega));rw[y.block _ (by omega) (by omega)];exact h.b1
theorem mC(l:L8):Sch.scalar 1 l=ap (Sch.bit l) fun n j=>.ok (.mk 1 n 0 ⟨#[]⟩ [],j):=by
 unfold Sch.scalar;rw[AK rfl];cases Sch.bit l with
 |error e=>rfl
 |ok p=>rfl
theorem mB(l:L8):Sch.scalar 2 l=ap (Sch.num l) fun n j=>.ok (.mk 2 (Leb.zag n) 0 ⟨#[]⟩ [],j):=by
 unfold Sch.scalar;rw[AJ (by decide),AK rfl];cases Sch.num l with
 |error e=>rfl
 |ok p=>rfl
theorem mz(l:L8):Sch.scalar 3 l=ap (Sch.float l) fun n j=>.ok (.mk 3 0 n ⟨#[]⟩ [],j):=by
 unfold Sch.scalar;rw[AJ (by decide),AJ (by decide),AK rfl];cases Sch.float l with
 |error e=>rfl
 |ok p=>rfl
theorem my(l:L8):Sch.scalar 4 l=ap (Sch.text 1024 2 l) fun t j=>if dN t=false then qx 61 else .ok (.mk 4 0 0 t [],j):=by
 unfold Sch.scalar;rw[AJ (by decide),AJ (by decide),AJ (by decide)];cases Sch.text 1024 2 l with
 |error e=>rfl
 |ok p=>
  obtain⟨t,j⟩:=p;rw[aH];dsimp only;by_cases h:dN t=false
  ·rw[AK ⟨rfl,h⟩,AK h]
  ·rw[AJ (fun y=>h y.2),AJ h]
theorem mw(l:L8):Sch.scalar 5 l=ap (Sch.text 1024 2 l) fun t j=>.ok (.mk 5 0 0 t [],j):=by
 unfold Sch.scalar;rw[AJ (by decide),AJ (by decide),AJ (by decide)];cases Sch.text 1024 2 l with
 |error e=>rfl
 |ok p=>
  obtain⟨t,j⟩:=p;rw[aH];dsimp only;rw[AJ (fun y=>by have:=y.1;omega)]
theorem vv(l:L8)(A R:Nat)(w:wv)(p:OA)(n c:Nat)(h:Rdr w A R l):Calls AW 162 #[mE (tO ⟨R,0,I⟩),nx #[U Y 1,O p n c]] w (RdA w A R l (Sch.scalar 1 l) (isV w)):=by
 have ah:=h.lt;obtain⟨W,S⟩:∃W,W=((w.alloc (qj #[U Y 1,O p n c] 99)).alloc (qj #[U Y 0,U Y 0,ox qq 0,mI ⟨#[]⟩,O I 0 0] 102)).alloc (qj #[U Y 1,U Y 0,ox qq 0,mI ⟨#[]⟩,O I 0 0] 102):=⟨_,rfl⟩;have L:AY (dJ w W A R 1 #[U Y 1,O p n c] l):=by rw[S];exact bQ 1 _ h
 have Q:=gQq S;obtain⟨r,Z⟩:∃r,r=Sch.scalar 1 l:=⟨_,rfl⟩;have E:=gQq (Z.trans (mC l));rw[<-Z];have D:=gQq (uo l A R W L.out.rd);obtain⟨m,X⟩:∃m,m=Sch.bit l:=⟨_,rfl⟩;rw[<-X] at E D;have a3:=gQq X;clear Z X h S;cases m with
 |error er=>
  have M:AY (r=qx er):=E.out;clear E;go_enter func162,ntmps162;go_wp2_with fail;rw[<-Q.out];refine D.out.mono ?_;intro e w1 K;obtain⟨V,J⟩:=K.bad;subst V;clear K;have ak:=gQq (L.out.aside.trans J (fun _ _ h=>h));clear J D;go_wp2;rw[M.out];exact⟨rfl,rfl,ak.out⟩
 |ok xj=>
  obtain⟨x,j⟩:=xj;have M:AY (r=.ok (.mk 1 (x:Nat) 0 ⟨#[]⟩ [],j)):=E.out;clear E;go_enter func162,ntmps162;go_wp2_with fail;rw[<-Q.out];refine D.out.mono ?_;intro e w1 K;obtain⟨v,V,ab,aj,J⟩:=K.good;clear K
  replace ab:v=U Y (x:Nat):=ab
  subst ab;subst V;have y:=gQq (L.out.step J aj ah);clear J aj D Q L;obtain⟨a4,a5,a6,a7,a8⟩:=cQ5 y.out.b2;obtain⟨bj,bk,bl,bn,bp⟩:=cQ5 y.out.b1;have a9:=ac y.out.b2 0;have bb:=ac y.out.b2 1;have bc:=ac y.out.b2 2;have be:=ac y.out.b2 3;have bi:=ac y.out.b2 4;have bq:=ac y.out.b1 0;have bs:=ac y.out.b1 1;have bv:=ac y.out.b1 2;have bN:=ac y.out.b1 3;have bO:=ac y.out.b1 4;have aw:=gQq (y.out.fin ah 1 (U Y (x:Nat)) (x:Nat) 0 ⟨#[]⟩);go_wp2;obtain⟨f1,a0,a1,a2⟩:=aw.out;refine bodyPost_ret (v:=nx (cells5 1 (x:Nat) 0 ⟨#[]⟩ I 0 0)) (results_cell_row rfl _ _ (w.1.size+1) _ _ _ _ rfl f1 underlying102 rfl (by kernel_rfl)) rfl ?_;rw[M.out];exact⟨_,rfl,a0,a1,a2⟩
theorem vq(l:L8)(A R:Nat)(w:wv)(p:OA)(n c:Nat)(h:Rdr w A R l):Calls AW 162 #[mE (tO ⟨R,0,I⟩),nx #[U Y 3,O p n c]] w (RdA w A R l (Sch.scalar 3 l) (isV w)):=by
 have ah:=h.lt;obtain⟨W,S⟩:∃W,W=((w.alloc (qj #[U Y 3,O p n c] 99)).alloc (qj #[U Y 0,U Y 0,ox qq 0,mI ⟨#[]⟩,O I 0 0] 102)).alloc (qj #[U Y 3,U Y 0,ox qq 0,mI ⟨#[]⟩,O I 0 0] 102):=⟨_,rfl⟩;have L:AY (dJ w W A R 3 #[U Y 3,O p n c] l):=by rw[S];exact bQ 3 _ h
 have Q:=gQq S;obtain⟨r,Z⟩:∃r,r=Sch.scalar 3 l:=⟨_,rfl⟩;have E:=gQq (Z.trans (mz l));rw[<-Z];have D:=gQq (yn l A R W L.out.rd);obtain⟨m,X⟩:∃m,m=Sch.float l:=⟨_,rfl⟩;rw[<-X] at E D;have a3:=gQq X;clear Z X h S;cases m with
 |error er=>
  have M:AY (r=qx er):=E.out;clear E;go_enter func162,ntmps162;go_wp2_with fail;rw[<-Q.out];refine D.out.mono ?_;intro e w1 K;obtain⟨V,J⟩:=K.bad;subst V;clear K;have ak:=gQq (L.out.aside.trans J (fun _ _ h=>h));clear J D;go_wp2;rw[M.out];exact⟨rfl,rfl,ak.out⟩
 |ok xj=>
  obtain⟨x,j⟩:=xj;have M:AY (r=.ok (.mk 3 0 x ⟨#[]⟩ [],j)):=E.out;clear E;go_enter func162,ntmps162;go_wp2_with fail;rw[<-Q.out];refine D.out.mono ?_;intro e w1 K;obtain⟨v,V,ab,aj,J⟩:=K.good;clear K
  replace ab:v=ox qq x:=ab
  subst ab;subst V;have y:=gQq (L.out.step J aj ah);clear J aj D Q L;obtain⟨a4,a5,a6,a7,a8⟩:=cQ5 y.out.b2;obtain⟨bj,bk,bl,bn,bp⟩:=cQ5 y.out.b1;have a9:=ac y.out.b2 0;have bb:=ac y.out.b2 1;have bc:=ac y.out.b2 2;have be:=ac y.out.b2 3;have bi:=ac y.out.b2 4;have bq:=ac y.out.b1 0;have bs:=ac y.out.b1 1;have bv:=ac y.out.b1 2;have bN:=ac y.out.b1 3;have bO:=ac y.out.b1 4;have aw:=gQq (y.out.fin ah 2 (ox qq x) 0 x ⟨#[]⟩);go_wp2;obtain⟨f1,a0,a1,a2⟩:=aw.out;refine bodyPost_ret (v:=nx (cells5 3 0 x ⟨#[]⟩ I 0 0)) (results_cell_row rfl _ _ (w.1.size+1) _ _ _ _ rfl f1 underlying102 rfl (by kernel_rfl)) rfl ?_;rw[M.out];exact⟨_,rfl,a0,a1,a2⟩
theorem vm(l:L8)(A R:Nat)(w:wv)(p:OA)(n c:Nat)(h:Rdr w A R l):Calls AW 162 #[mE (tO ⟨R,0,I⟩),nx #[U Y 5,O p n c]] w (RdA w A R l (Sch.scalar 5 l) (isV w)):=by
 have ah:=h.lt;obtain⟨W,S⟩:∃W,W=((w.alloc (qj #[U Y 5,O p n c] 99)).alloc (qj #[U Y 0,U Y 0,ox qq 0,mI ⟨#[]⟩,O I 0 0] 102)).alloc (qj #[U Y 5,U Y 0,ox qq 0,mI ⟨#[]⟩,O I 0 0] 102):=⟨_,rfl⟩;have L:AY (dJ w W A R 5 #[U Y 5,O p n c] l):=by rw[S];exact bQ 5 _ h
 have Q:=gQq S;obtain⟨r,Z⟩:∃r,r=Sch.scalar 5 l:=⟨_,rfl⟩;have E:=gQq (Z.trans (mw l));rw[<-Z];have D:=gQq (wX l A R W L.out.rd);obtain⟨m,X⟩:∃m,m=Sch.text 1024 2 l:=⟨_,rfl⟩;rw[<-X] at E D;have a3:=gQq X;clear Z X h S;cases m with
 |error er=>
  have M:AY (r=qx er):=E.out;clear E;go_enter func162,ntmps162;go_wp2_with fail;rw[<-Q.out];refine D.out.mono ?_;intro e w1 K;obtain⟨V,J⟩:=K.bad;subst V;clear K;have ak:=gQq (L.out.aside.trans J (fun _ _ h=>h));clear J D;go_wp2;rw[M.out];exact⟨rfl,rfl,ak.out⟩
 |ok xj=>
  obtain⟨x,j⟩:=xj;have M:AY (r=.ok (.mk 5 0 0 x [],j)):=E.out;clear E;go_enter func162,ntmps162;go_wp2_with fail;rw[<-Q.out];refine D.out.mono ?_;intro e w1 K;obtain⟨v,V,ab,aj,J⟩:=K.good;clear K
  replace ab:v=mI x:=ab
  subst ab;subst V;have y:=gQq (L.out.step J aj ah);clear J aj D Q L;obtain⟨a4,a5,a6,a7,a8⟩:=cQ5 y.out.b2;obtain⟨bj,bk,bl,bn,bp⟩:=cQ5 y.out.b1;have a9:=ac y.out.b2 0;have bb:=ac y.out.b2 1;have bc:=ac y.out.b2 2;have be:=ac y.out.b2 3;have bi:=ac y.out.b2 4;have bq:=ac y.out.b1 0;have bs:=ac y.out.b1 1;have bv:=ac y.out.b1 2;have bN:=ac y.out.b1 3;have bO:=ac y.out.b1 4;have aw:=gQq (y.out.fin ah 3 (mI x) 0 0 x);go_wp2;obtain⟨f1,a0,a1,a2⟩:=aw.out;refine bodyPost_ret (v:=nx (cells5 5 0 0 x I 0 0)) (results_cell_row rfl _ _ (w.1.size+1) _ _ _ _ rfl f1 underlying102 rfl (by kernel_rfl)) rfl ?_;rw[M.out];exact⟨_,rfl,a0,a1,a2⟩
theorem vu(l:L8)(A R:Nat)(w:wv)(p:OA)(n c:Nat)(h:Rdr w A R l):Calls AW 162 #[mE (tO ⟨R,0,I⟩),nx #[U Y 2,O p n c]] w (RdA w A R l (Sch.scalar 2 l) (isV w)):=by
 have ak:=h.lt;obtain⟨W,V⟩:∃W,W=((w.alloc (qj #[U Y 2,O p n c] 99)).alloc (qj #[U Y 0,U Y 0,ox qq 0,mI ⟨#[]⟩,O I 0 0] 102)).alloc (qj #[U Y 2,U Y 0,ox qq 0,mI ⟨#[]⟩,O I 0 0] 102):=⟨_,rfl⟩;have L:AY (dJ w W A R 2 #[U Y 2,O p n c] l):=by rw[V];exact bQ 2 _ h
 have Q:=gQq V;obtain⟨r,ab⟩:∃r,r=Sch.scalar 2 l:=⟨_,rfl⟩;have E:=gQq (ab.trans (mB l));rw[<-ab];have D:=gQq (pZ l A R W L.out.rd);obtain⟨m,Z⟩:∃m,m=Sch.num l:=⟨_,rfl⟩;rw[<-Z] at E D;have aj:=gQq Z;clear ab Z h V;cases m with
 |error er=>
  have M:AY (r=qx er):=E.out;clear E;go_enter func162,ntmps162;go_wp2_with fail;rw[<-Q.out];refine D.out.mono ?_;intro e w1 K;obtain⟨X,J⟩:=K.bad;subst X;clear K;have a2:=gQq (L.out.aside.trans J (fun _ _ h=>h));clear J D;go_wp2;rw[M.out];exact⟨rfl,rfl,a2.out⟩
 |ok xj=>
  obtain⟨x,j⟩:=xj;have M:AY (r=.ok (.mk 2 (Leb.zag x) 0 ⟨#[]⟩ [],j)):=E.out;clear E;go_enter func162,ntmps162;go_wp2_with fail;rw[<-Q.out];refine D.out.mono ?_;intro e w1 K;obtain⟨v,X,ah,aw,J⟩:=K.good;clear K
  replace ah:v=U .u64 (x:Nat):=ah
  subst ah;subst X;have y:=gQq (L.out.step J aw ak);clear J aw D Q L;have S:=gQq (pM x (eW aj.out.symm).2);obtain⟨z,a1⟩:∃z,z=Leb.zag x:=⟨_,rfl⟩;rw[<-a1] at S M;clear a1 aj;go_wp2_with fail;refine(S.out _).mono ?_;rintro e w2 ⟨rfl,a0⟩;rw[a0];clear a0 w2 S;obtain⟨a7,a8,a9,bb,bc⟩:=cQ5 y.out.b2;obtain⟨bn,bp,bq,bs,bv⟩:=cQ5 y.out.b1;have be:=ac y.out.b2 0;have bi:=ac y.out.b2 1;have bj:=ac y.out.b2 2;have bk:=ac y.out.b2 3;have bl:=ac y.out.b2 4;have bN:=ac y.out.b1 0;have bO:=ac y.out.b1 1;have bT:=ac y.out.b1 2;have bX:=ac y.out.b1 3;have b0:=ac y.out.b1 4;have a3:=gQq (y.out.fin ak 1 (U Y z) z 0 ⟨#[]⟩);go_wp2;obtain⟨f1,a4,a5,a6⟩:=a3.out;refine bodyPost_ret (v:=nx (cells5 2 z 0 ⟨#[]⟩ I 0 0)) (results_cell_row rfl _ _ (w.1.size+1) _ _ _ _ rfl f1 underlying102 rfl (by kernel_rfl)) rfl ?_;rw[M.out];exact⟨_,rfl,a4,a5,a6⟩
end
section
open Go.RowKit
attribute [local go_sem] ai
structure eJ(w:wv)(R:Nat)(u:AV)(t:Ty):Prop where
 out:∃F:Nat->Prop,bC w F u t∧∀k,F k->R<k∧k<w.1.size
theorem eJ.aside(h:eJ w R u t)(E:Aside (fun i=>i=R) w w'):eJ w' R u t:=by
 obtain⟨F,J,D⟩:=h.out;have L:=E.size;exact⟨F,J.aside E (fun k y K=>by have:=D k y;omega),fun k y=>⟨(D k y).1,by have:=D k y;omega⟩⟩
theorem eJ.on(h:eJ w R u t)(hb:Below w.1.size w w'):eJ w' R u t:=by
 obtain⟨F,E,D⟩:=h.out;have J:=hb.size;exact⟨F,E.under hb (fun k y=>(D k y).2),fun k y=>⟨(D k y).1,by have:=D k y;omega⟩⟩
theorem eJ.one(h:eJ w R u (.mk k [x])):∃g D c k' q n' E,u=ar k (tO ⟨g,D,I⟩) 1 c∧eJ w R (ar k' q n' E) x∧R<g∧g<w.1.size∧w.cell? ⟨g,D,I⟩=tO (U Y k')∧w.cell? ⟨g,D+1,I⟩=tO (O q n' E):=by
 obtain⟨F,S,K⟩:=h.out;rcases S.inv with ⟨X,p,c,L,y⟩ | ⟨X,g,D,c,xs,us,Q,L,y,s⟩
 ·simp only[Ty.mk.injEq] at y;exact absurd y.2 (by simp)
 ·simp only[Ty.mk.injEq] at y;obtain⟨rfl,rfl⟩:=y;have J:=s.hr 0 (by simp);obtain⟨k',q,n',E,M⟩:=J.shape;have c0:=s.hp.2 0 (by simp) 0 (by omega);have c1:=s.hp.2 0 (by simp) 1 (by omega);rw[M] at c0 c1;rw[M] at J;exact⟨g,D,c,k',q,n',E,L,⟨Q 0,J,fun j V=>K j (s.hs 0 (by simp) j V)⟩,(K g s.hg).1,s.hp.1,by simpa[ar] using c0,by simpa[ar] using c1⟩
theorem eJ.shape(h:eJ w R u t):∃k p n c,u=ar k p n c:=by
 obtain⟨F,y,_⟩:=h.out;exact y.shape
def kH(w:wv)(vs:List V)(v:AQ)(w':wv):Prop:=∃q c,v=O q vs.length c∧∀k,aX w' (fun i=>w.1.size<=i∧i<w'.1.size) (cells5 k 0 0 ⟨#[]⟩ q vs.length c) (.mk k 0 0 ⟨#[]⟩ vs)
theorem kH.open{y:List V}(h:kH w y v w'):∃q c,v=O q y.length c∧∀k,aX w' (fun i=>w.1.size<=i∧i<w'.1.size) (cells5 k 0 0 ⟨#[]⟩ q y.length c) (.mk k 0 0 ⟨#[]⟩ y):=h
def nJ(t:Ty):Prop:=∀(l:L8) (A R:Nat) (w:wv) (u:AV),eJ w R u t->Rdr w A R l->Calls AW 162 #[mE (tO ⟨R,0,I⟩),nx u] w (RdA w A R l (Sch.rdV t l) (isV w))
structure nM(w wr:wv)(A R:Nat)(u:AV)(t:Ty)(m:Nat)(l:L8)(r:Except Nat (List V×Nat))(ys:List V)(v:AQ):Prop where
 built:∃us Fs,ba wr (w.1.size+1) v ys.length us Fs ys
 b0:wr.1[w.1.size]?=tO (qj u 99 (0,0))
 far:eJ w R u t
 left:∃n,Rdr wr A R (l.drop n)∧r=glue ys n (Sch.rdN (Sch.rdV t) (m-ys.length) (l.drop n))
 aside:Aside (fun i=>i=R) w wr
 low:R<w.1.size
 size:w.1.size+1<=wr.1.size
 len:ys.length<=m
theorem nc(y:eJ w R u t)(h:Rdr w A R l):nM w (w.alloc (qj u 99)) A R u t m l (Sch.rdN (Sch.rdV t) m l) [] (O I 0 0):=by
 have hb:Below w.1.size w (w.alloc (qj u 99)):=gQy;refine⟨⟨_,_,im _ _⟩,am w _,y,⟨0,h.on hb,?_⟩,af hb _,h.lt,by simp,Nat.zero_le _⟩;rw[List.drop_zero,List.length_nil,Nat.sub_zero];cases Sch.rdN (Sch.rdV t) m l with
 |error e=>rfl
 |ok p=>simp[glue]
theorem nM.next{r:Except Nat (List V×Nat)}{y:List V}{v:AQ}(h:nM w wr A R u t m l r y v){us:Nat->AV}{ab:Nat->Nat->Prop}(S:ba wr (w.1.size+1) v y.length us ab y){n j:Nat}{x:V}{J:AV}(bj:y.length<m)(a2:r=glue y n (Sch.rdN (Sch.rdV t) (m-y.length) (l.drop n)))(bc:Sch.rdV t (l.drop n)=.ok (x,j))(L:Aside (fun i=>i=R) wr w2)(a6:aX w2 (fun k=>wr.1.size<=k∧k<w2.1.size) J x)(a8:Rdr w2 A R ((l.drop n).drop j)):
  (w2.alloc (qj J 102)).ownsRow (w.1.size+1) 102 5 v y.length (flat us y.length) ∧
  ∀g cap,w4.ownsRow (w.1.size+1) 102 5 (O (tO ⟨g,0,I⟩) (y.length+1) cap) (y.length+1) (flat us y.length++J.toList)->(w2.alloc (qj J 102)).grownBy w4 v.ownBlock->(v.ownBlock=tO g∨g=(w2.alloc (qj J 102)).1.size) ->
   nM w w4 A R u t m l r (y++[x]) (O (tO ⟨g,0,I⟩) (y.length+1) cap):=by
 have a9:=h.size;have a3:=h.low;have bk:=L.size;have M:Below w2.1.size w2 (w2.alloc (qj J 102)):=gQy;have bl:=M.size;obtain⟨bi,be,aj,ak⟩:=L.split (by omega);have X:ba bi (w.1.size+1) v y.length us ab y:=S.aside be (fun g E a0=>by have:=(S.lt g E).1;omega) (fun i ah k D a0=>by have:=(S.range i ah k D).1;omega);refine⟨((X.on ak).on M).row,fun g cap a7 E a4=>?_⟩;have bb:=X.step ak a6 (fun k D=>⟨by rw[aj];exact D.1,D.2⟩) M (by rw[aj];exact a9) a7 E a4;have bn:=E.size;have Z:=fun k (D:v.ownBlock=tO k)=>(X.lt k D);have Q:Aside (fun k=>v.ownBlock=tO k) w2 w4:=(af M _).trans (G:=fun k=>v.ownBlock=tO k) ⟨E.os,E.tape,E.output,E.size,fun k D a1=>E.block k D (fun K=>a1 K.symm)⟩ (fun _ _ h=>h);have keep:∀k,k<=w.1.size->k≠R->w4.1[k]?=wr.1[k]?:=fun k D a5=>by
  rw[Q.block k (by omega) (fun K=>by have:=(Z k K).1;omega),L.block k (by omega) a5]
 have aw:Aside (fun i=>i=R) w w4:=by
  refine(h.aside.trans L (fun _ _ h=>h)).trans Q (fun i ah K=>?_);have:=(Z i K).1;omega
 refine⟨⟨_,_,by rw[AU,AC];exact bb⟩,(keep _ gQx (by omega)).trans h.b0,?_,⟨n+j,?_,?_⟩,aw,a3,by omega,by rw[AU,AC];omega⟩
 ·exact h.far
 ·rw[<-AI];exact a8.aside Q (fun k D=>by have:=(Z k D).1;omega)
 ·rw[a2,show m-y.length=(m-(y++[x]).length)+1 by rw[AU,AC];omega,gy,bc,pT,ig,AI]
theorem tZ(t:Ty)(Z:nJ t)(m:Nat)(cj:m<=256)(l:L8)(A R:Nat)(w:wv)(u:AV)(aj:eJ w R u t)(h:Rdr w A R l):Calls AW 183 #[mE (tO ⟨R,0,I⟩),U Y m,nx u] w (RdA w A R l (Sch.rdN (Sch.rdV t) m l) (kH w)):=by
  obtain⟨bb,be,bc,c0,b3⟩:=aj.shape;have ah:=gQq (nc (m:=m) aj h);have bv:=gQq Z;have ci:=h.lt;obtain⟨r,a8⟩:∃r,r=Sch.rdN (Sch.rdV t) m l:=⟨_,rfl⟩;rw[<-a8] at ah ⊢;subst b3;unfold ar at ah ⊢;clear a8 aj h Z;go_enter func183,ntmps183;go_wp2_with fail;go_loopw [7,9] (fun cb aw wr=>∃(y:List V) (q:OA) (c:Nat),aw=U Y y.length∧cb=O q y.length c∧y.length<=m∧AY (nM w wr A R #[U Y bb,O be bc c0] t m l r y (O q y.length c))) (fun _ aw _=>m-(intOf aw).toNat);case atStart=>exact⟨[],I,0,rfl,rfl,Nat.zero_le _,ah.out⟩
  case round=>
    obtain⟨y,q,c,rfl,rfl,ck,D⟩:=hrel;by_cases b1:y.length<m
    · have cc:(y.length:Int)<(m:Int):=(by omega);have bO:wr.cell? ⟨w.1.size,0,I⟩=tO (U Y bb):=aa D.out.b0 0;have bT:wr.cell? ⟨w.1.size,1,I⟩=tO (O be bc c0):=aa D.out.b0 1;obtain⟨n,E,X⟩:=D.out.left;obtain⟨us,bi,M⟩:=D.out.built;have L:=gQq (bv.out (l.drop n) A R wr _ (D.out.far.aside D.out.aside) E);have a2:=gQq X;have bj:=gQq M;obtain⟨b7,ak⟩:∃x,x=Sch.rdV t (l.drop n):=⟨_,rfl⟩;rw[<-ak] at L;have a0:=gQq ak;clear E X M ak;cases b7 with
      |error er=>
        have bq:AY (r=qx er):=by
          show _=_;rw[a2.out,show m-y.length=(m-y.length-1)+1 by omega,gy,<-a0.out];rfl
        go_wp2_with fail;refine L.out.mono ?_;intro e w1 S;obtain⟨Q,K⟩:=S.bad;subst Q;clear S;have ab:=gQq (D.out.aside.trans K (fun _ _ h=>h));clear K L;go_wp2;rw[bq.out];exact⟨rfl,rfl,ab.out⟩
      |ok xj=>
        obtain⟨x,j⟩:=xj;go_wp2_with fail;refine L.out.mono ?_;intro e w2 S;obtain⟨v,Q,Z,E,K⟩:=S.good;obtain⟨cn,b5,J⟩:=Z.open;clear S Z;obtain⟨k',b6,bN,b9,b8,n',bX,b4⟩:=J.shape;subst b4;subst b5;subst Q;unfold cells5 at J ⊢;have a1:=gQq (fun w4=>D.out.next (w4:=w4) bj.out b1 a2.out a0.out.symm K J E);have bn:=gQq J;have b2:w.1.size+1<=w2.1.size+1:=(by have:=D.out.size;have:=K.size;omega);clear K E J L bO bT
        go_wp2_with (first|(at_builtin;refine pO (B:=w.1.size+1) (us:=us) (v:=O q y.length c) (n:=y.length) (a1.out w2).1 (u:=#[U Y k',U Y b6,ox qq bN,mI b9,O b8 n' bX]) rfl (yY bn.out) (ad:=w2.1.size) (am w2 _) (by omega) (by simpa using b2) (H:=w2.1.size+1) (by simp) rfl rfl rfl rfl ?_;intro a4 a3 w4 a9 a5 a7;have bk:=gQq ((a1.out w4).2 a4 a3 a9 a5 (by simpa using a7));clear a9 a5 a7))
        go_roundw;case rel=>
          refine⟨y++[x],tO ⟨a4,0,I⟩,a3,by simp,by simp,by simp;omega,?_⟩;have:=bk.out;rw[AU,AC];exact this
        case measure=>simp[intOf];omega
    · have cd:¬(y.length:Int)<(m:Int):=(by omega);have a6:m-y.length=0:=(by omega);obtain⟨n,E,X⟩:=D.out.left;obtain⟨us,bi,M⟩:=D.out.built;have bs:AY (r=.ok (y,n)):=by
        show _=_;rw[X,a6,Sch.rdN,glue,AH,Nat.add_zero]
      have bl:AY (kH w y (O q y.length c) wr):=by
        refine⟨q,c,rfl,fun k=>?_⟩;obtain⟨p2,c2,Q,J⟩:=M.done (by omega) k 0 0 ⟨#[]⟩;injection Q with e1 e2 e3;subst e1 e3;exact J.mono (fun i b0=>⟨by omega,b0.2⟩)
      have bp:=gQq E;have ab:=gQq D.out.aside;clear E X M D a6;go_wp2;go_ret;rw[bs.out];exact⟨_,rfl,bl.out,bp.out,ab.out⟩
end
end Go.Proofs.YtngmnfdaedlodaaGreatDoor

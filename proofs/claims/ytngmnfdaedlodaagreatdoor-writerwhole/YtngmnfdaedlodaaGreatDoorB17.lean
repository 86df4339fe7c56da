import Derived.Test.YtngmnfdaedlodaaGreatDoorB16
import Derived.Test.YtngmnfdaedlodaaGreatDoorC2
import Derived.Deep.RegionLaw
set_option maxRecDepth 100000
set_option maxHeartbeats 2000000
namespace Go.Proofs.YtngmnfdaedlodaaGreatDoor
open Go.Proofs.Tryz
open Option renaming none->I,some->AW
open Go.Value renaming int->U,slice->O,string->qj,float->sq,agg->qx,pointer->qq
open Go.IntKind renaming i64->Y
open Go.Obj renaming cells->wx
open Go.RowKit renaming Hid->AD
open Go renaming World->AU,Value->AA
open Go.FloatKind renaming f64->ux
open Go.Proofs.Tryz renaming prog->AE
open Except renaming error->AQ
variable{A R c m n:Nat}{W w w' w2 w4 wr:AU}{l:L8}{v:AA}{k:Int}{q:OA}{C0 u:AV}{a:Act}{ops:Array Oper}{o:Oper}{fn:Func}{code:Code}{t x:Ty}
section
open Go.RowKit
theorem Aside.split(h:Aside (fun i=>i=R) w w2)(L:R<w.1.size):∃w1,Aside (fun i=>i=R) w w1∧w1.1.size=w.1.size∧Below w1.1.size w1 w2:=by
 have K:=h.size;refine⟨{ w with heap:=w.1.setIfInBounds R (w2.1[R]'(by omega)) },⟨rfl,rfl,rfl,by simp,fun k y J=>?_⟩,by simp,⟨h.os,h.tape,h.output,by simpa using K,fun k y=>?_⟩⟩
 ·show(w.1.setIfInBounds R _)[k]?=_;rw[Array.getElem?_setIfInBounds_ne (fun e=>J e.symm)]
 ·have D:k<w.1.size:=by simpa using y
  show _=(w.1.setIfInBounds R _)[k]?;by_cases e:k=R
  ·subst e;rw[Array.getElem?_setIfInBounds_self_of_lt D];exact Array.getElem?_eq_getElem _
  ·rw[Array.getElem?_setIfInBounds_ne (fun E=>e E.symm)];exact h.block k D e
theorem iE{y:Act->AU->Prop}{D:Exit->Act->AU->Prop}{J:Prop}{f:FuncId}{u:AA}{R:Ending->AU->Prop}(x E:Operand)(t t':TypeId)(X:o.guard=I)(ah:o.op=Op.call { callee:=.value (.func f),args:=#[x,E],argTypes:=#[t,t'] })(ak:a.eval x=u)(aw:a.eval E=v)(V : Tryz.prog.funcs[f]?=AW fn)(ab : (fn.name== "runtime.NumGoroutine")=false)(hb : fn.body=AW code)(M:Calls AE f #[u,v] w R)(L:∀e w',R e w'->∃ch,e=.panicked ch∧D (.panic ch) a w')(v':AA)(_:AD False->y (a.put o.dst v') w):
  if Region.wanted o (yielded ops a.tmps)=true then Oper.wp AE o a w y D else J:=by
 have aj:Region.wanted o (yielded ops a.tmps)=true:=by simp[Region.wanted,X]
 rw[AG aj];have K : fn.name≠ "runtime.NumGoroutine" := by simpa using ab
 unfold Oper.wp;have Q:(execOp a.eval o).run AE w=.ok (.enter f #[u,v]) w:=by
  have S:a.eval (.func f)=.func (.func f) #[] #[]:=rfl;simp[execOp,ah,resolve,invoke,ak,aw,S,Deferred.ofValue,callFunc,V,K,hb]
 rw[Q,Oper.upon_enter];refine M.mono ?_;intro e w' ai;obtain⟨z,rfl,Z⟩:=L e w' ai;exact Z
theorem bm{y:Act->AU->Prop}{E:Exit->Act->AU->Prop}{D:Prop}(h:AD False)(v':AA)(_:y (a.put o.dst v') w):
  if Region.wanted o (yielded ops a.tmps)=true then Oper.wp AE o a w y E else D:=h.out.elim
theorem de{y:Act->AU->Prop}{J:Exit->Act->AU->Prop}{E:Prop}{f:FuncId}{u:AA}{R:Ending->AU->Prop}(x D:Operand)(t t':TypeId)(X:o.guard=I)(ah:o.op=Op.call { callee:=.value (.func f),args:=#[x,D],argTypes:=#[t,t'] })(ak:a.eval x=u)(aw:a.eval D=v)(V : Tryz.prog.funcs[f]?=AW fn)(ab : (fn.name== "runtime.NumGoroutine")=false)(hb : fn.body=AW code)(M:Calls AE f #[u,v] w R)(L:∀e w',R e w'->∃z,e=.returned z∧y (a.put o.dst z) w'):
  if Region.wanted o (yielded ops a.tmps)=true then Oper.wp AE o a w y J else E:=by
 have aj:Region.wanted o (yielded ops a.tmps)=true:=by simp[Region.wanted,X]
 rw[AG aj];have K : fn.name≠ "runtime.NumGoroutine" := by simpa using ab
 unfold Oper.wp;have Q:(execOp a.eval o).run AE w=.ok (.enter f #[u,v]) w:=by
  have S:a.eval (.func f)=.func (.func f) #[] #[]:=rfl;simp[execOp,ah,resolve,invoke,ak,aw,S,Deferred.ofValue,callFunc,V,K,hb]
 rw[Q,Oper.upon_enter];refine M.mono ?_;intro e w' ai;obtain⟨z,rfl,Z⟩:=L e w' ai;exact Z
theorem Rdr.drew(h:Rdr w A R l):Rdr w.drew A R l:=h.keep (fun _ _=>rfl) gQx
theorem RdA.undrew{J:Type}{w w':AU}{A R:Nat}{l:L8}{r:Except Nat (J×Nat)}{V:J->AA->AU->Prop}{e:Ending}(h:RdA w.drew A R l r V e w'):RdA w A R l r V e w':=by
 cases r with
 |error k=>
  obtain⟨E,y⟩:=h.bad;exact⟨E,⟨y.os,y.tape,y.output,y.size,y.block⟩⟩
 |ok aj=>
  obtain⟨a,j⟩:=aj;obtain⟨v,E,y,K,D⟩:=h.good;exact⟨v,E,y,K,⟨D.os,D.tape,D.output,D.size,D.block⟩⟩
def rS(w:AU)(t:Ty)(v:AA)(w':AU):Prop:=∃u,v=qx u∧bD w' (fun k=>w.1.size<=k∧k<w'.1.size) u t
theorem rS.open(h:rS w t v w'):∃u,v=qx u∧bD w' (fun k=>w.1.size<=k∧k<w'.1.size) u t:=h
theorem tq(f:Nat)(c:UInt8)(r:L8):Sch.rdT (f+1) (c::r)=if c.toNat<1∨7<c.toNat then AQ 60 else if c.toNat≠6∧c.toNat≠7 then .ok (⟨(c.toNat:Int),[]⟩,1) else ar (Sch.rdT f r) fun t j=>.ok (⟨(c.toNat:Int),[t]⟩,j+1):=by
 rw[Sch.rdT];split
 ·rfl
 ·split
  ·rfl
  ·cases Sch.rdT f r with
   |error e=>rfl
   |ok p=>rfl
theorem zx{T N:Nat}{b:Int}{t':Ty}{g cap:Nat}{Z:L8}(bi:R<w.1.size)(bc:w.1.size<=N)(be:N<T)(aj:T<W.1.size)(ai:W.1[T]?=AW (wx #[U Y b,O I 0 0] 99 (0,0)))(ab:W.1[N]?=AW (wx #[U Y 0,O I 0 0] 99 (0,0)))(V:Aside (fun i=>i=R) w W)(J:Aside (fun i=>i=R) W w2)(a3:bD w2 (fun k=>W.1.size<=k∧k<w2.1.size) u t')(a6:Rdr w2 A R Z)(a5:w4.ownsRow W.1.size 99 2 (O (AW ⟨g,0,I⟩) 1 cap) 1 (flat (fun _=>#[]) 0++u.toList))(D:(w2.alloc (wx u 99)).grownBy w4 I)(a1:g=w2.1.size+1):
  w4.frozen? ⟨T,1,I⟩=false∧w4.cell? ⟨T,1,I⟩=AW (O I 0 0)∧∀w5,w5=w4.setCell ⟨T,1,I⟩ (O (AW ⟨g,0,I⟩) 1 cap)->w5.cell? ⟨T,0,I⟩=AW (U Y b)∧w5.cell? ⟨T,1,I⟩=AW (O (AW ⟨g,0,I⟩) 1 cap) ∧
   w5.1[N]?=AW (wx #[U Y 0,O I 0 0] 99 (0,0))∧bD w5 (fun k=>W.1.size<=k∧k<w5.1.size) (au b (AW ⟨g,0,I⟩) 1 cap) ⟨b,[t']⟩∧Rdr w5 A R Z∧Aside (fun i=>i=R) w w5∧W.1.size<=w5.1.size:=by
 have bj:=J.size;have bp:=V.size;have K:Below w2.1.size w2 (w2.alloc (wx u 99)):=gQy;have bk:=K.size;have bl:=D.size;obtain⟨bb,bq,X,a9⟩:=J.split (by omega);have a8:=(ji bb W.1.size).step a9 a3 (fun k y=>⟨by rw[X];exact y.1,y.2⟩) K (by rw[X];exact gQx) a5 D (.inr (by rw[a1];simp));obtain⟨p3,c3,aw,a4⟩:=a8.done (by omega) b;injection aw with e1 e2 e3;subst e1 e3
 -- what stands in w4
 have keep:∀k,k<W.1.size->k≠R->w4.1[k]?=W.1[k]?:=fun k y a2=>by
  rw[D.block k (by omega) (by simp),K.block k (by omega),J.block k y a2]
 have L:w4.1[T]?=AW (wx #[U Y b,O I 0 0] 99 (0,0)):=(keep T aj (by omega)).trans ai;have ah:w4.1[N]?=AW (wx #[U Y 0,O I 0 0] 99 (0,0)):=(keep N (by omega) (by omega)).trans ab;refine⟨ac L 1,aa L 1,fun w5 M=>?_⟩;have E:Aside (fun i=>i=T) w4 w5:=by rw[M];exact am _ _ _ _
 have bn:=E.size;have a7:w5.1.size=w4.1.size:=by rw[M];simp[World.setCell]
 have S:w5.1[T]?=AW (wx #[U Y b,O (AW ⟨g,0,I⟩) 1 cap] 99 (0,0)):=by rw[M,ao L 1];rfl
 have Q:Aside (fun _=>False) w2 w4:=(af K (fun _=>False)).trans (G:=fun _=>False) ⟨D.os,D.tape,D.output,D.size,fun k y _=>D.block k y (by simp)⟩ (fun _ _ h=>h);refine⟨aa S 0,aa S 1,?_,?_,?_,?_,by omega⟩
 ·rw[E.block N (by omega) (by omega)];exact ah
 ·rw[a7];exact a4.aside E (fun k y=>by omega)
 ·exact(a6.aside Q (fun _ h=>h.elim)).aside E (fun k y=>by rw[y];omega)
 ·refine((V.trans J (fun _ _ h=>h)).trans Q (fun _ _ h=>h.elim)).trans E (fun i a0 ak=>?_);rw[ak] at a0;omega
theorem zP{b:Int}{F:Nat->Prop}(Q:R<w.1.size)(L:wr.1[w.1.size]?=AW (wx #[U Y 0,O I 0 0] 99 (0,0)))(X:bD wr F (au b q n c) x)(J:∀k,F k->w.1.size<k∧k<wr.1.size)(Z:Rdr wr A R l)(S:Aside (fun i=>i=R) w wr){w5:AU}(E:w5=(wr.setCell ⟨w.1.size,0,I⟩ (U Y b)).setCell ⟨w.1.size,1,I⟩ (O q n c)):
  w5.1[w.1.size]?=AW (wx (au b q n c) 99 (0,0))∧rS w x (qx (au b q n c)) w5∧Rdr w5 A R l∧Aside (fun i=>i=R) w w5:=by
 have M:Aside (fun i=>i=w.1.size) wr (wr.setCell ⟨w.1.size,0,I⟩ (U Y b)):=am _ _ _ _;have D:Aside (fun i=>i=w.1.size) wr w5:=by rw[E];exact M.trans (am _ _ _ _) (fun _ _ h=>h)
 have ab:w5.1.size=wr.1.size:=by rw[E];simp[World.setCell]
 refine⟨?_,⟨_,rfl,?_⟩,Z.aside D (fun k y=>by rw[y];exact Q),S.trans D (fun i V K=>by rw[K] at V;omega)⟩
 ·rw[E,ao (ao L 0 _) 1];rfl
 ·exact(X.aside D (fun k y K=>by have:=J k y;omega)).mono (fun k y=>by have:=J k y;omega)
theorem vN:∀(f d:Nat) (l:L8) (A R:Nat) (w:AU),d+f=5->Rdr w A R l->Calls AE 160 #[qq (AW ⟨R,0,I⟩),U Y d] w (RdA w A R l (Sch.rdT f l) (rS w)):=by
  intro f;induction f with
  |zero=>
    intro d l A R w hd h;have a4:decide ((d:Int)<=4)=false:=AP (by omega);have Q:AD (Below w.1.size w (w.alloc (wx #[U Y 0,O I 0 0] 99))):=gQy;have J:Sch.rdT 0 l=AQ 62:=rfl;rw[J];clear h J;go_enter func160,ntmps160;go_wp2_with fail;try rw[a4]
    refine(cZ _ 62 _).mono ?_;rintro e w2 ⟨rfl,y⟩;rw[y];clear y w2;go_wp2;exact⟨rfl,rfl,af Q.out _⟩
  |succ f ih=>
    intro d l A R w hd h;have a4:decide ((d:Int)<=4)=true:=AR (by omega);have ea:(d:Int)<=4:=(by omega);obtain⟨ah,a6⟩:∃ah,ah=w.alloc (wx #[U Y 0,O I 0 0] 99):=⟨_,rfl⟩;have Q:AD (Below w.1.size w ah):=(by rw[a6];exact gQy);have bc:AD (ah.1[w.1.size]?=AW (wx #[U Y 0,O I 0 0] 99 (0,0))):=(by rw[a6];exact an w _);have bj:=gQq a6;have V:=gQq (mB 1 l A R ah (h.on Q.out));have bp:=h.lt;have bb:=gQq ih;clear h a6 ih;cases l with
    |nil=>
      have J:aT 1 []=AQ 30:=rfl;have b5:Sch.rdT (f+1) []=AQ 30:=rfl;rw[J] at V;rw[b5];clear J b5;go_enter func160,ntmps160;go_wp2_with fail;rw[<-bj.out];try rw[a4]
      refine(cY _ 62 _).mono ?_;rintro e w2 ⟨rfl,y⟩;rw[y];clear y w2;go_wp2_with fail;refine V.out.mono ?_;intro e w1 E;obtain⟨X,D⟩:=E.bad;subst X;clear E;have cr:=gQq ((af Q.out _).trans D (fun _ _ h=>h));clear D V;go_wp2;exact⟨rfl,rfl,cr.out⟩
    |cons b t=>
      have J:aT 1 (b::t)=.ok ([b],1):=by
        unfold aT;rw[AF (by simp)];rfl
      rw[J] at V;obtain⟨r,ai⟩:∃r,r=Sch.rdT (f+1) (b::t):=⟨_,rfl⟩;have a0:=gQq (ai.trans (tq f b t));rw[<-ai];clear ai J;have d9:=b.toNat_lt;go_enter func160,ntmps160;go_wp2_with fail;rw[<-bj.out];try rw[a4]
      refine(cY _ 62 _).mono ?_;rintro e w2 ⟨rfl,y⟩;rw[y];clear y w2 bj;go_wp2_with fail;refine V.out.mono ?_;intro e w1 E;obtain⟨v,X,ak,aj,D⟩:=E.good;obtain⟨q,c,bN,b8,-⟩:=ak.open;clear E ak;subst bN;subst X;obtain⟨cw,d2,c5,-,b9⟩:=aP b8 (by simp);subst c5;have cy:w1.cell? ⟨cw,d2,I⟩=AW (U .u8 (b.toNat:Int)):=b9 0 (by simp);have b4:AD (Rdr w1 A R t):=aj;have bT:=gQq ((af Q.out (fun i=>i=R)).trans D (fun _ _ h=>h));have b1:=gQq (ap bc.out);have b0:AD (w1.1[w.1.size]?=AW (wx #[U Y 0,O I 0 0] 99 (0,0))):=by
        show _=_;rw[D.block _ b1.out (by omega)];exact bc.out
      have ck:w.1.size<w1.1.size:=AS b1.out D.size;clear D b8 aj b9 V bc Q;obtain⟨W,a5⟩:∃W,W=w1.alloc (wx #[U Y (b.toNat:Int),O I 0 0] 99):=⟨_,rfl⟩;have a7:AD (Below w1.1.size w1 W):=(by rw[a5];exact gQy);have ab:AD (W.1[w1.1.size]?=AW (wx #[U Y (b.toNat:Int),O I 0 0] 99 (0,0))):=(by rw[a5];exact an w1 _);have S:AD (W.1[w.1.size]?=AW (wx #[U Y 0,O I 0 0] 99 (0,0))):=bQ b0.out a7.out ck;have Z:=gQq (bT.out.trans (af a7.out (fun _=>False)) (fun _ _ h=>h.elim));have be:=gQq (b4.out.on a7.out);have cn:w1.1.size<W.1.size:=ap ab.out;have a2:=gQq a5;clear a5 b0 bT b4;by_cases bs:b.toNat<1∨7<b.toNat
      · have M:AD (r=AQ 60):=a0.out.trans (AG bs);clear a0;rcases bs with bq | bq
        · have b7:decide ((1:Int)<=(b.toNat:Int))=false:=AP (by omega);go_wp2_with fail;rw[<-a2.out];refine(cZ _ 60 _).mono ?_;rintro e w2 ⟨rfl,y⟩;rw[y];clear y w2;go_wp2;rw[M.out];exact⟨rfl,rfl,Z.out⟩
        · have b7:decide ((1:Int)<=(b.toNat:Int))=true:=AR (by omega);have bn:decide ((b.toNat:Int)<=7)=false:=AP (by omega);go_wp2_with fail;rw[<-a2.out];refine(cZ _ 60 _).mono ?_;rintro e w2 ⟨rfl,y⟩;rw[y];clear y w2;go_wp2;rw[M.out];exact⟨rfl,rfl,Z.out⟩
      have b7:decide ((1:Int)<=(b.toNat:Int))=true:=AR (by omega);have bn:decide ((b.toNat:Int)<=7)=true:=AR (by omega);have a1:=gQq (a0.out.trans (AF bs));clear a0;go_wp2_with fail;rw[<-a2.out];refine(cY _ 60 _).mono ?_;rintro e w2 ⟨rfl,y⟩;rw[y];clear y w2 a2 cy;have c0:W.cell? ⟨w1.1.size,0,I⟩=AW (U Y (b.toNat:Int)):=aa ab.out 0;have c1:W.cell? ⟨w1.1.size,1,I⟩=AW (O I 0 0):=aa ab.out 1;have du:W.cell? ⟨w.1.size,0,I⟩=AW (U Y 0):=aa S.out 0;have dv:W.cell? ⟨w.1.size,1,I⟩=AW (O I 0 0):=aa S.out 1;have d0:=ac S.out 0;have d1:=ac S.out 1;have d3:=ac ab.out 1;have b2:=gQq (m8 (b.toNat:Int) W);go_wp2_with fail;refine b2.out.mono ?_;rintro e w2 ⟨rfl,y⟩;rw[y];clear y w2 b2;by_cases d8:b.toNat=6∨b.toNat=7
      · have aw:Ty.want (b.toNat:Int)=1:=(by unfold Ty.want;rw[AG (by omega)]);rw[aw];have M:AD (r=ar (Sch.rdT f t) fun t j=>.ok (⟨(b.toNat:Int),[t]⟩,j+1)):=a1.out.trans (AF (by omega));have b6:IntKind.i64.wrap ((d:Int)+1)=((d+1:Nat):Int):=(by rw[IntKind.wrap_i64];omega);have a8:AD (∀w',Rdr w' A R t->Calls AE 160 #[qq (AW ⟨R,0,I⟩),U Y (IntKind.i64.wrap ((d:Int)+1))] w'.drew (RdA w' A R t (Sch.rdT f t) (rS w'))):=fun w' ai=>by
          rw[b6];exact(bb.out (d+1) t A R w'.drew (by omega) ai.drew).mono fun _ _ h=>h.undrew
        obtain⟨m,cc⟩:∃m,m=Sch.rdT f t:=⟨_,rfl⟩;rw[<-cc] at M a8;clear aw a1 cc bb b6;cases m with
        |error er=>
          have ct:AD (∀w2,Aside (fun i=>i=R) W w2->RdA w A R (b::t) r (rS w) (.panicked (dm er)) w2):=fun w2 D=>by
            rw[M.out];exact⟨rfl,Z.out.trans D (fun _ _ h=>h)⟩
          go_wp2_with fail;go_loopw [29] (fun L wr=>L=U Y 0∧wr=W) (fun _ _=>0);case atStart=>exact⟨rfl,rfl⟩
          case round=>
            obtain⟨rfl,rfl⟩:=hrel;go_wp2_with fail
            go_region_law (first|(refine iE (.tmp 33) (.tmp 35) 211 3 (by rfl) (by rfl) (by rfl) (by rfl) func160 (by kernel_rfl) (by rfl) (a8.out _ be.out) (fun e w2 E=>⟨_,E.bad.1,rfl,ct.out w2 E.bad.2⟩) (qx #[U Y 0,O I 0 0]) ?_;intro bX)|(refine bm bX (O I 0 0) ?_))
            all_goals exact bX.out.elim
        |ok tj=>
          obtain⟨t',co⟩:=tj;have bi:AD (r=.ok (⟨(b.toNat:Int),[t']⟩,co+1)):=M.out;have d5:=gQq (ji W W.1.size);clear M;go_wp2_with fail;go_loopw [29] (fun L wr=>(L=U Y 0∧wr=W)∨(L=U Y 1∧∃q c,wr.cell? ⟨w1.1.size,0,I⟩=AW (U Y (b.toNat:Int))∧wr.cell? ⟨w1.1.size,1,I⟩=AW (O q 1 c)∧AD (wr.1[w.1.size]?=AW (wx #[U Y 0,O I 0 0] 99 (0,0))∧bD wr (fun k=>W.1.size<=k∧k<wr.1.size) (au (b.toNat:Int) q 1 c) ⟨(b.toNat:Int),[t']⟩∧Rdr wr A R ((b::t).drop (co+1))∧Aside (fun i=>i=R) w wr∧W.1.size<=wr.1.size))) (fun L _=>1-(intOf L).toNat);case atStart=>exact .inl ⟨rfl,rfl⟩
          case round=>
            rcases hrel with ⟨rfl,rfl⟩ | ⟨rfl,q,c2,d6,J,K⟩
            · go_wp2_with fail
              go_region_law (first
                | (refine de (.tmp 33) (.tmp 35) 211 3 (by rfl) (by rfl) (by rfl) (by rfl) func160 (by kernel_rfl) (by rfl) (a8.out _ be.out) ?_;intro e w2 E;obtain⟨ec,X,ak,aj,D⟩:=E.good;obtain⟨u2,bN,bv⟩:=ak.open;clear E ak;obtain⟨cp,p2,cq,c2,c6⟩:=bv.shape;subst c6;subst bN;refine⟨_,X,?_⟩;clear X;unfold au;have z1:w2.cell? ⟨w1.1.size,1,I⟩=AW (O I 0 0):=by(rw[D.cell cn (by show ¬w1.1.size=R;omega)];exact c1)
                   have z2:∀o,(w2.alloc o).cell? ⟨w1.1.size,1,I⟩=AW (O I 0 0):=fun o=>by(rw[World.cell?_alloc_past _ _ _ (by have:=D.size;show w1.1.size<_;omega)];exact z1)
                   have b3:=gQq bv;have cv:=gQq aj;have cs:=gQq D;have d4:AD (Below w2.1.size w2 (w2.alloc (wx #[U Y cp,O p2 cq c2] 99))):=gQy;have eb:=D.size;clear bv aj D)
                | (refine ov (B:=wr.1.size) (us:=fun _=>#[]) (v:=O I 0 0) (n:=0) (World.ownsRow_nil _ _ _ _) (u:=#[U Y cp,O p2 cq c2]) rfl (Af b3.out) (ad:=w2.1.size) (by exact an w2 _) (by omega) (by simp;omega) (H:=w2.1.size+1) (by simp) (.tmp 32) (.tmp 37) (by rfl) (by rfl) (by rfl) (by rfl) ?_;intro bn cx w4 cj cb ci;obtain⟨a3,d7,cd⟩:=zx (N:=w.1.size) (T:=w1.1.size) bp gQx ck cn ab.out S.out Z.out cs.out b3.out cv.out cj cb (ci.resolve_left (by simp[Value.ownBlock]));have cu:=gQq cd;clear cd cj cb ci))
              all_goals
                go_wp2;go_roundw;case rel=>
                  obtain⟨c7,c8,c9,df,dj,dr,ds⟩:=cu.out _ rfl;refine .inr ⟨by go_num,AW ⟨bn,0,I⟩,cx,c7,c8,c9,df,?_,dr,ds⟩;rw[List.drop_succ_cons];exact dj
                case measure=>simp[intOf]
            · have z0:=aa K.out.1 0;have z1:=aa K.out.1 1;have eg:=ac K.out.1 0;have el:=ac K.out.1 1;clear c0 c1 du dv d0 d1 d3;have a9:=gQq (fun w5 bO=>zP (w5:=w5) bp K.out.1 K.out.2.1 (fun k bq=>⟨by omega,bq.2⟩) K.out.2.2.1 K.out.2.2.2.1 bO);go_wp2;obtain⟨f1,bk,bl,a3⟩:=a9.out _ rfl;refine bodyPost_ret (v:=qx (au (b.toNat:Int) q 1 c2)) (results_cell_row rfl _ _ w.1.size _ _ _ _ rfl f1 underlying99 rfl (by kernel_rfl)) rfl ?_;rw[bi.out];exact⟨_,rfl,bk,bl,a3⟩
      · have aw:Ty.want (b.toNat:Int)=0:=(by unfold Ty.want;rw[AF (by omega)]);rw[aw];have bi:AD (r=.ok (⟨(b.toNat:Int),[]⟩,1)):=a1.out.trans (AG (by omega));have a9:=gQq (fun w5 bO=>zP (w5:=w5) (b:=(b.toNat:Int)) (q:=I) (n:=0) (c:=0) (x:=⟨(b.toNat:Int),[]⟩) (F:=fun _=>False) bp S.out .none (fun _ h=>h.elim) be.out Z.out bO);clear aw a1 bb;go_wp2_with fail;go_loopw [29] (fun L wr=>L=U Y 0∧wr=W) (fun _ _=>0);case atStart=>exact⟨rfl,rfl⟩
        case round=>
          obtain⟨rfl,rfl⟩:=hrel;go_wp2;obtain⟨f1,bk,bl,a3⟩:=a9.out _ rfl;refine bodyPost_ret (v:=qx (au (b.toNat:Int) I 0 0)) (results_cell_row rfl _ _ w.1.size _ _ _ _ rfl f1 underlying99 rfl (by kernel_rfl)) rfl ?_;rw[bi.out];exact⟨_,rfl,bk,bl,a3⟩
end
section
open Go.RowKit
attribute [local go_sem] al
def isV(w:AU)(x:V)(v:AA)(w':AU):Prop:=∃u,v=qx u∧aY w' (fun k=>w.1.size<=k∧k<w'.1.size) u x
theorem isV.open{x:V}(h:isV w x v w'):∃u,v=qx u∧aY w' (fun k=>w.1.size<=k∧k<w'.1.size) u x:=h
def dX(w:AU)(N:Nat)(k i:Int)(b:Nat)(t:ByteArray)(s:AA):World:=((((w.setCell ⟨N,0,I⟩ (U Y k)).setCell ⟨N,1,I⟩ (U Y i)).setCell ⟨N,2,I⟩ (sq ux b)).setCell ⟨N,3,I⟩ (qj t)).setCell ⟨N,4,I⟩ s
theorem jx(w:AU)(N:Nat)(k i:Int)(b:Nat)(t:ByteArray)(s:AA):Aside (fun j=>j=N) w (dX w N k i b t s):=by
 have y:Aside (fun j=>j=N) w (w.setCell ⟨N,0,I⟩ (U Y k)):=am _ _ _ _;have D:=y.trans (am _ N 1 (U Y i)) (fun _ _ h=>h);have E:=D.trans (am _ N 2 (sq ux b)) (fun _ _ h=>h);have J:=E.trans (am _ N 3 (qj t)) (fun _ _ h=>h);exact J.trans (am _ N 4 s) (fun _ _ h=>h)
theorem ni{N:Nat}{C:AV}(h:w.1[N]?=AW (wx C 102 (0,0)))(E:C.size=5)(k i:Int)(b:Nat)(t:ByteArray)(q:OA)(n c:Nat):(dX w N k i b t (O q n c)).1[N]?=AW (wx (cells5 k i b t q n c) 102 (0,0)):=by
 have e:((((C.set! 0 (U Y k)).set! 1 (U Y i)).set! 2 (sq ux b)).set! 3 (qj t)).set! 4 (O q n c)=cells5 k i b t q n c:=by
  obtain⟨D⟩:=C;match D,E with
  | [a0,a1,a2,a3,a4],_=>rfl
 have y:=ao (ao (ao (ao (ao h 0 (U Y k)) 1 (U Y i)) 2 (sq ux b)) 3 (qj t)) 4 (O q n c);rw[e] at y;exact y
theorem kI(w:AU)(N:Nat)(k i:Int)(b:Nat)(t:ByteArray)(s:AA):(dX w N k i b t s).1.size=w.1.size:=by simp[dX,World.setCell]
theorem wI{N:Nat}{i:Int}{b:Nat}{t:ByteArray}{x:V}{F:Nat->Prop}(Z:R<w.1.size)(X:w.1.size<=N)(K:wr.1[N]?=AW (wx #[U Y 0,U Y 0,sq ux 0,qj ⟨#[]⟩,O I 0 0] 102 (0,0)))(M:aY wr F (cells5 k i b t q n c) x)(E:∀j,F j->N<j∧j<wr.1.size)(Q:Rdr wr A R l)(L:Aside (fun j=>j=R) w wr):
  (dX wr N k i b t (O q n c)).1[N]?=AW (wx (cells5 k i b t q n c) 102 (0,0))∧isV w x (qx (cells5 k i b t q n c)) (dX wr N k i b t (O q n c))∧Rdr (dX wr N k i b t (O q n c)) A R l∧Aside (fun j=>j=R) w (dX wr N k i b t (O q n c)):=by
 have D:=jx wr N k i b t (O q n c);have S:=kI wr N k i b t (O q n c);refine⟨ni K rfl k i b t q n c,⟨_,rfl,?_⟩,Q.aside D (fun j y=>by rw[y];omega),L.trans D (fun j y J=>by rw[J] at y;omega)⟩;rw[S];exact(M.aside D (fun j y J=>by have:=E j y;omega)).mono (fun j y=>by have:=E j y;omega)
structure dM(w W:AU)(A R:Nat)(k:Int)(C0:AV)(l:L8):Prop where
 b0:W.1[w.1.size]?=AW (wx C0 99 (0,0))
 b1:W.1[w.1.size+1]?=AW (wx #[U Y 0,U Y 0,sq ux 0,qj ⟨#[]⟩,O I 0 0] 102 (0,0))
 b2:W.1[w.1.size+1+1]?=AW (wx #[U Y k,U Y 0,sq ux 0,qj ⟨#[]⟩,O I 0 0] 102 (0,0))
 rd:Rdr W A R l
 aside:Aside (fun i=>i=R) w W
 size:w.1.size+3<=W.1.size
theorem bR(k:Int)(C0:AV){l:L8}(h:Rdr w A R l):dM w (((w.alloc (wx C0 99)).alloc (wx #[U Y 0,U Y 0,sq ux 0,qj ⟨#[]⟩,O I 0 0] 102)).alloc (wx #[U Y k,U Y 0,sq ux 0,qj ⟨#[]⟩,O I 0 0] 102)) A R k C0 l:=by
 have hb:Below w.1.size w (((w.alloc (wx C0 99)).alloc (wx #[U Y 0,U Y 0,sq ux 0,qj ⟨#[]⟩,O I 0 0] 102)).alloc (wx #[U Y k,U Y 0,sq ux 0,qj ⟨#[]⟩,O I 0 0] 102)):=(gQy.alloc (by simp) _).alloc (by simp;omega) _;refine⟨?_,?_,?_,h.on hb,af hb _,by simp⟩
 ·rw[ay _ _ (by simp;omega),ay _ _ (by simp)];exact an w _
 ·rw[ay _ _ (by simp)];have:=an (w.alloc (wx C0 99)) (wx #[U Y 0,U Y 0,sq ux 0,qj ⟨#[]⟩,O I 0 0] 102);simpa using this
 ·have:=an ((w.alloc (wx C0 99)).alloc (wx #[U Y 0,U Y 0,sq ux 0,qj ⟨#[]⟩,O I 0 0] 102)) (wx #[U Y k,U Y 0,sq ux 0,qj ⟨#[]⟩,O I 0 0] 102);simpa using this
theorem dM.step{D:AU}{l':L8}(h:dM w W A R k C0 l)(y:Aside (fun i=>i=R) W D)(E:Rdr D A R l')(K:R<w.1.size):dM w D A R k C0 l':=by
 have J:=h.size;refine⟨?_,?_,?_,E,h.aside.trans y (fun _ _ h=>h),AT J y.size⟩
 ·rw[y.block _ (by omega) (by omega)];exact h.b0
 ·rw[y.block _ (by omega) (by omega)];exact h.b1
 ·rw[y.block _ (by omega) (by omega)];exact h.b2
theorem dM.fin(h:dM w W A R k C0 l)(E:R<w.1.size)(m:Nat)(u:AA)(i:Int)(b:Nat)(t:ByteArray):
  (dX (W.setCell ⟨w.1.size+1+1,m,I⟩ u) (w.1.size+1) k i b t (O I 0 0)).1[w.1.size+1]?=AW (wx (cells5 k i b t I 0 0) 102 (0,0))∧isV w (.mk k i b t []) (qx (cells5 k i b t I 0 0)) (dX (W.setCell ⟨w.1.size+1+1,m,I⟩ u) (w.1.size+1) k i b t (O I 0 0))∧Rdr (dX (W.setCell ⟨w.1.size+1+1,m,I⟩ u) (w.1.size+1) k i b t (O I 0 0)) A R l∧Aside (fun j=>j=R) w (dX (W.setCell ⟨w.1.size+1+1,m,I⟩ u) (w.1.size+1) k i b t (O I 0 0)):=by
 have y:Aside (fun i=>i=w.1.size+1+1) W (W.setCell ⟨w.1.size+1+1,m,I⟩ u):=am _ _ _ _;have K:=h.size;refine wI (F:=fun _=>False) E (by omega) ?_ .none (fun _ h=>h.elim) (h.rd.aside y (fun j D=>by rw[D];omega)) (h.aside.trans y (fun j D J=>by rw[J] at D;omega));rw[y.block _ (by omega) (by omega)];exact h.b1
theorem mN(l:L8):Sch.scalar 1 l=ar (Sch.bit l) fun n j=>.ok (.mk 1 n 0 ⟨#[]⟩ [],j):=by
 unfold Sch.scalar;rw[AG rfl];cases Sch.bit l with
 |error e=>rfl
 |ok p=>rfl
theorem mM(l:L8):Sch.scalar 2 l=ar (Sch.num l) fun n j=>.ok (.mk 2 (Leb.zag n) 0 ⟨#[]⟩ [],j):=by
 unfold Sch.scalar;rw[AF (by decide),AG rfl];cases Sch.num l with
 |error e=>rfl
 |ok p=>rfl
theorem mL(l:L8):Sch.scalar 3 l=ar (Sch.float l) fun n j=>.ok (.mk 3 0 n ⟨#[]⟩ [],j):=by
 unfold Sch.scalar;rw[AF (by decide),AF (by decide),AG rfl];cases Sch.float l with
 |error e=>rfl
 |ok p=>rfl
theorem mJ(l:L8):Sch.scalar 4 l=ar (Sch.text 1024 2 l) fun t j=>if dQ t=false then AQ 61 else .ok (.mk 4 0 0 t [],j):=by
 unfold Sch.scalar;rw[AF (by decide),AF (by decide),AF (by decide)];cases Sch.text 1024 2 l with
 |error e=>rfl
 |ok p=>
  obtain⟨t,j⟩:=p;rw[aI];dsimp only;by_cases h:dQ t=false
  ·rw[AG ⟨rfl,h⟩,AG h]
  ·rw[AF (fun y=>h y.2),AF h]
theorem mH(l:L8):Sch.scalar 5 l=ar (Sch.text 1024 2 l) fun t j=>.ok (.mk 5 0 0 t [],j):=by
 unfold Sch.scalar;rw[AF (by decide),AF (by decide),AF (by decide)];cases Sch.text 1024 2 l with
 |error e=>rfl
 |ok p=>
  obtain⟨t,j⟩:=p;rw[aI];dsimp only;rw[AF (fun y=>by have:=y.1;omega)]
theorem vG(l:L8)(A R:Nat)(w:AU)(p:OA)(n c:Nat)(h:Rdr w A R l):Calls AE 162 #[qq (AW ⟨R,0,I⟩),qx #[U Y 1,O p n c]] w (RdA w A R l (Sch.scalar 1 l) (isV w)):=by
 have ah:=h.lt;obtain⟨W,S⟩:∃W,W=((w.alloc (wx #[U Y 1,O p n c] 99)).alloc (wx #[U Y 0,U Y 0,sq ux 0,qj ⟨#[]⟩,O I 0 0] 102)).alloc (wx #[U Y 1,U Y 0,sq ux 0,qj ⟨#[]⟩,O I 0 0] 102):=⟨_,rfl⟩;have L:AD (dM w W A R 1 #[U Y 1,O p n c] l):=by rw[S];exact bR 1 _ h
 have Q:=gQq S;obtain⟨r,Z⟩:∃r,r=Sch.scalar 1 l:=⟨_,rfl⟩;have E:=gQq (Z.trans (mN l));rw[<-Z];have D:=gQq (uA l A R W L.out.rd);obtain⟨m,X⟩:∃m,m=Sch.bit l:=⟨_,rfl⟩;rw[<-X] at E D;have a2:=gQq X;clear Z X h S;cases m with
 |error er=>
  have M:AD (r=AQ er):=E.out;clear E;go_enter func162,ntmps162;go_wp2_with fail;rw[<-Q.out];refine D.out.mono ?_;intro e w1 K;obtain⟨V,J⟩:=K.bad;subst V;clear K;have aj:=gQq (L.out.aside.trans J (fun _ _ h=>h));clear J D;go_wp2;rw[M.out];exact⟨rfl,rfl,aj.out⟩
 |ok xj=>
  obtain⟨x,j⟩:=xj;have M:AD (r=.ok (.mk 1 (x:Nat) 0 ⟨#[]⟩ [],j)):=E.out;clear E;go_enter func162,ntmps162;go_wp2_with fail;rw[<-Q.out];refine D.out.mono ?_;intro e w1 K;obtain⟨v,V,ab,ai,J⟩:=K.good;clear K
  replace ab:v=U Y (x:Nat):=ab
  subst ab;subst V;have y:=gQq (L.out.step J ai ah);clear J ai D Q L;obtain⟨a3,a4,a5,a6,a7⟩:=cQ5 y.out.b2;obtain⟨bi,bj,bk,bl,bn⟩:=cQ5 y.out.b1;have a8:=ac y.out.b2 0;have a9:=ac y.out.b2 1;have bb:=ac y.out.b2 2;have bc:=ac y.out.b2 3;have be:=ac y.out.b2 4;have bp:=ac y.out.b1 0;have bq:=ac y.out.b1 1;have bs:=ac y.out.b1 2;have bv:=ac y.out.b1 3;have bN:=ac y.out.b1 4;have ak:=gQq (y.out.fin ah 1 (U Y (x:Nat)) (x:Nat) 0 ⟨#[]⟩);go_wp2;obtain⟨f1,aw,a0,a1⟩:=ak.out;refine bodyPost_ret (v:=qx (cells5 1 (x:Nat) 0 ⟨#[]⟩ I 0 0)) (results_cell_row rfl _ _ (w.1.size+1) _ _ _ _ rfl f1 underlying102 rfl (by kernel_rfl)) rfl ?_;rw[M.out];exact⟨_,rfl,aw,a0,a1⟩
theorem vE(l:L8)(A R:Nat)(w:AU)(p:OA)(n c:Nat)(h:Rdr w A R l):Calls AE 162 #[qq (AW ⟨R,0,I⟩),qx #[U Y 3,O p n c]] w (RdA w A R l (Sch.scalar 3 l) (isV w)):=by
 have ah:=h.lt;obtain⟨W,S⟩:∃W,W=((w.alloc (wx #[U Y 3,O p n c] 99)).alloc (wx #[U Y 0,U Y 0,sq ux 0,qj ⟨#[]⟩,O I 0 0] 102)).alloc (wx #[U Y 3,U Y 0,sq ux 0,qj ⟨#[]⟩,O I 0 0] 102):=⟨_,rfl⟩;have L:AD (dM w W A R 3 #[U Y 3,O p n c] l):=by rw[S];exact bR 3 _ h
 have Q:=gQq S;obtain⟨r,Z⟩:∃r,r=Sch.scalar 3 l:=⟨_,rfl⟩;have E:=gQq (Z.trans (mL l));rw[<-Z];have D:=gQq (yA l A R W L.out.rd);obtain⟨m,X⟩:∃m,m=Sch.float l:=⟨_,rfl⟩;rw[<-X] at E D;have a2:=gQq X;clear Z X h S;cases m with
 |error er=>
  have M:AD (r=AQ er):=E.out;clear E;go_enter func162,ntmps162;go_wp2_with fail;rw[<-Q.out];refine D.out.mono ?_;intro e w1 K;obtain⟨V,J⟩:=K.bad;subst V;clear K;have aj:=gQq (L.out.aside.trans J (fun _ _ h=>h));clear J D;go_wp2;rw[M.out];exact⟨rfl,rfl,aj.out⟩
 |ok xj=>
  obtain⟨x,j⟩:=xj;have M:AD (r=.ok (.mk 3 0 x ⟨#[]⟩ [],j)):=E.out;clear E;go_enter func162,ntmps162;go_wp2_with fail;rw[<-Q.out];refine D.out.mono ?_;intro e w1 K;obtain⟨v,V,ab,ai,J⟩:=K.good;clear K
  replace ab:v=sq ux x:=ab
  subst ab;subst V;have y:=gQq (L.out.step J ai ah);clear J ai D Q L;obtain⟨a3,a4,a5,a6,a7⟩:=cQ5 y.out.b2;obtain⟨bi,bj,bk,bl,bn⟩:=cQ5 y.out.b1;have a8:=ac y.out.b2 0;have a9:=ac y.out.b2 1;have bb:=ac y.out.b2 2;have bc:=ac y.out.b2 3;have be:=ac y.out.b2 4;have bp:=ac y.out.b1 0;have bq:=ac y.out.b1 1;have bs:=ac y.out.b1 2;have bv:=ac y.out.b1 3;have bN:=ac y.out.b1 4;have ak:=gQq (y.out.fin ah 2 (sq ux x) 0 x ⟨#[]⟩);go_wp2;obtain⟨f1,aw,a0,a1⟩:=ak.out;refine bodyPost_ret (v:=qx (cells5 3 0 x ⟨#[]⟩ I 0 0)) (results_cell_row rfl _ _ (w.1.size+1) _ _ _ _ rfl f1 underlying102 rfl (by kernel_rfl)) rfl ?_;rw[M.out];exact⟨_,rfl,aw,a0,a1⟩
theorem vC(l:L8)(A R:Nat)(w:AU)(p:OA)(n c:Nat)(h:Rdr w A R l):Calls AE 162 #[qq (AW ⟨R,0,I⟩),qx #[U Y 5,O p n c]] w (RdA w A R l (Sch.scalar 5 l) (isV w)):=by
 have ah:=h.lt;obtain⟨W,S⟩:∃W,W=((w.alloc (wx #[U Y 5,O p n c] 99)).alloc (wx #[U Y 0,U Y 0,sq ux 0,qj ⟨#[]⟩,O I 0 0] 102)).alloc (wx #[U Y 5,U Y 0,sq ux 0,qj ⟨#[]⟩,O I 0 0] 102):=⟨_,rfl⟩;have L:AD (dM w W A R 5 #[U Y 5,O p n c] l):=by rw[S];exact bR 5 _ h
 have Q:=gQq S;obtain⟨r,Z⟩:∃r,r=Sch.scalar 5 l:=⟨_,rfl⟩;have E:=gQq (Z.trans (mH l));rw[<-Z];have D:=gQq (xn l A R W L.out.rd);obtain⟨m,X⟩:∃m,m=Sch.text 1024 2 l:=⟨_,rfl⟩;rw[<-X] at E D;have a2:=gQq X;clear Z X h S;cases m with
 |error er=>
  have M:AD (r=AQ er):=E.out;clear E;go_enter func162,ntmps162;go_wp2_with fail;rw[<-Q.out];refine D.out.mono ?_;intro e w1 K;obtain⟨V,J⟩:=K.bad;subst V;clear K;have aj:=gQq (L.out.aside.trans J (fun _ _ h=>h));clear J D;go_wp2;rw[M.out];exact⟨rfl,rfl,aj.out⟩
 |ok xj=>
  obtain⟨x,j⟩:=xj;have M:AD (r=.ok (.mk 5 0 0 x [],j)):=E.out;clear E;go_enter func162,ntmps162;go_wp2_with fail;rw[<-Q.out];refine D.out.mono ?_;intro e w1 K;obtain⟨v,V,ab,ai,J⟩:=K.good;clear K
  replace ab:v=qj x:=ab
  subst ab;subst V;have y:=gQq (L.out.step J ai ah);clear J ai D Q L;obtain⟨a3,a4,a5,a6,a7⟩:=cQ5 y.out.b2;obtain⟨bi,bj,bk,bl,bn⟩:=cQ5 y.out.b1;have a8:=ac y.out.b2 0;have a9:=ac y.out.b2 1;have bb:=ac y.out.b2 2;have bc:=ac y.out.b2 3;have be:=ac y.out.b2 4;have bp:=ac y.out.b1 0;have bq:=ac y.out.b1 1;have bs:=ac y.out.b1 2;have bv:=ac y.out.b1 3;have bN:=ac y.out.b1 4;have ak:=gQq (y.out.fin ah 3 (qj x) 0 0 x);go_wp2;obtain⟨f1,aw,a0,a1⟩:=ak.out;refine bodyPost_ret (v:=qx (cells5 5 0 0 x I 0 0)) (results_cell_row rfl _ _ (w.1.size+1) _ _ _ _ rfl f1 underlying102 rfl (by kernel_rfl)) rfl ?_;rw[M.out];exact⟨_,rfl,aw,a0,a1⟩
theorem vF(l:L8)(A R:Nat)(w:AU)(p:OA)(n c:Nat)(h:Rdr w A R l):Calls AE 162 #[qq (AW ⟨R,0,I⟩),qx #[U Y 2,O p n c]] w (RdA w A R l (Sch.scalar 2 l) (isV w)):=by
 have aj:=h.lt;obtain⟨W,V⟩:∃W,W=((w.alloc (wx #[U Y 2,O p n c] 99)).alloc (wx #[U Y 0,U Y 0,sq ux 0,qj ⟨#[]⟩,O I 0 0] 102)).alloc (wx #[U Y 2,U Y 0,sq ux 0,qj ⟨#[]⟩,O I 0 0] 102):=⟨_,rfl⟩;have L:AD (dM w W A R 2 #[U Y 2,O p n c] l):=by rw[V];exact bR 2 _ h
 have Q:=gQq V;obtain⟨r,ab⟩:∃r,r=Sch.scalar 2 l:=⟨_,rfl⟩;have E:=gQq (ab.trans (mM l));rw[<-ab];have D:=gQq (ql l A R W L.out.rd);obtain⟨m,Z⟩:∃m,m=Sch.num l:=⟨_,rfl⟩;rw[<-Z] at E D;have ai:=gQq Z;clear ab Z h V;cases m with
 |error er=>
  have M:AD (r=AQ er):=E.out;clear E;go_enter func162,ntmps162;go_wp2_with fail;rw[<-Q.out];refine D.out.mono ?_;intro e w1 K;obtain⟨X,J⟩:=K.bad;subst X;clear K;have a1:=gQq (L.out.aside.trans J (fun _ _ h=>h));clear J D;go_wp2;rw[M.out];exact⟨rfl,rfl,a1.out⟩
 |ok xj=>
  obtain⟨x,j⟩:=xj;have M:AD (r=.ok (.mk 2 (Leb.zag x) 0 ⟨#[]⟩ [],j)):=E.out;clear E;go_enter func162,ntmps162;go_wp2_with fail;rw[<-Q.out];refine D.out.mono ?_;intro e w1 K;obtain⟨v,X,ah,ak,J⟩:=K.good;clear K
  replace ah:v=U .u64 (x:Nat):=ah
  subst ah;subst X;have y:=gQq (L.out.step J ak aj);clear J ak D Q L;have S:=gQq (pW x (eY ai.out.symm).2);obtain⟨z,a0⟩:∃z,z=Leb.zag x:=⟨_,rfl⟩;rw[<-a0] at S M;clear a0 ai;go_wp2_with fail;refine(S.out _).mono ?_;rintro e w2 ⟨rfl,aw⟩;rw[aw];clear aw w2 S;obtain⟨a6,a7,a8,a9,bb⟩:=cQ5 y.out.b2;obtain⟨bl,bn,bp,bq,bs⟩:=cQ5 y.out.b1;have bc:=ac y.out.b2 0;have be:=ac y.out.b2 1;have bi:=ac y.out.b2 2;have bj:=ac y.out.b2 3;have bk:=ac y.out.b2 4;have bv:=ac y.out.b1 0;have bN:=ac y.out.b1 1;have bO:=ac y.out.b1 2;have bT:=ac y.out.b1 3;have bX:=ac y.out.b1 4;have a2:=gQq (y.out.fin aj 1 (U Y z) z 0 ⟨#[]⟩);go_wp2;obtain⟨f1,a3,a4,a5⟩:=a2.out;refine bodyPost_ret (v:=qx (cells5 2 z 0 ⟨#[]⟩ I 0 0)) (results_cell_row rfl _ _ (w.1.size+1) _ _ _ _ rfl f1 underlying102 rfl (by kernel_rfl)) rfl ?_;rw[M.out];exact⟨_,rfl,a3,a4,a5⟩
end
section
open Go.RowKit
attribute [local go_sem] al
structure eN(w:AU)(R:Nat)(u:AV)(t:Ty):Prop where
 out:∃F:Nat->Prop,bD w F u t∧∀k,F k->R<k∧k<w.1.size
theorem eN.aside(h:eN w R u t)(E:Aside (fun i=>i=R) w w'):eN w' R u t:=by
 obtain⟨F,J,D⟩:=h.out;have L:=E.size;exact⟨F,J.aside E (fun k y K=>by have:=D k y;omega),fun k y=>⟨(D k y).1,by have:=D k y;omega⟩⟩
theorem eN.on(h:eN w R u t)(hb:Below w.1.size w w'):eN w' R u t:=by
 obtain⟨F,E,D⟩:=h.out;have J:=hb.size;exact⟨F,E.under hb (fun k y=>(D k y).2),fun k y=>⟨(D k y).1,by have:=D k y;omega⟩⟩
theorem eN.one(h:eN w R u (.mk k [x])):∃g D c k' q n' E,u=au k (AW ⟨g,D,I⟩) 1 c∧eN w R (au k' q n' E) x∧R<g∧g<w.1.size∧w.cell? ⟨g,D,I⟩=AW (U Y k')∧w.cell? ⟨g,D+1,I⟩=AW (O q n' E):=by
 obtain⟨F,S,K⟩:=h.out;rcases S.inv with ⟨X,p,c,L,y⟩ | ⟨X,g,D,c,xs,us,Q,L,y,s⟩
 ·simp only[Ty.mk.injEq] at y;exact absurd y.2 (by simp)
 ·simp only[Ty.mk.injEq] at y;obtain⟨rfl,rfl⟩:=y;have J:=s.hr 0 (by simp);obtain⟨k',q,n',E,M⟩:=J.shape;have c0:=s.hp.2 0 (by simp) 0 (by omega);have c1:=s.hp.2 0 (by simp) 1 (by omega);rw[M] at c0 c1;rw[M] at J;exact⟨g,D,c,k',q,n',E,L,⟨Q 0,J,fun j V=>K j (s.hs 0 (by simp) j V)⟩,(K g s.hg).1,s.hp.1,by simpa[au] using c0,by simpa[au] using c1⟩
theorem eN.shape(h:eN w R u t):∃k p n c,u=au k p n c:=by
 obtain⟨F,y,_⟩:=h.out;exact y.shape
def kM(w:AU)(vs:List V)(v:AA)(w':AU):Prop:=∃q c,v=O q vs.length c∧∀k,aY w' (fun i=>w.1.size<=i∧i<w'.1.size) (cells5 k 0 0 ⟨#[]⟩ q vs.length c) (.mk k 0 0 ⟨#[]⟩ vs)
theorem kM.open{y:List V}(h:kM w y v w'):∃q c,v=O q y.length c∧∀k,aY w' (fun i=>w.1.size<=i∧i<w'.1.size) (cells5 k 0 0 ⟨#[]⟩ q y.length c) (.mk k 0 0 ⟨#[]⟩ y):=h
def nT(t:Ty):Prop:=∀(l:L8) (A R:Nat) (w:AU) (u:AV),eN w R u t->Rdr w A R l->Calls AE 162 #[qq (AW ⟨R,0,I⟩),qx u] w (RdA w A R l (Sch.rdV t l) (isV w))
structure nW(w wr:AU)(A R:Nat)(u:AV)(t:Ty)(m:Nat)(l:L8)(r:Except Nat (List V×Nat))(ys:List V)(v:AA):Prop where
 built:∃us Fs,bd wr (w.1.size+1) v ys.length us Fs ys
 b0:wr.1[w.1.size]?=AW (wx u 99 (0,0))
 far:eN w R u t
 left:∃n,Rdr wr A R (l.drop n)∧r=glue ys n (Sch.rdN (Sch.rdV t) (m-ys.length) (l.drop n))
 aside:Aside (fun i=>i=R) w wr
 low:R<w.1.size
 size:w.1.size+1<=wr.1.size
 len:ys.length<=m
theorem nw(y:eN w R u t)(h:Rdr w A R l):nW w (w.alloc (wx u 99)) A R u t m l (Sch.rdN (Sch.rdV t) m l) [] (O I 0 0):=by
 have hb:Below w.1.size w (w.alloc (wx u 99)):=gQy;refine⟨⟨_,_,ir _ _⟩,an w _,y,⟨0,h.on hb,?_⟩,af hb _,h.lt,by simp,Nat.zero_le _⟩;rw[List.drop_zero,List.length_nil,Nat.sub_zero];cases Sch.rdN (Sch.rdV t) m l with
 |error e=>rfl
 |ok p=>simp[glue]
theorem nW.next{r:Except Nat (List V×Nat)}{y:List V}{v:AA}(h:nW w wr A R u t m l r y v){us:Nat->AV}{ab:Nat->Nat->Prop}(S:bd wr (w.1.size+1) v y.length us ab y){n j:Nat}{x:V}{J:AV}(bi:y.length<m)(a1:r=glue y n (Sch.rdN (Sch.rdV t) (m-y.length) (l.drop n)))(bb:Sch.rdV t (l.drop n)=.ok (x,j))(L:Aside (fun i=>i=R) wr w2)(a5:aY w2 (fun k=>wr.1.size<=k∧k<w2.1.size) J x)(a7:Rdr w2 A R ((l.drop n).drop j)):
  (w2.alloc (wx J 102)).ownsRow (w.1.size+1) 102 5 v y.length (flat us y.length) ∧
  ∀g cap,w4.ownsRow (w.1.size+1) 102 5 (O (AW ⟨g,0,I⟩) (y.length+1) cap) (y.length+1) (flat us y.length++J.toList)->(w2.alloc (wx J 102)).grownBy w4 v.ownBlock->(v.ownBlock=AW g∨g=(w2.alloc (wx J 102)).1.size) ->
   nW w w4 A R u t m l r (y++[x]) (O (AW ⟨g,0,I⟩) (y.length+1) cap):=by
 have a8:=h.size;have a2:=h.low;have bj:=L.size;have M:Below w2.1.size w2 (w2.alloc (wx J 102)):=gQy;have bk:=M.size;obtain⟨be,bc,ai,aj⟩:=L.split (by omega);have X:bd be (w.1.size+1) v y.length us ab y:=S.aside bc (fun g E aw=>by have:=(S.lt g E).1;omega) (fun i ah k D aw=>by have:=(S.range i ah k D).1;omega);refine⟨((X.on aj).on M).row,fun g cap a6 E a3=>?_⟩;have a9:=X.step aj a5 (fun k D=>⟨by rw[ai];exact D.1,D.2⟩) M (by rw[ai];exact a8) a6 E a3;have bl:=E.size;have Z:=fun k (D:v.ownBlock=AW k)=>(X.lt k D);have Q:Aside (fun k=>v.ownBlock=AW k) w2 w4:=(af M _).trans (G:=fun k=>v.ownBlock=AW k) ⟨E.os,E.tape,E.output,E.size,fun k D a0=>E.block k D (fun K=>a0 K.symm)⟩ (fun _ _ h=>h);have keep:∀k,k<=w.1.size->k≠R->w4.1[k]?=wr.1[k]?:=fun k D a4=>by
  rw[Q.block k (by omega) (fun K=>by have:=(Z k K).1;omega),L.block k (by omega) a4]
 have ak:Aside (fun i=>i=R) w w4:=by
  refine(h.aside.trans L (fun _ _ h=>h)).trans Q (fun i ah K=>?_);have:=(Z i K).1;omega
 refine⟨⟨_,_,by rw[AH,AO];exact a9⟩,(keep _ gQx (by omega)).trans h.b0,?_,⟨n+j,?_,?_⟩,ak,a2,by omega,by rw[AH,AO];omega⟩
 ·exact h.far
 ·rw[<-Ax];exact a7.aside Q (fun k D=>by have:=(Z k D).1;omega)
 ·rw[a1,show m-y.length=(m-(y++[x]).length)+1 by rw[AH,AO];omega,gC,bb,qb,il,Ax]
theorem ui(t:Ty)(Z:nT t)(m:Nat)(cd:m<=256)(l:L8)(A R:Nat)(w:AU)(u:AV)(ai:eN w R u t)(h:Rdr w A R l):Calls AE 183 #[qq (AW ⟨R,0,I⟩),U Y m,qx u] w (RdA w A R l (Sch.rdN (Sch.rdV t) m l) (kM w)):=by
  obtain⟨a9,bc,bb,c0,b2⟩:=ai.shape;have ah:=gQq (nw (m:=m) ai h);have bs:=gQq Z;have cc:=h.lt;obtain⟨r,a7⟩:∃r,r=Sch.rdN (Sch.rdV t) m l:=⟨_,rfl⟩;rw[<-a7] at ah ⊢;subst b2;unfold au at ah ⊢;clear a7 ai h Z;go_enter func183,ntmps183;go_wp2_with fail;go_loopw [7,9] (fun b8 ak wr=>∃(y:List V) (q:OA) (c:Nat),ak=U Y y.length∧b8=O q y.length c∧y.length<=m∧AD (nW w wr A R #[U Y a9,O bc bb c0] t m l r y (O q y.length c))) (fun _ ak _=>m-(intOf ak).toNat);case atStart=>exact⟨[],I,0,rfl,rfl,Nat.zero_le _,ah.out⟩
  case round=>
    obtain⟨y,q,c,rfl,rfl,ci,D⟩:=hrel;by_cases b0:y.length<m
    · have b9:(y.length:Int)<(m:Int):=(by omega);have bN:wr.cell? ⟨w.1.size,0,I⟩=AW (U Y a9):=aa D.out.b0 0;have bO:wr.cell? ⟨w.1.size,1,I⟩=AW (O bc bb c0):=aa D.out.b0 1;obtain⟨n,E,X⟩:=D.out.left;obtain⟨us,be,M⟩:=D.out.built;have L:=gQq (bs.out (l.drop n) A R wr _ (D.out.far.aside D.out.aside) E);have a1:=gQq X;have bi:=gQq M;obtain⟨b6,aj⟩:∃x,x=Sch.rdV t (l.drop n):=⟨_,rfl⟩;rw[<-aj] at L;have aw:=gQq aj;clear E X M aj;cases b6 with
      |error er=>
        have bp:AD (r=AQ er):=by
          show _=_;rw[a1.out,show m-y.length=(m-y.length-1)+1 by omega,gC,<-aw.out];rfl
        go_wp2_with fail;refine L.out.mono ?_;intro e w1 S;obtain⟨Q,K⟩:=S.bad;subst Q;clear S;have ab:=gQq (D.out.aside.trans K (fun _ _ h=>h));clear K L;go_wp2;rw[bp.out];exact⟨rfl,rfl,ab.out⟩
      |ok xj=>
        obtain⟨x,j⟩:=xj;go_wp2_with fail;refine L.out.mono ?_;intro e w2 S;obtain⟨v,Q,Z,E,K⟩:=S.good;obtain⟨cj,b4,J⟩:=Z.open;clear S Z;obtain⟨k',b5,bv,t',b7,n',bT,b3⟩:=J.shape;subst b3;subst b4;subst Q;unfold cells5 at J ⊢;have a0:=gQq (fun w4=>D.out.next (w4:=w4) bi.out b0 a1.out aw.out.symm K J E);have bl:=gQq J;have b1:w.1.size+1<=w2.1.size+1:=(by have:=D.out.size;have:=K.size;omega);clear K E J L bN bO
        go_wp2_with (first|(at_builtin;refine pY (B:=w.1.size+1) (us:=us) (v:=O q y.length c) (n:=y.length) (a0.out w2).1 (u:=#[U Y k',U Y b5,sq ux bv,qj t',O b7 n' bT]) rfl (zt bl.out) (ad:=w2.1.size) (an w2 _) (by omega) (by simpa using b1) (H:=w2.1.size+1) (by simp) rfl rfl rfl rfl ?_;intro a3 a2 w4 a8 a4 a6;have bj:=gQq ((a0.out w4).2 a3 a2 a8 a4 (by simpa using a6));clear a8 a4 a6))
        go_roundw;case rel=>
          refine⟨y++[x],AW ⟨a3,0,I⟩,a2,by simp,by simp,by simp;omega,?_⟩;have:=bj.out;rw[AH,AO];exact this
        case measure=>simp[intOf];omega
    · have cb:¬(y.length:Int)<(m:Int):=(by omega);have a5:m-y.length=0:=(by omega);obtain⟨n,E,X⟩:=D.out.left;obtain⟨us,be,M⟩:=D.out.built;have bq:AD (r=.ok (y,n)):=by
        show _=_;rw[X,a5,Sch.rdN,glue,Az,Nat.add_zero]
      have bk:AD (kM w y (O q y.length c) wr):=by
        refine⟨q,c,rfl,fun k=>?_⟩;obtain⟨p2,c2,Q,J⟩:=M.done (by omega) k 0 0 ⟨#[]⟩;injection Q with e1 e2 e3;subst e1 e3;exact J.mono (fun i bX=>⟨by omega,bX.2⟩)
      have bn:=gQq E;have ab:=gQq D.out.aside;clear E X M D a5;go_wp2;go_ret;rw[bq.out];exact⟨_,rfl,bk.out,bn.out,ab.out⟩
end
end Go.Proofs.YtngmnfdaedlodaaGreatDoor

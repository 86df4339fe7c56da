import Derived.Test.YtbahfgdbjgkklaaGreatDoorB16
import Derived.Test.YtbahfgdbjgkklaaGreatDoorB12
import Derived.Deep.RegionLaw
set_option maxRecDepth 100000
set_option maxHeartbeats 2000000
namespace Go.Proofs.YtbahfgdbjgkklaaGreatDoor
variable{A R c m n:Nat}{W w w' w2 w4 wr:World}{l:L8}{v:Value}{b k:Int}{q:OA}{C0 u:AV}{a:Act}{ops:Array Oper}{o:Oper}{fn:Func}{f:FuncId}{code:Code}{t x:Ty}
section
open Go.RowKit
theorem Aside.split(h:Aside (fun i=>i=R) w w2)(J:R<w.1.size):∃w1,Aside (fun i=>i=R) w w1∧w1.1.size=w.1.size∧Below w1.1.size w1 w2:=by
 have I:=h.size;refine⟨{ w with heap:=w.1.setIfInBounds R (w2.1[R]'(by omega)) },⟨rfl,rfl,rfl,by simp,fun k y E=>?_⟩,by simp,⟨h.os,h.tape,h.output,by simpa using I,fun k y=>?_⟩⟩
 ·show(w.1.setIfInBounds R _)[k]?=_;rw[Array.getElem?_setIfInBounds_ne (fun e=>E e.symm)]
 ·have z:k<w.1.size:=by simpa using y
  show _=(w.1.setIfInBounds R _)[k]?;by_cases e:k=R
  ·subst e;rw[Array.getElem?_setIfInBounds_self_of_lt z];exact Array.getElem?_eq_getElem _
  ·rw[Array.getElem?_setIfInBounds_ne (fun D=>e D.symm)];exact h.block k z e
theorem iS{y:Act->World->Prop}{Q:Exit->Act->World->Prop}{E:Prop}{u:Value}{R:Ending->World->Prop}(x D:Operand)(t ah:TypeId)(hg:o.guard=none)(V:o.op=Op.call { callee:=.value (.func f),args:=#[x,D],argTypes:=#[t,ah] })(Z:a.eval x=u)(ab:a.eval D=v)(O : Tryz.prog.funcs[f]?=some fn)(U : (fn.name== "runtime.NumGoroutine")=false)(hb : fn.body=some code)(K:Calls Tryz.prog f #[u,v] w R)(J:∀e w',R e w'->∃ch,e=.panicked ch∧Q (.panic ch) a w')(v':Value)(_:Hid False->y (a.put o.dst v') w):
  if Region.wanted o (yielded ops a.tmps)=true then Oper.wp Tryz.prog o a w y Q else E:=by
 have Y:Region.wanted o (yielded ops a.tmps)=true:=by simp[Region.wanted,hg]
 rw[if_pos Y];have I : fn.name≠ "runtime.NumGoroutine" := by simpa using U
 unfold Oper.wp;have L:(execOp a.eval o).run Tryz.prog w=.ok (.enter f #[u,v]) w:=by
  have M:a.eval (.func f)=.func (.func f) #[] #[]:=rfl;simp[execOp,V,resolve,invoke,Z,ab,M,Deferred.ofValue,callFunc,O,I,hb]
 rw[L,Oper.upon_enter];refine K.mono ?_;intro e w' X;obtain⟨z,rfl,S⟩:=J e w' X;exact S
theorem bl{y:Act->World->Prop}{D:Exit->Act->World->Prop}{z:Prop}(h:Hid False)(v':Value)(_:y (a.put o.dst v') w):
  if Region.wanted o (yielded ops a.tmps)=true then Oper.wp Tryz.prog o a w y D else z:=h.out.elim
theorem dE{z:Act->World->Prop}{I:Exit->Act->World->Prop}{E:Prop}{u:Value}{R:Ending->World->Prop}(x D:Operand)(t aj:TypeId)(S:o.guard=none)(X:o.op=Op.call { callee:=.value (.func f),args:=#[x,D],argTypes:=#[t,aj] })(ab:a.eval x=u)(ah:a.eval D=v)(Q : Tryz.prog.funcs[f]?=some fn)(V : (fn.name== "runtime.NumGoroutine")=false)(hb : fn.body=some code)(L:Calls Tryz.prog f #[u,v] w R)(K:∀e w',R e w'->∃y,e=.returned y∧z (a.put o.dst y) w'):
  if Region.wanted o (yielded ops a.tmps)=true then Oper.wp Tryz.prog o a w z I else E:=by
 have Z:Region.wanted o (yielded ops a.tmps)=true:=by simp[Region.wanted,S]
 rw[if_pos Z];have J : fn.name≠ "runtime.NumGoroutine" := by simpa using V
 unfold Oper.wp;have M:(execOp a.eval o).run Tryz.prog w=.ok (.enter f #[u,v]) w:=by
  have O:a.eval (.func f)=.func (.func f) #[] #[]:=rfl;simp[execOp,X,resolve,invoke,ab,ah,O,Deferred.ofValue,callFunc,Q,J,hb]
 rw[M,Oper.upon_enter];refine L.mono ?_;intro e w' Y;obtain⟨y,rfl,U⟩:=K e w' Y;exact U
theorem Rdr.drew(h:Rdr w A R l):Rdr w.drew A R l:=h.keep (fun _ _=>rfl) gQx
theorem RdA.undrew{E:Type}{w w':World}{A R:Nat}{l:L8}{r:Except Nat (E×Nat)}{V:E->Value->World->Prop}{e:Ending}(h:RdA w.drew A R l r V e w'):RdA w A R l r V e w':=by
 cases r with
 |error k=>
  obtain⟨D,y⟩:=h.bad;exact⟨D,⟨y.os,y.tape,y.output,y.size,y.block⟩⟩
 |ok aj=>
  obtain⟨a,j⟩:=aj;obtain⟨v,D,y,I,z⟩:=h.good;exact⟨v,D,y,I,⟨z.os,z.tape,z.output,z.size,z.block⟩⟩
def sF(w:World)(t:Ty)(v:Value)(w':World):Prop:=∃u,v=.agg u∧aW w' (fun k=>w.1.size<=k∧k<w'.1.size) u t
theorem sF.open(h:sF w t v w'):∃u,v=.agg u∧aW w' (fun k=>w.1.size<=k∧k<w'.1.size) u t:=h
theorem tU(f:Nat)(c:UInt8)(r:L8):Sch.rdT (f+1) (c::r)=if c.toNat<1∨7<c.toNat then .error 60 else if c.toNat≠6∧c.toNat≠7 then .ok (⟨(c.toNat:Int),[]⟩,1) else ar (Sch.rdT f r) fun t j=>.ok (⟨(c.toNat:Int),[t]⟩,j+1):=by
 rw[Sch.rdT];split
 ·rfl
 ·split
  ·rfl
  ·cases Sch.rdT f r with
   |error e=>rfl
   |ok p=>rfl
theorem zo{T N:Nat}{U:Ty}{g cap:Nat}{S:L8}(bc:R<w.1.size)(a9:w.1.size<=N)(bb:N<T)(Z:T<W.1.size)(Y:W.1[T]?=some (.cells #[.int .i64 b,.slice none 0 0] 34 (0,0)))(V:W.1[N]?=some (.cells #[.int .i64 0,.slice none 0 0] 34 (0,0)))(O:Aside (fun i=>i=R) w W)(E:Aside (fun i=>i=R) W w2)(a1:aW w2 (fun k=>W.1.size<=k∧k<w2.1.size) u U)(a4:Rdr w2 A R S)(a3:w4.ownsRow W.1.size 34 2 (.slice (some ⟨g,0,none⟩) 1 cap) 1 (flat (fun _=>#[]) 0++u.toList))(z:(w2.alloc (.cells u 34)).grownBy w4 none)(ak:g=w2.1.size+1):
  w4.frozen? ⟨T,1,none⟩=false∧w4.cell? ⟨T,1,none⟩=some (.slice none 0 0)∧∀w5,w5=w4.setCell ⟨T,1,none⟩ (.slice (some ⟨g,0,none⟩) 1 cap)->w5.cell? ⟨T,0,none⟩=some (.int .i64 b)∧w5.cell? ⟨T,1,none⟩=some (.slice (some ⟨g,0,none⟩) 1 cap) ∧
   w5.1[N]?=some (.cells #[.int .i64 0,.slice none 0 0] 34 (0,0))∧aW w5 (fun k=>W.1.size<=k∧k<w5.1.size) (an b (some ⟨g,0,none⟩) 1 cap) ⟨b,[U]⟩∧Rdr w5 A R S∧Aside (fun i=>i=R) w w5∧W.1.size<=w5.1.size:=by
 have be:=E.size;have bn:=O.size;have I:Below w2.1.size w2 (w2.alloc (.cells u 34)):=gQy;have bi:=I.size;have bj:=z.size;obtain⟨a8,bp,Q,a7⟩:=E.split (by omega);have a6:=(jH a8 W.1.size).step a7 a1 (fun k y=>⟨by rw[Q];exact y.1,y.2⟩) I (by rw[Q];exact gQx) a3 z (.inr (by rw[ak];simp));obtain⟨p3,c3,ah,a2⟩:=a6.done (by omega) b;injection ah with e1 e2 e3;subst e1 e3
 -- what stands in w4
 have keep:∀k,k<W.1.size->k≠R->w4.1[k]?=W.1[k]?:=fun k y a0=>by
  rw[z.block k (by omega) (by simp),I.block k (by omega),E.block k y a0]
 have J:w4.1[T]?=some (.cells #[.int .i64 b,.slice none 0 0] 34 (0,0)):=(keep T Z (by omega)).trans Y;have X:w4.1[N]?=some (.cells #[.int .i64 0,.slice none 0 0] 34 (0,0)):=(keep N (by omega) (by omega)).trans V;refine⟨ac J 1,aa J 1,fun w5 K=>?_⟩;have D:Aside (fun i=>i=T) w4 w5:=by rw[K];exact ag _ _ _ _
 have bk:=D.size;have a5:w5.1.size=w4.1.size:=by rw[K];simp[World.setCell]
 have M:w5.1[T]?=some (.cells #[.int .i64 b,.slice (some ⟨g,0,none⟩) 1 cap] 34 (0,0)):=by rw[K,ai J 1];rfl
 have L:Aside (fun _=>False) w2 w4:=(al I (fun _=>False)).trans (G:=fun _=>False) ⟨z.os,z.tape,z.output,z.size,fun k y _=>z.block k y (by simp)⟩ (fun _ _ h=>h);refine⟨aa M 0,aa M 1,?_,?_,?_,?_,by omega⟩
 ·rw[D.block N (by omega) (by omega)];exact X
 ·rw[a5];exact a2.aside D (fun k y=>by omega)
 ·exact(a4.aside L (fun _ h=>h.elim)).aside D (fun k y=>by rw[y];omega)
 ·refine((O.trans E (fun _ _ h=>h)).trans L (fun _ _ h=>h.elim)).trans D (fun i aj ab=>?_);rw[ab] at aj;omega
theorem zE{F:Nat->Prop}(L:R<w.1.size)(J:wr.1[w.1.size]?=some (.cells #[.int .i64 0,.slice none 0 0] 34 (0,0)))(Q:aW wr F (an b q n c) x)(E:∀k,F k->w.1.size<k∧k<wr.1.size)(S:Rdr wr A R l)(M:Aside (fun i=>i=R) w wr){w5:World}(D:w5=(wr.setCell ⟨w.1.size,0,none⟩ (.int .i64 b)).setCell ⟨w.1.size,1,none⟩ (.slice q n c)):
  w5.1[w.1.size]?=some (.cells (an b q n c) 34 (0,0))∧sF w x (.agg (an b q n c)) w5∧Rdr w5 A R l∧Aside (fun i=>i=R) w w5:=by
 have K:Aside (fun i=>i=w.1.size) wr (wr.setCell ⟨w.1.size,0,none⟩ (.int .i64 b)):=ag _ _ _ _;have z:Aside (fun i=>i=w.1.size) wr w5:=by rw[D];exact K.trans (ag _ _ _ _) (fun _ _ h=>h)
 have U:w5.1.size=wr.1.size:=by rw[D];simp[World.setCell]
 refine⟨?_,⟨_,rfl,?_⟩,S.aside z (fun k y=>by rw[y];exact L),M.trans z (fun i O I=>by rw[I] at O;omega)⟩
 ·rw[D,ai (ai J 0 _) 1];rfl
 ·exact(Q.aside z (fun k y I=>by have:=E k y;omega)).mono (fun k y=>by have:=E k y;omega)
theorem wC:∀(f d:Nat) (l:L8) (A R:Nat) (w:World),d+f=5->Rdr w A R l->Calls Tryz.prog 220 #[.pointer (some ⟨R,0,none⟩),.int .i64 d] w (RdA w A R l (Sch.rdT f l) (sF w)):=by
  intro f;induction f with
  |zero=>
    intro d l A R w hd h;have a1:decide ((d:Int)<=4)=false:=decide_eq_false (by omega);have L:Hid (Below w.1.size w (w.alloc (.cells #[.int .i64 0,.slice none 0 0] 34))):=gQy;have E:Sch.rdT 0 l=.error 62:=rfl;rw[E];clear h E;go_enter Tryz.func220,Tryz.ntmps220;go_wp2_with fail;try rw[a1]
    refine(dw _ 62 _).mono ?_;rintro e w2 ⟨rfl,y⟩;rw[y];clear y w2;go_wp2;exact⟨rfl,rfl,al L.out _⟩
  |succ f ih=>
    intro d l A R w hd h;have a1:decide ((d:Int)<=4)=true:=decide_eq_true (by omega);have dp:(d:Int)<=4:=(by omega);obtain⟨V,a3⟩:∃V,V=w.alloc (.cells #[.int .i64 0,.slice none 0 0] 34):=⟨_,rfl⟩;have L:Hid (Below w.1.size w V):=(by rw[a3];exact gQy);have a8:Hid (V.1[w.1.size]?=some (.cells #[.int .i64 0,.slice none 0 0] 34 (0,0))):=(by rw[a3];exact am w _);have bc:=gQq a3;have O:=gQq (nl 1 l A R V (h.on L.out));have bk:=h.lt;have a7:=gQq ih;clear h a3 ih;cases l with
    |nil=>
      have E:aU 1 []=.error 30:=rfl;have b3:Sch.rdT (f+1) []=.error 30:=rfl;rw[E] at O;rw[b3];clear E b3;go_enter Tryz.func220,Tryz.ntmps220;go_wp2_with fail;rw[<-bc.out];try rw[a1]
      refine(du _ 62 _).mono ?_;rintro e w2 ⟨rfl,y⟩;rw[y];clear y w2;go_wp2_with fail;refine O.out.mono ?_;intro e w1 D;obtain⟨Q,z⟩:=D.bad;subst Q;clear D;have ck:=gQq ((al L.out _).trans z (fun _ _ h=>h));clear z O;go_wp2;exact⟨rfl,rfl,ck.out⟩
    |cons b t=>
      have E:aU 1 (b::t)=.ok ([b],1):=by
        unfold aU;rw[if_neg (by simp)];rfl
      rw[E] at O;obtain⟨r,X⟩:∃r,r=Sch.rdT (f+1) (b::t):=⟨_,rfl⟩;have ah:=gQq (X.trans (tU f b t));rw[<-X];clear X E;have dn:=b.toNat_lt;go_enter Tryz.func220,Tryz.ntmps220;go_wp2_with fail;rw[<-bc.out];try rw[a1]
      refine(du _ 62 _).mono ?_;rintro e w2 ⟨rfl,y⟩;rw[y];clear y w2 bc;go_wp2_with fail;refine O.out.mono ?_;intro e w1 D;obtain⟨v,Q,Z,Y,z⟩:=D.good;obtain⟨q,c,br,b6,-⟩:=Z.open;clear D Z;subst br;subst Q;obtain⟨cr,dd,cu,-,b7⟩:=aC b6 (by simp);subst cu;have ct:w1.cell? ⟨cr,dd,none⟩=some (.int .u8 (b.toNat:Int)):=b7 0 (by simp);have b2:Hid (Rdr w1 A R t):=Y;have bN:=gQq ((al L.out (fun i=>i=R)).trans z (fun _ _ h=>h));have bX:=gQq (au a8.out);have bT:Hid (w1.1[w.1.size]?=some (.cells #[.int .i64 0,.slice none 0 0] 34 (0,0))):=by
        show _=_;rw[z.block _ bX.out (by omega)];exact a8.out
      have cd:w.1.size<w1.1.size:=Nat.lt_of_lt_of_le bX.out z.size;clear z b6 Y b7 O a8 L;obtain⟨W,a2⟩:∃W,W=w1.alloc (.cells #[.int .i64 (b.toNat:Int),.slice none 0 0] 34):=⟨_,rfl⟩;have a4:Hid (Below w1.1.size w1 W):=(by rw[a2];exact gQy);have U:Hid (W.1[w1.1.size]?=some (.cells #[.int .i64 (b.toNat:Int),.slice none 0 0] 34 (0,0))):=(by rw[a2];exact am w1 _);have M:Hid (W.1[w.1.size]?=some (.cells #[.int .i64 0,.slice none 0 0] 34 (0,0))):=aR bT.out a4.out cd;have S:=gQq (bN.out.trans (al a4.out (fun _=>False)) (fun _ _ h=>h.elim));have a9:=gQq (b2.out.on a4.out);have ce:w1.1.size<W.1.size:=au U.out;have ak:=gQq a2;clear a2 bT bN b2;by_cases bp:b.toNat<1∨7<b.toNat
      · have K:Hid (r=.error 60):=ah.out.trans (if_pos bp);clear ah;rcases bp with bn | bn
        · have b5:decide ((1:Int)<=(b.toNat:Int))=false:=decide_eq_false (by omega);go_wp2_with fail;rw[<-ak.out];refine(dw _ 60 _).mono ?_;rintro e w2 ⟨rfl,y⟩;rw[y];clear y w2;go_wp2;rw[K.out];exact⟨rfl,rfl,S.out⟩
        · have b5:decide ((1:Int)<=(b.toNat:Int))=true:=decide_eq_true (by omega);have bj:decide ((b.toNat:Int)<=7)=false:=decide_eq_false (by omega);go_wp2_with fail;rw[<-ak.out];refine(dw _ 60 _).mono ?_;rintro e w2 ⟨rfl,y⟩;rw[y];clear y w2;go_wp2;rw[K.out];exact⟨rfl,rfl,S.out⟩
      have b5:decide ((1:Int)<=(b.toNat:Int))=true:=decide_eq_true (by omega);have bj:decide ((b.toNat:Int)<=7)=true:=decide_eq_true (by omega);have aj:=gQq (ah.out.trans (if_neg bp));clear ah;go_wp2_with fail;rw[<-ak.out];refine(du _ 60 _).mono ?_;rintro e w2 ⟨rfl,y⟩;rw[y];clear y w2 ak ct;have c0:W.cell? ⟨w1.1.size,0,none⟩=some (.int .i64 (b.toNat:Int)):=aa U.out 0;have c1:W.cell? ⟨w1.1.size,1,none⟩=some (.slice none 0 0):=aa U.out 1;have c9:W.cell? ⟨w.1.size,0,none⟩=some (.int .i64 0):=aa M.out 0;have da:W.cell? ⟨w.1.size,1,none⟩=some (.slice none 0 0):=aa M.out 1;have db:=ac M.out 0;have dc:=ac M.out 1;have de:=ac U.out 1;have b0:=gQq (nW (b.toNat:Int) W);go_wp2_with fail;refine b0.out.mono ?_;rintro e w2 ⟨rfl,y⟩;rw[y];clear y w2 b0;by_cases dk:b.toNat=6∨b.toNat=7
      · have ab:Ty.want (b.toNat:Int)=1:=(by unfold Ty.want;rw[if_pos (by omega)]);rw[ab];have K:Hid (r=ar (Sch.rdT f t) fun t j=>.ok (⟨(b.toNat:Int),[t]⟩,j+1)):=aj.out.trans (if_neg (by omega));have b4:IntKind.i64.wrap ((d:Int)+1)=((d+1:Nat):Int):=(by rw[IntKind.wrap_i64];omega);have a5:Hid (∀w',Rdr w' A R t->Calls Tryz.prog 220 #[.pointer (some ⟨R,0,none⟩),.int .i64 (IntKind.i64.wrap ((d:Int)+1))] w'.drew (RdA w' A R t (Sch.rdT f t) (sF w'))):=fun w' X=>by
          rw[b4];exact(a7.out (d+1) t A R w'.drew (by omega) X.drew).mono fun _ _ h=>h.undrew
        obtain⟨m,b9⟩:∃m,m=Sch.rdT f t:=⟨_,rfl⟩;rw[<-b9] at K a5;clear ab aj b9 a7 b4;cases m with
        |error er=>
          have co:Hid (∀w2,Aside (fun i=>i=R) W w2->RdA w A R (b::t) r (sF w) (.panicked (dK er)) w2):=fun w2 z=>by
            rw[K.out];exact⟨rfl,S.out.trans z (fun _ _ h=>h)⟩
          go_wp2_with fail;go_loopw [29] (fun J wr=>J=.int .i64 0∧wr=W) (fun _ _=>0);case atStart=>exact⟨rfl,rfl⟩
          case round=>
            obtain⟨rfl,rfl⟩:=hrel;go_wp2_with fail
            go_region_law (first|(refine iS (.tmp 33) (.tmp 35) 254 3 (by rfl) (by rfl) (by rfl) (by rfl) Tryz.func220 (by kernel_rfl) (by rfl) (a5.out _ a9.out) (fun e w2 D=>⟨_,D.bad.1,rfl,co.out w2 D.bad.2⟩) (.agg #[.int .i64 0,.slice none 0 0]) ?_;intro bO)|(refine bl bO (.slice none 0 0) ?_))
            all_goals exact bO.out.elim
        |ok tj=>
          obtain⟨cj,cf⟩:=tj;have bb:Hid (r=.ok (⟨(b.toNat:Int),[cj]⟩,cf+1)):=K.out;have dh:=gQq (jH W W.1.size);clear K;go_wp2_with fail;go_loopw [29] (fun J wr=>(J=.int .i64 0∧wr=W)∨(J=.int .i64 1∧∃q c,wr.cell? ⟨w1.1.size,0,none⟩=some (.int .i64 (b.toNat:Int))∧wr.cell? ⟨w1.1.size,1,none⟩=some (.slice q 1 c)∧Hid (wr.1[w.1.size]?=some (.cells #[.int .i64 0,.slice none 0 0] 34 (0,0))∧aW wr (fun k=>W.1.size<=k∧k<wr.1.size) (an (b.toNat:Int) q 1 c) ⟨(b.toNat:Int),[cj]⟩∧Rdr wr A R ((b::t).drop (cf+1))∧Aside (fun i=>i=R) w wr∧W.1.size<=wr.1.size))) (fun J _=>1-(intOf J).toNat);case atStart=>exact .inl ⟨rfl,rfl⟩
          case round=>
            rcases hrel with ⟨rfl,rfl⟩ | ⟨rfl,q,c2,di,E,I⟩
            · go_wp2_with fail
              go_region_law (first
                | (refine dE (.tmp 33) (.tmp 35) 254 3 (by rfl) (by rfl) (by rfl) (by rfl) Tryz.func220 (by kernel_rfl) (by rfl) (a5.out _ a9.out) ?_;intro e w2 D;obtain⟨ds,Q,Z,Y,z⟩:=D.good;obtain⟨u2,br,bq⟩:=Z.open;clear D Z;obtain⟨cg,p2,ci,c2,cv⟩:=bq.shape;subst cv;subst br;refine⟨_,Q,?_⟩;clear Q;unfold an;have z1:w2.cell? ⟨w1.1.size,1,none⟩=some (.slice none 0 0):=by(rw[z.cell ce (by show ¬w1.1.size=R;omega)];exact c1)
                   have z2:∀o,(w2.alloc o).cell? ⟨w1.1.size,1,none⟩=some (.slice none 0 0):=fun o=>by(rw[World.cell?_alloc_past _ _ _ (by have:=z.size;show w1.1.size<_;omega)];exact z1)
                   have b1:=gQq bq;have cq:=gQq Y;have cn:=gQq z;have df:Hid (Below w2.1.size w2 (w2.alloc (.cells #[.int .i64 cg,.slice p2 ci c2] 34))):=gQy;have dr:=z.size;clear bq Y z)
                | (refine po (B:=wr.1.size) (us:=fun _=>#[]) (v:=.slice none 0 0) (n:=0) (World.ownsRow_nil _ _ _ _) (u:=#[.int .i64 cg,.slice p2 ci c2]) rfl (zY b1.out) (ad:=w2.1.size) (by exact am w2 _) (by omega) (by simp;omega) (H:=w2.1.size+1) (by simp) (.tmp 32) (.tmp 37) (by rfl) (by rfl) (by rfl) (by rfl) ?_;intro bj cs w4 cc b8 cb;obtain⟨a0,dj,ca⟩:=zo (N:=w.1.size) (T:=w1.1.size) bk gQx cd ce U.out M.out S.out cn.out b1.out cq.out cc b8 (cb.resolve_left (by simp[Value.ownBlock]));have cp:=gQq ca;clear ca cc b8 cb))
              all_goals
                go_wp2;go_roundw;case rel=>
                  obtain⟨cw,cx,cy,c5,c6,c7,c8⟩:=cp.out _ rfl;refine .inr ⟨by go_num,some ⟨bj,0,none⟩,cs,cw,cx,cy,c5,?_,c7,c8⟩;rw[List.drop_succ_cons];exact c6
                case measure=>simp[intOf]
            · have z0:=aa I.out.1 0;have z1:=aa I.out.1 1;have dv:=ac I.out.1 0;have d0:=ac I.out.1 1;clear c0 c1 c9 da db dc de;have a6:=gQq (fun w5 bs=>zE (w5:=w5) bk I.out.1 I.out.2.1 (fun k bn=>⟨by omega,bn.2⟩) I.out.2.2.1 I.out.2.2.2.1 bs);go_wp2;obtain⟨f1,be,bi,a0⟩:=a6.out _ rfl;refine bodyPost_ret (v:=.agg (an (b.toNat:Int) q 1 c2)) (results_cell_row rfl _ _ w.1.size _ _ _ _ rfl f1 Tryz.underlying34 rfl (by kernel_rfl)) rfl ?_;rw[bb.out];exact⟨_,rfl,be,bi,a0⟩
      · have ab:Ty.want (b.toNat:Int)=0:=(by unfold Ty.want;rw[if_neg (by omega)]);rw[ab];have bb:Hid (r=.ok (⟨(b.toNat:Int),[]⟩,1)):=aj.out.trans (if_pos (by omega));have a6:=gQq (fun w5 bs=>zE (w5:=w5) (b:=(b.toNat:Int)) (q:=none) (n:=0) (c:=0) (x:=⟨(b.toNat:Int),[]⟩) (F:=fun _=>False) bk M.out .none (fun _ h=>h.elim) a9.out S.out bs);clear ab aj a7;go_wp2_with fail;go_loopw [29] (fun J wr=>J=.int .i64 0∧wr=W) (fun _ _=>0);case atStart=>exact⟨rfl,rfl⟩
        case round=>
          obtain⟨rfl,rfl⟩:=hrel;go_wp2;obtain⟨f1,be,bi,a0⟩:=a6.out _ rfl;refine bodyPost_ret (v:=.agg (an (b.toNat:Int) none 0 0)) (results_cell_row rfl _ _ w.1.size _ _ _ _ rfl f1 Tryz.underlying34 rfl (by kernel_rfl)) rfl ?_;rw[bb.out];exact⟨_,rfl,be,bi,a0⟩
end
section
open Go.RowKit
attribute [local go_sem] af
def isV(w:World)(x:V)(v:Value)(w':World):Prop:=∃u,v=.agg u∧aO w' (fun k=>w.1.size<=k∧k<w'.1.size) u x
theorem isV.open{x:V}(h:isV w x v w'):∃u,v=.agg u∧aO w' (fun k=>w.1.size<=k∧k<w'.1.size) u x:=h
def eM(w:World)(N:Nat)(k i:Int)(b:Nat)(t:ByteArray)(s:Value):World:=((((w.setCell ⟨N,0,none⟩ (.int .i64 k)).setCell ⟨N,1,none⟩ (.int .i64 i)).setCell ⟨N,2,none⟩ (.float .f64 b)).setCell ⟨N,3,none⟩ (.string t)).setCell ⟨N,4,none⟩ s
theorem j9(w:World)(N:Nat)(k i:Int)(b:Nat)(t:ByteArray)(s:Value):Aside (fun j=>j=N) w (eM w N k i b t s):=by
 have y:Aside (fun j=>j=N) w (w.setCell ⟨N,0,none⟩ (.int .i64 k)):=ag _ _ _ _;have z:=y.trans (ag _ N 1 (.int .i64 i)) (fun _ _ h=>h);have D:=z.trans (ag _ N 2 (.float .f64 b)) (fun _ _ h=>h);have E:=D.trans (ag _ N 3 (.string t)) (fun _ _ h=>h);exact E.trans (ag _ N 4 s) (fun _ _ h=>h)
theorem og{N:Nat}{C:AV}(h:w.1[N]?=some (.cells C 38 (0,0)))(D:C.size=5)(k i:Int)(b:Nat)(t:ByteArray)(q:OA)(n c:Nat):(eM w N k i b t (.slice q n c)).1[N]?=some (.cells (cells5 k i b t q n c) 38 (0,0)):=by
 have e:((((C.set! 0 (.int .i64 k)).set! 1 (.int .i64 i)).set! 2 (.float .f64 b)).set! 3 (.string t)).set! 4 (.slice q n c)=cells5 k i b t q n c:=by
  obtain⟨z⟩:=C;match z,D with
  | [a0,a1,a2,a3,a4],_=>rfl
 have y:=ai (ai (ai (ai (ai h 0 (.int .i64 k)) 1 (.int .i64 i)) 2 (.float .f64 b)) 3 (.string t)) 4 (.slice q n c);rw[e] at y;exact y
theorem lF(w:World)(N:Nat)(k i:Int)(b:Nat)(t:ByteArray)(s:Value):(eM w N k i b t s).1.size=w.1.size:=by simp[eM,World.setCell]
theorem xi{N:Nat}{i:Int}{b:Nat}{t:ByteArray}{x:V}{F:Nat->Prop}(Q:R<w.1.size)(O:w.1.size<=N)(I:wr.1[N]?=some (.cells #[.int .i64 0,.int .i64 0,.float .f64 0,.string ⟨#[]⟩,.slice none 0 0] 38 (0,0)))(K:aO wr F (cells5 k i b t q n c) x)(D:∀j,F j->N<j∧j<wr.1.size)(L:Rdr wr A R l)(J:Aside (fun j=>j=R) w wr):
  (eM wr N k i b t (.slice q n c)).1[N]?=some (.cells (cells5 k i b t q n c) 38 (0,0))∧isV w x (.agg (cells5 k i b t q n c)) (eM wr N k i b t (.slice q n c))∧Rdr (eM wr N k i b t (.slice q n c)) A R l∧Aside (fun j=>j=R) w (eM wr N k i b t (.slice q n c)):=by
 have z:=j9 wr N k i b t (.slice q n c);have M:=lF wr N k i b t (.slice q n c);refine⟨og I rfl k i b t q n c,⟨_,rfl,?_⟩,L.aside z (fun j y=>by rw[y];omega),J.trans z (fun j y E=>by rw[E] at y;omega)⟩;rw[M];exact(K.aside z (fun j y E=>by have:=D j y;omega)).mono (fun j y=>by have:=D j y;omega)
structure dY(w W:World)(A R:Nat)(k:Int)(C0:AV)(l:L8):Prop where
 b0:W.1[w.1.size]?=some (.cells C0 34 (0,0))
 b1:W.1[w.1.size+1]?=some (.cells #[.int .i64 0,.int .i64 0,.float .f64 0,.string ⟨#[]⟩,.slice none 0 0] 38 (0,0))
 b2:W.1[w.1.size+1+1]?=some (.cells #[.int .i64 k,.int .i64 0,.float .f64 0,.string ⟨#[]⟩,.slice none 0 0] 38 (0,0))
 rd:Rdr W A R l
 aside:Aside (fun i=>i=R) w W
 size:w.1.size+3<=W.1.size
theorem bS(k:Int)(C0:AV){l:L8}(h:Rdr w A R l):dY w (((w.alloc (.cells C0 34)).alloc (.cells #[.int .i64 0,.int .i64 0,.float .f64 0,.string ⟨#[]⟩,.slice none 0 0] 38)).alloc (.cells #[.int .i64 k,.int .i64 0,.float .f64 0,.string ⟨#[]⟩,.slice none 0 0] 38)) A R k C0 l:=by
 have hb:Below w.1.size w (((w.alloc (.cells C0 34)).alloc (.cells #[.int .i64 0,.int .i64 0,.float .f64 0,.string ⟨#[]⟩,.slice none 0 0] 38)).alloc (.cells #[.int .i64 k,.int .i64 0,.float .f64 0,.string ⟨#[]⟩,.slice none 0 0] 38)):=(gQy.alloc (by simp) _).alloc (by simp;omega) _;refine⟨?_,?_,?_,h.on hb,al hb _,by simp⟩
 ·rw[aG _ _ (by simp;omega),aG _ _ (by simp)];exact am w _
 ·rw[aG _ _ (by simp)];have:=am (w.alloc (.cells C0 34)) (.cells #[.int .i64 0,.int .i64 0,.float .f64 0,.string ⟨#[]⟩,.slice none 0 0] 38);simpa using this
 ·have:=am ((w.alloc (.cells C0 34)).alloc (.cells #[.int .i64 0,.int .i64 0,.float .f64 0,.string ⟨#[]⟩,.slice none 0 0] 38)) (.cells #[.int .i64 k,.int .i64 0,.float .f64 0,.string ⟨#[]⟩,.slice none 0 0] 38);simpa using this
theorem dY.step{z:World}{l':L8}(h:dY w W A R k C0 l)(y:Aside (fun i=>i=R) W z)(D:Rdr z A R l')(I:R<w.1.size):dY w z A R k C0 l':=by
 have E:=h.size;refine⟨?_,?_,?_,D,h.aside.trans y (fun _ _ h=>h),Nat.le_trans E y.size⟩
 ·rw[y.block _ (by omega) (by omega)];exact h.b0
 ·rw[y.block _ (by omega) (by omega)];exact h.b1
 ·rw[y.block _ (by omega) (by omega)];exact h.b2
theorem dY.fin(h:dY w W A R k C0 l)(D:R<w.1.size)(m:Nat)(u:Value)(i:Int)(b:Nat)(t:ByteArray):
  (eM (W.setCell ⟨w.1.size+1+1,m,none⟩ u) (w.1.size+1) k i b t (.slice none 0 0)).1[w.1.size+1]?=some (.cells (cells5 k i b t none 0 0) 38 (0,0))∧isV w (.mk k i b t []) (.agg (cells5 k i b t none 0 0)) (eM (W.setCell ⟨w.1.size+1+1,m,none⟩ u) (w.1.size+1) k i b t (.slice none 0 0))∧Rdr (eM (W.setCell ⟨w.1.size+1+1,m,none⟩ u) (w.1.size+1) k i b t (.slice none 0 0)) A R l∧Aside (fun j=>j=R) w (eM (W.setCell ⟨w.1.size+1+1,m,none⟩ u) (w.1.size+1) k i b t (.slice none 0 0)):=by
 have y:Aside (fun i=>i=w.1.size+1+1) W (W.setCell ⟨w.1.size+1+1,m,none⟩ u):=ag _ _ _ _;have I:=h.size;refine xi (F:=fun _=>False) D (by omega) ?_ .none (fun _ h=>h.elim) (h.rd.aside y (fun j z=>by rw[z];omega)) (h.aside.trans y (fun j z E=>by rw[E] at z;omega));rw[y.block _ (by omega) (by omega)];exact h.b1
theorem nC(l:L8):Sch.scalar 1 l=ar (Sch.bit l) fun n j=>.ok (.mk 1 n 0 ⟨#[]⟩ [],j):=by
 unfold Sch.scalar;rw[if_pos rfl];cases Sch.bit l with
 |error e=>rfl
 |ok p=>rfl
theorem nB(l:L8):Sch.scalar 2 l=ar (Sch.num l) fun n j=>.ok (.mk 2 (Leb.zag n) 0 ⟨#[]⟩ [],j):=by
 unfold Sch.scalar;rw[if_neg (by decide),if_pos rfl];cases Sch.num l with
 |error e=>rfl
 |ok p=>rfl
theorem nA(l:L8):Sch.scalar 3 l=ar (Sch.float l) fun n j=>.ok (.mk 3 0 n ⟨#[]⟩ [],j):=by
 unfold Sch.scalar;rw[if_neg (by decide),if_neg (by decide),if_pos rfl];cases Sch.float l with
 |error e=>rfl
 |ok p=>rfl
theorem nz(l:L8):Sch.scalar 4 l=ar (Sch.text 1024 2 l) fun t j=>if dM t=false then .error 61 else .ok (.mk 4 0 0 t [],j):=by
 unfold Sch.scalar;rw[if_neg (by decide),if_neg (by decide),if_neg (by decide)];cases Sch.text 1024 2 l with
 |error e=>rfl
 |ok p=>
  obtain⟨t,j⟩:=p;rw[aK];dsimp only;by_cases h:dM t=false
  ·rw[if_pos ⟨rfl,h⟩,if_pos h]
  ·rw[if_neg (fun y=>h y.2),if_neg h]
theorem nw(l:L8):Sch.scalar 5 l=ar (Sch.text 1024 2 l) fun t j=>.ok (.mk 5 0 0 t [],j):=by
 unfold Sch.scalar;rw[if_neg (by decide),if_neg (by decide),if_neg (by decide)];cases Sch.text 1024 2 l with
 |error e=>rfl
 |ok p=>
  obtain⟨t,j⟩:=p;rw[aK];dsimp only;rw[if_neg (fun y=>by have:=y.1;omega)]
theorem wu(l:L8)(A R:Nat)(w:World)(p:OA)(n c:Nat)(h:Rdr w A R l):Calls Tryz.prog 222 #[.pointer (some ⟨R,0,none⟩),.agg #[.int .i64 1,.slice p n c]] w (RdA w A R l (Sch.scalar 1 l) (isV w)):=by
 have V:=h.lt;obtain⟨W,M⟩:∃W,W=((w.alloc (.cells #[.int .i64 1,.slice p n c] 34)).alloc (.cells #[.int .i64 0,.int .i64 0,.float .f64 0,.string ⟨#[]⟩,.slice none 0 0] 38)).alloc (.cells #[.int .i64 1,.int .i64 0,.float .f64 0,.string ⟨#[]⟩,.slice none 0 0] 38):=⟨_,rfl⟩;have J:Hid (dY w W A R 1 #[.int .i64 1,.slice p n c] l):=by rw[M];exact bS 1 _ h
 have L:=gQq M;obtain⟨r,S⟩:∃r,r=Sch.scalar 1 l:=⟨_,rfl⟩;have D:=gQq (S.trans (nC l));rw[<-S];have z:=gQq (va l A R W J.out.rd);obtain⟨m,Q⟩:∃m,m=Sch.bit l:=⟨_,rfl⟩;rw[<-Q] at D z;have ak:=gQq Q;clear S Q h M;cases m with
 |error er=>
  have K:Hid (r=.error er):=D.out;clear D;go_enter Tryz.func222,Tryz.ntmps222;go_wp2_with fail;rw[<-L.out];refine z.out.mono ?_;intro e w1 I;obtain⟨O,E⟩:=I.bad;subst O;clear I;have Y:=gQq (J.out.aside.trans E (fun _ _ h=>h));clear E z;go_wp2;rw[K.out];exact⟨rfl,rfl,Y.out⟩
 |ok xj=>
  obtain⟨x,j⟩:=xj;have K:Hid (r=.ok (.mk 1 (x:Nat) 0 ⟨#[]⟩ [],j)):=D.out;clear D;go_enter Tryz.func222,Tryz.ntmps222;go_wp2_with fail;rw[<-L.out];refine z.out.mono ?_;intro e w1 I;obtain⟨v,O,U,X,E⟩:=I.good;clear I
  replace U:v=.int .i64 (x:Nat):=U
  subst U;subst O;have y:=gQq (J.out.step E X V);clear E X z L J;obtain⟨a0,a1,a2,a3,a4⟩:=cQ5 y.out.b2;obtain⟨bb,bc,be,bi,bj⟩:=cQ5 y.out.b1;have a5:=ac y.out.b2 0;have a6:=ac y.out.b2 1;have a7:=ac y.out.b2 2;have a8:=ac y.out.b2 3;have a9:=ac y.out.b2 4;have bk:=ac y.out.b1 0;have bn:=ac y.out.b1 1;have bp:=ac y.out.b1 2;have bq:=ac y.out.b1 3;have br:=ac y.out.b1 4;have Z:=gQq (y.out.fin V 1 (.int .i64 (x:Nat)) (x:Nat) 0 ⟨#[]⟩);go_wp2;obtain⟨f1,ab,ah,aj⟩:=Z.out;refine bodyPost_ret (v:=.agg (cells5 1 (x:Nat) 0 ⟨#[]⟩ none 0 0)) (results_cell_row rfl _ _ (w.1.size+1) _ _ _ _ rfl f1 Tryz.underlying38 rfl (by kernel_rfl)) rfl ?_;rw[K.out];exact⟨_,rfl,ab,ah,aj⟩
theorem wj(l:L8)(A R:Nat)(w:World)(p:OA)(n c:Nat)(h:Rdr w A R l):Calls Tryz.prog 222 #[.pointer (some ⟨R,0,none⟩),.agg #[.int .i64 3,.slice p n c]] w (RdA w A R l (Sch.scalar 3 l) (isV w)):=by
 have V:=h.lt;obtain⟨W,M⟩:∃W,W=((w.alloc (.cells #[.int .i64 3,.slice p n c] 34)).alloc (.cells #[.int .i64 0,.int .i64 0,.float .f64 0,.string ⟨#[]⟩,.slice none 0 0] 38)).alloc (.cells #[.int .i64 3,.int .i64 0,.float .f64 0,.string ⟨#[]⟩,.slice none 0 0] 38):=⟨_,rfl⟩;have J:Hid (dY w W A R 3 #[.int .i64 3,.slice p n c] l):=by rw[M];exact bS 3 _ h
 have L:=gQq M;obtain⟨r,S⟩:∃r,r=Sch.scalar 3 l:=⟨_,rfl⟩;have D:=gQq (S.trans (nA l));rw[<-S];have z:=gQq (yx l A R W J.out.rd);obtain⟨m,Q⟩:∃m,m=Sch.float l:=⟨_,rfl⟩;rw[<-Q] at D z;have ak:=gQq Q;clear S Q h M;cases m with
 |error er=>
  have K:Hid (r=.error er):=D.out;clear D;go_enter Tryz.func222,Tryz.ntmps222;go_wp2_with fail;rw[<-L.out];refine z.out.mono ?_;intro e w1 I;obtain⟨O,E⟩:=I.bad;subst O;clear I;have Y:=gQq (J.out.aside.trans E (fun _ _ h=>h));clear E z;go_wp2;rw[K.out];exact⟨rfl,rfl,Y.out⟩
 |ok xj=>
  obtain⟨x,j⟩:=xj;have K:Hid (r=.ok (.mk 3 0 x ⟨#[]⟩ [],j)):=D.out;clear D;go_enter Tryz.func222,Tryz.ntmps222;go_wp2_with fail;rw[<-L.out];refine z.out.mono ?_;intro e w1 I;obtain⟨v,O,U,X,E⟩:=I.good;clear I
  replace U:v=.float .f64 x:=U
  subst U;subst O;have y:=gQq (J.out.step E X V);clear E X z L J;obtain⟨a0,a1,a2,a3,a4⟩:=cQ5 y.out.b2;obtain⟨bb,bc,be,bi,bj⟩:=cQ5 y.out.b1;have a5:=ac y.out.b2 0;have a6:=ac y.out.b2 1;have a7:=ac y.out.b2 2;have a8:=ac y.out.b2 3;have a9:=ac y.out.b2 4;have bk:=ac y.out.b1 0;have bn:=ac y.out.b1 1;have bp:=ac y.out.b1 2;have bq:=ac y.out.b1 3;have br:=ac y.out.b1 4;have Z:=gQq (y.out.fin V 2 (.float .f64 x) 0 x ⟨#[]⟩);go_wp2;obtain⟨f1,ab,ah,aj⟩:=Z.out;refine bodyPost_ret (v:=.agg (cells5 3 0 x ⟨#[]⟩ none 0 0)) (results_cell_row rfl _ _ (w.1.size+1) _ _ _ _ rfl f1 Tryz.underlying38 rfl (by kernel_rfl)) rfl ?_;rw[K.out];exact⟨_,rfl,ab,ah,aj⟩
theorem wg(l:L8)(A R:Nat)(w:World)(p:OA)(n c:Nat)(h:Rdr w A R l):Calls Tryz.prog 222 #[.pointer (some ⟨R,0,none⟩),.agg #[.int .i64 5,.slice p n c]] w (RdA w A R l (Sch.scalar 5 l) (isV w)):=by
 have V:=h.lt;obtain⟨W,M⟩:∃W,W=((w.alloc (.cells #[.int .i64 5,.slice p n c] 34)).alloc (.cells #[.int .i64 0,.int .i64 0,.float .f64 0,.string ⟨#[]⟩,.slice none 0 0] 38)).alloc (.cells #[.int .i64 5,.int .i64 0,.float .f64 0,.string ⟨#[]⟩,.slice none 0 0] 38):=⟨_,rfl⟩;have J:Hid (dY w W A R 5 #[.int .i64 5,.slice p n c] l):=by rw[M];exact bS 5 _ h
 have L:=gQq M;obtain⟨r,S⟩:∃r,r=Sch.scalar 5 l:=⟨_,rfl⟩;have D:=gQq (S.trans (nw l));rw[<-S];have z:=gQq (xD l A R W J.out.rd);obtain⟨m,Q⟩:∃m,m=Sch.text 1024 2 l:=⟨_,rfl⟩;rw[<-Q] at D z;have ak:=gQq Q;clear S Q h M;cases m with
 |error er=>
  have K:Hid (r=.error er):=D.out;clear D;go_enter Tryz.func222,Tryz.ntmps222;go_wp2_with fail;rw[<-L.out];refine z.out.mono ?_;intro e w1 I;obtain⟨O,E⟩:=I.bad;subst O;clear I;have Y:=gQq (J.out.aside.trans E (fun _ _ h=>h));clear E z;go_wp2;rw[K.out];exact⟨rfl,rfl,Y.out⟩
 |ok xj=>
  obtain⟨x,j⟩:=xj;have K:Hid (r=.ok (.mk 5 0 0 x [],j)):=D.out;clear D;go_enter Tryz.func222,Tryz.ntmps222;go_wp2_with fail;rw[<-L.out];refine z.out.mono ?_;intro e w1 I;obtain⟨v,O,U,X,E⟩:=I.good;clear I
  replace U:v=.string x:=U
  subst U;subst O;have y:=gQq (J.out.step E X V);clear E X z L J;obtain⟨a0,a1,a2,a3,a4⟩:=cQ5 y.out.b2;obtain⟨bb,bc,be,bi,bj⟩:=cQ5 y.out.b1;have a5:=ac y.out.b2 0;have a6:=ac y.out.b2 1;have a7:=ac y.out.b2 2;have a8:=ac y.out.b2 3;have a9:=ac y.out.b2 4;have bk:=ac y.out.b1 0;have bn:=ac y.out.b1 1;have bp:=ac y.out.b1 2;have bq:=ac y.out.b1 3;have br:=ac y.out.b1 4;have Z:=gQq (y.out.fin V 3 (.string x) 0 0 x);go_wp2;obtain⟨f1,ab,ah,aj⟩:=Z.out;refine bodyPost_ret (v:=.agg (cells5 5 0 0 x none 0 0)) (results_cell_row rfl _ _ (w.1.size+1) _ _ _ _ rfl f1 Tryz.underlying38 rfl (by kernel_rfl)) rfl ?_;rw[K.out];exact⟨_,rfl,ab,ah,aj⟩
theorem wl(l:L8)(A R:Nat)(w:World)(p:OA)(n c:Nat)(h:Rdr w A R l):Calls Tryz.prog 222 #[.pointer (some ⟨R,0,none⟩),.agg #[.int .i64 2,.slice p n c]] w (RdA w A R l (Sch.scalar 2 l) (isV w)):=by
 have Z:=h.lt;obtain⟨W,Q⟩:∃W,W=((w.alloc (.cells #[.int .i64 2,.slice p n c] 34)).alloc (.cells #[.int .i64 0,.int .i64 0,.float .f64 0,.string ⟨#[]⟩,.slice none 0 0] 38)).alloc (.cells #[.int .i64 2,.int .i64 0,.float .f64 0,.string ⟨#[]⟩,.slice none 0 0] 38):=⟨_,rfl⟩;have K:Hid (dY w W A R 2 #[.int .i64 2,.slice p n c] l):=by rw[Q];exact bS 2 _ h
 have M:=gQq Q;obtain⟨r,V⟩:∃r,r=Sch.scalar 2 l:=⟨_,rfl⟩;have D:=gQq (V.trans (nB l));rw[<-V];have z:=gQq (qS l A R W K.out.rd);obtain⟨m,U⟩:∃m,m=Sch.num l:=⟨_,rfl⟩;rw[<-U] at D z;have Y:=gQq U;clear V U h Q;cases m with
 |error er=>
  have L:Hid (r=.error er):=D.out;clear D;go_enter Tryz.func222,Tryz.ntmps222;go_wp2_with fail;rw[<-M.out];refine z.out.mono ?_;intro e w1 I;obtain⟨S,E⟩:=I.bad;subst S;clear I;have ak:=gQq (K.out.aside.trans E (fun _ _ h=>h));clear E z;go_wp2;rw[L.out];exact⟨rfl,rfl,ak.out⟩
 |ok xj=>
  obtain⟨x,j⟩:=xj;have L:Hid (r=.ok (.mk 2 (Leb.zag x) 0 ⟨#[]⟩ [],j)):=D.out;clear D;go_enter Tryz.func222,Tryz.ntmps222;go_wp2_with fail;rw[<-M.out];refine z.out.mono ?_;intro e w1 I;obtain⟨v,S,X,ab,E⟩:=I.good;clear I
  replace X:v=.int .u64 (x:Nat):=X
  subst X;subst S;have y:=gQq (K.out.step E ab Z);clear E ab z M K;have O:=gQq (qD x (fH Y.out.symm).2);obtain⟨J,aj⟩:∃J,J=Leb.zag x:=⟨_,rfl⟩;rw[<-aj] at O L;clear aj Y;go_wp2_with fail;refine(O.out _).mono ?_;rintro e w2 ⟨rfl,ah⟩;rw[ah];clear ah w2 O;obtain⟨a4,a5,a6,a7,a8⟩:=cQ5 y.out.b2;obtain⟨bj,bk,bn,bp,bq⟩:=cQ5 y.out.b1;have a9:=ac y.out.b2 0;have bb:=ac y.out.b2 1;have bc:=ac y.out.b2 2;have be:=ac y.out.b2 3;have bi:=ac y.out.b2 4;have br:=ac y.out.b1 0;have bs:=ac y.out.b1 1;have bN:=ac y.out.b1 2;have bO:=ac y.out.b1 3;have bT:=ac y.out.b1 4;have a0:=gQq (y.out.fin Z 1 (.int .i64 J) J 0 ⟨#[]⟩);go_wp2;obtain⟨f1,a1,a2,a3⟩:=a0.out;refine bodyPost_ret (v:=.agg (cells5 2 J 0 ⟨#[]⟩ none 0 0)) (results_cell_row rfl _ _ (w.1.size+1) _ _ _ _ rfl f1 Tryz.underlying38 rfl (by kernel_rfl)) rfl ?_;rw[L.out];exact⟨_,rfl,a1,a2,a3⟩
end
section
open Go.RowKit
attribute [local go_sem] af
structure fA(w:World)(R:Nat)(u:AV)(t:Ty):Prop where
 out:∃F:Nat->Prop,aW w F u t∧∀k,F k->R<k∧k<w.1.size
theorem fA.aside(h:fA w R u t)(D:Aside (fun i=>i=R) w w'):fA w' R u t:=by
 obtain⟨F,E,z⟩:=h.out;have J:=D.size;exact⟨F,E.aside D (fun k y I=>by have:=z k y;omega),fun k y=>⟨(z k y).1,by have:=z k y;omega⟩⟩
theorem fA.on(h:fA w R u t)(hb:Below w.1.size w w'):fA w' R u t:=by
 obtain⟨F,D,z⟩:=h.out;have E:=hb.size;exact⟨F,D.under hb (fun k y=>(z k y).2),fun k y=>⟨(z k y).1,by have:=z k y;omega⟩⟩
theorem fA.one(h:fA w R u (.mk k [x])):∃g off c k' q n' z,u=an k (some ⟨g,off,none⟩) 1 c∧fA w R (an k' q n' z) x∧R<g∧g<w.1.size∧w.cell? ⟨g,off,none⟩=some (.int .i64 k')∧w.cell? ⟨g,off+1,none⟩=some (.slice q n' z):=by
 obtain⟨F,L,E⟩:=h.out;rcases L.inv with ⟨O,p,c,I,y⟩ | ⟨O,g,off,c,xs,us,K,I,y,s⟩
 ·simp only[Ty.mk.injEq] at y;exact absurd y.2 (by simp)
 ·simp only[Ty.mk.injEq] at y;obtain⟨rfl,rfl⟩:=y;have D:=s.hr 0 (by simp);obtain⟨k',q,n',z,J⟩:=D.shape;have c0:=s.hp.2 0 (by simp) 0 (by omega);have c1:=s.hp.2 0 (by simp) 1 (by omega);rw[J] at c0 c1;rw[J] at D;exact⟨g,off,c,k',q,n',z,I,⟨K 0,D,fun j M=>E j (s.hs 0 (by simp) j M)⟩,(E g s.hg).1,s.hp.1,by simpa[an] using c0,by simpa[an] using c1⟩
theorem fA.shape(h:fA w R u t):∃k p n c,u=an k p n c:=by
 obtain⟨F,y,_⟩:=h.out;exact y.shape
def lI(w:World)(vs:List V)(v:Value)(w':World):Prop:=∃q c,v=.slice q vs.length c∧∀k,aO w' (fun i=>w.1.size<=i∧i<w'.1.size) (cells5 k 0 0 ⟨#[]⟩ q vs.length c) (.mk k 0 0 ⟨#[]⟩ vs)
theorem lI.open{y:List V}(h:lI w y v w'):∃q c,v=.slice q y.length c∧∀k,aO w' (fun i=>w.1.size<=i∧i<w'.1.size) (cells5 k 0 0 ⟨#[]⟩ q y.length c) (.mk k 0 0 ⟨#[]⟩ y):=h
def oN(t:Ty):Prop:=∀(l:L8) (A R:Nat) (w:World) (u:AV),fA w R u t->Rdr w A R l->Calls Tryz.prog 222 #[.pointer (some ⟨R,0,none⟩),.agg u] w (RdA w A R l (Sch.rdV t l) (isV w))
structure oR(w wr:World)(A R:Nat)(u:AV)(t:Ty)(m:Nat)(l:L8)(r:Except Nat (List V×Nat))(ys:List V)(v:Value):Prop where
 built:∃us Fs,aZ wr (w.1.size+1) v ys.length us Fs ys
 b0:wr.1[w.1.size]?=some (.cells u 34 (0,0))
 far:fA w R u t
 left:∃n,Rdr wr A R (l.drop n)∧r=glue ys n (Sch.rdN (Sch.rdV t) (m-ys.length) (l.drop n))
 aside:Aside (fun i=>i=R) w wr
 low:R<w.1.size
 size:w.1.size+1<=wr.1.size
 len:ys.length<=m
theorem oj(y:fA w R u t)(h:Rdr w A R l):oR w (w.alloc (.cells u 34)) A R u t m l (Sch.rdN (Sch.rdV t) m l) [] (.slice none 0 0):=by
 have hb:Below w.1.size w (w.alloc (.cells u 34)):=gQy;refine⟨⟨_,_,fV _ _⟩,am w _,y,⟨0,h.on hb,?_⟩,al hb _,h.lt,by simp,Nat.zero_le _⟩;rw[List.drop_zero,List.length_nil,Nat.sub_zero];cases Sch.rdN (Sch.rdV t) m l with
 |error e=>rfl
 |ok p=>simp[glue]
theorem oR.next{r:Except Nat (List V×Nat)}{y:List V}{v:Value}(h:oR w wr A R u t m l r y v){us:Nat->AV}{S:Nat->Nat->Prop}(M:aZ wr (w.1.size+1) v y.length us S y){n j:Nat}{x:V}{E:AV}(bb:y.length<m)(aj:r=glue y n (Sch.rdN (Sch.rdV t) (m-y.length) (l.drop n)))(a7:Sch.rdV t (l.drop n)=.ok (x,j))(J:Aside (fun i=>i=R) wr w2)(a2:aO w2 (fun k=>wr.1.size<=k∧k<w2.1.size) E x)(a4:Rdr w2 A R ((l.drop n).drop j)):
  (w2.alloc (.cells E 38)).ownsRow (w.1.size+1) 38 5 v y.length (flat us y.length) ∧
  ∀g cap,w4.ownsRow (w.1.size+1) 38 5 (.slice (some ⟨g,0,none⟩) (y.length+1) cap) (y.length+1) (flat us y.length++E.toList)->(w2.alloc (.cells E 38)).grownBy w4 v.ownBlock->(v.ownBlock=some g∨g=(w2.alloc (.cells E 38)).1.size) ->
   oR w w4 A R u t m l r (y++[x]) (.slice (some ⟨g,0,none⟩) (y.length+1) cap):=by
 have a5:=h.size;have ak:=h.low;have bc:=J.size;have K:Below w2.1.size w2 (w2.alloc (.cells E 38)):=gQy;have be:=K.size;obtain⟨a9,a8,X,Y⟩:=J.split (by omega);have O:aZ a9 (w.1.size+1) v y.length us S y:=M.aside a8 (fun g D ab=>by have:=(M.lt g D).1;omega) (fun i U k z ab=>by have:=(M.range i U k z).1;omega);refine⟨((O.on Y).on K).row,fun g cap a3 D a0=>?_⟩;have a6:=O.step Y a2 (fun k z=>⟨by rw[X];exact z.1,z.2⟩) K (by rw[X];exact a5) a3 D a0;have bi:=D.size;have Q:=fun k (z:v.ownBlock=some k)=>(O.lt k z);have L:Aside (fun k=>v.ownBlock=some k) w2 w4:=(al K _).trans (G:=fun k=>v.ownBlock=some k) ⟨D.os,D.tape,D.output,D.size,fun k z ah=>D.block k z (fun I=>ah I.symm)⟩ (fun _ _ h=>h);have keep:∀k,k<=w.1.size->k≠R->w4.1[k]?=wr.1[k]?:=fun k z a1=>by
  rw[L.block k (by omega) (fun I=>by have:=(Q k I).1;omega),J.block k (by omega) a1]
 have Z:Aside (fun i=>i=R) w w4:=by
  refine(h.aside.trans J (fun _ _ h=>h)).trans L (fun i U I=>?_);have:=(Q i I).1;omega
 refine⟨⟨_,_,by rw[List.length_append,List.length_singleton];exact a6⟩,(keep _ gQx (by omega)).trans h.b0,?_,⟨n+j,?_,?_⟩,Z,ak,by omega,by rw[List.length_append,List.length_singleton];omega⟩
 ·exact h.far
 ·rw[<-List.drop_drop];exact a4.aside L (fun k z=>by have:=(Q k z).1;omega)
 ·rw[aj,show m-y.length=(m-(y++[x]).length)+1 by rw[List.length_append,List.length_singleton];omega,eJ,a7,iT,eS,List.drop_drop]
theorem uP(t:Ty)(Q:oN t)(m:Nat)(cb:m<=256)(l:L8)(A R:Nat)(w:World)(u:AV)(X:fA w R u t)(h:Rdr w A R l):Calls Tryz.prog 250 #[.pointer (some ⟨R,0,none⟩),.int .i64 m,.agg u] w (RdA w A R l (Sch.rdN (Sch.rdV t) m l) (lI w)):=by
  obtain⟨a6,a8,a7,c0,b0⟩:=X.shape;have U:=gQq (oj (m:=m) X h);have bp:=gQq Q;have ca:=h.lt;obtain⟨r,a4⟩:∃r,r=Sch.rdN (Sch.rdV t) m l:=⟨_,rfl⟩;rw[<-a4] at U ⊢;subst b0;unfold an at U ⊢;clear a4 X h Q;go_enter Tryz.func250,Tryz.ntmps250;go_wp2_with fail;go_loopw [7,9] (fun b7 Z wr=>∃(y:List V) (q:OA) (c:Nat),Z=.int .i64 y.length∧b7=.slice q y.length c∧y.length<=m∧Hid (oR w wr A R #[.int .i64 a6,.slice a8 a7 c0] t m l r y (.slice q y.length c))) (fun _ Z _=>m-(intOf Z).toNat);case atStart=>exact⟨[],none,0,rfl,rfl,Nat.zero_le _,U.out⟩
  case round=>
    obtain⟨y,q,c,rfl,rfl,cc,z⟩:=hrel;by_cases bT:y.length<m
    · have b8:(y.length:Int)<(m:Int):=(by omega);have br:wr.cell? ⟨w.1.size,0,none⟩=some (.int .i64 a6):=aa z.out.b0 0;have bs:wr.cell? ⟨w.1.size,1,none⟩=some (.slice a8 a7 c0):=aa z.out.b0 1;obtain⟨n,D,O⟩:=z.out.left;obtain⟨us,a9,K⟩:=z.out.built;have J:=gQq (bp.out (l.drop n) A R wr _ (z.out.far.aside z.out.aside) D);have aj:=gQq O;have bb:=gQq K;obtain⟨b4,Y⟩:∃x,x=Sch.rdV t (l.drop n):=⟨_,rfl⟩;rw[<-Y] at J;have ab:=gQq Y;clear D O K Y;cases b4 with
      |error er=>
        have bk:Hid (r=.error er):=by
          show _=_;rw[aj.out,show m-y.length=(m-y.length-1)+1 by omega,eJ,<-ab.out];rfl
        go_wp2_with fail;refine J.out.mono ?_;intro e w1 M;obtain⟨L,I⟩:=M.bad;subst L;clear M;have S:=gQq (z.out.aside.trans I (fun _ _ h=>h));clear I J;go_wp2;rw[bk.out];exact⟨rfl,rfl,S.out⟩
      |ok xj=>
        obtain⟨x,j⟩:=xj;go_wp2_with fail;refine J.out.mono ?_;intro e w2 M;obtain⟨v,L,Q,D,I⟩:=M.good;obtain⟨cd,b2,E⟩:=Q.open;clear M Q;obtain⟨k',b3,bq,b6,b5,n',bN,b1⟩:=E.shape;subst b1;subst b2;subst L;unfold cells5 at E ⊢;have ah:=gQq (fun w4=>z.out.next (w4:=w4) bb.out bT aj.out ab.out.symm I E D);have bi:=gQq E;have bX:w.1.size+1<=w2.1.size+1:=(by have:=z.out.size;have:=I.size;omega);clear I D E J br bs
        go_wp2_with (first|(at_builtin;refine jn (B:=w.1.size+1) (us:=us) (v:=.slice q y.length c) (n:=y.length) (ah.out w2).1 (u:=#[.int .i64 k',.int .i64 b3,.float .f64 bq,.string b6,.slice b5 n' bN]) rfl (wS bi.out) (ad:=w2.1.size) (am w2 _) (by omega) (by simpa using bX) (H:=w2.1.size+1) (by simp) rfl rfl rfl rfl ?_;intro a0 ak w4 a5 a1 a3;have bc:=gQq ((ah.out w4).2 a0 ak a5 a1 (by simpa using a3));clear a5 a1 a3))
        go_roundw;case rel=>
          refine⟨y++[x],some ⟨a0,0,none⟩,ak,by simp,by simp,by simp;omega,?_⟩;have:=bc.out;rw[List.length_append,List.length_singleton];exact this
        case measure=>simp[intOf];omega
    · have b9:¬(y.length:Int)<(m:Int):=(by omega);have a2:m-y.length=0:=(by omega);obtain⟨n,D,O⟩:=z.out.left;obtain⟨us,a9,K⟩:=z.out.built;have bn:Hid (r=.ok (y,n)):=by
        show _=_;rw[O,a2,Sch.rdN,glue,List.append_nil,Nat.add_zero]
      have be:Hid (lI w y (.slice q y.length c) wr):=by
        refine⟨q,c,rfl,fun k=>?_⟩;obtain⟨p2,c2,L,E⟩:=K.done (by omega) k 0 0 ⟨#[]⟩;injection L with e1 e2 e3;subst e1 e3;exact E.mono (fun i bO=>⟨by omega,bO.2⟩)
      have bj:=gQq D;have S:=gQq z.out.aside;clear D O K z a2;go_wp2;go_ret;rw[bn.out];exact⟨_,rfl,be.out,bj.out,S.out⟩
end
end Go.Proofs.YtbahfgdbjgkklaaGreatDoor

import Derived.Test.YtngmnfdaedlodaaGreatDoorB17
set_option maxRecDepth 100000
set_option maxHeartbeats 2000000
namespace Go.Proofs.YtngmnfdaedlodaaGreatDoor
open Go.Proofs.Tryz
open Option renaming none->I,some->Y
open Go.Value renaming int->U,slice->C,string->mI,float->ox,bool->mx
open Go.IntKind renaming i64->O
open Go.RowKit renaming Hid->AY
open Go.FloatKind renaming f64->qq
open Bool renaming false->wx
open Go renaming World->wv
open Go.Obj renaming cells->qj
open Go.Proofs.Tryz renaming prog->AW
open Except renaming error->qx
variable{A R T:Nat}{W W' w:wv}{l:L8}{u0 u1 u2:Value}{k:Int}{D:AV}{a:Act}{ops:Array Oper}{o:Oper}{fn:Func}{code:Code}{c:Col}
section
open Go.RowKit
attribute [local go_sem] ai
theorem bS{y:Act->wv->Prop}{E:Exit->Act->wv->Prop}{J:Prop}{f:FuncId}{R:Ending->wv->Prop}(x:Operand)(a0:TypeId)(X:o.guard=I)(ah:o.op=Op.call { callee:=.value (.func f),args:=#[x],argTypes:=#[a0] })(aw:a.eval x=u0)(V : Tryz.prog.funcs[f]?=Y fn)(ab : (fn.name== "runtime.NumGoroutine")=wx)(hb : fn.body=Y code)(M:Calls AW f #[u0] w R)(L:∀e w',R e w'->∃ch,e=.panicked ch∧E (.panic ch) a w')(v':Value)(_:AY False->y (a.put o.dst v') w):
  if Region.wanted o (yielded ops a.tmps)=true then Oper.wp AW o a w y E else J:=by
 have ak:Region.wanted o (yielded ops a.tmps)=true:=by simp[Region.wanted,X]
 rw[AK ak];have K : fn.name≠ "runtime.NumGoroutine" := by simpa using ab
 unfold Oper.wp;have Q:(execOp a.eval o).run AW w=.ok (.enter f #[u0]) w:=by
  have S:a.eval (.func f)=.func (.func f) #[] #[]:=rfl;simp[execOp,ah,resolve,invoke,aw,S,Deferred.ofValue,callFunc,V,K,hb]
 rw[Q,Oper.upon_enter];refine M.mono ?_;intro e w' aj;obtain⟨z,rfl,Z⟩:=L e w' aj;exact Z
theorem aN{y:Act->wv->Prop}{J:Exit->Act->wv->Prop}{E:Prop}{f:FuncId}{R:Ending->wv->Prop}(x:Operand)(a0:TypeId)(X:o.guard=I)(ah:o.op=Op.call { callee:=.value (.func f),args:=#[x],argTypes:=#[a0] })(aw:a.eval x=u0)(V : Tryz.prog.funcs[f]?=Y fn)(ab : (fn.name== "runtime.NumGoroutine")=wx)(hb : fn.body=Y code)(M:Calls AW f #[u0] w R)(L:∀e w',R e w'->∃z,e=.returned z∧y (a.put o.dst z) w'):
  if Region.wanted o (yielded ops a.tmps)=true then Oper.wp AW o a w y J else E:=by
 have ak:Region.wanted o (yielded ops a.tmps)=true:=by simp[Region.wanted,X]
 rw[AK ak];have K : fn.name≠ "runtime.NumGoroutine" := by simpa using ab
 unfold Oper.wp;have Q:(execOp a.eval o).run AW w=.ok (.enter f #[u0]) w:=by
  have S:a.eval (.func f)=.func (.func f) #[] #[]:=rfl;simp[execOp,ah,resolve,invoke,aw,S,Deferred.ofValue,callFunc,V,K,hb]
 rw[Q,Oper.upon_enter];refine M.mono ?_;intro e w' aj;obtain⟨z,rfl,Z⟩:=L e w' aj;exact Z
theorem cH{y:Act->wv->Prop}{E:Exit->Act->wv->Prop}{K:Prop}{f:FuncId}{R:Ending->wv->Prop}(x J z:Operand)(a3 a4 a5:TypeId)(Z:o.guard=I)(aj:o.op=Op.call { callee:=.value (.func f),args:=#[x,J,z],argTypes:=#[a3,a4,a5] })(a0:a.eval x=u0)(a1:a.eval J=u1)(a2:a.eval z=u2)(X : Tryz.prog.funcs[f]?=Y fn)(ah : (fn.name== "runtime.NumGoroutine")=wx)(hb : fn.body=Y code)(Q:Calls AW f #[u0,u1,u2] w R)(M:∀e w',R e w'->∃ch,e=.panicked ch∧E (.panic ch) a w')(v':Value)(_:AY False->y (a.put o.dst v') w):
  if Region.wanted o (yielded ops a.tmps)=true then Oper.wp AW o a w y E else K:=by
 have aw:Region.wanted o (yielded ops a.tmps)=true:=by simp[Region.wanted,Z]
 rw[AK aw];have L : fn.name≠ "runtime.NumGoroutine" := by simpa using ah
 unfold Oper.wp;have S:(execOp a.eval o).run AW w=.ok (.enter f #[u0,u1,u2]) w:=by
  have V:a.eval (.func f)=.func (.func f) #[] #[]:=rfl;simp[execOp,aj,resolve,invoke,a0,a1,a2,V,Deferred.ofValue,callFunc,X,L,hb]
 rw[S,Oper.upon_enter];refine Q.mono ?_;intro e w' ak;obtain⟨z,rfl,ab⟩:=M e w' ak;exact ab
theorem bR{y:Act->wv->Prop}{K:Exit->Act->wv->Prop}{J:Prop}{f:FuncId}{R:Ending->wv->Prop}(x E z:Operand)(a3 a4 a5:TypeId)(Z:o.guard=I)(aj:o.op=Op.call { callee:=.value (.func f),args:=#[x,E,z],argTypes:=#[a3,a4,a5] })(a0:a.eval x=u0)(a1:a.eval E=u1)(a2:a.eval z=u2)(X : Tryz.prog.funcs[f]?=Y fn)(ah : (fn.name== "runtime.NumGoroutine")=wx)(hb : fn.body=Y code)(Q:Calls AW f #[u0,u1,u2] w R)(M:∀e w',R e w'->∃z,e=.returned z∧y (a.put o.dst z) w'):
  if Region.wanted o (yielded ops a.tmps)=true then Oper.wp AW o a w y K else J:=by
 have aw:Region.wanted o (yielded ops a.tmps)=true:=by simp[Region.wanted,Z]
 rw[AK aw];have L : fn.name≠ "runtime.NumGoroutine" := by simpa using ah
 unfold Oper.wp;have S:(execOp a.eval o).run AW w=.ok (.enter f #[u0,u1,u2]) w:=by
  have V:a.eval (.func f)=.func (.func f) #[] #[]:=rfl;simp[execOp,aj,resolve,invoke,a0,a1,a2,V,Deferred.ofValue,callFunc,X,L,hb]
 rw[S,Oper.upon_enter];refine Q.mono ?_;intro e w' ak;obtain⟨z,rfl,ab⟩:=M e w' ak;exact ab
structure uT(w W:wv)(A R:Nat)(D:AV)(l:L8):Prop where
 b1:W.1[w.1.size+1]?=Y (qj #[U O 0,U O 0,ox qq 0,mI ⟨#[]⟩,C I 0 0] 102 (0,0))
 b2:W.1[w.1.size+1+1]?=Y (qj D 102 (0,0))
 rd:Rdr W A R l
 aside:Aside (fun i=>i=R) w W
 size:w.1.size+3<=W.1.size
theorem dJ.set{J:AV}(h:dJ w W A R k J l)(M:R<w.1.size)(m:Nat)(u:Value):uT w (W.setCell ⟨w.1.size+1+1,m,I⟩ u) A R ((#[U O k,U O 0,ox qq 0,mI ⟨#[]⟩,C I 0 0]:AV).set! m u) l:=by
 have y:Aside (fun i=>i=w.1.size+1+1) W (W.setCell ⟨w.1.size+1+1,m,I⟩ u):=al _ _ _ _;have L:=h.size;refine⟨?_,an h.b2 m u,h.rd.aside y (fun j E=>by rw[E];omega),h.aside.trans y (fun j E K=>by rw[K] at E;omega),AG L y.size⟩;rw[y.block _ (by omega) (by omega)];exact h.b1
theorem uT.on(h:uT w W A R D l)(hb:Below W.1.size W W'):uT w W' A R D l:=by
 have y:=h.size;exact⟨bP h.b1 hb (by omega),bP h.b2 hb (by omega),h.rd.on hb,h.aside.trans (af hb (fun _=>False)) (fun _ _ h=>h.elim),AG y hb.size⟩
theorem vo(l:L8)(A R:Nat)(w:wv)(p:OA)(n c:Nat)(h:Rdr w A R l):Calls AW 162 #[.pointer (Y ⟨R,0,I⟩),.agg #[U O 4,C p n c]] w (RdA w A R l (Sch.scalar 4 l) (isV w)):=by
 have ak:=h.lt;obtain⟨W,aw⟩:∃W,W=((w.alloc (qj #[U O 4,C p n c] 99)).alloc (qj #[U O 0,U O 0,ox qq 0,mI ⟨#[]⟩,C I 0 0] 102)).alloc (qj #[U O 4,U O 0,ox qq 0,mI ⟨#[]⟩,C I 0 0] 102):=⟨_,rfl⟩;have V:AY (dJ w W A R 4 #[U O 4,C p n c] l):=by rw[aw];exact bQ 4 _ h
 have aj:=gQq aw;obtain⟨r,a3⟩:∃r,r=Sch.scalar 4 l:=⟨_,rfl⟩;have K:=gQq (a3.trans (my l));rw[<-a3];have J:=gQq (wX l A R W V.out.rd);obtain⟨m,a2⟩:∃m,m=Sch.text 1024 2 l:=⟨_,rfl⟩;rw[<-a2] at K J;have a7:=gQq a2;clear a3 a2 h aw;cases m with
 |error er=>
  have E:AY (r=qx er):=K.out;clear K;go_enter func162,ntmps162;go_wp2_with fail;rw[<-aj.out];refine J.out.mono ?_;intro e w1 M;obtain⟨a1,L⟩:=M.bad;subst a1;clear M;have bi:=gQq (V.out.aside.trans L (fun _ _ h=>h));clear L J;go_wp2;rw[E.out];exact⟨rfl,rfl,bi.out⟩
 |ok xj=>
  obtain⟨x,j⟩:=xj;have E:AY (r=if dN x=wx then qx 61 else .ok (.mk 4 0 0 x [],j)):=K.out;have bs:x.size<=1024:=(Sch.text_ok a7.out.symm).1;clear K a7;go_enter func162,ntmps162;go_wp2_with fail;rw[<-aj.out];refine J.out.mono ?_;intro e w1 M;obtain⟨v,a1,a4,bb,L⟩:=M.good;clear M
  replace a4:v=mI x:=a4
  subst a4;subst a1;have X:=gQq (V.out.step L bb ak);clear L bb J aj V;have be:w1.cell? ⟨w.1.size+1+1,3,I⟩=Y (mI ⟨#[]⟩):=aa X.out.b2 3;have bp:=ac X.out.b2 3;obtain⟨Z,a0⟩:∃Z,Z=w1.setCell ⟨w.1.size+1+1,3,I⟩ (mI x):=⟨_,rfl⟩;have a6:AY (uT w Z A R #[U O 4,U O 0,ox qq 0,mI x,C I 0 0] (l.drop j)):=by rw[a0];exact X.out.set ak 3 (mI x)
  have ah:=gQq (xD x (by omega) Z);have a8:=gQq a0;obtain⟨bq,bc⟩:∃b,b=dN x:=⟨_,rfl⟩;rw[<-bc] at ah E;clear a0 bc;go_wp2_with fail;rw[<-a8.out];refine ah.out.mono ?_;rintro e S ⟨rfl,a9⟩;have y:=gQq (a6.out.on a9);clear a9 ah a6 a8 be bp X;cases bq with
  |false=>
   have ab:AY (r=qx 61):=E.out.trans (AK (by first | rfl | trivial));clear E;go_wp2_with fail;refine(cY _ 61 _).mono ?_;rintro e a5 ⟨rfl,Q⟩;rw[Q];clear Q a5;go_wp2;rw[ab.out];exact⟨rfl,rfl,y.out.aside⟩
  |true=>
   have ab:AY (r=.ok (.mk 4 0 0 x [],j)):=E.out.trans (AJ (by first | decide | simp));clear E;go_wp2_with fail;refine(cX _ 61 _).mono ?_;rintro e a5 ⟨rfl,Q⟩;rw[Q];clear Q a5;obtain⟨bv,bN,bO,be,bT⟩:=cQ5 y.out.b2;have bX:S.cell? ⟨w.1.size+1,0,I⟩=Y (U O 0):=aa y.out.b1 0;have b6:=ac y.out.b1 0;have b0:S.cell? ⟨w.1.size+1,1,I⟩=Y (U O 0):=aa y.out.b1 1;have b7:=ac y.out.b1 1;have b3:S.cell? ⟨w.1.size+1,2,I⟩=Y (ox qq 0):=aa y.out.b1 2;have b8:=ac y.out.b1 2;have b4:S.cell? ⟨w.1.size+1,3,I⟩=Y (mI ⟨#[]⟩):=aa y.out.b1 3;have b9:=ac y.out.b1 3;have b5:S.cell? ⟨w.1.size+1,4,I⟩=Y (C I 0 0):=aa y.out.b1 4;have cb:=ac y.out.b1 4;have bj:=gQq (wy (k:=4) (i:=0) (b:=0) (t:=x) (q:=I) (n:=0) (c:=0) (x:=.mk 4 0 0 x []) (F:=fun _=>False) (N:=w.1.size+1) ak (by omega) y.out.b1 .none (fun _ h=>h.elim) y.out.rd y.out.aside);go_wp2;obtain⟨f1,bk,bl,bn⟩:=bj.out;refine bodyPost_ret (v:=.agg (cells5 4 0 0 x I 0 0)) (results_cell_row rfl _ _ (w.1.size+1) _ _ _ _ rfl f1 underlying102 rfl (by kernel_rfl)) rfl ?_;rw[ab.out];exact⟨_,rfl,bk,bl,bn⟩
end
section
open Go.RowKit
attribute [local go_sem] ai
theorem tL(l:L8):Sch.many 6 l=Sch.bit l:=rfl
theorem tK(l:L8):Sch.many 7 l=aQ 256 3 l:=by
 unfold Sch.many aQ;rw[AJ (by decide)];rfl
theorem li(k:Int)(h:k=6∨k=7)(x:Ty)(l:L8):Sch.rdV (.mk k [x]) l=ap (Sch.many k l) fun m j=>ap (Sch.rdN (Sch.rdV x) m (l.drop j)) fun E y=>.ok (.mk k 0 0 ⟨#[]⟩ E,j+y):=by
 rw[Sch.rdV_mk,AJ (by omega)];cases Sch.many k l with
 |error e=>rfl
 |ok p=>
  obtain⟨m,j⟩:=p;rw[aH];have e:(([x]:List Ty).map Sch.rdV).headD (fun _=>qx 0)=Sch.rdV x:=rfl;dsimp only;rw[e];cases Sch.rdN (Sch.rdV x) m (l.drop j) with
  |error e=>rfl
  |ok q=>rfl
theorem count_le{y E:Nat}{n k:Nat}(h:aQ y E l=.ok (n,k)):n<=y:=by
 unfold aQ at h;split at h
 ·cases h
 ·split at h
  ·cases h
  ·injection h with h;injection h with h1 _;omega
theorem vl(x:Ty)(bT:nJ x)(l:L8)(A R:Nat)(w:wv)(u:AV)(bp:eJ w R u (.mk 6 [x]))(h:Rdr w A R l):Calls AW 162 #[.pointer (Y ⟨R,0,I⟩),.agg u] w (RdA w A R l (Sch.rdV (.mk 6 [x]) l) (isV w)):=by
  have aj:=h.lt;obtain⟨g,aw,c,k',cq,n',cb,rfl,bq,cw,bv,b5,b6⟩:=bp.one;unfold ar;obtain⟨W,bb⟩:∃W,W=((w.alloc (qj #[U O 6,C (Y ⟨g,aw,I⟩) 1 c] 99)).alloc (qj #[U O 0,U O 0,ox qq 0,mI ⟨#[]⟩,C I 0 0] 102)).alloc (qj #[U O 6,U O 0,ox qq 0,mI ⟨#[]⟩,C I 0 0] 102):=⟨_,rfl⟩;have L:AY (dJ w W A R 6 #[U O 6,C (Y ⟨g,aw,I⟩) 1 c] l):=by rw[bb];exact bQ 6 _ h
  have a9:=gQq bb;obtain⟨r,be⟩:∃r,r=Sch.rdV (.mk 6 [x]) l:=⟨_,rfl⟩;have bl:=gQq (be.trans (li 6 (by omega) x l));rw[<-be];have Z:AY (r=ap (Sch.bit l) fun m j=>ap (Sch.rdN (Sch.rdV x) m (l.drop j)) fun Q ak=>.ok (.mk 6 0 0 ⟨#[]⟩ Q,j+ak)):=by show _=_;rw[bl.out,tL]
  have a2:AY (Calls AW 161 #[.pointer (Y ⟨R,0,I⟩)] W.drew (RdA W A R l (Sch.bit l) isI)):=(uo l A R W.drew L.out.rd.drew).mono fun _ _ h=>h.undrew;have bj:=gQq bq;have bn:=gQq bT
  -- the cells that are read,wherever only the reader has changed
  have a5:AY (∀W',Aside (fun i=>i=R) W W'->W'.cell? ⟨w.1.size,1,I⟩=Y (C (Y ⟨g,aw,I⟩) 1 c)∧W'.cell? ⟨g,aw,I⟩=Y (U O k')∧W'.cell? ⟨g,aw+1,I⟩=Y (C cq n' cb)):=fun W' y=>by
    have cx:=L.out.size;have bs:g<W.1.size:=(by omega);refine⟨?_,?_,?_⟩
    · rw[y.cell (show w.1.size<W.1.size by omega) (show ¬w.1.size=R by omega)];exact aa L.out.b0 1
    · rw[y.cell (show g<W.1.size from bs) (show ¬g=R by omega),L.out.aside.cell bv (show ¬g=R by omega)];exact b5
    · rw[y.cell (show g<W.1.size from bs) (show ¬g=R by omega),L.out.aside.cell bv (show ¬g=R by omega)];exact b6
  obtain⟨ct,cu,cv⟩:=a5.out W (Aside.refl _ _);have cr:W.cell? ⟨w.1.size+1+1,4,I⟩=Y (C I 0 0):=aa L.out.b2 4;have cs:=ac L.out.b2 4;obtain⟨cp,bc⟩:∃m,m=Sch.bit l:=⟨_,rfl⟩;rw[<-bc] at Z a2;have bk:=gQq bc;clear be bc h bb bq bT b5 b6 bp bl;cases cp with
  |error er=>
    have a7:AY (∀E,Aside (fun i=>i=R) W E->RdA w A R l r (isV w) (.panicked (dl er)) E):=fun E y=>by
      have e:r=qx er:=Z.out;rw[e];exact⟨rfl,L.out.aside.trans y (fun _ _ h=>h)⟩
    clear Z;go_enter func162,ntmps162;go_wp2_with fail;rw[<-a9.out]
    go_region_law (first|(refine bS (.tmp 45) 211 (by rfl) (by rfl) (by rfl) func161 (by kernel_rfl) (by rfl) a2.out (fun e E K=>⟨_,K.bad.1,rfl,a7.out E K.bad.2⟩) (U O 0) ?_;intro a4)|(refine bh a4 (C I 0 0) ?_))
    all_goals exact a4.out.elim
  |ok mj=>
    obtain⟨m,j⟩:=mj;have cn:m<=256:=(by have:=(Sch.bit_ok bk.out.symm).1;omega);have ab:AY (r=ap (Sch.rdN (Sch.rdV x) m (l.drop j)) fun Q ak=>.ok (.mk 6 0 0 ⟨#[]⟩ Q,j+ak)):=Z.out;have a3:=gQq (fun w1 (y:Aside (fun i=>i=R) W w1) (M:Rdr w1 A R (l.drop j))=>tZ x bn.out m cn (l.drop j) A R w1 _ ((bj.out.aside L.out.aside).aside y) M);unfold ar at a3;obtain⟨bi,bN⟩:∃bi,bi=Sch.rdN (Sch.rdV x) m (l.drop j):=⟨_,rfl⟩;rw[<-bN] at ab a3;clear Z bN bk bn bj;cases bi with
    |error er=>
      have a7:AY (∀w1 E,Aside (fun i=>i=R) W w1->Aside (fun i=>i=R) w1 E->RdA w A R l r (isV w) (.panicked (dl er)) E):=fun w1 E y cj=>by
        have e:r=qx er:=ab.out;rw[e];exact⟨rfl,(L.out.aside.trans y (fun _ _ h=>h)).trans cj (fun _ _ h=>h)⟩
      clear ab;go_enter func162,ntmps162;go_wp2_with fail;rw[<-a9.out]
      go_region_law (first
        | (refine aN (.tmp 45) 211 (by rfl) (by rfl) (by rfl) func161 (by kernel_rfl) (by rfl) a2.out ?_;intro e w1 K;obtain⟨v,V,S,M,y⟩:=K.good;clear K
           replace S:v=U O (m:Nat):=S
           subst S;refine⟨_,V,?_⟩;clear V;have a1:=gQq y;have a8:=gQq M;obtain⟨bX,b3,b4⟩:=a5.out w1 y;have X:=gQq (L.out.step y M aj);have c6:w1.cell? ⟨w.1.size+1+1,4,I⟩=Y (C I 0 0):=aa X.out.b2 4;have c7:=ac X.out.b2 4;clear y M)
        | (refine cH (.tmp 44) (.tmp 46) (.tmp 50) 211 3 99 (by rfl) (by rfl) (by rfl) (by rfl) (by rfl) func183 (by kernel_rfl) (by rfl) (a3.out w1 a1.out a8.out) (fun e E K=>⟨_,K.bad.1,rfl,a7.out w1 E a1.out K.bad.2⟩) (C I 0 0) ?_;intro a4))
      all_goals exact a4.out.elim
    |ok vj=>
      obtain⟨Q,ak⟩:=vj;have b9:AY (r=.ok (.mk 6 0 0 ⟨#[]⟩ Q,j+ak)):=ab.out;clear ab;go_enter func162,ntmps162;go_wp2_with fail;rw[<-a9.out]
      go_region_law (first
        | (refine aN (.tmp 45) 211 (by rfl) (by rfl) (by rfl) func161 (by kernel_rfl) (by rfl) a2.out ?_;intro e w1 K;obtain⟨v,V,S,M,y⟩:=K.good;clear K
           replace S:v=U O (m:Nat):=S
           subst S;refine⟨_,V,?_⟩;clear V;have a1:=gQq y;have a8:=gQq M;obtain⟨bX,b3,b4⟩:=a5.out w1 y;have X:=gQq (L.out.step y M aj);clear y M)
        | (refine bR (.tmp 44) (.tmp 46) (.tmp 50) 211 3 99 (by rfl) (by rfl) (by rfl) (by rfl) (by rfl) func183 (by kernel_rfl) (by rfl) (a3.out w1 a1.out a8.out) ?_;intro e E K;obtain⟨v,V,S,M,y⟩:=K.good;obtain⟨a0,ah,co,bO⟩:=S.open;clear K S;subst co;refine⟨_,V,?_⟩;clear V;have J:=gQq (X.out.step y M aj);have b8:=gQq bO;have cy:=X.out.size;have c5:=y.size;have z4:E.cell? ⟨w.1.size+1+1,4,I⟩=Y (C I 0 0):=aa J.out.b2 4;have d2:=ac J.out.b2 4;clear y M bO))
      all_goals
        have a6:=gQq (J.out.set aj 4 (C a0 Q.length ah));have b7:=gQq (wy (k:=6) (i:=0) (b:=0) (t:=⟨#[]⟩) (q:=a0) (n:=Q.length) (c:=ah) (x:=.mk 6 0 0 ⟨#[]⟩ Q) (N:=w.1.size+1) aj (by omega) a6.out.b1 ((b8.out 6).aside (al E (w.1.size+1+1) 4 (C a0 Q.length ah)) (fun i ck V=>by omega)) (fun i ck=>⟨by omega,by have:=(al E (w.1.size+1+1) 4 (C a0 Q.length ah)).size;omega⟩) a6.out.rd a6.out.aside);obtain⟨z0,z1,z2,z3,-⟩:=cQ5 J.out.b2;have c8:E.cell? ⟨w.1.size+1,0,I⟩=Y (U O 0):=aa J.out.b1 0;have ds:=ac J.out.b1 0;have c9:E.cell? ⟨w.1.size+1,1,I⟩=Y (U O 0):=aa J.out.b1 1;have du:=ac J.out.b1 1;have df:E.cell? ⟨w.1.size+1,2,I⟩=Y (ox qq 0):=aa J.out.b1 2;have dv:=ac J.out.b1 2;have dj:E.cell? ⟨w.1.size+1,3,I⟩=Y (mI ⟨#[]⟩):=aa J.out.b1 3;have d0:=ac J.out.b1 3;have dr:E.cell? ⟨w.1.size+1,4,I⟩=Y (C I 0 0):=aa J.out.b1 4;have d1:=ac J.out.b1 4;clear ct cu cv cr cs bX b3 b4;go_wp2;obtain⟨f1,cc,cd,ci⟩:=b7.out;refine bodyPost_ret (v:=.agg (cells5 6 0 0 ⟨#[]⟩ a0 Q.length ah)) (results_cell_row rfl _ _ (w.1.size+1) _ _ _ _ rfl f1 underlying102 rfl (by kernel_rfl)) rfl ?_;rw[b9.out];refine⟨_,rfl,cc,?_,ci⟩;rw[<-AI];exact cd
theorem vh(x:Ty)(bT:nJ x)(l:L8)(A R:Nat)(w:wv)(u:AV)(bp:eJ w R u (.mk 7 [x]))(h:Rdr w A R l):Calls AW 162 #[.pointer (Y ⟨R,0,I⟩),.agg u] w (RdA w A R l (Sch.rdV (.mk 7 [x]) l) (isV w)):=by
  have aj:=h.lt;obtain⟨g,aw,c,k',cq,n',cb,rfl,bq,cw,bv,b5,b6⟩:=bp.one;unfold ar;obtain⟨W,bb⟩:∃W,W=((w.alloc (qj #[U O 7,C (Y ⟨g,aw,I⟩) 1 c] 99)).alloc (qj #[U O 0,U O 0,ox qq 0,mI ⟨#[]⟩,C I 0 0] 102)).alloc (qj #[U O 7,U O 0,ox qq 0,mI ⟨#[]⟩,C I 0 0] 102):=⟨_,rfl⟩;have L:AY (dJ w W A R 7 #[U O 7,C (Y ⟨g,aw,I⟩) 1 c] l):=by rw[bb];exact bQ 7 _ h
  have a9:=gQq bb;obtain⟨r,be⟩:∃r,r=Sch.rdV (.mk 7 [x]) l:=⟨_,rfl⟩;have bl:=gQq (be.trans (li 7 (by omega) x l));rw[<-be];have Z:AY (r=ap (aQ 256 3 l) fun m j=>ap (Sch.rdN (Sch.rdV x) m (l.drop j)) fun Q ak=>.ok (.mk 7 0 0 ⟨#[]⟩ Q,j+ak)):=by show _=_;rw[bl.out,tK]
  have a2:AY (Calls AW 125 #[.pointer (Y ⟨R,0,I⟩),U .u64 256,U O 3] W.drew (RdA W A R l (aQ 256 3 l) isI)):=(lI 256 3 (by omega) l A R W.drew L.out.rd.drew).mono fun _ _ h=>h.undrew;have bj:=gQq bq;have bn:=gQq bT
  -- the cells that are read,wherever only the reader has changed
  have a5:AY (∀W',Aside (fun i=>i=R) W W'->W'.cell? ⟨w.1.size,1,I⟩=Y (C (Y ⟨g,aw,I⟩) 1 c)∧W'.cell? ⟨g,aw,I⟩=Y (U O k')∧W'.cell? ⟨g,aw+1,I⟩=Y (C cq n' cb)):=fun W' y=>by
    have cx:=L.out.size;have bs:g<W.1.size:=(by omega);refine⟨?_,?_,?_⟩
    · rw[y.cell (show w.1.size<W.1.size by omega) (show ¬w.1.size=R by omega)];exact aa L.out.b0 1
    · rw[y.cell (show g<W.1.size from bs) (show ¬g=R by omega),L.out.aside.cell bv (show ¬g=R by omega)];exact b5
    · rw[y.cell (show g<W.1.size from bs) (show ¬g=R by omega),L.out.aside.cell bv (show ¬g=R by omega)];exact b6
  obtain⟨ct,cu,cv⟩:=a5.out W (Aside.refl _ _);have cr:W.cell? ⟨w.1.size+1+1,4,I⟩=Y (C I 0 0):=aa L.out.b2 4;have cs:=ac L.out.b2 4;obtain⟨cp,bc⟩:∃m,m=aQ 256 3 l:=⟨_,rfl⟩;rw[<-bc] at Z a2;have bk:=gQq bc;clear be bc h bb bq bT b5 b6 bp bl;cases cp with
  |error er=>
    have a7:AY (∀E,Aside (fun i=>i=R) W E->RdA w A R l r (isV w) (.panicked (dl er)) E):=fun E y=>by
      have e:r=qx er:=Z.out;rw[e];exact⟨rfl,L.out.aside.trans y (fun _ _ h=>h)⟩
    clear Z;go_enter func162,ntmps162;go_wp2_with fail;rw[<-a9.out]
    go_region_law (first|(refine cH (.tmp 56) (.const (U .u64 256)) (.const (U O 3)) 211 160 25 (by rfl) (by rfl) (by rfl) (by rfl) (by rfl) func125 (by kernel_rfl) (by rfl) a2.out (fun e E K=>⟨_,K.bad.1,rfl,a7.out E K.bad.2⟩) (U O 0) ?_;intro a4)|(refine bh a4 (C I 0 0) ?_))
    all_goals exact a4.out.elim
  |ok mj=>
    obtain⟨m,j⟩:=mj;have cn:m<=256:=count_le bk.out.symm;have ab:AY (r=ap (Sch.rdN (Sch.rdV x) m (l.drop j)) fun Q ak=>.ok (.mk 7 0 0 ⟨#[]⟩ Q,j+ak)):=Z.out;have a3:=gQq (fun w1 (y:Aside (fun i=>i=R) W w1) (M:Rdr w1 A R (l.drop j))=>tZ x bn.out m cn (l.drop j) A R w1 _ ((bj.out.aside L.out.aside).aside y) M);unfold ar at a3;obtain⟨bi,bN⟩:∃bi,bi=Sch.rdN (Sch.rdV x) m (l.drop j):=⟨_,rfl⟩;rw[<-bN] at ab a3;clear Z bN bk bn bj;cases bi with
    |error er=>
      have a7:AY (∀w1 E,Aside (fun i=>i=R) W w1->Aside (fun i=>i=R) w1 E->RdA w A R l r (isV w) (.panicked (dl er)) E):=fun w1 E y cj=>by
        have e:r=qx er:=ab.out;rw[e];exact⟨rfl,(L.out.aside.trans y (fun _ _ h=>h)).trans cj (fun _ _ h=>h)⟩
      clear ab;go_enter func162,ntmps162;go_wp2_with fail;rw[<-a9.out]
      go_region_law (first
        | (refine bR (.tmp 56) (.const (U .u64 256)) (.const (U O 3)) 211 160 25 (by rfl) (by rfl) (by rfl) (by rfl) (by rfl) func125 (by kernel_rfl) (by rfl) a2.out ?_;intro e w1 K;obtain⟨v,V,S,M,y⟩:=K.good;clear K
           replace S:v=U O (m:Nat):=S
           subst S;refine⟨_,V,?_⟩;clear V;have a1:=gQq y;have a8:=gQq M;obtain⟨bX,b3,b4⟩:=a5.out w1 y;have X:=gQq (L.out.step y M aj);have c6:w1.cell? ⟨w.1.size+1+1,4,I⟩=Y (C I 0 0):=aa X.out.b2 4;have c7:=ac X.out.b2 4;clear y M)
        | (refine cH (.tmp 55) (.tmp 57) (.tmp 61) 211 3 99 (by rfl) (by rfl) (by rfl) (by rfl) (by rfl) func183 (by kernel_rfl) (by rfl) (a3.out w1 a1.out a8.out) (fun e E K=>⟨_,K.bad.1,rfl,a7.out w1 E a1.out K.bad.2⟩) (C I 0 0) ?_;intro a4))
      all_goals exact a4.out.elim
    |ok vj=>
      obtain⟨Q,ak⟩:=vj;have b9:AY (r=.ok (.mk 7 0 0 ⟨#[]⟩ Q,j+ak)):=ab.out;clear ab;go_enter func162,ntmps162;go_wp2_with fail;rw[<-a9.out]
      go_region_law (first
        | (refine bR (.tmp 56) (.const (U .u64 256)) (.const (U O 3)) 211 160 25 (by rfl) (by rfl) (by rfl) (by rfl) (by rfl) func125 (by kernel_rfl) (by rfl) a2.out ?_;intro e w1 K;obtain⟨v,V,S,M,y⟩:=K.good;clear K
           replace S:v=U O (m:Nat):=S
           subst S;refine⟨_,V,?_⟩;clear V;have a1:=gQq y;have a8:=gQq M;obtain⟨bX,b3,b4⟩:=a5.out w1 y;have X:=gQq (L.out.step y M aj);clear y M)
        | (refine bR (.tmp 55) (.tmp 57) (.tmp 61) 211 3 99 (by rfl) (by rfl) (by rfl) (by rfl) (by rfl) func183 (by kernel_rfl) (by rfl) (a3.out w1 a1.out a8.out) ?_;intro e E K;obtain⟨v,V,S,M,y⟩:=K.good;obtain⟨a0,ah,co,bO⟩:=S.open;clear K S;subst co;refine⟨_,V,?_⟩;clear V;have J:=gQq (X.out.step y M aj);have b8:=gQq bO;have cy:=X.out.size;have c5:=y.size;have z4:E.cell? ⟨w.1.size+1+1,4,I⟩=Y (C I 0 0):=aa J.out.b2 4;have d2:=ac J.out.b2 4;clear y M bO))
      all_goals
        have a6:=gQq (J.out.set aj 4 (C a0 Q.length ah));have b7:=gQq (wy (k:=7) (i:=0) (b:=0) (t:=⟨#[]⟩) (q:=a0) (n:=Q.length) (c:=ah) (x:=.mk 7 0 0 ⟨#[]⟩ Q) (N:=w.1.size+1) aj (by omega) a6.out.b1 ((b8.out 7).aside (al E (w.1.size+1+1) 4 (C a0 Q.length ah)) (fun i ck V=>by omega)) (fun i ck=>⟨by omega,by have:=(al E (w.1.size+1+1) 4 (C a0 Q.length ah)).size;omega⟩) a6.out.rd a6.out.aside);obtain⟨z0,z1,z2,z3,-⟩:=cQ5 J.out.b2;have c8:E.cell? ⟨w.1.size+1,0,I⟩=Y (U O 0):=aa J.out.b1 0;have ds:=ac J.out.b1 0;have c9:E.cell? ⟨w.1.size+1,1,I⟩=Y (U O 0):=aa J.out.b1 1;have du:=ac J.out.b1 1;have df:E.cell? ⟨w.1.size+1,2,I⟩=Y (ox qq 0):=aa J.out.b1 2;have dv:=ac J.out.b1 2;have dj:E.cell? ⟨w.1.size+1,3,I⟩=Y (mI ⟨#[]⟩):=aa J.out.b1 3;have d0:=ac J.out.b1 3;have dr:E.cell? ⟨w.1.size+1,4,I⟩=Y (C I 0 0):=aa J.out.b1 4;have d1:=ac J.out.b1 4;clear ct cu cv cr cs bX b3 b4;go_wp2;obtain⟨f1,cc,cd,ci⟩:=b7.out;refine bodyPost_ret (v:=.agg (cells5 7 0 0 ⟨#[]⟩ a0 Q.length ah)) (results_cell_row rfl _ _ (w.1.size+1) _ _ _ _ rfl f1 underlying102 rfl (by kernel_rfl)) rfl ?_;rw[b9.out];refine⟨_,rfl,cc,?_,ci⟩;rw[<-AI];exact cd
theorem xC:∀(t:Ty) (d:Nat),Ty.check d t=0->nJ t:=by
 intro t;refine Ty.ind (P:=fun t=>∀d,Ty.check d t=0->nJ t) ?_ t;intro k xs L d hd l A R w u E h;obtain⟨-,X,Q⟩:=Sch.ty_open hd;rcases Q with ⟨J,rfl⟩ | ⟨J,x,rfl,K⟩
 ·obtain⟨k',p,n,c,rfl⟩:=E.shape;obtain⟨F,V,-⟩:=E.out;have S:k'=k:=by
   obtain⟨p2,c2,y,-⟩:=V.lies.open;simp only[ar] at y;injection y with y;injection y with y _;injection y with _ y
  subst S;rw[Sch.rdV_mk,AK (by omega)];unfold ar;have M:k'=1∨k'=2∨k'=3∨k'=4∨k'=5:=by omega
  rcases M with rfl | rfl | rfl | rfl | rfl
  ·exact vv l A R w p n c h
  ·exact vu l A R w p n c h
  ·exact vq l A R w p n c h
  ·exact vo l A R w p n c h
  ·exact vm l A R w p n c h
 ·rcases J with rfl | rfl
  ·exact vl x (L x (by simp) (d+1) K) l A R w u E h
  ·exact vh x (L x (by simp) (d+1) K) l A R w u E h
end
section
open Go.RowKit
attribute [local go_sem] ai
def lM(s:ByteArray)(l:L8):Except Nat (Col×Nat):=ap (Sch.rdT 4 l) fun t j2=>ap (Sch.bit (l.drop j2)) fun h j3=>if h=0 then .ok (⟨s,t,wx,V0⟩,j2+j3) else ap (Sch.rdV t (l.drop (j2+j3))) fun v j4=>.ok (⟨s,t,true,v⟩,j2+j3+j4)
def isC(w:wv)(c:Col)(v:Value)(w':wv):Prop:=∃u,v=.agg u∧dx w' (fun k=>w.1.size<=k∧k<w'.1.size) u c
theorem isC.open{w':wv}{v:Value}(h:isC w c v w'):∃u,v=.agg u∧dx w' (fun k=>w.1.size<=k∧k<w'.1.size) u c:=h
theorem zA{wr:wv}{n:ByteArray}{L:OA}{K J:Nat}{h:Bool}{V S:Int}{M:Nat}{ab:ByteArray}{Z:OA}{X Q:Nat}{F:Nat->Prop}(a2:R<w.1.size)(a0:wr.1[w.1.size]?=Y (qj #[mI ⟨#[]⟩,U O 0,C I 0 0,mx wx,U O 0,U O 0,ox qq 0,mI ⟨#[]⟩,C I 0 0] 104 (0,0)))(a6:w.1.size+1<=wr.1.size)(a4:dx wr F (aA n k L K J h V S M ab Z X Q) c)(a1:∀j,F j->w.1.size+1<=j∧j<wr.1.size)(a5:Rdr wr A R l)(a3:Aside (fun i=>i=R) w wr){P:wv}(ak:P=ow wr w.1.size n k (C L K J) h V S M ab (C Z X Q)):
  P.1[w.1.size]?=Y (qj (aA n k L K J h V S M ab Z X Q) 104 (0,0))∧isC w c (.agg (aA n k L K J h V S M ab Z X Q)) P∧Rdr P A R l∧Aside (fun i=>i=R) w P:=by
 obtain⟨a8,a7,y,aw⟩:=a3.split a2;obtain⟨ah,aj,E⟩:=tk (w:=a8) (w1:=wr) (by rw[y];exact a0) aw (by rw[y];exact a6) a4 (by rw[y];exact a1);rw[y] at ah aj E;rw[<-ak] at ah aj E;refine⟨ah,⟨_,rfl,aj⟩,a5.keep (fun j a9=>?_) ?_,a7.trans (af (by rw[y];exact E) (fun _=>False)) (fun _ _ h=>h.elim)⟩
 ·rw[E.block j (by omega),aw.block j (by omega)]
 ·rw[ak];simp[ow,World.setCell]
structure fL(w W:wv)(A R T:Nat)(D:AV)(l:L8):Prop where
 bN:W.1[w.1.size]?=Y (qj #[mI ⟨#[]⟩,U O 0,C I 0 0,mx wx,U O 0,U O 0,ox qq 0,mI ⟨#[]⟩,C I 0 0] 104 (0,0))
 bT:W.1[T]?=Y (qj D 104 (0,0))
 rd:Rdr W A R l
 aside:Aside (fun i=>i=R) w W
 low:R<w.1.size
 mid:w.1.size<T
theorem fL.lt(h:fL w W A R T D l):T<W.1.size:=ao h.bT
theorem fL.step{l':L8}(h:fL w W A R T D l)(y:Aside (fun i=>i=R) W W')(L:Rdr W' A R l'):fL w W' A R T D l':=by
 have E:=h.lt;have J:=h.mid;have K:=h.low;exact⟨by rw[y.block _ (by omega) (by omega)];exact h.bN,by rw[y.block _ E (by omega)];exact h.bT,L,h.aside.trans y (fun _ _ h=>h),K,J⟩
theorem fL.set(h:fL w W A R T D l)(m:Nat)(u:Value):fL w (W.setCell ⟨T,m,I⟩ u) A R T (D.set! m u) l:=by
 have M:=h.lt;have J:=h.mid;have K:=h.low;have y:Aside (fun i=>i=T) W (W.setCell ⟨T,m,I⟩ u):=al _ _ _ _;exact⟨by rw[y.block _ (by omega) (by omega)];exact h.bN,an h.bT m u,h.rd.aside y (fun j E=>by rw[E];omega),h.aside.trans y (fun j E L=>by rw[L] at E;omega),K,J⟩
theorem wI(M:ByteArray)(l:L8)(A R:Nat)(w:wv)(h:Rdr w A R l):Calls AW 127 #[.pointer (Y ⟨R,0,I⟩),mI M] w (RdA w A R l (lM M l) (isC w)):=by
 have cr:=h.lt;obtain⟨ak,b5⟩:∃ak,ak=w.alloc (qj #[mI ⟨#[]⟩,U O 0,C I 0 0,mx wx,U O 0,U O 0,ox qq 0,mI ⟨#[]⟩,C I 0 0] 104):=⟨_,rfl⟩;have bO:AY (Below w.1.size w ak):=by rw[b5];exact gQy
 have b9:AY (ak.1[w.1.size]?=Y (qj #[mI ⟨#[]⟩,U O 0,C I 0 0,mx wx,U O 0,U O 0,ox qq 0,mI ⟨#[]⟩,C I 0 0] 104 (0,0))):=by rw[b5];exact am w _
 have cd:=gQq b5;have bk:=gQq (vC 4 1 l A R ak rfl (h.on bO.out));obtain⟨r,cu⟩:∃r,r=lM M l:=⟨_,rfl⟩;have bp:AY (r=ap (Sch.rdT 4 l) fun t L=>ap (Sch.bit (l.drop L)) fun h Q=>if h=0 then .ok (⟨M,t,wx,V0⟩,L+Q) else ap (Sch.rdV t (l.drop (L+Q))) fun v a0=>.ok (⟨M,t,true,v⟩,L+Q+a0)):=cu;rw[<-cu];obtain⟨ew,ct⟩:∃m,m=Sch.rdT 4 l:=⟨_,rfl⟩;rw[<-ct] at bp bk;have c7:=gQq ct;clear cu ct h b5;cases ew with
 |error er=>
  have a1:AY (r=qx er):=bp.out;clear bp;go_enter func127,ntmps127;go_wp2_with fail;rw[<-cd.out];refine bk.out.mono ?_;intro e w1 V;obtain⟨aj,K⟩:=V.bad;subst aj;clear V;have bj:=gQq ((af bO.out _).trans K (fun _ _ h=>h));clear K bk;go_wp2;rw[a1.out];exact⟨rfl,rfl,bj.out⟩
 |ok tj=>
  obtain⟨t,L⟩:=tj;have bq:AY (r=ap (Sch.bit (l.drop L)) fun h Q=>if h=0 then .ok (⟨M,t,wx,V0⟩,L+Q) else ap (Sch.rdV t (l.drop (L+Q))) fun v a0=>.ok (⟨M,t,true,v⟩,L+Q+a0)):=bp.out;have d0:AY (Ty.check 1 t=0):=(Sch.rdT_ok 4 _ _ _ (by omega) c7.out.symm).2.2.1;clear bp c7;go_enter func127,ntmps127;go_wp2_with fail;rw[<-cd.out];refine bk.out.mono ?_;intro e w1 V;obtain⟨v,aj,aw,a2,K⟩:=V.good;obtain⟨u,cv,a5⟩:=aw.open;clear V aw;obtain⟨k,ab,Z,X,ep⟩:=a5.shape;subst ep;subst cv;subst aj;unfold ar;have b3:=ao b9.out;have du:w.1.size<w1.1.size:=AF b3 K.size;have f0:w.1.size+1<=ak.1.size:=b3;have cw:=gQq ((af bO.out (fun i=>i=R)).trans K (fun _ _ h=>h));have c8:AY (w1.1[w.1.size]?=Y (qj #[mI ⟨#[]⟩,U O 0,C I 0 0,mx wx,U O 0,U O 0,ox qq 0,mI ⟨#[]⟩,C I 0 0] 104 (0,0))):=by
   show _=_;rw[K.block _ b3 (by omega)];exact b9.out
  obtain⟨W,b4⟩:∃W,W=w1.alloc (qj #[mI M,U O k,C ab Z X,mx wx,U O 0,U O 0,ox qq 0,mI ⟨#[]⟩,C I 0 0] 104):=⟨_,rfl⟩;have bX:AY (Below w1.1.size w1 W):=by rw[b4];exact gQy
  have bl:AY (fL w W A R w1.1.size #[mI M,U O k,C ab Z X,mx wx,U O 0,U O 0,ox qq 0,mI ⟨#[]⟩,C I 0 0] (l.drop L)):=by
   refine⟨bP c8.out bX.out du,by rw[b4];exact am w1 _,a2.on bX.out,cw.out.trans (af bX.out (fun _=>False)) (fun _ _ h=>h.elim),cr,du⟩
  -- the type,wherever the reader and the column alone have fc
  have cb:AY (∀W' (F:Nat->Prop),(∀j,F j->j=R∨w1.1.size<=j)->Aside F W W'->bC W' (fun j=>ak.1.size<=j∧j<w1.1.size) (ar k ab Z X) t):=fun W' F eg el=>
   (a5.under bX.out (fun j S=>S.2)).aside el (fun j S em=>by
    rcases eg j em with b2 | b2
    ·omega
    ·omega)
  have b0:=gQq (uo (l.drop L) A R W bl.out.rd);have dj:=gQq b4;obtain⟨ev,cs⟩:∃m,m=Sch.bit (l.drop L):=⟨_,rfl⟩;rw[<-cs] at bq b0;have c6:=gQq cs;clear K a2 a5 bk b9 c8 cw cd bO b4 cs b3;go_wp2_with fail;rw[<-dj.out];clear dj;refine b0.out.mono ?_;intro e J V;cases ev with
  |error er=>
   have a1:AY (r=qx er):=bq.out;obtain⟨aj,K⟩:=V.bad;subst aj;clear V bq;have bj:=gQq (bl.out.aside.trans K (fun _ _ h=>h));clear K b0;go_wp2;rw[a1.out];exact⟨rfl,rfl,bj.out⟩
  |ok S=>
   obtain⟨bs,Q⟩:=S;have fy:bs<=1:=(Sch.bit_ok c6.out.symm).1;have a1:AY (r=if bs=0 then .ok (⟨M,t,wx,V0⟩,L+Q) else ap (Sch.rdV t (l.drop (L+Q))) fun v a0=>.ok (⟨M,t,true,v⟩,L+Q+a0)):=bq.out;obtain⟨v,aj,aw,a2,K⟩:=V.good;clear V bq c6
   replace aw:v=U O (bs:Nat):=aw
   subst aw;subst aj;have b8:=gQq K;have y:=gQq (bl.out.step K a2);have f5:w1.1.size<W.1.size:=bl.out.lt;clear K a2 b0 bl;have dr:J.cell? ⟨w1.1.size,3,I⟩=Y (mx wx):=aa y.out.bT 3;have eb:=ac y.out.bT 3;have en:bs=0∨bs=1:=(by omega);rcases en with ec | b2
   ·subst ec;have a3:AY (r=.ok (⟨M,t,wx,V0⟩,L+Q)):=a1.out.trans (AK rfl);clear a1;have ah:=gQq (y.out.set 3 (mx wx));have dv:AY (dx (J.setCell ⟨w1.1.size,3,I⟩ (mx wx)) (fun j=>ak.1.size<=j∧j<w1.1.size) (aA M k ab Z X wx 0 0 0 ⟨#[]⟩ I 0 0) ⟨M,t,wx,V0⟩):=by
     refine⟨fun j=>ak.1.size<=j∧j<w1.1.size,fun _=>False,k,ab,Z,X,0,0,0,⟨#[]⟩,I,0,0,rfl,?_,aX.none,fun _ h=>h,fun _ h=>h.elim,fun _ _ h=>h⟩;exact cb.out _ (fun j=>j=R∨j=w1.1.size) (fun j S=>S.elim .inl (fun h=>.inr (by omega))) ((b8.out.mono (fun _ _ h=>.inl h)).trans (al J w1.1.size 3 (mx wx)) (fun _ _ h=>.inr h))
    have b1:=gQq (fun P cq=>zA (P:=P) cr ah.out.bN (by have:=ah.out.lt;have:=ah.out.mid;omega) dv.out (fun j S=>⟨by omega,by have:=ah.out.lt;omega⟩) ah.out.rd ah.out.aside cq);have d5:J.cell? ⟨w1.1.size,0,I⟩=Y (mI M):=aa y.out.bT 0;have cj:J.cell? ⟨w1.1.size,1,I⟩=Y (U O k):=aa y.out.bT 1;have ck:J.cell? ⟨w1.1.size,2,I⟩=Y (C ab Z X):=aa y.out.bT 2;have d6:J.cell? ⟨w1.1.size,4,I⟩=Y (U O 0):=aa y.out.bT 4;have d7:J.cell? ⟨w1.1.size,5,I⟩=Y (U O 0):=aa y.out.bT 5;have d8:J.cell? ⟨w1.1.size,6,I⟩=Y (ox qq 0):=aa y.out.bT 6;have d9:J.cell? ⟨w1.1.size,7,I⟩=Y (mI ⟨#[]⟩):=aa y.out.bT 7;have ea:J.cell? ⟨w1.1.size,8,I⟩=Y (C I 0 0):=aa y.out.bT 8;have ez:J.cell? ⟨w.1.size,0,I⟩=Y (mI ⟨#[]⟩):=aa y.out.bN 0;have e1:=ac y.out.bN 0;have eC:J.cell? ⟨w.1.size,1,I⟩=Y (U O 0):=aa y.out.bN 1;have e2:=ac y.out.bN 1;have eL:J.cell? ⟨w.1.size,2,I⟩=Y (C I 0 0):=aa y.out.bN 2;have e3:=ac y.out.bN 2;have e0:J.cell? ⟨w.1.size,3,I⟩=Y (mx wx):=aa y.out.bN 3;have e4:=ac y.out.bN 3;have n4:J.cell? ⟨w.1.size,4,I⟩=Y (U O 0):=aa y.out.bN 4;have e5:=ac y.out.bN 4;have n5:J.cell? ⟨w.1.size,5,I⟩=Y (U O 0):=aa y.out.bN 5;have e6:=ac y.out.bN 5;have n6:J.cell? ⟨w.1.size,6,I⟩=Y (ox qq 0):=aa y.out.bN 6;have e7:=ac y.out.bN 6;have n7:J.cell? ⟨w.1.size,7,I⟩=Y (mI ⟨#[]⟩):=aa y.out.bN 7;have e8:=ac y.out.bN 7
    have n8:J.cell? ⟨w.1.size,8,I⟩=Y (C I 0 0):=aa y.out.bN 8;have e9:=ac y.out.bN 8;go_wp2;obtain⟨f1,cn,co,cp⟩:=b1.out _ rfl;refine bodyPost_ret (v:=.agg (aA M k ab Z X wx 0 0 0 ⟨#[]⟩ I 0 0)) (results_cell_row rfl _ _ w.1.size _ _ _ _ rfl f1 underlying104 rfl (by kernel_rfl)) rfl ?_;rw[a3.out];refine⟨_,rfl,cn,?_,cp⟩;rw[<-AI];exact co
   ·subst b2;obtain⟨a4,b6⟩:∃a4,a4=J.setCell ⟨w1.1.size,3,I⟩ (mx true):=⟨_,rfl⟩;have ah:AY (fL w a4 A R w1.1.size #[mI M,U O k,C ab Z X,mx true,U O 0,U O 0,ox qq 0,mI ⟨#[]⟩,C I 0 0] (l.drop (L+Q))):=by
     rw[b6,<-AI];exact y.out.set 3 (mx true)
    have cx:AY (Aside (fun j=>j=R∨j=w1.1.size) W a4):=by
     rw[b6];exact(b8.out.mono (fun _ _ h=>.inl h)).trans (al J w1.1.size 3 (mx true)) (fun _ _ h=>.inr h)
    have c5:AY (eJ a4 R (ar k ab Z X) t):=by
     refine⟨fun j=>ak.1.size<=j∧j<w1.1.size,cb.out _ _ (fun j S=>S.elim .inl (fun h=>.inr (by omega))) cx.out,fun j S=>⟨by omega,?_⟩⟩;have:=ah.out.lt;omega
    have a6:=gQq (xC t 1 d0.out (l.drop (L+Q)) A R a4 _ c5.out ah.out.rd);have a3:AY (r=ap (Sch.rdV t (l.drop (L+Q))) fun v a0=>.ok (⟨M,t,true,v⟩,L+Q+a0)):=a1.out.trans (AJ (by decide));obtain⟨mv,ds⟩:∃m,m=Sch.rdV t (l.drop (L+Q)):=⟨_,rfl⟩;rw[<-ds] at a3 a6;have ci:=gQq b6;unfold ar at a6;have cj:J.cell? ⟨w1.1.size,1,I⟩=Y (U O k):=aa y.out.bT 1;have ck:J.cell? ⟨w1.1.size,2,I⟩=Y (C ab Z X):=aa y.out.bT 2;clear a1 ds b6 b8 c5;cases mv with
    |error er=>
     have cc:AY (r=qx er):=a3.out;clear a3;go_wp2_with fail;rw[<-ci.out];refine a6.out.mono ?_;intro e w4 V;obtain⟨aj,K⟩:=V.bad;subst aj;clear V;have bj:=gQq (ah.out.aside.trans K (fun _ _ h=>h));clear K a6;go_wp2;rw[cc.out];exact⟨rfl,rfl,bj.out⟩
    |ok vj=>
     obtain⟨x,a0⟩:=vj;have cc:AY (r=.ok (⟨M,t,true,x⟩,L+Q+a0)):=a3.out;clear a3;go_wp2_with fail;rw[<-ci.out];refine a6.out.mono ?_;intro e w4 V;obtain⟨v,aj,aw,a2,K⟩:=V.good;obtain⟨f6,cv,a5⟩:=aw.open;clear V aw;obtain⟨bb,a9,a7,bi,be,bc,a8,eq⟩:=a5.shape;subst eq;subst cv;subst aj;unfold cells5;have E:=gQq (ah.out.step K a2);have cy:AY (Aside (fun j=>j=R∨j=w1.1.size) W w4):=cx.out.trans K (fun _ _ h=>.inl h);have df:=gQq a5;have f2:=ah.out.lt;have f3:=K.size;clear K a2 a5 a6 ci cj ck dr eb y;have bn:=gQq (((((E.out.set 4 (U O bb)).set 5 (U O a9)).set 6 (ox qq a7)).set 7 (mI bi)).set 8 (C be bc a8));obtain⟨w5,b7⟩:∃w5,w5=((((w4.setCell ⟨w1.1.size,4,I⟩ (U O bb)).setCell ⟨w1.1.size,5,I⟩ (U O a9)).setCell ⟨w1.1.size,6,I⟩ (ox qq a7)).setCell ⟨w1.1.size,7,I⟩ (mI bi)).setCell ⟨w1.1.size,8,I⟩ (C be bc a8):=⟨_,rfl⟩;have bv:AY (Aside (fun j=>j=w1.1.size) w4 w5):=by
      rw[b7];have d1:Aside (fun j=>j=w1.1.size) w4 (w4.setCell ⟨w1.1.size,4,I⟩ (U O bb)):=al _ _ _ _;have d2:=d1.trans (al _ w1.1.size 5 (U O a9)) (fun _ _ h=>h);have d3:=d2.trans (al _ w1.1.size 6 (ox qq a7)) (fun _ _ h=>h);have d4:=d3.trans (al _ w1.1.size 7 (mI bi)) (fun _ _ h=>h);exact d4.trans (al _ w1.1.size 8 (C be bc a8)) (fun _ _ h=>h)
     rw[<-b7] at bn;have f4:=bv.out.size;have c9:AY (dx w5 (fun j=>w.1.size+1<=j∧j<w5.1.size) (aA M k ab Z X true bb a9 a7 bi be bc a8) ⟨M,t,true,x⟩):=by
      refine⟨fun j=>ak.1.size<=j∧j<w1.1.size,fun j=>a4.1.size<=j∧j<w4.1.size,k,ab,Z,X,bb,a9,a7,bi,be,bc,a8,rfl,?_,?_,fun j S=>by omega,fun j S=>by omega,fun j b2 fx=>by omega⟩
      ·exact cb.out _ _ (fun j S=>S.elim .inl (fun h=>.inr (by omega))) (cy.out.trans bv.out (fun _ _ h=>.inr h))
      ·exact df.out.aside bv.out (fun j S aj=>by omega)
     have b1:=gQq (fun P cq=>zA (P:=P) cr bn.out.bN (by omega) c9.out (fun j S=>S) bn.out.rd bn.out.aside cq);rw[b7] at b1;clear b7 bn c9 bv cy df;obtain⟨d5,cj,ck,dr,d6,-⟩:=cQ9 E.out.bT;have fi:=ac E.out.bT 4;have d7:w4.cell? ⟨w1.1.size,5,I⟩=Y (U O 0):=aa E.out.bT 5;have fo:=ac E.out.bT 5;have d8:w4.cell? ⟨w1.1.size,6,I⟩=Y (ox qq 0):=aa E.out.bT 6;have fq:=ac E.out.bT 6;have d9:w4.cell? ⟨w1.1.size,7,I⟩=Y (mI ⟨#[]⟩):=aa E.out.bT 7;have fs:=ac E.out.bT 7;have ea:w4.cell? ⟨w1.1.size,8,I⟩=Y (C I 0 0):=aa E.out.bT 8;have fv:=ac E.out.bT 8;have ez:w4.cell? ⟨w.1.size,0,I⟩=Y (mI ⟨#[]⟩):=aa E.out.bN 0;have e1:=ac E.out.bN 0;have eC:w4.cell? ⟨w.1.size,1,I⟩=Y (U O 0):=aa E.out.bN 1;have e2:=ac E.out.bN 1;have eL:w4.cell? ⟨w.1.size,2,I⟩=Y (C I 0 0):=aa E.out.bN 2;have e3:=ac E.out.bN 2;have e0:w4.cell? ⟨w.1.size,3,I⟩=Y (mx wx):=aa E.out.bN 3;have e4:=ac E.out.bN 3;have n4:w4.cell? ⟨w.1.size,4,I⟩=Y (U O 0):=aa E.out.bN 4;have e5:=ac E.out.bN 4;have n5:w4.cell? ⟨w.1.size,5,I⟩=Y (U O 0):=aa E.out.bN 5;have e6:=ac E.out.bN 5;have n6:w4.cell? ⟨w.1.size,6,I⟩=Y (ox qq 0):=aa E.out.bN 6;have e7:=ac E.out.bN 6;have n7:w4.cell? ⟨w.1.size,7,I⟩=Y (mI ⟨#[]⟩):=aa E.out.bN 7;have e8:=ac E.out.bN 7;have n8:w4.cell? ⟨w.1.size,8,I⟩=Y (C I 0 0):=aa E.out.bN 8;have e9:=ac E.out.bN 8;clear E;go_wp2;obtain⟨f1,cn,co,cp⟩:=b1.out _ rfl
     refine bodyPost_ret (v:=.agg (aA M k ab Z X true bb a9 a7 bi be bc a8)) (results_cell_row rfl _ _ w.1.size _ _ _ _ rfl f1 underlying104 rfl (by kernel_rfl)) rfl ?_;rw[cc.out];refine⟨_,rfl,cn,?_,cp⟩;rw[<-AI];exact co
end
end Go.Proofs.YtngmnfdaedlodaaGreatDoor

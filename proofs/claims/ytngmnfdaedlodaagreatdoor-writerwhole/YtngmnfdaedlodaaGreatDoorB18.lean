import Derived.Test.YtngmnfdaedlodaaGreatDoorB17
set_option maxRecDepth 100000
set_option maxHeartbeats 2000000
namespace Go.Proofs.YtngmnfdaedlodaaGreatDoor
open Go.Proofs.Tryz
open Option renaming none->I,some->Y
open Go.Value renaming int->U,slice->C,string->qj,float->sq,bool->qz
open Go.IntKind renaming i64->O
open Go.RowKit renaming Hid->AD
open Go.FloatKind renaming f64->ux
open Bool renaming false->AK
open Go renaming World->AU
open Go.Obj renaming cells->wx
open Go.Proofs.Tryz renaming prog->AE
open Except renaming error->AQ
variable{A R T:Nat}{W W' w:AU}{l:L8}{u0 u1 u2:Value}{k:Int}{D:AV}{a:Act}{ops:Array Oper}{o:Oper}{fn:Func}{code:Code}{c:Col}
section
open Go.RowKit
attribute [local go_sem] al
theorem bU{y:Act->AU->Prop}{E:Exit->Act->AU->Prop}{J:Prop}{f:FuncId}{R:Ending->AU->Prop}(x:Operand)(aw:TypeId)(X:o.guard=I)(ah:o.op=Op.call { callee:=.value (.func f),args:=#[x],argTypes:=#[aw] })(ak:a.eval x=u0)(V : Tryz.prog.funcs[f]?=Y fn)(ab : (fn.name== "runtime.NumGoroutine")=AK)(hb : fn.body=Y code)(M:Calls AE f #[u0] w R)(L:∀e w',R e w'->∃ch,e=.panicked ch∧E (.panic ch) a w')(v':Value)(_:AD False->y (a.put o.dst v') w):
  if Region.wanted o (yielded ops a.tmps)=true then Oper.wp AE o a w y E else J:=by
 have aj:Region.wanted o (yielded ops a.tmps)=true:=by simp[Region.wanted,X]
 rw[AG aj];have K : fn.name≠ "runtime.NumGoroutine" := by simpa using ab
 unfold Oper.wp;have Q:(execOp a.eval o).run AE w=.ok (.enter f #[u0]) w:=by
  have S:a.eval (.func f)=.func (.func f) #[] #[]:=rfl;simp[execOp,ah,resolve,invoke,ak,S,Deferred.ofValue,callFunc,V,K,hb]
 rw[Q,Oper.upon_enter];refine M.mono ?_;intro e w' ai;obtain⟨z,rfl,Z⟩:=L e w' ai;exact Z
theorem aO{y:Act->AU->Prop}{J:Exit->Act->AU->Prop}{E:Prop}{f:FuncId}{R:Ending->AU->Prop}(x:Operand)(aw:TypeId)(X:o.guard=I)(ah:o.op=Op.call { callee:=.value (.func f),args:=#[x],argTypes:=#[aw] })(ak:a.eval x=u0)(V : Tryz.prog.funcs[f]?=Y fn)(ab : (fn.name== "runtime.NumGoroutine")=AK)(hb : fn.body=Y code)(M:Calls AE f #[u0] w R)(L:∀e w',R e w'->∃z,e=.returned z∧y (a.put o.dst z) w'):
  if Region.wanted o (yielded ops a.tmps)=true then Oper.wp AE o a w y J else E:=by
 have aj:Region.wanted o (yielded ops a.tmps)=true:=by simp[Region.wanted,X]
 rw[AG aj];have K : fn.name≠ "runtime.NumGoroutine" := by simpa using ab
 unfold Oper.wp;have Q:(execOp a.eval o).run AE w=.ok (.enter f #[u0]) w:=by
  have S:a.eval (.func f)=.func (.func f) #[] #[]:=rfl;simp[execOp,ah,resolve,invoke,ak,S,Deferred.ofValue,callFunc,V,K,hb]
 rw[Q,Oper.upon_enter];refine M.mono ?_;intro e w' ai;obtain⟨z,rfl,Z⟩:=L e w' ai;exact Z
theorem cH{y:Act->AU->Prop}{E:Exit->Act->AU->Prop}{K:Prop}{f:FuncId}{R:Ending->AU->Prop}(x J z:Operand)(a2 a3 a4:TypeId)(Z:o.guard=I)(ai:o.op=Op.call { callee:=.value (.func f),args:=#[x,J,z],argTypes:=#[a2,a3,a4] })(aw:a.eval x=u0)(a0:a.eval J=u1)(a1:a.eval z=u2)(X : Tryz.prog.funcs[f]?=Y fn)(ah : (fn.name== "runtime.NumGoroutine")=AK)(hb : fn.body=Y code)(Q:Calls AE f #[u0,u1,u2] w R)(M:∀e w',R e w'->∃ch,e=.panicked ch∧E (.panic ch) a w')(v':Value)(_:AD False->y (a.put o.dst v') w):
  if Region.wanted o (yielded ops a.tmps)=true then Oper.wp AE o a w y E else K:=by
 have ak:Region.wanted o (yielded ops a.tmps)=true:=by simp[Region.wanted,Z]
 rw[AG ak];have L : fn.name≠ "runtime.NumGoroutine" := by simpa using ah
 unfold Oper.wp;have S:(execOp a.eval o).run AE w=.ok (.enter f #[u0,u1,u2]) w:=by
  have V:a.eval (.func f)=.func (.func f) #[] #[]:=rfl;simp[execOp,ai,resolve,invoke,aw,a0,a1,V,Deferred.ofValue,callFunc,X,L,hb]
 rw[S,Oper.upon_enter];refine Q.mono ?_;intro e w' aj;obtain⟨z,rfl,ab⟩:=M e w' aj;exact ab
theorem bS{y:Act->AU->Prop}{K:Exit->Act->AU->Prop}{J:Prop}{f:FuncId}{R:Ending->AU->Prop}(x E z:Operand)(a2 a3 a4:TypeId)(Z:o.guard=I)(ai:o.op=Op.call { callee:=.value (.func f),args:=#[x,E,z],argTypes:=#[a2,a3,a4] })(aw:a.eval x=u0)(a0:a.eval E=u1)(a1:a.eval z=u2)(X : Tryz.prog.funcs[f]?=Y fn)(ah : (fn.name== "runtime.NumGoroutine")=AK)(hb : fn.body=Y code)(Q:Calls AE f #[u0,u1,u2] w R)(M:∀e w',R e w'->∃z,e=.returned z∧y (a.put o.dst z) w'):
  if Region.wanted o (yielded ops a.tmps)=true then Oper.wp AE o a w y K else J:=by
 have ak:Region.wanted o (yielded ops a.tmps)=true:=by simp[Region.wanted,Z]
 rw[AG ak];have L : fn.name≠ "runtime.NumGoroutine" := by simpa using ah
 unfold Oper.wp;have S:(execOp a.eval o).run AE w=.ok (.enter f #[u0,u1,u2]) w:=by
  have V:a.eval (.func f)=.func (.func f) #[] #[]:=rfl;simp[execOp,ai,resolve,invoke,aw,a0,a1,V,Deferred.ofValue,callFunc,X,L,hb]
 rw[S,Oper.upon_enter];refine Q.mono ?_;intro e w' aj;obtain⟨z,rfl,ab⟩:=M e w' aj;exact ab
structure ve(w W:AU)(A R:Nat)(D:AV)(l:L8):Prop where
 b1:W.1[w.1.size+1]?=Y (wx #[U O 0,U O 0,sq ux 0,qj ⟨#[]⟩,C I 0 0] 102 (0,0))
 b2:W.1[w.1.size+1+1]?=Y (wx D 102 (0,0))
 rd:Rdr W A R l
 aside:Aside (fun i=>i=R) w W
 size:w.1.size+3<=W.1.size
theorem dM.set{J:AV}(h:dM w W A R k J l)(M:R<w.1.size)(m:Nat)(u:Value):ve w (W.setCell ⟨w.1.size+1+1,m,I⟩ u) A R ((#[U O k,U O 0,sq ux 0,qj ⟨#[]⟩,C I 0 0]:AV).set! m u) l:=by
 have y:Aside (fun i=>i=w.1.size+1+1) W (W.setCell ⟨w.1.size+1+1,m,I⟩ u):=am _ _ _ _;have L:=h.size;refine⟨?_,ao h.b2 m u,h.rd.aside y (fun j E=>by rw[E];omega),h.aside.trans y (fun j E K=>by rw[K] at E;omega),AT L y.size⟩;rw[y.block _ (by omega) (by omega)];exact h.b1
theorem ve.on(h:ve w W A R D l)(hb:Below W.1.size W W'):ve w W' A R D l:=by
 have y:=h.size;exact⟨bQ h.b1 hb (by omega),bQ h.b2 hb (by omega),h.rd.on hb,h.aside.trans (af hb (fun _=>False)) (fun _ _ h=>h.elim),AT y hb.size⟩
theorem vD(l:L8)(A R:Nat)(w:AU)(p:OA)(n c:Nat)(h:Rdr w A R l):Calls AE 162 #[.pointer (Y ⟨R,0,I⟩),.agg #[U O 4,C p n c]] w (RdA w A R l (Sch.scalar 4 l) (isV w)):=by
 have aj:=h.lt;obtain⟨W,ak⟩:∃W,W=((w.alloc (wx #[U O 4,C p n c] 99)).alloc (wx #[U O 0,U O 0,sq ux 0,qj ⟨#[]⟩,C I 0 0] 102)).alloc (wx #[U O 4,U O 0,sq ux 0,qj ⟨#[]⟩,C I 0 0] 102):=⟨_,rfl⟩;have V:AD (dM w W A R 4 #[U O 4,C p n c] l):=by rw[ak];exact bR 4 _ h
 have ai:=gQq ak;obtain⟨r,a2⟩:∃r,r=Sch.scalar 4 l:=⟨_,rfl⟩;have K:=gQq (a2.trans (mJ l));rw[<-a2];have J:=gQq (xn l A R W V.out.rd);obtain⟨m,a1⟩:∃m,m=Sch.text 1024 2 l:=⟨_,rfl⟩;rw[<-a1] at K J;have a6:=gQq a1;clear a2 a1 h ak;cases m with
 |error er=>
  have E:AD (r=AQ er):=K.out;clear K;go_enter func162,ntmps162;go_wp2_with fail;rw[<-ai.out];refine J.out.mono ?_;intro e w1 M;obtain⟨a0,L⟩:=M.bad;subst a0;clear M;have be:=gQq (V.out.aside.trans L (fun _ _ h=>h));clear L J;go_wp2;rw[E.out];exact⟨rfl,rfl,be.out⟩
 |ok xj=>
  obtain⟨x,j⟩:=xj;have E:AD (r=if dQ x=AK then AQ 61 else .ok (.mk 4 0 0 x [],j)):=K.out;have bq:x.size<=1024:=(Sch.text_ok a6.out.symm).1;clear K a6;go_enter func162,ntmps162;go_wp2_with fail;rw[<-ai.out];refine J.out.mono ?_;intro e w1 M;obtain⟨v,a0,a3,a9,L⟩:=M.good;clear M
  replace a3:v=qj x:=a3
  subst a3;subst a0;have X:=gQq (V.out.step L a9 aj);clear L a9 J ai V;have bc:w1.cell? ⟨w.1.size+1+1,3,I⟩=Y (qj ⟨#[]⟩):=aa X.out.b2 3;have bn:=ac X.out.b2 3;obtain⟨Z,aw⟩:∃Z,Z=w1.setCell ⟨w.1.size+1+1,3,I⟩ (qj x):=⟨_,rfl⟩;have a5:AD (ve w Z A R #[U O 4,U O 0,sq ux 0,qj x,C I 0 0] (l.drop j)):=by rw[aw];exact X.out.set aj 3 (qj x)
  have ah:=gQq (xP x (by omega) Z);have a7:=gQq aw;obtain⟨bp,bb⟩:∃b,b=dQ x:=⟨_,rfl⟩;rw[<-bb] at ah E;clear aw bb;go_wp2_with fail;rw[<-a7.out];refine ah.out.mono ?_;rintro e S ⟨rfl,a8⟩;have y:=gQq (a5.out.on a8);clear a8 ah a5 a7 bc bn X;cases bp with
  |false=>
   have ab:AD (r=AQ 61):=E.out.trans (AG (by first | rfl | trivial));clear E;go_wp2_with fail;refine(cZ _ 61 _).mono ?_;rintro e a4 ⟨rfl,Q⟩;rw[Q];clear Q a4;go_wp2;rw[ab.out];exact⟨rfl,rfl,y.out.aside⟩
  |true=>
   have ab:AD (r=.ok (.mk 4 0 0 x [],j)):=E.out.trans (AF (by first | decide | simp));clear E;go_wp2_with fail;refine(cY _ 61 _).mono ?_;rintro e a4 ⟨rfl,Q⟩;rw[Q];clear Q a4;obtain⟨bs,bv,bN,bc,bO⟩:=cQ5 y.out.b2;have bT:S.cell? ⟨w.1.size+1,0,I⟩=Y (U O 0):=aa y.out.b1 0;have b5:=ac y.out.b1 0;have bX:S.cell? ⟨w.1.size+1,1,I⟩=Y (U O 0):=aa y.out.b1 1;have b6:=ac y.out.b1 1;have b0:S.cell? ⟨w.1.size+1,2,I⟩=Y (sq ux 0):=aa y.out.b1 2;have b7:=ac y.out.b1 2;have b3:S.cell? ⟨w.1.size+1,3,I⟩=Y (qj ⟨#[]⟩):=aa y.out.b1 3;have b8:=ac y.out.b1 3;have b4:S.cell? ⟨w.1.size+1,4,I⟩=Y (C I 0 0):=aa y.out.b1 4;have b9:=ac y.out.b1 4;have bi:=gQq (wI (k:=4) (i:=0) (b:=0) (t:=x) (q:=I) (n:=0) (c:=0) (x:=.mk 4 0 0 x []) (F:=fun _=>False) (N:=w.1.size+1) aj (by omega) y.out.b1 .none (fun _ h=>h.elim) y.out.rd y.out.aside);go_wp2;obtain⟨f1,bj,bk,bl⟩:=bi.out;refine bodyPost_ret (v:=.agg (cells5 4 0 0 x I 0 0)) (results_cell_row rfl _ _ (w.1.size+1) _ _ _ _ rfl f1 underlying102 rfl (by kernel_rfl)) rfl ?_;rw[ab.out];exact⟨_,rfl,bj,bk,bl⟩
end
section
open Go.RowKit
attribute [local go_sem] al
theorem tT(l:L8):Sch.many 6 l=Sch.bit l:=rfl
theorem tS(l:L8):Sch.many 7 l=aR 256 3 l:=by
 unfold Sch.many aR;rw[AF (by decide)];rfl
theorem lv(k:Int)(h:k=6∨k=7)(x:Ty)(l:L8):Sch.rdV (.mk k [x]) l=ar (Sch.many k l) fun m j=>ar (Sch.rdN (Sch.rdV x) m (l.drop j)) fun E y=>.ok (.mk k 0 0 ⟨#[]⟩ E,j+y):=by
 rw[Sch.rdV_mk,AF (by omega)];cases Sch.many k l with
 |error e=>rfl
 |ok p=>
  obtain⟨m,j⟩:=p;rw[aI];have e:(([x]:List Ty).map Sch.rdV).headD (fun _=>AQ 0)=Sch.rdV x:=rfl;dsimp only;rw[e];cases Sch.rdN (Sch.rdV x) m (l.drop j) with
  |error e=>rfl
  |ok q=>rfl
theorem count_le{y E:Nat}{n k:Nat}(h:aR y E l=.ok (n,k)):n<=y:=by
 unfold aR at h;split at h
 ·cases h
 ·split at h
  ·cases h
  ·injection h with h;injection h with h1 _;omega
theorem vA(x:Ty)(bO:nT x)(l:L8)(A R:Nat)(w:AU)(u:AV)(bn:eN w R u (.mk 6 [x]))(h:Rdr w A R l):Calls AE 162 #[.pointer (Y ⟨R,0,I⟩),.agg u] w (RdA w A R l (Sch.rdV (.mk 6 [x]) l) (isV w)):=by
  have ai:=h.lt;obtain⟨g,ak,c,k',cp,n',b9,rfl,bp,cv,bs,b4,b5⟩:=bn.one;unfold au;obtain⟨W,a9⟩:∃W,W=((w.alloc (wx #[U O 6,C (Y ⟨g,ak,I⟩) 1 c] 99)).alloc (wx #[U O 0,U O 0,sq ux 0,qj ⟨#[]⟩,C I 0 0] 102)).alloc (wx #[U O 6,U O 0,sq ux 0,qj ⟨#[]⟩,C I 0 0] 102):=⟨_,rfl⟩;have L:AD (dM w W A R 6 #[U O 6,C (Y ⟨g,ak,I⟩) 1 c] l):=by rw[a9];exact bR 6 _ h
  have a8:=gQq a9;obtain⟨r,bc⟩:∃r,r=Sch.rdV (.mk 6 [x]) l:=⟨_,rfl⟩;have bk:=gQq (bc.trans (lv 6 (by omega) x l));rw[<-bc];have Z:AD (r=ar (Sch.bit l) fun m j=>ar (Sch.rdN (Sch.rdV x) m (l.drop j)) fun Q aj=>.ok (.mk 6 0 0 ⟨#[]⟩ Q,j+aj)):=by show _=_;rw[bk.out,tT]
  have a1:AD (Calls AE 161 #[.pointer (Y ⟨R,0,I⟩)] W.drew (RdA W A R l (Sch.bit l) isI)):=(uA l A R W.drew L.out.rd.drew).mono fun _ _ h=>h.undrew;have bi:=gQq bp;have bl:=gQq bO
  -- the cells that are read,wherever only the reader has changed
  have a4:AD (∀W',Aside (fun i=>i=R) W W'->W'.cell? ⟨w.1.size,1,I⟩=Y (C (Y ⟨g,ak,I⟩) 1 c)∧W'.cell? ⟨g,ak,I⟩=Y (U O k')∧W'.cell? ⟨g,ak+1,I⟩=Y (C cp n' b9)):=fun W' y=>by
    have cw:=L.out.size;have bq:g<W.1.size:=(by omega);refine⟨?_,?_,?_⟩
    · rw[y.cell (show w.1.size<W.1.size by omega) (show ¬w.1.size=R by omega)];exact aa L.out.b0 1
    · rw[y.cell (show g<W.1.size from bq) (show ¬g=R by omega),L.out.aside.cell bs (show ¬g=R by omega)];exact b4
    · rw[y.cell (show g<W.1.size from bq) (show ¬g=R by omega),L.out.aside.cell bs (show ¬g=R by omega)];exact b5
  obtain⟨cs,ct,cu⟩:=a4.out W (Aside.refl _ _);have cq:W.cell? ⟨w.1.size+1+1,4,I⟩=Y (C I 0 0):=aa L.out.b2 4;have cr:=ac L.out.b2 4;obtain⟨co,bb⟩:∃m,m=Sch.bit l:=⟨_,rfl⟩;rw[<-bb] at Z a1;have bj:=gQq bb;clear bc bb h a9 bp bO b4 b5 bn bk;cases co with
  |error er=>
    have a6:AD (∀E,Aside (fun i=>i=R) W E->RdA w A R l r (isV w) (.panicked (dm er)) E):=fun E y=>by
      have e:r=AQ er:=Z.out;rw[e];exact⟨rfl,L.out.aside.trans y (fun _ _ h=>h)⟩
    clear Z;go_enter func162,ntmps162;go_wp2_with fail;rw[<-a8.out]
    go_region_law (first|(refine bU (.tmp 45) 211 (by rfl) (by rfl) (by rfl) func161 (by kernel_rfl) (by rfl) a1.out (fun e E K=>⟨_,K.bad.1,rfl,a6.out E K.bad.2⟩) (U O 0) ?_;intro a3)|(refine bm a3 (C I 0 0) ?_))
    all_goals exact a3.out.elim
  |ok mj=>
    obtain⟨m,j⟩:=mj;have ck:m<=256:=(by have:=(Sch.bit_ok bj.out.symm).1;omega);have ab:AD (r=ar (Sch.rdN (Sch.rdV x) m (l.drop j)) fun Q aj=>.ok (.mk 6 0 0 ⟨#[]⟩ Q,j+aj)):=Z.out;have a2:=gQq (fun w1 (y:Aside (fun i=>i=R) W w1) (M:Rdr w1 A R (l.drop j))=>ui x bl.out m ck (l.drop j) A R w1 _ ((bi.out.aside L.out.aside).aside y) M);unfold au at a2;obtain⟨be,bv⟩:∃be,be=Sch.rdN (Sch.rdV x) m (l.drop j):=⟨_,rfl⟩;rw[<-bv] at ab a2;clear Z bv bj bl bi;cases be with
    |error er=>
      have a6:AD (∀w1 E,Aside (fun i=>i=R) W w1->Aside (fun i=>i=R) w1 E->RdA w A R l r (isV w) (.panicked (dm er)) E):=fun w1 E y ci=>by
        have e:r=AQ er:=ab.out;rw[e];exact⟨rfl,(L.out.aside.trans y (fun _ _ h=>h)).trans ci (fun _ _ h=>h)⟩
      clear ab;go_enter func162,ntmps162;go_wp2_with fail;rw[<-a8.out]
      go_region_law (first
        | (refine aO (.tmp 45) 211 (by rfl) (by rfl) (by rfl) func161 (by kernel_rfl) (by rfl) a1.out ?_;intro e w1 K;obtain⟨v,V,S,M,y⟩:=K.good;clear K
           replace S:v=U O (m:Nat):=S
           subst S;refine⟨_,V,?_⟩;clear V;have a0:=gQq y;have a7:=gQq M;obtain⟨bT,bX,b3⟩:=a4.out w1 y;have X:=gQq (L.out.step y M ai);have c5:w1.cell? ⟨w.1.size+1+1,4,I⟩=Y (C I 0 0):=aa X.out.b2 4;have c6:=ac X.out.b2 4;clear y M)
        | (refine cH (.tmp 44) (.tmp 46) (.tmp 50) 211 3 99 (by rfl) (by rfl) (by rfl) (by rfl) (by rfl) func183 (by kernel_rfl) (by rfl) (a2.out w1 a0.out a7.out) (fun e E K=>⟨_,K.bad.1,rfl,a6.out w1 E a0.out K.bad.2⟩) (C I 0 0) ?_;intro a3))
      all_goals exact a3.out.elim
    |ok vj=>
      obtain⟨Q,aj⟩:=vj;have b8:AD (r=.ok (.mk 6 0 0 ⟨#[]⟩ Q,j+aj)):=ab.out;clear ab;go_enter func162,ntmps162;go_wp2_with fail;rw[<-a8.out]
      go_region_law (first
        | (refine aO (.tmp 45) 211 (by rfl) (by rfl) (by rfl) func161 (by kernel_rfl) (by rfl) a1.out ?_;intro e w1 K;obtain⟨v,V,S,M,y⟩:=K.good;clear K
           replace S:v=U O (m:Nat):=S
           subst S;refine⟨_,V,?_⟩;clear V;have a0:=gQq y;have a7:=gQq M;obtain⟨bT,bX,b3⟩:=a4.out w1 y;have X:=gQq (L.out.step y M ai);clear y M)
        | (refine bS (.tmp 44) (.tmp 46) (.tmp 50) 211 3 99 (by rfl) (by rfl) (by rfl) (by rfl) (by rfl) func183 (by kernel_rfl) (by rfl) (a2.out w1 a0.out a7.out) ?_;intro e E K;obtain⟨v,V,S,M,y⟩:=K.good;obtain⟨aw,ah,cn,bN⟩:=S.open;clear K S;subst cn;refine⟨_,V,?_⟩;clear V;have J:=gQq (X.out.step y M ai);have b7:=gQq bN;have cx:=X.out.size;have cy:=y.size;have z4:E.cell? ⟨w.1.size+1+1,4,I⟩=Y (C I 0 0):=aa J.out.b2 4;have d1:=ac J.out.b2 4;clear y M bN))
      all_goals
        have a5:=gQq (J.out.set ai 4 (C aw Q.length ah));have b6:=gQq (wI (k:=6) (i:=0) (b:=0) (t:=⟨#[]⟩) (q:=aw) (n:=Q.length) (c:=ah) (x:=.mk 6 0 0 ⟨#[]⟩ Q) (N:=w.1.size+1) ai (by omega) a5.out.b1 ((b7.out 6).aside (am E (w.1.size+1+1) 4 (C aw Q.length ah)) (fun i cj V=>by omega)) (fun i cj=>⟨by omega,by have:=(am E (w.1.size+1+1) 4 (C aw Q.length ah)).size;omega⟩) a5.out.rd a5.out.aside);obtain⟨z0,z1,z2,z3,-⟩:=cQ5 J.out.b2;have c7:E.cell? ⟨w.1.size+1,0,I⟩=Y (U O 0):=aa J.out.b1 0;have dr:=ac J.out.b1 0;have c8:E.cell? ⟨w.1.size+1,1,I⟩=Y (U O 0):=aa J.out.b1 1;have ds:=ac J.out.b1 1;have c9:E.cell? ⟨w.1.size+1,2,I⟩=Y (sq ux 0):=aa J.out.b1 2;have du:=ac J.out.b1 2;have df:E.cell? ⟨w.1.size+1,3,I⟩=Y (qj ⟨#[]⟩):=aa J.out.b1 3;have dv:=ac J.out.b1 3;have dj:E.cell? ⟨w.1.size+1,4,I⟩=Y (C I 0 0):=aa J.out.b1 4;have d0:=ac J.out.b1 4;clear cs ct cu cq cr bT bX b3;go_wp2;obtain⟨f1,cb,cc,cd⟩:=b6.out;refine bodyPost_ret (v:=.agg (cells5 6 0 0 ⟨#[]⟩ aw Q.length ah)) (results_cell_row rfl _ _ (w.1.size+1) _ _ _ _ rfl f1 underlying102 rfl (by kernel_rfl)) rfl ?_;rw[b8.out];refine⟨_,rfl,cb,?_,cd⟩;rw[<-Ax];exact cc
theorem vz(x:Ty)(bO:nT x)(l:L8)(A R:Nat)(w:AU)(u:AV)(bn:eN w R u (.mk 7 [x]))(h:Rdr w A R l):Calls AE 162 #[.pointer (Y ⟨R,0,I⟩),.agg u] w (RdA w A R l (Sch.rdV (.mk 7 [x]) l) (isV w)):=by
  have ai:=h.lt;obtain⟨g,ak,c,k',cp,n',b9,rfl,bp,cv,bs,b4,b5⟩:=bn.one;unfold au;obtain⟨W,a9⟩:∃W,W=((w.alloc (wx #[U O 7,C (Y ⟨g,ak,I⟩) 1 c] 99)).alloc (wx #[U O 0,U O 0,sq ux 0,qj ⟨#[]⟩,C I 0 0] 102)).alloc (wx #[U O 7,U O 0,sq ux 0,qj ⟨#[]⟩,C I 0 0] 102):=⟨_,rfl⟩;have L:AD (dM w W A R 7 #[U O 7,C (Y ⟨g,ak,I⟩) 1 c] l):=by rw[a9];exact bR 7 _ h
  have a8:=gQq a9;obtain⟨r,bc⟩:∃r,r=Sch.rdV (.mk 7 [x]) l:=⟨_,rfl⟩;have bk:=gQq (bc.trans (lv 7 (by omega) x l));rw[<-bc];have Z:AD (r=ar (aR 256 3 l) fun m j=>ar (Sch.rdN (Sch.rdV x) m (l.drop j)) fun Q aj=>.ok (.mk 7 0 0 ⟨#[]⟩ Q,j+aj)):=by show _=_;rw[bk.out,tS]
  have a1:AD (Calls AE 125 #[.pointer (Y ⟨R,0,I⟩),U .u64 256,U O 3] W.drew (RdA W A R l (aR 256 3 l) isI)):=(lQ 256 3 (by omega) l A R W.drew L.out.rd.drew).mono fun _ _ h=>h.undrew;have bi:=gQq bp;have bl:=gQq bO
  -- the cells that are read,wherever only the reader has changed
  have a4:AD (∀W',Aside (fun i=>i=R) W W'->W'.cell? ⟨w.1.size,1,I⟩=Y (C (Y ⟨g,ak,I⟩) 1 c)∧W'.cell? ⟨g,ak,I⟩=Y (U O k')∧W'.cell? ⟨g,ak+1,I⟩=Y (C cp n' b9)):=fun W' y=>by
    have cw:=L.out.size;have bq:g<W.1.size:=(by omega);refine⟨?_,?_,?_⟩
    · rw[y.cell (show w.1.size<W.1.size by omega) (show ¬w.1.size=R by omega)];exact aa L.out.b0 1
    · rw[y.cell (show g<W.1.size from bq) (show ¬g=R by omega),L.out.aside.cell bs (show ¬g=R by omega)];exact b4
    · rw[y.cell (show g<W.1.size from bq) (show ¬g=R by omega),L.out.aside.cell bs (show ¬g=R by omega)];exact b5
  obtain⟨cs,ct,cu⟩:=a4.out W (Aside.refl _ _);have cq:W.cell? ⟨w.1.size+1+1,4,I⟩=Y (C I 0 0):=aa L.out.b2 4;have cr:=ac L.out.b2 4;obtain⟨co,bb⟩:∃m,m=aR 256 3 l:=⟨_,rfl⟩;rw[<-bb] at Z a1;have bj:=gQq bb;clear bc bb h a9 bp bO b4 b5 bn bk;cases co with
  |error er=>
    have a6:AD (∀E,Aside (fun i=>i=R) W E->RdA w A R l r (isV w) (.panicked (dm er)) E):=fun E y=>by
      have e:r=AQ er:=Z.out;rw[e];exact⟨rfl,L.out.aside.trans y (fun _ _ h=>h)⟩
    clear Z;go_enter func162,ntmps162;go_wp2_with fail;rw[<-a8.out]
    go_region_law (first|(refine cH (.tmp 56) (.const (U .u64 256)) (.const (U O 3)) 211 160 25 (by rfl) (by rfl) (by rfl) (by rfl) (by rfl) func125 (by kernel_rfl) (by rfl) a1.out (fun e E K=>⟨_,K.bad.1,rfl,a6.out E K.bad.2⟩) (U O 0) ?_;intro a3)|(refine bm a3 (C I 0 0) ?_))
    all_goals exact a3.out.elim
  |ok mj=>
    obtain⟨m,j⟩:=mj;have ck:m<=256:=count_le bj.out.symm;have ab:AD (r=ar (Sch.rdN (Sch.rdV x) m (l.drop j)) fun Q aj=>.ok (.mk 7 0 0 ⟨#[]⟩ Q,j+aj)):=Z.out;have a2:=gQq (fun w1 (y:Aside (fun i=>i=R) W w1) (M:Rdr w1 A R (l.drop j))=>ui x bl.out m ck (l.drop j) A R w1 _ ((bi.out.aside L.out.aside).aside y) M);unfold au at a2;obtain⟨be,bv⟩:∃be,be=Sch.rdN (Sch.rdV x) m (l.drop j):=⟨_,rfl⟩;rw[<-bv] at ab a2;clear Z bv bj bl bi;cases be with
    |error er=>
      have a6:AD (∀w1 E,Aside (fun i=>i=R) W w1->Aside (fun i=>i=R) w1 E->RdA w A R l r (isV w) (.panicked (dm er)) E):=fun w1 E y ci=>by
        have e:r=AQ er:=ab.out;rw[e];exact⟨rfl,(L.out.aside.trans y (fun _ _ h=>h)).trans ci (fun _ _ h=>h)⟩
      clear ab;go_enter func162,ntmps162;go_wp2_with fail;rw[<-a8.out]
      go_region_law (first
        | (refine bS (.tmp 56) (.const (U .u64 256)) (.const (U O 3)) 211 160 25 (by rfl) (by rfl) (by rfl) (by rfl) (by rfl) func125 (by kernel_rfl) (by rfl) a1.out ?_;intro e w1 K;obtain⟨v,V,S,M,y⟩:=K.good;clear K
           replace S:v=U O (m:Nat):=S
           subst S;refine⟨_,V,?_⟩;clear V;have a0:=gQq y;have a7:=gQq M;obtain⟨bT,bX,b3⟩:=a4.out w1 y;have X:=gQq (L.out.step y M ai);have c5:w1.cell? ⟨w.1.size+1+1,4,I⟩=Y (C I 0 0):=aa X.out.b2 4;have c6:=ac X.out.b2 4;clear y M)
        | (refine cH (.tmp 55) (.tmp 57) (.tmp 61) 211 3 99 (by rfl) (by rfl) (by rfl) (by rfl) (by rfl) func183 (by kernel_rfl) (by rfl) (a2.out w1 a0.out a7.out) (fun e E K=>⟨_,K.bad.1,rfl,a6.out w1 E a0.out K.bad.2⟩) (C I 0 0) ?_;intro a3))
      all_goals exact a3.out.elim
    |ok vj=>
      obtain⟨Q,aj⟩:=vj;have b8:AD (r=.ok (.mk 7 0 0 ⟨#[]⟩ Q,j+aj)):=ab.out;clear ab;go_enter func162,ntmps162;go_wp2_with fail;rw[<-a8.out]
      go_region_law (first
        | (refine bS (.tmp 56) (.const (U .u64 256)) (.const (U O 3)) 211 160 25 (by rfl) (by rfl) (by rfl) (by rfl) (by rfl) func125 (by kernel_rfl) (by rfl) a1.out ?_;intro e w1 K;obtain⟨v,V,S,M,y⟩:=K.good;clear K
           replace S:v=U O (m:Nat):=S
           subst S;refine⟨_,V,?_⟩;clear V;have a0:=gQq y;have a7:=gQq M;obtain⟨bT,bX,b3⟩:=a4.out w1 y;have X:=gQq (L.out.step y M ai);clear y M)
        | (refine bS (.tmp 55) (.tmp 57) (.tmp 61) 211 3 99 (by rfl) (by rfl) (by rfl) (by rfl) (by rfl) func183 (by kernel_rfl) (by rfl) (a2.out w1 a0.out a7.out) ?_;intro e E K;obtain⟨v,V,S,M,y⟩:=K.good;obtain⟨aw,ah,cn,bN⟩:=S.open;clear K S;subst cn;refine⟨_,V,?_⟩;clear V;have J:=gQq (X.out.step y M ai);have b7:=gQq bN;have cx:=X.out.size;have cy:=y.size;have z4:E.cell? ⟨w.1.size+1+1,4,I⟩=Y (C I 0 0):=aa J.out.b2 4;have d1:=ac J.out.b2 4;clear y M bN))
      all_goals
        have a5:=gQq (J.out.set ai 4 (C aw Q.length ah));have b6:=gQq (wI (k:=7) (i:=0) (b:=0) (t:=⟨#[]⟩) (q:=aw) (n:=Q.length) (c:=ah) (x:=.mk 7 0 0 ⟨#[]⟩ Q) (N:=w.1.size+1) ai (by omega) a5.out.b1 ((b7.out 7).aside (am E (w.1.size+1+1) 4 (C aw Q.length ah)) (fun i cj V=>by omega)) (fun i cj=>⟨by omega,by have:=(am E (w.1.size+1+1) 4 (C aw Q.length ah)).size;omega⟩) a5.out.rd a5.out.aside);obtain⟨z0,z1,z2,z3,-⟩:=cQ5 J.out.b2;have c7:E.cell? ⟨w.1.size+1,0,I⟩=Y (U O 0):=aa J.out.b1 0;have dr:=ac J.out.b1 0;have c8:E.cell? ⟨w.1.size+1,1,I⟩=Y (U O 0):=aa J.out.b1 1;have ds:=ac J.out.b1 1;have c9:E.cell? ⟨w.1.size+1,2,I⟩=Y (sq ux 0):=aa J.out.b1 2;have du:=ac J.out.b1 2;have df:E.cell? ⟨w.1.size+1,3,I⟩=Y (qj ⟨#[]⟩):=aa J.out.b1 3;have dv:=ac J.out.b1 3;have dj:E.cell? ⟨w.1.size+1,4,I⟩=Y (C I 0 0):=aa J.out.b1 4;have d0:=ac J.out.b1 4;clear cs ct cu cq cr bT bX b3;go_wp2;obtain⟨f1,cb,cc,cd⟩:=b6.out;refine bodyPost_ret (v:=.agg (cells5 7 0 0 ⟨#[]⟩ aw Q.length ah)) (results_cell_row rfl _ _ (w.1.size+1) _ _ _ _ rfl f1 underlying102 rfl (by kernel_rfl)) rfl ?_;rw[b8.out];refine⟨_,rfl,cb,?_,cd⟩;rw[<-Ax];exact cc
theorem xO:∀(t:Ty) (d:Nat),Ty.check d t=0->nT t:=by
 intro t;refine Ty.ind (P:=fun t=>∀d,Ty.check d t=0->nT t) ?_ t;intro k xs L d hd l A R w u E h;obtain⟨-,X,Q⟩:=Sch.ty_open hd;rcases Q with ⟨J,rfl⟩ | ⟨J,x,rfl,K⟩
 ·obtain⟨k',p,n,c,rfl⟩:=E.shape;obtain⟨F,V,-⟩:=E.out;have S:k'=k:=by
   obtain⟨p2,c2,y,-⟩:=V.lies.open;simp only[au] at y;injection y with y;injection y with y _;injection y with _ y
  subst S;rw[Sch.rdV_mk,AG (by omega)];unfold au;have M:k'=1∨k'=2∨k'=3∨k'=4∨k'=5:=by omega
  rcases M with rfl | rfl | rfl | rfl | rfl
  ·exact vG l A R w p n c h
  ·exact vF l A R w p n c h
  ·exact vE l A R w p n c h
  ·exact vD l A R w p n c h
  ·exact vC l A R w p n c h
 ·rcases J with rfl | rfl
  ·exact vA x (L x (by simp) (d+1) K) l A R w u E h
  ·exact vz x (L x (by simp) (d+1) K) l A R w u E h
end
section
open Go.RowKit
attribute [local go_sem] al
def lU(s:ByteArray)(l:L8):Except Nat (Col×Nat):=ar (Sch.rdT 4 l) fun t j2=>ar (Sch.bit (l.drop j2)) fun h j3=>if h=0 then .ok (⟨s,t,AK,V0⟩,j2+j3) else ar (Sch.rdV t (l.drop (j2+j3))) fun v j4=>.ok (⟨s,t,true,v⟩,j2+j3+j4)
def isC(w:AU)(c:Col)(v:Value)(w':AU):Prop:=∃u,v=.agg u∧dx w' (fun k=>w.1.size<=k∧k<w'.1.size) u c
theorem isC.open{w':AU}{v:Value}(h:isC w c v w'):∃u,v=.agg u∧dx w' (fun k=>w.1.size<=k∧k<w'.1.size) u c:=h
theorem zQ{w wr:AU}{n:ByteArray}{L:OA}{K J:Nat}{h:Bool}{V S:Int}{M:Nat}{ab:ByteArray}{Z:OA}{X Q:Nat}{F:Nat->Prop}(a1:R<w.1.size)(aw:wr.1[w.1.size]?=Y (wx #[qj ⟨#[]⟩,U O 0,C I 0 0,qz AK,U O 0,U O 0,sq ux 0,qj ⟨#[]⟩,C I 0 0] 104 (0,0)))(a5:w.1.size+1<=wr.1.size)(a3:dx wr F (aB n k L K J h V S M ab Z X Q) c)(a0:∀j,F j->w.1.size+1<=j∧j<wr.1.size)(a4:Rdr wr A R l)(a2:Aside (fun i=>i=R) w wr){P:AU}(aj:P=oI wr w.1.size n k (C L K J) h V S M ab (C Z X Q)):
  P.1[w.1.size]?=Y (wx (aB n k L K J h V S M ab Z X Q) 104 (0,0))∧isC w c (.agg (aB n k L K J h V S M ab Z X Q)) P∧Rdr P A R l∧Aside (fun i=>i=R) w P:=by
 obtain⟨a7,a6,y,ak⟩:=a2.split a1;obtain⟨ah,ai,E⟩:=tz (w:=a7) (w1:=wr) (by rw[y];exact aw) ak (by rw[y];exact a5) a3 (by rw[y];exact a0);rw[y] at ah ai E;rw[<-aj] at ah ai E;refine⟨ah,⟨_,rfl,ai⟩,a4.keep (fun j a8=>?_) ?_,a6.trans (af (by rw[y];exact E) (fun _=>False)) (fun _ _ h=>h.elim)⟩
 ·rw[E.block j (by omega),ak.block j (by omega)]
 ·rw[aj];simp[oI,World.setCell]
structure fO(w W:AU)(A R T:Nat)(D:AV)(l:L8):Prop where
 bN:W.1[w.1.size]?=Y (wx #[qj ⟨#[]⟩,U O 0,C I 0 0,qz AK,U O 0,U O 0,sq ux 0,qj ⟨#[]⟩,C I 0 0] 104 (0,0))
 bT:W.1[T]?=Y (wx D 104 (0,0))
 rd:Rdr W A R l
 aside:Aside (fun i=>i=R) w W
 low:R<w.1.size
 mid:w.1.size<T
theorem fO.lt(h:fO w W A R T D l):T<W.1.size:=ap h.bT
theorem fO.step{l':L8}(h:fO w W A R T D l)(y:Aside (fun i=>i=R) W W')(L:Rdr W' A R l'):fO w W' A R T D l':=by
 have E:=h.lt;have J:=h.mid;have K:=h.low;exact⟨by rw[y.block _ (by omega) (by omega)];exact h.bN,by rw[y.block _ E (by omega)];exact h.bT,L,h.aside.trans y (fun _ _ h=>h),K,J⟩
theorem fO.set(h:fO w W A R T D l)(m:Nat)(u:Value):fO w (W.setCell ⟨T,m,I⟩ u) A R T (D.set! m u) l:=by
 have M:=h.lt;have J:=h.mid;have K:=h.low;have y:Aside (fun i=>i=T) W (W.setCell ⟨T,m,I⟩ u):=am _ _ _ _;exact⟨by rw[y.block _ (by omega) (by omega)];exact h.bN,ao h.bT m u,h.rd.aside y (fun j E=>by rw[E];omega),h.aside.trans y (fun j E L=>by rw[L] at E;omega),K,J⟩
theorem wT(M:ByteArray)(l:L8)(A R:Nat)(w:AU)(h:Rdr w A R l):Calls AE 127 #[.pointer (Y ⟨R,0,I⟩),qj M] w (RdA w A R l (lU M l) (isC w)):=by
 have cq:=h.lt;obtain⟨aj,b4⟩:∃aj,aj=w.alloc (wx #[qj ⟨#[]⟩,U O 0,C I 0 0,qz AK,U O 0,U O 0,sq ux 0,qj ⟨#[]⟩,C I 0 0] 104):=⟨_,rfl⟩;have bv:AD (Below w.1.size w aj):=by rw[b4];exact gQy
 have b8:AD (aj.1[w.1.size]?=Y (wx #[qj ⟨#[]⟩,U O 0,C I 0 0,qz AK,U O 0,U O 0,sq ux 0,qj ⟨#[]⟩,C I 0 0] 104 (0,0))):=by rw[b4];exact an w _
 have cc:=gQq b4;have bj:=gQq (vN 4 1 l A R aj rfl (h.on bv.out));obtain⟨r,ct⟩:∃r,r=lU M l:=⟨_,rfl⟩;have bn:AD (r=ar (Sch.rdT 4 l) fun t L=>ar (Sch.bit (l.drop L)) fun h Q=>if h=0 then .ok (⟨M,t,AK,V0⟩,L+Q) else ar (Sch.rdV t (l.drop (L+Q))) fun v aw=>.ok (⟨M,t,true,v⟩,L+Q+aw)):=ct;rw[<-ct];obtain⟨ev,cs⟩:∃m,m=Sch.rdT 4 l:=⟨_,rfl⟩;rw[<-cs] at bn bj;have c6:=gQq cs;clear ct cs h b4;cases ev with
 |error er=>
  have a0:AD (r=AQ er):=bn.out;clear bn;go_enter func127,ntmps127;go_wp2_with fail;rw[<-cc.out];refine bj.out.mono ?_;intro e w1 V;obtain⟨ai,K⟩:=V.bad;subst ai;clear V;have bi:=gQq ((af bv.out _).trans K (fun _ _ h=>h));clear K bj;go_wp2;rw[a0.out];exact⟨rfl,rfl,bi.out⟩
 |ok tj=>
  obtain⟨t,L⟩:=tj;have bp:AD (r=ar (Sch.bit (l.drop L)) fun h Q=>if h=0 then .ok (⟨M,t,AK,V0⟩,L+Q) else ar (Sch.rdV t (l.drop (L+Q))) fun v aw=>.ok (⟨M,t,true,v⟩,L+Q+aw)):=bn.out;have dv:AD (Ty.check 1 t=0):=(Sch.rdT_ok 4 _ _ _ (by omega) c6.out.symm).2.2.1;clear bn c6;go_enter func127,ntmps127;go_wp2_with fail;rw[<-cc.out];refine bj.out.mono ?_;intro e w1 V;obtain⟨v,ai,ak,a1,K⟩:=V.good;obtain⟨u,cu,a4⟩:=ak.open;clear V ak;obtain⟨k,ab,Z,X,en⟩:=a4.shape;subst en;subst cu;subst ai;unfold au;have b2:=ap b8.out;have ds:w.1.size<w1.1.size:=AS b2 K.size;have fy:w.1.size+1<=aj.1.size:=b2;have cv:=gQq ((af bv.out (fun i=>i=R)).trans K (fun _ _ h=>h));have c7:AD (w1.1[w.1.size]?=Y (wx #[qj ⟨#[]⟩,U O 0,C I 0 0,qz AK,U O 0,U O 0,sq ux 0,qj ⟨#[]⟩,C I 0 0] 104 (0,0))):=by
   show _=_;rw[K.block _ b2 (by omega)];exact b8.out
  obtain⟨W,b3⟩:∃W,W=w1.alloc (wx #[qj M,U O k,C ab Z X,qz AK,U O 0,U O 0,sq ux 0,qj ⟨#[]⟩,C I 0 0] 104):=⟨_,rfl⟩;have bO:AD (Below w1.1.size w1 W):=by rw[b3];exact gQy
  have bk:AD (fO w W A R w1.1.size #[qj M,U O k,C ab Z X,qz AK,U O 0,U O 0,sq ux 0,qj ⟨#[]⟩,C I 0 0] (l.drop L)):=by
   refine⟨bQ c7.out bO.out ds,by rw[b3];exact an w1 _,a1.on bO.out,cv.out.trans (af bO.out (fun _=>False)) (fun _ _ h=>h.elim),cq,ds⟩
  -- the type,wherever the reader and the column alone have e9
  have b9:AD (∀W' (F:Nat->Prop),(∀j,F j->j=R∨w1.1.size<=j)->Aside F W W'->bD W' (fun j=>aj.1.size<=j∧j<w1.1.size) (au k ab Z X) t):=fun W' F ec eg=>
   (a4.under bO.out (fun j S=>S.2)).aside eg (fun j S el=>by
    rcases ec j el with b1 | b1
    ·omega
    ·omega)
  have bX:=gQq (uA (l.drop L) A R W bk.out.rd);have df:=gQq b3;obtain⟨eq,cr⟩:∃m,m=Sch.bit (l.drop L):=⟨_,rfl⟩;rw[<-cr] at bp bX;have c5:=gQq cr;clear K a1 a4 bj b8 c7 cv cc bv b3 cr b2;go_wp2_with fail;rw[<-df.out];clear df;refine bX.out.mono ?_;intro e J V;cases eq with
  |error er=>
   have a0:AD (r=AQ er):=bp.out;obtain⟨ai,K⟩:=V.bad;subst ai;clear V bp;have bi:=gQq (bk.out.aside.trans K (fun _ _ h=>h));clear K bX;go_wp2;rw[a0.out];exact⟨rfl,rfl,bi.out⟩
  |ok S=>
   obtain⟨bq,Q⟩:=S;have fx:bq<=1:=(Sch.bit_ok c5.out.symm).1;have a0:AD (r=if bq=0 then .ok (⟨M,t,AK,V0⟩,L+Q) else ar (Sch.rdV t (l.drop (L+Q))) fun v aw=>.ok (⟨M,t,true,v⟩,L+Q+aw)):=bp.out;obtain⟨v,ai,ak,a1,K⟩:=V.good;clear V bp c5
   replace ak:v=U O (bq:Nat):=ak
   subst ak;subst ai;have b7:=gQq K;have y:=gQq (bk.out.step K a1);have f4:w1.1.size<W.1.size:=bk.out.lt;clear K a1 bX bk;have dj:J.cell? ⟨w1.1.size,3,I⟩=Y (qz AK):=aa y.out.bT 3;have ea:=ac y.out.bT 3;have em:bq=0∨bq=1:=(by omega);rcases em with eb | b1
   ·subst eb;have a2:AD (r=.ok (⟨M,t,AK,V0⟩,L+Q)):=a0.out.trans (AG rfl);clear a0;have ah:=gQq (y.out.set 3 (qz AK));have du:AD (dx (J.setCell ⟨w1.1.size,3,I⟩ (qz AK)) (fun j=>aj.1.size<=j∧j<w1.1.size) (aB M k ab Z X AK 0 0 0 ⟨#[]⟩ I 0 0) ⟨M,t,AK,V0⟩):=by
     refine⟨fun j=>aj.1.size<=j∧j<w1.1.size,fun _=>False,k,ab,Z,X,0,0,0,⟨#[]⟩,I,0,0,rfl,?_,aY.none,fun _ h=>h,fun _ h=>h.elim,fun _ _ h=>h⟩;exact b9.out _ (fun j=>j=R∨j=w1.1.size) (fun j S=>S.elim .inl (fun h=>.inr (by omega))) ((b7.out.mono (fun _ _ h=>.inl h)).trans (am J w1.1.size 3 (qz AK)) (fun _ _ h=>.inr h))
    have b0:=gQq (fun P cp=>zQ (P:=P) cq ah.out.bN (by have:=ah.out.lt;have:=ah.out.mid;omega) du.out (fun j S=>⟨by omega,by have:=ah.out.lt;omega⟩) ah.out.rd ah.out.aside cp);have d4:J.cell? ⟨w1.1.size,0,I⟩=Y (qj M):=aa y.out.bT 0;have ci:J.cell? ⟨w1.1.size,1,I⟩=Y (U O k):=aa y.out.bT 1;have cj:J.cell? ⟨w1.1.size,2,I⟩=Y (C ab Z X):=aa y.out.bT 2;have d5:J.cell? ⟨w1.1.size,4,I⟩=Y (U O 0):=aa y.out.bT 4;have d6:J.cell? ⟨w1.1.size,5,I⟩=Y (U O 0):=aa y.out.bT 5;have d7:J.cell? ⟨w1.1.size,6,I⟩=Y (sq ux 0):=aa y.out.bT 6;have d8:J.cell? ⟨w1.1.size,7,I⟩=Y (qj ⟨#[]⟩):=aa y.out.bT 7;have d9:J.cell? ⟨w1.1.size,8,I⟩=Y (C I 0 0):=aa y.out.bT 8;have ew:J.cell? ⟨w.1.size,0,I⟩=Y (qj ⟨#[]⟩):=aa y.out.bN 0;have e0:=ac y.out.bN 0;have ez:J.cell? ⟨w.1.size,1,I⟩=Y (U O 0):=aa y.out.bN 1;have e1:=ac y.out.bN 1;have eC:J.cell? ⟨w.1.size,2,I⟩=Y (C I 0 0):=aa y.out.bN 2;have e2:=ac y.out.bN 2;have eL:J.cell? ⟨w.1.size,3,I⟩=Y (qz AK):=aa y.out.bN 3;have e3:=ac y.out.bN 3;have n4:J.cell? ⟨w.1.size,4,I⟩=Y (U O 0):=aa y.out.bN 4;have e4:=ac y.out.bN 4;have n5:J.cell? ⟨w.1.size,5,I⟩=Y (U O 0):=aa y.out.bN 5;have e5:=ac y.out.bN 5;have n6:J.cell? ⟨w.1.size,6,I⟩=Y (sq ux 0):=aa y.out.bN 6;have e6:=ac y.out.bN 6;have n7:J.cell? ⟨w.1.size,7,I⟩=Y (qj ⟨#[]⟩):=aa y.out.bN 7;have e7:=ac y.out.bN 7
    have n8:J.cell? ⟨w.1.size,8,I⟩=Y (C I 0 0):=aa y.out.bN 8;have e8:=ac y.out.bN 8;go_wp2;obtain⟨f1,ck,cn,co⟩:=b0.out _ rfl;refine bodyPost_ret (v:=.agg (aB M k ab Z X AK 0 0 0 ⟨#[]⟩ I 0 0)) (results_cell_row rfl _ _ w.1.size _ _ _ _ rfl f1 underlying104 rfl (by kernel_rfl)) rfl ?_;rw[a2.out];refine⟨_,rfl,ck,?_,co⟩;rw[<-Ax];exact cn
   ·subst b1;obtain⟨a3,b5⟩:∃a3,a3=J.setCell ⟨w1.1.size,3,I⟩ (qz true):=⟨_,rfl⟩;have ah:AD (fO w a3 A R w1.1.size #[qj M,U O k,C ab Z X,qz true,U O 0,U O 0,sq ux 0,qj ⟨#[]⟩,C I 0 0] (l.drop (L+Q))):=by
     rw[b5,<-Ax];exact y.out.set 3 (qz true)
    have cw:AD (Aside (fun j=>j=R∨j=w1.1.size) W a3):=by
     rw[b5];exact(b7.out.mono (fun _ _ h=>.inl h)).trans (am J w1.1.size 3 (qz true)) (fun _ _ h=>.inr h)
    have cy:AD (eN a3 R (au k ab Z X) t):=by
     refine⟨fun j=>aj.1.size<=j∧j<w1.1.size,b9.out _ _ (fun j S=>S.elim .inl (fun h=>.inr (by omega))) cw.out,fun j S=>⟨by omega,?_⟩⟩;have:=ah.out.lt;omega
    have a5:=gQq (xO t 1 dv.out (l.drop (L+Q)) A R a3 _ cy.out ah.out.rd);have a2:AD (r=ar (Sch.rdV t (l.drop (L+Q))) fun v aw=>.ok (⟨M,t,true,v⟩,L+Q+aw)):=a0.out.trans (AF (by decide));obtain⟨mv,dr⟩:∃m,m=Sch.rdV t (l.drop (L+Q)):=⟨_,rfl⟩;rw[<-dr] at a2 a5;have cd:=gQq b5;unfold au at a5;have ci:J.cell? ⟨w1.1.size,1,I⟩=Y (U O k):=aa y.out.bT 1;have cj:J.cell? ⟨w1.1.size,2,I⟩=Y (C ab Z X):=aa y.out.bT 2;clear a0 dr b5 b7 cy;cases mv with
    |error er=>
     have cb:AD (r=AQ er):=a2.out;clear a2;go_wp2_with fail;rw[<-cd.out];refine a5.out.mono ?_;intro e w4 V;obtain⟨ai,K⟩:=V.bad;subst ai;clear V;have bi:=gQq (ah.out.aside.trans K (fun _ _ h=>h));clear K a5;go_wp2;rw[cb.out];exact⟨rfl,rfl,bi.out⟩
    |ok vj=>
     obtain⟨x,aw⟩:=vj;have cb:AD (r=.ok (⟨M,t,true,x⟩,L+Q+aw)):=a2.out;clear a2;go_wp2_with fail;rw[<-cd.out];refine a5.out.mono ?_;intro e w4 V;obtain⟨v,ai,ak,a1,K⟩:=V.good;obtain⟨f5,cu,a4⟩:=ak.open;clear V ak;obtain⟨a9,a8,a6,be,bc,bb,a7,ep⟩:=a4.shape;subst ep;subst cu;subst ai;unfold cells5;have E:=gQq (ah.out.step K a1);have cx:AD (Aside (fun j=>j=R∨j=w1.1.size) W w4):=cw.out.trans K (fun _ _ h=>.inl h);have c9:=gQq a4;have f0:=ah.out.lt;have f2:=K.size;clear K a1 a4 a5 cd ci cj dj ea y;have bl:=gQq (((((E.out.set 4 (U O a9)).set 5 (U O a8)).set 6 (sq ux a6)).set 7 (qj be)).set 8 (C bc bb a7));obtain⟨w5,b6⟩:∃w5,w5=((((w4.setCell ⟨w1.1.size,4,I⟩ (U O a9)).setCell ⟨w1.1.size,5,I⟩ (U O a8)).setCell ⟨w1.1.size,6,I⟩ (sq ux a6)).setCell ⟨w1.1.size,7,I⟩ (qj be)).setCell ⟨w1.1.size,8,I⟩ (C bc bb a7):=⟨_,rfl⟩;have bs:AD (Aside (fun j=>j=w1.1.size) w4 w5):=by
      rw[b6];have d0:Aside (fun j=>j=w1.1.size) w4 (w4.setCell ⟨w1.1.size,4,I⟩ (U O a9)):=am _ _ _ _;have d1:=d0.trans (am _ w1.1.size 5 (U O a8)) (fun _ _ h=>h);have d2:=d1.trans (am _ w1.1.size 6 (sq ux a6)) (fun _ _ h=>h);have d3:=d2.trans (am _ w1.1.size 7 (qj be)) (fun _ _ h=>h);exact d3.trans (am _ w1.1.size 8 (C bc bb a7)) (fun _ _ h=>h)
     rw[<-b6] at bl;have f3:=bs.out.size;have c8:AD (dx w5 (fun j=>w.1.size+1<=j∧j<w5.1.size) (aB M k ab Z X true a9 a8 a6 be bc bb a7) ⟨M,t,true,x⟩):=by
      refine⟨fun j=>aj.1.size<=j∧j<w1.1.size,fun j=>a3.1.size<=j∧j<w4.1.size,k,ab,Z,X,a9,a8,a6,be,bc,bb,a7,rfl,?_,?_,fun j S=>by omega,fun j S=>by omega,fun j b1 fv=>by omega⟩
      ·exact b9.out _ _ (fun j S=>S.elim .inl (fun h=>.inr (by omega))) (cx.out.trans bs.out (fun _ _ h=>.inr h))
      ·exact c9.out.aside bs.out (fun j S ai=>by omega)
     have b0:=gQq (fun P cp=>zQ (P:=P) cq bl.out.bN (by omega) c8.out (fun j S=>S) bl.out.rd bl.out.aside cp);rw[b6] at b0;clear b6 bl c8 bs cx c9;obtain⟨d4,ci,cj,dj,d5,-⟩:=cQ9 E.out.bT;have fc:=ac E.out.bT 4;have d6:w4.cell? ⟨w1.1.size,5,I⟩=Y (U O 0):=aa E.out.bT 5;have fi:=ac E.out.bT 5;have d7:w4.cell? ⟨w1.1.size,6,I⟩=Y (sq ux 0):=aa E.out.bT 6;have fo:=ac E.out.bT 6;have d8:w4.cell? ⟨w1.1.size,7,I⟩=Y (qj ⟨#[]⟩):=aa E.out.bT 7;have fq:=ac E.out.bT 7;have d9:w4.cell? ⟨w1.1.size,8,I⟩=Y (C I 0 0):=aa E.out.bT 8;have fs:=ac E.out.bT 8;have ew:w4.cell? ⟨w.1.size,0,I⟩=Y (qj ⟨#[]⟩):=aa E.out.bN 0;have e0:=ac E.out.bN 0;have ez:w4.cell? ⟨w.1.size,1,I⟩=Y (U O 0):=aa E.out.bN 1;have e1:=ac E.out.bN 1;have eC:w4.cell? ⟨w.1.size,2,I⟩=Y (C I 0 0):=aa E.out.bN 2;have e2:=ac E.out.bN 2;have eL:w4.cell? ⟨w.1.size,3,I⟩=Y (qz AK):=aa E.out.bN 3;have e3:=ac E.out.bN 3;have n4:w4.cell? ⟨w.1.size,4,I⟩=Y (U O 0):=aa E.out.bN 4;have e4:=ac E.out.bN 4;have n5:w4.cell? ⟨w.1.size,5,I⟩=Y (U O 0):=aa E.out.bN 5;have e5:=ac E.out.bN 5;have n6:w4.cell? ⟨w.1.size,6,I⟩=Y (sq ux 0):=aa E.out.bN 6;have e6:=ac E.out.bN 6;have n7:w4.cell? ⟨w.1.size,7,I⟩=Y (qj ⟨#[]⟩):=aa E.out.bN 7;have e7:=ac E.out.bN 7;have n8:w4.cell? ⟨w.1.size,8,I⟩=Y (C I 0 0):=aa E.out.bN 8;have e8:=ac E.out.bN 8;clear E;go_wp2;obtain⟨f1,ck,cn,co⟩:=b0.out _ rfl
     refine bodyPost_ret (v:=.agg (aB M k ab Z X true a9 a8 a6 be bc bb a7)) (results_cell_row rfl _ _ w.1.size _ _ _ _ rfl f1 underlying104 rfl (by kernel_rfl)) rfl ?_;rw[cb.out];refine⟨_,rfl,ck,?_,co⟩;rw[<-Ax];exact cn
end
end Go.Proofs.YtngmnfdaedlodaaGreatDoor

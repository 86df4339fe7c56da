import Derived.Test.YtbahfgdbjgkklaaGreatDoorB17
set_option maxRecDepth 100000
set_option maxHeartbeats 2000000
namespace Go.Proofs.YtbahfgdbjgkklaaGreatDoor
variable{A R T:Nat}{W W' w:World}{l:L8}{u0 u1 u2:Value}{k:Int}{D:AV}{a:Act}{ops:Array Oper}{o:Oper}{fn:Func}{f:FuncId}{code:Code}{c:Col}
section
open Go.RowKit
attribute [local go_sem] af
theorem bV{y:Act->World->Prop}{Q:Exit->Act->World->Prop}{E:Prop}{R:Ending->World->Prop}(x:Operand)(ab:TypeId)(hg:o.guard=none)(V:o.op=Op.call { callee:=.value (.func f),args:=#[x],argTypes:=#[ab] })(Z:a.eval x=u0)(O : Tryz.prog.funcs[f]?=some fn)(U : (fn.name== "runtime.NumGoroutine")=false)(hb : fn.body=some code)(K:Calls Tryz.prog f #[u0] w R)(J:∀e w',R e w'->∃ch,e=.panicked ch∧Q (.panic ch) a w')(v':Value)(_:Hid False->y (a.put o.dst v') w):
  if Region.wanted o (yielded ops a.tmps)=true then Oper.wp Tryz.prog o a w y Q else E:=by
 have Y:Region.wanted o (yielded ops a.tmps)=true:=by simp[Region.wanted,hg]
 rw[if_pos Y];have I : fn.name≠ "runtime.NumGoroutine" := by simpa using U
 unfold Oper.wp;have L:(execOp a.eval o).run Tryz.prog w=.ok (.enter f #[u0]) w:=by
  have M:a.eval (.func f)=.func (.func f) #[] #[]:=rfl;simp[execOp,V,resolve,invoke,Z,M,Deferred.ofValue,callFunc,O,I,hb]
 rw[L,Oper.upon_enter];refine K.mono ?_;intro e w' X;obtain⟨z,rfl,S⟩:=J e w' X;exact S
theorem aP{z:Act->World->Prop}{I:Exit->Act->World->Prop}{E:Prop}{R:Ending->World->Prop}(x:Operand)(ah:TypeId)(S:o.guard=none)(X:o.op=Op.call { callee:=.value (.func f),args:=#[x],argTypes:=#[ah] })(ab:a.eval x=u0)(Q : Tryz.prog.funcs[f]?=some fn)(V : (fn.name== "runtime.NumGoroutine")=false)(hb : fn.body=some code)(L:Calls Tryz.prog f #[u0] w R)(K:∀e w',R e w'->∃y,e=.returned y∧z (a.put o.dst y) w'):
  if Region.wanted o (yielded ops a.tmps)=true then Oper.wp Tryz.prog o a w z I else E:=by
 have Z:Region.wanted o (yielded ops a.tmps)=true:=by simp[Region.wanted,S]
 rw[if_pos Z];have J : fn.name≠ "runtime.NumGoroutine" := by simpa using V
 unfold Oper.wp;have M:(execOp a.eval o).run Tryz.prog w=.ok (.enter f #[u0]) w:=by
  have O:a.eval (.func f)=.func (.func f) #[] #[]:=rfl;simp[execOp,X,resolve,invoke,ab,O,Deferred.ofValue,callFunc,Q,J,hb]
 rw[M,Oper.upon_enter];refine L.mono ?_;intro e w' Y;obtain⟨y,rfl,U⟩:=K e w' Y;exact U
theorem cL{z:Act->World->Prop}{E:Exit->Act->World->Prop}{J:Prop}{R:Ending->World->Prop}(x I y:Operand)(a0 a1 a2:TypeId)(U:o.guard=none)(Y:o.op=Op.call { callee:=.value (.func f),args:=#[x,I,y],argTypes:=#[a0,a1,a2] })(ah:a.eval x=u0)(aj:a.eval I=u1)(ak:a.eval y=u2)(S : Tryz.prog.funcs[f]?=some fn)(X : (fn.name== "runtime.NumGoroutine")=false)(hb : fn.body=some code)(M:Calls Tryz.prog f #[u0,u1,u2] w R)(L:∀e w',R e w'->∃ch,e=.panicked ch∧E (.panic ch) a w')(v':Value)(_:Hid False->z (a.put o.dst v') w):
  if Region.wanted o (yielded ops a.tmps)=true then Oper.wp Tryz.prog o a w z E else J:=by
 have ab:Region.wanted o (yielded ops a.tmps)=true:=by simp[Region.wanted,U]
 rw[if_pos ab];have K : fn.name≠ "runtime.NumGoroutine" := by simpa using X
 unfold Oper.wp;have O:(execOp a.eval o).run Tryz.prog w=.ok (.enter f #[u0,u1,u2]) w:=by
  have Q:a.eval (.func f)=.func (.func f) #[] #[]:=rfl;simp[execOp,Y,resolve,invoke,ah,aj,ak,Q,Deferred.ofValue,callFunc,S,K,hb]
 rw[O,Oper.upon_enter];refine M.mono ?_;intro e w' Z;obtain⟨y,rfl,V⟩:=L e w' Z;exact V
theorem bU{z:Act->World->Prop}{J:Exit->Act->World->Prop}{I:Prop}{R:Ending->World->Prop}(x E y:Operand)(a0 a1 a2:TypeId)(U:o.guard=none)(Y:o.op=Op.call { callee:=.value (.func f),args:=#[x,E,y],argTypes:=#[a0,a1,a2] })(ah:a.eval x=u0)(aj:a.eval E=u1)(ak:a.eval y=u2)(S : Tryz.prog.funcs[f]?=some fn)(X : (fn.name== "runtime.NumGoroutine")=false)(hb : fn.body=some code)(M:Calls Tryz.prog f #[u0,u1,u2] w R)(L:∀e w',R e w'->∃y,e=.returned y∧z (a.put o.dst y) w'):
  if Region.wanted o (yielded ops a.tmps)=true then Oper.wp Tryz.prog o a w z J else I:=by
 have ab:Region.wanted o (yielded ops a.tmps)=true:=by simp[Region.wanted,U]
 rw[if_pos ab];have K : fn.name≠ "runtime.NumGoroutine" := by simpa using X
 unfold Oper.wp;have O:(execOp a.eval o).run Tryz.prog w=.ok (.enter f #[u0,u1,u2]) w:=by
  have Q:a.eval (.func f)=.func (.func f) #[] #[]:=rfl;simp[execOp,Y,resolve,invoke,ah,aj,ak,Q,Deferred.ofValue,callFunc,S,K,hb]
 rw[O,Oper.upon_enter];refine M.mono ?_;intro e w' Z;obtain⟨y,rfl,V⟩:=L e w' Z;exact V
structure vQ(w W:World)(A R:Nat)(D:AV)(l:L8):Prop where
 b1:W.1[w.1.size+1]?=some (.cells #[.int .i64 0,.int .i64 0,.float .f64 0,.string ⟨#[]⟩,.slice none 0 0] 38 (0,0))
 b2:W.1[w.1.size+1+1]?=some (.cells D 38 (0,0))
 rd:Rdr W A R l
 aside:Aside (fun i=>i=R) w W
 size:w.1.size+3<=W.1.size
theorem dY.set{E:AV}(h:dY w W A R k E l)(K:R<w.1.size)(m:Nat)(u:Value):vQ w (W.setCell ⟨w.1.size+1+1,m,none⟩ u) A R ((#[.int .i64 k,.int .i64 0,.float .f64 0,.string ⟨#[]⟩,.slice none 0 0]:AV).set! m u) l:=by
 have y:Aside (fun i=>i=w.1.size+1+1) W (W.setCell ⟨w.1.size+1+1,m,none⟩ u):=ag _ _ _ _;have J:=h.size;refine⟨?_,ai h.b2 m u,h.rd.aside y (fun j z=>by rw[z];omega),h.aside.trans y (fun j z I=>by rw[I] at z;omega),Nat.le_trans J y.size⟩;rw[y.block _ (by omega) (by omega)];exact h.b1
theorem vQ.on(h:vQ w W A R D l)(hb:Below W.1.size W W'):vQ w W' A R D l:=by
 have y:=h.size;exact⟨aR h.b1 hb (by omega),aR h.b2 hb (by omega),h.rd.on hb,h.aside.trans (al hb (fun _=>False)) (fun _ _ h=>h.elim),Nat.le_trans y hb.size⟩
theorem wh(l:L8)(A R:Nat)(w:World)(p:OA)(n c:Nat)(h:Rdr w A R l):Calls Tryz.prog 222 #[.pointer (some ⟨R,0,none⟩),.agg #[.int .i64 4,.slice p n c]] w (RdA w A R l (Sch.scalar 4 l) (isV w)):=by
 have Y:=h.lt;obtain⟨W,Z⟩:∃W,W=((w.alloc (.cells #[.int .i64 4,.slice p n c] 34)).alloc (.cells #[.int .i64 0,.int .i64 0,.float .f64 0,.string ⟨#[]⟩,.slice none 0 0] 38)).alloc (.cells #[.int .i64 4,.int .i64 0,.float .f64 0,.string ⟨#[]⟩,.slice none 0 0] 38):=⟨_,rfl⟩;have O:Hid (dY w W A R 4 #[.int .i64 4,.slice p n c] l):=by rw[Z];exact bS 4 _ h
 have X:=gQq Z;obtain⟨r,ak⟩:∃r,r=Sch.scalar 4 l:=⟨_,rfl⟩;have I:=gQq (ak.trans (nz l));rw[<-ak];have E:=gQq (xD l A R W O.out.rd);obtain⟨m,aj⟩:∃m,m=Sch.text 1024 2 l:=⟨_,rfl⟩;rw[<-aj] at I E;have a3:=gQq aj;clear ak aj h Z;cases m with
 |error er=>
  have z:Hid (r=.error er):=I.out;clear I;go_enter Tryz.func222,Tryz.ntmps222;go_wp2_with fail;rw[<-X.out];refine E.out.mono ?_;intro e w1 K;obtain⟨ah,J⟩:=K.bad;subst ah;clear K;have a9:=gQq (O.out.aside.trans J (fun _ _ h=>h));clear J E;go_wp2;rw[z.out];exact⟨rfl,rfl,a9.out⟩
 |ok xj=>
  obtain⟨x,j⟩:=xj;have z:Hid (r=if dM x=false then .error 61 else .ok (.mk 4 0 0 x [],j)):=I.out;have bn:x.size<=1024:=(Sch.text_ok a3.out.symm).1;clear I a3;go_enter Tryz.func222,Tryz.ntmps222;go_wp2_with fail;rw[<-X.out];refine E.out.mono ?_;intro e w1 K;obtain⟨v,ah,a0,a6,J⟩:=K.good;clear K
  replace a0:v=.string x:=a0
  subst a0;subst ah;have Q:=gQq (O.out.step J a6 Y);clear J a6 E X O;have a8:w1.cell? ⟨w.1.size+1+1,3,none⟩=some (.string ⟨#[]⟩):=aa Q.out.b2 3;have bj:=ac Q.out.b2 3;obtain⟨S,ab⟩:∃S,S=w1.setCell ⟨w.1.size+1+1,3,none⟩ (.string x):=⟨_,rfl⟩;have a2:Hid (vQ w S A R #[.int .i64 4,.int .i64 0,.float .f64 0,.string x,.slice none 0 0] (l.drop j)):=by rw[ab];exact Q.out.set Y 3 (.string x)
  have V:=gQq (yd x (by omega) S);have a4:=gQq ab;obtain⟨bk,a7⟩:∃b,b=dM x:=⟨_,rfl⟩;rw[<-a7] at V z;clear ab a7;go_wp2_with fail;rw[<-a4.out];refine V.out.mono ?_;rintro e M ⟨rfl,a5⟩;have y:=gQq (a2.out.on a5);clear a5 V a2 a4 a8 bj Q;cases bk with
  |false=>
   have U:Hid (r=.error 61):=z.out.trans (if_pos (by first | rfl | trivial));clear z;go_wp2_with fail;refine(dw _ 61 _).mono ?_;rintro e a1 ⟨rfl,L⟩;rw[L];clear L a1;go_wp2;rw[U.out];exact⟨rfl,rfl,y.out.aside⟩
  |true=>
   have U:Hid (r=.ok (.mk 4 0 0 x [],j)):=z.out.trans (if_neg (by first | decide | simp));clear z;go_wp2_with fail;refine(du _ 61 _).mono ?_;rintro e a1 ⟨rfl,L⟩;rw[L];clear L a1;obtain⟨bp,bq,br,a8,bs⟩:=cQ5 y.out.b2;have bN:M.cell? ⟨w.1.size+1,0,none⟩=some (.int .i64 0):=aa y.out.b1 0;have b3:=ac y.out.b1 0;have bO:M.cell? ⟨w.1.size+1,1,none⟩=some (.int .i64 0):=aa y.out.b1 1;have b4:=ac y.out.b1 1;have bT:M.cell? ⟨w.1.size+1,2,none⟩=some (.float .f64 0):=aa y.out.b1 2;have b5:=ac y.out.b1 2;have bX:M.cell? ⟨w.1.size+1,3,none⟩=some (.string ⟨#[]⟩):=aa y.out.b1 3;have b6:=ac y.out.b1 3;have b0:M.cell? ⟨w.1.size+1,4,none⟩=some (.slice none 0 0):=aa y.out.b1 4;have b7:=ac y.out.b1 4;have bb:=gQq (xi (k:=4) (i:=0) (b:=0) (t:=x) (q:=none) (n:=0) (c:=0) (x:=.mk 4 0 0 x []) (F:=fun _=>False) (N:=w.1.size+1) Y (by omega) y.out.b1 .none (fun _ h=>h.elim) y.out.rd y.out.aside);go_wp2;obtain⟨f1,bc,be,bi⟩:=bb.out;refine bodyPost_ret (v:=.agg (cells5 4 0 0 x none 0 0)) (results_cell_row rfl _ _ (w.1.size+1) _ _ _ _ rfl f1 Tryz.underlying38 rfl (by kernel_rfl)) rfl ?_;rw[U.out];exact⟨_,rfl,bc,be,bi⟩
end
section
open Go.RowKit
attribute [local go_sem] af
theorem uJ(l:L8):Sch.many 6 l=Sch.bit l:=rfl
theorem uI(l:L8):Sch.many 7 l=aS 256 3 l:=by
 unfold Sch.many aS;rw[if_neg (by decide)];rfl
theorem mu(k:Int)(h:k=6∨k=7)(x:Ty)(l:L8):Sch.rdV (.mk k [x]) l=ar (Sch.many k l) fun m j=>ar (Sch.rdN (Sch.rdV x) m (l.drop j)) fun z y=>.ok (.mk k 0 0 ⟨#[]⟩ z,j+y):=by
 rw[Sch.rdV_mk,if_neg (by omega)];cases Sch.many k l with
 |error e=>rfl
 |ok p=>
  obtain⟨m,j⟩:=p;rw[aK];have e:(([x]:List Ty).map Sch.rdV).headD (fun _=>.error 0)=Sch.rdV x:=rfl;dsimp only;rw[e];cases Sch.rdN (Sch.rdV x) m (l.drop j) with
  |error e=>rfl
  |ok q=>rfl
theorem count_le{y z:Nat}{n k:Nat}(h:aS y z l=.ok (n,k)):n<=y:=by
 unfold aS at h;split at h
 ·cases h
 ·split at h
  ·cases h
  ·injection h with h;injection h with h1 _;omega
theorem we(x:Ty)(br:oN x)(l:L8)(A R:Nat)(w:World)(u:AV)(bi:fA w R u (.mk 6 [x]))(h:Rdr w A R l):Calls Tryz.prog 222 #[.pointer (some ⟨R,0,none⟩),.agg u] w (RdA w A R l (Sch.rdV (.mk 6 [x]) l) (isV w)):=by
  have X:=h.lt;obtain⟨g,off,c,k',cf,n',b6,rfl,bj,co,bn,bT,bX⟩:=bi.one;unfold an;obtain⟨W,a5⟩:∃W,W=((w.alloc (.cells #[.int .i64 6,.slice (some ⟨g,off,none⟩) 1 c] 34)).alloc (.cells #[.int .i64 0,.int .i64 0,.float .f64 0,.string ⟨#[]⟩,.slice none 0 0] 38)).alloc (.cells #[.int .i64 6,.int .i64 0,.float .f64 0,.string ⟨#[]⟩,.slice none 0 0] 38):=⟨_,rfl⟩;have J:Hid (dY w W A R 6 #[.int .i64 6,.slice (some ⟨g,off,none⟩) 1 c] l):=by rw[a5];exact bS 6 _ h
  have a4:=gQq a5;obtain⟨r,a7⟩:∃r,r=Sch.rdV (.mk 6 [x]) l:=⟨_,rfl⟩;have bc:=gQq (a7.trans (mu 6 (by omega) x l));rw[<-a7];have S:Hid (r=ar (Sch.bit l) fun m j=>ar (Sch.rdN (Sch.rdV x) m (l.drop j)) fun L Y=>.ok (.mk 6 0 0 ⟨#[]⟩ L,j+Y)):=by show _=_;rw[bc.out,uJ]
  have ah:Hid (Calls Tryz.prog 221 #[.pointer (some ⟨R,0,none⟩)] W.drew (RdA W A R l (Sch.bit l) isI)):=(va l A R W.drew J.out.rd.drew).mono fun _ _ h=>h.undrew;have a9:=gQq bj;have be:=gQq br
  -- the cells that are read,wherever only the reader has changed
  have a0:Hid (∀W',Aside (fun i=>i=R) W W'->W'.cell? ⟨w.1.size,1,none⟩=some (.slice (some ⟨g,off,none⟩) 1 c)∧W'.cell? ⟨g,off,none⟩=some (.int .i64 k')∧W'.cell? ⟨g,off+1,none⟩=some (.slice cf n' b6)):=fun W' y=>by
    have cp:=J.out.size;have bk:g<W.1.size:=(by omega);refine⟨?_,?_,?_⟩
    · rw[y.cell (show w.1.size<W.1.size by omega) (show ¬w.1.size=R by omega)];exact aa J.out.b0 1
    · rw[y.cell (show g<W.1.size from bk) (show ¬g=R by omega),J.out.aside.cell bn (show ¬g=R by omega)];exact bT
    · rw[y.cell (show g<W.1.size from bk) (show ¬g=R by omega),J.out.aside.cell bn (show ¬g=R by omega)];exact bX
  obtain⟨cj,ck,cn⟩:=a0.out W (Aside.refl _ _);have cg:W.cell? ⟨w.1.size+1+1,4,none⟩=some (.slice none 0 0):=aa J.out.b2 4;have ci:=ac J.out.b2 4;obtain⟨ce,a6⟩:∃m,m=Sch.bit l:=⟨_,rfl⟩;rw[<-a6] at S ah;have bb:=gQq a6;clear a7 a6 h a5 bj br bT bX bi bc;cases ce with
  |error er=>
    have a2:Hid (∀z,Aside (fun i=>i=R) W z->RdA w A R l r (isV w) (.panicked (dK er)) z):=fun z y=>by
      have e:r=.error er:=S.out;rw[e];exact⟨rfl,J.out.aside.trans y (fun _ _ h=>h)⟩
    clear S;go_enter Tryz.func222,Tryz.ntmps222;go_wp2_with fail;rw[<-a4.out]
    go_region_law (first|(refine bV (.tmp 45) 254 (by rfl) (by rfl) (by rfl) Tryz.func221 (by kernel_rfl) (by rfl) ah.out (fun e z I=>⟨_,I.bad.1,rfl,a2.out z I.bad.2⟩) (.int .i64 0) ?_;intro ak)|(refine bl ak (.slice none 0 0) ?_))
    all_goals exact ak.out.elim
  |ok mj=>
    obtain⟨m,j⟩:=mj;have cc:m<=256:=(by have:=(Sch.bit_ok bb.out.symm).1;omega);have U:Hid (r=ar (Sch.rdN (Sch.rdV x) m (l.drop j)) fun L Y=>.ok (.mk 6 0 0 ⟨#[]⟩ L,j+Y)):=S.out;have aj:=gQq (fun w1 (y:Aside (fun i=>i=R) W w1) (K:Rdr w1 A R (l.drop j))=>uP x be.out m cc (l.drop j) A R w1 _ ((a9.out.aside J.out.aside).aside y) K);unfold an at aj;obtain⟨a8,bp⟩:∃a8,a8=Sch.rdN (Sch.rdV x) m (l.drop j):=⟨_,rfl⟩;rw[<-bp] at U aj;clear S bp bb be a9;cases a8 with
    |error er=>
      have a2:Hid (∀w1 z,Aside (fun i=>i=R) W w1->Aside (fun i=>i=R) w1 z->RdA w A R l r (isV w) (.panicked (dK er)) z):=fun w1 z y ca=>by
        have e:r=.error er:=U.out;rw[e];exact⟨rfl,(J.out.aside.trans y (fun _ _ h=>h)).trans ca (fun _ _ h=>h)⟩
      clear U;go_enter Tryz.func222,Tryz.ntmps222;go_wp2_with fail;rw[<-a4.out]
      go_region_law (first
        | (refine aP (.tmp 45) 254 (by rfl) (by rfl) (by rfl) Tryz.func221 (by kernel_rfl) (by rfl) ah.out ?_;intro e w1 I;obtain⟨v,O,M,K,y⟩:=I.good;clear I
           replace M:v=.int .i64 (m:Nat):=M
           subst M;refine⟨_,O,?_⟩;clear O;have ab:=gQq y;have a3:=gQq K;obtain⟨bs,bN,bO⟩:=a0.out w1 y;have Q:=gQq (J.out.step y K X);have cs:w1.cell? ⟨w.1.size+1+1,4,none⟩=some (.slice none 0 0):=aa Q.out.b2 4;have ct:=ac Q.out.b2 4;clear y K)
        | (refine cL (.tmp 44) (.tmp 46) (.tmp 50) 254 3 34 (by rfl) (by rfl) (by rfl) (by rfl) (by rfl) Tryz.func250 (by kernel_rfl) (by rfl) (aj.out w1 ab.out a3.out) (fun e z I=>⟨_,I.bad.1,rfl,a2.out w1 z ab.out I.bad.2⟩) (.slice none 0 0) ?_;intro ak))
      all_goals exact ak.out.elim
    |ok vj=>
      obtain⟨L,Y⟩:=vj;have b5:Hid (r=.ok (.mk 6 0 0 ⟨#[]⟩ L,j+Y)):=U.out;clear U;go_enter Tryz.func222,Tryz.ntmps222;go_wp2_with fail;rw[<-a4.out]
      go_region_law (first
        | (refine aP (.tmp 45) 254 (by rfl) (by rfl) (by rfl) Tryz.func221 (by kernel_rfl) (by rfl) ah.out ?_;intro e w1 I;obtain⟨v,O,M,K,y⟩:=I.good;clear I
           replace M:v=.int .i64 (m:Nat):=M
           subst M;refine⟨_,O,?_⟩;clear O;have ab:=gQq y;have a3:=gQq K;obtain⟨bs,bN,bO⟩:=a0.out w1 y;have Q:=gQq (J.out.step y K X);clear y K)
        | (refine bU (.tmp 44) (.tmp 46) (.tmp 50) 254 3 34 (by rfl) (by rfl) (by rfl) (by rfl) (by rfl) Tryz.func250 (by kernel_rfl) (by rfl) (aj.out w1 ab.out a3.out) ?_;intro e z I;obtain⟨v,O,M,K,y⟩:=I.good;obtain⟨Z,V,cd,bq⟩:=M.open;clear I M;subst cd;refine⟨_,O,?_⟩;clear O;have E:=gQq (Q.out.step y K X);have b4:=gQq bq;have cq:=Q.out.size;have cr:=y.size;have z4:z.cell? ⟨w.1.size+1+1,4,none⟩=some (.slice none 0 0):=aa E.out.b2 4;have da:=ac E.out.b2 4;clear y K bq))
      all_goals
        have a1:=gQq (E.out.set X 4 (.slice Z L.length V));have b3:=gQq (xi (k:=6) (i:=0) (b:=0) (t:=⟨#[]⟩) (q:=Z) (n:=L.length) (c:=V) (x:=.mk 6 0 0 ⟨#[]⟩ L) (N:=w.1.size+1) X (by omega) a1.out.b1 ((b4.out 6).aside (ag z (w.1.size+1+1) 4 (.slice Z L.length V)) (fun i cb O=>by omega)) (fun i cb=>⟨by omega,by have:=(ag z (w.1.size+1+1) 4 (.slice Z L.length V)).size;omega⟩) a1.out.rd a1.out.aside);obtain⟨z0,z1,z2,z3,-⟩:=cQ5 E.out.b2;have cu:z.cell? ⟨w.1.size+1,0,none⟩=some (.int .i64 0):=aa E.out.b1 0;have c5:=ac E.out.b1 0;have cv:z.cell? ⟨w.1.size+1,1,none⟩=some (.int .i64 0):=aa E.out.b1 1;have c6:=ac E.out.b1 1;have cw:z.cell? ⟨w.1.size+1,2,none⟩=some (.float .f64 0):=aa E.out.b1 2;have c7:=ac E.out.b1 2;have cx:z.cell? ⟨w.1.size+1,3,none⟩=some (.string ⟨#[]⟩):=aa E.out.b1 3;have c8:=ac E.out.b1 3;have cy:z.cell? ⟨w.1.size+1,4,none⟩=some (.slice none 0 0):=aa E.out.b1 4;have c9:=ac E.out.b1 4;clear cj ck cn cg ci bs bN bO;go_wp2;obtain⟨f1,b7,b8,b9⟩:=b3.out;refine bodyPost_ret (v:=.agg (cells5 6 0 0 ⟨#[]⟩ Z L.length V)) (results_cell_row rfl _ _ (w.1.size+1) _ _ _ _ rfl f1 Tryz.underlying38 rfl (by kernel_rfl)) rfl ?_;rw[b5.out];refine⟨_,rfl,b7,?_,b9⟩;rw[<-List.drop_drop];exact b8
theorem vZ(x:Ty)(br:oN x)(l:L8)(A R:Nat)(w:World)(u:AV)(bi:fA w R u (.mk 7 [x]))(h:Rdr w A R l):Calls Tryz.prog 222 #[.pointer (some ⟨R,0,none⟩),.agg u] w (RdA w A R l (Sch.rdV (.mk 7 [x]) l) (isV w)):=by
  have X:=h.lt;obtain⟨g,off,c,k',cf,n',b6,rfl,bj,co,bn,bT,bX⟩:=bi.one;unfold an;obtain⟨W,a5⟩:∃W,W=((w.alloc (.cells #[.int .i64 7,.slice (some ⟨g,off,none⟩) 1 c] 34)).alloc (.cells #[.int .i64 0,.int .i64 0,.float .f64 0,.string ⟨#[]⟩,.slice none 0 0] 38)).alloc (.cells #[.int .i64 7,.int .i64 0,.float .f64 0,.string ⟨#[]⟩,.slice none 0 0] 38):=⟨_,rfl⟩;have J:Hid (dY w W A R 7 #[.int .i64 7,.slice (some ⟨g,off,none⟩) 1 c] l):=by rw[a5];exact bS 7 _ h
  have a4:=gQq a5;obtain⟨r,a7⟩:∃r,r=Sch.rdV (.mk 7 [x]) l:=⟨_,rfl⟩;have bc:=gQq (a7.trans (mu 7 (by omega) x l));rw[<-a7];have S:Hid (r=ar (aS 256 3 l) fun m j=>ar (Sch.rdN (Sch.rdV x) m (l.drop j)) fun L Y=>.ok (.mk 7 0 0 ⟨#[]⟩ L,j+Y)):=by show _=_;rw[bc.out,uI]
  have ah:Hid (Calls Tryz.prog 181 #[.pointer (some ⟨R,0,none⟩),.int .u64 256,.int .i64 3] W.drew (RdA W A R l (aS 256 3 l) isI)):=(mH 256 3 (by omega) l A R W.drew J.out.rd.drew).mono fun _ _ h=>h.undrew;have a9:=gQq bj;have be:=gQq br
  -- the cells that are read,wherever only the reader has changed
  have a0:Hid (∀W',Aside (fun i=>i=R) W W'->W'.cell? ⟨w.1.size,1,none⟩=some (.slice (some ⟨g,off,none⟩) 1 c)∧W'.cell? ⟨g,off,none⟩=some (.int .i64 k')∧W'.cell? ⟨g,off+1,none⟩=some (.slice cf n' b6)):=fun W' y=>by
    have cp:=J.out.size;have bk:g<W.1.size:=(by omega);refine⟨?_,?_,?_⟩
    · rw[y.cell (show w.1.size<W.1.size by omega) (show ¬w.1.size=R by omega)];exact aa J.out.b0 1
    · rw[y.cell (show g<W.1.size from bk) (show ¬g=R by omega),J.out.aside.cell bn (show ¬g=R by omega)];exact bT
    · rw[y.cell (show g<W.1.size from bk) (show ¬g=R by omega),J.out.aside.cell bn (show ¬g=R by omega)];exact bX
  obtain⟨cj,ck,cn⟩:=a0.out W (Aside.refl _ _);have cg:W.cell? ⟨w.1.size+1+1,4,none⟩=some (.slice none 0 0):=aa J.out.b2 4;have ci:=ac J.out.b2 4;obtain⟨ce,a6⟩:∃m,m=aS 256 3 l:=⟨_,rfl⟩;rw[<-a6] at S ah;have bb:=gQq a6;clear a7 a6 h a5 bj br bT bX bi bc;cases ce with
  |error er=>
    have a2:Hid (∀z,Aside (fun i=>i=R) W z->RdA w A R l r (isV w) (.panicked (dK er)) z):=fun z y=>by
      have e:r=.error er:=S.out;rw[e];exact⟨rfl,J.out.aside.trans y (fun _ _ h=>h)⟩
    clear S;go_enter Tryz.func222,Tryz.ntmps222;go_wp2_with fail;rw[<-a4.out]
    go_region_law (first|(refine cL (.tmp 56) (.const (.int .u64 256)) (.const (.int .i64 3)) 254 153 68 (by rfl) (by rfl) (by rfl) (by rfl) (by rfl) Tryz.func181 (by kernel_rfl) (by rfl) ah.out (fun e z I=>⟨_,I.bad.1,rfl,a2.out z I.bad.2⟩) (.int .i64 0) ?_;intro ak)|(refine bl ak (.slice none 0 0) ?_))
    all_goals exact ak.out.elim
  |ok mj=>
    obtain⟨m,j⟩:=mj;have cc:m<=256:=count_le bb.out.symm;have U:Hid (r=ar (Sch.rdN (Sch.rdV x) m (l.drop j)) fun L Y=>.ok (.mk 7 0 0 ⟨#[]⟩ L,j+Y)):=S.out;have aj:=gQq (fun w1 (y:Aside (fun i=>i=R) W w1) (K:Rdr w1 A R (l.drop j))=>uP x be.out m cc (l.drop j) A R w1 _ ((a9.out.aside J.out.aside).aside y) K);unfold an at aj;obtain⟨a8,bp⟩:∃a8,a8=Sch.rdN (Sch.rdV x) m (l.drop j):=⟨_,rfl⟩;rw[<-bp] at U aj;clear S bp bb be a9;cases a8 with
    |error er=>
      have a2:Hid (∀w1 z,Aside (fun i=>i=R) W w1->Aside (fun i=>i=R) w1 z->RdA w A R l r (isV w) (.panicked (dK er)) z):=fun w1 z y ca=>by
        have e:r=.error er:=U.out;rw[e];exact⟨rfl,(J.out.aside.trans y (fun _ _ h=>h)).trans ca (fun _ _ h=>h)⟩
      clear U;go_enter Tryz.func222,Tryz.ntmps222;go_wp2_with fail;rw[<-a4.out]
      go_region_law (first
        | (refine bU (.tmp 56) (.const (.int .u64 256)) (.const (.int .i64 3)) 254 153 68 (by rfl) (by rfl) (by rfl) (by rfl) (by rfl) Tryz.func181 (by kernel_rfl) (by rfl) ah.out ?_;intro e w1 I;obtain⟨v,O,M,K,y⟩:=I.good;clear I
           replace M:v=.int .i64 (m:Nat):=M
           subst M;refine⟨_,O,?_⟩;clear O;have ab:=gQq y;have a3:=gQq K;obtain⟨bs,bN,bO⟩:=a0.out w1 y;have Q:=gQq (J.out.step y K X);have cs:w1.cell? ⟨w.1.size+1+1,4,none⟩=some (.slice none 0 0):=aa Q.out.b2 4;have ct:=ac Q.out.b2 4;clear y K)
        | (refine cL (.tmp 55) (.tmp 57) (.tmp 61) 254 3 34 (by rfl) (by rfl) (by rfl) (by rfl) (by rfl) Tryz.func250 (by kernel_rfl) (by rfl) (aj.out w1 ab.out a3.out) (fun e z I=>⟨_,I.bad.1,rfl,a2.out w1 z ab.out I.bad.2⟩) (.slice none 0 0) ?_;intro ak))
      all_goals exact ak.out.elim
    |ok vj=>
      obtain⟨L,Y⟩:=vj;have b5:Hid (r=.ok (.mk 7 0 0 ⟨#[]⟩ L,j+Y)):=U.out;clear U;go_enter Tryz.func222,Tryz.ntmps222;go_wp2_with fail;rw[<-a4.out]
      go_region_law (first
        | (refine bU (.tmp 56) (.const (.int .u64 256)) (.const (.int .i64 3)) 254 153 68 (by rfl) (by rfl) (by rfl) (by rfl) (by rfl) Tryz.func181 (by kernel_rfl) (by rfl) ah.out ?_;intro e w1 I;obtain⟨v,O,M,K,y⟩:=I.good;clear I
           replace M:v=.int .i64 (m:Nat):=M
           subst M;refine⟨_,O,?_⟩;clear O;have ab:=gQq y;have a3:=gQq K;obtain⟨bs,bN,bO⟩:=a0.out w1 y;have Q:=gQq (J.out.step y K X);clear y K)
        | (refine bU (.tmp 55) (.tmp 57) (.tmp 61) 254 3 34 (by rfl) (by rfl) (by rfl) (by rfl) (by rfl) Tryz.func250 (by kernel_rfl) (by rfl) (aj.out w1 ab.out a3.out) ?_;intro e z I;obtain⟨v,O,M,K,y⟩:=I.good;obtain⟨Z,V,cd,bq⟩:=M.open;clear I M;subst cd;refine⟨_,O,?_⟩;clear O;have E:=gQq (Q.out.step y K X);have b4:=gQq bq;have cq:=Q.out.size;have cr:=y.size;have z4:z.cell? ⟨w.1.size+1+1,4,none⟩=some (.slice none 0 0):=aa E.out.b2 4;have da:=ac E.out.b2 4;clear y K bq))
      all_goals
        have a1:=gQq (E.out.set X 4 (.slice Z L.length V));have b3:=gQq (xi (k:=7) (i:=0) (b:=0) (t:=⟨#[]⟩) (q:=Z) (n:=L.length) (c:=V) (x:=.mk 7 0 0 ⟨#[]⟩ L) (N:=w.1.size+1) X (by omega) a1.out.b1 ((b4.out 7).aside (ag z (w.1.size+1+1) 4 (.slice Z L.length V)) (fun i cb O=>by omega)) (fun i cb=>⟨by omega,by have:=(ag z (w.1.size+1+1) 4 (.slice Z L.length V)).size;omega⟩) a1.out.rd a1.out.aside);obtain⟨z0,z1,z2,z3,-⟩:=cQ5 E.out.b2;have cu:z.cell? ⟨w.1.size+1,0,none⟩=some (.int .i64 0):=aa E.out.b1 0;have c5:=ac E.out.b1 0;have cv:z.cell? ⟨w.1.size+1,1,none⟩=some (.int .i64 0):=aa E.out.b1 1;have c6:=ac E.out.b1 1;have cw:z.cell? ⟨w.1.size+1,2,none⟩=some (.float .f64 0):=aa E.out.b1 2;have c7:=ac E.out.b1 2;have cx:z.cell? ⟨w.1.size+1,3,none⟩=some (.string ⟨#[]⟩):=aa E.out.b1 3;have c8:=ac E.out.b1 3;have cy:z.cell? ⟨w.1.size+1,4,none⟩=some (.slice none 0 0):=aa E.out.b1 4;have c9:=ac E.out.b1 4;clear cj ck cn cg ci bs bN bO;go_wp2;obtain⟨f1,b7,b8,b9⟩:=b3.out;refine bodyPost_ret (v:=.agg (cells5 7 0 0 ⟨#[]⟩ Z L.length V)) (results_cell_row rfl _ _ (w.1.size+1) _ _ _ _ rfl f1 Tryz.underlying38 rfl (by kernel_rfl)) rfl ?_;rw[b5.out];refine⟨_,rfl,b7,?_,b9⟩;rw[<-List.drop_drop];exact b8
theorem yb:∀(t:Ty) (d:Nat),Ty.check d t=0->oN t:=by
 intro t;refine Ty.ind (P:=fun t=>∀d,Ty.check d t=0->oN t) ?_ t;intro k xs J d hd l A R w u z h;obtain⟨-,Q,L⟩:=Sch.ty_open hd;rcases L with ⟨E,rfl⟩ | ⟨E,x,rfl,I⟩
 ·obtain⟨k',p,n,c,rfl⟩:=z.shape;obtain⟨F,O,-⟩:=z.out;have M:k'=k:=by
   obtain⟨p2,c2,y,-⟩:=O.lies.open;simp only[an] at y;injection y with y;injection y with y _;injection y with _ y
  subst M;rw[Sch.rdV_mk,if_pos (by omega)];unfold an;have K:k'=1∨k'=2∨k'=3∨k'=4∨k'=5:=by omega
  rcases K with rfl | rfl | rfl | rfl | rfl
  ·exact wu l A R w p n c h
  ·exact wl l A R w p n c h
  ·exact wj l A R w p n c h
  ·exact wh l A R w p n c h
  ·exact wg l A R w p n c h
 ·rcases E with rfl | rfl
  ·exact we x (J x (by simp) (d+1) I) l A R w u z h
  ·exact vZ x (J x (by simp) (d+1) I) l A R w u z h
end
section
open Go.RowKit
attribute [local go_sem] af
def mL(s:ByteArray)(l:L8):Except Nat (Col×Nat):=ar (Sch.rdT 4 l) fun t j2=>ar (Sch.bit (l.drop j2)) fun h j3=>if h=0 then .ok (⟨s,t,false,V0⟩,j2+j3) else ar (Sch.rdV t (l.drop (j2+j3))) fun v j4=>.ok (⟨s,t,true,v⟩,j2+j3+j4)
def isC(w:World)(c:Col)(v:Value)(w':World):Prop:=∃u,v=.agg u∧cR w' (fun k=>w.1.size<=k∧k<w'.1.size) u c
theorem isC.open{w':World}{v:Value}(h:isC w c v w'):∃u,v=.agg u∧cR w' (fun k=>w.1.size<=k∧k<w'.1.size) u c:=h
theorem zF{wr:World}{n:ByteArray}{J:OA}{I E:Nat}{h:Bool}{O M:Int}{K:Nat}{U:ByteArray}{S:OA}{Q L:Nat}{F:Nat->Prop}(aj:R<w.1.size)(ab:wr.1[w.1.size]?=some (.cells #[.string ⟨#[]⟩,.int .i64 0,.slice none 0 0,.bool false,.int .i64 0,.int .i64 0,.float .f64 0,.string ⟨#[]⟩,.slice none 0 0] 40 (0,0)))(a2:w.1.size+1<=wr.1.size)(a0:cR wr F (av n k J I E h O M K U S Q L) c)(ah:∀j,F j->w.1.size+1<=j∧j<wr.1.size)(a1:Rdr wr A R l)(ak:Aside (fun i=>i=R) w wr){P:World}(Y:P=pN wr w.1.size n k (.slice J I E) h O M K U (.slice S Q L)):
  P.1[w.1.size]?=some (.cells (av n k J I E h O M K U S Q L) 40 (0,0))∧isC w c (.agg (av n k J I E h O M K U S Q L)) P∧Rdr P A R l∧Aside (fun i=>i=R) w P:=by
 obtain⟨a4,a3,y,Z⟩:=ak.split aj;obtain⟨V,X,z⟩:=bZ (w:=a4) (w1:=wr) (by rw[y];exact ab) Z (by rw[y];exact a2) a0 (by rw[y];exact ah);rw[y] at V X z;rw[<-Y] at V X z;refine⟨V,⟨_,rfl,X⟩,a1.keep (fun j a5=>?_) ?_,a3.trans (al (by rw[y];exact z) (fun _=>False)) (fun _ _ h=>h.elim)⟩
 ·rw[z.block j (by omega),Z.block j (by omega)]
 ·rw[Y];simp[pN,World.setCell]
structure gq(w W:World)(A R T:Nat)(D:AV)(l:L8):Prop where
 bN:W.1[w.1.size]?=some (.cells #[.string ⟨#[]⟩,.int .i64 0,.slice none 0 0,.bool false,.int .i64 0,.int .i64 0,.float .f64 0,.string ⟨#[]⟩,.slice none 0 0] 40 (0,0))
 bT:W.1[T]?=some (.cells D 40 (0,0))
 rd:Rdr W A R l
 aside:Aside (fun i=>i=R) w W
 low:R<w.1.size
 mid:w.1.size<T
theorem gq.lt(h:gq w W A R T D l):T<W.1.size:=au h.bT
theorem gq.step{l':L8}(h:gq w W A R T D l)(y:Aside (fun i=>i=R) W W')(J:Rdr W' A R l'):gq w W' A R T D l':=by
 have z:=h.lt;have E:=h.mid;have I:=h.low;exact⟨by rw[y.block _ (by omega) (by omega)];exact h.bN,by rw[y.block _ z (by omega)];exact h.bT,J,h.aside.trans y (fun _ _ h=>h),I,E⟩
theorem gq.set(h:gq w W A R T D l)(m:Nat)(u:Value):gq w (W.setCell ⟨T,m,none⟩ u) A R T (D.set! m u) l:=by
 have K:=h.lt;have E:=h.mid;have I:=h.low;have y:Aside (fun i=>i=T) W (W.setCell ⟨T,m,none⟩ u):=ag _ _ _ _;exact⟨by rw[y.block _ (by omega) (by omega)];exact h.bN,ai h.bT m u,h.rd.aside y (fun j z=>by rw[z];omega),h.aside.trans y (fun j z J=>by rw[J] at z;omega),I,E⟩
theorem xr(K:ByteArray)(l:L8)(A R:Nat)(w:World)(h:Rdr w A R l):Calls Tryz.prog 183 #[.pointer (some ⟨R,0,none⟩),.string K] w (RdA w A R l (mL K l) (isC w)):=by
 have ci:=h.lt;obtain⟨Y,b2⟩:∃Y,Y=w.alloc (.cells #[.string ⟨#[]⟩,.int .i64 0,.slice none 0 0,.bool false,.int .i64 0,.int .i64 0,.float .f64 0,.string ⟨#[]⟩,.slice none 0 0] 40):=⟨_,rfl⟩;have bq:Hid (Below w.1.size w Y):=by rw[b2];exact gQy
 have b6:Hid (Y.1[w.1.size]?=some (.cells #[.string ⟨#[]⟩,.int .i64 0,.slice none 0 0,.bool false,.int .i64 0,.int .i64 0,.float .f64 0,.string ⟨#[]⟩,.slice none 0 0] 40 (0,0))):=by rw[b2];exact am w _
 have b9:=gQq b2;have bc:=gQq (wC 4 1 l A R Y rfl (h.on bq.out));obtain⟨r,cn⟩:∃r,r=mL K l:=⟨_,rfl⟩;have bj:Hid (r=ar (Sch.rdT 4 l) fun t J=>ar (Sch.bit (l.drop J)) fun h L=>if h=0 then .ok (⟨K,t,false,V0⟩,J+L) else ar (Sch.rdV t (l.drop (J+L))) fun v ab=>.ok (⟨K,t,true,v⟩,J+L+ab)):=cn;rw[<-cn];obtain⟨d4,ck⟩:∃m,m=Sch.rdT 4 l:=⟨_,rfl⟩;rw[<-ck] at bj bc;have cu:=gQq ck;clear cn ck h b2;cases d4 with
 |error er=>
  have ah:Hid (r=.error er):=bj.out;clear bj;go_enter Tryz.func183,Tryz.ntmps183;go_wp2_with fail;rw[<-b9.out];refine bc.out.mono ?_;intro e w1 O;obtain⟨X,I⟩:=O.bad;subst X;clear O;have bb:=gQq ((al bq.out _).trans I (fun _ _ h=>h));clear I bc;go_wp2;rw[ah.out];exact⟨rfl,rfl,bb.out⟩
 |ok tj=>
  obtain⟨t,J⟩:=tj;have bk:Hid (r=ar (Sch.bit (l.drop J)) fun h L=>if h=0 then .ok (⟨K,t,false,V0⟩,J+L) else ar (Sch.rdV t (l.drop (J+L))) fun v ab=>.ok (⟨K,t,true,v⟩,J+L+ab)):=bj.out;have c9:Hid (Ty.check 1 t=0):=(Sch.rdT_ok 4 _ _ _ (by omega) cu.out.symm).2.2.1;clear bj cu;go_enter Tryz.func183,Tryz.ntmps183;go_wp2_with fail;rw[<-b9.out];refine bc.out.mono ?_;intro e w1 O;obtain⟨v,X,Z,aj,I⟩:=O.good;obtain⟨u,co,a1⟩:=Z.open;clear O Z;obtain⟨k,U,S,Q,d1⟩:=a1.shape;subst d1;subst co;subst X;unfold an;have b0:=au b6.out;have c7:w.1.size<w1.1.size:=Nat.lt_of_lt_of_le b0 I.size;have eC:w.1.size+1<=Y.1.size:=b0;have cp:=gQq ((al bq.out (fun i=>i=R)).trans I (fun _ _ h=>h));have cv:Hid (w1.1[w.1.size]?=some (.cells #[.string ⟨#[]⟩,.int .i64 0,.slice none 0 0,.bool false,.int .i64 0,.int .i64 0,.float .f64 0,.string ⟨#[]⟩,.slice none 0 0] 40 (0,0))):=by
   show _=_;rw[I.block _ b0 (by omega)];exact b6.out
  obtain⟨W,b1⟩:∃W,W=w1.alloc (.cells #[.string K,.int .i64 k,.slice U S Q,.bool false,.int .i64 0,.int .i64 0,.float .f64 0,.string ⟨#[]⟩,.slice none 0 0] 40):=⟨_,rfl⟩;have br:Hid (Below w1.1.size w1 W):=by rw[b1];exact gQy
  have be:Hid (gq w W A R w1.1.size #[.string K,.int .i64 k,.slice U S Q,.bool false,.int .i64 0,.int .i64 0,.float .f64 0,.string ⟨#[]⟩,.slice none 0 0] (l.drop J)):=by
   refine⟨aR cv.out br.out c7,by rw[b1];exact am w1 _,aj.on br.out,cp.out.trans (al br.out (fun _=>False)) (fun _ _ h=>h.elim),ci,c7⟩
  -- the type,wherever the reader and the column alone have ei
  have b7:Hid (∀W' (F:Nat->Prop),(∀j,F j->j=R∨w1.1.size<=j)->Aside F W W'->aW W' (fun j=>Y.1.size<=j∧j<w1.1.size) (an k U S Q) t):=fun W' F dr ds=>
   (a1.under br.out (fun j M=>M.2)).aside ds (fun j M dv=>by
    rcases dr j dv with bX | bX
    ·omega
    ·omega)
  have bs:=gQq (va (l.drop J) A R W be.out.rd);have cy:=gQq b1;obtain⟨d3,cj⟩:∃m,m=Sch.bit (l.drop J):=⟨_,rfl⟩;rw[<-cj] at bk bs;have ct:=gQq cj;clear I aj a1 bc b6 cv cp b9 bq b1 cj b0;go_wp2_with fail;rw[<-cy.out];clear cy;refine bs.out.mono ?_;intro e E O;cases d3 with
  |error er=>
   have ah:Hid (r=.error er):=bk.out;obtain⟨X,I⟩:=O.bad;subst X;clear O bk;have bb:=gQq (be.out.aside.trans I (fun _ _ h=>h));clear I bs;go_wp2;rw[ah.out];exact⟨rfl,rfl,bb.out⟩
  |ok M=>
   obtain⟨bn,L⟩:=M;have ez:bn<=1:=(Sch.bit_ok ct.out.symm).1;have ah:Hid (r=if bn=0 then .ok (⟨K,t,false,V0⟩,J+L) else ar (Sch.rdV t (l.drop (J+L))) fun v ab=>.ok (⟨K,t,true,v⟩,J+L+ab)):=bk.out;obtain⟨v,X,Z,aj,I⟩:=O.good;clear O bk ct
   replace Z:v=.int .i64 (bn:Nat):=Z
   subst Z;subst X;have b5:=gQq I;have y:=gQq (be.out.step I aj);have e3:w1.1.size<W.1.size:=be.out.lt;clear I aj bs be;have c5:E.cell? ⟨w1.1.size,3,none⟩=some (.bool false):=aa y.out.bT 3;have dn:=ac y.out.bT 3;have d0:bn=0∨bn=1:=(by omega);rcases d0 with dp | bX
   ·subst dp;have ak:Hid (r=.ok (⟨K,t,false,V0⟩,J+L)):=ah.out.trans (if_pos rfl);clear ah;have V:=gQq (y.out.set 3 (.bool false));have c8:Hid (cR (E.setCell ⟨w1.1.size,3,none⟩ (.bool false)) (fun j=>Y.1.size<=j∧j<w1.1.size) (av K k U S Q false 0 0 0 ⟨#[]⟩ none 0 0) ⟨K,t,false,V0⟩):=by
     refine⟨fun j=>Y.1.size<=j∧j<w1.1.size,fun _=>False,k,U,S,Q,0,0,0,⟨#[]⟩,none,0,0,rfl,?_,aO.none,fun _ h=>h,fun _ h=>h.elim,fun _ _ h=>h⟩;exact b7.out _ (fun j=>j=R∨j=w1.1.size) (fun j M=>M.elim .inl (fun h=>.inr (by omega))) ((b5.out.mono (fun _ _ h=>.inl h)).trans (ag E w1.1.size 3 (.bool false)) (fun _ _ h=>.inr h))
    have bO:=gQq (fun P cg=>zF (P:=P) ci V.out.bN (by have:=V.out.lt;have:=V.out.mid;omega) c8.out (fun j M=>⟨by omega,by have:=V.out.lt;omega⟩) V.out.rd V.out.aside cg);have de:E.cell? ⟨w1.1.size,0,none⟩=some (.string K):=aa y.out.bT 0;have cb:E.cell? ⟨w1.1.size,1,none⟩=some (.int .i64 k):=aa y.out.bT 1;have cc:E.cell? ⟨w1.1.size,2,none⟩=some (.slice U S Q):=aa y.out.bT 2;have df:E.cell? ⟨w1.1.size,4,none⟩=some (.int .i64 0):=aa y.out.bT 4;have dh:E.cell? ⟨w1.1.size,5,none⟩=some (.int .i64 0):=aa y.out.bT 5;have di:E.cell? ⟨w1.1.size,6,none⟩=some (.float .f64 0):=aa y.out.bT 6;have dj:E.cell? ⟨w1.1.size,7,none⟩=some (.string ⟨#[]⟩):=aa y.out.bT 7;have dk:E.cell? ⟨w1.1.size,8,none⟩=some (.slice none 0 0):=aa y.out.bT 8;have d5:E.cell? ⟨w.1.size,0,none⟩=some (.string ⟨#[]⟩):=aa y.out.bN 0;have d9:=ac y.out.bN 0;have d6:E.cell? ⟨w.1.size,1,none⟩=some (.int .i64 0):=aa y.out.bN 1;have ea:=ac y.out.bN 1;have d7:E.cell? ⟨w.1.size,2,none⟩=some (.slice none 0 0):=aa y.out.bN 2;have eb:=ac y.out.bN 2;have d8:E.cell? ⟨w.1.size,3,none⟩=some (.bool false):=aa y.out.bN 3;have ec:=ac y.out.bN 3;have n4:E.cell? ⟨w.1.size,4,none⟩=some (.int .i64 0):=aa y.out.bN 4;have ed:=ac y.out.bN 4;have n5:E.cell? ⟨w.1.size,5,none⟩=some (.int .i64 0):=aa y.out.bN 5;have ee:=ac y.out.bN 5;have n6:E.cell? ⟨w.1.size,6,none⟩=some (.float .f64 0):=aa y.out.bN 6;have ef:=ac y.out.bN 6;have n7:E.cell? ⟨w.1.size,7,none⟩=some (.string ⟨#[]⟩):=aa y.out.bN 7;have eg:=ac y.out.bN 7
    have n8:E.cell? ⟨w.1.size,8,none⟩=some (.slice none 0 0):=aa y.out.bN 8;have eh:=ac y.out.bN 8;go_wp2;obtain⟨f1,cd,ce,cf⟩:=bO.out _ rfl;refine bodyPost_ret (v:=.agg (av K k U S Q false 0 0 0 ⟨#[]⟩ none 0 0)) (results_cell_row rfl _ _ w.1.size _ _ _ _ rfl f1 Tryz.underlying40 rfl (by kernel_rfl)) rfl ?_;rw[ak.out];refine⟨_,rfl,cd,?_,cf⟩;rw[<-List.drop_drop];exact ce
   ·subst bX;obtain⟨a0,b3⟩:∃a0,a0=E.setCell ⟨w1.1.size,3,none⟩ (.bool true):=⟨_,rfl⟩;have V:Hid (gq w a0 A R w1.1.size #[.string K,.int .i64 k,.slice U S Q,.bool true,.int .i64 0,.int .i64 0,.float .f64 0,.string ⟨#[]⟩,.slice none 0 0] (l.drop (J+L))):=by
     rw[b3,<-List.drop_drop];exact y.out.set 3 (.bool true)
    have cq:Hid (Aside (fun j=>j=R∨j=w1.1.size) W a0):=by
     rw[b3];exact(b5.out.mono (fun _ _ h=>.inl h)).trans (ag E w1.1.size 3 (.bool true)) (fun _ _ h=>.inr h)
    have cs:Hid (fA a0 R (an k U S Q) t):=by
     refine⟨fun j=>Y.1.size<=j∧j<w1.1.size,b7.out _ _ (fun j M=>M.elim .inl (fun h=>.inr (by omega))) cq.out,fun j M=>⟨by omega,?_⟩⟩;have:=V.out.lt;omega
    have a2:=gQq (yb t 1 c9.out (l.drop (J+L)) A R a0 _ cs.out V.out.rd);have ak:Hid (r=ar (Sch.rdV t (l.drop (J+L))) fun v ab=>.ok (⟨K,t,true,v⟩,J+L+ab)):=ah.out.trans (if_neg (by decide));obtain⟨mv,c6⟩:∃m,m=Sch.rdV t (l.drop (J+L)):=⟨_,rfl⟩;rw[<-c6] at ak a2;have ca:=gQq b3;unfold an at a2;have cb:E.cell? ⟨w1.1.size,1,none⟩=some (.int .i64 k):=aa y.out.bT 1;have cc:E.cell? ⟨w1.1.size,2,none⟩=some (.slice U S Q):=aa y.out.bT 2;clear ah c6 b3 b5 cs;cases mv with
    |error er=>
     have b8:Hid (r=.error er):=ak.out;clear ak;go_wp2_with fail;rw[<-ca.out];refine a2.out.mono ?_;intro e w4 O;obtain⟨X,I⟩:=O.bad;subst X;clear O;have bb:=gQq (V.out.aside.trans I (fun _ _ h=>h));clear I a2;go_wp2;rw[b8.out];exact⟨rfl,rfl,bb.out⟩
    |ok vj=>
     obtain⟨x,ab⟩:=vj;have b8:Hid (r=.ok (⟨K,t,true,x⟩,J+L+ab)):=ak.out;clear ak;go_wp2_with fail;rw[<-ca.out];refine a2.out.mono ?_;intro e w4 O;obtain⟨v,X,Z,aj,I⟩:=O.good;obtain⟨e4,co,a1⟩:=Z.open;clear O Z;obtain⟨a6,a5,a3,a9,a8,a7,a4,d2⟩:=a1.shape;subst d2;subst co;subst X;unfold cells5;have z:=gQq (V.out.step I aj);have cr:Hid (Aside (fun j=>j=R∨j=w1.1.size) W w4):=cq.out.trans I (fun _ _ h=>.inl h);have cx:=gQq a1;have e0:=V.out.lt;have e1:=I.size;clear I aj a1 a2 ca cb cc c5 dn y;have bi:=gQq (((((z.out.set 4 (.int .i64 a6)).set 5 (.int .i64 a5)).set 6 (.float .f64 a3)).set 7 (.string a9)).set 8 (.slice a8 a7 a4));obtain⟨w5,b4⟩:∃w5,w5=((((w4.setCell ⟨w1.1.size,4,none⟩ (.int .i64 a6)).setCell ⟨w1.1.size,5,none⟩ (.int .i64 a5)).setCell ⟨w1.1.size,6,none⟩ (.float .f64 a3)).setCell ⟨w1.1.size,7,none⟩ (.string a9)).setCell ⟨w1.1.size,8,none⟩ (.slice a8 a7 a4):=⟨_,rfl⟩;have bp:Hid (Aside (fun j=>j=w1.1.size) w4 w5):=by
      rw[b4];have da:Aside (fun j=>j=w1.1.size) w4 (w4.setCell ⟨w1.1.size,4,none⟩ (.int .i64 a6)):=ag _ _ _ _;have db:=da.trans (ag _ w1.1.size 5 (.int .i64 a5)) (fun _ _ h=>h);have dc:=db.trans (ag _ w1.1.size 6 (.float .f64 a3)) (fun _ _ h=>h);have dd:=dc.trans (ag _ w1.1.size 7 (.string a9)) (fun _ _ h=>h);exact dd.trans (ag _ w1.1.size 8 (.slice a8 a7 a4)) (fun _ _ h=>h)
     rw[<-b4] at bi;have e2:=bp.out.size;have cw:Hid (cR w5 (fun j=>w.1.size+1<=j∧j<w5.1.size) (av K k U S Q true a6 a5 a3 a9 a8 a7 a4) ⟨K,t,true,x⟩):=by
      refine⟨fun j=>Y.1.size<=j∧j<w1.1.size,fun j=>a0.1.size<=j∧j<w4.1.size,k,U,S,Q,a6,a5,a3,a9,a8,a7,a4,rfl,?_,?_,fun j M=>by omega,fun j M=>by omega,fun j bX ew=>by omega⟩
      ·exact b7.out _ _ (fun j M=>M.elim .inl (fun h=>.inr (by omega))) (cr.out.trans bp.out (fun _ _ h=>.inr h))
      ·exact cx.out.aside bp.out (fun j M X=>by omega)
     have bO:=gQq (fun P cg=>zF (P:=P) ci bi.out.bN (by omega) cw.out (fun j M=>M) bi.out.rd bi.out.aside cg);rw[b4] at bO;clear b4 bi cw bp cr cx;obtain⟨de,cb,cc,c5,df,-⟩:=cQ9 z.out.bT;have el:=ac z.out.bT 4;have dh:w4.cell? ⟨w1.1.size,5,none⟩=some (.int .i64 0):=aa z.out.bT 5;have em:=ac z.out.bT 5;have di:w4.cell? ⟨w1.1.size,6,none⟩=some (.float .f64 0):=aa z.out.bT 6;have en:=ac z.out.bT 6;have dj:w4.cell? ⟨w1.1.size,7,none⟩=some (.string ⟨#[]⟩):=aa z.out.bT 7;have ep:=ac z.out.bT 7;have dk:w4.cell? ⟨w1.1.size,8,none⟩=some (.slice none 0 0):=aa z.out.bT 8;have eu:=ac z.out.bT 8;have d5:w4.cell? ⟨w.1.size,0,none⟩=some (.string ⟨#[]⟩):=aa z.out.bN 0;have d9:=ac z.out.bN 0;have d6:w4.cell? ⟨w.1.size,1,none⟩=some (.int .i64 0):=aa z.out.bN 1;have ea:=ac z.out.bN 1;have d7:w4.cell? ⟨w.1.size,2,none⟩=some (.slice none 0 0):=aa z.out.bN 2;have eb:=ac z.out.bN 2;have d8:w4.cell? ⟨w.1.size,3,none⟩=some (.bool false):=aa z.out.bN 3;have ec:=ac z.out.bN 3;have n4:w4.cell? ⟨w.1.size,4,none⟩=some (.int .i64 0):=aa z.out.bN 4;have ed:=ac z.out.bN 4;have n5:w4.cell? ⟨w.1.size,5,none⟩=some (.int .i64 0):=aa z.out.bN 5;have ee:=ac z.out.bN 5;have n6:w4.cell? ⟨w.1.size,6,none⟩=some (.float .f64 0):=aa z.out.bN 6;have ef:=ac z.out.bN 6;have n7:w4.cell? ⟨w.1.size,7,none⟩=some (.string ⟨#[]⟩):=aa z.out.bN 7;have eg:=ac z.out.bN 7;have n8:w4.cell? ⟨w.1.size,8,none⟩=some (.slice none 0 0):=aa z.out.bN 8;have eh:=ac z.out.bN 8;clear z;go_wp2;obtain⟨f1,cd,ce,cf⟩:=bO.out _ rfl
     refine bodyPost_ret (v:=.agg (av K k U S Q true a6 a5 a3 a9 a8 a7 a4)) (results_cell_row rfl _ _ w.1.size _ _ _ _ rfl f1 Tryz.underlying40 rfl (by kernel_rfl)) rfl ?_;rw[b8.out];refine⟨_,rfl,cd,?_,cf⟩;rw[<-List.drop_drop];exact ce
end
end Go.Proofs.YtbahfgdbjgkklaaGreatDoor

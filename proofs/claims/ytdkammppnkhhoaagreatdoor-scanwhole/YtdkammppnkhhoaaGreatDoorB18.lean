import Derived.Test.YtdkammppnkhhoaaGreatDoorB17
set_option maxRecDepth 100000
set_option maxHeartbeats 2000000
namespace Go.Proofs.YtdkammppnkhhoaaGreatDoor
variable{A R T:Nat}{W W' w:World}{l:L8}{u0 u1 u2:Value}{k:Int}{D:AV}{a:Act}{ops:Array Oper}{o:Oper}{fn:Func}{f:FuncId}{code:Code}{c:Col}
section
open Go.RowKit
attribute [local go_sem] am
theorem dA{y:Act->World->Prop}{Q:Exit->Act->World->Prop}{E:Prop}{R:Ending->World->Prop}(x:Operand)(aj:TypeId)(O:o.guard=none)(X:o.op=Op.call { callee:=.value (.func f),args:=#[x],argTypes:=#[aj] })(ah:a.eval x=u0)(M : Tryz.prog.funcs[f]?=some fn)(V : (fn.name== "runtime.NumGoroutine")=false)(hb : fn.body=some code)(J:Calls Tryz.prog f #[u0] w R)(I:∀e w',R e w'->∃ch,e=.panicked ch∧Q (.panic ch) a w')(ak:Value)(_:Hid False->y (a.put o.dst ak) w):
  if Region.wanted o (yielded ops a.tmps)=true then Oper.wp Tryz.prog o a w y Q else E:=by
 have Z:Region.wanted o (yielded ops a.tmps)=true:=by simp[Region.wanted,O]
 rw[if_pos Z];have h1 : fn.name≠ "runtime.NumGoroutine" := by simpa using V
 unfold Oper.wp;have K:(execOp a.eval o).run Tryz.prog w=.ok (.enter f #[u0]) w:=by
  have L:a.eval (.func f)=.func (.func f) #[] #[]:=rfl;simp[execOp,X,resolve,invoke,ah,L,Deferred.ofValue,callFunc,M,h1,hb]
 rw[K,Oper.upon_enter];refine J.mono ?_;intro e w' Y;obtain⟨z,rfl,U⟩:=I e w' Y;exact U
theorem bE{z:Act->World->Prop}{Q:Exit->Act->World->Prop}{E:Prop}{R:Ending->World->Prop}(x:Operand)(ak:TypeId)(U:o.guard=none)(Y:o.op=Op.call { callee:=.value (.func f),args:=#[x],argTypes:=#[ak] })(aj:a.eval x=u0)(O : Tryz.prog.funcs[f]?=some fn)(X : (fn.name== "runtime.NumGoroutine")=false)(hb : fn.body=some code)(K:Calls Tryz.prog f #[u0] w R)(J:∀e w',R e w'->∃y,e=.returned y∧z (a.put o.dst y) w'):
  if Region.wanted o (yielded ops a.tmps)=true then Oper.wp Tryz.prog o a w z Q else E:=by
 have ah:Region.wanted o (yielded ops a.tmps)=true:=by simp[Region.wanted,U]
 rw[if_pos ah];have I : fn.name≠ "runtime.NumGoroutine" := by simpa using X
 unfold Oper.wp;have L:(execOp a.eval o).run Tryz.prog w=.ok (.enter f #[u0]) w:=by
  have M:a.eval (.func f)=.func (.func f) #[] #[]:=rfl;simp[execOp,Y,resolve,invoke,aj,M,Deferred.ofValue,callFunc,O,I,hb]
 rw[L,Oper.upon_enter];refine K.mono ?_;intro e w' Z;obtain⟨y,rfl,V⟩:=J e w' Z;exact V
theorem ev{z:Act->World->Prop}{Q:Exit->Act->World->Prop}{I:Prop}{R:Ending->World->Prop}(x E y:Operand)(a2 a3 a4:TypeId)(V:o.guard=none)(Z:o.op=Op.call { callee:=.value (.func f),args:=#[x,E,y],argTypes:=#[a2,a3,a4] })(ak:a.eval x=u0)(a0:a.eval E=u1)(a1:a.eval y=u2)(U : Tryz.prog.funcs[f]?=some fn)(Y : (fn.name== "runtime.NumGoroutine")=false)(hb : fn.body=some code)(L:Calls Tryz.prog f #[u0,u1,u2] w R)(K:∀e w',R e w'->∃ch,e=.panicked ch∧Q (.panic ch) a w')(a5:Value)(_:Hid False->z (a.put o.dst a5) w):
  if Region.wanted o (yielded ops a.tmps)=true then Oper.wp Tryz.prog o a w z Q else I:=by
 have aj:Region.wanted o (yielded ops a.tmps)=true:=by simp[Region.wanted,V]
 rw[if_pos aj];have J : fn.name≠ "runtime.NumGoroutine" := by simpa using Y
 unfold Oper.wp;have M:(execOp a.eval o).run Tryz.prog w=.ok (.enter f #[u0,u1,u2]) w:=by
  have O:a.eval (.func f)=.func (.func f) #[] #[]:=rfl;simp[execOp,Z,resolve,invoke,ak,a0,a1,O,Deferred.ofValue,callFunc,U,J,hb]
 rw[M,Oper.upon_enter];refine L.mono ?_;intro e w' ah;obtain⟨y,rfl,X⟩:=K e w' ah;exact X
theorem dz{z:Act->World->Prop}{Q:Exit->Act->World->Prop}{I:Prop}{R:Ending->World->Prop}(x E y:Operand)(a2 a3 a4:TypeId)(V:o.guard=none)(Z:o.op=Op.call { callee:=.value (.func f),args:=#[x,E,y],argTypes:=#[a2,a3,a4] })(ak:a.eval x=u0)(a0:a.eval E=u1)(a1:a.eval y=u2)(U : Tryz.prog.funcs[f]?=some fn)(Y : (fn.name== "runtime.NumGoroutine")=false)(hb : fn.body=some code)(L:Calls Tryz.prog f #[u0,u1,u2] w R)(K:∀e w',R e w'->∃y,e=.returned y∧z (a.put o.dst y) w'):
  if Region.wanted o (yielded ops a.tmps)=true then Oper.wp Tryz.prog o a w z Q else I:=by
 have aj:Region.wanted o (yielded ops a.tmps)=true:=by simp[Region.wanted,V]
 rw[if_pos aj];have J : fn.name≠ "runtime.NumGoroutine" := by simpa using Y
 unfold Oper.wp;have M:(execOp a.eval o).run Tryz.prog w=.ok (.enter f #[u0,u1,u2]) w:=by
  have O:a.eval (.func f)=.func (.func f) #[] #[]:=rfl;simp[execOp,Z,resolve,invoke,ak,a0,a1,O,Deferred.ofValue,callFunc,U,J,hb]
 rw[M,Oper.upon_enter];refine L.mono ?_;intro e w' ah;obtain⟨y,rfl,X⟩:=K e w' ah;exact X
structure tz(w W:World)(A R:Nat)(D:AV)(l:L8):Prop where
 b1:W.1[w.1.size+1]?=some (.cells #[.int .i64 0,.int .i64 0,.float .f64 0,.string ⟨#[]⟩,.slice none 0 0] 77 (0,0))
 b2:W.1[w.1.size+1+1]?=some (.cells D 77 (0,0))
 rd:Rdr W A R l
 aside:Aside (fun i=>i=R) w W
 size:w.1.size+3<=W.1.size
theorem du.set{E:AV}(h:du w W A R k E l)(K:R<w.1.size)(m:Nat)(u:Value):tz w (W.setCell ⟨w.1.size+1+1,m,none⟩ u) A R ((#[.int .i64 k,.int .i64 0,.float .f64 0,.string ⟨#[]⟩,.slice none 0 0]:AV).set! m u) l:=by
 have y:Aside (fun i=>i=w.1.size+1+1) W (W.setCell ⟨w.1.size+1+1,m,none⟩ u):=ai _ _ _ _;have J:=h.size;refine⟨?_,an h.b2 m u,h.rd.aside y (fun j z=>by rw[z];omega),h.aside.trans y (fun j z I=>by rw[I] at z;omega),Nat.le_trans J y.size⟩;rw[y.block _ (by omega) (by omega)];exact h.b1
theorem tz.on(h:tz w W A R D l)(hb:Below W.1.size W W'):tz w W' A R D l:=by
 have y:=h.size;exact⟨lg h.b1 hb (by omega),lg h.b2 hb (by omega),h.rd.on hb,h.aside.trans (ae hb (fun _=>False)) (fun _ _ h=>h.elim),Nat.le_trans y hb.size⟩
theorem tO(l:L8)(A R:Nat)(w:World)(p:OA)(n c:Nat)(h:Rdr w A R l):Calls Tryz.prog 166 #[.pointer (some ⟨R,0,none⟩),.agg #[.int .i64 4,.slice p n c]] w (RdA w A R l (Sch.scalar 4 l) (isV w)):=by
 have ah:=h.lt;obtain⟨W,aj⟩:∃W,W=((w.alloc (.cells #[.int .i64 4,.slice p n c] 73)).alloc (.cells #[.int .i64 0,.int .i64 0,.float .f64 0,.string ⟨#[]⟩,.slice none 0 0] 77)).alloc (.cells #[.int .i64 4,.int .i64 0,.float .f64 0,.string ⟨#[]⟩,.slice none 0 0] 77):=⟨_,rfl⟩;have O:Hid (du w W A R 4 #[.int .i64 4,.slice p n c] l):=by rw[aj];exact bU 4 _ h
 have Z:=xX aj;obtain⟨r,a2⟩:∃r,r=Sch.scalar 4 l:=⟨_,rfl⟩;have I:=xX (a2.trans (rz l));rw[<-a2];have E:=xX (uW l A R W O.out.rd);obtain⟨m,a1⟩:∃m,m=Sch.text 1024 2 l:=⟨_,rfl⟩;rw[<-a1] at I E;have a6:=xX a1;clear a2 a1 h aj;cases m with
 |error er=>
  have z:Hid (r=.error er):=I.out;clear I;go_enter Tryz.func166,Tryz.ntmps166;go_wp2_with fail;rw[<-Z.out];refine E.out.mono ?_;intro e w1 K;obtain⟨a0,J⟩:=K.bad;subst a0;clear K;have bd:=xX (O.out.aside.trans J (fun _ _ h=>h));clear J E;go_wp2;rw[z.out];exact⟨rfl,rfl,bd.out⟩
 |ok xj=>
  obtain⟨x,j⟩:=xj;have z:Hid (r=if cK x=false then .error 61 else .ok (.mk 4 0 0 x [],j)):=I.out;have bq:x.size<=1024:=(Sch.text_ok a6.out.symm).1;clear I a6;go_enter Tryz.func166,Tryz.ntmps166;go_wp2_with fail;rw[<-Z.out];refine E.out.mono ?_;intro e w1 K;obtain⟨v,a0,a3,a9,J⟩:=K.good;clear K
  replace a3:v=.string x:=a3
  subst a3;subst a0;have U:=xX (O.out.step J a9 ah);clear J a9 E Z O;have bc:w1.cell? ⟨w.1.size+1+1,3,none⟩=some (.string ⟨#[]⟩):=aa U.out.b2 3;have bn:=ab U.out.b2 3;obtain⟨V,ak⟩:∃V,V=w1.setCell ⟨w.1.size+1+1,3,none⟩ (.string x):=⟨_,rfl⟩;have a5:Hid (tz w V A R #[.int .i64 4,.int .i64 0,.float .f64 0,.string x,.slice none 0 0] (l.drop j)):=by rw[ak];exact U.out.set ah 3 (.string x)
  have Y:=xX (wU x (by omega) V);have a7:=xX ak;obtain⟨bp,bb⟩:∃b,b=cK x:=⟨_,rfl⟩;rw[<-bb] at Y z;clear ak bb;go_wp2_with fail;rw[<-a7.out];refine Y.out.mono ?_;rintro e M ⟨rfl,a8⟩;have y:=xX (a5.out.on a8);clear a8 Y a5 a7 bc bn U;cases bp with
  |false=>
   have X:Hid (r=.error 61):=z.out.trans (if_pos (by first | rfl | trivial));clear z;go_wp2_with fail;refine(cQ _ 61 _).mono ?_;rintro e a4 ⟨rfl,L⟩;rw[L];clear L a4;go_wp2;rw[X.out];exact⟨rfl,rfl,y.out.aside⟩
  |true=>
   have X:Hid (r=.ok (.mk 4 0 0 x [],j)):=z.out.trans (if_neg (by first | decide | simp));clear z;go_wp2_with fail;refine(cP _ 61 _).mono ?_;rintro e a4 ⟨rfl,L⟩;rw[L];clear L a4;obtain⟨bs,bN,bO,bc,bT⟩:=cQ5 y.out.b2;have bX:M.cell? ⟨w.1.size+1,0,none⟩=some (.int .i64 0):=aa y.out.b1 0;have b6:=ab y.out.b1 0;have b0:M.cell? ⟨w.1.size+1,1,none⟩=some (.int .i64 0):=aa y.out.b1 1;have b7:=ab y.out.b1 1;have b3:M.cell? ⟨w.1.size+1,2,none⟩=some (.float .f64 0):=aa y.out.b1 2;have b8:=ab y.out.b1 2;have b4:M.cell? ⟨w.1.size+1,3,none⟩=some (.string ⟨#[]⟩):=aa y.out.b1 3;have b9:=ab y.out.b1 3;have b5:M.cell? ⟨w.1.size+1,4,none⟩=some (.slice none 0 0):=aa y.out.b1 4;have cb:=ab y.out.b1 4;have be:=xX (uJ (k:=4) (i:=0) (b:=0) (t:=x) (q:=none) (n:=0) (c:=0) (x:=.mk 4 0 0 x []) (F:=fun _=>False) (N:=w.1.size+1) ah (by omega) y.out.b1 .none (fun _ h=>h.elim) y.out.rd y.out.aside);go_wp2;obtain⟨f1,bj,bk,bl⟩:=be.out;refine bodyPost_ret (v:=.agg (cells5 4 0 0 x none 0 0)) (results_cell_row rfl _ _ (w.1.size+1) _ _ _ _ rfl f1 Tryz.underlying77 rfl (by kernel_rfl)) rfl ?_;rw[X.out];exact⟨_,rfl,bj,bk,bl⟩
end
section
open Go.RowKit
attribute [local go_sem] am
theorem vS(l:L8):Sch.many 6 l=Sch.bit l:=rfl
theorem vR(l:L8):Sch.many 7 l=bu 256 3 l:=by
 unfold Sch.many bu;rw[if_neg (by decide)];rfl
theorem rQ(k:Int)(h:k=6∨k=7)(x:Ty)(l:L8):Sch.rdV (.mk k [x]) l=ao (Sch.many k l) fun m j=>ao (Sch.rdN (Sch.rdV x) m (l.drop j)) fun z y=>.ok (.mk k 0 0 ⟨#[]⟩ z,j+y):=by
 rw[Sch.rdV_mk,if_neg (by omega)];cases Sch.many k l with
 |error e=>rfl
 |ok p=>
  obtain⟨m,j⟩:=p;rw[aQ];have e:(([x]:List Ty).map Sch.rdV).headD (fun _=>.error 0)=Sch.rdV x:=rfl;dsimp only;rw[e];cases Sch.rdN (Sch.rdV x) m (l.drop j) with
  |error e=>rfl
  |ok q=>rfl
theorem count_le{y z:Nat}{n k:Nat}(h:bu y z l=.ok (n,k)):n<=y:=by
 unfold bu at h;split at h
 ·cases h
 ·split at h
  ·cases h
  ·injection h with h;injection h with h1 _;omega
theorem tM(x:Ty)(bT:mK x)(l:L8)(A R:Nat)(w:World)(u:AV)(bn:ej w R u (.mk 6 [x]))(h:Rdr w A R l):Calls Tryz.prog 166 #[.pointer (some ⟨R,0,none⟩),.agg u] w (RdA w A R l (Sch.rdV (.mk 6 [x]) l) (isV w)):=by
  have Z:=h.lt;obtain⟨g,aj,c,cq,cv,ct,cb,rfl,bp,c7,bs,b5,b6⟩:=bn.one;unfold al;obtain⟨W,a9⟩:∃W,W=((w.alloc (.cells #[.int .i64 6,.slice (some ⟨g,aj,none⟩) 1 c] 73)).alloc (.cells #[.int .i64 0,.int .i64 0,.float .f64 0,.string ⟨#[]⟩,.slice none 0 0] 77)).alloc (.cells #[.int .i64 6,.int .i64 0,.float .f64 0,.string ⟨#[]⟩,.slice none 0 0] 77):=⟨_,rfl⟩;have J:Hid (du w W A R 6 #[.int .i64 6,.slice (some ⟨g,aj,none⟩) 1 c] l):=by rw[a9];exact bU 6 _ h
  have a8:=xX a9;obtain⟨r,bc⟩:∃r,r=Sch.rdV (.mk 6 [x]) l:=⟨_,rfl⟩;have bk:=xX (bc.trans (rQ 6 (by omega) x l));rw[<-bc];have V:Hid (r=ao (Sch.bit l) fun m j=>ao (Sch.rdN (Sch.rdV x) m (l.drop j)) fun L ah=>.ok (.mk 6 0 0 ⟨#[]⟩ L,j+ah)):=by show _=_;rw[bk.out,vS]
  have a1:Hid (Calls Tryz.prog 165 #[.pointer (some ⟨R,0,none⟩)] W.drew (RdA W A R l (Sch.bit l) isI)):=(sZ l A R W.drew J.out.rd.drew).mono fun _ _ h=>h.undrew;have be:=xX bp;have bl:=xX bT
  -- the cells that are read,wherever only the reader has changed
  have a4:Hid (∀W',Aside (fun i=>i=R) W W'->W'.cell? ⟨w.1.size,1,none⟩=some (.slice (some ⟨g,aj,none⟩) 1 c)∧W'.cell? ⟨g,aj,none⟩=some (.int .i64 cq)∧W'.cell? ⟨g,aj+1,none⟩=some (.slice cv ct cb)):=fun W' y=>by
    have c8:=J.out.size;have bq:g<W.1.size:=(by omega);refine⟨?_,?_,?_⟩
    · rw[y.cell (show w.1.size<W.1.size by omega) (show ¬w.1.size=R by omega)];exact aa J.out.b0 1
    · rw[y.cell (show g<W.1.size from bq) (show ¬g=R by omega),J.out.aside.cell bs (show ¬g=R by omega)];exact b5
    · rw[y.cell (show g<W.1.size from bq) (show ¬g=R by omega),J.out.aside.cell bs (show ¬g=R by omega)];exact b6
  obtain⟨cy,c5,c6⟩:=a4.out W (Aside.refl _ _);have cw:W.cell? ⟨w.1.size+1+1,4,none⟩=some (.slice none 0 0):=aa J.out.b2 4;have cx:=ab J.out.b2 4;obtain⟨cs,bb⟩:∃m,m=Sch.bit l:=⟨_,rfl⟩;rw[<-bb] at V a1;have bj:=xX bb;clear bc bb h a9 bp bT b5 b6 bn bk;cases cs with
  |error er=>
    have a6:Hid (∀z,Aside (fun i=>i=R) W z->RdA w A R l r (isV w) (.panicked (ei er)) z):=fun z y=>by
      have e:r=.error er:=V.out;rw[e];exact⟨rfl,J.out.aside.trans y (fun _ _ h=>h)⟩
    clear V;go_enter Tryz.func166,Tryz.ntmps166;go_wp2_with fail;rw[<-a8.out]
    go_region_law (first|(refine dA (.tmp 45) 176 (by rfl) (by rfl) (by rfl) Tryz.func165 (by kernel_rfl) (by rfl) a1.out (fun e z I=>⟨_,I.bad.1,rfl,a6.out z I.bad.2⟩) (.int .i64 0) ?_;intro a3)|(refine cM a3 (.slice none 0 0) ?_))
    all_goals exact a3.out.elim
  |ok mj=>
    obtain⟨m,j⟩:=mj;have co:m<=256:=(by have:=(Sch.bit_ok bj.out.symm).1;omega);have X:Hid (r=ao (Sch.rdN (Sch.rdV x) m (l.drop j)) fun L ah=>.ok (.mk 6 0 0 ⟨#[]⟩ L,j+ah)):=V.out;have a2:=xX (fun w1 (y:Aside (fun i=>i=R) W w1) (K:Rdr w1 A R (l.drop j))=>sP x bl.out m co (l.drop j) A R w1 _ ((be.out.aside J.out.aside).aside y) K);unfold al at a2;obtain⟨bd,bN⟩:∃bd,bd=Sch.rdN (Sch.rdV x) m (l.drop j):=⟨_,rfl⟩;rw[<-bN] at X a2;clear V bN bj bl be;cases bd with
    |error er=>
      have a6:Hid (∀w1 z,Aside (fun i=>i=R) W w1->Aside (fun i=>i=R) w1 z->RdA w A R l r (isV w) (.panicked (ei er)) z):=fun w1 z y ck=>by
        have e:r=.error er:=X.out;rw[e];exact⟨rfl,(J.out.aside.trans y (fun _ _ h=>h)).trans ck (fun _ _ h=>h)⟩
      clear X;go_enter Tryz.func166,Tryz.ntmps166;go_wp2_with fail;rw[<-a8.out]
      go_region_law (first
        | (refine bE (.tmp 45) 176 (by rfl) (by rfl) (by rfl) Tryz.func165 (by kernel_rfl) (by rfl) a1.out ?_;intro e w1 I;obtain⟨v,O,M,K,y⟩:=I.good;clear I
           replace M:v=.int .i64 (m:Nat):=M
           subst M;refine⟨_,O,?_⟩;clear O;have a0:=xX y;have a7:=xX K;obtain⟨bX,b3,b4⟩:=a4.out w1 y;have U:=xX (J.out.step y K Z);have df:w1.cell? ⟨w.1.size+1+1,4,none⟩=some (.slice none 0 0):=aa U.out.b2 4;have dp:=ab U.out.b2 4;clear y K)
        | (refine ev (.tmp 44) (.tmp 46) (.tmp 50) 176 3 73 (by rfl) (by rfl) (by rfl) (by rfl) (by rfl) Tryz.func183 (by kernel_rfl) (by rfl) (a2.out w1 a0.out a7.out) (fun e z I=>⟨_,I.bad.1,rfl,a6.out w1 z a0.out I.bad.2⟩) (.slice none 0 0) ?_;intro a3))
      all_goals exact a3.out.elim
    |ok vj=>
      obtain⟨L,ah⟩:=vj;have b9:Hid (r=.ok (.mk 6 0 0 ⟨#[]⟩ L,j+ah)):=X.out;clear X;go_enter Tryz.func166,Tryz.ntmps166;go_wp2_with fail;rw[<-a8.out]
      go_region_law (first
        | (refine bE (.tmp 45) 176 (by rfl) (by rfl) (by rfl) Tryz.func165 (by kernel_rfl) (by rfl) a1.out ?_;intro e w1 I;obtain⟨v,O,M,K,y⟩:=I.good;clear I
           replace M:v=.int .i64 (m:Nat):=M
           subst M;refine⟨_,O,?_⟩;clear O;have a0:=xX y;have a7:=xX K;obtain⟨bX,b3,b4⟩:=a4.out w1 y;have U:=xX (J.out.step y K Z);clear y K)
        | (refine dz (.tmp 44) (.tmp 46) (.tmp 50) 176 3 73 (by rfl) (by rfl) (by rfl) (by rfl) (by rfl) Tryz.func183 (by kernel_rfl) (by rfl) (a2.out w1 a0.out a7.out) ?_;intro e z I;obtain⟨v,O,M,K,y⟩:=I.good;obtain⟨ak,Y,cp,bO⟩:=M.open;clear I M;subst cp;refine⟨_,O,?_⟩;clear O;have E:=xX (U.out.step y K Z);have b8:=xX bO;have c9:=U.out.size;have dd:=y.size;have eb:z.cell? ⟨w.1.size+1+1,4,none⟩=some (.slice none 0 0):=aa E.out.b2 4;have ec:=ab E.out.b2 4;clear y K bO))
      all_goals
        have a5:=xX (E.out.set Z 4 (.slice ak L.length Y));have b7:=xX (uJ (k:=6) (i:=0) (b:=0) (t:=⟨#[]⟩) (q:=ak) (n:=L.length) (c:=Y) (x:=.mk 6 0 0 ⟨#[]⟩ L) (N:=w.1.size+1) Z (by omega) a5.out.b1 ((b8.out 6).aside (ai z (w.1.size+1+1) 4 (.slice ak L.length Y)) (fun i cn O=>by omega)) (fun i cn=>⟨by omega,by have:=(ai z (w.1.size+1+1) 4 (.slice ak L.length Y)).size;omega⟩) a5.out.rd a5.out.aside);obtain⟨d7,d8,d9,ea,-⟩:=cQ5 E.out.b2;have dr:z.cell? ⟨w.1.size+1,0,none⟩=some (.int .i64 0):=aa E.out.b1 0;have d2:=ab E.out.b1 0;have ds:z.cell? ⟨w.1.size+1,1,none⟩=some (.int .i64 0):=aa E.out.b1 1;have d3:=ab E.out.b1 1;have dv:z.cell? ⟨w.1.size+1,2,none⟩=some (.float .f64 0):=aa E.out.b1 2;have d4:=ab E.out.b1 2;have d0:z.cell? ⟨w.1.size+1,3,none⟩=some (.string ⟨#[]⟩):=aa E.out.b1 3;have d5:=ab E.out.b1 3;have d1:z.cell? ⟨w.1.size+1,4,none⟩=some (.slice none 0 0):=aa E.out.b1 4;have d6:=ab E.out.b1 4;clear cy c5 c6 cw cx bX b3 b4;go_wp2;obtain⟨f1,cc,ci,cj⟩:=b7.out;refine bodyPost_ret (v:=.agg (cells5 6 0 0 ⟨#[]⟩ ak L.length Y)) (results_cell_row rfl _ _ (w.1.size+1) _ _ _ _ rfl f1 Tryz.underlying77 rfl (by kernel_rfl)) rfl ?_;rw[b9.out];refine⟨_,rfl,cc,?_,cj⟩;rw[<-List.drop_drop];exact ci
theorem tL(x:Ty)(bT:mK x)(l:L8)(A R:Nat)(w:World)(u:AV)(bn:ej w R u (.mk 7 [x]))(h:Rdr w A R l):Calls Tryz.prog 166 #[.pointer (some ⟨R,0,none⟩),.agg u] w (RdA w A R l (Sch.rdV (.mk 7 [x]) l) (isV w)):=by
  have Z:=h.lt;obtain⟨g,aj,c,cq,cv,ct,cb,rfl,bp,c7,bs,b5,b6⟩:=bn.one;unfold al;obtain⟨W,a9⟩:∃W,W=((w.alloc (.cells #[.int .i64 7,.slice (some ⟨g,aj,none⟩) 1 c] 73)).alloc (.cells #[.int .i64 0,.int .i64 0,.float .f64 0,.string ⟨#[]⟩,.slice none 0 0] 77)).alloc (.cells #[.int .i64 7,.int .i64 0,.float .f64 0,.string ⟨#[]⟩,.slice none 0 0] 77):=⟨_,rfl⟩;have J:Hid (du w W A R 7 #[.int .i64 7,.slice (some ⟨g,aj,none⟩) 1 c] l):=by rw[a9];exact bU 7 _ h
  have a8:=xX a9;obtain⟨r,bc⟩:∃r,r=Sch.rdV (.mk 7 [x]) l:=⟨_,rfl⟩;have bk:=xX (bc.trans (rQ 7 (by omega) x l));rw[<-bc];have V:Hid (r=ao (bu 256 3 l) fun m j=>ao (Sch.rdN (Sch.rdV x) m (l.drop j)) fun L ah=>.ok (.mk 7 0 0 ⟨#[]⟩ L,j+ah)):=by show _=_;rw[bk.out,vR]
  have a1:Hid (Calls Tryz.prog 130 #[.pointer (some ⟨R,0,none⟩),.int .u64 256,.int .i64 3] W.drew (RdA W A R l (bu 256 3 l) isI)):=(kU 256 3 (by omega) l A R W.drew J.out.rd.drew).mono fun _ _ h=>h.undrew;have be:=xX bp;have bl:=xX bT
  -- the cells that are read,wherever only the reader has changed
  have a4:Hid (∀W',Aside (fun i=>i=R) W W'->W'.cell? ⟨w.1.size,1,none⟩=some (.slice (some ⟨g,aj,none⟩) 1 c)∧W'.cell? ⟨g,aj,none⟩=some (.int .i64 cq)∧W'.cell? ⟨g,aj+1,none⟩=some (.slice cv ct cb)):=fun W' y=>by
    have c8:=J.out.size;have bq:g<W.1.size:=(by omega);refine⟨?_,?_,?_⟩
    · rw[y.cell (show w.1.size<W.1.size by omega) (show ¬w.1.size=R by omega)];exact aa J.out.b0 1
    · rw[y.cell (show g<W.1.size from bq) (show ¬g=R by omega),J.out.aside.cell bs (show ¬g=R by omega)];exact b5
    · rw[y.cell (show g<W.1.size from bq) (show ¬g=R by omega),J.out.aside.cell bs (show ¬g=R by omega)];exact b6
  obtain⟨cy,c5,c6⟩:=a4.out W (Aside.refl _ _);have cw:W.cell? ⟨w.1.size+1+1,4,none⟩=some (.slice none 0 0):=aa J.out.b2 4;have cx:=ab J.out.b2 4;obtain⟨cs,bb⟩:∃m,m=bu 256 3 l:=⟨_,rfl⟩;rw[<-bb] at V a1;have bj:=xX bb;clear bc bb h a9 bp bT b5 b6 bn bk;cases cs with
  |error er=>
    have a6:Hid (∀z,Aside (fun i=>i=R) W z->RdA w A R l r (isV w) (.panicked (ei er)) z):=fun z y=>by
      have e:r=.error er:=V.out;rw[e];exact⟨rfl,J.out.aside.trans y (fun _ _ h=>h)⟩
    clear V;go_enter Tryz.func166,Tryz.ntmps166;go_wp2_with fail;rw[<-a8.out]
    go_region_law (first|(refine ev (.tmp 56) (.const (.int .u64 256)) (.const (.int .i64 3)) 176 143 29 (by rfl) (by rfl) (by rfl) (by rfl) (by rfl) Tryz.func130 (by kernel_rfl) (by rfl) a1.out (fun e z I=>⟨_,I.bad.1,rfl,a6.out z I.bad.2⟩) (.int .i64 0) ?_;intro a3)|(refine cM a3 (.slice none 0 0) ?_))
    all_goals exact a3.out.elim
  |ok mj=>
    obtain⟨m,j⟩:=mj;have co:m<=256:=count_le bj.out.symm;have X:Hid (r=ao (Sch.rdN (Sch.rdV x) m (l.drop j)) fun L ah=>.ok (.mk 7 0 0 ⟨#[]⟩ L,j+ah)):=V.out;have a2:=xX (fun w1 (y:Aside (fun i=>i=R) W w1) (K:Rdr w1 A R (l.drop j))=>sP x bl.out m co (l.drop j) A R w1 _ ((be.out.aside J.out.aside).aside y) K);unfold al at a2;obtain⟨bd,bN⟩:∃bd,bd=Sch.rdN (Sch.rdV x) m (l.drop j):=⟨_,rfl⟩;rw[<-bN] at X a2;clear V bN bj bl be;cases bd with
    |error er=>
      have a6:Hid (∀w1 z,Aside (fun i=>i=R) W w1->Aside (fun i=>i=R) w1 z->RdA w A R l r (isV w) (.panicked (ei er)) z):=fun w1 z y ck=>by
        have e:r=.error er:=X.out;rw[e];exact⟨rfl,(J.out.aside.trans y (fun _ _ h=>h)).trans ck (fun _ _ h=>h)⟩
      clear X;go_enter Tryz.func166,Tryz.ntmps166;go_wp2_with fail;rw[<-a8.out]
      go_region_law (first
        | (refine dz (.tmp 56) (.const (.int .u64 256)) (.const (.int .i64 3)) 176 143 29 (by rfl) (by rfl) (by rfl) (by rfl) (by rfl) Tryz.func130 (by kernel_rfl) (by rfl) a1.out ?_;intro e w1 I;obtain⟨v,O,M,K,y⟩:=I.good;clear I
           replace M:v=.int .i64 (m:Nat):=M
           subst M;refine⟨_,O,?_⟩;clear O;have a0:=xX y;have a7:=xX K;obtain⟨bX,b3,b4⟩:=a4.out w1 y;have U:=xX (J.out.step y K Z);have df:w1.cell? ⟨w.1.size+1+1,4,none⟩=some (.slice none 0 0):=aa U.out.b2 4;have dp:=ab U.out.b2 4;clear y K)
        | (refine ev (.tmp 55) (.tmp 57) (.tmp 61) 176 3 73 (by rfl) (by rfl) (by rfl) (by rfl) (by rfl) Tryz.func183 (by kernel_rfl) (by rfl) (a2.out w1 a0.out a7.out) (fun e z I=>⟨_,I.bad.1,rfl,a6.out w1 z a0.out I.bad.2⟩) (.slice none 0 0) ?_;intro a3))
      all_goals exact a3.out.elim
    |ok vj=>
      obtain⟨L,ah⟩:=vj;have b9:Hid (r=.ok (.mk 7 0 0 ⟨#[]⟩ L,j+ah)):=X.out;clear X;go_enter Tryz.func166,Tryz.ntmps166;go_wp2_with fail;rw[<-a8.out]
      go_region_law (first
        | (refine dz (.tmp 56) (.const (.int .u64 256)) (.const (.int .i64 3)) 176 143 29 (by rfl) (by rfl) (by rfl) (by rfl) (by rfl) Tryz.func130 (by kernel_rfl) (by rfl) a1.out ?_;intro e w1 I;obtain⟨v,O,M,K,y⟩:=I.good;clear I
           replace M:v=.int .i64 (m:Nat):=M
           subst M;refine⟨_,O,?_⟩;clear O;have a0:=xX y;have a7:=xX K;obtain⟨bX,b3,b4⟩:=a4.out w1 y;have U:=xX (J.out.step y K Z);clear y K)
        | (refine dz (.tmp 55) (.tmp 57) (.tmp 61) 176 3 73 (by rfl) (by rfl) (by rfl) (by rfl) (by rfl) Tryz.func183 (by kernel_rfl) (by rfl) (a2.out w1 a0.out a7.out) ?_;intro e z I;obtain⟨v,O,M,K,y⟩:=I.good;obtain⟨ak,Y,cp,bO⟩:=M.open;clear I M;subst cp;refine⟨_,O,?_⟩;clear O;have E:=xX (U.out.step y K Z);have b8:=xX bO;have c9:=U.out.size;have dd:=y.size;have eb:z.cell? ⟨w.1.size+1+1,4,none⟩=some (.slice none 0 0):=aa E.out.b2 4;have ec:=ab E.out.b2 4;clear y K bO))
      all_goals
        have a5:=xX (E.out.set Z 4 (.slice ak L.length Y));have b7:=xX (uJ (k:=7) (i:=0) (b:=0) (t:=⟨#[]⟩) (q:=ak) (n:=L.length) (c:=Y) (x:=.mk 7 0 0 ⟨#[]⟩ L) (N:=w.1.size+1) Z (by omega) a5.out.b1 ((b8.out 7).aside (ai z (w.1.size+1+1) 4 (.slice ak L.length Y)) (fun i cn O=>by omega)) (fun i cn=>⟨by omega,by have:=(ai z (w.1.size+1+1) 4 (.slice ak L.length Y)).size;omega⟩) a5.out.rd a5.out.aside);obtain⟨d7,d8,d9,ea,-⟩:=cQ5 E.out.b2;have dr:z.cell? ⟨w.1.size+1,0,none⟩=some (.int .i64 0):=aa E.out.b1 0;have d2:=ab E.out.b1 0;have ds:z.cell? ⟨w.1.size+1,1,none⟩=some (.int .i64 0):=aa E.out.b1 1;have d3:=ab E.out.b1 1;have dv:z.cell? ⟨w.1.size+1,2,none⟩=some (.float .f64 0):=aa E.out.b1 2;have d4:=ab E.out.b1 2;have d0:z.cell? ⟨w.1.size+1,3,none⟩=some (.string ⟨#[]⟩):=aa E.out.b1 3;have d5:=ab E.out.b1 3;have d1:z.cell? ⟨w.1.size+1,4,none⟩=some (.slice none 0 0):=aa E.out.b1 4;have d6:=ab E.out.b1 4;clear cy c5 c6 cw cx bX b3 b4;go_wp2;obtain⟨f1,cc,ci,cj⟩:=b7.out;refine bodyPost_ret (v:=.agg (cells5 7 0 0 ⟨#[]⟩ ak L.length Y)) (results_cell_row rfl _ _ (w.1.size+1) _ _ _ _ rfl f1 Tryz.underlying77 rfl (by kernel_rfl)) rfl ?_;rw[b9.out];refine⟨_,rfl,cc,?_,cj⟩;rw[<-List.drop_drop];exact ci
theorem vE:∀(t:Ty) (d:Nat),Ty.check d t=0->mK t:=by
 intro t;refine Ty.ind (P:=fun t=>∀d,Ty.check d t=0->mK t) ?_ t;intro k xs K d hd l A R w u E h;obtain⟨-,V,M⟩:=Sch.ty_open hd;rcases M with ⟨I,rfl⟩ | ⟨I,x,rfl,J⟩
 ·obtain⟨z,p,n,c,rfl⟩:=E.shape;obtain⟨F,U,-⟩:=E.out;have O:z=k:=by
   obtain⟨p2,c2,y,-⟩:=U.lies.open;simp only[al] at y;injection y with y;injection y with y _;injection y with _ y
  subst O;rw[Sch.rdV_mk,if_pos (by omega)];unfold al;have L:z=1∨z=2∨z=3∨z=4∨z=5:=by omega
  rcases L with rfl | rfl | rfl | rfl | rfl
  ·exact tR l A R w p n c h
  ·exact tQ l A R w p n c h
  ·exact tP l A R w p n c h
  ·exact tO l A R w p n c h
  ·exact tN l A R w p n c h
 ·rcases I with rfl | rfl
  ·exact tM x (K x (by simp) (d+1) J) l A R w u E h
  ·exact tL x (K x (by simp) (d+1) J) l A R w u E h
end
section
open Go.RowKit
attribute [local go_sem] am
def kX(s:ByteArray)(l:L8):Except Nat (Col×Nat):=ao (Sch.rdT 4 l) fun t j2=>ao (Sch.bit (l.drop j2)) fun h j3=>if h=0 then .ok (⟨s,t,false,V0⟩,j2+j3) else ao (Sch.rdV t (l.drop (j2+j3))) fun v j4=>.ok (⟨s,t,true,v⟩,j2+j3+j4)
def isC(w:World)(c:Col)(v:Value)(w':World):Prop:=∃u,v=.agg u∧cG w' (fun k=>w.1.size<=k∧k<w'.1.size) u c
theorem isC.open{w':World}{v:Value}(h:isC w c v w'):∃u,v=.agg u∧cG w' (fun k=>w.1.size<=k∧k<w'.1.size) u c:=h
theorem xC{wr:World}{n:ByteArray}{J:OA}{I E:Nat}{h:Bool}{O M:Int}{K:Nat}{X:ByteArray}{V:OA}{U L:Nat}{F:Nat->Prop}(a1:R<w.1.size)(ak:wr.1[w.1.size]?=some (.cells #[.string ⟨#[]⟩,.int .i64 0,.slice none 0 0,.bool false,.int .i64 0,.int .i64 0,.float .f64 0,.string ⟨#[]⟩,.slice none 0 0] 79 (0,0)))(a5:w.1.size+1<=wr.1.size)(a3:cG wr F (av n k J I E h O M K X V U L) c)(a0:∀j,F j->w.1.size+1<=j∧j<wr.1.size)(a4:Rdr wr A R l)(a2:Aside (fun i=>i=R) w wr){P:World}(ah:P=nM wr w.1.size n k (.slice J I E) h O M K X (.slice V U L)):
  P.1[w.1.size]?=some (.cells (av n k J I E h O M K X V U L) 79 (0,0))∧isC w c (.agg (av n k J I E h O M K X V U L)) P∧Rdr P A R l∧Aside (fun i=>i=R) w P:=by
 obtain⟨a7,a6,y,aj⟩:=a2.split a1;obtain⟨Y,Z,z⟩:=bV (w:=a7) (w1:=wr) (by rw[y];exact ak) aj (by rw[y];exact a5) a3 (by rw[y];exact a0);rw[y] at Y Z z;rw[<-ah] at Y Z z;refine⟨Y,⟨_,rfl,Z⟩,a4.keep (fun j a8=>?_) ?_,a6.trans (ae (by rw[y];exact z) (fun _=>False)) (fun _ _ h=>h.elim)⟩
 ·rw[z.block j (by omega),aj.block j (by omega)]
 ·rw[ah];simp[nM,World.setCell]
structure fk(w W:World)(A R T:Nat)(D:AV)(l:L8):Prop where
 bN:W.1[w.1.size]?=some (.cells #[.string ⟨#[]⟩,.int .i64 0,.slice none 0 0,.bool false,.int .i64 0,.int .i64 0,.float .f64 0,.string ⟨#[]⟩,.slice none 0 0] 79 (0,0))
 bT:W.1[T]?=some (.cells D 79 (0,0))
 rd:Rdr W A R l
 aside:Aside (fun i=>i=R) w W
 low:R<w.1.size
 mid:w.1.size<T
theorem fk.lt(h:fk w W A R T D l):T<W.1.size:=az h.bT
theorem fk.step{l':L8}(h:fk w W A R T D l)(y:Aside (fun i=>i=R) W W')(J:Rdr W' A R l'):fk w W' A R T D l':=by
 have z:=h.lt;have E:=h.mid;have I:=h.low;exact⟨by rw[y.block _ (by omega) (by omega)];exact h.bN,by rw[y.block _ z (by omega)];exact h.bT,J,h.aside.trans y (fun _ _ h=>h),I,E⟩
theorem fk.set(h:fk w W A R T D l)(m:Nat)(u:Value):fk w (W.setCell ⟨T,m,none⟩ u) A R T (D.set! m u) l:=by
 have K:=h.lt;have E:=h.mid;have I:=h.low;have y:Aside (fun i=>i=T) W (W.setCell ⟨T,m,none⟩ u):=ai _ _ _ _;exact⟨by rw[y.block _ (by omega) (by omega)];exact h.bN,an h.bT m u,h.rd.aside y (fun j z=>by rw[z];omega),h.aside.trans y (fun j z J=>by rw[J] at z;omega),I,E⟩
theorem uO(K:ByteArray)(l:L8)(A R:Nat)(w:World)(h:Rdr w A R l):Calls Tryz.prog 132 #[.pointer (some ⟨R,0,none⟩),.string K] w (RdA w A R l (kX K l) (isC w)):=by
 have ct:=h.lt;obtain⟨ah,b5⟩:∃ah,ah=w.alloc (.cells #[.string ⟨#[]⟩,.int .i64 0,.slice none 0 0,.bool false,.int .i64 0,.int .i64 0,.float .f64 0,.string ⟨#[]⟩,.slice none 0 0] 79):=⟨_,rfl⟩;have bO:Hid (Below w.1.size w ah):=by rw[b5];exact xV
 have b9:Hid (ah.1[w.1.size]?=some (.cells #[.string ⟨#[]⟩,.int .i64 0,.slice none 0 0,.bool false,.int .i64 0,.int .i64 0,.float .f64 0,.string ⟨#[]⟩,.slice none 0 0] 79 (0,0))):=by rw[b5];exact ag w _
 have ci:=xX b5;have bj:=xX (tU 4 1 l A R ah rfl (h.on bO.out));obtain⟨r,cx⟩:∃r,r=kX K l:=⟨_,rfl⟩;have bn:Hid (r=ao (Sch.rdT 4 l) fun t J=>ao (Sch.bit (l.drop J)) fun h L=>if h=0 then .ok (⟨K,t,false,V0⟩,J+L) else ao (Sch.rdV t (l.drop (J+L))) fun v ak=>.ok (⟨K,t,true,v⟩,J+L+ak)):=cx;rw[<-cx];obtain⟨eS,cw⟩:∃m,m=Sch.rdT 4 l:=⟨_,rfl⟩;rw[<-cw] at bn bj;have dd:=xX cw;clear cx cw h b5;cases eS with
 |error er=>
  have a0:Hid (r=.error er):=bn.out;clear bn;go_enter Tryz.func132,Tryz.ntmps132;go_wp2_with fail;rw[<-ci.out];refine bj.out.mono ?_;intro e w1 O;obtain⟨Z,I⟩:=O.bad;subst Z;clear O;have be:=xX ((ae bO.out _).trans I (fun _ _ h=>h));clear I bj;go_wp2;rw[a0.out];exact⟨rfl,rfl,be.out⟩
 |ok tj=>
  obtain⟨t,J⟩:=tj;have bp:Hid (r=ao (Sch.bit (l.drop J)) fun h L=>if h=0 then .ok (⟨K,t,false,V0⟩,J+L) else ao (Sch.rdV t (l.drop (J+L))) fun v ak=>.ok (⟨K,t,true,v⟩,J+L+ak)):=bn.out;have d3:Hid (Ty.check 1 t=0):=(Sch.rdT_ok 4 _ _ _ (by omega) dd.out.symm).2.2.1;clear bn dd;go_enter Tryz.func132,Tryz.ntmps132;go_wp2_with fail;rw[<-ci.out];refine bj.out.mono ?_;intro e w1 O;obtain⟨v,Z,aj,a1,I⟩:=O.good;obtain⟨u,cy,a4⟩:=aj.open;clear O aj;obtain⟨k,X,V,U,ez⟩:=a4.shape;subst ez;subst cy;subst Z;unfold al;have b3:=az b9.out;have d1:w.1.size<w1.1.size:=Nat.lt_of_lt_of_le b3 I.size;have f4:w.1.size+1<=ah.1.size:=b3;have c5:=xX ((ae bO.out (fun i=>i=R)).trans I (fun _ _ h=>h));have df:Hid (w1.1[w.1.size]?=some (.cells #[.string ⟨#[]⟩,.int .i64 0,.slice none 0 0,.bool false,.int .i64 0,.int .i64 0,.float .f64 0,.string ⟨#[]⟩,.slice none 0 0] 79 (0,0))):=by
   show _=_;rw[I.block _ b3 (by omega)];exact b9.out
  obtain⟨W,b4⟩:∃W,W=w1.alloc (.cells #[.string K,.int .i64 k,.slice X V U,.bool false,.int .i64 0,.int .i64 0,.float .f64 0,.string ⟨#[]⟩,.slice none 0 0] 79):=⟨_,rfl⟩;have bX:Hid (Below w1.1.size w1 W):=by rw[b4];exact xV
  have bk:Hid (fk w W A R w1.1.size #[.string K,.int .i64 k,.slice X V U,.bool false,.int .i64 0,.int .i64 0,.float .f64 0,.string ⟨#[]⟩,.slice none 0 0] (l.drop J)):=by
   refine⟨lg df.out bX.out d1,by rw[b4];exact ag w1 _,a1.on bX.out,c5.out.trans (ae bX.out (fun _=>False)) (fun _ _ h=>h.elim),ct,d1⟩
  -- the type,wherever the reader and the column alone have fr
  have cb:Hid (∀W' (F:Nat->Prop),(∀j,F j->j=R∨w1.1.size<=j)->Aside F W W'->aY W' (fun j=>ah.1.size<=j∧j<w1.1.size) (al k X V U) t):=fun W' F ep eq=>
   (a4.under bX.out (fun j M=>M.2)).aside eq (fun j M eu=>by
    rcases ep j eu with b2 | b2
    ·omega
    ·omega)
  have b0:=xX (sZ (l.drop J) A R W bk.out.rd);have ds:=xX b4;obtain⟨eL,cv⟩:∃m,m=Sch.bit (l.drop J):=⟨_,rfl⟩;rw[<-cv] at bp b0;have c9:=xX cv;clear I a1 a4 bj b9 df c5 ci bO b4 cv b3;go_wp2_with fail;rw[<-ds.out];clear ds;refine b0.out.mono ?_;intro e E O;cases eL with
  |error er=>
   have a0:Hid (r=.error er):=bp.out;obtain⟨Z,I⟩:=O.bad;subst Z;clear O bp;have be:=xX (bk.out.aside.trans I (fun _ _ h=>h));clear I b0;go_wp2;rw[a0.out];exact⟨rfl,rfl,be.out⟩
  |ok M=>
   obtain⟨bq,L⟩:=M;have f3:bq<=1:=(Sch.bit_ok c9.out.symm).1;have a0:Hid (r=if bq=0 then .ok (⟨K,t,false,V0⟩,J+L) else ao (Sch.rdV t (l.drop (J+L))) fun v ak=>.ok (⟨K,t,true,v⟩,J+L+ak)):=bp.out;obtain⟨v,Z,aj,a1,I⟩:=O.good;clear O bp c9
   replace aj:v=.int .i64 (bq:Nat):=aj
   subst aj;subst Z;have b8:=xX I;have y:=xX (bk.out.step I a1);have f8:w1.1.size<W.1.size:=bk.out.lt;clear I a1 b0 bk;have dv:E.cell? ⟨w1.1.size,3,none⟩=some (.bool false):=aa y.out.bT 3;have em:=ab y.out.bT 3;have ew:bq=0∨bq=1:=(by omega);rcases ew with en | b2
   ·subst en;have a2:Hid (r=.ok (⟨K,t,false,V0⟩,J+L)):=a0.out.trans (if_pos rfl);clear a0;have Y:=xX (y.out.set 3 (.bool false));have d2:Hid (cG (E.setCell ⟨w1.1.size,3,none⟩ (.bool false)) (fun j=>ah.1.size<=j∧j<w1.1.size) (av K k X V U false 0 0 0 ⟨#[]⟩ none 0 0) ⟨K,t,false,V0⟩):=by
     refine⟨fun j=>ah.1.size<=j∧j<w1.1.size,fun _=>False,k,X,V,U,0,0,0,⟨#[]⟩,none,0,0,rfl,?_,bg.none,fun _ h=>h,fun _ h=>h.elim,fun _ _ h=>h⟩;exact cb.out _ (fun j=>j=R∨j=w1.1.size) (fun j M=>M.elim .inl (fun h=>.inr (by omega))) ((b8.out.mono (fun _ _ h=>.inl h)).trans (ai E w1.1.size 3 (.bool false)) (fun _ _ h=>.inr h))
    have b1:=xX (fun P cs=>xC (P:=P) ct Y.out.bN (by have:=Y.out.lt;have:=Y.out.mid;omega) d2.out (fun j M=>⟨by omega,by have:=Y.out.lt;omega⟩) Y.out.rd Y.out.aside cs);have d8:E.cell? ⟨w1.1.size,0,none⟩=some (.string K):=aa y.out.bT 0;have ck:E.cell? ⟨w1.1.size,1,none⟩=some (.int .i64 k):=aa y.out.bT 1;have cn:E.cell? ⟨w1.1.size,2,none⟩=some (.slice X V U):=aa y.out.bT 2;have d9:E.cell? ⟨w1.1.size,4,none⟩=some (.int .i64 0):=aa y.out.bT 4;have ea:E.cell? ⟨w1.1.size,5,none⟩=some (.int .i64 0):=aa y.out.bT 5;have eb:E.cell? ⟨w1.1.size,6,none⟩=some (.float .f64 0):=aa y.out.bT 6;have ec:E.cell? ⟨w1.1.size,7,none⟩=some (.string ⟨#[]⟩):=aa y.out.bT 7;have el:E.cell? ⟨w1.1.size,8,none⟩=some (.slice none 0 0):=aa y.out.bT 8;have eU:E.cell? ⟨w.1.size,0,none⟩=some (.string ⟨#[]⟩):=aa y.out.bN 0;have e3:=ab y.out.bN 0;have e0:E.cell? ⟨w.1.size,1,none⟩=some (.int .i64 0):=aa y.out.bN 1;have e4:=ab y.out.bN 1;have e1:E.cell? ⟨w.1.size,2,none⟩=some (.slice none 0 0):=aa y.out.bN 2;have e5:=ab y.out.bN 2;have e2:E.cell? ⟨w.1.size,3,none⟩=some (.bool false):=aa y.out.bN 3;have e6:=ab y.out.bN 3;have n4:E.cell? ⟨w.1.size,4,none⟩=some (.int .i64 0):=aa y.out.bN 4;have e7:=ab y.out.bN 4;have n5:E.cell? ⟨w.1.size,5,none⟩=some (.int .i64 0):=aa y.out.bN 5;have e8:=ab y.out.bN 5;have n6:E.cell? ⟨w.1.size,6,none⟩=some (.float .f64 0):=aa y.out.bN 6;have e9:=ab y.out.bN 6;have n7:E.cell? ⟨w.1.size,7,none⟩=some (.string ⟨#[]⟩):=aa y.out.bN 7;have fi:=ab y.out.bN 7
    have n8:E.cell? ⟨w.1.size,8,none⟩=some (.slice none 0 0):=aa y.out.bN 8;have fo:=ab y.out.bN 8;go_wp2;obtain⟨f1,co,cp,cq⟩:=b1.out _ rfl;refine bodyPost_ret (v:=.agg (av K k X V U false 0 0 0 ⟨#[]⟩ none 0 0)) (results_cell_row rfl _ _ w.1.size _ _ _ _ rfl f1 Tryz.underlying79 rfl (by kernel_rfl)) rfl ?_;rw[a2.out];refine⟨_,rfl,co,?_,cq⟩;rw[<-List.drop_drop];exact cp
   ·subst b2;obtain⟨a3,b6⟩:∃a3,a3=E.setCell ⟨w1.1.size,3,none⟩ (.bool true):=⟨_,rfl⟩;have Y:Hid (fk w a3 A R w1.1.size #[.string K,.int .i64 k,.slice X V U,.bool true,.int .i64 0,.int .i64 0,.float .f64 0,.string ⟨#[]⟩,.slice none 0 0] (l.drop (J+L))):=by
     rw[b6,<-List.drop_drop];exact y.out.set 3 (.bool true)
    have c6:Hid (Aside (fun j=>j=R∨j=w1.1.size) W a3):=by
     rw[b6];exact(b8.out.mono (fun _ _ h=>.inl h)).trans (ai E w1.1.size 3 (.bool true)) (fun _ _ h=>.inr h)
    have c8:Hid (ej a3 R (al k X V U) t):=by
     refine⟨fun j=>ah.1.size<=j∧j<w1.1.size,cb.out _ _ (fun j M=>M.elim .inl (fun h=>.inr (by omega))) c6.out,fun j M=>⟨by omega,?_⟩⟩;have:=Y.out.lt;omega
    have a5:=xX (vE t 1 d3.out (l.drop (J+L)) A R a3 _ c8.out Y.out.rd);have a2:Hid (r=ao (Sch.rdV t (l.drop (J+L))) fun v ak=>.ok (⟨K,t,true,v⟩,J+L+ak)):=a0.out.trans (if_neg (by decide));obtain⟨mv,d0⟩:∃m,m=Sch.rdV t (l.drop (J+L)):=⟨_,rfl⟩;rw[<-d0] at a2 a5;have cj:=xX b6;unfold al at a5;have ck:E.cell? ⟨w1.1.size,1,none⟩=some (.int .i64 k):=aa y.out.bT 1;have cn:E.cell? ⟨w1.1.size,2,none⟩=some (.slice X V U):=aa y.out.bT 2;clear a0 d0 b6 b8 c8;cases mv with
    |error er=>
     have cc:Hid (r=.error er):=a2.out;clear a2;go_wp2_with fail;rw[<-cj.out];refine a5.out.mono ?_;intro e w4 O;obtain⟨Z,I⟩:=O.bad;subst Z;clear O;have be:=xX (Y.out.aside.trans I (fun _ _ h=>h));clear I a5;go_wp2;rw[cc.out];exact⟨rfl,rfl,be.out⟩
    |ok vj=>
     obtain⟨x,ak⟩:=vj;have cc:Hid (r=.ok (⟨K,t,true,x⟩,J+L+ak)):=a2.out;clear a2;go_wp2_with fail;rw[<-cj.out];refine a5.out.mono ?_;intro e w4 O;obtain⟨v,Z,aj,a1,I⟩:=O.good;obtain⟨f9,cy,a4⟩:=aj.open;clear O aj;obtain⟨a9,a8,a6,bd,bc,bb,a7,eC⟩:=a4.shape;subst eC;subst cy;subst Z;unfold cells5;have z:=xX (Y.out.step I a1);have c7:Hid (Aside (fun j=>j=R∨j=w1.1.size) W w4):=c6.out.trans I (fun _ _ h=>.inl h);have dr:=xX a4;have f5:=Y.out.lt;have f6:=I.size;clear I a1 a4 a5 cj ck cn dv em y;have bl:=xX (((((z.out.set 4 (.int .i64 a9)).set 5 (.int .i64 a8)).set 6 (.float .f64 a6)).set 7 (.string bd)).set 8 (.slice bc bb a7));obtain⟨w5,b7⟩:∃w5,w5=((((w4.setCell ⟨w1.1.size,4,none⟩ (.int .i64 a9)).setCell ⟨w1.1.size,5,none⟩ (.int .i64 a8)).setCell ⟨w1.1.size,6,none⟩ (.float .f64 a6)).setCell ⟨w1.1.size,7,none⟩ (.string bd)).setCell ⟨w1.1.size,8,none⟩ (.slice bc bb a7):=⟨_,rfl⟩;have bs:Hid (Aside (fun j=>j=w1.1.size) w4 w5):=by
      rw[b7];have d4:Aside (fun j=>j=w1.1.size) w4 (w4.setCell ⟨w1.1.size,4,none⟩ (.int .i64 a9)):=ai _ _ _ _;have d5:=d4.trans (ai _ w1.1.size 5 (.int .i64 a8)) (fun _ _ h=>h);have d6:=d5.trans (ai _ w1.1.size 6 (.float .f64 a6)) (fun _ _ h=>h);have d7:=d6.trans (ai _ w1.1.size 7 (.string bd)) (fun _ _ h=>h);exact d7.trans (ai _ w1.1.size 8 (.slice bc bb a7)) (fun _ _ h=>h)
     rw[<-b7] at bl;have f7:=bs.out.size;have dp:Hid (cG w5 (fun j=>w.1.size+1<=j∧j<w5.1.size) (av K k X V U true a9 a8 a6 bd bc bb a7) ⟨K,t,true,x⟩):=by
      refine⟨fun j=>ah.1.size<=j∧j<w1.1.size,fun j=>a3.1.size<=j∧j<w4.1.size,k,X,V,U,a9,a8,a6,bd,bc,bb,a7,rfl,?_,?_,fun j M=>by omega,fun j M=>by omega,fun j b2 f2=>by omega⟩
      ·exact cb.out _ _ (fun j M=>M.elim .inl (fun h=>.inr (by omega))) (c7.out.trans bs.out (fun _ _ h=>.inr h))
      ·exact dr.out.aside bs.out (fun j M Z=>by omega)
     have b1:=xX (fun P cs=>xC (P:=P) ct bl.out.bN (by omega) dp.out (fun j M=>M) bl.out.rd bl.out.aside cs);rw[b7] at b1;clear b7 bl dp bs c7 dr;obtain⟨d8,ck,cn,dv,d9,-⟩:=cQ9 z.out.bT;have fs:=ab z.out.bT 4;have ea:w4.cell? ⟨w1.1.size,5,none⟩=some (.int .i64 0):=aa z.out.bT 5;have fv:=ab z.out.bT 5;have eb:w4.cell? ⟨w1.1.size,6,none⟩=some (.float .f64 0):=aa z.out.bT 6;have fx:=ab z.out.bT 6;have ec:w4.cell? ⟨w1.1.size,7,none⟩=some (.string ⟨#[]⟩):=aa z.out.bT 7;have fy:=ab z.out.bT 7;have el:w4.cell? ⟨w1.1.size,8,none⟩=some (.slice none 0 0):=aa z.out.bT 8;have f0:=ab z.out.bT 8;have eU:w4.cell? ⟨w.1.size,0,none⟩=some (.string ⟨#[]⟩):=aa z.out.bN 0;have e3:=ab z.out.bN 0;have e0:w4.cell? ⟨w.1.size,1,none⟩=some (.int .i64 0):=aa z.out.bN 1;have e4:=ab z.out.bN 1;have e1:w4.cell? ⟨w.1.size,2,none⟩=some (.slice none 0 0):=aa z.out.bN 2;have e5:=ab z.out.bN 2;have e2:w4.cell? ⟨w.1.size,3,none⟩=some (.bool false):=aa z.out.bN 3;have e6:=ab z.out.bN 3;have n4:w4.cell? ⟨w.1.size,4,none⟩=some (.int .i64 0):=aa z.out.bN 4;have e7:=ab z.out.bN 4;have n5:w4.cell? ⟨w.1.size,5,none⟩=some (.int .i64 0):=aa z.out.bN 5;have e8:=ab z.out.bN 5;have n6:w4.cell? ⟨w.1.size,6,none⟩=some (.float .f64 0):=aa z.out.bN 6;have e9:=ab z.out.bN 6;have n7:w4.cell? ⟨w.1.size,7,none⟩=some (.string ⟨#[]⟩):=aa z.out.bN 7;have fi:=ab z.out.bN 7;have n8:w4.cell? ⟨w.1.size,8,none⟩=some (.slice none 0 0):=aa z.out.bN 8;have fo:=ab z.out.bN 8;clear z;go_wp2;obtain⟨f1,co,cp,cq⟩:=b1.out _ rfl
     refine bodyPost_ret (v:=.agg (av K k X V U true a9 a8 a6 bd bc bb a7)) (results_cell_row rfl _ _ w.1.size _ _ _ _ rfl f1 Tryz.underlying79 rfl (by kernel_rfl)) rfl ?_;rw[cc.out];refine⟨_,rfl,co,?_,cq⟩;rw[<-List.drop_drop];exact cp
end
end Go.Proofs.YtdkammppnkhhoaaGreatDoor

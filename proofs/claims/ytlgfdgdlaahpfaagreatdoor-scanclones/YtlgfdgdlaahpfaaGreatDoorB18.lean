import Derived.Test.YtlgfdgdlaahpfaaGreatDoorB17
set_option maxRecDepth 100000
set_option maxHeartbeats 2000000
namespace Go.Proofs.YtlgfdgdlaahpfaaGreatDoor
section
open Go.RowKit
attribute [local go_sem] ai
theorem de{w:World}{ops:Array Oper}{o:Oper}{a:Act}{K:Act->World->Prop}{Q:Exit->Act->World->Prop}{E:Prop}{f:FuncId}{fn:Func}{code:Code}{u0:Value}{R:Ending->World->Prop}(x:Operand)(t0:TypeId)(hg:o.guard=none)(hop:o.op=Op.call { callee:=.value (.func f),args:=#[x],argTypes:=#[t0] })(hx:a.eval x=u0)(hf : Tryz.prog.funcs[f]?=some fn)(hname : (fn.name== "runtime.NumGoroutine")=false)(hb : fn.body=some code)(hc:Calls Tryz.prog f #[u0] w R)(hR:∀e w',R e w'->∃ch,e=.panicked ch∧Q (.panic ch) a w')(v':Value)(_:Hid False->K (a.put o.dst v') w):
  if Region.wanted o (yielded ops a.tmps)=true then Oper.wp Tryz.prog o a w K Q else E:=by
 have hw:Region.wanted o (yielded ops a.tmps)=true:=by simp[Region.wanted,hg]
 rw[if_pos hw]
 have h1 : fn.name≠ "runtime.NumGoroutine" := by simpa using hname
 unfold Oper.wp
 have he:(execOp a.eval o).run Tryz.prog w=.ok (.enter f #[u0]) w:=by
  have hev:a.eval (.func f)=.func (.func f) #[] #[]:=rfl
  simp[execOp,hop,resolve,invoke,hx,hev,Deferred.ofValue,callFunc,hf,h1,hb]
 rw[he,Oper.upon_enter]
 refine hc.mono ?_
 intro e w' hr
 obtain⟨z,rfl,hk⟩:=hR e w' hr
 exact hk
theorem bu{w:World}{ops:Array Oper}{o:Oper}{a:Act}{K:Act->World->Prop}{Q:Exit->Act->World->Prop}{E:Prop}{f:FuncId}{fn:Func}{code:Code}{u0:Value}{R:Ending->World->Prop}(x:Operand)(t0:TypeId)(hg:o.guard=none)(hop:o.op=Op.call { callee:=.value (.func f),args:=#[x],argTypes:=#[t0] })(hx:a.eval x=u0)(hf : Tryz.prog.funcs[f]?=some fn)(hname : (fn.name== "runtime.NumGoroutine")=false)(hb : fn.body=some code)(hc:Calls Tryz.prog f #[u0] w R)(hR:∀e w',R e w'->∃z,e=.returned z∧K (a.put o.dst z) w'):
  if Region.wanted o (yielded ops a.tmps)=true then Oper.wp Tryz.prog o a w K Q else E:=by
 have hw:Region.wanted o (yielded ops a.tmps)=true:=by simp[Region.wanted,hg]
 rw[if_pos hw]
 have h1 : fn.name≠ "runtime.NumGoroutine" := by simpa using hname
 unfold Oper.wp
 have he:(execOp a.eval o).run Tryz.prog w=.ok (.enter f #[u0]) w:=by
  have hev:a.eval (.func f)=.func (.func f) #[] #[]:=rfl
  simp[execOp,hop,resolve,invoke,hx,hev,Deferred.ofValue,callFunc,hf,h1,hb]
 rw[he,Oper.upon_enter]
 refine hc.mono ?_
 intro e w' hr
 obtain⟨z,rfl,hk⟩:=hR e w' hr
 exact hk
theorem dW{w:World}{ops:Array Oper}{o:Oper}{a:Act}{K:Act->World->Prop}{Q:Exit->Act->World->Prop}{E:Prop}{f:FuncId}{fn:Func}{code:Code}{u0 u1 u2:Value}{R:Ending->World->Prop}(x y z:Operand)(t0 t1 t2:TypeId)(hg:o.guard=none)(hop:o.op=Op.call { callee:=.value (.func f),args:=#[x,y,z],argTypes:=#[t0,t1,t2] })(hx:a.eval x=u0)(hy:a.eval y=u1)(hz:a.eval z=u2)(hf : Tryz.prog.funcs[f]?=some fn)(hname : (fn.name== "runtime.NumGoroutine")=false)(hb : fn.body=some code)(hc:Calls Tryz.prog f #[u0,u1,u2] w R)(hR:∀e w',R e w'->∃ch,e=.panicked ch∧Q (.panic ch) a w')(v':Value)(_:Hid False->K (a.put o.dst v') w):
  if Region.wanted o (yielded ops a.tmps)=true then Oper.wp Tryz.prog o a w K Q else E:=by
 have hw:Region.wanted o (yielded ops a.tmps)=true:=by simp[Region.wanted,hg]
 rw[if_pos hw]
 have h1 : fn.name≠ "runtime.NumGoroutine" := by simpa using hname
 unfold Oper.wp
 have he:(execOp a.eval o).run Tryz.prog w=.ok (.enter f #[u0,u1,u2]) w:=by
  have hev:a.eval (.func f)=.func (.func f) #[] #[]:=rfl
  simp[execOp,hop,resolve,invoke,hx,hy,hz,hev,Deferred.ofValue,callFunc,hf,h1,hb]
 rw[he,Oper.upon_enter]
 refine hc.mono ?_
 intro e w' hr
 obtain⟨z,rfl,hk⟩:=hR e w' hr
 exact hk
theorem dd{w:World}{ops:Array Oper}{o:Oper}{a:Act}{K:Act->World->Prop}{Q:Exit->Act->World->Prop}{E:Prop}{f:FuncId}{fn:Func}{code:Code}{u0 u1 u2:Value}{R:Ending->World->Prop}(x y z:Operand)(t0 t1 t2:TypeId)(hg:o.guard=none)(hop:o.op=Op.call { callee:=.value (.func f),args:=#[x,y,z],argTypes:=#[t0,t1,t2] })(hx:a.eval x=u0)(hy:a.eval y=u1)(hz:a.eval z=u2)(hf : Tryz.prog.funcs[f]?=some fn)(hname : (fn.name== "runtime.NumGoroutine")=false)(hb : fn.body=some code)(hc:Calls Tryz.prog f #[u0,u1,u2] w R)(hR:∀e w',R e w'->∃z,e=.returned z∧K (a.put o.dst z) w'):
  if Region.wanted o (yielded ops a.tmps)=true then Oper.wp Tryz.prog o a w K Q else E:=by
 have hw:Region.wanted o (yielded ops a.tmps)=true:=by simp[Region.wanted,hg]
 rw[if_pos hw]
 have h1 : fn.name≠ "runtime.NumGoroutine" := by simpa using hname
 unfold Oper.wp
 have he:(execOp a.eval o).run Tryz.prog w=.ok (.enter f #[u0,u1,u2]) w:=by
  have hev:a.eval (.func f)=.func (.func f) #[] #[]:=rfl
  simp[execOp,hop,resolve,invoke,hx,hy,hz,hev,Deferred.ofValue,callFunc,hf,h1,hb]
 rw[he,Oper.upon_enter]
 refine hc.mono ?_
 intro e w' hr
 obtain⟨z,rfl,hk⟩:=hR e w' hr
 exact hk
structure rA(w W:World)(A R:Nat)(D:AV)(l:L8):Prop where
 b1:W.1[w.1.size+1]?=some (.cells #[.int .i64 0,.int .i64 0,.float .f64 0,.string ⟨#[]⟩,.slice none 0 0] 87 (0,0))
 b2:W.1[w.1.size+1+1]?=some (.cells D 87 (0,0))
 rd:Rdr W A R l
 aside:Aside (fun i=>i=R) w W
 size:w.1.size+3<=W.1.size
theorem da.set{w W:World}{A R:Nat}{k:Int}{C0:AV}{l:L8}(h:da w W A R k C0 l)(hR:R<w.1.size)(m:Nat)(u:Value):rA w (W.setCell ⟨w.1.size+1+1,m,none⟩ u) A R ((#[.int .i64 k,.int .i64 0,.float .f64 0,.string ⟨#[]⟩,.slice none 0 0]:AV).set! m u) l:=by
 have h2:Aside (fun i=>i=w.1.size+1+1) W (W.setCell ⟨w.1.size+1+1,m,none⟩ u):=af _ _ _ _
 have hs:=h.size
 refine⟨?_,ap h.b2 m u,h.rd.aside h2 (fun j hj=>by rw[hj];omega),h.aside.trans h2 (fun j hj he=>by rw[he] at hj;omega),Nat.le_trans hs h2.size⟩
 rw[h2.block _ (by omega) (by omega)]
 exact h.b1
theorem rA.on{w W W':World}{A R:Nat}{D:AV}{l:L8}(h:rA w W A R D l)(hb:Below W.1.size W W'):rA w W' A R D l:=by
 have hs:=h.size
 exact⟨jT h.b1 hb (by omega),jT h.b2 hb (by omega),h.rd.on hb,h.aside.trans (ae hb (fun _=>False)) (fun _ _ h=>h.elim),Nat.le_trans hs hb.size⟩
theorem rQ(l:L8)(A R:Nat)(w:World)(p:OA)(n c:Nat)(h:Rdr w A R l):Calls Tryz.prog 164 #[.pointer (some ⟨R,0,none⟩),.agg #[.int .i64 4,.slice p n c]] w (RdA w A R l (Sch.scalar 4 l) (isV w)):=by
 have hR:=h.lt
 obtain⟨W,hW⟩:∃W,W=((w.alloc (.cells #[.int .i64 4,.slice p n c] 83)).alloc (.cells #[.int .i64 0,.int .i64 0,.float .f64 0,.string ⟨#[]⟩,.slice none 0 0] 87)).alloc (.cells #[.int .i64 4,.int .i64 0,.float .f64 0,.string ⟨#[]⟩,.slice none 0 0] 87):=⟨_,rfl⟩
 have HI:Hid (da w W A R 4 #[.int .i64 4,.slice p n c] l):=by rw[hW];exact bI 4 _ h
 have HW:=vQ hW
 obtain⟨r,hr⟩:∃r,r=Sch.scalar 4 l:=⟨_,rfl⟩
 have HR:=vQ (hr.trans (pG l))
 rw[<-hr]
 have HC:=vQ (sQ l A R W HI.out.rd)
 obtain⟨m,hm⟩:∃m,m=Sch.text 1024 2 l:=⟨_,rfl⟩
 rw[<-hm] at HR HC
 have HM:=vQ hm
 clear hr hm h hW
 cases m with
 |error er=>
  have HR2:Hid (r=.error er):=HR.out
  clear HR
  go_enter Tryz.func164,Tryz.ntmps164
  go_wp2_with fail
  rw[<-HW.out]
  refine HC.out.mono ?_
  intro e w1 hh
  obtain⟨he,ha⟩:=hh.bad
  subst he
  clear hh
  have HA:=vQ (HI.out.aside.trans ha (fun _ _ h=>h))
  clear ha HC
  go_wp2
  rw[HR2.out]
  exact⟨rfl,rfl,HA.out⟩
 |ok xj=>
  obtain⟨x,j⟩:=xj
  have HR2:Hid (r=if cR x=false then .error 61 else .ok (.mk 4 0 0 x [],j)):=HR.out
  have hx:x.size<=1024:=(Sch.text_ok HM.out.symm).1
  clear HR HM
  go_enter Tryz.func164,Tryz.ntmps164
  go_wp2_with fail
  rw[<-HW.out]
  refine HC.out.mono ?_
  intro e w1 hh
  obtain⟨v,he,hv,hrd,ha⟩:=hh.good
  clear hh
  replace hv:v=.string x:=hv
  subst hv
  subst he
  have HI1:=vQ (HI.out.step ha hrd hR)
  clear ha hrd HC HW HI
  have q3:w1.cell? ⟨w.1.size+1+1,3,none⟩=some (.string ⟨#[]⟩):=aa HI1.out.b2 3
  have qf3:=ac HI1.out.b2 3
  obtain⟨W1,hW1⟩:∃W1,W1=w1.setCell ⟨w.1.size+1+1,3,none⟩ (.string x):=⟨_,rfl⟩
  have HD1:Hid (rA w W1 A R #[.int .i64 4,.int .i64 0,.float .f64 0,.string x,.slice none 0 0] (l.drop j)):=by rw[hW1];exact HI1.out.set hR 3 (.string x)
  have HU:=vQ (uj x (by omega) W1)
  have HW1:=vQ hW1
  obtain⟨ru,hru⟩:∃b,b=cR x:=⟨_,rfl⟩
  rw[<-hru] at HU HR2
  clear hW1 hru
  go_wp2_with fail
  rw[<-HW1.out]
  refine HU.out.mono ?_
  rintro e w2 ⟨rfl,hb2⟩
  have HD2:=vQ (HD1.out.on hb2)
  clear hb2 HU HD1 HW1 q3 qf3 HI1
  cases ru with
  |false=>
   have HR3:Hid (r=.error 61):=HR2.out.trans (if_pos (by first | rfl | trivial))
   clear HR2
   go_wp2_with fail
   refine(cE _ 61 _).mono ?_
   rintro e w3 ⟨rfl,hw3⟩
   rw[hw3]
   clear hw3 w3
   go_wp2
   rw[HR3.out]
   exact⟨rfl,rfl,HD2.out.aside⟩
  |true=>
   have HR3:Hid (r=.ok (.mk 4 0 0 x [],j)):=HR2.out.trans (if_neg (by first | decide | simp))
   clear HR2
   go_wp2_with fail
   refine(cD _ 61 _).mono ?_
   rintro e w3 ⟨rfl,hw3⟩
   rw[hw3]
   clear hw3 w3
   have q0:w2.cell? ⟨w.1.size+1+1,0,none⟩=some (.int .i64 4):=aa HD2.out.b2 0
   have q1:w2.cell? ⟨w.1.size+1+1,1,none⟩=some (.int .i64 0):=aa HD2.out.b2 1
   have q2:w2.cell? ⟨w.1.size+1+1,2,none⟩=some (.float .f64 0):=aa HD2.out.b2 2
   have q3:w2.cell? ⟨w.1.size+1+1,3,none⟩=some (.string x):=aa HD2.out.b2 3
   have q4:w2.cell? ⟨w.1.size+1+1,4,none⟩=some (.slice none 0 0):=aa HD2.out.b2 4
   have t0:w2.cell? ⟨w.1.size+1,0,none⟩=some (.int .i64 0):=aa HD2.out.b1 0
   have tf0:=ac HD2.out.b1 0
   have t1:w2.cell? ⟨w.1.size+1,1,none⟩=some (.int .i64 0):=aa HD2.out.b1 1
   have tf1:=ac HD2.out.b1 1
   have t2:w2.cell? ⟨w.1.size+1,2,none⟩=some (.float .f64 0):=aa HD2.out.b1 2
   have tf2:=ac HD2.out.b1 2
   have t3:w2.cell? ⟨w.1.size+1,3,none⟩=some (.string ⟨#[]⟩):=aa HD2.out.b1 3
   have tf3:=ac HD2.out.b1 3
   have t4:w2.cell? ⟨w.1.size+1,4,none⟩=some (.slice none 0 0):=aa HD2.out.b1 4
   have tf4:=ac HD2.out.b1 4
   have HFin:=vQ (sD (k:=4) (i:=0) (b:=0) (t:=x) (q:=none) (n:=0) (c:=0) (x:=.mk 4 0 0 x []) (F:=fun _=>False) (N:=w.1.size+1) hR (by omega) HD2.out.b1 .none (fun _ h=>h.elim) HD2.out.rd HD2.out.aside)
   go_wp2
   obtain⟨f1,f2,f3,f4⟩:=HFin.out
   refine bodyPost_ret (v:=.agg (cells5 4 0 0 x none 0 0)) (results_cell_row rfl _ _ (w.1.size+1) _ _ _ _ rfl f1 Tryz.underlying87 rfl (by kernel_rfl)) rfl ?_
   rw[HR3.out]
   exact⟨_,rfl,f2,f3,f4⟩
end
section
open Go.RowKit
attribute [local go_sem] ai
theorem tA(l:L8):Sch.many 6 l=Sch.bit l:=rfl
theorem tz(l:L8):Sch.many 7 l=ba 256 3 l:=by
 unfold Sch.many ba
 rw[if_neg (by decide)]
 rfl
theorem pW(k:Int)(h:k=6∨k=7)(x:Ty)(l:L8):Sch.rdV (.mk k [x]) l=am (Sch.many k l) fun m j=>am (Sch.rdN (Sch.rdV x) m (l.drop j)) fun vs j2=>.ok (.mk k 0 0 ⟨#[]⟩ vs,j+j2):=by
 rw[Sch.rdV_mk,if_neg (by omega)]
 cases Sch.many k l with
 |error e=>rfl
 |ok p=>
  obtain⟨m,j⟩:=p
  rw[aI]
  have e:(([x]:List Ty).map Sch.rdV).headD (fun _=>.error 0)=Sch.rdV x:=rfl
  dsimp only
  rw[e]
  cases Sch.rdN (Sch.rdV x) m (l.drop j) with
  |error e=>rfl
  |ok q=>rfl
theorem count_le{most er:Nat}{l:L8}{n k:Nat}(h:ba most er l=.ok (n,k)):n<=most:=by
 unfold ba at h
 split at h
 ·cases h
 ·split at h
  ·cases h
  ·injection h with h
   injection h with h1 _
   omega
theorem rO(x:Ty)(hx:lq x)(l:L8)(A R:Nat)(w:World)(u:AV)(hf:dT w R u (.mk 6 [x]))(h:Rdr w A R l):Calls Tryz.prog 164 #[.pointer (some ⟨R,0,none⟩),.agg u] w (RdA w A R l (Sch.rdV (.mk 6 [x]) l) (isV w)):=by
  have hR:=h.lt
  obtain⟨g,off,c,k',q',n',c',rfl,hfx,hRg,hgw,y0,y1⟩:=hf.one
  unfold al
  obtain⟨W,hW⟩:∃W,W=((w.alloc (.cells #[.int .i64 6,.slice (some ⟨g,off,none⟩) 1 c] 83)).alloc (.cells #[.int .i64 0,.int .i64 0,.float .f64 0,.string ⟨#[]⟩,.slice none 0 0] 87)).alloc (.cells #[.int .i64 6,.int .i64 0,.float .f64 0,.string ⟨#[]⟩,.slice none 0 0] 87):=⟨_,rfl⟩
  have HI:Hid (da w W A R 6 #[.int .i64 6,.slice (some ⟨g,off,none⟩) 1 c] l):=by rw[hW];exact bI 6 _ h
  have HW:=vQ hW
  obtain⟨r,hr⟩:∃r,r=Sch.rdV (.mk 6 [x]) l:=⟨_,rfl⟩
  have HR0:=vQ (hr.trans (pW 6 (by omega) x l))
  rw[<-hr]
  have HR:Hid (r=am (Sch.bit l) fun m j=>am (Sch.rdN (Sch.rdV x) m (l.drop j)) fun vs j2=>.ok (.mk 6 0 0 ⟨#[]⟩ vs,j+j2)):=by show _=_;rw[HR0.out,tA]
  have HC:Hid (Calls Tryz.prog 163 #[.pointer (some ⟨R,0,none⟩)] W.drew (RdA W A R l (Sch.bit l) isI)):=(qU l A R W.drew HI.out.rd.drew).mono fun _ _ h=>h.undrew
  have HFx:=vQ hfx
  have HX:=vQ hx
  -- the cells that are read,wherever only the reader has changed
  have HCells:Hid (∀W',Aside (fun i=>i=R) W W'->W'.cell? ⟨w.1.size,1,none⟩=some (.slice (some ⟨g,off,none⟩) 1 c)∧W'.cell? ⟨g,off,none⟩=some (.int .i64 k')∧W'.cell? ⟨g,off+1,none⟩=some (.slice q' n' c')):=fun W' ha=>by
    have hs:=HI.out.size
    have hgW:g<W.1.size:=by omega
    refine⟨?_,?_,?_⟩
    · rw[ha.cell (show w.1.size<W.1.size by omega) (show ¬w.1.size=R by omega)];exact aa HI.out.b0 1
    · rw[ha.cell (show g<W.1.size from hgW) (show ¬g=R by omega),HI.out.aside.cell hgw (show ¬g=R by omega)];exact y0
    · rw[ha.cell (show g<W.1.size from hgW) (show ¬g=R by omega),HI.out.aside.cell hgw (show ¬g=R by omega)];exact y1
  obtain⟨x1,x2,x3⟩:=HCells.out W (Aside.refl _ _)
  have q4:W.cell? ⟨w.1.size+1+1,4,none⟩=some (.slice none 0 0):=aa HI.out.b2 4
  have qf4:=ac HI.out.b2 4
  obtain⟨m0,hm0⟩:∃m,m=Sch.bit l:=⟨_,rfl⟩
  rw[<-hm0] at HR HC
  have HM:=vQ hm0
  clear hr hm0 h hW hfx hx y0 y1 hf HR0
  cases m0 with
  |error er=>
    have HErr:Hid (∀w2,Aside (fun i=>i=R) W w2->RdA w A R l r (isV w) (.panicked (dS er)) w2):=fun w2 ha=>by
      have e:r=.error er:=HR.out
      rw[e]
      exact⟨rfl,HI.out.aside.trans ha (fun _ _ h=>h)⟩
    clear HR
    go_enter Tryz.func164,Tryz.ntmps164
    go_wp2_with fail
    rw[<-HW.out]
    go_region_law (first
      | (refine de (.tmp 45) 178 (by rfl) (by rfl) (by rfl) Tryz.func163 (by kernel_rfl) (by rfl) HC.out (fun e w2 hh=>⟨_,hh.bad.1,rfl,HErr.out w2 hh.bad.2⟩) (.int .i64 0) ?_
         intro HF)
      | (refine cz HF (.slice none 0 0) ?_))
    all_goals exact HF.out.elim
  |ok mj=>
    obtain⟨m,j⟩:=mj
    have hm256:m<=256:=by have:=(Sch.bit_ok HM.out.symm).1;omega
    have HR2:Hid (r=am (Sch.rdN (Sch.rdV x) m (l.drop j)) fun vs j2=>.ok (.mk 6 0 0 ⟨#[]⟩ vs,j+j2)):=HR.out
    have HCi:=vQ (fun w1 (ha:Aside (fun i=>i=R) W w1) (hrd:Rdr w1 A R (l.drop j))=>qL x HX.out m hm256 (l.drop j) A R w1 _ ((HFx.out.aside HI.out.aside).aside ha) hrd)
    unfold al at HCi
    obtain⟨m1,hm1⟩:∃m1,m1=Sch.rdN (Sch.rdV x) m (l.drop j):=⟨_,rfl⟩
    rw[<-hm1] at HR2 HCi
    clear HR hm1 HM HX HFx
    cases m1 with
    |error er=>
      have HErr:Hid (∀w1 w2,Aside (fun i=>i=R) W w1->Aside (fun i=>i=R) w1 w2->RdA w A R l r (isV w) (.panicked (dS er)) w2):=fun w1 w2 ha ha2=>by
        have e:r=.error er:=HR2.out
        rw[e]
        exact⟨rfl,(HI.out.aside.trans ha (fun _ _ h=>h)).trans ha2 (fun _ _ h=>h)⟩
      clear HR2
      go_enter Tryz.func164,Tryz.ntmps164
      go_wp2_with fail
      rw[<-HW.out]
      go_region_law (first
        | (refine bu (.tmp 45) 178 (by rfl) (by rfl) (by rfl) Tryz.func163 (by kernel_rfl) (by rfl) HC.out ?_
           intro e w1 hh
           obtain⟨v,he,hv,hrd,ha⟩:=hh.good
           clear hh
           replace hv:v=.int .i64 (m:Nat):=hv
           subst hv
           refine⟨_,he,?_⟩
           clear he
           have HA1:=vQ ha
           have HRd1:=vQ hrd
           obtain⟨x1',x2',x3'⟩:=HCells.out w1 ha
           have HI1:=vQ (HI.out.step ha hrd hR)
           have q4':w1.cell? ⟨w.1.size+1+1,4,none⟩=some (.slice none 0 0):=aa HI1.out.b2 4
           have qf4':=ac HI1.out.b2 4
           clear ha hrd)
        | (refine dW (.tmp 44) (.tmp 46) (.tmp 50) 178 3 83 (by rfl) (by rfl) (by rfl) (by rfl) (by rfl) Tryz.func174 (by kernel_rfl) (by rfl) (HCi.out w1 HA1.out HRd1.out) (fun e w2 hh=>⟨_,hh.bad.1,rfl,HErr.out w1 w2 HA1.out hh.bad.2⟩) (.slice none 0 0) ?_
           intro HF))
      all_goals exact HF.out.elim
    |ok vj=>
      obtain⟨vs,j2⟩:=vj
      have HRok:Hid (r=.ok (.mk 6 0 0 ⟨#[]⟩ vs,j+j2)):=HR2.out
      clear HR2
      go_enter Tryz.func164,Tryz.ntmps164
      go_wp2_with fail
      rw[<-HW.out]
      go_region_law (first
        | (refine bu (.tmp 45) 178 (by rfl) (by rfl) (by rfl) Tryz.func163 (by kernel_rfl) (by rfl) HC.out ?_
           intro e w1 hh
           obtain⟨v,he,hv,hrd,ha⟩:=hh.good
           clear hh
           replace hv:v=.int .i64 (m:Nat):=hv
           subst hv
           refine⟨_,he,?_⟩
           clear he
           have HA1:=vQ ha
           have HRd1:=vQ hrd
           obtain⟨x1',x2',x3'⟩:=HCells.out w1 ha
           have HI1:=vQ (HI.out.step ha hrd hR)
           clear ha hrd)
        | (refine dd (.tmp 44) (.tmp 46) (.tmp 50) 178 3 83 (by rfl) (by rfl) (by rfl) (by rfl) (by rfl) Tryz.func174 (by kernel_rfl) (by rfl) (HCi.out w1 HA1.out HRd1.out) ?_
           intro e w2 hh
           obtain⟨v,he,hv,hrd,ha⟩:=hh.good
           obtain⟨qi,ci,hv2,hown⟩:=hv.open
           clear hh hv
           subst hv2
           refine⟨_,he,?_⟩
           clear he
           have HI2:=vQ (HI1.out.step ha hrd hR)
           have HOn:=vQ hown
           have hs1:=HI1.out.size
           have hs2:=ha.size
           have z4:w2.cell? ⟨w.1.size+1+1,4,none⟩=some (.slice none 0 0):=aa HI2.out.b2 4
           have zf4:=ac HI2.out.b2 4
           clear ha hrd hown))
      all_goals
        have HD:=vQ (HI2.out.set hR 4 (.slice qi vs.length ci))
        have HFin:=vQ (sD (k:=6) (i:=0) (b:=0) (t:=⟨#[]⟩) (q:=qi) (n:=vs.length) (c:=ci) (x:=.mk 6 0 0 ⟨#[]⟩ vs) (N:=w.1.size+1) hR (by omega) HD.out.b1 ((HOn.out 6).aside (af w2 (w.1.size+1+1) 4 (.slice qi vs.length ci)) (fun i hi he=>by omega)) (fun i hi=>⟨by omega,by have:=(af w2 (w.1.size+1+1) 4 (.slice qi vs.length ci)).size;omega⟩) HD.out.rd HD.out.aside)
        have z0:w2.cell? ⟨w.1.size+1+1,0,none⟩=some (.int .i64 6):=aa HI2.out.b2 0
        have z1:w2.cell? ⟨w.1.size+1+1,1,none⟩=some (.int .i64 0):=aa HI2.out.b2 1
        have z2:w2.cell? ⟨w.1.size+1+1,2,none⟩=some (.float .f64 0):=aa HI2.out.b2 2
        have z3:w2.cell? ⟨w.1.size+1+1,3,none⟩=some (.string ⟨#[]⟩):=aa HI2.out.b2 3
        have t0:w2.cell? ⟨w.1.size+1,0,none⟩=some (.int .i64 0):=aa HI2.out.b1 0
        have tf0:=ac HI2.out.b1 0
        have t1:w2.cell? ⟨w.1.size+1,1,none⟩=some (.int .i64 0):=aa HI2.out.b1 1
        have tf1:=ac HI2.out.b1 1
        have t2:w2.cell? ⟨w.1.size+1,2,none⟩=some (.float .f64 0):=aa HI2.out.b1 2
        have tf2:=ac HI2.out.b1 2
        have t3:w2.cell? ⟨w.1.size+1,3,none⟩=some (.string ⟨#[]⟩):=aa HI2.out.b1 3
        have tf3:=ac HI2.out.b1 3
        have t4:w2.cell? ⟨w.1.size+1,4,none⟩=some (.slice none 0 0):=aa HI2.out.b1 4
        have tf4:=ac HI2.out.b1 4
        clear x1 x2 x3 q4 qf4 x1' x2' x3'
        go_wp2
        obtain⟨f1,f2,f3,f4⟩:=HFin.out
        refine bodyPost_ret (v:=.agg (cells5 6 0 0 ⟨#[]⟩ qi vs.length ci)) (results_cell_row rfl _ _ (w.1.size+1) _ _ _ _ rfl f1 Tryz.underlying87 rfl (by kernel_rfl)) rfl ?_
        rw[HRok.out]
        refine⟨_,rfl,f2,?_,f4⟩
        rw[<-List.drop_drop]
        exact f3
theorem rN(x:Ty)(hx:lq x)(l:L8)(A R:Nat)(w:World)(u:AV)(hf:dT w R u (.mk 7 [x]))(h:Rdr w A R l):Calls Tryz.prog 164 #[.pointer (some ⟨R,0,none⟩),.agg u] w (RdA w A R l (Sch.rdV (.mk 7 [x]) l) (isV w)):=by
  have hR:=h.lt
  obtain⟨g,off,c,k',q',n',c',rfl,hfx,hRg,hgw,y0,y1⟩:=hf.one
  unfold al
  obtain⟨W,hW⟩:∃W,W=((w.alloc (.cells #[.int .i64 7,.slice (some ⟨g,off,none⟩) 1 c] 83)).alloc (.cells #[.int .i64 0,.int .i64 0,.float .f64 0,.string ⟨#[]⟩,.slice none 0 0] 87)).alloc (.cells #[.int .i64 7,.int .i64 0,.float .f64 0,.string ⟨#[]⟩,.slice none 0 0] 87):=⟨_,rfl⟩
  have HI:Hid (da w W A R 7 #[.int .i64 7,.slice (some ⟨g,off,none⟩) 1 c] l):=by rw[hW];exact bI 7 _ h
  have HW:=vQ hW
  obtain⟨r,hr⟩:∃r,r=Sch.rdV (.mk 7 [x]) l:=⟨_,rfl⟩
  have HR0:=vQ (hr.trans (pW 7 (by omega) x l))
  rw[<-hr]
  have HR:Hid (r=am (ba 256 3 l) fun m j=>am (Sch.rdN (Sch.rdV x) m (l.drop j)) fun vs j2=>.ok (.mk 7 0 0 ⟨#[]⟩ vs,j+j2)):=by show _=_;rw[HR0.out,tz]
  have HC:Hid (Calls Tryz.prog 134 #[.pointer (some ⟨R,0,none⟩),.int .u64 256,.int .i64 3] W.drew (RdA W A R l (ba 256 3 l) isI)):=(jM 256 3 (by omega) l A R W.drew HI.out.rd.drew).mono fun _ _ h=>h.undrew
  have HFx:=vQ hfx
  have HX:=vQ hx
  -- the cells that are read,wherever only the reader has changed
  have HCells:Hid (∀W',Aside (fun i=>i=R) W W'->W'.cell? ⟨w.1.size,1,none⟩=some (.slice (some ⟨g,off,none⟩) 1 c)∧W'.cell? ⟨g,off,none⟩=some (.int .i64 k')∧W'.cell? ⟨g,off+1,none⟩=some (.slice q' n' c')):=fun W' ha=>by
    have hs:=HI.out.size
    have hgW:g<W.1.size:=by omega
    refine⟨?_,?_,?_⟩
    · rw[ha.cell (show w.1.size<W.1.size by omega) (show ¬w.1.size=R by omega)];exact aa HI.out.b0 1
    · rw[ha.cell (show g<W.1.size from hgW) (show ¬g=R by omega),HI.out.aside.cell hgw (show ¬g=R by omega)];exact y0
    · rw[ha.cell (show g<W.1.size from hgW) (show ¬g=R by omega),HI.out.aside.cell hgw (show ¬g=R by omega)];exact y1
  obtain⟨x1,x2,x3⟩:=HCells.out W (Aside.refl _ _)
  have q4:W.cell? ⟨w.1.size+1+1,4,none⟩=some (.slice none 0 0):=aa HI.out.b2 4
  have qf4:=ac HI.out.b2 4
  obtain⟨m0,hm0⟩:∃m,m=ba 256 3 l:=⟨_,rfl⟩
  rw[<-hm0] at HR HC
  have HM:=vQ hm0
  clear hr hm0 h hW hfx hx y0 y1 hf HR0
  cases m0 with
  |error er=>
    have HErr:Hid (∀w2,Aside (fun i=>i=R) W w2->RdA w A R l r (isV w) (.panicked (dS er)) w2):=fun w2 ha=>by
      have e:r=.error er:=HR.out
      rw[e]
      exact⟨rfl,HI.out.aside.trans ha (fun _ _ h=>h)⟩
    clear HR
    go_enter Tryz.func164,Tryz.ntmps164
    go_wp2_with fail
    rw[<-HW.out]
    go_region_law (first
      | (refine dW (.tmp 56) (.const (.int .u64 256)) (.const (.int .i64 3)) 178 144 39 (by rfl) (by rfl) (by rfl) (by rfl) (by rfl) Tryz.func134 (by kernel_rfl) (by rfl) HC.out (fun e w2 hh=>⟨_,hh.bad.1,rfl,HErr.out w2 hh.bad.2⟩) (.int .i64 0) ?_
         intro HF)
      | (refine cz HF (.slice none 0 0) ?_))
    all_goals exact HF.out.elim
  |ok mj=>
    obtain⟨m,j⟩:=mj
    have hm256:m<=256:=count_le HM.out.symm
    have HR2:Hid (r=am (Sch.rdN (Sch.rdV x) m (l.drop j)) fun vs j2=>.ok (.mk 7 0 0 ⟨#[]⟩ vs,j+j2)):=HR.out
    have HCi:=vQ (fun w1 (ha:Aside (fun i=>i=R) W w1) (hrd:Rdr w1 A R (l.drop j))=>qL x HX.out m hm256 (l.drop j) A R w1 _ ((HFx.out.aside HI.out.aside).aside ha) hrd)
    unfold al at HCi
    obtain⟨m1,hm1⟩:∃m1,m1=Sch.rdN (Sch.rdV x) m (l.drop j):=⟨_,rfl⟩
    rw[<-hm1] at HR2 HCi
    clear HR hm1 HM HX HFx
    cases m1 with
    |error er=>
      have HErr:Hid (∀w1 w2,Aside (fun i=>i=R) W w1->Aside (fun i=>i=R) w1 w2->RdA w A R l r (isV w) (.panicked (dS er)) w2):=fun w1 w2 ha ha2=>by
        have e:r=.error er:=HR2.out
        rw[e]
        exact⟨rfl,(HI.out.aside.trans ha (fun _ _ h=>h)).trans ha2 (fun _ _ h=>h)⟩
      clear HR2
      go_enter Tryz.func164,Tryz.ntmps164
      go_wp2_with fail
      rw[<-HW.out]
      go_region_law (first
        | (refine dd (.tmp 56) (.const (.int .u64 256)) (.const (.int .i64 3)) 178 144 39 (by rfl) (by rfl) (by rfl) (by rfl) (by rfl) Tryz.func134 (by kernel_rfl) (by rfl) HC.out ?_
           intro e w1 hh
           obtain⟨v,he,hv,hrd,ha⟩:=hh.good
           clear hh
           replace hv:v=.int .i64 (m:Nat):=hv
           subst hv
           refine⟨_,he,?_⟩
           clear he
           have HA1:=vQ ha
           have HRd1:=vQ hrd
           obtain⟨x1',x2',x3'⟩:=HCells.out w1 ha
           have HI1:=vQ (HI.out.step ha hrd hR)
           have q4':w1.cell? ⟨w.1.size+1+1,4,none⟩=some (.slice none 0 0):=aa HI1.out.b2 4
           have qf4':=ac HI1.out.b2 4
           clear ha hrd)
        | (refine dW (.tmp 55) (.tmp 57) (.tmp 61) 178 3 83 (by rfl) (by rfl) (by rfl) (by rfl) (by rfl) Tryz.func174 (by kernel_rfl) (by rfl) (HCi.out w1 HA1.out HRd1.out) (fun e w2 hh=>⟨_,hh.bad.1,rfl,HErr.out w1 w2 HA1.out hh.bad.2⟩) (.slice none 0 0) ?_
           intro HF))
      all_goals exact HF.out.elim
    |ok vj=>
      obtain⟨vs,j2⟩:=vj
      have HRok:Hid (r=.ok (.mk 7 0 0 ⟨#[]⟩ vs,j+j2)):=HR2.out
      clear HR2
      go_enter Tryz.func164,Tryz.ntmps164
      go_wp2_with fail
      rw[<-HW.out]
      go_region_law (first
        | (refine dd (.tmp 56) (.const (.int .u64 256)) (.const (.int .i64 3)) 178 144 39 (by rfl) (by rfl) (by rfl) (by rfl) (by rfl) Tryz.func134 (by kernel_rfl) (by rfl) HC.out ?_
           intro e w1 hh
           obtain⟨v,he,hv,hrd,ha⟩:=hh.good
           clear hh
           replace hv:v=.int .i64 (m:Nat):=hv
           subst hv
           refine⟨_,he,?_⟩
           clear he
           have HA1:=vQ ha
           have HRd1:=vQ hrd
           obtain⟨x1',x2',x3'⟩:=HCells.out w1 ha
           have HI1:=vQ (HI.out.step ha hrd hR)
           clear ha hrd)
        | (refine dd (.tmp 55) (.tmp 57) (.tmp 61) 178 3 83 (by rfl) (by rfl) (by rfl) (by rfl) (by rfl) Tryz.func174 (by kernel_rfl) (by rfl) (HCi.out w1 HA1.out HRd1.out) ?_
           intro e w2 hh
           obtain⟨v,he,hv,hrd,ha⟩:=hh.good
           obtain⟨qi,ci,hv2,hown⟩:=hv.open
           clear hh hv
           subst hv2
           refine⟨_,he,?_⟩
           clear he
           have HI2:=vQ (HI1.out.step ha hrd hR)
           have HOn:=vQ hown
           have hs1:=HI1.out.size
           have hs2:=ha.size
           have z4:w2.cell? ⟨w.1.size+1+1,4,none⟩=some (.slice none 0 0):=aa HI2.out.b2 4
           have zf4:=ac HI2.out.b2 4
           clear ha hrd hown))
      all_goals
        have HD:=vQ (HI2.out.set hR 4 (.slice qi vs.length ci))
        have HFin:=vQ (sD (k:=7) (i:=0) (b:=0) (t:=⟨#[]⟩) (q:=qi) (n:=vs.length) (c:=ci) (x:=.mk 7 0 0 ⟨#[]⟩ vs) (N:=w.1.size+1) hR (by omega) HD.out.b1 ((HOn.out 7).aside (af w2 (w.1.size+1+1) 4 (.slice qi vs.length ci)) (fun i hi he=>by omega)) (fun i hi=>⟨by omega,by have:=(af w2 (w.1.size+1+1) 4 (.slice qi vs.length ci)).size;omega⟩) HD.out.rd HD.out.aside)
        have z0:w2.cell? ⟨w.1.size+1+1,0,none⟩=some (.int .i64 7):=aa HI2.out.b2 0
        have z1:w2.cell? ⟨w.1.size+1+1,1,none⟩=some (.int .i64 0):=aa HI2.out.b2 1
        have z2:w2.cell? ⟨w.1.size+1+1,2,none⟩=some (.float .f64 0):=aa HI2.out.b2 2
        have z3:w2.cell? ⟨w.1.size+1+1,3,none⟩=some (.string ⟨#[]⟩):=aa HI2.out.b2 3
        have t0:w2.cell? ⟨w.1.size+1,0,none⟩=some (.int .i64 0):=aa HI2.out.b1 0
        have tf0:=ac HI2.out.b1 0
        have t1:w2.cell? ⟨w.1.size+1,1,none⟩=some (.int .i64 0):=aa HI2.out.b1 1
        have tf1:=ac HI2.out.b1 1
        have t2:w2.cell? ⟨w.1.size+1,2,none⟩=some (.float .f64 0):=aa HI2.out.b1 2
        have tf2:=ac HI2.out.b1 2
        have t3:w2.cell? ⟨w.1.size+1,3,none⟩=some (.string ⟨#[]⟩):=aa HI2.out.b1 3
        have tf3:=ac HI2.out.b1 3
        have t4:w2.cell? ⟨w.1.size+1,4,none⟩=some (.slice none 0 0):=aa HI2.out.b1 4
        have tf4:=ac HI2.out.b1 4
        clear x1 x2 x3 q4 qf4 x1' x2' x3'
        go_wp2
        obtain⟨f1,f2,f3,f4⟩:=HFin.out
        refine bodyPost_ret (v:=.agg (cells5 7 0 0 ⟨#[]⟩ qi vs.length ci)) (results_cell_row rfl _ _ (w.1.size+1) _ _ _ _ rfl f1 Tryz.underlying87 rfl (by kernel_rfl)) rfl ?_
        rw[HRok.out]
        refine⟨_,rfl,f2,?_,f4⟩
        rw[<-List.drop_drop]
        exact f3
theorem ti:∀(t:Ty) (d:Nat),Ty.check d t=0->lq t:=by
 intro t
 refine Ty.ind (P:=fun t=>∀d,Ty.check d t=0->lq t) ?_ t
 intro k xs ih d hd l A R w u hf h
 obtain⟨-,hk,hct⟩:=Sch.ty_open hd
 rcases hct with ⟨h6,rfl⟩ | ⟨h6,x,rfl,hx⟩
 ·obtain⟨k',p,n,c,rfl⟩:=hf.shape
  obtain⟨F,hown,-⟩:=hf.out
  have hkk:k'=k:=by
   obtain⟨p2,c2,he,-⟩:=hown.lies.open
   simp only[al] at he
   injection he with he
   injection he with he _
   injection he with _ he
  subst hkk
  rw[Sch.rdV_mk,if_pos (by omega)]
  unfold al
  have hcase:k'=1∨k'=2∨k'=3∨k'=4∨k'=5:=by omega
  rcases hcase with rfl | rfl | rfl | rfl | rfl
  ·exact rT l A R w p n c h
  ·exact rS l A R w p n c h
  ·exact rR l A R w p n c h
  ·exact rQ l A R w p n c h
  ·exact rP l A R w p n c h
 ·rcases h6 with rfl | rfl
  ·exact rO x (ih x (by simp) (d+1) hx) l A R w u hf h
  ·exact rN x (ih x (by simp) (d+1) hx) l A R w u hf h
end
section
open Go.RowKit
attribute [local go_sem] ai
def jP(s:ByteArray)(l:L8):Except Nat (Col×Nat):=am (Sch.rdT 4 l) fun t j2=>am (Sch.bit (l.drop j2)) fun h j3=>if h=0 then .ok (⟨s,t,false,V0⟩,j2+j3) else am (Sch.rdV t (l.drop (j2+j3))) fun v j4=>.ok (⟨s,t,true,v⟩,j2+j3+j4)
def isC(w:World)(c:Col)(v:Value)(w':World):Prop:=∃u,v=.agg u∧cN w' (fun k=>w.1.size<=k∧k<w'.1.size) u c
theorem isC.open{w w':World}{c:Col}{v:Value}(h:isC w c v w'):∃u,v=.agg u∧cN w' (fun k=>w.1.size<=k∧k<w'.1.size) u c:=h
theorem uQ{w wr:World}{A R:Nat}{n:ByteArray}{k:Int}{tp:OA}{tn tc:Nat}{h:Bool}{vk vi:Int}{vb:Nat}{vt:ByteArray}{vp:OA}{vn vc:Nat}{c:Col}{F:Nat->Prop}{l:L8}(hR:R<w.1.size)(bN:wr.1[w.1.size]?=some (.cells #[.string ⟨#[]⟩,.int .i64 0,.slice none 0 0,.bool false,.int .i64 0,.int .i64 0,.float .f64 0,.string ⟨#[]⟩,.slice none 0 0] 89 (0,0)))(hs:w.1.size+1<=wr.1.size)(hown:cN wr F (aA n k tp tn tc h vk vi vb vt vp vn vc) c)(hF:∀j,F j->w.1.size+1<=j∧j<wr.1.size)(hrd:Rdr wr A R l)(ha:Aside (fun i=>i=R) w wr){P:World}(hP:P=mh wr w.1.size n k (.slice tp tn tc) h vk vi vb vt (.slice vp vn vc)):
  P.1[w.1.size]?=some (.cells (aA n k tp tn tc h vk vi vb vt vp vn vc) 89 (0,0))∧isC w c (.agg (aA n k tp tn tc h vk vi vb vt vp vn vc)) P∧Rdr P A R l∧Aside (fun i=>i=R) w P:=by
 obtain⟨wx,hx1,hx2,hx3⟩:=ha.split hR
 obtain⟨h1,h2,h3⟩:=pZ (w:=wx) (w1:=wr) (by rw[hx2];exact bN) hx3 (by rw[hx2];exact hs) hown (by rw[hx2];exact hF)
 rw[hx2] at h1 h2 h3
 rw[<-hP] at h1 h2 h3
 refine⟨h1,⟨_,rfl,h2⟩,hrd.keep (fun j hj=>?_) ?_,hx1.trans (ae (by rw[hx2];exact h3) (fun _=>False)) (fun _ _ h=>h.elim)⟩
 ·rw[h3.block j (by omega),hx3.block j (by omega)]
 ·rw[hP];simp[mh,World.setCell]
structure eK(w W:World)(A R T:Nat)(D:AV)(l:L8):Prop where
 bN:W.1[w.1.size]?=some (.cells #[.string ⟨#[]⟩,.int .i64 0,.slice none 0 0,.bool false,.int .i64 0,.int .i64 0,.float .f64 0,.string ⟨#[]⟩,.slice none 0 0] 89 (0,0))
 bT:W.1[T]?=some (.cells D 89 (0,0))
 rd:Rdr W A R l
 aside:Aside (fun i=>i=R) w W
 low:R<w.1.size
 mid:w.1.size<T
theorem eK.lt{w W:World}{A R T:Nat}{D:AV}{l:L8}(h:eK w W A R T D l):T<W.1.size:=aw h.bT
theorem eK.step{w W W':World}{A R T:Nat}{D:AV}{l l':L8}(h:eK w W A R T D l)(ha:Aside (fun i=>i=R) W W')(hrd:Rdr W' A R l'):eK w W' A R T D l':=by
 have h1:=h.lt
 have h2:=h.mid
 have h3:=h.low
 exact⟨by rw[ha.block _ (by omega) (by omega)];exact h.bN,by rw[ha.block _ h1 (by omega)];exact h.bT,hrd,h.aside.trans ha (fun _ _ h=>h),h3,h2⟩
theorem eK.set{w W:World}{A R T:Nat}{D:AV}{l:L8}(h:eK w W A R T D l)(m:Nat)(u:Value):eK w (W.setCell ⟨T,m,none⟩ u) A R T (D.set! m u) l:=by
 have h1:=h.lt
 have h2:=h.mid
 have h3:=h.low
 have ha:Aside (fun i=>i=T) W (W.setCell ⟨T,m,none⟩ u):=af _ _ _ _
 exact⟨by rw[ha.block _ (by omega) (by omega)];exact h.bN,ap h.bT m u,h.rd.aside ha (fun j hj=>by rw[hj];omega),h.aside.trans ha (fun j hj he=>by rw[he] at hj;omega),h3,h2⟩
theorem sI(nm:ByteArray)(l:L8)(A R:Nat)(w:World)(h:Rdr w A R l):Calls Tryz.prog 136 #[.pointer (some ⟨R,0,none⟩),.string nm] w (RdA w A R l (jP nm l) (isC w)):=by
 have hR:=h.lt
 obtain⟨W0,hW0⟩:∃W0,W0=w.alloc (.cells #[.string ⟨#[]⟩,.int .i64 0,.slice none 0 0,.bool false,.int .i64 0,.int .i64 0,.float .f64 0,.string ⟨#[]⟩,.slice none 0 0] 89):=⟨_,rfl⟩
 have HB0:Hid (Below w.1.size w W0):=by rw[hW0];exact vY
 have HN0:Hid (W0.1[w.1.size]?=some (.cells #[.string ⟨#[]⟩,.int .i64 0,.slice none 0 0,.bool false,.int .i64 0,.int .i64 0,.float .f64 0,.string ⟨#[]⟩,.slice none 0 0] 89 (0,0))):=by rw[hW0];exact ag w _
 have HW0:=vQ hW0
 have HCt:=vQ (rW 4 1 l A R W0 rfl (h.on HB0.out))
 obtain⟨r,hr⟩:∃r,r=jP nm l:=⟨_,rfl⟩
 have HR:Hid (r=am (Sch.rdT 4 l) fun t j2=>am (Sch.bit (l.drop j2)) fun h j3=>if h=0 then .ok (⟨nm,t,false,V0⟩,j2+j3) else am (Sch.rdV t (l.drop (j2+j3))) fun v j4=>.ok (⟨nm,t,true,v⟩,j2+j3+j4)):=hr
 rw[<-hr]
 obtain⟨mt,hmt⟩:∃m,m=Sch.rdT 4 l:=⟨_,rfl⟩
 rw[<-hmt] at HR HCt
 have HMt:=vQ hmt
 clear hr hmt h hW0
 cases mt with
 |error er=>
  have HR2:Hid (r=.error er):=HR.out
  clear HR
  go_enter Tryz.func136,Tryz.ntmps136
  go_wp2_with fail
  rw[<-HW0.out]
  refine HCt.out.mono ?_
  intro e w1 hh
  obtain⟨he,ha⟩:=hh.bad
  subst he
  clear hh
  have HA:=vQ ((ae HB0.out _).trans ha (fun _ _ h=>h))
  clear ha HCt
  go_wp2
  rw[HR2.out]
  exact⟨rfl,rfl,HA.out⟩
 |ok tj=>
  obtain⟨t,j2⟩:=tj
  have HR1:Hid (r=am (Sch.bit (l.drop j2)) fun h j3=>if h=0 then .ok (⟨nm,t,false,V0⟩,j2+j3) else am (Sch.rdV t (l.drop (j2+j3))) fun v j4=>.ok (⟨nm,t,true,v⟩,j2+j3+j4)):=HR.out
  have HTc:Hid (Ty.check 1 t=0):=(Sch.rdT_ok 4 _ _ _ (by omega) HMt.out.symm).2.2.1
  clear HR HMt
  go_enter Tryz.func136,Tryz.ntmps136
  go_wp2_with fail
  rw[<-HW0.out]
  refine HCt.out.mono ?_
  intro e w1 hh
  obtain⟨v,he,hv,hrd,ha⟩:=hh.good
  obtain⟨u,hv2,hown⟩:=hv.open
  clear hh hv
  obtain⟨k,tp,tn,tc,hu⟩:=hown.shape
  subst hu
  subst hv2
  subst he
  unfold al
  have hNlt:=aw HN0.out
  have hs1:w.1.size<w1.1.size:=Nat.lt_of_lt_of_le hNlt ha.size
  have hs01:w.1.size+1<=W0.1.size:=hNlt
  have HA1:=vQ ((ae HB0.out (fun i=>i=R)).trans ha (fun _ _ h=>h))
  have HN1:Hid (w1.1[w.1.size]?=some (.cells #[.string ⟨#[]⟩,.int .i64 0,.slice none 0 0,.bool false,.int .i64 0,.int .i64 0,.float .f64 0,.string ⟨#[]⟩,.slice none 0 0] 89 (0,0))):=by
   show _=_
   rw[ha.block _ hNlt (by omega)]
   exact HN0.out
  obtain⟨W,hW⟩:∃W,W=w1.alloc (.cells #[.string nm,.int .i64 k,.slice tp tn tc,.bool false,.int .i64 0,.int .i64 0,.float .f64 0,.string ⟨#[]⟩,.slice none 0 0] 89):=⟨_,rfl⟩
  have HBW:Hid (Below w1.1.size w1 W):=by rw[hW];exact vY
  have HI:Hid (eK w W A R w1.1.size #[.string nm,.int .i64 k,.slice tp tn tc,.bool false,.int .i64 0,.int .i64 0,.float .f64 0,.string ⟨#[]⟩,.slice none 0 0] (l.drop j2)):=by
   refine⟨jT HN1.out HBW.out hs1,by rw[hW];exact ag w1 _,hrd.on HBW.out,HA1.out.trans (ae HBW.out (fun _=>False)) (fun _ _ h=>h.elim),hR,hs1⟩
  -- the type,wherever the reader and the column alone have changed
  have HOwn:Hid (∀W' (F:Nat->Prop),(∀j,F j->j=R∨w1.1.size<=j)->Aside F W W'->aZ W' (fun j=>W0.1.size<=j∧j<w1.1.size) (al k tp tn tc) t):=fun W' F hF ha'=>
   (hown.under HBW.out (fun j hj=>hj.2)).aside ha' (fun j hj hc=>by
    rcases hF j hc with h1 | h1
    ·omega
    ·omega)
  have HCb:=vQ (qU (l.drop j2) A R W HI.out.rd)
  have HW:=vQ hW
  obtain⟨mb,hmb⟩:∃m,m=Sch.bit (l.drop j2):=⟨_,rfl⟩
  rw[<-hmb] at HR1 HCb
  have HMb:=vQ hmb
  clear ha hrd hown HCt HN0 HN1 HA1 HW0 HB0 hW hmb hNlt
  go_wp2_with fail
  rw[<-HW.out]
  clear HW
  refine HCb.out.mono ?_
  intro e w2 hh
  cases mb with
  |error er=>
   have HR2:Hid (r=.error er):=HR1.out
   obtain⟨he,ha⟩:=hh.bad
   subst he
   clear hh HR1
   have HA:=vQ (HI.out.aside.trans ha (fun _ _ h=>h))
   clear ha HCb
   go_wp2
   rw[HR2.out]
   exact⟨rfl,rfl,HA.out⟩
  |ok hj=>
   obtain⟨hf,j3⟩:=hj
   have hf1:hf<=1:=(Sch.bit_ok HMb.out.symm).1
   have HR2:Hid (r=if hf=0 then .ok (⟨nm,t,false,V0⟩,j2+j3) else am (Sch.rdV t (l.drop (j2+j3))) fun v j4=>.ok (⟨nm,t,true,v⟩,j2+j3+j4)):=HR1.out
   obtain⟨v,he,hv,hrd,ha⟩:=hh.good
   clear hh HR1 HMb
   replace hv:v=.int .i64 (hf:Nat):=hv
   subst hv
   subst he
   have HA2:=vQ ha
   have HI2:=vQ (HI.out.step ha hrd)
   have hsW:w1.1.size<W.1.size:=HI.out.lt
   clear ha hrd HCb HI
   have d3:w2.cell? ⟨w1.1.size,3,none⟩=some (.bool false):=aa HI2.out.bT 3
   have df3:=ac HI2.out.bT 3
   have hcase:hf=0∨hf=1:=by omega
   rcases hcase with h0 | h1
   ·subst h0
    have HR3:Hid (r=.ok (⟨nm,t,false,V0⟩,j2+j3)):=HR2.out.trans (if_pos rfl)
    clear HR2
    have HI3:=vQ (HI2.out.set 3 (.bool false))
    have HO3:Hid (cN (w2.setCell ⟨w1.1.size,3,none⟩ (.bool false)) (fun j=>W0.1.size<=j∧j<w1.1.size) (aA nm k tp tn tc false 0 0 0 ⟨#[]⟩ none 0 0) ⟨nm,t,false,V0⟩):=by
     refine⟨fun j=>W0.1.size<=j∧j<w1.1.size,fun _=>False,k,tp,tn,tc,0,0,0,⟨#[]⟩,none,0,0,rfl,?_,br.none,fun _ h=>h,fun _ h=>h.elim,fun _ _ h=>h⟩
     exact HOwn.out _ (fun j=>j=R∨j=w1.1.size) (fun j hj=>hj.elim .inl (fun h=>.inr (by omega))) ((HA2.out.mono (fun _ _ h=>.inl h)).trans (af w2 w1.1.size 3 (.bool false)) (fun _ _ h=>.inr h))
    have HFin:=vQ (fun P hP=>uQ (P:=P) hR HI3.out.bN (by have:=HI3.out.lt;have:=HI3.out.mid;omega) HO3.out (fun j hj=>⟨by omega,by have:=HI3.out.lt;omega⟩) HI3.out.rd HI3.out.aside hP)
    have d0:w2.cell? ⟨w1.1.size,0,none⟩=some (.string nm):=aa HI2.out.bT 0
    have d1:w2.cell? ⟨w1.1.size,1,none⟩=some (.int .i64 k):=aa HI2.out.bT 1
    have d2:w2.cell? ⟨w1.1.size,2,none⟩=some (.slice tp tn tc):=aa HI2.out.bT 2
    have d4:w2.cell? ⟨w1.1.size,4,none⟩=some (.int .i64 0):=aa HI2.out.bT 4
    have d5:w2.cell? ⟨w1.1.size,5,none⟩=some (.int .i64 0):=aa HI2.out.bT 5
    have d6:w2.cell? ⟨w1.1.size,6,none⟩=some (.float .f64 0):=aa HI2.out.bT 6
    have d7:w2.cell? ⟨w1.1.size,7,none⟩=some (.string ⟨#[]⟩):=aa HI2.out.bT 7
    have d8:w2.cell? ⟨w1.1.size,8,none⟩=some (.slice none 0 0):=aa HI2.out.bT 8
    have n0:w2.cell? ⟨w.1.size,0,none⟩=some (.string ⟨#[]⟩):=aa HI2.out.bN 0
    have nf0:=ac HI2.out.bN 0
    have n1:w2.cell? ⟨w.1.size,1,none⟩=some (.int .i64 0):=aa HI2.out.bN 1
    have nf1:=ac HI2.out.bN 1
    have n2:w2.cell? ⟨w.1.size,2,none⟩=some (.slice none 0 0):=aa HI2.out.bN 2
    have nf2:=ac HI2.out.bN 2
    have n3:w2.cell? ⟨w.1.size,3,none⟩=some (.bool false):=aa HI2.out.bN 3
    have nf3:=ac HI2.out.bN 3
    have n4:w2.cell? ⟨w.1.size,4,none⟩=some (.int .i64 0):=aa HI2.out.bN 4
    have nf4:=ac HI2.out.bN 4
    have n5:w2.cell? ⟨w.1.size,5,none⟩=some (.int .i64 0):=aa HI2.out.bN 5
    have nf5:=ac HI2.out.bN 5
    have n6:w2.cell? ⟨w.1.size,6,none⟩=some (.float .f64 0):=aa HI2.out.bN 6
    have nf6:=ac HI2.out.bN 6
    have n7:w2.cell? ⟨w.1.size,7,none⟩=some (.string ⟨#[]⟩):=aa HI2.out.bN 7
    have nf7:=ac HI2.out.bN 7
    have n8:w2.cell? ⟨w.1.size,8,none⟩=some (.slice none 0 0):=aa HI2.out.bN 8
    have nf8:=ac HI2.out.bN 8
    go_wp2
    obtain⟨f1,f2,f3,f4⟩:=HFin.out _ rfl
    refine bodyPost_ret (v:=.agg (aA nm k tp tn tc false 0 0 0 ⟨#[]⟩ none 0 0)) (results_cell_row rfl _ _ w.1.size _ _ _ _ rfl f1 Tryz.underlying89 rfl (by kernel_rfl)) rfl ?_
    rw[HR3.out]
    refine⟨_,rfl,f2,?_,f4⟩
    rw[<-List.drop_drop]
    exact f3
   ·subst h1
    obtain⟨W3,hW3⟩:∃W3,W3=w2.setCell ⟨w1.1.size,3,none⟩ (.bool true):=⟨_,rfl⟩
    have HI3:Hid (eK w W3 A R w1.1.size #[.string nm,.int .i64 k,.slice tp tn tc,.bool true,.int .i64 0,.int .i64 0,.float .f64 0,.string ⟨#[]⟩,.slice none 0 0] (l.drop (j2+j3))):=by
     rw[hW3,<-List.drop_drop]
     exact HI2.out.set 3 (.bool true)
    have HA3:Hid (Aside (fun j=>j=R∨j=w1.1.size) W W3):=by
     rw[hW3]
     exact(HA2.out.mono (fun _ _ h=>.inl h)).trans (af w2 w1.1.size 3 (.bool true)) (fun _ _ h=>.inr h)
    have HFar:Hid (dT W3 R (al k tp tn tc) t):=by
     refine⟨fun j=>W0.1.size<=j∧j<w1.1.size,HOwn.out _ _ (fun j hj=>hj.elim .inl (fun h=>.inr (by omega))) HA3.out,fun j hj=>⟨by omega,?_⟩⟩
     have:=HI3.out.lt
     omega
    have HCv:=vQ (ti t 1 HTc.out (l.drop (j2+j3)) A R W3 _ HFar.out HI3.out.rd)
    have HR3:Hid (r=am (Sch.rdV t (l.drop (j2+j3))) fun v j4=>.ok (⟨nm,t,true,v⟩,j2+j3+j4)):=HR2.out.trans (if_neg (by decide))
    obtain⟨mv,hmv⟩:∃m,m=Sch.rdV t (l.drop (j2+j3)):=⟨_,rfl⟩
    rw[<-hmv] at HR3 HCv
    have HW3:=vQ hW3
    unfold al at HCv
    have d1:w2.cell? ⟨w1.1.size,1,none⟩=some (.int .i64 k):=aa HI2.out.bT 1
    have d2:w2.cell? ⟨w1.1.size,2,none⟩=some (.slice tp tn tc):=aa HI2.out.bT 2
    clear HR2 hmv hW3 HA2 HFar
    cases mv with
    |error er=>
     have HR4:Hid (r=.error er):=HR3.out
     clear HR3
     go_wp2_with fail
     rw[<-HW3.out]
     refine HCv.out.mono ?_
     intro e w4 hh
     obtain⟨he,ha⟩:=hh.bad
     subst he
     clear hh
     have HA:=vQ (HI3.out.aside.trans ha (fun _ _ h=>h))
     clear ha HCv
     go_wp2
     rw[HR4.out]
     exact⟨rfl,rfl,HA.out⟩
    |ok vj=>
     obtain⟨x,j4⟩:=vj
     have HR4:Hid (r=.ok (⟨nm,t,true,x⟩,j2+j3+j4)):=HR3.out
     clear HR3
     go_wp2_with fail
     rw[<-HW3.out]
     refine HCv.out.mono ?_
     intro e w4 hh
     obtain⟨v,he,hv,hrd,ha⟩:=hh.good
     obtain⟨u',hv2,hown⟩:=hv.open
     clear hh hv
     obtain⟨vk,vi,vb,vt,vp,vn,vc,hu'⟩:=hown.shape
     subst hu'
     subst hv2
     subst he
     unfold cells5
     have HI4:=vQ (HI3.out.step ha hrd)
     have HA4:Hid (Aside (fun j=>j=R∨j=w1.1.size) W w4):=HA3.out.trans ha (fun _ _ h=>.inl h)
     have HOv:=vQ hown
     have hs3:=HI3.out.lt
     have hs4:=ha.size
     clear ha hrd hown HCv HW3 d1 d2 d3 df3 HI2
     have HI5:=vQ (((((HI4.out.set 4 (.int .i64 vk)).set 5 (.int .i64 vi)).set 6 (.float .f64 vb)).set 7 (.string vt)).set 8 (.slice vp vn vc))
     obtain⟨w5,hw5⟩:∃w5,w5=((((w4.setCell ⟨w1.1.size,4,none⟩ (.int .i64 vk)).setCell ⟨w1.1.size,5,none⟩ (.int .i64 vi)).setCell ⟨w1.1.size,6,none⟩ (.float .f64 vb)).setCell ⟨w1.1.size,7,none⟩ (.string vt)).setCell ⟨w1.1.size,8,none⟩ (.slice vp vn vc):=⟨_,rfl⟩
     have HA5:Hid (Aside (fun j=>j=w1.1.size) w4 w5):=by
      rw[hw5]
      have a0:Aside (fun j=>j=w1.1.size) w4 (w4.setCell ⟨w1.1.size,4,none⟩ (.int .i64 vk)):=af _ _ _ _
      have a1:=a0.trans (af _ w1.1.size 5 (.int .i64 vi)) (fun _ _ h=>h)
      have a2:=a1.trans (af _ w1.1.size 6 (.float .f64 vb)) (fun _ _ h=>h)
      have a3:=a2.trans (af _ w1.1.size 7 (.string vt)) (fun _ _ h=>h)
      exact a3.trans (af _ w1.1.size 8 (.slice vp vn vc)) (fun _ _ h=>h)
     rw[<-hw5] at HI5
     have hs5:=HA5.out.size
     have HO5:Hid (cN w5 (fun j=>w.1.size+1<=j∧j<w5.1.size) (aA nm k tp tn tc true vk vi vb vt vp vn vc) ⟨nm,t,true,x⟩):=by
      refine⟨fun j=>W0.1.size<=j∧j<w1.1.size,fun j=>W3.1.size<=j∧j<w4.1.size,k,tp,tn,tc,vk,vi,vb,vt,vp,vn,vc,rfl,?_,?_,fun j hj=>by omega,fun j hj=>by omega,fun j h1 h2=>by omega⟩
      ·exact HOwn.out _ _ (fun j hj=>hj.elim .inl (fun h=>.inr (by omega))) (HA4.out.trans HA5.out (fun _ _ h=>.inr h))
      ·exact HOv.out.aside HA5.out (fun j hj he=>by omega)
     have HFin:=vQ (fun P hP=>uQ (P:=P) hR HI5.out.bN (by omega) HO5.out (fun j hj=>hj) HI5.out.rd HI5.out.aside hP)
     rw[hw5] at HFin
     clear hw5 HI5 HO5 HA5 HA4 HOv
     have d0:w4.cell? ⟨w1.1.size,0,none⟩=some (.string nm):=aa HI4.out.bT 0
     have d1:w4.cell? ⟨w1.1.size,1,none⟩=some (.int .i64 k):=aa HI4.out.bT 1
     have d2:w4.cell? ⟨w1.1.size,2,none⟩=some (.slice tp tn tc):=aa HI4.out.bT 2
     have d3:w4.cell? ⟨w1.1.size,3,none⟩=some (.bool true):=aa HI4.out.bT 3
     have d4:w4.cell? ⟨w1.1.size,4,none⟩=some (.int .i64 0):=aa HI4.out.bT 4
     have df4:=ac HI4.out.bT 4
     have d5:w4.cell? ⟨w1.1.size,5,none⟩=some (.int .i64 0):=aa HI4.out.bT 5
     have df5:=ac HI4.out.bT 5
     have d6:w4.cell? ⟨w1.1.size,6,none⟩=some (.float .f64 0):=aa HI4.out.bT 6
     have df6:=ac HI4.out.bT 6
     have d7:w4.cell? ⟨w1.1.size,7,none⟩=some (.string ⟨#[]⟩):=aa HI4.out.bT 7
     have df7:=ac HI4.out.bT 7
     have d8:w4.cell? ⟨w1.1.size,8,none⟩=some (.slice none 0 0):=aa HI4.out.bT 8
     have df8:=ac HI4.out.bT 8
     have n0:w4.cell? ⟨w.1.size,0,none⟩=some (.string ⟨#[]⟩):=aa HI4.out.bN 0
     have nf0:=ac HI4.out.bN 0
     have n1:w4.cell? ⟨w.1.size,1,none⟩=some (.int .i64 0):=aa HI4.out.bN 1
     have nf1:=ac HI4.out.bN 1
     have n2:w4.cell? ⟨w.1.size,2,none⟩=some (.slice none 0 0):=aa HI4.out.bN 2
     have nf2:=ac HI4.out.bN 2
     have n3:w4.cell? ⟨w.1.size,3,none⟩=some (.bool false):=aa HI4.out.bN 3
     have nf3:=ac HI4.out.bN 3
     have n4:w4.cell? ⟨w.1.size,4,none⟩=some (.int .i64 0):=aa HI4.out.bN 4
     have nf4:=ac HI4.out.bN 4
     have n5:w4.cell? ⟨w.1.size,5,none⟩=some (.int .i64 0):=aa HI4.out.bN 5
     have nf5:=ac HI4.out.bN 5
     have n6:w4.cell? ⟨w.1.size,6,none⟩=some (.float .f64 0):=aa HI4.out.bN 6
     have nf6:=ac HI4.out.bN 6
     have n7:w4.cell? ⟨w.1.size,7,none⟩=some (.string ⟨#[]⟩):=aa HI4.out.bN 7
     have nf7:=ac HI4.out.bN 7
     have n8:w4.cell? ⟨w.1.size,8,none⟩=some (.slice none 0 0):=aa HI4.out.bN 8
     have nf8:=ac HI4.out.bN 8
     clear HI4
     go_wp2
     obtain⟨f1,f2,f3,f4⟩:=HFin.out _ rfl
     refine bodyPost_ret (v:=.agg (aA nm k tp tn tc true vk vi vb vt vp vn vc)) (results_cell_row rfl _ _ w.1.size _ _ _ _ rfl f1 Tryz.underlying89 rfl (by kernel_rfl)) rfl ?_
     rw[HR4.out]
     refine⟨_,rfl,f2,?_,f4⟩
     rw[<-List.drop_drop]
     exact f3
end
end Go.Proofs.YtlgfdgdlaahpfaaGreatDoor

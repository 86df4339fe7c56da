import Derived.Test.YtlgfdgdlaahpfaaGreatDoorB16
import Derived.Test.YtlgfdgdlaahpfaaGreatDoorA10
import Derived.Deep.RegionLaw
set_option maxRecDepth 100000
set_option maxHeartbeats 2000000
namespace Go.Proofs.YtlgfdgdlaahpfaaGreatDoor
section
open Go.RowKit
theorem Aside.split{w w2:World}{R:Nat}(h:Aside (fun i=>i=R) w w2)(hR:R<w.1.size):∃w1,Aside (fun i=>i=R) w w1∧w1.1.size=w.1.size∧Below w1.1.size w1 w2:=by
 have hs:=h.size
 refine⟨{ w with heap:=w.1.setIfInBounds R (w2.1[R]'(by omega)) },⟨rfl,rfl,rfl,by simp,fun k hk hf=>?_⟩,by simp,⟨h.os,h.tape,h.output,by simpa using hs,fun k hk=>?_⟩⟩
 ·show(w.1.setIfInBounds R _)[k]?=_
  rw[Array.getElem?_setIfInBounds_ne (fun e=>hf e.symm)]
 ·have hk':k<w.1.size:=by simpa using hk
  show _=(w.1.setIfInBounds R _)[k]?
  by_cases e:k=R
  ·subst e
   rw[Array.getElem?_setIfInBounds_self_of_lt hk']
   exact Array.getElem?_eq_getElem _
  ·rw[Array.getElem?_setIfInBounds_ne (fun e2=>e e2.symm)]
   exact h.block k hk' e
theorem kp{w:World}{ops:Array Oper}{o:Oper}{a:Act}{K:Act->World->Prop}{Q:Exit->Act->World->Prop}{E:Prop}{f:FuncId}{fn:Func}{code:Code}{u v:Value}{R:Ending->World->Prop}(x y:Operand)(t t':TypeId)(hg:o.guard=none)(hop:o.op=Op.call { callee:=.value (.func f),args:=#[x,y],argTypes:=#[t,t'] })(hx:a.eval x=u)(hy:a.eval y=v)(hf : Tryz.prog.funcs[f]?=some fn)(hname : (fn.name== "runtime.NumGoroutine")=false)(hb : fn.body=some code)(hc:Calls Tryz.prog f #[u,v] w R)(hR:∀e w',R e w'->∃ch,e=.panicked ch∧Q (.panic ch) a w')(v':Value)(_:Hid False->K (a.put o.dst v') w):
  if Region.wanted o (yielded ops a.tmps)=true then Oper.wp Tryz.prog o a w K Q else E:=by
 have hw:Region.wanted o (yielded ops a.tmps)=true:=by simp[Region.wanted,hg]
 rw[if_pos hw]
 have h1 : fn.name≠ "runtime.NumGoroutine" := by simpa using hname
 unfold Oper.wp
 have he:(execOp a.eval o).run Tryz.prog w=.ok (.enter f #[u,v]) w:=by
  have hev:a.eval (.func f)=.func (.func f) #[] #[]:=rfl
  simp[execOp,hop,resolve,invoke,hx,hy,hev,Deferred.ofValue,callFunc,hf,h1,hb]
 rw[he,Oper.upon_enter]
 refine hc.mono ?_
 intro e w' hr
 obtain⟨z,rfl,hk⟩:=hR e w' hr
 exact hk
theorem cz{w:World}{ops:Array Oper}{o:Oper}{a:Act}{K:Act->World->Prop}{Q:Exit->Act->World->Prop}{E:Prop}(h:Hid False)(v':Value)(_:K (a.put o.dst v') w):
  if Region.wanted o (yielded ops a.tmps)=true then Oper.wp Tryz.prog o a w K Q else E:=h.out.elim
theorem ko{w:World}{ops:Array Oper}{o:Oper}{a:Act}{K:Act->World->Prop}{Q:Exit->Act->World->Prop}{E:Prop}{f:FuncId}{fn:Func}{code:Code}{u v:Value}{R:Ending->World->Prop}(x y:Operand)(t t':TypeId)(hg:o.guard=none)(hop:o.op=Op.call { callee:=.value (.func f),args:=#[x,y],argTypes:=#[t,t'] })(hx:a.eval x=u)(hy:a.eval y=v)(hf : Tryz.prog.funcs[f]?=some fn)(hname : (fn.name== "runtime.NumGoroutine")=false)(hb : fn.body=some code)(hc:Calls Tryz.prog f #[u,v] w R)(hR:∀e w',R e w'->∃z,e=.returned z∧K (a.put o.dst z) w'):
  if Region.wanted o (yielded ops a.tmps)=true then Oper.wp Tryz.prog o a w K Q else E:=by
 have hw:Region.wanted o (yielded ops a.tmps)=true:=by simp[Region.wanted,hg]
 rw[if_pos hw]
 have h1 : fn.name≠ "runtime.NumGoroutine" := by simpa using hname
 unfold Oper.wp
 have he:(execOp a.eval o).run Tryz.prog w=.ok (.enter f #[u,v]) w:=by
  have hev:a.eval (.func f)=.func (.func f) #[] #[]:=rfl
  simp[execOp,hop,resolve,invoke,hx,hy,hev,Deferred.ofValue,callFunc,hf,h1,hb]
 rw[he,Oper.upon_enter]
 refine hc.mono ?_
 intro e w' hr
 obtain⟨z,rfl,hk⟩:=hR e w' hr
 exact hk
theorem Rdr.drew{w:World}{A R:Nat}{l:L8}(h:Rdr w A R l):Rdr w.drew A R l:=h.keep (fun _ _=>rfl) vX
theorem RdA.undrew{α:Type}{w w':World}{A R:Nat}{l:L8}{r:Except Nat (α×Nat)}{V:α->Value->World->Prop}{e:Ending}(h:RdA w.drew A R l r V e w'):RdA w A R l r V e w':=by
 cases r with
 |error k=>
  obtain⟨h1,h2⟩:=h.bad
  exact⟨h1,⟨h2.os,h2.tape,h2.output,h2.size,h2.block⟩⟩
 |ok aj=>
  obtain⟨a,j⟩:=aj
  obtain⟨v,h1,h2,h3,h4⟩:=h.good
  exact⟨v,h1,h2,h3,⟨h4.os,h4.tape,h4.output,h4.size,h4.block⟩⟩
def oI(w:World)(t:Ty)(v:Value)(w':World):Prop:=∃u,v=.agg u∧aZ w' (fun k=>w.1.size<=k∧k<w'.1.size) u t
theorem oI.open{w w':World}{t:Ty}{v:Value}(h:oI w t v w'):∃u,v=.agg u∧aZ w' (fun k=>w.1.size<=k∧k<w'.1.size) u t:=h
theorem pX(f:Nat)(c:UInt8)(r:L8):Sch.rdT (f+1) (c::r)=if c.toNat<1∨7<c.toNat then .error 60 else if c.toNat≠6∧c.toNat≠7 then .ok (⟨(c.toNat:Int),[]⟩,1) else am (Sch.rdT f r) fun t j=>.ok (⟨(c.toNat:Int),[t]⟩,j+1):=by
 rw[Sch.rdT]
 split
 ·rfl
 ·split
  ·rfl
  ·cases Sch.rdT f r with
   |error e=>rfl
   |ok p=>rfl
theorem uE{w W w2 w4:World}{A R T N:Nat}{b:Int}{t':Ty}{u:AV}{g cap:Nat}{lr:L8}(hR:R<w.1.size)(hN0:w.1.size<=N)(hNT:N<T)(hT:T<W.1.size)(bT:W.1[T]?=some (.cells #[.int .i64 b,.slice none 0 0] 83 (0,0)))(bN:W.1[N]?=some (.cells #[.int .i64 0,.slice none 0 0] 83 (0,0)))(ha0:Aside (fun i=>i=R) w W)(ha:Aside (fun i=>i=R) W w2)(hown:aZ w2 (fun k=>W.1.size<=k∧k<w2.1.size) u t')(hrd:Rdr w2 A R lr)(hr:w4.ownsRow W.1.size 83 2 (.slice (some ⟨g,0,none⟩) 1 cap) 1 (flat (fun _=>#[]) 0++u.toList))(hg:(w2.alloc (.cells u 83)).grownBy w4 none)(hn:g=w2.1.size+1):
  w4.frozen? ⟨T,1,none⟩=false∧w4.cell? ⟨T,1,none⟩=some (.slice none 0 0)∧∀w5,w5=w4.setCell ⟨T,1,none⟩ (.slice (some ⟨g,0,none⟩) 1 cap)->w5.cell? ⟨T,0,none⟩=some (.int .i64 b)∧w5.cell? ⟨T,1,none⟩=some (.slice (some ⟨g,0,none⟩) 1 cap) ∧
   w5.1[N]?=some (.cells #[.int .i64 0,.slice none 0 0] 83 (0,0))∧aZ w5 (fun k=>W.1.size<=k∧k<w5.1.size) (al b (some ⟨g,0,none⟩) 1 cap) ⟨b,[t']⟩∧Rdr w5 A R lr∧Aside (fun i=>i=R) w w5∧W.1.size<=w5.1.size:=by
 have hs2:=ha.size
 have hsz0:=ha0.size
 have hb3:Below w2.1.size w2 (w2.alloc (.cells u 83)):=vY
 have hs3:=hb3.size
 have hs4:=hg.size
 obtain⟨wx,hx1,hx2,hx3⟩:=ha.split (by omega)
 have hst:=(gO wx W.1.size).step hx3 hown (fun k hk=>⟨by rw[hx2];exact hk.1,hk.2⟩) hb3 (by rw[hx2];exact vX) hr hg (.inr (by rw[hn];simp))
 obtain⟨p3,c3,he3,hown3⟩:=hst.done (by omega) b
 injection he3 with e1 e2 e3
 subst e1 e3
 -- what stands in w4
 have keep:∀k,k<W.1.size->k≠R->w4.1[k]?=W.1[k]?:=fun k hk hne=>by
  rw[hg.block k (by omega) (by simp),hb3.block k (by omega),ha.block k hk hne]
 have bT4:w4.1[T]?=some (.cells #[.int .i64 b,.slice none 0 0] 83 (0,0)):=(keep T hT (by omega)).trans bT
 have bN4:w4.1[N]?=some (.cells #[.int .i64 0,.slice none 0 0] 83 (0,0)):=(keep N (by omega) (by omega)).trans bN
 refine⟨ac bT4 1,aa bT4 1,fun w5 hw5=>?_⟩
 have ha5:Aside (fun i=>i=T) w4 w5:=by rw[hw5];exact af _ _ _ _
 have hs5:=ha5.size
 have hs5':w5.1.size=w4.1.size:=by rw[hw5];simp[World.setCell]
 have bT5:w5.1[T]?=some (.cells #[.int .i64 b,.slice (some ⟨g,0,none⟩) 1 cap] 83 (0,0)):=by rw[hw5,ap bT4 1];rfl
 have a24:Aside (fun _=>False) w2 w4:=(ae hb3 (fun _=>False)).trans (G:=fun _=>False) ⟨hg.os,hg.tape,hg.output,hg.size,fun k hk _=>hg.block k hk (by simp)⟩ (fun _ _ h=>h)
 refine⟨aa bT5 0,aa bT5 1,?_,?_,?_,?_,by omega⟩
 ·rw[ha5.block N (by omega) (by omega)];exact bN4
 ·rw[hs5']
  exact hown3.aside ha5 (fun k hk=>by omega)
 ·exact(hrd.aside a24 (fun _ h=>h.elim)).aside ha5 (fun k hk=>by rw[hk];omega)
 ·refine((ha0.trans ha (fun _ _ h=>h)).trans a24 (fun _ _ h=>h.elim)).trans ha5 (fun i hi he=>?_)
  rw[he] at hi;omega
theorem uP{w wr:World}{A R:Nat}{b:Int}{q:OA}{n c:Nat}{x:Ty}{l:L8}{F:Nat->Prop}(hR:R<w.1.size)(bN:wr.1[w.1.size]?=some (.cells #[.int .i64 0,.slice none 0 0] 83 (0,0)))(hown:aZ wr F (al b q n c) x)(hF:∀k,F k->w.1.size<k∧k<wr.1.size)(hrd:Rdr wr A R l)(ha:Aside (fun i=>i=R) w wr){w5:World}(hw5:w5=(wr.setCell ⟨w.1.size,0,none⟩ (.int .i64 b)).setCell ⟨w.1.size,1,none⟩ (.slice q n c)):
  w5.1[w.1.size]?=some (.cells (al b q n c) 83 (0,0))∧oI w x (.agg (al b q n c)) w5∧Rdr w5 A R l∧Aside (fun i=>i=R) w w5:=by
 have h1:Aside (fun i=>i=w.1.size) wr (wr.setCell ⟨w.1.size,0,none⟩ (.int .i64 b)):=af _ _ _ _
 have h2:Aside (fun i=>i=w.1.size) wr w5:=by rw[hw5];exact h1.trans (af _ _ _ _) (fun _ _ h=>h)
 have hs:w5.1.size=wr.1.size:=by rw[hw5];simp[World.setCell]
 refine⟨?_,⟨_,rfl,?_⟩,hrd.aside h2 (fun k hk=>by rw[hk];exact hR),ha.trans h2 (fun i hi he=>by rw[he] at hi;omega)⟩
 ·rw[hw5,ap (ap bN 0 _) 1];rfl
 ·exact(hown.aside h2 (fun k hk he=>by have:=hF k hk;omega)).mono (fun k hk=>by have:=hF k hk;omega)
theorem rW:∀(f d:Nat) (l:L8) (A R:Nat) (w:World),d+f=5->Rdr w A R l->Calls Tryz.prog 162 #[.pointer (some ⟨R,0,none⟩),.int .i64 d] w (RdA w A R l (Sch.rdT f l) (oI w)):=by
  intro f
  induction f with
  |zero=>
    intro d l A R w hd h
    have g0:decide ((d:Int)<=4)=false:=decide_eq_false (by omega)
    have HB1:Hid (Below w.1.size w (w.alloc (.cells #[.int .i64 0,.slice none 0 0] 83))):=vY
    have e1:Sch.rdT 0 l=.error 62:=rfl
    rw[e1]
    clear h e1
    go_enter Tryz.func162,Tryz.ntmps162
    go_wp2_with fail
    try rw[g0]
    refine(cE _ 62 _).mono ?_
    rintro e w2 ⟨rfl,hw2⟩
    rw[hw2]
    clear hw2 w2
    go_wp2
    exact⟨rfl,rfl,ae HB1.out _⟩
  |succ f ih=>
    intro d l A R w hd h
    have g0:decide ((d:Int)<=4)=true:=decide_eq_true (by omega)
    have hdi:(d:Int)<=4:=by omega
    obtain⟨W0,hW0⟩:∃W0,W0=w.alloc (.cells #[.int .i64 0,.slice none 0 0] 83):=⟨_,rfl⟩
    have HB1:Hid (Below w.1.size w W0):=by rw[hW0];exact vY
    have HN0:Hid (W0.1[w.1.size]?=some (.cells #[.int .i64 0,.slice none 0 0] 83 (0,0))):=by rw[hW0];exact ag w _
    have HW0:=vQ hW0
    have HT:=vQ (kn 1 l A R W0 (h.on HB1.out))
    have hRlt:=h.lt
    have HIH:=vQ ih
    clear h hW0 ih
    cases l with
    |nil=>
      have e1:bQ 1 []=.error 30:=rfl
      have e2:Sch.rdT (f+1) []=.error 30:=rfl
      rw[e1] at HT
      rw[e2]
      clear e1 e2
      go_enter Tryz.func162,Tryz.ntmps162
      go_wp2_with fail
      rw[<-HW0.out]
      try rw[g0]
      refine(cD _ 62 _).mono ?_
      rintro e w2 ⟨rfl,hw2⟩
      rw[hw2]
      clear hw2 w2
      go_wp2_with fail
      refine HT.out.mono ?_
      intro e w1 hh
      obtain⟨he,ha⟩:=hh.bad
      subst he
      clear hh
      have HA:=vQ ((ae HB1.out _).trans ha (fun _ _ h=>h))
      clear ha HT
      go_wp2
      exact⟨rfl,rfl,HA.out⟩
    |cons b t=>
      have e1:bQ 1 (b::t)=.ok ([b],1):=by
        unfold bQ
        rw[if_neg (by simp)]
        rfl
      rw[e1] at HT
      obtain⟨r,hr⟩:∃r,r=Sch.rdT (f+1) (b::t):=⟨_,rfl⟩
      have HR:=vQ (hr.trans (pX f b t))
      rw[<-hr]
      clear hr e1
      have hb8:=b.toNat_lt
      go_enter Tryz.func162,Tryz.ntmps162
      go_wp2_with fail
      rw[<-HW0.out]
      try rw[g0]
      refine(cD _ 62 _).mono ?_
      rintro e w2 ⟨rfl,hw2⟩
      rw[hw2]
      clear hw2 w2 HW0
      go_wp2_with fail
      refine HT.out.mono ?_
      intro e w1 hh
      obtain⟨v,he,hv,hrd,ha⟩:=hh.good
      obtain⟨q,c,hv2,hat,-⟩:=hv.open
      clear hh hv
      subst hv2
      subst he
      obtain⟨bq,oq,hq,-,hcs⟩:=bz hat (by simp)
      subst hq
      have d0:w1.cell? ⟨bq,oq,none⟩=some (.int .u8 (b.toNat:Int)):=hcs 0 (by simp)
      have HRd:Hid (Rdr w1 A R t):=hrd
      have HA1:=vQ ((ae HB1.out (fun i=>i=R)).trans ha (fun _ _ h=>h))
      have HNlt:=vQ (aw HN0.out)
      have HN1:Hid (w1.1[w.1.size]?=some (.cells #[.int .i64 0,.slice none 0 0] 83 (0,0))):=by
        show _=_
        rw[ha.block _ HNlt.out (by omega)]
        exact HN0.out
      have hsz1:w.1.size<w1.1.size:=Nat.lt_of_lt_of_le HNlt.out ha.size
      clear ha hat hrd hcs HT HN0 HB1
      obtain⟨W,hW⟩:∃W,W=w1.alloc (.cells #[.int .i64 (b.toNat:Int),.slice none 0 0] 83):=⟨_,rfl⟩
      have HBW:Hid (Below w1.1.size w1 W):=by rw[hW];exact vY
      have HTb:Hid (W.1[w1.1.size]?=some (.cells #[.int .i64 (b.toNat:Int),.slice none 0 0] 83 (0,0))):=by rw[hW];exact ag w1 _
      have HNb:Hid (W.1[w.1.size]?=some (.cells #[.int .i64 0,.slice none 0 0] 83 (0,0))):=jT HN1.out HBW.out hsz1
      have HAW:=vQ (HA1.out.trans (ae HBW.out (fun _=>False)) (fun _ _ h=>h.elim))
      have HRdW:=vQ (HRd.out.on HBW.out)
      have hszW:w1.1.size<W.1.size:=aw HTb.out
      have HW:=vQ hW
      clear hW HN1 HA1 HRd
      by_cases hkind:b.toNat<1∨7<b.toNat
      · have HR2:Hid (r=.error 60):=HR.out.trans (if_pos hkind)
        clear HR
        rcases hkind with hk | hk
        · have g1:decide ((1:Int)<=(b.toNat:Int))=false:=decide_eq_false (by omega)
          go_wp2_with fail
          rw[<-HW.out]
          refine(cE _ 60 _).mono ?_
          rintro e w2 ⟨rfl,hw2⟩
          rw[hw2]
          clear hw2 w2
          go_wp2
          rw[HR2.out]
          exact⟨rfl,rfl,HAW.out⟩
        · have g1:decide ((1:Int)<=(b.toNat:Int))=true:=decide_eq_true (by omega)
          have g2:decide ((b.toNat:Int)<=7)=false:=decide_eq_false (by omega)
          go_wp2_with fail
          rw[<-HW.out]
          refine(cE _ 60 _).mono ?_
          rintro e w2 ⟨rfl,hw2⟩
          rw[hw2]
          clear hw2 w2
          go_wp2
          rw[HR2.out]
          exact⟨rfl,rfl,HAW.out⟩
      have g1:decide ((1:Int)<=(b.toNat:Int))=true:=decide_eq_true (by omega)
      have g2:decide ((b.toNat:Int)<=7)=true:=decide_eq_true (by omega)
      have HR1:=vQ (HR.out.trans (if_neg hkind))
      clear HR
      go_wp2_with fail
      rw[<-HW.out]
      refine(cD _ 60 _).mono ?_
      rintro e w2 ⟨rfl,hw2⟩
      rw[hw2]
      clear hw2 w2 HW d0
      have c0:W.cell? ⟨w1.1.size,0,none⟩=some (.int .i64 (b.toNat:Int)):=aa HTb.out 0
      have c1:W.cell? ⟨w1.1.size,1,none⟩=some (.slice none 0 0):=aa HTb.out 1
      have n0:W.cell? ⟨w.1.size,0,none⟩=some (.int .i64 0):=aa HNb.out 0
      have n1:W.cell? ⟨w.1.size,1,none⟩=some (.slice none 0 0):=aa HNb.out 1
      have nf0:=ac HNb.out 0
      have nf1:=ac HNb.out 1
      have tf1:=ac HTb.out 1
      have HOc:=vQ (kJ (b.toNat:Int) W)
      go_wp2_with fail
      refine HOc.out.mono ?_
      rintro e w2 ⟨rfl,hw2⟩
      rw[hw2]
      clear hw2 w2 HOc
      by_cases h67:b.toNat=6∨b.toNat=7
      · have hw:Ty.want (b.toNat:Int)=1:=by unfold Ty.want;rw[if_pos (by omega)]
        rw[hw]
        have HR2:Hid (r=am (Sch.rdT f t) fun t j=>.ok (⟨(b.toNat:Int),[t]⟩,j+1)):=HR1.out.trans (if_neg (by omega))
        have ew:IntKind.i64.wrap ((d:Int)+1)=((d+1:Nat):Int):=by rw[IntKind.wrap_i64];omega
        have HC:Hid (∀w',Rdr w' A R t->Calls Tryz.prog 162 #[.pointer (some ⟨R,0,none⟩),.int .i64 (IntKind.i64.wrap ((d:Int)+1))] w'.drew (RdA w' A R t (Sch.rdT f t) (oI w'))):=fun w' hr=>by
          rw[ew]
          exact(HIH.out (d+1) t A R w'.drew (by omega) hr.drew).mono fun _ _ h=>h.undrew
        obtain⟨m,hm⟩:∃m,m=Sch.rdT f t:=⟨_,rfl⟩
        rw[<-hm] at HR2 HC
        clear hw HR1 hm HIH ew
        cases m with
        |error er=>
          have HErr:Hid (∀w2,Aside (fun i=>i=R) W w2->RdA w A R (b::t) r (oI w) (.panicked (dS er)) w2):=fun w2 ha=>by
            rw[HR2.out]
            exact⟨rfl,HAW.out.trans ha (fun _ _ h=>h)⟩
          go_wp2_with fail
          go_loopw [29] (fun v29 wr=>v29=.int .i64 0∧wr=W) (fun _ _=>0)
          case atStart=>exact⟨rfl,rfl⟩
          case round=>
            obtain⟨rfl,rfl⟩:=hrel
            go_wp2_with fail
            go_region_law (first
              | (refine kp (.tmp 33) (.tmp 35) 178 3 (by rfl) (by rfl) (by rfl) (by rfl) Tryz.func162 (by kernel_rfl) (by rfl) (HC.out _ HRdW.out) (fun e w2 hh=>⟨_,hh.bad.1,rfl,HErr.out w2 hh.bad.2⟩) (.agg #[.int .i64 0,.slice none 0 0]) ?_
                 intro HF)
              | (refine cz HF (.slice none 0 0) ?_))
            all_goals exact HF.out.elim
        |ok tj=>
          obtain⟨t',j'⟩:=tj
          have HRok:Hid (r=.ok (⟨(b.toNat:Int),[t']⟩,j'+1)):=HR2.out
          have HS0:=vQ (gO W W.1.size)
          clear HR2
          go_wp2_with fail
          go_loopw [29] (fun v29 wr=>(v29=.int .i64 0∧wr=W)∨(v29=.int .i64 1∧∃q c,wr.cell? ⟨w1.1.size,0,none⟩=some (.int .i64 (b.toNat:Int))∧wr.cell? ⟨w1.1.size,1,none⟩=some (.slice q 1 c)∧Hid (wr.1[w.1.size]?=some (.cells #[.int .i64 0,.slice none 0 0] 83 (0,0))∧aZ wr (fun k=>W.1.size<=k∧k<wr.1.size) (al (b.toNat:Int) q 1 c) ⟨(b.toNat:Int),[t']⟩∧Rdr wr A R ((b::t).drop (j'+1))∧Aside (fun i=>i=R) w wr∧W.1.size<=wr.1.size))) (fun v29 _=>1-(intOf v29).toNat)
          case atStart=>exact .inl ⟨rfl,rfl⟩
          case round=>
            rcases hrel with ⟨rfl,rfl⟩ | ⟨rfl,q,c2,e0,e1,HS⟩
            · go_wp2_with fail
              go_region_law (first
                | (refine ko (.tmp 33) (.tmp 35) 178 3 (by rfl) (by rfl) (by rfl) (by rfl) Tryz.func162 (by kernel_rfl) (by rfl) (HC.out _ HRdW.out) ?_
                   intro e w2 hh
                   obtain⟨v2,he,hv,hrd,ha⟩:=hh.good
                   obtain⟨u2,hv2,hown⟩:=hv.open
                   clear hh hv
                   obtain⟨k2,p2,n2,c2,hu2⟩:=hown.shape
                   subst hu2
                   subst hv2
                   refine⟨_,he,?_⟩
                   clear he
                   unfold al
                   have z1:w2.cell? ⟨w1.1.size,1,none⟩=some (.slice none 0 0):=by(rw[ha.cell hszW (by show ¬w1.1.size=R;omega)];exact c1)
                   have z2:∀o,(w2.alloc o).cell? ⟨w1.1.size,1,none⟩=some (.slice none 0 0):=fun o=>by(rw[World.cell?_alloc_past _ _ _ (by have:=ha.size;show w1.1.size<_;omega)];exact z1)
                   have HOwn:=vQ hown
                   have HRd2:=vQ hrd
                   have HA2:=vQ ha
                   have HB3:Hid (Below w2.1.size w2 (w2.alloc (.cells #[.int .i64 k2,.slice p2 n2 c2] 83))):=vY
                   have hs2:=ha.size
                   clear hown hrd ha)
                | (refine lG (B:=wr.1.size) (us:=fun _=>#[]) (v:=.slice none 0 0) (n:=0) (World.ownsRow_nil _ _ _ _) (u:=#[.int .i64 k2,.slice p2 n2 c2]) rfl (ve HOwn.out) (ad:=w2.1.size) (by exact ag w2 _) (by omega) (by simp;omega) (H:=w2.1.size+1) (by simp) (.tmp 32) (.tmp 37) (by rfl) (by rfl) (by rfl) (by rfl) ?_
                   intro g2 cap2 w4 hr4 hg4 hn4
                   obtain⟨f4,g4,hmk⟩:=uE (N:=w.1.size) (T:=w1.1.size) hRlt vX hsz1 hszW HTb.out HNb.out HAW.out HA2.out HOwn.out HRd2.out hr4 hg4 (hn4.resolve_left (by simp[Value.ownBlock]))
                   have HMK:=vQ hmk
                   clear hmk hr4 hg4 hn4))
              all_goals
                go_wp2
                go_roundw
                case rel=>
                  obtain⟨m0,m1,m2,m3,m4,m5,m6⟩:=HMK.out _ rfl
                  refine .inr ⟨by go_num,some ⟨g2,0,none⟩,cap2,m0,m1,m2,m3,?_,m5,m6⟩
                  rw[List.drop_succ_cons]
                  exact m4
                case measure=>simp[intOf]
            · have z0:=aa HS.out.1 0
              have z1:=aa HS.out.1 1
              have zf0:=ac HS.out.1 0
              have zf1:=ac HS.out.1 1
              clear c0 c1 n0 n1 nf0 nf1 tf1
              have HFin:=vQ (fun w5 hw5=>uP (w5:=w5) hRlt HS.out.1 HS.out.2.1 (fun k hk=>⟨by omega,hk.2⟩) HS.out.2.2.1 HS.out.2.2.2.1 hw5)
              go_wp2
              obtain⟨f1,f2,f3,f4⟩:=HFin.out _ rfl
              refine bodyPost_ret (v:=.agg (al (b.toNat:Int) q 1 c2)) (results_cell_row rfl _ _ w.1.size _ _ _ _ rfl f1 Tryz.underlying83 rfl (by kernel_rfl)) rfl ?_
              rw[HRok.out]
              exact⟨_,rfl,f2,f3,f4⟩
      · have hw:Ty.want (b.toNat:Int)=0:=by unfold Ty.want;rw[if_neg (by omega)]
        rw[hw]
        have HRok:Hid (r=.ok (⟨(b.toNat:Int),[]⟩,1)):=HR1.out.trans (if_pos (by omega))
        have HFin:=vQ (fun w5 hw5=>uP (w5:=w5) (b:=(b.toNat:Int)) (q:=none) (n:=0) (c:=0) (x:=⟨(b.toNat:Int),[]⟩) (F:=fun _=>False) hRlt HNb.out .none (fun _ h=>h.elim) HRdW.out HAW.out hw5)
        clear hw HR1 HIH
        go_wp2_with fail
        go_loopw [29] (fun v29 wr=>v29=.int .i64 0∧wr=W) (fun _ _=>0)
        case atStart=>exact⟨rfl,rfl⟩
        case round=>
          obtain⟨rfl,rfl⟩:=hrel
          go_wp2
          obtain⟨f1,f2,f3,f4⟩:=HFin.out _ rfl
          refine bodyPost_ret (v:=.agg (al (b.toNat:Int) none 0 0)) (results_cell_row rfl _ _ w.1.size _ _ _ _ rfl f1 Tryz.underlying83 rfl (by kernel_rfl)) rfl ?_
          rw[HRok.out]
          exact⟨_,rfl,f2,f3,f4⟩
end
section
open Go.RowKit
attribute [local go_sem] ai
def isV(w:World)(x:V)(v:Value)(w':World):Prop:=∃u,v=.agg u∧br w' (fun k=>w.1.size<=k∧k<w'.1.size) u x
theorem isV.open{w w':World}{x:V}{v:Value}(h:isV w x v w'):∃u,v=.agg u∧br w' (fun k=>w.1.size<=k∧k<w'.1.size) u x:=h
def gv(w:World)(N:Nat)(k i:Int)(b:Nat)(t:ByteArray)(s:Value):World:=((((w.setCell ⟨N,0,none⟩ (.int .i64 k)).setCell ⟨N,1,none⟩ (.int .i64 i)).setCell ⟨N,2,none⟩ (.float .f64 b)).setCell ⟨N,3,none⟩ (.string t)).setCell ⟨N,4,none⟩ s
theorem my(w:World)(N:Nat)(k i:Int)(b:Nat)(t:ByteArray)(s:Value):Aside (fun j=>j=N) w (gv w N k i b t s):=by
 have h0:Aside (fun j=>j=N) w (w.setCell ⟨N,0,none⟩ (.int .i64 k)):=af _ _ _ _
 have h1:=h0.trans (af _ N 1 (.int .i64 i)) (fun _ _ h=>h)
 have h2:=h1.trans (af _ N 2 (.float .f64 b)) (fun _ _ h=>h)
 have h3:=h2.trans (af _ N 3 (.string t)) (fun _ _ h=>h)
 exact h3.trans (af _ N 4 s) (fun _ _ h=>h)
theorem qE{w:World}{N:Nat}{C:AV}(h:w.1[N]?=some (.cells C 87 (0,0)))(hC:C.size=5)(k i:Int)(b:Nat)(t:ByteArray)(q:OA)(n c:Nat):(gv w N k i b t (.slice q n c)).1[N]?=some (.cells (cells5 k i b t q n c) 87 (0,0)):=by
 have e:((((C.set! 0 (.int .i64 k)).set! 1 (.int .i64 i)).set! 2 (.float .f64 b)).set! 3 (.string t)).set! 4 (.slice q n c)=cells5 k i b t q n c:=by
  obtain⟨L⟩:=C
  match L,hC with
  | [a0,a1,a2,a3,a4],_=>rfl
 have h4:=ap (ap (ap (ap (ap h 0 (.int .i64 k)) 1 (.int .i64 i)) 2 (.float .f64 b)) 3 (.string t)) 4 (.slice q n c)
 rw[e] at h4
 exact h4
theorem oB(w:World)(N:Nat)(k i:Int)(b:Nat)(t:ByteArray)(s:Value):(gv w N k i b t s).1.size=w.1.size:=by simp[gv,World.setCell]
theorem sD{w wr:World}{A R N:Nat}{k i:Int}{b:Nat}{t:ByteArray}{q:OA}{n c:Nat}{x:V}{l:L8}{F:Nat->Prop}(hR:R<w.1.size)(hN:w.1.size<=N)(bN:wr.1[N]?=some (.cells #[.int .i64 0,.int .i64 0,.float .f64 0,.string ⟨#[]⟩,.slice none 0 0] 87 (0,0)))(hown:br wr F (cells5 k i b t q n c) x)(hF:∀j,F j->N<j∧j<wr.1.size)(hrd:Rdr wr A R l)(ha:Aside (fun j=>j=R) w wr):
  (gv wr N k i b t (.slice q n c)).1[N]?=some (.cells (cells5 k i b t q n c) 87 (0,0))∧isV w x (.agg (cells5 k i b t q n c)) (gv wr N k i b t (.slice q n c))∧Rdr (gv wr N k i b t (.slice q n c)) A R l∧Aside (fun j=>j=R) w (gv wr N k i b t (.slice q n c)):=by
 have h2:=my wr N k i b t (.slice q n c)
 have hs:=oB wr N k i b t (.slice q n c)
 refine⟨qE bN rfl k i b t q n c,⟨_,rfl,?_⟩,hrd.aside h2 (fun j hj=>by rw[hj];omega),ha.trans h2 (fun j hj he=>by rw[he] at hj;omega)⟩
 rw[hs]
 exact(hown.aside h2 (fun j hj he=>by have:=hF j hj;omega)).mono (fun j hj=>by have:=hF j hj;omega)
structure da(w W:World)(A R:Nat)(k:Int)(C0:AV)(l:L8):Prop where
 b0:W.1[w.1.size]?=some (.cells C0 83 (0,0))
 b1:W.1[w.1.size+1]?=some (.cells #[.int .i64 0,.int .i64 0,.float .f64 0,.string ⟨#[]⟩,.slice none 0 0] 87 (0,0))
 b2:W.1[w.1.size+1+1]?=some (.cells #[.int .i64 k,.int .i64 0,.float .f64 0,.string ⟨#[]⟩,.slice none 0 0] 87 (0,0))
 rd:Rdr W A R l
 aside:Aside (fun i=>i=R) w W
 size:w.1.size+3<=W.1.size
theorem bI{w:World}{A R:Nat}(k:Int)(C0:AV){l:L8}(h:Rdr w A R l):da w (((w.alloc (.cells C0 83)).alloc (.cells #[.int .i64 0,.int .i64 0,.float .f64 0,.string ⟨#[]⟩,.slice none 0 0] 87)).alloc (.cells #[.int .i64 k,.int .i64 0,.float .f64 0,.string ⟨#[]⟩,.slice none 0 0] 87)) A R k C0 l:=by
 have hb:Below w.1.size w (((w.alloc (.cells C0 83)).alloc (.cells #[.int .i64 0,.int .i64 0,.float .f64 0,.string ⟨#[]⟩,.slice none 0 0] 87)).alloc (.cells #[.int .i64 k,.int .i64 0,.float .f64 0,.string ⟨#[]⟩,.slice none 0 0] 87)):=(vY.alloc (by simp) _).alloc (by simp;omega) _
 refine⟨?_,?_,?_,h.on hb,ae hb _,by simp⟩
 ·rw[aD _ _ (by simp;omega),aD _ _ (by simp)];exact ag w _
 ·rw[aD _ _ (by simp)]
  have:=ag (w.alloc (.cells C0 83)) (.cells #[.int .i64 0,.int .i64 0,.float .f64 0,.string ⟨#[]⟩,.slice none 0 0] 87)
  simpa using this
 ·have:=ag ((w.alloc (.cells C0 83)).alloc (.cells #[.int .i64 0,.int .i64 0,.float .f64 0,.string ⟨#[]⟩,.slice none 0 0] 87)) (.cells #[.int .i64 k,.int .i64 0,.float .f64 0,.string ⟨#[]⟩,.slice none 0 0] 87)
  simpa using this
theorem da.step{w W W':World}{A R:Nat}{k:Int}{C0:AV}{l l':L8}(h:da w W A R k C0 l)(ha:Aside (fun i=>i=R) W W')(hrd:Rdr W' A R l')(hR:R<w.1.size):da w W' A R k C0 l':=by
 have hs:=h.size
 refine⟨?_,?_,?_,hrd,h.aside.trans ha (fun _ _ h=>h),Nat.le_trans hs ha.size⟩
 ·rw[ha.block _ (by omega) (by omega)];exact h.b0
 ·rw[ha.block _ (by omega) (by omega)];exact h.b1
 ·rw[ha.block _ (by omega) (by omega)];exact h.b2
theorem da.fin{w W:World}{A R:Nat}{k:Int}{C0:AV}{l:L8}(h:da w W A R k C0 l)(hR:R<w.1.size)(m:Nat)(u:Value)(i:Int)(b:Nat)(t:ByteArray):
  (gv (W.setCell ⟨w.1.size+1+1,m,none⟩ u) (w.1.size+1) k i b t (.slice none 0 0)).1[w.1.size+1]?=some (.cells (cells5 k i b t none 0 0) 87 (0,0))∧isV w (.mk k i b t []) (.agg (cells5 k i b t none 0 0)) (gv (W.setCell ⟨w.1.size+1+1,m,none⟩ u) (w.1.size+1) k i b t (.slice none 0 0))∧Rdr (gv (W.setCell ⟨w.1.size+1+1,m,none⟩ u) (w.1.size+1) k i b t (.slice none 0 0)) A R l∧Aside (fun j=>j=R) w (gv (W.setCell ⟨w.1.size+1+1,m,none⟩ u) (w.1.size+1) k i b t (.slice none 0 0)):=by
 have h2:Aside (fun i=>i=w.1.size+1+1) W (W.setCell ⟨w.1.size+1+1,m,none⟩ u):=af _ _ _ _
 have hs:=h.size
 refine sD (F:=fun _=>False) hR (by omega) ?_ .none (fun _ h=>h.elim) (h.rd.aside h2 (fun j hj=>by rw[hj];omega)) (h.aside.trans h2 (fun j hj he=>by rw[he] at hj;omega))
 rw[h2.block _ (by omega) (by omega)]
 exact h.b1
theorem pJ(l:L8):Sch.scalar 1 l=am (Sch.bit l) fun n j=>.ok (.mk 1 n 0 ⟨#[]⟩ [],j):=by
 unfold Sch.scalar
 rw[if_pos rfl]
 cases Sch.bit l with
 |error e=>rfl
 |ok p=>rfl
theorem pI(l:L8):Sch.scalar 2 l=am (Sch.num l) fun n j=>.ok (.mk 2 (Leb.zag n) 0 ⟨#[]⟩ [],j):=by
 unfold Sch.scalar
 rw[if_neg (by decide),if_pos rfl]
 cases Sch.num l with
 |error e=>rfl
 |ok p=>rfl
theorem pH(l:L8):Sch.scalar 3 l=am (Sch.float l) fun n j=>.ok (.mk 3 0 n ⟨#[]⟩ [],j):=by
 unfold Sch.scalar
 rw[if_neg (by decide),if_neg (by decide),if_pos rfl]
 cases Sch.float l with
 |error e=>rfl
 |ok p=>rfl
theorem pG(l:L8):Sch.scalar 4 l=am (Sch.text 1024 2 l) fun t j=>if cR t=false then .error 61 else .ok (.mk 4 0 0 t [],j):=by
 unfold Sch.scalar
 rw[if_neg (by decide),if_neg (by decide),if_neg (by decide)]
 cases Sch.text 1024 2 l with
 |error e=>rfl
 |ok p=>
  obtain⟨t,j⟩:=p
  rw[aI]
  dsimp only
  by_cases h:cR t=false
  ·rw[if_pos ⟨rfl,h⟩,if_pos h]
  ·rw[if_neg (fun hc=>h hc.2),if_neg h]
theorem pF(l:L8):Sch.scalar 5 l=am (Sch.text 1024 2 l) fun t j=>.ok (.mk 5 0 0 t [],j):=by
 unfold Sch.scalar
 rw[if_neg (by decide),if_neg (by decide),if_neg (by decide)]
 cases Sch.text 1024 2 l with
 |error e=>rfl
 |ok p=>
  obtain⟨t,j⟩:=p
  rw[aI]
  dsimp only
  rw[if_neg (fun hc=>by have:=hc.1;omega)]
theorem rT(l:L8)(A R:Nat)(w:World)(p:OA)(n c:Nat)(h:Rdr w A R l):Calls Tryz.prog 164 #[.pointer (some ⟨R,0,none⟩),.agg #[.int .i64 1,.slice p n c]] w (RdA w A R l (Sch.scalar 1 l) (isV w)):=by
 have hR:=h.lt
 obtain⟨W,hW⟩:∃W,W=((w.alloc (.cells #[.int .i64 1,.slice p n c] 83)).alloc (.cells #[.int .i64 0,.int .i64 0,.float .f64 0,.string ⟨#[]⟩,.slice none 0 0] 87)).alloc (.cells #[.int .i64 1,.int .i64 0,.float .f64 0,.string ⟨#[]⟩,.slice none 0 0] 87):=⟨_,rfl⟩
 have HI:Hid (da w W A R 1 #[.int .i64 1,.slice p n c] l):=by rw[hW];exact bI 1 _ h
 have HW:=vQ hW
 obtain⟨r,hr⟩:∃r,r=Sch.scalar 1 l:=⟨_,rfl⟩
 have HR:=vQ (hr.trans (pJ l))
 rw[<-hr]
 have HC:=vQ (qU l A R W HI.out.rd)
 obtain⟨m,hm⟩:∃m,m=Sch.bit l:=⟨_,rfl⟩
 rw[<-hm] at HR HC
 have HM:=vQ hm
 clear hr hm h hW
 cases m with
 |error er=>
  have HR2:Hid (r=.error er):=HR.out
  clear HR
  go_enter Tryz.func164,Tryz.ntmps164
  go_wp2_with fail
  rw[<-HW.out]
  refine HC.out.mono ?_
  intro e w1 hh
  obtain⟨he,ha⟩:=hh.bad
  subst he
  clear hh
  have HA:=vQ (HI.out.aside.trans ha (fun _ _ h=>h))
  clear ha HC
  go_wp2
  rw[HR2.out]
  exact⟨rfl,rfl,HA.out⟩
 |ok xj=>
  obtain⟨x,j⟩:=xj
  have HR2:Hid (r=.ok (.mk 1 (x:Nat) 0 ⟨#[]⟩ [],j)):=HR.out
  clear HR
  go_enter Tryz.func164,Tryz.ntmps164
  go_wp2_with fail
  rw[<-HW.out]
  refine HC.out.mono ?_
  intro e w1 hh
  obtain⟨v,he,hv,hrd,ha⟩:=hh.good
  clear hh
  replace hv:v=.int .i64 (x:Nat):=hv
  subst hv
  subst he
  have HI1:=vQ (HI.out.step ha hrd hR)
  clear ha hrd HC HW HI
  have q0:w1.cell? ⟨w.1.size+1+1,0,none⟩=some (.int .i64 1):=aa HI1.out.b2 0
  have q1:w1.cell? ⟨w.1.size+1+1,1,none⟩=some (.int .i64 0):=aa HI1.out.b2 1
  have q2:w1.cell? ⟨w.1.size+1+1,2,none⟩=some (.float .f64 0):=aa HI1.out.b2 2
  have q3:w1.cell? ⟨w.1.size+1+1,3,none⟩=some (.string ⟨#[]⟩):=aa HI1.out.b2 3
  have q4:w1.cell? ⟨w.1.size+1+1,4,none⟩=some (.slice none 0 0):=aa HI1.out.b2 4
  have t0:w1.cell? ⟨w.1.size+1,0,none⟩=some (.int .i64 0):=aa HI1.out.b1 0
  have t1:w1.cell? ⟨w.1.size+1,1,none⟩=some (.int .i64 0):=aa HI1.out.b1 1
  have t2:w1.cell? ⟨w.1.size+1,2,none⟩=some (.float .f64 0):=aa HI1.out.b1 2
  have t3:w1.cell? ⟨w.1.size+1,3,none⟩=some (.string ⟨#[]⟩):=aa HI1.out.b1 3
  have t4:w1.cell? ⟨w.1.size+1,4,none⟩=some (.slice none 0 0):=aa HI1.out.b1 4
  have qf0:=ac HI1.out.b2 0
  have qf1:=ac HI1.out.b2 1
  have qf2:=ac HI1.out.b2 2
  have qf3:=ac HI1.out.b2 3
  have qf4:=ac HI1.out.b2 4
  have tf0:=ac HI1.out.b1 0
  have tf1:=ac HI1.out.b1 1
  have tf2:=ac HI1.out.b1 2
  have tf3:=ac HI1.out.b1 3
  have tf4:=ac HI1.out.b1 4
  have HFin:=vQ (HI1.out.fin hR 1 (.int .i64 (x:Nat)) (x:Nat) 0 ⟨#[]⟩)
  go_wp2
  obtain⟨f1,f2,f3,f4⟩:=HFin.out
  refine bodyPost_ret (v:=.agg (cells5 1 (x:Nat) 0 ⟨#[]⟩ none 0 0)) (results_cell_row rfl _ _ (w.1.size+1) _ _ _ _ rfl f1 Tryz.underlying87 rfl (by kernel_rfl)) rfl ?_
  rw[HR2.out]
  exact⟨_,rfl,f2,f3,f4⟩
theorem rR(l:L8)(A R:Nat)(w:World)(p:OA)(n c:Nat)(h:Rdr w A R l):Calls Tryz.prog 164 #[.pointer (some ⟨R,0,none⟩),.agg #[.int .i64 3,.slice p n c]] w (RdA w A R l (Sch.scalar 3 l) (isV w)):=by
 have hR:=h.lt
 obtain⟨W,hW⟩:∃W,W=((w.alloc (.cells #[.int .i64 3,.slice p n c] 83)).alloc (.cells #[.int .i64 0,.int .i64 0,.float .f64 0,.string ⟨#[]⟩,.slice none 0 0] 87)).alloc (.cells #[.int .i64 3,.int .i64 0,.float .f64 0,.string ⟨#[]⟩,.slice none 0 0] 87):=⟨_,rfl⟩
 have HI:Hid (da w W A R 3 #[.int .i64 3,.slice p n c] l):=by rw[hW];exact bI 3 _ h
 have HW:=vQ hW
 obtain⟨r,hr⟩:∃r,r=Sch.scalar 3 l:=⟨_,rfl⟩
 have HR:=vQ (hr.trans (pH l))
 rw[<-hr]
 have HC:=vQ (tS l A R W HI.out.rd)
 obtain⟨m,hm⟩:∃m,m=Sch.float l:=⟨_,rfl⟩
 rw[<-hm] at HR HC
 have HM:=vQ hm
 clear hr hm h hW
 cases m with
 |error er=>
  have HR2:Hid (r=.error er):=HR.out
  clear HR
  go_enter Tryz.func164,Tryz.ntmps164
  go_wp2_with fail
  rw[<-HW.out]
  refine HC.out.mono ?_
  intro e w1 hh
  obtain⟨he,ha⟩:=hh.bad
  subst he
  clear hh
  have HA:=vQ (HI.out.aside.trans ha (fun _ _ h=>h))
  clear ha HC
  go_wp2
  rw[HR2.out]
  exact⟨rfl,rfl,HA.out⟩
 |ok xj=>
  obtain⟨x,j⟩:=xj
  have HR2:Hid (r=.ok (.mk 3 0 x ⟨#[]⟩ [],j)):=HR.out
  clear HR
  go_enter Tryz.func164,Tryz.ntmps164
  go_wp2_with fail
  rw[<-HW.out]
  refine HC.out.mono ?_
  intro e w1 hh
  obtain⟨v,he,hv,hrd,ha⟩:=hh.good
  clear hh
  replace hv:v=.float .f64 x:=hv
  subst hv
  subst he
  have HI1:=vQ (HI.out.step ha hrd hR)
  clear ha hrd HC HW HI
  have q0:w1.cell? ⟨w.1.size+1+1,0,none⟩=some (.int .i64 3):=aa HI1.out.b2 0
  have q1:w1.cell? ⟨w.1.size+1+1,1,none⟩=some (.int .i64 0):=aa HI1.out.b2 1
  have q2:w1.cell? ⟨w.1.size+1+1,2,none⟩=some (.float .f64 0):=aa HI1.out.b2 2
  have q3:w1.cell? ⟨w.1.size+1+1,3,none⟩=some (.string ⟨#[]⟩):=aa HI1.out.b2 3
  have q4:w1.cell? ⟨w.1.size+1+1,4,none⟩=some (.slice none 0 0):=aa HI1.out.b2 4
  have t0:w1.cell? ⟨w.1.size+1,0,none⟩=some (.int .i64 0):=aa HI1.out.b1 0
  have t1:w1.cell? ⟨w.1.size+1,1,none⟩=some (.int .i64 0):=aa HI1.out.b1 1
  have t2:w1.cell? ⟨w.1.size+1,2,none⟩=some (.float .f64 0):=aa HI1.out.b1 2
  have t3:w1.cell? ⟨w.1.size+1,3,none⟩=some (.string ⟨#[]⟩):=aa HI1.out.b1 3
  have t4:w1.cell? ⟨w.1.size+1,4,none⟩=some (.slice none 0 0):=aa HI1.out.b1 4
  have qf0:=ac HI1.out.b2 0
  have qf1:=ac HI1.out.b2 1
  have qf2:=ac HI1.out.b2 2
  have qf3:=ac HI1.out.b2 3
  have qf4:=ac HI1.out.b2 4
  have tf0:=ac HI1.out.b1 0
  have tf1:=ac HI1.out.b1 1
  have tf2:=ac HI1.out.b1 2
  have tf3:=ac HI1.out.b1 3
  have tf4:=ac HI1.out.b1 4
  have HFin:=vQ (HI1.out.fin hR 2 (.float .f64 x) 0 x ⟨#[]⟩)
  go_wp2
  obtain⟨f1,f2,f3,f4⟩:=HFin.out
  refine bodyPost_ret (v:=.agg (cells5 3 0 x ⟨#[]⟩ none 0 0)) (results_cell_row rfl _ _ (w.1.size+1) _ _ _ _ rfl f1 Tryz.underlying87 rfl (by kernel_rfl)) rfl ?_
  rw[HR2.out]
  exact⟨_,rfl,f2,f3,f4⟩
theorem rP(l:L8)(A R:Nat)(w:World)(p:OA)(n c:Nat)(h:Rdr w A R l):Calls Tryz.prog 164 #[.pointer (some ⟨R,0,none⟩),.agg #[.int .i64 5,.slice p n c]] w (RdA w A R l (Sch.scalar 5 l) (isV w)):=by
 have hR:=h.lt
 obtain⟨W,hW⟩:∃W,W=((w.alloc (.cells #[.int .i64 5,.slice p n c] 83)).alloc (.cells #[.int .i64 0,.int .i64 0,.float .f64 0,.string ⟨#[]⟩,.slice none 0 0] 87)).alloc (.cells #[.int .i64 5,.int .i64 0,.float .f64 0,.string ⟨#[]⟩,.slice none 0 0] 87):=⟨_,rfl⟩
 have HI:Hid (da w W A R 5 #[.int .i64 5,.slice p n c] l):=by rw[hW];exact bI 5 _ h
 have HW:=vQ hW
 obtain⟨r,hr⟩:∃r,r=Sch.scalar 5 l:=⟨_,rfl⟩
 have HR:=vQ (hr.trans (pF l))
 rw[<-hr]
 have HC:=vQ (sQ l A R W HI.out.rd)
 obtain⟨m,hm⟩:∃m,m=Sch.text 1024 2 l:=⟨_,rfl⟩
 rw[<-hm] at HR HC
 have HM:=vQ hm
 clear hr hm h hW
 cases m with
 |error er=>
  have HR2:Hid (r=.error er):=HR.out
  clear HR
  go_enter Tryz.func164,Tryz.ntmps164
  go_wp2_with fail
  rw[<-HW.out]
  refine HC.out.mono ?_
  intro e w1 hh
  obtain⟨he,ha⟩:=hh.bad
  subst he
  clear hh
  have HA:=vQ (HI.out.aside.trans ha (fun _ _ h=>h))
  clear ha HC
  go_wp2
  rw[HR2.out]
  exact⟨rfl,rfl,HA.out⟩
 |ok xj=>
  obtain⟨x,j⟩:=xj
  have HR2:Hid (r=.ok (.mk 5 0 0 x [],j)):=HR.out
  clear HR
  go_enter Tryz.func164,Tryz.ntmps164
  go_wp2_with fail
  rw[<-HW.out]
  refine HC.out.mono ?_
  intro e w1 hh
  obtain⟨v,he,hv,hrd,ha⟩:=hh.good
  clear hh
  replace hv:v=.string x:=hv
  subst hv
  subst he
  have HI1:=vQ (HI.out.step ha hrd hR)
  clear ha hrd HC HW HI
  have q0:w1.cell? ⟨w.1.size+1+1,0,none⟩=some (.int .i64 5):=aa HI1.out.b2 0
  have q1:w1.cell? ⟨w.1.size+1+1,1,none⟩=some (.int .i64 0):=aa HI1.out.b2 1
  have q2:w1.cell? ⟨w.1.size+1+1,2,none⟩=some (.float .f64 0):=aa HI1.out.b2 2
  have q3:w1.cell? ⟨w.1.size+1+1,3,none⟩=some (.string ⟨#[]⟩):=aa HI1.out.b2 3
  have q4:w1.cell? ⟨w.1.size+1+1,4,none⟩=some (.slice none 0 0):=aa HI1.out.b2 4
  have t0:w1.cell? ⟨w.1.size+1,0,none⟩=some (.int .i64 0):=aa HI1.out.b1 0
  have t1:w1.cell? ⟨w.1.size+1,1,none⟩=some (.int .i64 0):=aa HI1.out.b1 1
  have t2:w1.cell? ⟨w.1.size+1,2,none⟩=some (.float .f64 0):=aa HI1.out.b1 2
  have t3:w1.cell? ⟨w.1.size+1,3,none⟩=some (.string ⟨#[]⟩):=aa HI1.out.b1 3
  have t4:w1.cell? ⟨w.1.size+1,4,none⟩=some (.slice none 0 0):=aa HI1.out.b1 4
  have qf0:=ac HI1.out.b2 0
  have qf1:=ac HI1.out.b2 1
  have qf2:=ac HI1.out.b2 2
  have qf3:=ac HI1.out.b2 3
  have qf4:=ac HI1.out.b2 4
  have tf0:=ac HI1.out.b1 0
  have tf1:=ac HI1.out.b1 1
  have tf2:=ac HI1.out.b1 2
  have tf3:=ac HI1.out.b1 3
  have tf4:=ac HI1.out.b1 4
  have HFin:=vQ (HI1.out.fin hR 3 (.string x) 0 0 x)
  go_wp2
  obtain⟨f1,f2,f3,f4⟩:=HFin.out
  refine bodyPost_ret (v:=.agg (cells5 5 0 0 x none 0 0)) (results_cell_row rfl _ _ (w.1.size+1) _ _ _ _ rfl f1 Tryz.underlying87 rfl (by kernel_rfl)) rfl ?_
  rw[HR2.out]
  exact⟨_,rfl,f2,f3,f4⟩
theorem rS(l:L8)(A R:Nat)(w:World)(p:OA)(n c:Nat)(h:Rdr w A R l):Calls Tryz.prog 164 #[.pointer (some ⟨R,0,none⟩),.agg #[.int .i64 2,.slice p n c]] w (RdA w A R l (Sch.scalar 2 l) (isV w)):=by
 have hR:=h.lt
 obtain⟨W,hW⟩:∃W,W=((w.alloc (.cells #[.int .i64 2,.slice p n c] 83)).alloc (.cells #[.int .i64 0,.int .i64 0,.float .f64 0,.string ⟨#[]⟩,.slice none 0 0] 87)).alloc (.cells #[.int .i64 2,.int .i64 0,.float .f64 0,.string ⟨#[]⟩,.slice none 0 0] 87):=⟨_,rfl⟩
 have HI:Hid (da w W A R 2 #[.int .i64 2,.slice p n c] l):=by rw[hW];exact bI 2 _ h
 have HW:=vQ hW
 obtain⟨r,hr⟩:∃r,r=Sch.scalar 2 l:=⟨_,rfl⟩
 have HR:=vQ (hr.trans (pI l))
 rw[<-hr]
 have HC:=vQ (nh l A R W HI.out.rd)
 obtain⟨m,hm⟩:∃m,m=Sch.num l:=⟨_,rfl⟩
 rw[<-hm] at HR HC
 have HM:=vQ hm
 clear hr hm h hW
 cases m with
 |error er=>
  have HR2:Hid (r=.error er):=HR.out
  clear HR
  go_enter Tryz.func164,Tryz.ntmps164
  go_wp2_with fail
  rw[<-HW.out]
  refine HC.out.mono ?_
  intro e w1 hh
  obtain⟨he,ha⟩:=hh.bad
  subst he
  clear hh
  have HA:=vQ (HI.out.aside.trans ha (fun _ _ h=>h))
  clear ha HC
  go_wp2
  rw[HR2.out]
  exact⟨rfl,rfl,HA.out⟩
 |ok xj=>
  obtain⟨x,j⟩:=xj
  have HR2:Hid (r=.ok (.mk 2 (Leb.zag x) 0 ⟨#[]⟩ [],j)):=HR.out
  clear HR
  go_enter Tryz.func164,Tryz.ntmps164
  go_wp2_with fail
  rw[<-HW.out]
  refine HC.out.mono ?_
  intro e w1 hh
  obtain⟨v,he,hv,hrd,ha⟩:=hh.good
  clear hh
  replace hv:v=.int .u64 (x:Nat):=hv
  subst hv
  subst he
  have HI1:=vQ (HI.out.step ha hrd hR)
  clear ha hrd HC HW HI
  have HZ:=vQ (rJ x (ig HM.out.symm).2)
  obtain⟨z,hz⟩:∃z,z=Leb.zag x:=⟨_,rfl⟩
  rw[<-hz] at HZ HR2
  clear hz HM
  go_wp2_with fail
  refine(HZ.out _).mono ?_
  rintro e w2 ⟨rfl,hw2⟩
  rw[hw2]
  clear hw2 w2 HZ
  have q0:w1.cell? ⟨w.1.size+1+1,0,none⟩=some (.int .i64 2):=aa HI1.out.b2 0
  have q1:w1.cell? ⟨w.1.size+1+1,1,none⟩=some (.int .i64 0):=aa HI1.out.b2 1
  have q2:w1.cell? ⟨w.1.size+1+1,2,none⟩=some (.float .f64 0):=aa HI1.out.b2 2
  have q3:w1.cell? ⟨w.1.size+1+1,3,none⟩=some (.string ⟨#[]⟩):=aa HI1.out.b2 3
  have q4:w1.cell? ⟨w.1.size+1+1,4,none⟩=some (.slice none 0 0):=aa HI1.out.b2 4
  have t0:w1.cell? ⟨w.1.size+1,0,none⟩=some (.int .i64 0):=aa HI1.out.b1 0
  have t1:w1.cell? ⟨w.1.size+1,1,none⟩=some (.int .i64 0):=aa HI1.out.b1 1
  have t2:w1.cell? ⟨w.1.size+1,2,none⟩=some (.float .f64 0):=aa HI1.out.b1 2
  have t3:w1.cell? ⟨w.1.size+1,3,none⟩=some (.string ⟨#[]⟩):=aa HI1.out.b1 3
  have t4:w1.cell? ⟨w.1.size+1,4,none⟩=some (.slice none 0 0):=aa HI1.out.b1 4
  have qf0:=ac HI1.out.b2 0
  have qf1:=ac HI1.out.b2 1
  have qf2:=ac HI1.out.b2 2
  have qf3:=ac HI1.out.b2 3
  have qf4:=ac HI1.out.b2 4
  have tf0:=ac HI1.out.b1 0
  have tf1:=ac HI1.out.b1 1
  have tf2:=ac HI1.out.b1 2
  have tf3:=ac HI1.out.b1 3
  have tf4:=ac HI1.out.b1 4
  have HFin:=vQ (HI1.out.fin hR 1 (.int .i64 z) z 0 ⟨#[]⟩)
  go_wp2
  obtain⟨f1,f2,f3,f4⟩:=HFin.out
  refine bodyPost_ret (v:=.agg (cells5 2 z 0 ⟨#[]⟩ none 0 0)) (results_cell_row rfl _ _ (w.1.size+1) _ _ _ _ rfl f1 Tryz.underlying87 rfl (by kernel_rfl)) rfl ?_
  rw[HR2.out]
  exact⟨_,rfl,f2,f3,f4⟩
end
section
open Go.RowKit
attribute [local go_sem] ai
structure dT(w:World)(R:Nat)(u:AV)(t:Ty):Prop where
 out:∃F:Nat->Prop,aZ w F u t∧∀k,F k->R<k∧k<w.1.size
theorem dT.aside{w w':World}{R:Nat}{u:AV}{t:Ty}(h:dT w R u t)(ha:Aside (fun i=>i=R) w w'):dT w' R u t:=by
 obtain⟨F,h1,h2⟩:=h.out
 have hs:=ha.size
 exact⟨F,h1.aside ha (fun k hk he=>by have:=h2 k hk;omega),fun k hk=>⟨(h2 k hk).1,by have:=h2 k hk;omega⟩⟩
theorem dT.on{w w':World}{R:Nat}{u:AV}{t:Ty}(h:dT w R u t)(hb:Below w.1.size w w'):dT w' R u t:=by
 obtain⟨F,h1,h2⟩:=h.out
 have hs:=hb.size
 exact⟨F,h1.under hb (fun k hk=>(h2 k hk).2),fun k hk=>⟨(h2 k hk).1,by have:=h2 k hk;omega⟩⟩
theorem dT.one{w:World}{R:Nat}{u:AV}{k:Int}{x:Ty}(h:dT w R u (.mk k [x])):∃g off c k' q n' c',u=al k (some ⟨g,off,none⟩) 1 c∧dT w R (al k' q n' c') x∧R<g∧g<w.1.size∧w.cell? ⟨g,off,none⟩=some (.int .i64 k')∧w.cell? ⟨g,off+1,none⟩=some (.slice q n' c'):=by
 obtain⟨F,h1,h2⟩:=h.out
 rcases h1.inv with ⟨k0,p,c,hu,hx⟩ | ⟨k0,g,off,c,xs,us,Fs,hu,hx,s⟩
 ·simp only[Ty.mk.injEq] at hx
  exact absurd hx.2 (by simp)
 ·simp only[Ty.mk.injEq] at hx
  obtain⟨rfl,rfl⟩:=hx
  have hown:=s.hr 0 (by simp)
  obtain⟨k',q,n',c',hu'⟩:=hown.shape
  have c0:=s.hp.2 0 (by simp) 0 (by omega)
  have c1:=s.hp.2 0 (by simp) 1 (by omega)
  rw[hu'] at c0 c1
  rw[hu'] at hown
  exact⟨g,off,c,k',q,n',c',hu,⟨Fs 0,hown,fun j hj=>h2 j (s.hs 0 (by simp) j hj)⟩,(h2 g s.hg).1,s.hp.1,by simpa[al] using c0,by simpa[al] using c1⟩
theorem dT.shape{w:World}{R:Nat}{u:AV}{t:Ty}(h:dT w R u t):∃k p n c,u=al k p n c:=by
 obtain⟨F,h1,_⟩:=h.out
 exact h1.shape
def nv(w:World)(vs:List V)(v:Value)(w':World):Prop:=∃q c,v=.slice q vs.length c∧∀k,br w' (fun i=>w.1.size<=i∧i<w'.1.size) (cells5 k 0 0 ⟨#[]⟩ q vs.length c) (.mk k 0 0 ⟨#[]⟩ vs)
theorem nv.open{w w':World}{vs:List V}{v:Value}(h:nv w vs v w'):∃q c,v=.slice q vs.length c∧∀k,br w' (fun i=>w.1.size<=i∧i<w'.1.size) (cells5 k 0 0 ⟨#[]⟩ q vs.length c) (.mk k 0 0 ⟨#[]⟩ vs):=h
def lq(t:Ty):Prop:=∀(l:L8) (A R:Nat) (w:World) (u:AV),dT w R u t->Rdr w A R l->Calls Tryz.prog 164 #[.pointer (some ⟨R,0,none⟩),.agg u] w (RdA w A R l (Sch.rdV t l) (isV w))
structure lu(w wr:World)(A R:Nat)(u:AV)(t:Ty)(m:Nat)(l:L8)(r:Except Nat (List V×Nat))(ys:List V)(v:Value):Prop where
 built:∃us Fs,bG wr (w.1.size+1) v ys.length us Fs ys
 b0:wr.1[w.1.size]?=some (.cells u 83 (0,0))
 far:dT w R u t
 left:∃n,Rdr wr A R (l.drop n)∧r=glue ys n (Sch.rdN (Sch.rdV t) (m-ys.length) (l.drop n))
 aside:Aside (fun i=>i=R) w wr
 low:R<w.1.size
 size:w.1.size+1<=wr.1.size
 len:ys.length<=m
theorem kT{w:World}{A R:Nat}{u:AV}{t:Ty}{m:Nat}{l:L8}(hf:dT w R u t)(h:Rdr w A R l):lu w (w.alloc (.cells u 83)) A R u t m l (Sch.rdN (Sch.rdV t) m l) [] (.slice none 0 0):=by
 have hb:Below w.1.size w (w.alloc (.cells u 83)):=vY
 refine⟨⟨_,_,pc _ _⟩,ag w _,hf,⟨0,h.on hb,?_⟩,ae hb _,h.lt,by simp,Nat.zero_le _⟩
 rw[List.drop_zero,List.length_nil,Nat.sub_zero]
 cases Sch.rdN (Sch.rdV t) m l with
 |error e=>rfl
 |ok p=>simp[glue]
theorem lu.next{w wr w2 w4:World}{A R:Nat}{u:AV}{t:Ty}{m:Nat}{l:L8}{r:Except Nat (List V×Nat)}{ys:List V}{v:Value}(h:lu w wr A R u t m l r ys v){us:Nat->AV}{Fs:Nat->Nat->Prop}(hbt:bG wr (w.1.size+1) v ys.length us Fs ys){n j:Nat}{x:V}{u':AV}(hlt:ys.length<m)(hl:r=glue ys n (Sch.rdN (Sch.rdV t) (m-ys.length) (l.drop n)))(hx:Sch.rdV t (l.drop n)=.ok (x,j))(ha:Aside (fun i=>i=R) wr w2)(hown:br w2 (fun k=>wr.1.size<=k∧k<w2.1.size) u' x)(hrd:Rdr w2 A R ((l.drop n).drop j)):
  (w2.alloc (.cells u' 87)).ownsRow (w.1.size+1) 87 5 v ys.length (flat us ys.length) ∧
  ∀g cap,w4.ownsRow (w.1.size+1) 87 5 (.slice (some ⟨g,0,none⟩) (ys.length+1) cap) (ys.length+1) (flat us ys.length++u'.toList)->(w2.alloc (.cells u' 87)).grownBy w4 v.ownBlock->(v.ownBlock=some g∨g=(w2.alloc (.cells u' 87)).1.size) ->
   lu w w4 A R u t m l r (ys++[x]) (.slice (some ⟨g,0,none⟩) (ys.length+1) cap):=by
 have hs:=h.size
 have hlow:=h.low
 have hs2:=ha.size
 have hb3:Below w2.1.size w2 (w2.alloc (.cells u' 87)):=vY
 have hs3:=hb3.size
 obtain⟨wx,hx1,hx2,hx3⟩:=ha.split (by omega)
 have hbx:bG wx (w.1.size+1) v ys.length us Fs ys:=hbt.aside hx1 (fun g hg he=>by have:=(hbt.lt g hg).1;omega) (fun i hi k hk he=>by have:=(hbt.range i hi k hk).1;omega)
 refine⟨((hbx.on hx3).on hb3).row,fun g cap hr hg hn=>?_⟩
 have hst:=hbx.step hx3 hown (fun k hk=>⟨by rw[hx2];exact hk.1,hk.2⟩) hb3 (by rw[hx2];exact hs) hr hg hn
 have hs4:=hg.size
 have hv:=fun k (hk:v.ownBlock=some k)=>(hbx.lt k hk)
 have a34:Aside (fun k=>v.ownBlock=some k) w2 w4:=(ae hb3 _).trans (G:=fun k=>v.ownBlock=some k) ⟨hg.os,hg.tape,hg.output,hg.size,fun k hk hf=>hg.block k hk (fun hc=>hf hc.symm)⟩ (fun _ _ h=>h)
 have keep:∀k,k<=w.1.size->k≠R->w4.1[k]?=wr.1[k]?:=fun k hk hne=>by
  rw[a34.block k (by omega) (fun hc=>by have:=(hv k hc).1;omega),ha.block k (by omega) hne]
 have har:Aside (fun i=>i=R) w w4:=by
  refine(h.aside.trans ha (fun _ _ h=>h)).trans a34 (fun i hi hc=>?_)
  have:=(hv i hc).1
  omega
 refine⟨⟨_,_,by rw[List.length_append,List.length_singleton];exact hst⟩,(keep _ vX (by omega)).trans h.b0,?_,⟨n+j,?_,?_⟩,har,hlow,by omega,by rw[List.length_append,List.length_singleton];omega⟩
 ·exact h.far
 ·rw[<-List.drop_drop]
  exact hrd.aside a34 (fun k hk=>by have:=(hv k hk).1;omega)
 ·rw[hl,show m-ys.length=(m-(ys++[x]).length)+1 by rw[List.length_append,List.length_singleton];omega,kD,hx,pB,oL,List.drop_drop]
theorem qL(t:Ty)(hv:lq t)(m:Nat)(hm:m<=256)(l:L8)(A R:Nat)(w:World)(u:AV)(hf:dT w R u t)(h:Rdr w A R l):Calls Tryz.prog 174 #[.pointer (some ⟨R,0,none⟩),.int .i64 m,.agg u] w (RdA w A R l (Sch.rdN (Sch.rdV t) m l) (nv w)):=by
  obtain⟨k0,p0,n0,c0,hu⟩:=hf.shape
  have HS:=vQ (kT (m:=m) hf h)
  have HV:=vQ hv
  have hlow:=h.lt
  obtain⟨r,hr⟩:∃r,r=Sch.rdN (Sch.rdV t) m l:=⟨_,rfl⟩
  rw[<-hr] at HS ⊢
  subst hu
  unfold al at HS ⊢
  clear hr hf h hv
  go_enter Tryz.func174,Tryz.ntmps174
  go_wp2_with fail
  go_loopw [7,9] (fun v7 v9 wr=>∃(ys:List V) (q:OA) (c:Nat),v9=.int .i64 ys.length∧v7=.slice q ys.length c∧ys.length<=m∧Hid (lu w wr A R #[.int .i64 k0,.slice p0 n0 c0] t m l r ys (.slice q ys.length c))) (fun _ v9 _=>m-(intOf v9).toNat)
  case atStart=>exact⟨[],none,0,rfl,rfl,Nat.zero_le _,HS.out⟩
  case round=>
    obtain⟨ys,q,c,rfl,rfl,hyl,HI⟩:=hrel
    by_cases hlt:ys.length<m
    · have hj1:(ys.length:Int)<(m:Int):=by omega
      have b0:wr.cell? ⟨w.1.size,0,none⟩=some (.int .i64 k0):=aa HI.out.b0 0
      have b1:wr.cell? ⟨w.1.size,1,none⟩=some (.slice p0 n0 c0):=aa HI.out.b0 1
      obtain⟨n,hrd,hrr⟩:=HI.out.left
      obtain⟨us,Fs,hbt⟩:=HI.out.built
      have HC:=vQ (HV.out (l.drop n) A R wr _ (HI.out.far.aside HI.out.aside) hrd)
      have HRr:=vQ hrr
      have HBt:=vQ hbt
      obtain⟨mx,hmx⟩:∃x,x=Sch.rdV t (l.drop n):=⟨_,rfl⟩
      rw[<-hmx] at HC
      have HMx:=vQ hmx
      clear hrd hrr hbt hmx
      cases mx with
      |error er=>
        have HRe:Hid (r=.error er):=by
          show _=_
          rw[HRr.out,show m-ys.length=(m-ys.length-1)+1 by omega,kD,<-HMx.out]
          rfl
        go_wp2_with fail
        refine HC.out.mono ?_
        intro e w1 hh
        obtain⟨he,ha⟩:=hh.bad
        subst he
        clear hh
        have HA:=vQ (HI.out.aside.trans ha (fun _ _ h=>h))
        clear ha HC
        go_wp2
        rw[HRe.out]
        exact⟨rfl,rfl,HA.out⟩
      |ok xj=>
        obtain⟨x,j⟩:=xj
        go_wp2_with fail
        refine HC.out.mono ?_
        intro e w2 hh
        obtain⟨v,he,hv,hrd,ha⟩:=hh.good
        obtain⟨u',hv2,hown⟩:=hv.open
        clear hh hv
        obtain⟨k',i',b',t',p',n',c',hu'⟩:=hown.shape
        subst hu'
        subst hv2
        subst he
        unfold cells5 at hown ⊢
        have HNx:=vQ (fun w4=>HI.out.next (w4:=w4) HBt.out hlt HRr.out HMx.out.symm ha hown hrd)
        have HOn:=vQ hown
        have hsz:w.1.size+1<=w2.1.size+1:=by have:=HI.out.size;have:=ha.size;omega
        clear ha hrd hown HC b0 b1
        go_wp2_with (first
          | (at_builtin;refine rK (B:=w.1.size+1) (us:=us) (v:=.slice q ys.length c) (n:=ys.length) (HNx.out w2).1 (u:=#[.int .i64 k',.int .i64 i',.float .f64 b',.string t',.slice p' n' c']) rfl (vd HOn.out) (ad:=w2.1.size) (ag w2 _) (by omega) (by simpa using hsz) (H:=w2.1.size+1) (by simp) rfl rfl rfl rfl ?_
             intro g2 cap2 w4 hr4 hg4 hn4
             have HI4:=vQ ((HNx.out w4).2 g2 cap2 hr4 hg4 (by simpa using hn4))
             clear hr4 hg4 hn4))
        go_roundw
        case rel=>
          refine⟨ys++[x],some ⟨g2,0,none⟩,cap2,by simp,by simp,by simp;omega,?_⟩
          have:=HI4.out
          rw[List.length_append,List.length_singleton]
          exact this
        case measure=>simp[intOf];omega
    · have hjn:¬(ys.length:Int)<(m:Int):=by omega
      have hm0:m-ys.length=0:=by omega
      obtain⟨n,hrd,hrr⟩:=HI.out.left
      obtain⟨us,Fs,hbt⟩:=HI.out.built
      have HRok:Hid (r=.ok (ys,n)):=by
        show _=_
        rw[hrr,hm0,Sch.rdN,glue,List.append_nil,Nat.add_zero]
      have HIts:Hid (nv w ys (.slice q ys.length c) wr):=by
        refine⟨q,c,rfl,fun k=>?_⟩
        obtain⟨p2,c2,he,hown⟩:=hbt.done (by omega) k 0 0 ⟨#[]⟩
        injection he with e1 e2 e3
        subst e1 e3
        exact hown.mono (fun i hi=>⟨by omega,hi.2⟩)
      have HRd:=vQ hrd
      have HA:=vQ HI.out.aside
      clear hrd hrr hbt HI hm0
      go_wp2
      go_ret
      rw[HRok.out]
      exact⟨_,rfl,HIts.out,HRd.out,HA.out⟩
end
end Go.Proofs.YtlgfdgdlaahpfaaGreatDoor

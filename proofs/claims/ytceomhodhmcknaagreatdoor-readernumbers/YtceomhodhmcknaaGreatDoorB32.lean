import Derived.Test.YtceomhodhmcknaaGreatDoorB31
import Derived.Test.YtceomhodhmcknaaGreatDoorB19
set_option maxRecDepth 100000
set_option maxHeartbeats 20000000
namespace Go.Proofs.YtceomhodhmcknaaGreatDoor
variable{W W' w wr:World}{v:Value}{x y:Int}
section
open Go.RowKit
attribute [local go_sem] af
theorem cw(w:World)(g o j o':Nat)(u v:Value)(h:g≠j):(w.setCell ⟨j,o',none⟩ u).setCell ⟨g,o,none⟩ v=(w.setCell ⟨g,o,none⟩ v).setCell ⟨j,o',none⟩ u:=by
 unfold World.setCell
 congr 1
 apply Array.ext
 ·simp
 ·intro i h1 h2
  simp only[Array.getElem_modify]
  by_cases e1:g=i
  ·by_cases e2:j=i
   ·omega
   ·simp[e1,e2]
  ·by_cases e2:j=i
   ·simp[e1,e2]
   ·simp[e1,e2]
theorem iz(w:World)(g o j:Nat)(k i:Int)(b:Nat)(t:ByteArray)(s u:Value)(h:g≠j):eu (w.setCell ⟨j,0,none⟩ u) g o k i b t s=(eu w g o k i b t s).setCell ⟨j,0,none⟩ u:=by
 unfold eu
 rw[cw _ _ _ _ _ _ _ h,cw _ _ _ _ _ _ _ h,cw _ _ _ _ _ _ _ h,cw _ _ _ _ _ _ _ h,cw _ _ _ _ _ _ _ h]
structure kR(L:L8)(w wr:World)(R:Nat)(s:List Col)(m:L8)(r:Except Nat (List V×Nat))(ys:List V)(v:Value):Prop where
 b1:wr.1[w.1.size+1]?=some (.cells #[v] 35 (0,0))
 b2:wr.1[w.1.size+2]?=some (.cells #[.int .i64 0] 3 (0,0))
 b3:wr.1[w.1.size+3]?=some (.cells #[.int .i64 0] 36 (0,0))
 below:Below w.1.size w wr
 low:w.1.size+4<=R
 high:R<wr.1.size
 built:∃us Fs,bd wr (R+1) v ys.length us Fs ys
 left:∃n,aC L wr w.1.size R (m.drop n)∧r=glue ys n (Rw.rd (s.drop ys.length) (m.drop n))
 len:ys.length<=s.length
def gw:AV:=#[.int .i64 0,.int .i64 0,.float .f64 0,.string ⟨#[]⟩,.slice none 0 0]
section
variable {L:L8} {w wr wa w2 w3 w4:World} {R:Nat} {s:List Col} {m:L8} {r:Except Nat (List V×Nat)} {ys:List V} {v:Value} {us:Nat->AV} {Fs:Nat->Nat->Prop} {n j:Nat} {x:V} {k i:Int} {b:Nat} {t:ByteArray} {q:OA} {nn c:Nat}
theorem kR.row(h:kR L w wr R s m r ys v)(hbt:bd wr (R+1) v ys.length us Fs ys)(hba:Below wr.1.size wr wa)(ha:Aside (fun i=>i=R) wa w2)(hb3:Below w2.1.size w2 w3):w3.ownsRow (R+1) 47 5 v ys.length (flat us ys.length)∧w2.1[w.1.size+1]?=some (.cells #[v] 35 (0,0)):=by
 have hlow:=h.low
 have hhigh:=h.high
 have hsa:=hba.size
 have hbx:bd wa (R+1) v ys.length us Fs ys:=hbt.on hba
 have hb2:bd w2 (R+1) v ys.length us Fs ys:=hbx.aside ha (fun g hg he=>by have:=(hbx.lt g hg).1;omega) (fun i hi k hk he=>by have:=(hbx.range i hi k hk).1;omega)
 refine⟨(hb2.on hb3).row,?_⟩
 rw[ha.block _ (by omega) (by omega),hba.block _ (by omega)]
 exact h.b1
theorem kR.next(h:kR L w wr R s m r ys v)(hbt:bd wr (R+1) v ys.length us Fs ys)(hlt:ys.length<s.length)(hl:r=glue ys n (Rw.rd (s.drop ys.length) (m.drop n)))(hx:Sch.rdV s[ys.length].ty (m.drop n)=.ok (x,j))(hba:Below wr.1.size wr wa)(ha:Aside (fun i=>i=R) wa w2)(hown:aR w2 (fun k=>wa.1.size<=k∧k<w2.1.size) (cells5 k i b t q nn c) x)(hrd:aC L w2 w.1.size R ((m.drop n).drop j))(hb3:Below w2.1.size w2 w3){g cap:Nat}(hr:w4.ownsRow (R+1) 47 5 (.slice (some ⟨g,0,none⟩) (ys.length+1) cap) (ys.length+1) (flat us ys.length++gw.toList))(hg:w3.grownBy w4 v.ownBlock)(hn:v.ownBlock=some g∨g=w3.1.size):
  (∀j,j<5->∃z,w4.cell? ⟨g,ys.length*5+j,none⟩=some z)∧(∀j,w4.frozen? ⟨g,j,none⟩=false)∧R<g∧w4.1[w.1.size+1]?=some (.cells #[v] 35 (0,0)) ∧
  kR L w ((eu w4 g (ys.length*5) k i b t (.slice q nn c)).setCell ⟨w.1.size+1,0,none⟩ (.slice (some ⟨g,0,none⟩) (ys.length+1) cap)) R s m r (ys++[x]) (.slice (some ⟨g,0,none⟩) (ys.length+1) cap):=by
 have hlow:=h.low
 have hhigh:=h.high
 have hsa:=hba.size
 have hs2:=ha.size
 have hs3:=hb3.size
 have hs4:=hg.size
 have hbx:bd wa (R+1) v ys.length us Fs ys:=hbt.on hba
 obtain⟨wx,hx1,hx2,hx3⟩:=ha.split (by omega)
 have hby:bd wx (R+1) v ys.length us Fs ys:=hbx.aside hx1 (fun g hg he=>by have:=(hbx.lt g hg).1;omega) (fun i hi k hk he=>by have:=(hbx.range i hi k hk).1;omega)
 have hfl:(flat us ys.length).length=ys.length*5:=by
  have:=hbt.row.1
  exact this
 obtain⟨p1,p2,p3⟩:=nd (z0:=.int .i64 0) (z1:=.int .i64 0) (z2:=.float .f64 0) (z3:=.string ⟨#[]⟩) (z4:=.slice none 0 0) hfl hr k i b t q nn c
 have hgR:R<g:=(hr.lt g rfl).1
 have hgs:g<w4.1.size:=(hr.lt g rfl).2
 obtain⟨w5,hw5⟩:∃w5,w5=eu w4 g (ys.length*5) k i b t (.slice q nn c):=⟨_,rfl⟩
 have a5:Aside (fun j=>j=g) w4 w5:=by rw[hw5];exact lN _ _ _ _ _ _ _ _
 have s5:w5.1.size=w4.1.size:=by rw[hw5];exact na _ _ _ _ _ _ _ _
 have hg5:w3.grownBy w5 v.ownBlock:=by
  refine⟨a5.os.trans hg.os,a5.tape.trans hg.tape,a5.output.trans hg.output,by omega,fun k hk hne=>?_⟩
  rw[a5.block k (by omega) (fun he=>?_)]
  ·exact hg.block k hk hne
  ·rcases hn with hn | hn
   ·exact hne (by rw[hn,he])
   ·omega
 rw[<-hw5] at p3
 have hst:=hby.step hx3 hown (fun k hk=>⟨by rw[hx2];exact hk.1,hk.2⟩) hb3 (by rw[hx2];omega) p3 hg5 hn
 have hv:=fun k (hk:v.ownBlock=some k)=>(hbx.lt k hk)
 -- what lies below stays
 have keep:∀k,k<=R->k≠R->k<wr.1.size->w5.1[k]?=wr.1[k]?:=fun k hk hne hkl=>by
  rw[a5.block k (by omega) (by omega),hg.block k (by omega) (fun hc=>by have:=(hv k hc.symm).1;omega),hb3.block k (by omega),ha.block k (by omega) hne,hba.block k hkl]
 have t5:w5.1[w.1.size+1]?=some (.cells #[v] 35 (0,0)):=(keep _ (by omega) (by omega) (by omega)).trans h.b1
 have t4:w4.1[w.1.size+1]?=some (.cells #[v] 35 (0,0)):=by
  rw[<-a5.block _ (by omega) (by omega)]
  exact t5
 have a34:Aside (fun k=>R<k) w2 w5:=by
  refine(ag hb3 (fun k=>R<k)).trans (G:=fun k=>R<k) ⟨hg5.os,hg5.tape,hg5.output,hg5.size,fun k hk hf=>hg5.block k hk (fun hc=>?_)⟩ (fun _ _ h=>h)
  have:=(hv k hc.symm).1
  omega
 have hrd5:aC L w5 w.1.size R ((m.drop n).drop j):=hrd.aside a34 (fun k hk=>hk)
 obtain⟨w6,hw6⟩:∃w6,w6=w5.setCell ⟨w.1.size+1,0,none⟩ (.slice (some ⟨g,0,none⟩) (ys.length+1) cap):=⟨_,rfl⟩
 have a6:Aside (fun j=>j=w.1.size+1) w5 w6:=by rw[hw6];exact ai _ _ _ _
 have s6:=a6.size
 rw[<-hw5,<-hw6]
 refine⟨p1,p2,hgR,t4,?_⟩
 have hst6:=hst.aside a6 (fun g' hg' he=>by have:=(hst.lt g' hg').1;omega) (fun i hi k hk he=>by have:=(hst.range i hi k hk).1;omega)
 refine⟨?_,?_,?_,?_,hlow,by omega,⟨_,_,by rw[List.length_append,List.length_singleton];exact hst6⟩,⟨n+j,?_,?_⟩,by rw[List.length_append,List.length_singleton];omega⟩
 ·rw[hw6,al t5 0];rfl
 ·rw[a6.block _ (by omega) (by omega),keep _ (by omega) (by omega) (by omega)];exact h.b2
 ·rw[a6.block _ (by omega) (by omega),keep _ (by omega) (by omega) (by omega)];exact h.b3
 ·refine⟨?_,?_,?_,by have:=h.below.size;omega,fun k hk=>?_⟩
  ·rw[a6.os,hg5.os,hb3.os,ha.os,hba.os];exact h.below.os
  ·rw[a6.tape,hg5.tape,hb3.tape,ha.tape,hba.tape];exact h.below.tape
  ·rw[a6.output,hg5.output,hb3.output,ha.output,hba.output];exact h.below.output
  ·rw[a6.block k (by omega) (by omega),keep k (by omega) (by omega) (by omega)]
   exact h.below.block k hk
 ·rw[<-List.drop_drop,hw6]
  exact hrd5.set t5 (by simp) (by omega) (by omega) 0 _
 ·rw[hl,List.length_append,List.length_singleton,List.drop_eq_getElem_cons hlt,ot,hx,jQ,ga,List.drop_drop]
end
end
section
open Go.RowKit
def unl(listed:Array Bool):Nat->Nat
 |0=>0
 |n+1=>unl listed n+if listed.getD n true then 0 else 1
theorem s0(listed:Array Bool)(i:Nat)(hi:listed.getD i true=false):∀n,(i<n->unl (listed.setIfInBounds i true) n+1<=unl listed n)∧unl (listed.setIfInBounds i true) n<=unl listed n:=by
 have hs:i<listed.size:=by
  by_cases h:i<listed.size
  ·exact h
  ·simp[Array.getD,h] at hi
 intro n
 induction n with
 |zero=>exact⟨fun h=>absurd h (by omega),xX⟩
 |succ n ih=>
  have e:(listed.setIfInBounds i true).getD n true=if n=i then true else listed.getD n true:=by
   by_cases hn:n=i
   ·subst hn;simp[Array.getD,hs]
   ·rw[if_neg hn]
    by_cases hl:n<listed.size
    ·simp[Array.getD,hl,Ne.symm hn]
    ·simp[Array.getD,hl]
  simp only[unl,e]
  by_cases hn:n=i
  ·subst hn
   rw[if_pos rfl,hi]
   simp only[Bool.false_eq_true,if_false,if_true]
   exact⟨fun _=>by have:=ih.2;omega,by have:=ih.2;omega⟩
  ·rw[if_neg hn]
   exact⟨fun h=>by have:=ih.1 (by omega);omega,by have:=ih.2;omega⟩
theorem s4(listed:Array Bool)(c:Nat)(hc:listed.getD c true=false):∀n,c<n->0<unl listed n:=by
 intro n
 induction n with
 |zero=>intro h;omega
 |succ n ih=>
  intro h
  rw[unl]
  by_cases hn:c=n
  ·subst hn;rw[hc];simp
  ·have:=ih (by omega);omega
section
variable {P:Program} {ops:Array Oper} {Q:Exit->Act->World->Prop}
theorem qX(hfw:∀(i:Nat) o,ops[i]?=some o->∀e∈o.after,Region.binds .any e=true->e.on<i)(listed:Array Bool)(hsz:listed.size=ops.size):∀c,c<ops.size->listed.getD c true=false->Region.ready .any ops listed≠[]:=by
 intro c
 induction c using Nat.strongRecOn with
 |_ c ih=>
  intro hc hl
  by_cases h:∃j,j<c∧listed.getD j true=false
  ·obtain⟨j,hj,hjl⟩:=h
   exact ih j hj (by omega) hjl
  ·intro he
   have hmem:c∈Region.ready .any ops listed:=by
    rw[mem_ready]
    refine⟨hl,ops[c],Array.getElem?_eq_getElem hc,fun e hee hbe=>?_⟩
    have hlt:=hfw c _ (Array.getElem?_eq_getElem hc) e hee hbe
    cases hb:listed.getD e.on true with
    |false=>exact absurd ⟨e.on,hlt,hb⟩ h
    |true=>
     have hlt2:e.on<listed.size:=by omega
     simp[Array.getD,hlt2] at hb ⊢
     exact hb
   rw[he] at hmem
   cases hmem
def gV(ops:Array Oper)(c:Nat)(late:Nat->Bool):Bool:=(List.range ops.size).all fun i=>match ops[i]? with
 |some o=>o.guard.isNone&&o.after.all (fun e=>!Region.binds .any e||decide (e.on<i))&&(!late i||o.after.any (fun e=>Region.binds .any e&&e.on==c))
 |none=>true
theorem dP{c:Nat}{late:Nat->Bool}(h:gV ops c late=true)(i:Nat)(o:Oper)(ho:ops[i]?=some o):o.guard=none∧(∀e∈o.after,Region.binds .any e=true->e.on<i)∧(late i=true->∃e∈o.after,Region.binds .any e=true∧e.on=c):=by
 unfold gV at h
 have h1:=List.all_eq_true.1 h i (List.mem_range.2 (Array.getElem?_eq_some_iff.1 ho).1)
 rw[ho] at h1
 simp only[Bool.and_eq_true,Bool.or_eq_true,Bool.not_eq_true',Array.all_eq_true_iff_forall_mem,decide_eq_true_eq,Array.any_eq_true',beq_iff_eq,Option.isNone_iff_eq_none] at h1
 refine⟨h1.1.1,fun e he hb=>(h1.1.2 e he).resolve_left (by rw[hb];exact Bool.noConfusion),fun hl=>?_⟩
 rcases h1.2 with h2 | ⟨e,he,hb,hon⟩
 ·rw[hl] at h2;cases h2
 ·exact⟨e,he,hb,hon⟩
theorem mu(c:Nat)(hc:c<ops.size)(G:Act->World->Prop)(D:Nat->Act->Prop)(late:Nat->Bool)(hchk:gV ops c late=true)(hstep:∀(i:Nat) o,ops[i]?=some o->i≠c->late i=false->∀a w,G a w->(∀e∈o.after,Region.binds .any e=true->D e.on a)->∃v w',(execOp a.eval o).run P w=.ok (.value v) w'∧G (a.put o.dst v) w'∧D i (a.put o.dst v)∧∀j,j≠i->D j a->D j (a.put o.dst v))(hcall:∀o,ops[c]?=some o->∀a w,G a w->(∀e∈o.after,Region.binds .any e=true->D e.on a)->∀K,o.wp P a w K Q):
  ∀fuel listed a w,listed.size=ops.size->listed.getD c true=false->unl listed ops.size<=fuel->(∀j,listed.getD j false=true->D j a)->G a w->wpAny P .any ops Q fuel listed a w:=by
 have hfw:=fun i o ho=>(dP hchk i o ho).2.1
 have hlate:=fun i o ho=>(dP hchk i o ho).2.2
 have hguard:=fun i o ho=>(dP hchk i o ho).1
 intro fuel
 induction fuel with
 |zero=>
  intro listed a w _ hl hu _ _
  have:=s4 listed c hl ops.size hc
  omega
 |succ fuel ih=>
  intro listed a w hsz hl hu hd hg
  refine⟨fun h0=>absurd h0 (qX hfw listed hsz c hc hl),fun i hi=>?_⟩
  obtain⟨hil,o,ho,hdeps⟩:=mem_ready.1 hi
  have hiw:i<ops.size:=(Array.getElem?_eq_some_iff.1 ho).1
  have hdep:∀e∈o.after,Region.binds .any e=true->D e.on a:=fun e he hb=>hd _ (hdeps e he hb)
  have hwant:Region.wanted o (yielded ops a.tmps)=true:=by simp[Region.wanted,hguard i o ho]
  unfold wpOp
  rw[ho]
  dsimp only
  rw[if_pos hwant]
  refine .inl ?_
  by_cases hic:i=c
  ·subst hic
   exact hcall o ho a w hg hdep _
  ·have hlt:late i=false:=by
    cases hb:late i with
    |false=>rfl
    |true=>
     obtain⟨e,he,hb2,hon⟩:=hlate i o ho hb
     have:=hdeps e he hb2
     rw[hon] at this
     have hcs:c<listed.size:=by omega
     simp[Array.getD,hcs] at this hl
     rw[this] at hl
     cases hl
   obtain⟨v,w',hrun,hg',hdi,hdj⟩:=hstep i o ho hic hlt a w hg hdep
   unfold Oper.wp
   rw[hrun]
   refine ih _ _ _ (by simpa using hsz) ?_ (by have:=(s0 listed i hil ops.size).1 hiw;omega) (fun j hj=>?_) hg'
   ·have hcs:c<listed.size:=by omega
    simp[Array.getD,hcs,hic] at hl ⊢
    exact hl
   ·by_cases hji:j=i
    ·subst hji;exact hdi
    ·refine hdj j hji (hd j ?_)
     by_cases hjs:j<listed.size
     ·simp[Array.getD,hjs,Ne.symm hji] at hj ⊢
      exact hj
     ·simp[Array.getD,hjs] at hj
theorem jr(a:Act)(d j:Nat)(v:Value)(h:j≠d):(a.put (some d) v).tmps.getD j undef=a.tmps.getD j undef:=by
 simp[Act.put,Array.getD_eq_getD_getElem?,Array.getElem?_setIfInBounds_ne (Ne.symm h)]
theorem rh(a:Act)(d:Nat)(v:Value)(h:d<a.tmps.size):(a.put (some d) v).tmps.getD d undef=v:=by
 simp[Act.put,Array.getD_eq_getD_getElem?,h]
theorem kV(c:Nat)(hc:c<ops.size)(b0 nt:Nat)(hnt:b0+ops.size<=nt)(S:List (Nat×Value))(ds:List Deferred)(W:World->Prop)(exp:Nat->Option Value)(late:Nat->Bool)(hchk:gV ops c late=true)(hS:∀p∈S,p.1<b0)(hdst:∀(i:Nat) o,ops[i]?=some o->i≠c->late i=false->o.dst=some (b0+i))(hstep:∀(i:Nat) o,ops[i]?=some o->i≠c->late i=false->∀(a:Act) (w:World),(∀p∈S,a.tmps.getD p.1 undef=p.2)->W w->(∀e∈o.after,Region.binds .any e=true->∀u,exp e.on=some u->a.tmps.getD (b0+e.on) undef=u)->∃v w',(execOp a.eval o).run P w=.ok (.value v) w'∧W w'∧∀u,exp i=some u->v=u)(hcall:∀o,ops[c]?=some o->∀(a:Act) (w:World),(∀p∈S,a.tmps.getD p.1 undef=p.2)->a.defers=ds->W w->(∀e∈o.after,Region.binds .any e=true->∀u,exp e.on=some u->a.tmps.getD (b0+e.on) undef=u)->∀K,o.wp P a w K Q)(a:Act)(w:World)(h1:a.tmps.size=nt)(h2:a.defers=ds)(h3:∀p∈S,a.tmps.getD p.1 undef=p.2)(h4:W w):wpAny P .any ops Q ops.size (Array.replicate ops.size false) a w:=by
 refine mu c hc (fun a w=>a.tmps.size=nt∧a.defers=ds∧(∀p∈S,a.tmps.getD p.1 undef=p.2)∧W w) (fun i a=>∀u,exp i=some u->a.tmps.getD (b0+i) undef=u) late hchk ?_ ?_ _ _ _ _ (by simp) (by simp[Array.getD,hc]) ?_ ?_ ⟨h1,h2,h3,h4⟩
 ·intro i o ho hic hl a w ⟨g1,g2,g3,g4⟩ hdep
  obtain⟨v,w',r1,r2,r3⟩:=hstep i o ho hic hl a w g3 g4 hdep
  have hd:=hdst i o ho hic hl
  have hiw:i<ops.size:=(Array.getElem?_eq_some_iff.1 ho).1
  rw[hd]
  refine⟨v,w',r1,⟨by simpa[Act.put] using g1,g2,fun p hp=>?_,r2⟩,fun u hu=>?_,fun j hj hdj u hu=>?_⟩
  ·rw[jr _ _ _ _ (by have:=hS p hp;omega)]
   exact g3 p hp
  ·rw[rh _ _ _ (by omega)]
   exact r3 u hu
  ·rw[jr _ _ _ _ (by omega)]
   exact hdj u hu
 ·intro o ho a w ⟨g1,g2,g3,g4⟩ hdep K
  exact hcall o ho a w g3 g2 g4 hdep K
 ·have:∀n,unl (Array.replicate ops.size false) n<=n:=by
   intro n
   induction n with
   |zero=>exact xX
   |succ n ih=>
    rw[unl]
    split <;> omega
  exact this _
 ·intro j hj
  exfalso
  by_cases h:j<ops.size
  ·simp[Array.getD,h] at hj
  ·simp[Array.getD,h] at hj
def xi(Q:Exit->Act->World->Prop):Exit->Act->World->Prop
 |.panic _,_,_=>False
 |e,a,w=>Q e a w
theorem gH(a:Act)(w:World):xi Q .normal a w=Q .normal a w:=rfl
theorem od{c:Code}{a:Act}(h:c.wp P (xi Q) a w):c.wp P Q a w:=Code.wp_mono (fun e a w he=>by cases e <;> first | exact he | exact he.elim) h
end
end
section
open Go.RowKit
attribute [local go_sem] af
theorem gi(p q s:Addr)(x:Value)(y z:Int)(k:Int)(w:World)(hc:w.cell? p=some x)(hz:w.frozen? p=false)(hc2:w.cell? q=some (.int .i64 y))(hz2:w.frozen? q=false)(hc3:w.cell? s=some (.int .i64 z))(hz3:w.frozen? s=false)(hpq:p≠q)(hps:p≠s)(hqs:q≠s):
  CallsD Tryz.prog 119 #[.pointer (some p),.pointer (some q),.pointer (some s)] (.panicking [{ v:=.iface 36 (.int .i64 k),recovered:=false }]) w fun e u' w'=>
   e=.returned (.tuple #[])∧u'=.panicking [{ v:=.iface 36 (.int .i64 k),recovered:=true }]∧w'=(((w.setCell p (.slice none 0 0)).setCell q (.int .i64 0)).setCell s (.int .i64 k)).drew:=by
 have hta:=il k
 refine callsD_of_wpS Tryz.func119 rfl fun c₀ cs hu=>?_
 apply wpS_seq
 apply wpS_region
 simp[wpOpsS,go_sem,recoverD,hu,Tryz.ntmps119,Exit.thenS]
 refine wpS_of_wp ?_
 go_wp2_with fail
 go_region_law (fail)
 all_goals
  show bodyPostS Tryz.prog Tryz.f119 c₀ cs _ Exit.normal _ _ _
  simp[bodyPostS,results,Tryz.results119]
theorem md(p q s:Addr)(w:World):
  CallsD Tryz.prog 119 #[.pointer (some p),.pointer (some q),.pointer (some s)] .returning w fun e u' w'=>e=.returned (.tuple #[])∧u'=.returning∧w'=w:=by
 refine callsD_of_wpS Tryz.func119 rfl fun c₀ cs hu=>?_
 apply wpS_seq
 apply wpS_region
 simp[wpOpsS,go_sem,recoverD,hu,Tryz.ntmps119,Exit.thenS]
 refine wpS_of_wp ?_
 go_wp2_with fail
 cases c₀
 simp_all [bodyPostS,results,Tryz.results119]
theorem dQ{P:Program}{fn:Func}{p q s:Tmp}{ty ty2 ty3:TypeId}(h:fn.results=#[.cell p ty,.cell q ty2,.cell s ty3])(tmps:AV)(w:World)(g g2 g3:Nat)(t:TypeId)(cs:AV)(fr:Nat×Nat)(d:TypeDesc)(x y:Int)(hp:tmps.getD p undef=.pointer (some ⟨g,0,none⟩))(hg:w.1[g]?=some (.cells cs t fr))(hu:P.underlying ty=some d)(hd:(match d with | .struct _ | .array _ _=>true | _=>false)=true)(hi:(P.info? ty).map (·.size)=some cs.size)(hq:tmps.getD q undef=.pointer (some ⟨g2,0,none⟩))(hg2:w.cell? ⟨g2,0,none⟩=some (.int .i64 x))(hu2:P.underlying ty2=some (.int .i64))(hs:tmps.getD s undef=.pointer (some ⟨g3,0,none⟩))(hg3:w.cell? ⟨g3,0,none⟩=some (.int .i64 y))(hu3:P.underlying ty3=some (.int .i64)):
  (results fn tmps).run P w=.ok (.tuple #[.agg cs,.int .i64 x,.int .i64 y]) w:=by
 have hp':tmps[p]?.getD undef=.pointer (some ⟨g,0,none⟩):=by simpa using hp
 have hq':tmps[q]?.getD undef=.pointer (some ⟨g2,0,none⟩):=by simpa using hq
 have hs':tmps[s]?.getD undef=.pointer (some ⟨g3,0,none⟩):=by simpa using hs
 have h1:=run_loadVar_row w g t ty cs fr d hg hu hd hi
 have h2:(loadVar ty2 ⟨g2,0,none⟩).run P w=.ok (.int .i64 x) w:=by
  simp[go_sem,isAgg,run_underlying hu2,hg2]
 have h3:(loadVar ty3 ⟨g3,0,none⟩).run P w=.ok (.int .i64 y) w:=by
  simp[go_sem,isAgg,run_underlying hu3,hg3]
 simp[results,h,hp',hq',hs',asAddr,h1,h2,h3]
structure dA(w W:World)(v:Value)(x y:Int):Prop where
 b1:W.1[w.1.size+1]?=some (.cells #[v] 35 (0,0))
 b2:W.1[w.1.size+2]?=some (.cells #[.int .i64 x] 3 (0,0))
 b3:W.1[w.1.size+3]?=some (.cells #[.int .i64 y] 36 (0,0))
 below:Below w.1.size w W
theorem dA.on(h:dA w W v x y)(hb:Below W.1.size W W'):dA w W' v x y:=by
 have l1:=ao h.b1
 have l2:=ao h.b2
 have l3:=ao h.b3
 exact⟨by rw[hb.block _ l1];exact h.b1,by rw[hb.block _ l2];exact h.b2,by rw[hb.block _ l3];exact h.b3,h.below.trans (hb.mono h.below.size)⟩
theorem dA.aside{F:Nat->Prop}(h:dA w W v x y)(ha:Aside F W W')(hF:∀k,F k->w.1.size+4<=k):dA w W' v x y:=by
 have l1:=ao h.b1
 have l2:=ao h.b2
 have l3:=ao h.b3
 exact⟨by rw[ha.block _ l1 (fun hc=>by have:=hF _ hc;omega)];exact h.b1,by rw[ha.block _ l2 (fun hc=>by have:=hF _ hc;omega)];exact h.b2,by rw[ha.block _ l3 (fun hc=>by have:=hF _ hc;omega)];exact h.b3,h.below.trans (ha.below h.below.size (fun k hk hc=>by have:=hF _ hc;omega))⟩
theorem dA.set1(h:dA w W v x y)(v':Value):dA w (W.setCell ⟨w.1.size+1,0,none⟩ v') v' x y:=by
 have l1:=ao h.b1
 have l2:=ao h.b2
 have l3:=ao h.b3
 have ha:Aside (fun i=>i=w.1.size+1) W (W.setCell ⟨w.1.size+1,0,none⟩ v'):=ai _ _ _ _
 exact⟨by rw[al h.b1 0];rfl,by rw[ha.block _ l2 (by omega)];exact h.b2,by rw[ha.block _ l3 (by omega)];exact h.b3,h.below.trans (ha.below h.below.size (fun k hk=>by omega))⟩
theorem dA.set2(h:dA w W v x y)(x':Int):dA w (W.setCell ⟨w.1.size+2,0,none⟩ (.int .i64 x')) v x' y:=by
 have l1:=ao h.b1
 have l2:=ao h.b2
 have l3:=ao h.b3
 have ha:Aside (fun i=>i=w.1.size+2) W (W.setCell ⟨w.1.size+2,0,none⟩ (.int .i64 x')):=ai _ _ _ _
 exact⟨by rw[ha.block _ l1 (by omega)];exact h.b1,by rw[al h.b2 0];rfl,by rw[ha.block _ l3 (by omega)];exact h.b3,h.below.trans (ha.below h.below.size (fun k hk=>by omega))⟩
theorem dA.set3(h:dA w W v x y)(y':Int):dA w (W.setCell ⟨w.1.size+3,0,none⟩ (.int .i64 y')) v x y':=by
 have l1:=ao h.b1
 have l2:=ao h.b2
 have l3:=ao h.b3
 have ha:Aside (fun i=>i=w.1.size+3) W (W.setCell ⟨w.1.size+3,0,none⟩ (.int .i64 y')):=ai _ _ _ _
 exact⟨by rw[ha.block _ l1 (by omega)];exact h.b1,by rw[ha.block _ l2 (by omega)];exact h.b2,by rw[al h.b3 0];rfl,h.below.trans (ha.below h.below.size (fun k hk=>by omega))⟩
theorem dA.drew(h:dA w W v x y):dA w W.drew v x y:=⟨h.b1,h.b2,h.b3,h.below.drew⟩
theorem kR.d{L:L8}{R:Nat}{s:List Col}{m:L8}{r:Except Nat (List V×Nat)}{ys:List V}{v:Value}(h:kR L w wr R s m r ys v):dA w wr v 0 0:=⟨h.b1,h.b2,h.b3,h.below⟩
structure cN(w wr W:World)(v:Value)(x y:Int):Prop where
 d:dA w W v x y
 aside:Aside (fun i=>w.1.size<i∧i<w.1.size+4) wr W
theorem cN.set1(h:cN w wr W v x y)(v':Value):cN w wr (W.setCell ⟨w.1.size+1,0,none⟩ v') v' x y:=⟨h.d.set1 v',h.aside.trans (ai _ _ _ _) (fun i _ hi=>by rw[hi];omega)⟩
theorem cN.set2(h:cN w wr W v x y)(x':Int):cN w wr (W.setCell ⟨w.1.size+2,0,none⟩ (.int .i64 x')) v x' y:=⟨h.d.set2 x',h.aside.trans (ai _ _ _ _) (fun i _ hi=>by rw[hi];omega)⟩
theorem cN.set3(h:cN w wr W v x y)(y':Int):cN w wr (W.setCell ⟨w.1.size+3,0,none⟩ (.int .i64 y')) v x y':=⟨h.d.set3 y',h.aside.trans (ai _ _ _ _) (fun i _ hi=>by rw[hi];omega)⟩
theorem cN.drew(h:cN w wr W v x y):cN w wr W.drew v x y:=⟨h.d.drew,h.aside.drew⟩
theorem sg(s:List Col)(p:OA)(cp:Nat)(l:L8)(q:OA)(d:Nat)(a:Int)(w:World)(hS:dc w p cp s)(hl:l.length<=140737488351232)(hld:l.length<=d)(hat:At w q l)(ha1:-9223372036854775808<=a)(ha2:a<=9223372036854775807):
    Calls Tryz.prog 94 #[.agg #[.slice p s.length cp],.slice q l.length d,.int .i64 a] w (tU w (Rw.read s l a)):=by
  have hmf:∀(fn:Fn) (first cap:AV) (w:World),(Instr.makeFunc fn first cap).run Tryz.prog w=.ok (.func fn first cap) w:=fun _ _ _ _=>rfl
  obtain⟨hsl,hcp,hx,hwf⟩:=hS
  obtain⟨r,hr⟩:∃r,r=Rw.read s l a:=⟨_,rfl⟩
  have HR:=xQ (hr.trans (by rw[Rw.read]:Rw.read s l a=_))
  rw[<-hr]
  obtain⟨W0,hW0⟩:∃W0,W0=(((w.alloc (.cells #[.slice p s.length cp] 53)).alloc (.cells #[.slice none 0 0] 35)).alloc (.cells #[.int .i64 0] 3)).alloc (.cells #[.int .i64 0] 36):=⟨_,rfl⟩
  have hB0:Below w.1.size w W0:=by rw[hW0];exact((xY.alloc (by simp) _).alloc (by simp <;> omega) _).alloc (by simp <;> omega) _
  have HD0:Hid (dA w W0 (.slice none 0 0) 0 0):=by
    refine⟨?_,?_,?_,hB0⟩
    · rw[hW0,az _ _ (by simp <;> omega),az _ _ (by simp)]
      have:=ap (w.alloc (.cells #[.slice p s.length cp] 53)) (.cells #[.slice none 0 0] 35)
      simpa using this
    · rw[hW0,az _ _ (by simp)]
      have:=ap ((w.alloc (.cells #[.slice p s.length cp] 53)).alloc (.cells #[.slice none 0 0] 35)) (.cells #[.int .i64 0] 3)
      simpa using this
    · have:=ap (((w.alloc (.cells #[.slice p s.length cp] 53)).alloc (.cells #[.slice none 0 0] 35)).alloc (.cells #[.int .i64 0] 3)) (.cells #[.int .i64 0] 36)
      rw[hW0];simpa using this
  have HY0:Hid (W0.cell? ⟨w.1.size,0,none⟩=some (.slice p s.length cp)):=by
    show W0.cell? _=_
    have h0:(w.alloc (.cells #[.slice p s.length cp] 53)).cell? ⟨w.1.size,0,none⟩=some (.slice p s.length cp):=by simp
    rw[hW0]
    exact ae xY (ae xY (ae xY h0))
  have hs0:w.1.size+4<=W0.1.size:=by rw[hW0];simp
  have HB0:=xQ hB0
  have HX:=xQ hx
  have HAt:=xQ hat
  have HC:=xQ (g9 s p cp W0 hsl (hx.on hB0) hwf)
  have HOp:=xQ (fun h=>Sch.err_open (s:=s) h)
  have HTy:=xQ (fun h=>Rw.types_ok (s:=s) h)
  obtain⟨er,her⟩:∃er,er=Sch.err s:=⟨_,rfl⟩
  rw[<-her] at HC HR HOp HTy
  have HW0:=xQ hW0
  clear hW0 hr hx hwf hat her hB0
  go_enter_defers Tryz.func94,Tryz.ntmps94
  go_wp2_with fail
  rw[<-HW0.out]
  clear HW0
  refine HC.out.mono ?_
  rintro e w1 ⟨rfl,hb1⟩
  have HD1:=xQ (HD0.out.on hb1)
  have y1:=ae hb1 HY0.out
  have hs1:w.1.size+4<=w1.1.size:=Nat.le_trans hs0 hb1.size
  have HBw1:Hid (Below w.1.size w w1):=HD1.out.below
  clear hb1 HC HY0 HB0 HD0
  have m1:w1.cell? ⟨w.1.size+1,0,none⟩=some (.slice none 0 0):=aa HD1.out.b1 0
  have m2:w1.cell? ⟨w.1.size+2,0,none⟩=some (.int .i64 0):=aa HD1.out.b2 0
  have m3:w1.cell? ⟨w.1.size+3,0,none⟩=some (.int .i64 0):=aa HD1.out.b3 0
  have mf1:=ac HD1.out.b1 0
  have mf2:=ac HD1.out.b2 0
  have mf3:=ac HD1.out.b3 0
  by_cases h0:¬er=0
  · have g0:((er:Int) != 0)=true:=bC (by omega)
    have HE:Hid (r=.error er):=by show _=_;rw[HR.out,if_pos h0]
    have HD2:=xQ (((HD1.out.set1 (.slice none 0 0)).set2 0).set3 er)
    clear HR h0 HOp HTy
    go_wp2
    have d2:=HD2.out
    refine⟨_,dQ rfl _ _ (w.1.size+1) (w.1.size+2) (w.1.size+3) _ #[.slice none 0 0] _ _ 0 er rfl d2.b1 Tryz.underlying35 rfl (by kernel_rfl) rfl (aa d2.b2 0) Tryz.underlying3 rfl (aa d2.b3 0) Tryz.underlying36,?_⟩
    rw[HE.out]
    exact⟨rfl,d2.below⟩
  have g0:((er:Int) != 0)=false:=cg (by omega)
  have HR1:=xQ (HR.out.trans (if_neg h0))
  have hn16:s.length<=16:=(HOp.out (by omega)).2.1
  have HTy1:=xQ (HTy.out (by omega))
  clear HR HOp h0 HTy
  -- a panic that goes through the door
  have HDoor:Hid (∀(er:Nat) (W2:World) (v:Value) (x y:Int),r=.error er->dA w W2 v x y->∀(tmps:AV) (ds:List Deferred),tmps.getD 6 undef=.pointer (some ⟨w.1.size+1,0,none⟩)->tmps.getD 7 undef=.pointer (some ⟨w.1.size+2,0,none⟩)->tmps.getD 8 undef=.pointer (some ⟨w.1.size+3,0,none⟩)->ds=[{ target:=.fn (.func 119) #[.pointer (some ⟨w.1.size+1,0,none⟩),.pointer (some ⟨w.1.size+2,0,none⟩),.pointer (some ⟨w.1.size+3,0,none⟩)],args:=#[] }]->bodyPostD Tryz.prog Tryz.f94 (tU w r) (Exit.panic (cY er)) { tmps:=tmps,defers:=ds } W2):=by
    intro er W2 v x y he hI tmps ds h2 h3 h4 hds
    subst hds
    refine leaves_cons (f:=119) (args:=#[.pointer (some ⟨w.1.size+1,0,none⟩),.pointer (some ⟨w.1.size+2,0,none⟩),.pointer (some ⟨w.1.size+3,0,none⟩)]) (by simp) (by simp[go_sem]) ?_
    refine(gi ⟨w.1.size+1,0,none⟩ ⟨w.1.size+2,0,none⟩ ⟨w.1.size+3,0,none⟩ v x y er W2 (aa hI.b1 0) (ac hI.b1 0) (aa hI.b2 0) (ac hI.b2 0) (aa hI.b3 0) (ac hI.b3 0) (by intro hc;injection hc;omega) (by intro hc;injection hc;omega) (by intro hc;injection hc;omega)).mono ?_
    rintro e u' w'' ⟨rfl,rfl,rfl⟩
    have d3:=(((hI.set1 (.slice none 0 0)).set2 0).set3 er).drew
    refine⟨_,dQ rfl tmps _ (w.1.size+1) (w.1.size+2) (w.1.size+3) _ #[.slice none 0 0] _ _ 0 (er:Int) h2 d3.b1 Tryz.underlying35 rfl (by kernel_rfl) h3 (aa d3.b2 0) Tryz.underlying3 h4 (aa d3.b3 0) Tryz.underlying36,?_⟩
    rw[he]
    exact⟨rfl,d3.below⟩
  have HF:=xQ (pq l q d a w.1.size w1 hl hld (HAt.out.on HBw1.out) (by omega) (fun hne ad had=>by
    obtain⟨b,o,hq,hb,_⟩:=aZ HAt.out (List.length_pos_iff.2 hne)
    rw[hq] at had
    injection had with had
    subst had
    exact hb) ha1 ha2)
  unfold jK at HF
  by_cases h1:a<0∨(l.length:Int)<a
  · have HE:Hid (r=.error 30):=by show _=_;rw[HR1.out,if_pos h1]
    simp only[if_pos h1] at HF
    clear HR1 HTy1
    go_wp2_with fail
    refine HF.out.mono ?_
    rintro e w2 ⟨rfl,hb2⟩
    have HD2:=xQ (HD1.out.on hb2)
    clear hb2
    go_wp2
    exact HDoor.out 30 w2 _ _ _ HE.out HD2.out _ _ rfl rfl rfl rfl
  have HR2:=xQ (HR1.out.trans (if_neg h1))
  simp only[if_neg h1] at HF
  have ea:((a.toNat:Nat):Int)=a:=by omega
  have ha3:a<=(l.length:Int):=by omega
  have ha4:0<=a:=by omega
  have HEa:=xQ ea
  clear HR1 h1 ea
  go_wp2_with fail
  refine HF.out.mono ?_
  rintro e w2 ⟨rfl,hrd2,hb2,hs2⟩
  obtain⟨m,hm⟩:∃m,m=l.drop a.toNat:=⟨_,rfl⟩
  rw[<-hm] at HR2 hrd2
  obtain⟨rr,hrr⟩:∃rr,rr=Rw.rd s m:=⟨_,rfl⟩
  rw[<-hrr] at HR2
  have HDL:Hid (kR l w w2 (w1.1.size+1) s m rr [] (.slice none 0 0)):=by
    have hd:=HD1.out.on hb2
    refine⟨hd.b1,hd.b2,hd.b3,hd.below,by omega,by omega,⟨_,_,gk _ _⟩,⟨0,by rw[List.drop_zero];exact hrd2,?_⟩,Nat.zero_le _⟩
    rw[List.drop_zero,List.length_nil,List.drop_zero,<-hrr]
    cases rr with
    |error e=>rfl
    |ok p=>simp[glue]
  have y2:=ae hb2 y1
  have HM:=xQ hm
  have HRr:=xQ hrr
  clear hrd2 hb2 HF m1 m2 m3 mf1 mf2 mf3 y1 hm hrr
  go_wp2_with fail
  go_loopw [26] (fun v26 wr=>∃(ys:List V) (q9:OA) (c9:Nat),v26=.int .i64 ys.length∧ys.length<=s.length∧Hid (kR l w wr (w1.1.size+1) s m rr ys (.slice q9 ys.length c9))) (fun v26 _=>s.length-(intOf v26).toNat)
  case atStart=>exact⟨[],none,0,rfl,Nat.zero_le _,HDL.out⟩
  case round=>
    obtain⟨ys,q9,c9,rfl,hyl,HL⟩:=hrel
    clear HDL y2
    by_cases hlt:ys.length<s.length
    · have hj1:(ys.length:Int)<(s.length:Int):=by omega
      have hbw:=HL.out.below
      obtain⟨bx,ox,k,tp,tn,tc,vk,vi,vb,vt,vp,vn,vc,rfl,hbx,h9,hty,-⟩:=HX.out.at ys.length hlt
      obtain⟨a0,a1,a2,a3,a4,a5,a6,a7,a8⟩:=h9.on hbw
      obtain⟨wa,hwa⟩:∃wa,wa=wr.alloc (.cells #[.string s[ys.length].name,.int .i64 k,.slice tp tn tc,.bool s[ys.length].has,.int .i64 vk,.int .i64 vi,.float .f64 vb,.string vt,.slice vp vn vc] 90):=⟨_,rfl⟩
      have hba:Below wr.1.size wr wa:=by rw[hwa];exact xY
      have HSa:Hid (wa.1.size=wr.1.size+1):=by show _=_;rw[hwa];simp
      have t1:wa.cell? ⟨wr.1.size,1,none⟩=some (.int .i64 k):=by rw[hwa];simp
      have t2:wa.cell? ⟨wr.1.size,2,none⟩=some (.slice tp tn tc):=by rw[hwa];simp
      have t1a:∀o,(wa.alloc o).cell? ⟨wr.1.size,1,none⟩=some (.int .i64 k):=fun o=>ae xY t1
      have t2a:∀o,(wa.alloc o).cell? ⟨wr.1.size,2,none⟩=some (.slice tp tn tc):=fun o=>ae xY t2
      have d1:wa.cell? ⟨w.1.size+1,0,none⟩=some (.slice q9 ys.length c9):=ae hba (aa HL.out.b1 0)
      have d1a:∀o,(wa.alloc o).cell? ⟨w.1.size+1,0,none⟩=some (.slice q9 ys.length c9):=fun o=>ae xY d1
      obtain⟨n,hrd,hrn⟩:=HL.out.left
      obtain⟨us,Fs,hbt⟩:=HL.out.built
      have HBt:=xQ hbt
      have HRn:=xQ hrn
      have HBa:=xQ hba
      have HC:Hid (∀W',Below wr.1.size wr W'->Calls Tryz.prog 121 #[.pointer (some ⟨w1.1.size+1,0,none⟩),.agg #[.int .i64 k,.slice tp tn tc]] W' (bP l W' w.1.size (w1.1.size+1) (m.drop n) (Sch.rdV s[ys.length].ty (m.drop n)) (isV W'))):=fun W' hb=>uD _ 1 (HTy1.out _ (List.getElem_mem hlt)) l (m.drop n) _ _ W' _ ⟨w,hty,hbw.trans (hb.mono hbw.size),by omega⟩ (hrd.on hb)
      obtain⟨mx,hmx⟩:∃x,x=Sch.rdV s[ys.length].ty (m.drop n):=⟨_,rfl⟩
      rw[<-hmx] at HC
      have HMx:=xQ hmx
      have HTt:Hid (Rw.rd (s.drop ys.length) (m.drop n)=jQ (s.drop (ys.length+1)) (m.drop n) mx):=by
        show _=_
        rw[List.drop_eq_getElem_cons hlt,ot,hmx]
      generalize s[ys.length].name=nm at *
      generalize s[ys.length].has=hs9 at *
      have HEw:=xQ hwa
      clear h9 hty hbw hwa hba hrd hrn hbt hmx hbx
      cases mx with
      |error er2=>
        have HE:Hid (r=.error er2):=by
          show _=_
          have e1:rr=.error er2:=by rw[HRn.out,HTt.out];rfl
          rw[HR2.out,e1]
        obtain⟨g0,-⟩:∃g0:Nat,g0=0:=⟨_,rfl⟩
        have HDd:Hid (∀W' w2',Below wr.1.size wr W'->Aside (fun i=>i=w1.1.size+1) W' w2'->dA w w2' (.slice q9 ys.length c9) 0 0):=fun W' w2' hb ha=>(HL.out.d.on hb).aside ha (fun k hk=>by rw[hk];omega)
        go_wp2_with fail
        rw[<-HEw.out]
        clear HEw a0 a1 a2 a3 a4 a5 a6 a7 a8
        refine wp_region_any (by kernel_rfl) ?_
        refine kV 5 (by simp) 30 56 (by simp) [(6,.pointer (some ⟨w.1.size+1,0,none⟩)),(7,.pointer (some ⟨w.1.size+2,0,none⟩)),(8,.pointer (some ⟨w.1.size+3,0,none⟩)),(10,.pointer (some ⟨w1.1.size+1,0,none⟩)),(12,.pointer (some ⟨wr.1.size,0,none⟩))]
          [{ target:=.fn (.func 119) #[.pointer (some ⟨w.1.size+1,0,none⟩),.pointer (some ⟨w.1.size+2,0,none⟩),.pointer (some ⟨w.1.size+3,0,none⟩)],args:=#[] }] (fun w'=>Below wa.1.size wa w')
          (fun i=>match i with
            |0=>some (.pointer (some ⟨w.1.size+1,0,none⟩))
            |1=>some (.slice q9 ys.length c9)
            |2=>some (.pointer (some ⟨w1.1.size+1,0,none⟩))
            |3=>some (.pointer (some ⟨wr.1.size,1,none⟩))
            |4=>some (.agg #[.int .i64 k,.slice tp tn tc])
            |_=>none) (fun i=>decide (7<i)) (by kernel_rfl) (by simp) ?_ ?_ ?_ _ _ (by rfl) (by rfl) (by simp) xZ.drew
        · intro i o ho hic hlate
          have hi7:¬7<i:=by simpa using hlate
          rcases(by omega:i=0∨i=1∨i=2∨i=3∨i=4∨i=6∨i=7) with rfl | rfl | rfl | rfl | rfl | rfl | rfl <;> (obtain rfl:=Option.some.inj ho;rfl)
        · intro i o ho hic hlate a' w' hSl hbel hdep
          have hi7:¬7<i:=by simpa using hlate
          have e6:a'.tmps[6]?.getD undef=.pointer (some ⟨w.1.size+1,0,none⟩):=by simpa using hSl (6,.pointer (some ⟨w.1.size+1,0,none⟩)) (by simp)
          have e10:a'.tmps[10]?.getD undef=.pointer (some ⟨w1.1.size+1,0,none⟩):=by simpa using hSl (10,.pointer (some ⟨w1.1.size+1,0,none⟩)) (by simp)
          have e12:a'.tmps[12]?.getD undef=.pointer (some ⟨wr.1.size,0,none⟩):=by simpa using hSl (12,.pointer (some ⟨wr.1.size,0,none⟩)) (by simp)
          have x1:=ae hbel d1
          have x2:=ae hbel t1
          have x3:=ae hbel t2
          rcases(by omega:i=0∨i=1∨i=2∨i=3∨i=4∨i=6∨i=7) with rfl | rfl | rfl | rfl | rfl | rfl | rfl
          all_goals simp only[List.getElem?_toArray,List.getElem?_cons_zero,List.getElem?_cons_succ,Option.some.injEq] at ho
          all_goals subst ho
          · exact⟨.pointer (some ⟨w.1.size+1,0,none⟩),w',by simp[execOp,e6,go_sem],hbel,fun u hu=>by injection hu⟩
          · have e30:a'.tmps[30]?.getD undef=.pointer (some ⟨w.1.size+1,0,none⟩):=by simpa using hdep ⟨0,.data⟩ (by simp) rfl _ rfl
            exact⟨.slice q9 ys.length c9,w',by simp[execOp,e30,x1,go_sem],hbel,fun u hu=>by injection hu⟩
          · exact⟨.pointer (some ⟨w1.1.size+1,0,none⟩),w',by simp[execOp,e10,go_sem],hbel,fun u hu=>by injection hu⟩
          · exact⟨.pointer (some ⟨wr.1.size,1,none⟩),w',by simp[execOp,e12,go_sem],hbel,fun u hu=>by injection hu⟩
          · have e33:a'.tmps[33]?.getD undef=.pointer (some ⟨wr.1.size,1,none⟩):=by simpa using hdep ⟨3,.data⟩ (by simp) rfl _ rfl
            exact⟨.agg #[.int .i64 k,.slice tp tn tc],w',by simp[execOp,e33,x2,x3,go_sem],hbel,fun u hu=>by injection hu⟩
          · have e31:a'.tmps[31]?.getD undef=.slice q9 ys.length c9:=by simpa using hdep ⟨1,.data⟩ (by simp) rfl _ rfl
            exact⟨.int .i64 ys.length,w',by simp[e31,go_sem],hbel,fun u hu=>by cases hu⟩
          · exact⟨.slice (some ⟨w'.1.size,0,none⟩) 1 1,w'.alloc (.cells gw 47),by simp[execOp,gw,go_sem],hbel.alloc hbel.size _,fun u hu=>by cases hu⟩
        · intro o ho a' w' hSl hds hbel hdep K
          have e32:a'.eval (.tmp 32)=.pointer (some ⟨w1.1.size+1,0,none⟩):=by
            simp only[List.getElem?_toArray,List.getElem?_cons_zero,List.getElem?_cons_succ,Option.some.injEq] at ho
            subst ho
            simpa[Act.eval] using hdep ⟨2,.data⟩ (by simp) rfl _ rfl
          have e34:a'.eval (.tmp 34)=.agg #[.int .i64 k,.slice tp tn tc]:=by
            simp only[List.getElem?_toArray,List.getElem?_cons_zero,List.getElem?_cons_succ,Option.some.injEq] at ho
            subst ho
            simpa[Act.eval] using hdep ⟨4,.data⟩ (by simp) rfl _ rfl
          simp only[List.getElem?_toArray,List.getElem?_cons_zero,List.getElem?_cons_succ,Option.some.injEq] at ho
          subst ho
          have hbw':=HBa.out.trans (hbel.mono HBa.out.size)
          unfold Oper.wp
          have he : (execOp a'.eval { dst := some 35, op := Op.call { callee := .value (.func 121), args := #[.tmp 32, .tmp 34], argTypes := #[208, 88] }, type := 47, pos := "row.go:75", after := #[{ on := 2, ground := .data }, { on := 4, ground := .data }], guard := none }).run Tryz.prog w'=.ok (.enter 121 #[.pointer (some ⟨w1.1.size+1, 0, none⟩), .agg #[.int .i64 k, .slice tp tn tc]]) w' := by
            have hev:a'.eval (.func 121)=.func (.func 121) #[] #[]:=rfl
            have hen:=enters Tryz.func121 (by kernel_rfl) rfl
            simp[execOp,resolve,invoke,e32,e34,hev,Deferred.ofValue,hen]
          rw[he,Oper.upon_enter]
          refine(HC.out w' hbw').mono ?_
          intro e w5 hh
          obtain⟨h5,h6⟩:=hh.bad
          subst h5
          exact HDoor.out er2 w5 _ _ _ HE.out (HDd.out _ _ hbw' h6) _ _ (hSl (6,_) (by simp)) (hSl (7,_) (by simp)) (hSl (8,_) (by simp)) hds
      |ok xj=>
        obtain⟨x,j⟩:=xj
        have hlow:=HL.out.low
        have hhigh:=HL.out.high
        have hix:(ys.length:Int)<(ys.length:Int)+1:=by omega
        have HOne:Hid (∀a∈gw.toList,a.oneCell'=true):=by
          show ∀a∈gw.toList,a.oneCell'=true
          simp[gw,Value.oneCell']
        have HCall:Hid (∀W' w5 (u:AV),Below wr.1.size wr W'->Aside (fun i=>i=w1.1.size+1) W' w5->aR w5 (fun k=>W'.1.size<=k∧k<w5.1.size) u x->aC l w5 w.1.size (w1.1.size+1) ((m.drop n).drop j)->w5.1[w.1.size+1]?=some (.cells #[.slice q9 ys.length c9] 35 (0,0))∧∀w6,Below w5.1.size w5 w6->w6.ownsRow (w1.1.size+1+1) 47 5 (.slice q9 ys.length c9) ys.length (flat us ys.length)):=fun W' w5 u hb ha _ _=>⟨(HL.out.row HBt.out hb ha xZ).2,fun w6 hb6=>(HL.out.row HBt.out hb ha hb6).1⟩
        go_wp2_with fail
        rw[<-HEw.out]
        clear HEw a0 a1 a2 a3 a4 a5 a6 a7 a8
        refine od ?_
        go_region_law (first
          | (refine cV (.tmp 32) (.tmp 34) 208 88 (by rfl) (by rfl) (by rfl) (by rfl) Tryz.func121 (by kernel_rfl) (by rfl) (HC.out _ (by first | exact HBa.out.drew | exact(HBa.out.alloc HBa.out.size _).drew | exact HBa.out.drew.alloc HBa.out.size _)) ?_
             intro e w5 hh
             obtain⟨v,he,hv,hrd,ha⟩:=hh.good
             obtain⟨u,hv,hown⟩:=hv.open
             clear hh
             obtain⟨kx,ix,bx5,tx,px,nx,cx,hu⟩:=hown.shape
             subst hu
             subst hv
             have HP:Hid (∃W',Below wr.1.size wr W'∧Aside (fun i=>i=w1.1.size+1) W' w5∧aR w5 (fun k=>W'.1.size<=k∧k<w5.1.size) (cells5 kx ix bx5 tx px nx cx) x∧aC l w5 w.1.size (w1.1.size+1) ((m.drop n).drop j)):=⟨_,by first | exact HBa.out.drew | exact(HBa.out.alloc HBa.out.size _).drew | exact HBa.out.drew.alloc HBa.out.size _,ha,hown,hrd⟩
             have HZ:Hid (∀k C,_->k≠w1.1.size+1->w5.1[k]?=some C):=fun k C hk hne=>(ha.block k (ao hk) hne).trans hk
             unfold cells5 at he
             refine⟨_,he,?_⟩
             clear he hrd ha hown
             obtain⟨W9,hb9,ha9,hown9,hrd9⟩:=HP.out
             have hk9:=HCall.out _ _ _ hb9 ha9 hown9 hrd9
             have y5:w5.cell? ⟨w.1.size+1,0,none⟩=some (.slice q9 ys.length c9):=aa hk9.1 0
             have y5a:∀o,(w5.alloc o).cell? ⟨w.1.size+1,0,none⟩=some (.slice q9 ys.length c9):=fun o=>ae xY y5
             have HRow:=xQ hk9.2
             have HS5:Hid (wr.1.size<=w5.1.size):=Nat.le_trans hb9.size ha9.size
             clear hb9 ha9 hown9 hrd9 hk9)
          | (refine jm (B:=w1.1.size+1+1) (us:=us) (v:=.slice q9 ys.length c9) (n:=ys.length) (u:=gw) (ad:=wa.1.size) (H:=w5.1.size) (HRow.out _ xZ) rfl HOne.out (HZ.out wa.1.size _ (ap wa _) (by have:=HSa.out;omega)) (by omega) (by have:=HS5.out;omega) rfl (.tmp 31) (.tmp 37) (by rfl) (by rfl) (by rfl) (by rfl) ?_
             intro g cap w6 hr hg hn
             obtain⟨W9,hb9,ha9,hown9,hrd9⟩:=HP.out
             obtain⟨p1,p2,p3,p4,p5⟩:=HL.out.next HBt.out hlt HRn.out HMx.out.symm hb9 ha9 hown9 hrd9 xZ hr hg hn
             obtain⟨cv0,c0⟩:=p1 0 (by omega)
             obtain⟨cv1,c1⟩:=p1 1 (by omega)
             obtain⟨cv2,c2⟩:=p1 2 (by omega)
             obtain⟨cv3,c3⟩:=p1 3 (by omega)
             obtain⟨cv4,c4⟩:=p1 4 (by omega)
             rw[Nat.add_zero] at c0
             have f0:=p2 (ys.length*5)
             have f1:=p2 (ys.length*5+1)
             have f2:=p2 (ys.length*5+2)
             have f3:=p2 (ys.length*5+3)
             have f4:=p2 (ys.length*5+4)
             have e1:w6.cell? ⟨w.1.size+1,0,none⟩=some (.slice q9 ys.length c9):=aa p4 0
             have e1f:=ac p4 0
             have hne1:¬g=w.1.size+1:=by omega
             have hne2:¬w.1.size+1=g:=by omega
             have q5:=p5
             rw[<-iz _ _ _ _ _ _ _ _ _ _ (by omega)] at q5
             unfold eu at p5 q5
             have HN:=xQ p5
             have HN2:=xQ q5
             clear p1 p2 p4 p5 q5 hr hg hn hb9 ha9 hown9 hrd9)
          | (refine jm (B:=w1.1.size+1+1) (us:=us) (v:=.slice q9 ys.length c9) (n:=ys.length) (u:=gw) (ad:=w5.1.size) (H:=w5.1.size+1) (HRow.out _ xY) rfl HOne.out (ap w5 _) (by omega) (by have:=HS5.out;simp;omega) (by simp) (.tmp 31) (.tmp 37) (by rfl) (by rfl) (by rfl) (by rfl) ?_
             intro g cap w6 hr hg hn
             obtain⟨W9,hb9,ha9,hown9,hrd9⟩:=HP.out
             obtain⟨p1,p2,p3,p4,p5⟩:=HL.out.next HBt.out hlt HRn.out HMx.out.symm hb9 ha9 hown9 hrd9 xY hr hg (by simpa using hn)
             obtain⟨cv0,c0⟩:=p1 0 (by omega)
             obtain⟨cv1,c1⟩:=p1 1 (by omega)
             obtain⟨cv2,c2⟩:=p1 2 (by omega)
             obtain⟨cv3,c3⟩:=p1 3 (by omega)
             obtain⟨cv4,c4⟩:=p1 4 (by omega)
             rw[Nat.add_zero] at c0
             have f0:=p2 (ys.length*5)
             have f1:=p2 (ys.length*5+1)
             have f2:=p2 (ys.length*5+2)
             have f3:=p2 (ys.length*5+3)
             have f4:=p2 (ys.length*5+4)
             have e1:w6.cell? ⟨w.1.size+1,0,none⟩=some (.slice q9 ys.length c9):=aa p4 0
             have e1f:=ac p4 0
             have hne1:¬g=w.1.size+1:=by omega
             have hne2:¬w.1.size+1=g:=by omega
             have q5:=p5
             rw[<-iz _ _ _ _ _ _ _ _ _ _ (by omega)] at q5
             unfold eu at p5 q5
             have HN:=xQ p5
             have HN2:=xQ q5
             clear p1 p2 p4 p5 q5 hr hg hn hb9 ha9 hown9 hrd9)
          |fail)
        all_goals
          rw[gH]
          clear c0 c1 c2 c3 c4 f0 f1 f2 f3 f4 e1 e1f y5 y5a HRow HZ HS5 HP t1 t2 t1a t2a d1 d1a hix
          go_wp2
          go_roundw
          case rel=>
            refine⟨ys++[x],some ⟨g,0,none⟩,cap,by simp,by simp;omega,?_⟩
            rw[List.length_append,List.length_singleton]
            first
              |with_reducible exact HN
              |with_reducible exact HN2
          case measure=>simp[intOf];omega
    · have hjn:¬(ys.length:Int)<(s.length:Int):=by omega
      have hys:ys.length=s.length:=by omega
      obtain⟨n,hrd,hrn⟩:=HL.out.left
      have hrr:rr=.ok (ys,n):=by
        rw[hrn,List.drop_eq_nil_of_le (by omega)]
        simp[Rw.rd,glue]
      have hrd0:Rw.rd s m=.ok (ys,n):=by rw[<-HRr.out];exact hrr
      obtain⟨-,hnb,⟨rest,hmb⟩,-,-⟩:=Rw.rd_ok s m ys n HTy1.out hrd0
      have hnm:n<=m.length:=by rw[hmb,List.length_append];omega
      obtain⟨T,pb,cb,pos,hAt9,hpos⟩:=hrd.out
      have hml:m.length=l.length-a.toNat:=by rw[HM.out,List.length_drop]
      have hp:pos=a.toNat+n:=by
        have h1:=congrArg List.length hpos
        rw[List.length_drop,List.length_drop] at h1
        have h2:=hAt9.pos
        have h3:=HEa.out
        omega
      have r2:wr.cell? ⟨w1.1.size+1,2,none⟩=some (.int .i64 ((pos:Nat):Int)):=aa hAt9.b0 2
      have hwr:IntKind.i64.wrap ((pos:Int)-a)=(n:Int):=by rw[IntKind.wrap_i64];have:=HEa.out;omega
      have HR3:Hid (r=if 1024<n then .error 2 else .ok (ys,a.toNat+n)):=by show _=_;rw[HR2.out,hrr]
      have HPos:=xQ hp
      have hpz:-9223372036854775808<=(pos:Int)-a:=by have:=HEa.out;omega
      have hpz2:(pos:Int)-a<=9223372036854775807:=by have:=HEa.out;omega
      have hpn:(pos:Int)-a=(n:Int):=by have:=HEa.out;omega
      have HFn:Hid (cN w wr wr (.slice q9 ys.length c9) 0 0):=⟨HL.out.d,Aside.refl _ _⟩
      have hlow:=HL.out.low
      obtain⟨us,Fs,hbt⟩:=HL.out.built
      have HBt:=xQ hbt
      have HDd:=xQ HL.out.d
      have m1:wr.cell? ⟨w.1.size+1,0,none⟩=some (.slice q9 ys.length c9):=aa HDd.out.b1 0
      have m2:wr.cell? ⟨w.1.size+2,0,none⟩=some (.int .i64 0):=aa HDd.out.b2 0
      have m3:wr.cell? ⟨w.1.size+3,0,none⟩=some (.int .i64 0):=aa HDd.out.b3 0
      have mf1:=ac HDd.out.b1 0
      have mf2:=ac HDd.out.b2 0
      have mf3:=ac HDd.out.b3 0
      clear hrd hrn hrr hrd0 hnb hmb hnm hAt9 hpos hml hp hbt HL HR2 hys
      by_cases hbig:1024<n
      · have HE:Hid (r=.error 2):=HR3.out.trans (if_pos hbig)
        have g1:decide ((n:Int)<=1024)=false:=decide_eq_false (by omega)
        have g2:decide ((pos:Int)-a<=1024)=false:=decide_eq_false (by omega)
        clear HR3 hbig
        go_wp2_with fail
        refine(cK _ 2 _).mono ?_
        rintro e w5 ⟨rfl,hw5⟩
        rw[hw5]
        clear hw5 w5
        go_wp2
        exact HDoor.out 2 wr _ _ _ HE.out HDd.out _ _ rfl rfl rfl rfl
      · have HE:Hid (r=.ok (ys,a.toNat+n)):=HR3.out.trans (if_neg hbig)
        have g1:decide ((n:Int)<=1024)=true:=decide_eq_true (by omega)
        have g2:decide ((pos:Int)-a<=1024)=true:=decide_eq_true (by omega)
        have HEnd:Hid (∀(W3:World) (tmps:AV),cN w wr W3 (.slice q9 ys.length c9) pos 0->tmps.getD 6 undef=.pointer (some ⟨w.1.size+1,0,none⟩)->tmps.getD 7 undef=.pointer (some ⟨w.1.size+2,0,none⟩)->tmps.getD 8 undef=.pointer (some ⟨w.1.size+3,0,none⟩)->∃v,(results Tryz.f94 tmps).run Tryz.prog W3=.ok v W3∧tU w r (.returned v) W3):=by
          intro W3 tmps hF h2 h3 h4
          refine⟨_,dQ rfl tmps _ (w.1.size+1) (w.1.size+2) (w.1.size+3) _ #[.slice q9 ys.length c9] _ _ pos 0 h2 hF.d.b1 Tryz.underlying35 rfl (by kernel_rfl) h3 (aa hF.d.b2 0) Tryz.underlying3 h4 (aa hF.d.b3 0) Tryz.underlying36,?_⟩
          rw[HE.out]
          have hb3:=HBt.out.aside hF.aside (fun g hg he=>by have:=(HBt.out.lt g hg).1;omega) (fun i hi k hk he=>by have:=(HBt.out.range i hi k hk).1;omega)
          obtain⟨p2,c2,he,hown⟩:=hb3.done (by omega) 0 0 0 ⟨#[]⟩
          injection he with e1 e2 e3
          subst e1 e3
          exact⟨q9,c9,by rw[HPos.out],hown.mono (fun i hi=>⟨by omega,hi.2⟩),hF.d.below⟩
        clear HR3 hbig
        go_wp2_with fail
        refine(cW _ 2 _).mono ?_
        rintro e w5 ⟨rfl,hw5⟩
        rw[hw5]
        clear hw5 w5
        go_wp2_with fail
        refine od ?_
        go_region_law (fail)
        all_goals
          rw[gH]
          go_wp2
          refine leaves_cons (f:=119) (args:=#[.pointer (some ⟨w.1.size+1,0,none⟩),.pointer (some ⟨w.1.size+2,0,none⟩),.pointer (some ⟨w.1.size+3,0,none⟩)]) (by simp) (by simp[go_sem]) ?_
          refine(md ⟨w.1.size+1,0,none⟩ ⟨w.1.size+2,0,none⟩ ⟨w.1.size+3,0,none⟩ _).mono ?_
          rintro e u' w'' ⟨rfl,rfl,rfl⟩
          refine HEnd.out _ _ ?_ rfl rfl rfl
          exact(((HFn.out.set1 _).set2 _).set3 _).drew
end
end Go.Proofs.YtceomhodhmcknaaGreatDoor

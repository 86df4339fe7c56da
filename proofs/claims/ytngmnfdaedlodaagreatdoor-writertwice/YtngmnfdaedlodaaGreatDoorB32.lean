import Derived.Test.YtngmnfdaedlodaaGreatDoorB31
import Derived.Test.YtngmnfdaedlodaaGreatDoorB19
set_option maxRecDepth 100000
set_option maxHeartbeats 20000000
namespace Go.Proofs.YtngmnfdaedlodaaGreatDoor
open Go.Proofs.Tryz
open Option renaming some->I,none->U
open Go.Value renaming slice->Y,pointer->O,int->mK
open Go.IntKind renaming i64->N
open Bool renaming true->ux,false->wx
open Go.Obj renaming cells->qj
open Go renaming World->wv,Value->AQ
open Go.RowKit renaming Below->AX
open Go.Proofs.Tryz renaming prog->AW
variable{W W' w wr:wv}{v:AQ}{y:Int}
section
open Go.RowKit
attribute [local go_sem] ai
theorem cA(w:wv)(g D j E:Nat)(u v:AQ)(h:g≠j):(w.setCell ⟨j,E,U⟩ u).setCell ⟨g,D,U⟩ v=(w.setCell ⟨g,D,U⟩ v).setCell ⟨j,E,U⟩ u:=by
 unfold World.setCell;congr 1;apply Array.ext
 ·simp
 ·intro i J K;simp only[Array.getElem_modify];by_cases A:g=i
  ·by_cases o:j=i
   ·omega
   ·simp[A,o]
  ·by_cases o:j=i
   ·simp[A,o]
   ·simp[A,o]
theorem js(w:wv)(g o j:Nat)(k i:Int)(b:Nat)(t:ByteArray)(s u:AQ)(h:g≠j):eY (w.setCell ⟨j,0,U⟩ u) g o k i b t s=(eY w g o k i b t s).setCell ⟨j,0,U⟩ u:=by
 unfold eY;rw[cA _ _ _ _ _ _ _ h,cA _ _ _ _ _ _ _ h,cA _ _ _ _ _ _ _ h,cA _ _ _ _ _ _ _ h,cA _ _ _ _ _ _ _ h]
structure lZ(L:L8)(w wr:wv)(R:Nat)(s:List Col)(m:L8)(r:Except Nat (List V×Nat))(ys:List V)(v:AQ):Prop where
 b1:wr.1[w.1.size+1]?=I (qj #[v] 64 (0,0))
 b2:wr.1[w.1.size+2]?=I (qj #[mK N 0] 3 (0,0))
 b3:wr.1[w.1.size+3]?=I (qj #[mK N 0] 25 (0,0))
 below:AX w.1.size w wr
 low:w.1.size+4<=R
 high:R<wr.1.size
 built:∃us Fs,ba wr (R+1) v ys.length us Fs ys
 left:∃n,az L wr w.1.size R (m.drop n)∧r=glue ys n (Rw.rd (s.drop ys.length) (m.drop n))
 len:ys.length<=s.length
def iv:AV:=#[mK N 0,mK N 0,.float .f64 0,.string ⟨#[]⟩,Y U 0 0]
section
variable {L:L8} {w wr wa w2 w3 w4:wv} {R:Nat} {s:List Col} {m:L8} {r:Except Nat (List V×Nat)} {ys:List V} {v:AQ} {us:Nat->AV} {Fs:Nat->Nat->Prop} {n j:Nat} {x:V} {k i:Int} {b:Nat} {t:ByteArray} {q:OA} {nn c:Nat}
theorem lZ.row(h:lZ L w wr R s m r ys v)(K:ba wr (R+1) v ys.length us Fs ys)(o:AX wr.1.size wr wa)(D:Aside (fun i=>i=R) wa w2)(J:AX w2.1.size w2 w3):w3.ownsRow (R+1) 102 5 v ys.length (flat us ys.length)∧w2.1[w.1.size+1]?=I (qj #[v] 64 (0,0)):=by
 have ah:=h.low;have ab:=h.high;have aj:=o.size;have A:ba wa (R+1) v ys.length us Fs ys:=K.on o;have E:ba w2 (R+1) v ys.length us Fs ys:=A.aside D (fun g S M=>by have:=(A.lt g S).1;omega) (fun i X k Z M=>by have:=(A.range i X k Z).1;omega);refine⟨(E.on J).row,?_⟩;rw[D.block _ (by omega) (by omega),o.block _ (by omega)];exact h.b1
theorem lZ.next(h:lZ L w wr R s m r ys v)(a5:ba wr (R+1) v ys.length us Fs ys)(bn:ys.length<s.length)(bk:r=glue ys n (Rw.rd (s.drop ys.length) (m.drop n)))(bN:Sch.rdV s[ys.length].ty (m.drop n)=.ok (x,j))(S:AX wr.1.size wr wa)(M:Aside (fun i=>i=R) wa w2)(bp:aX w2 (fun k=>wa.1.size<=k∧k<w2.1.size) (cells5 k i b t q nn c) x)(bq:az L w2 w.1.size R ((m.drop n).drop j))(J:AX w2.1.size w2 w3){g cap:Nat}(a1:w4.ownsRow (R+1) 102 5 (Y (I ⟨g,0,U⟩) (ys.length+1) cap) (ys.length+1) (flat us ys.length++iv.toList))(E:w3.grownBy w4 v.ownBlock)(Z:v.ownBlock=I g∨g=w3.1.size):
  (∀j,j<5->∃z,w4.cell? ⟨g,ys.length*5+j,U⟩=I z)∧(∀j,w4.frozen? ⟨g,j,U⟩=wx)∧R<g∧w4.1[w.1.size+1]?=I (qj #[v] 64 (0,0)) ∧
  lZ L w ((eY w4 g (ys.length*5) k i b t (Y q nn c)).setCell ⟨w.1.size+1,0,U⟩ (Y (I ⟨g,0,U⟩) (ys.length+1) cap)) R s m r (ys++[x]) (Y (I ⟨g,0,U⟩) (ys.length+1) cap):=by
 have bl:=h.low;have b7:=h.high;have cc:=S.size;have b8:=M.size;have b9:=J.size;have cb:=E.size;have ab:ba wa (R+1) v ys.length us Fs ys:=a5.on S;obtain⟨b4,bO,a7,bT⟩:=M.split (by omega);have bb:ba b4 (R+1) v ys.length us Fs ys:=ab.aside bO (fun g E X=>by have:=(ab.lt g E).1;omega) (fun i a0 k o X=>by have:=(ab.range i a0 k o).1;omega);have bc:(flat us ys.length).length=ys.length*5:=by
  have:=a5.row.1;exact this
 obtain⟨bX,p2,p3⟩:=oK (z0:=mK N 0) (z1:=mK N 0) (z2:=.float .f64 0) (z3:=.string ⟨#[]⟩) (z4:=Y U 0 0) bc a1 k i b t q nn c;have bi:R<g:=(a1.lt g rfl).1;have b6:g<w4.1.size:=(a1.lt g rfl).2;obtain⟨w5,aj⟩:∃w5,w5=eY w4 g (ys.length*5) k i b t (Y q nn c):=⟨_,rfl⟩;have K:Aside (fun j=>j=g) w4 w5:=by rw[aj];exact mY _ _ _ _ _ _ _ _
 have cd:w5.1.size=w4.1.size:=by rw[aj];exact oJ _ _ _ _ _ _ _ _
 have A:w3.grownBy w5 v.ownBlock:=by
  refine⟨K.os.trans E.os,K.tape.trans E.tape,K.output.trans E.output,by omega,fun k o ah=>?_⟩;rw[K.block k (by omega) (fun X=>?_)]
  ·exact E.block k o ah
  ·rcases Z with Z | Z
   ·exact ah (by rw[Z,X])
   ·omega
 rw[<-aj] at p3;have a2:=bb.step bT bp (fun k o=>⟨by rw[a7];exact o.1,o.2⟩) J (by rw[a7];omega) p3 A Z;have a6:=fun k (o:v.ownBlock=I k)=>(ab.lt k o)
 -- what lies below stays
 have keep:∀k,k<=R->k≠R->k<wr.1.size->w5.1[k]?=wr.1[k]?:=fun k o ah bj=>by
  rw[K.block k (by omega) (by omega),E.block k (by omega) (fun aw=>by have:=(a6 k aw.symm).1;omega),J.block k (by omega),M.block k (by omega) ah,S.block k bj]
 have a3:w5.1[w.1.size+1]?=I (qj #[v] 64 (0,0)):=(keep _ (by omega) (by omega) (by omega)).trans h.b1;have b0:w4.1[w.1.size+1]?=I (qj #[v] 64 (0,0)):=by
  rw[<-K.block _ (by omega) (by omega)];exact a3
 have a8:Aside (fun k=>R<k) w2 w5:=by
  refine(af J (fun k=>R<k)).trans (G:=fun k=>R<k) ⟨A.os,A.tape,A.output,A.size,fun k o b5=>A.block k o (fun aw=>?_)⟩ (fun _ _ h=>h);have:=(a6 k aw.symm).1;omega
 have bs:az L w5 w.1.size R ((m.drop n).drop j):=bq.aside a8 (fun k o=>o);obtain⟨a4,ak⟩:∃a4,a4=w5.setCell ⟨w.1.size+1,0,U⟩ (Y (I ⟨g,0,U⟩) (ys.length+1) cap):=⟨_,rfl⟩;have D:Aside (fun j=>j=w.1.size+1) w5 a4:=by rw[ak];exact al _ _ _ _
 have ci:=D.size;rw[<-aj,<-ak];refine⟨bX,p2,bi,b0,?_⟩;have bv:=a2.aside D (fun a9 be X=>by have:=(a2.lt a9 be).1;omega) (fun i a0 k o X=>by have:=(a2.range i a0 k o).1;omega);refine⟨?_,?_,?_,?_,bl,by omega,⟨_,_,by rw[AU,AC];exact bv⟩,⟨n+j,?_,?_⟩,by rw[AU,AC];omega⟩
 ·rw[ak,an a3 0];rfl
 ·rw[D.block _ (by omega) (by omega),keep _ (by omega) (by omega) (by omega)];exact h.b2
 ·rw[D.block _ (by omega) (by omega),keep _ (by omega) (by omega) (by omega)];exact h.b3
 ·refine⟨?_,?_,?_,by have:=h.below.size;omega,fun k o=>?_⟩
  ·rw[D.os,A.os,J.os,M.os,S.os];exact h.below.os
  ·rw[D.tape,A.tape,J.tape,M.tape,S.tape];exact h.below.tape
  ·rw[D.output,A.output,J.output,M.output,S.output];exact h.below.output
  ·rw[D.block k (by omega) (by omega),keep k (by omega) (by omega) (by omega)];exact h.below.block k o
 ·rw[<-AI,ak];exact bs.set a3 (by simp) (by omega) (by omega) 0 _
 ·rw[bk,AU,AC,List.drop_eq_getElem_cons bn,pU,bN,lf,ig,AI]
end
end
section
open Go.RowKit
def unl(listed:Array Bool):Nat->Nat
 |0=>0
 |n+1=>unl listed n+if listed.getD n ux then 0 else 1
theorem vw(listed:Array Bool)(i:Nat)(A:listed.getD i ux=wx):∀n,(i<n->unl (listed.setIfInBounds i ux) n+1<=unl listed n)∧unl (listed.setIfInBounds i ux) n<=unl listed n:=by
 have E:i<listed.size:=by
  by_cases h:i<listed.size
  ·exact h
  ·simp[Array.getD,h] at A
 intro n;induction n with
 |zero=>exact⟨fun h=>absurd h (by omega),gQx⟩
 |succ n ih=>
  have e:(listed.setIfInBounds i ux).getD n ux=if n=i then ux else listed.getD n true:=by
   by_cases o:n=i
   ·subst o;simp[Array.getD,E]
   ·rw[AJ o];by_cases D:n<listed.size
    ·simp[Array.getD,D,Ne.symm o]
    ·simp[Array.getD,D]
  simp only[unl,e];by_cases o:n=i
  ·subst o;rw[AK rfl,A];simp only[Bool.false_eq_true,if_false,if_true];exact⟨fun _=>by have:=ih.2;omega,by have:=ih.2;omega⟩
  ·rw[AJ o];exact⟨fun h=>by have:=ih.1 (by omega);omega,by have:=ih.2;omega⟩
theorem vy(listed:Array Bool)(c:Nat)(o:listed.getD c ux=wx):∀n,c<n->0<unl listed n:=by
 intro n;induction n with
 |zero=>intro h;omega
 |succ n ih=>
  intro h;rw[unl];by_cases A:c=n
  ·subst A;rw[o];simp
  ·have:=ih (by omega);omega
section
variable {P:Program} {ops:Array Oper} {Q:Exit->Act->wv->Prop}
theorem sZ(M:∀(i:Nat) D,ops[i]?=I D->∀e∈D.after,Region.binds .any e=ux->e.on<i)(listed:Array Bool)(aj:listed.size=ops.size):∀c,c<ops.size->listed.getD c ux=wx->Region.ready .any ops listed≠[]:=by
 intro c;induction c using Nat.strongRecOn with
 |_ c ih=>
  intro o Z;by_cases h:∃j,j<c∧listed.getD j ux=wx
  ·obtain⟨j,S,X⟩:=h;exact ih j S (by omega) X
  ·intro J;have A:c∈Region.ready .any ops listed:=by
    rw[mem_ready];refine⟨Z,ops[c],Array.getElem?_eq_getElem o,fun e K E=>?_⟩;have ab:=M c _ (Array.getElem?_eq_getElem o) e K E;cases hb:listed.getD e.on ux with
    |false=>exact absurd ⟨e.on,ab,hb⟩ h
    |true=>
     have ah:e.on<listed.size:=(by omega);simp[Array.getD,ah] at hb ⊢;exact hb
   rw[J] at A;cases A
def iS(ops:Array Oper)(c:Nat)(late:Nat->Bool):Bool:=(List.range ops.size).all fun i=>match ops[i]? with
 |some o=>o.guard.isNone&&o.after.all (fun e=>!Region.binds .any e||decide (e.on<i))&&(!late i||o.after.any (fun e=>Region.binds .any e&&e.on==c))
 |none=>ux
theorem eh{c:Nat}{K:Nat->Bool}(h:iS ops c K=ux)(i:Nat)(A:Oper)(J:ops[i]?=I A):A.guard=U∧(∀e∈A.after,Region.binds .any e=ux->e.on<i)∧(K i=ux->∃e∈A.after,Region.binds .any e=ux∧e.on=c):=by
 unfold iS at h;have o:=List.all_eq_true.1 h i (List.mem_range.2 (Array.getElem?_eq_some_iff.1 J).1);rw[J] at o;simp only[Bool.and_eq_true,Bool.or_eq_true,Bool.not_eq_true',Array.all_eq_true_iff_forall_mem,decide_eq_true_eq,Array.any_eq_true',beq_iff_eq,Option.isNone_iff_eq_none] at o;refine⟨o.1.1,fun e D hb=>(o.1.2 e D).resolve_left (by rw[hb];exact Bool.noConfusion),fun M=>?_⟩;rcases o.2 with E | ⟨e,D,hb,S⟩
 ·rw[M] at E;cases E
 ·exact⟨e,D,hb,S⟩
theorem nR(c:Nat)(ah:c<ops.size)(G:Act->wv->Prop)(E:Nat->Act->Prop)(J:Nat->Bool)(hchk:iS ops c J=ux)(bp:∀(i:Nat) o,ops[i]?=I o->i≠c->J i=wx->∀a w,G a w->(∀e∈o.after,Region.binds .any e=ux->E e.on a)->∃v w',(execOp a.eval o).run P w=.ok (.value v) w'∧G (a.put o.dst v) w'∧E i (a.put o.dst v)∧∀j,j≠i->E j a->E j (a.put o.dst v))(a5:∀o,ops[c]?=I o->∀a w,G a w->(∀e∈o.after,Region.binds .any e=ux->E e.on a)->∀K,o.wp P a w K Q):
  ∀fuel listed a w,listed.size=ops.size->listed.getD c ux=wx->unl listed ops.size<=fuel->(∀j,listed.getD j wx=ux->E j a)->G a w->wpAny P .any ops Q fuel listed a w:=by
 have a8:=fun i o A=>(eh hchk i o A).2.1;have bj:=fun i o A=>(eh hchk i o A).2.2;have bb:=fun i o A=>(eh hchk i o A).1;intro fuel;induction fuel with
 |zero=>
  intro listed a w _ D bq _ _;have:=vy listed c D ops.size ah;omega
 |succ fuel ih=>
  intro listed a w a1 D bq hd aw;refine⟨fun a3=>absurd a3 (sZ a8 listed a1 c ah D),fun i bc=>?_⟩;obtain⟨be,o,A,ak⟩:=mem_ready.1 bc;have bi:i<ops.size:=(Array.getElem?_eq_some_iff.1 A).1;have aj:∀e∈o.after,Region.binds .any e=ux->E e.on a:=fun e S hb=>hd _ (ak e S hb);have bs:Region.wanted o (yielded ops a.tmps)=true:=by simp[Region.wanted,bb i o A]
  unfold wpOp;rw[A];dsimp only;rw[AK bs];refine .inl ?_;by_cases X:i=c
  ·subst X;exact a5 o A a w aw aj _
  ·have bk:J i=false:=by
    cases hb:J i with
    |false=>rfl
    |true=>
     obtain⟨e,S,a4,bl⟩:=bj i o A hb;have:=ak e S a4;rw[bl] at this;have M:c<listed.size:=(by omega);simp[Array.getD,M] at this D;rw[this] at D;cases D
   obtain⟨v,w',bn,a9,a6,a7⟩:=bp i o A X bk a w aw aj;unfold Oper.wp;rw[bn];refine ih _ _ _ (by simpa using a1) ?_ (by have:=(vw listed i be ops.size).1 bi;omega) (fun j Z=>?_) a9
   ·have M:c<listed.size:=(by omega);simp[Array.getD,M,X] at D ⊢;exact D
   ·by_cases ab:j=i
    ·subst ab;exact a6
    ·refine a7 j ab (hd j ?_);by_cases a0:j<listed.size
     ·simp[Array.getD,a0,Ne.symm ab] at Z ⊢;exact Z
     ·simp[Array.getD,a0] at Z
theorem kw(a:Act)(d j:Nat)(v:AQ)(h:j≠d):(a.put (I d) v).tmps.getD j undef=a.tmps.getD j undef:=by
 simp[Act.put,Array.getD_eq_getD_getElem?,Array.getElem?_setIfInBounds_ne (Ne.symm h)]
theorem te(a:Act)(d:Nat)(v:AQ)(h:d<a.tmps.size):(a.put (I d) v).tmps.getD d undef=v:=by
 simp[Act.put,Array.getD_eq_getD_getElem?,h]
theorem mg(c:Nat)(a1:c<ops.size)(A aw:Nat)(bq:A+ops.size<=aw)(S:List (Nat×AQ))(X:List Deferred)(W:wv->Prop)(E:Nat->Option AQ)(K:Nat->Bool)(bc:iS ops c K=ux)(a9:∀p∈S,p.1<A)(bi:∀(i:Nat) o,ops[i]?=I o->i≠c->K i=wx->o.dst=I (A+i))(bj:∀(i:Nat) o,ops[i]?=I o->i≠c->K i=wx->∀(a:Act) (w:wv),(∀p∈S,a.tmps.getD p.1 undef=p.2)->W w->(∀e∈o.after,Region.binds .any e=ux->∀u,E e.on=I u->a.tmps.getD (A+e.on) undef=u)->∃v w',(execOp a.eval o).run P w=.ok (.value v) w'∧W w'∧∀u,E i=I u->v=u)(bb:∀o,ops[c]?=I o->∀(a:Act) (w:wv),(∀p∈S,a.tmps.getD p.1 undef=p.2)->a.defers=X->W w->(∀e∈o.after,Region.binds .any e=ux->∀u,E e.on=I u->a.tmps.getD (A+e.on) undef=u)->∀M,o.wp P a w M Q)(a:Act)(w:wv)(a5:a.tmps.size=aw)(a6:a.defers=X)(a7:∀p∈S,a.tmps.getD p.1 undef=p.2)(a8:W w):wpAny P .any ops Q ops.size (Array.replicate ops.size wx) a w:=by
 refine nR c a1 (fun a w=>a.tmps.size=aw∧a.defers=X∧(∀p∈S,a.tmps.getD p.1 undef=p.2)∧W w) (fun i a=>∀u,E i=I u->a.tmps.getD (A+i) undef=u) K bc ?_ ?_ _ _ _ _ (by simp) (by simp[Array.getD,a1]) ?_ ?_ ⟨a5,a6,a7,a8⟩
 ·intro i o D a2 a3 a w ⟨a0,Z,J,ab⟩ ah;obtain⟨v,w',bk,bl,bn⟩:=bj i o D a2 a3 a w J ab ah;have hd:=bi i o D a2 a3;have bp:i<ops.size:=(Array.getElem?_eq_some_iff.1 D).1;rw[hd];refine⟨v,w',bk,⟨by simpa[Act.put] using a0,Z,fun p a4=>?_,bl⟩,fun u ak=>?_,fun j aj be u ak=>?_⟩
  ·rw[kw _ _ _ _ (by have:=a9 p a4;omega)];exact J p a4
  ·rw[te _ _ _ (by omega)];exact bn u ak
  ·rw[kw _ _ _ _ (by omega)];exact be u ak
 ·intro o D a w ⟨a0,Z,J,ab⟩ ah M;exact bb o D a w J Z ab ah M
 ·have:∀n,unl (Array.replicate ops.size wx) n<=n:=by
   intro n;induction n with
   |zero=>exact gQx
   |succ n ih=>
    rw[unl];split <;> omega
  exact this _
 ·intro j aj;exfalso;by_cases h:j<ops.size
  ·simp[Array.getD,h] at aj
  ·simp[Array.getD,h] at aj
def calm(Q:Exit->Act->wv->Prop):Exit->Act->wv->Prop
 |.panic _,_,_=>False
 |e,a,w=>Q e a w
theorem iI(a:Act)(w:wv):calm Q .normal a w=Q .normal a w:=rfl
theorem pP{c:Code}{a:Act}(h:c.wp P (calm Q) a w):c.wp P Q a w:=Code.wp_mono (fun e a w o=>by cases e <;> first | exact o | exact o.elim) h
end
end
section
open Go.RowKit
attribute [local go_sem] ai
theorem ik(p q s:Addr)(x:AQ)(y z:Int)(k:Int)(w:wv)(J:w.cell? p=I x)(ah:w.frozen? p=wx)(K:w.cell? q=I (mK N y))(aj:w.frozen? q=wx)(M:w.cell? s=I (mK N z))(ak:w.frozen? s=wx)(S:p≠q)(X:p≠s)(Z:q≠s):
  CallsD AW 184 #[O (I p),O (I q),O (I s)] (.panicking [{ v:=.iface 25 (mK N k),recovered:=wx }]) w fun e E w'=>
   e=.returned (.tuple #[])∧E=.panicking [{ v:=.iface 25 (mK N k),recovered:=ux }]∧w'=(((w.setCell p (Y U 0 0)).setCell q (mK N 0)).setCell s (mK N k)).drew:=by
 have ab:=jj k;refine callsD_of_wpS func184 rfl fun A o D=>?_;apply wpS_seq;apply wpS_region;simp[wpOpsS,go_sem,recoverD,D,ntmps184,Exit.thenS];refine wpS_of_wp ?_;go_wp2_with fail;go_region_law (fail)
 all_goals
  show bodyPostS AW Tryz.f184 A o _ Exit.normal _ _ _;simp[bodyPostS,results,Tryz.results184]
theorem nF(p q s:Addr)(w:wv):
  CallsD AW 184 #[O (I p),O (I q),O (I s)] .returning w fun e D w'=>e=.returned (.tuple #[])∧D=.returning∧w'=w:=by
 refine callsD_of_wpS func184 rfl fun o E A=>?_;apply wpS_seq;apply wpS_region;simp[wpOpsS,go_sem,recoverD,A,ntmps184,Exit.thenS];refine wpS_of_wp ?_;go_wp2_with fail;cases o
 simp_all [bodyPostS,results,Tryz.results184]
theorem ej{P:Program}{fn:Func}{p q s:Tmp}{E J K:TypeId}(h:fn.results=#[.cell p E,.cell q J,.cell s K])(tmps:AV)(w:wv)(g A D:Nat)(t:TypeId)(o:AV)(fr:Nat×Nat)(d:TypeDesc)(x y:Int)(ak:tmps.getD p undef=O (I ⟨g,0,U⟩))(Z:w.1[g]?=I (qj o t fr))(a4:P.underlying E=I d)(hd:(match d with | .struct _ | .array _ _=>ux | _=>wx)=ux)(aj:(P.info? E).map (·.size)=I o.size)(a0:tmps.getD q undef=O (I ⟨A,0,U⟩))(ab:w.cell? ⟨A,0,U⟩=I (mK N x))(a5:P.underlying J=I (.int N))(a2:tmps.getD s undef=O (I ⟨D,0,U⟩))(ah:w.cell? ⟨D,0,U⟩=I (mK N y))(a6:P.underlying K=I (.int N)):
  (results fn tmps).run P w=.ok (.tuple #[.agg o,mK N x,mK N y]) w:=by
 have aw:tmps[p]?.getD undef=O (I ⟨g,0,U⟩):=by simpa using ak
 have a1:tmps[q]?.getD undef=O (I ⟨A,0,U⟩):=by simpa using a0
 have a3:tmps[s]?.getD undef=O (I ⟨D,0,U⟩):=by simpa using a2
 have M:=run_loadVar_row w g t E o fr d Z a4 hd aj;have S:(loadVar J ⟨A,0,U⟩).run P w=.ok (mK N x) w:=by
  simp[go_sem,isAgg,run_underlying a5,ab]
 have X:(loadVar K ⟨D,0,U⟩).run P w=.ok (mK N y) w:=by
  simp[go_sem,isAgg,run_underlying a6,ah]
 simp[results,h,aw,a1,a3,asAddr,M,S,X]
structure dM(w W:wv)(v:AQ)(x y:Int):Prop where
 b1:W.1[w.1.size+1]?=I (qj #[v] 64 (0,0))
 b2:W.1[w.1.size+2]?=I (qj #[mK N x] 3 (0,0))
 b3:W.1[w.1.size+3]?=I (qj #[mK N y] 25 (0,0))
 below:AX w.1.size w W
theorem dM.on{x:Int}(h:dM w W v x y)(hb:AX W.1.size W W'):dM w W' v x y:=by
 have o:=ao h.b1;have A:=ao h.b2;have D:=ao h.b3;exact⟨by rw[hb.block _ o];exact h.b1,by rw[hb.block _ A];exact h.b2,by rw[hb.block _ D];exact h.b3,h.below.trans (hb.mono h.below.size)⟩
theorem dM.aside{x:Int}{F:Nat->Prop}(h:dM w W v x y)(D:Aside F W W')(A:∀k,F k->w.1.size+4<=k):dM w W' v x y:=by
 have E:=ao h.b1;have J:=ao h.b2;have K:=ao h.b3;exact⟨by rw[D.block _ E (fun o=>by have:=A _ o;omega)];exact h.b1,by rw[D.block _ J (fun o=>by have:=A _ o;omega)];exact h.b2,by rw[D.block _ K (fun o=>by have:=A _ o;omega)];exact h.b3,h.below.trans (D.below h.below.size (fun k M o=>by have:=A _ o;omega))⟩
theorem dM.set1{x:Int}(h:dM w W v x y)(v':AQ):dM w (W.setCell ⟨w.1.size+1,0,U⟩ v') v' x y:=by
 have J:=ao h.b1;have A:=ao h.b2;have D:=ao h.b3;have o:Aside (fun i=>i=w.1.size+1) W (W.setCell ⟨w.1.size+1,0,U⟩ v'):=al _ _ _ _;exact⟨by rw[an h.b1 0];rfl,by rw[o.block _ A (by omega)];exact h.b2,by rw[o.block _ D (by omega)];exact h.b3,h.below.trans (o.below h.below.size (fun k E=>by omega))⟩
theorem dM.set2{x:Int}(h:dM w W v x y)(A:Int):dM w (W.setCell ⟨w.1.size+2,0,U⟩ (mK N A)) v A y:=by
 have D:=ao h.b1;have K:=ao h.b2;have E:=ao h.b3;have o:Aside (fun i=>i=w.1.size+2) W (W.setCell ⟨w.1.size+2,0,U⟩ (mK N A)):=al _ _ _ _;exact⟨by rw[o.block _ D (by omega)];exact h.b1,by rw[an h.b2 0];rfl,by rw[o.block _ E (by omega)];exact h.b3,h.below.trans (o.below h.below.size (fun k J=>by omega))⟩
theorem dM.set3{x:Int}(h:dM w W v x y)(A:Int):dM w (W.setCell ⟨w.1.size+3,0,U⟩ (mK N A)) v x A:=by
 have D:=ao h.b1;have E:=ao h.b2;have K:=ao h.b3;have o:Aside (fun i=>i=w.1.size+3) W (W.setCell ⟨w.1.size+3,0,U⟩ (mK N A)):=al _ _ _ _;exact⟨by rw[o.block _ D (by omega)];exact h.b1,by rw[o.block _ E (by omega)];exact h.b2,by rw[an h.b3 0];rfl,h.below.trans (o.below h.below.size (fun k J=>by omega))⟩
theorem dM.drew{x:Int}(h:dM w W v x y):dM w W.drew v x y:=⟨h.b1,h.b2,h.b3,h.below.drew⟩
theorem lZ.d{L:L8}{R:Nat}{s:List Col}{m:L8}{r:Except Nat (List V×Nat)}{ys:List V}{v:AQ}(h:lZ L w wr R s m r ys v):dM w wr v 0 0:=⟨h.b1,h.b2,h.b3,h.below⟩
structure cR(w wr W:wv)(v:AQ)(x y:Int):Prop where
 d:dM w W v x y
 aside:Aside (fun i=>w.1.size<i∧i<w.1.size+4) wr W
theorem cR.set1{x:Int}(h:cR w wr W v x y)(v':AQ):cR w wr (W.setCell ⟨w.1.size+1,0,U⟩ v') v' x y:=⟨h.d.set1 v',h.aside.trans (al _ _ _ _) (fun i _ o=>by rw[o];omega)⟩
theorem cR.set2{x:Int}(h:cR w wr W v x y)(o:Int):cR w wr (W.setCell ⟨w.1.size+2,0,U⟩ (mK N o)) v o y:=⟨h.d.set2 o,h.aside.trans (al _ _ _ _) (fun i _ A=>by rw[A];omega)⟩
theorem cR.set3{x:Int}(h:cR w wr W v x y)(o:Int):cR w wr (W.setCell ⟨w.1.size+3,0,U⟩ (mK N o)) v x o:=⟨h.d.set3 o,h.aside.trans (al _ _ _ _) (fun i _ A=>by rw[A];omega)⟩
theorem cR.drew{x:Int}(h:cR w wr W v x y):cR w wr W.drew v x y:=⟨h.d.drew,h.aside.drew⟩
theorem uC(s:List Col)(p:OA)(ak:Nat)(l:L8)(q:OA)(d:Nat)(a:Int)(w:wv)(hG:dZ w p ak s)(hR:l.length<=140737488351232)(hS:l.length<=d)(gh:At w q l)(hH:-9223372036854775808<=a)(hI:a<=9223372036854775807):
    Calls AW 167 #[.agg #[Y p s.length ak],Y q l.length d,mK N a] w (wT w (Rw.read s l a)):=by
  have kc:∀(fn:Fn) (first cap:AV) (w:wv),(Instr.makeFunc fn first cap).run AW w=.ok (.func fn first cap) w:=fun _ _ _ _=>rfl;obtain⟨h2,j4,ev,gL⟩:=hG;obtain⟨r,a3⟩:∃r,r=Rw.read s l a:=⟨_,rfl⟩;have cb:=gQq (a3.trans (by rw[Rw.read]:Rw.read s l a=_));rw[<-a3];obtain⟨a7,a8⟩:∃a7,a7=(((w.alloc (qj #[Y p s.length ak] 35)).alloc (qj #[Y U 0 0] 64)).alloc (qj #[mK N 0] 3)).alloc (qj #[mK N 0] 25):=⟨_,rfl⟩;have df:AX w.1.size w a7:=by rw[a8];exact((gQy.alloc (by simp) _).alloc (by simp <;> omega) _).alloc (by simp <;> omega) _
  have e1:Hid (dM w a7 (Y U 0 0) 0 0):=by
    refine⟨?_,?_,?_,df⟩
    · rw[a8,ax _ _ (by simp <;> omega),ax _ _ (by simp)];have:=am (w.alloc (qj #[Y p s.length ak] 35)) (qj #[Y U 0 0] 64);simpa using this
    · rw[a8,ax _ _ (by simp)];have:=am ((w.alloc (qj #[Y p s.length ak] 35)).alloc (qj #[Y U 0 0] 64)) (qj #[mK N 0] 3);simpa using this
    · have:=am (((w.alloc (qj #[Y p s.length ak] 35)).alloc (qj #[Y U 0 0] 64)).alloc (qj #[mK N 0] 3)) (qj #[mK N 0] 25);rw[a8];simpa using this
  have fc:Hid (a7.cell? ⟨w.1.size,0,U⟩=I (Y p s.length ak)):=by
    show a7.cell? _=_;have b4:(w.alloc (qj #[Y p s.length ak] 35)).cell? ⟨w.1.size,0,U⟩=I (Y p s.length ak):=(by simp);rw[a8];exact ae gQy (ae gQy (ae gQy b4))
  have h1:w.1.size+4<=a7.1.size:=by rw[a8];simp
  have g8:=gQq df;have hl:=gQq ev;have e0:=gQq gh;have bn:=gQq (ja s p ak a7 h2 (ev.on df) gL);have ct:=gQq (fun h=>Sch.err_open (s:=s) h);have cx:=gQq (fun h=>Rw.types_ok (s:=s) h);obtain⟨E,gm⟩:∃E,E=Sch.err s:=⟨_,rfl⟩;rw[<-gm] at bn cb ct cx;have e9:=gQq a8;clear a8 a3 ev gL gh gm df
  go_enter_defers func167,ntmps167
  go_wp2_with fail;rw[<-e9.out];clear e9;refine bn.out.mono ?_;rintro e w1 ⟨rfl,dr⟩;have aj:=gQq (e1.out.on dr);have g6:=ae dr fc.out;have k1:w.1.size+4<=w1.1.size:=AG h1 dr.size;have ha:Hid (AX w.1.size w w1):=aj.out.below;clear dr bn fc g8 e1;have gN:w1.cell? ⟨w.1.size+1,0,U⟩=I (Y U 0 0):=aa aj.out.b1 0;have g0:w1.cell? ⟨w.1.size+2,0,U⟩=I (mK N 0):=aa aj.out.b2 0;have g1:w1.cell? ⟨w.1.size+3,0,U⟩=I (mK N 0):=aa aj.out.b3 0;have g2:=ac aj.out.b1 0;have g3:=ac aj.out.b2 0;have g4:=ac aj.out.b3 0;by_cases b4:¬E=0
  · have c7:((E:Int) != 0)=true:=cE (by omega);have a0:Hid (r=.error E):=(by show _=_;rw[cb.out,AK b4]);have d1:=gQq (((aj.out.set1 (Y U 0 0)).set2 0).set3 E);clear cb b4 ct cx;go_wp2;have c5:=d1.out;refine⟨_,ej rfl _ _ (w.1.size+1) (w.1.size+2) (w.1.size+3) _ #[Y U 0 0] _ _ 0 E rfl c5.b1 underlying64 rfl (by kernel_rfl) rfl (aa c5.b2 0) underlying3 rfl (aa c5.b3 0) underlying25,?_⟩;rw[a0.out];exact⟨rfl,c5.below⟩
  have c7:((E:Int) != 0)=false:=bZ (by omega);have cv:=gQq (cb.out.trans (AJ b4));have kd:s.length<=16:=(ct.out (by omega)).2.1;have d6:=gQq (cx.out (by omega));clear cb ct b4 cx
  -- a panic that goes through the door
  have d2:Hid (∀(E:Nat) (cy:wv) (v:AQ) (x y:Int),r=.error E->dM w cy v x y->∀(tmps:AV) (d8:List Deferred),tmps.getD 6 undef=O (I ⟨w.1.size+1,0,U⟩)->tmps.getD 7 undef=O (I ⟨w.1.size+2,0,U⟩)->tmps.getD 8 undef=O (I ⟨w.1.size+3,0,U⟩)->d8=[{ target:=.fn (.func 184) #[O (I ⟨w.1.size+1,0,U⟩),O (I ⟨w.1.size+2,0,U⟩),O (I ⟨w.1.size+3,0,U⟩)],args:=#[] }]->bodyPostD AW Tryz.f167 (wT w r) (Exit.panic (dl E)) { tmps:=tmps,defers:=d8 } cy):=by
    intro E cy v x y ab bq tmps d8 c8 h3 d9 ec;subst ec;refine leaves_cons (f:=184) (args:=#[O (I ⟨w.1.size+1,0,U⟩),O (I ⟨w.1.size+2,0,U⟩),O (I ⟨w.1.size+3,0,U⟩)]) (by simp) (by simp[go_sem]) ?_;refine(ik ⟨w.1.size+1,0,U⟩ ⟨w.1.size+2,0,U⟩ ⟨w.1.size+3,0,U⟩ v x y E cy (aa bq.b1 0) (ac bq.b1 0) (aa bq.b2 0) (ac bq.b2 0) (aa bq.b3 0) (ac bq.b3 0) (by intro ck;injection ck;omega) (by intro ck;injection ck;omega) (by intro ck;injection ck;omega)).mono ?_;rintro e ib i1 ⟨rfl,rfl,rfl⟩;have c6:=(((bq.set1 (Y U 0 0)).set2 0).set3 E).drew;refine⟨_,ej rfl tmps _ (w.1.size+1) (w.1.size+2) (w.1.size+3) _ #[Y U 0 0] _ _ 0 (E:Int) c8 c6.b1 underlying64 rfl (by kernel_rfl) h3 (aa c6.b2 0) underlying3 d9 (aa c6.b3 0) underlying25,?_⟩;rw[ab];exact⟨rfl,c6.below⟩
  have bT:=gQq (qS l q d a w.1.size w1 hR hS (e0.out.on ha.out) (by omega) (fun ep ad dj=>by
    obtain⟨b,o,h0,hb,_⟩:=aO e0.out (List.length_pos_iff.2 ep);rw[h0] at dj;injection dj with dj;subst dj
    exact hb) hH hI)
  unfold kW at bT;by_cases bp:a<0∨(l.length:Int)<a
  · have a0:Hid (r=.error 30):=(by show _=_;rw[cv.out,AK bp]);simp only[AK bp] at bT;clear cv d6;go_wp2_with fail;refine bT.out.mono ?_;rintro e w2 ⟨rfl,b5⟩;have d1:=gQq (aj.out.on b5);clear b5;go_wp2;exact d2.out 30 w2 _ _ _ a0.out d1.out _ _ rfl rfl rfl rfl
  have cc:=gQq (cv.out.trans (AJ bp));simp only[AJ bp] at bT;have f6:((a.toNat:Nat):Int)=a:=by omega
  have j2:a<=(l.length:Int):=by omega
  have j3:0<=a:=by omega
  have b9:=gQq f6;clear cv bp f6;go_wp2_with fail;refine bT.out.mono ?_;rintro e w2 ⟨rfl,eq,b5,k2⟩;obtain⟨m,en⟩:∃m,m=l.drop a.toNat:=⟨_,rfl⟩;rw[<-en] at cc eq;obtain⟨bN,bi⟩:∃bN,bN=Rw.rd s m:=⟨_,rfl⟩;rw[<-bi] at cc;have e4:Hid (lZ l w w2 (w1.1.size+1) s m bN [] (Y U 0 0)):=by
    have hd:=aj.out.on b5;refine⟨hd.b1,hd.b2,hd.b3,hd.below,by omega,by omega,⟨_,_,im _ _⟩,⟨0,by rw[List.drop_zero];exact eq,?_⟩,Nat.zero_le _⟩;rw[List.drop_zero,List.length_nil,List.drop_zero,<-bi];cases bN with
    |error e=>rfl
    |ok p=>simp[glue]
  have i5:=ae b5 g6;have hg:=gQq en;have hi:=gQq bi;clear eq b5 bT gN g0 g1 g2 g3 g4 g6 en bi;go_wp2_with fail;go_loopw [26] (fun eC wr=>∃(ys:List V) (A:OA) (c9:Nat),eC=mK N ys.length∧ys.length<=s.length∧Hid (lZ l w wr (w1.1.size+1) s m bN ys (Y A ys.length c9))) (fun eC _=>s.length-(intOf eC).toNat);case atStart=>exact⟨[],U,0,rfl,Nat.zero_le _,e4.out⟩
  case round=>
    obtain⟨ys,A,c9,rfl,k5,D⟩:=hrel;clear e4 i5;by_cases cn:ys.length<s.length
    · have ka:(ys.length:Int)<(s.length:Int):=(by omega);have du:=D.out.below;obtain⟨bx,k8,k,bl,bk,bj,it,ih,ic,i0,iy,ix,id,rfl,hL,gd,gz,-⟩:=hl.out.at ys.length cn;obtain⟨fq,fs,fv,fx,fy,f0,f2,f3,f4⟩:=gd.on du;obtain⟨wa,b8⟩:∃wa,wa=wr.alloc (qj #[.string s[ys.length].name,mK N k,Y bl bk bj,.bool s[ys.length].has,mK N it,mK N ih,.float .f64 ic,.string i0,Y iy ix id] 104):=⟨_,rfl⟩;have eb:AX wr.1.size wr wa:=(by rw[b8];exact gQy);have hj:Hid (wa.1.size=wr.1.size+1):=(by show _=_;rw[b8];simp);have ew:wa.cell? ⟨wr.1.size,1,U⟩=I (mK N k):=(by rw[b8];simp);have ez:wa.cell? ⟨wr.1.size,2,U⟩=I (Y bl bk bj):=(by rw[b8];simp);have h8:∀o,(wa.alloc o).cell? ⟨wr.1.size,1,U⟩=I (mK N k):=fun o=>ae gQy ew;have h9:∀o,(wa.alloc o).cell? ⟨wr.1.size,2,U⟩=I (Y bl bk bj):=fun o=>ae gQy ez;have d7:wa.cell? ⟨w.1.size+1,0,U⟩=I (Y A ys.length c9):=ae eb (aa D.out.b1 0);have ht:∀o,(wa.alloc o).cell? ⟨w.1.size+1,0,U⟩=I (Y A ys.length c9):=fun o=>ae gQy d7;obtain⟨n,bc,cq⟩:=D.out.left;obtain⟨us,Fs,cj⟩:=D.out.built;have a6:=gQq cj;have d3:=gQq cq;have X:=gQq eb;have bn:Hid (∀W',AX wr.1.size wr W'->Calls AW 186 #[O (I ⟨w1.1.size+1,0,U⟩),.agg #[mK N k,Y bl bk bj]] W' (bI l W' w.1.size (w1.1.size+1) (m.drop n) (Sch.rdV s[ys.length].ty (m.drop n)) (isV W'))):=fun W' hb=>xB _ 1 (d6.out _ (AL cn)) l (m.drop n) _ _ W' _ ⟨w,gz,du.trans (hb.mono du.size),by omega⟩ (bc.on hb)
      obtain⟨g5,d0⟩:∃x,x=Sch.rdV s[ys.length].ty (m.drop n):=⟨_,rfl⟩;rw[<-d0] at bn;have e5:=gQq d0;have hk:Hid (Rw.rd (s.drop ys.length) (m.drop n)=lf (s.drop (ys.length+1)) (m.drop n) g5):=by
        show _=_;rw[List.drop_eq_getElem_cons cn,pU,d0]
      generalize s[ys.length].name=k7 at *
      generalize s[ys.length].has=k3 at *
      have cs:=gQq b8;clear gd gz du b8 eb bc cq cj d0 hL;cases g5 with
      |error er2=>
        have a0:Hid (r=.error er2):=by
          show _=_;have bX:bN=.error er2:=(by rw[d3.out,hk.out];rfl);rw[cc.out,bX]
        obtain⟨c7,-⟩:∃c7:Nat,c7=0:=⟨_,rfl⟩;have aw:Hid (∀W' eL,AX wr.1.size wr W'->Aside (fun i=>i=w1.1.size+1) W' eL->dM w eL (Y A ys.length c9) 0 0):=fun W' eL hb a9=>(D.out.d.on hb).aside a9 (fun k b7=>by rw[b7];omega);go_wp2_with fail;rw[<-cs.out];clear cs fq fs fv fx fy f0 f2 f3 f4;refine wp_region_any (by kernel_rfl) ?_
        refine mg 5 (by simp) 30 56 (by simp) [(6,O (I ⟨w.1.size+1,0,U⟩)),(7,O (I ⟨w.1.size+2,0,U⟩)),(8,O (I ⟨w.1.size+3,0,U⟩)),(10,O (I ⟨w1.1.size+1,0,U⟩)),(12,O (I ⟨wr.1.size,0,U⟩))]
          [{ target:=.fn (.func 184) #[O (I ⟨w.1.size+1,0,U⟩),O (I ⟨w.1.size+2,0,U⟩),O (I ⟨w.1.size+3,0,U⟩)],args:=#[] }] (fun w'=>AX wa.1.size wa w')
          (fun i=>match i with
            |0=>I (O (I ⟨w.1.size+1,0,U⟩))
            |1=>I (Y A ys.length c9)
            |2=>I (O (I ⟨w1.1.size+1,0,U⟩))
            |3=>I (O (I ⟨wr.1.size,1,U⟩))
            |4=>I (.agg #[mK N k,Y bl bk bj])
            |_=>U) (fun i=>decide (7<i)) (by kernel_rfl) (by simp) ?_ ?_ ?_ _ _ (by rfl) (by rfl) (by simp) gQz.drew
        · intro i o ah hP em;have hO:¬7<i:=(by simpa using em);rcases(by omega:i=0∨i=1∨i=2∨i=3∨i=4∨i=6∨i=7) with rfl | rfl | rfl | rfl | rfl | rfl | rfl <;> (obtain rfl:=Option.some.inj ah;rfl)
        · intro i o ah hP em Z w' bs M b6;have hO:¬7<i:=(by simpa using em);have hB:Z.tmps[6]?.getD undef=O (I ⟨w.1.size+1,0,U⟩):=(by simpa using bs (6,O (I ⟨w.1.size+1,0,U⟩)) (by simp));have hu:Z.tmps[10]?.getD undef=O (I ⟨w1.1.size+1,0,U⟩):=(by simpa using bs (10,O (I ⟨w1.1.size+1,0,U⟩)) (by simp));have hv:Z.tmps[12]?.getD undef=O (I ⟨wr.1.size,0,U⟩):=(by simpa using bs (12,O (I ⟨wr.1.size,0,U⟩)) (by simp));have i2:=ae M d7;have i3:=ae M ew;have i4:=ae M ez;rcases(by omega:i=0∨i=1∨i=2∨i=3∨i=4∨i=6∨i=7) with rfl | rfl | rfl | rfl | rfl | rfl | rfl;all_goals simp only[List.getElem?_toArray,List.getElem?_cons_zero,List.getElem?_cons_succ,Option.some.injEq] at ah
          all_goals subst ah
          · exact⟨O (I ⟨w.1.size+1,0,U⟩),w',by simp[execOp,hB,go_sem],M,fun u J=>by injection J⟩
          · have hw:Z.tmps[30]?.getD undef=O (I ⟨w.1.size+1,0,U⟩):=(by simpa using b6 ⟨0,.data⟩ (by simp) rfl _ rfl);exact⟨Y A ys.length c9,w',by simp[execOp,hw,i2,go_sem],M,fun u J=>by injection J⟩
          · exact⟨O (I ⟨w1.1.size+1,0,U⟩),w',by simp[execOp,hu,go_sem],M,fun u J=>by injection J⟩
          · exact⟨O (I ⟨wr.1.size,1,U⟩),w',by simp[execOp,hv,go_sem],M,fun u J=>by injection J⟩
          · have hz:Z.tmps[33]?.getD undef=O (I ⟨wr.1.size,1,U⟩):=(by simpa using b6 ⟨3,.data⟩ (by simp) rfl _ rfl);exact⟨.agg #[mK N k,Y bl bk bj],w',by simp[execOp,hz,i3,i4,go_sem],M,fun u J=>by injection J⟩
          · have hx:Z.tmps[31]?.getD undef=Y A ys.length c9:=(by simpa using b6 ⟨1,.data⟩ (by simp) rfl _ rfl);exact⟨mK N ys.length,w',by simp[hx,go_sem],M,fun u J=>by cases J⟩
          · exact⟨Y (I ⟨w'.1.size,0,U⟩) 1 1,w'.alloc (qj iv 102),by simp[execOp,iv,go_sem],M.alloc M.size _,fun u J=>by cases J⟩
        · intro o ah Z w' bs ec M b6 K;have hy:Z.eval (.tmp 32)=O (I ⟨w1.1.size+1,0,U⟩):=by
            simp only[List.getElem?_toArray,List.getElem?_cons_zero,List.getElem?_cons_succ,Option.some.injEq] at ah;subst ah;simpa[Act.eval] using b6 ⟨2,.data⟩ (by simp) rfl _ rfl
          have hA:Z.eval (.tmp 34)=.agg #[mK N k,Y bl bk bj]:=by
            simp only[List.getElem?_toArray,List.getElem?_cons_zero,List.getElem?_cons_succ,Option.some.injEq] at ah;subst ah;simpa[Act.eval] using b6 ⟨4,.data⟩ (by simp) rfl _ rfl
          simp only[List.getElem?_toArray,List.getElem?_cons_zero,List.getElem?_cons_succ,Option.some.injEq] at ah;subst ah;have gl:=X.out.trans (M.mono X.out.size);unfold Oper.wp;have ab : (execOp Z.eval { dst := I 35, op := Op.call { callee := .value (.func 186), args := #[.tmp 32, .tmp 34], argTypes := #[283, 99] }, type := 102, pos := "row.go:75", after := #[{ on := 2, ground := .data }, { on := 4, ground := .data }], guard := U }).run AW w'=.ok (.enter 186 #[O (I ⟨w1.1.size+1, 0, U⟩), .agg #[mK N k, Y bl bk bj]]) w' := by
            have hN:Z.eval (.func 186)=.func (.func 186) #[] #[]:=rfl;have hM:=enters func186 (by kernel_rfl) rfl;simp[execOp,resolve,invoke,hy,hA,hN,Deferred.ofValue,hM]
          rw[ab,Oper.upon_enter];refine(bn.out w' gl).mono ?_;intro e w5 dv;obtain⟨hE,hF⟩:=dv.bad;subst hE;exact d2.out er2 w5 _ _ _ a0.out (aw.out _ _ gl hF) _ _ (bs (6,_) (by simp)) (bs (7,_) (by simp)) (bs (8,_) (by simp)) ec
      |ok xj=>
        obtain⟨x,j⟩:=xj;have hT:=D.out.low;have j5:=D.out.high;have hQ:(ys.length:Int)<(ys.length:Int)+1:=(by omega);have e8:Hid (∀a∈iv.toList,a.oneCell'=ux):=by
          show ∀a∈iv.toList,a.oneCell'=ux;simp[iv,Value.oneCell']
        have hc:Hid (∀W' w5 (u:AV),AX wr.1.size wr W'->Aside (fun i=>i=w1.1.size+1) W' w5->aX w5 (fun k=>W'.1.size<=k∧k<w5.1.size) u x->az l w5 w.1.size (w1.1.size+1) ((m.drop n).drop j)->w5.1[w.1.size+1]?=I (qj #[Y A ys.length c9] 64 (0,0))∧∀bO,AX w5.1.size w5 bO->bO.ownsRow (w1.1.size+1+1) 102 5 (Y A ys.length c9) ys.length (flat us ys.length)):=fun W' w5 u hb a9 _ _=>⟨(D.out.row a6.out hb a9 gQz).2,fun bO hK=>(D.out.row a6.out hb a9 hK).1⟩;go_wp2_with fail;rw[<-cs.out];clear cs fq fs fv fx fy f0 f2 f3 f4;refine pP ?_
        go_region_law (first
          | (refine dd (.tmp 32) (.tmp 34) 283 99 (by rfl) (by rfl) (by rfl) (by rfl) func186 (by kernel_rfl) (by rfl) (bn.out _ (by first | exact X.out.drew | exact(X.out.alloc X.out.size _).drew | exact X.out.drew.alloc X.out.size _)) ?_;intro e w5 dv;obtain⟨v,ab,er,bc,a9⟩:=dv.good;obtain⟨u,er,cp⟩:=er.open;clear dv;obtain⟨h5,h4,hm,ia,h7,h6,hs,J⟩:=cp.shape;subst J;subst er;have cu:Hid (∃W',AX wr.1.size wr W'∧Aside (fun i=>i=w1.1.size+1) W' w5∧aX w5 (fun k=>W'.1.size<=k∧k<w5.1.size) (cells5 h5 h4 hm ia h7 h6 hs) x∧az l w5 w.1.size (w1.1.size+1) ((m.drop n).drop j)):=⟨_,by first | exact X.out.drew | exact(X.out.alloc X.out.size _).drew | exact X.out.drew.alloc X.out.size _,a9,cp,bc⟩;have fi:Hid (∀k C,_->k≠w1.1.size+1->w5.1[k]?=I C):=fun k C b7 ep=>(a9.block k (ao b7) ep).trans b7;unfold cells5 at ab;refine⟨_,ab,?_⟩;clear ab bc a9 cp;obtain⟨fo,a2,a1,bb,be⟩:=cu.out;have el:=hc.out _ _ _ a2 a1 bb be;have g7:w5.cell? ⟨w.1.size+1,0,U⟩=I (Y A ys.length c9):=aa el.1 0;have i9:∀o,(w5.alloc o).cell? ⟨w.1.size+1,0,U⟩=I (Y A ys.length c9):=fun o=>ae gQy g7;have d4:=gQq el.2;have d5:Hid (wr.1.size<=w5.1.size):=AG a2.size a1.size;clear a2 a1 bb be el)
          | (refine kq (B:=w1.1.size+1+1) (us:=us) (v:=Y A ys.length c9) (n:=ys.length) (u:=iv) (ad:=wa.1.size) (H:=w5.1.size) (d4.out _ gQz) rfl e8.out (fi.out wa.1.size _ (am wa _) (by have:=hj.out;omega)) (by omega) (by have:=d5.out;omega) rfl (.tmp 31) (.tmp 37) (by rfl) (by rfl) (by rfl) (by rfl) ?_;intro g cap bO a3 bv co;obtain⟨fo,a2,a1,bb,be⟩:=cu.out;obtain⟨S,p2,p3,p4,a4⟩:=D.out.next a6.out cn d3.out e5.out.symm a2 a1 bb be gQz a3 bv co;obtain⟨hn,c0⟩:=S 0 (by omega);obtain⟨ho,c1⟩:=S 1 (by omega);obtain⟨hp,c2⟩:=S 2 (by omega);obtain⟨hq,c3⟩:=S 3 (by omega);obtain⟨hr,c4⟩:=S 4 (by omega);rw[Nat.add_zero] at c0;have f7:=p2 (ys.length*5);have f1:=p2 (ys.length*5+1);have f8:=p2 (ys.length*5+2);have f9:=p2 (ys.length*5+3);have gb:=p2 (ys.length*5+4);have bX:bO.cell? ⟨w.1.size+1,0,U⟩=I (Y A ys.length c9):=aa p4 0;have f5:=ac p4 0;have hX:¬g=w.1.size+1:=(by omega);have hY:¬w.1.size+1=g:=(by omega);have a5:=a4;rw[<-js _ _ _ _ _ _ _ _ _ _ (by omega)] at a5;unfold eY at a4 a5;have e6:=gQq a4;have e7:=gQq a5;clear S p2 p4 a4 a5 a3 bv co a2 a1 bb be)
          | (refine kq (B:=w1.1.size+1+1) (us:=us) (v:=Y A ys.length c9) (n:=ys.length) (u:=iv) (ad:=w5.1.size) (H:=w5.1.size+1) (d4.out _ gQy) rfl e8.out (am w5 _) (by omega) (by have:=d5.out;simp;omega) (by simp) (.tmp 31) (.tmp 37) (by rfl) (by rfl) (by rfl) (by rfl) ?_;intro g cap bO a3 bv co;obtain⟨fo,a2,a1,bb,be⟩:=cu.out;obtain⟨S,p2,p3,p4,a4⟩:=D.out.next a6.out cn d3.out e5.out.symm a2 a1 bb be gQy a3 bv (by simpa using co);obtain⟨hn,c0⟩:=S 0 (by omega);obtain⟨ho,c1⟩:=S 1 (by omega);obtain⟨hp,c2⟩:=S 2 (by omega);obtain⟨hq,c3⟩:=S 3 (by omega);obtain⟨hr,c4⟩:=S 4 (by omega);rw[Nat.add_zero] at c0;have f7:=p2 (ys.length*5);have f1:=p2 (ys.length*5+1);have f8:=p2 (ys.length*5+2);have f9:=p2 (ys.length*5+3);have gb:=p2 (ys.length*5+4);have bX:bO.cell? ⟨w.1.size+1,0,U⟩=I (Y A ys.length c9):=aa p4 0;have f5:=ac p4 0;have hX:¬g=w.1.size+1:=(by omega);have hY:¬w.1.size+1=g:=(by omega);have a5:=a4;rw[<-js _ _ _ _ _ _ _ _ _ _ (by omega)] at a5;unfold eY at a4 a5;have e6:=gQq a4;have e7:=gQq a5;clear S p2 p4 a4 a5 a3 bv co a2 a1 bb be)
          |fail)
        all_goals
          rw[iI];clear c0 c1 c2 c3 c4 f7 f1 f8 f9 gb bX f5 g7 i9 d4 fi d5 cu ew ez h8 h9 d7 ht hQ;go_wp2;go_roundw;case rel=>
            refine⟨ys++[x],I ⟨g,0,U⟩,cap,by simp,by simp;omega,?_⟩;rw[AU,AC]
            first
              |with_reducible exact e6
              |with_reducible exact e7
          case measure=>simp[intOf];omega
    · have kb:¬(ys.length:Int)<(s.length:Int):=(by omega);have hys:ys.length=s.length:=(by omega);obtain⟨n,bc,cq⟩:=D.out.left;have bi:bN=.ok (ys,n):=by
        rw[cq,List.drop_eq_nil_of_le (by omega)];simp[Rw.rd,glue]
      have gt:Rw.rd s m=.ok (ys,n):=(by rw[<-hi.out];exact bi);obtain⟨-,hW,⟨rest,gn⟩,-,-⟩:=Rw.rd_ok s m ys n d6.out gt;have hZ:n<=m.length:=(by rw[gn,AU];omega);obtain⟨T,k9,j1,pos,ea,gs⟩:=bc.out;have hV:m.length=l.length-a.toNat:=(by rw[hg.out,Aj]);have gq:pos=a.toNat+n:=by
        have bp:=congrArg List.length gs;rw[Aj,Aj] at bp;have c8:=ea.pos;have h3:=b9.out;omega
      have lb:wr.cell? ⟨w1.1.size+1,2,U⟩=I (mK N ((pos:Nat):Int)):=aa ea.b0 2;have k4:IntKind.i64.wrap ((pos:Int)-a)=(n:Int):=(by rw[IntKind.wrap_i64];have:=b9.out;omega);have cw:Hid (r=if 1024<n then .error 2 else .ok (ys,a.toNat+n)):=(by show _=_;rw[cc.out,bi]);have hh:=gQq gq;have ky:-9223372036854775808<=(pos:Int)-a:=(by have:=b9.out;omega);have k0:(pos:Int)-a<=9223372036854775807:=(by have:=b9.out;omega);have kx:(pos:Int)-a=(n:Int):=(by have:=b9.out;omega);have hf:Hid (cR w wr wr (Y A ys.length c9) 0 0):=⟨D.out.d,Aside.refl _ _⟩;have hT:=D.out.low;obtain⟨us,Fs,cj⟩:=D.out.built;have a6:=gQq cj;have aw:=gQq D.out.d;have gN:wr.cell? ⟨w.1.size+1,0,U⟩=I (Y A ys.length c9):=aa aw.out.b1 0;have g0:wr.cell? ⟨w.1.size+2,0,U⟩=I (mK N 0):=aa aw.out.b2 0;have g1:wr.cell? ⟨w.1.size+3,0,U⟩=I (mK N 0):=aa aw.out.b3 0;have g2:=ac aw.out.b1 0;have g3:=ac aw.out.b2 0;have g4:=ac aw.out.b3 0;clear bc cq bi gt hW gn hZ ea gs hV gq cj D cc hys;by_cases ds:1024<n
      · have a0:Hid (r=.error 2):=cw.out.trans (AK ds);have hC:decide ((n:Int)<=1024)=false:=AD (by omega);have hD:decide ((pos:Int)-a<=1024)=false:=AD (by omega);clear cw ds;go_wp2_with fail;refine(cO _ 2 _).mono ?_;rintro e w5 ⟨rfl,cr⟩;rw[cr];clear cr w5;go_wp2;exact d2.out 2 wr _ _ _ a0.out aw.out _ _ rfl rfl rfl rfl
      · have a0:Hid (r=.ok (ys,a.toNat+n)):=cw.out.trans (AJ ds);have hC:decide ((n:Int)<=1024)=true:=AE (by omega);have hD:decide ((pos:Int)-a<=1024)=true:=AE (by omega);have he:Hid (∀(cd:wv) (tmps:AV),cR w wr cd (Y A ys.length c9) pos 0->tmps.getD 6 undef=O (I ⟨w.1.size+1,0,U⟩)->tmps.getD 7 undef=O (I ⟨w.1.size+2,0,U⟩)->tmps.getD 8 undef=O (I ⟨w.1.size+3,0,U⟩)->∃v,(results Tryz.f167 tmps).run AW cd=.ok v cd∧wT w r (.returned v) cd):=by
          intro cd tmps ci c8 h3 d9;refine⟨_,ej rfl tmps _ (w.1.size+1) (w.1.size+2) (w.1.size+3) _ #[Y A ys.length c9] _ _ pos 0 c8 ci.d.b1 underlying64 rfl (by kernel_rfl) h3 (aa ci.d.b2 0) underlying3 d9 (aa ci.d.b3 0) underlying25,?_⟩;rw[a0.out];have hJ:=a6.out.aside ci.aside (fun g bv ab=>by have:=(a6.out.lt g bv).1;omega) (fun i eg k b7 ab=>by have:=(a6.out.range i eg k b7).1;omega);obtain⟨p2,c2,ab,cp⟩:=hJ.done (by omega) 0 0 0 ⟨#[]⟩;injection ab with bX e2 e3;subst bX e3;exact⟨A,c9,by rw[hh.out],cp.mono (fun i eg=>⟨by omega,eg.2⟩),ci.d.below⟩
        clear cw ds;go_wp2_with fail;refine(di _ 2 _).mono ?_;rintro e w5 ⟨rfl,cr⟩;rw[cr];clear cr w5;go_wp2_with fail;refine pP ?_;go_region_law (fail)
        all_goals
          rw[iI];go_wp2;refine leaves_cons (f:=184) (args:=#[O (I ⟨w.1.size+1,0,U⟩),O (I ⟨w.1.size+2,0,U⟩),O (I ⟨w.1.size+3,0,U⟩)]) (by simp) (by simp[go_sem]) ?_;refine(nF ⟨w.1.size+1,0,U⟩ ⟨w.1.size+2,0,U⟩ ⟨w.1.size+3,0,U⟩ _).mono ?_;rintro e ib i1 ⟨rfl,rfl,rfl⟩;refine he.out _ _ ?_ rfl rfl rfl;exact(((hf.out.set1 _).set2 _).set3 _).drew
end
end Go.Proofs.YtngmnfdaedlodaaGreatDoor

import Derived.Test.YtngmnfdaedlodaaGreatDoorB31
import Derived.Test.YtngmnfdaedlodaaGreatDoorB19
set_option maxRecDepth 100000
set_option maxHeartbeats 20000000
namespace Go.Proofs.YtngmnfdaedlodaaGreatDoor
open Go.Proofs.Tryz
open Option renaming some->I,none->U
open Go.Value renaming slice->Y,pointer->O,int->px
open Go.IntKind renaming i64->N
open Bool renaming true->AJ,false->AK
open Go.Obj renaming cells->wx
open Go renaming World->AU,Value->AA
open Go.RowKit renaming Below->AC
open Go.Proofs.Tryz renaming prog->AE
variable{W W' w wr:AU}{v:AA}{y:Int}
section
open Go.RowKit
attribute [local go_sem] al
theorem cC(w:AU)(g D j E:Nat)(u v:AA)(h:g≠j):(w.setCell ⟨j,E,U⟩ u).setCell ⟨g,D,U⟩ v=(w.setCell ⟨g,D,U⟩ v).setCell ⟨j,E,U⟩ u:=by
 unfold World.setCell;congr 1;apply Array.ext
 ·simp
 ·intro i J K;simp only[Array.getElem_modify];by_cases A:g=i
  ·by_cases o:j=i
   ·omega
   ·simp[A,o]
  ·by_cases o:j=i
   ·simp[A,o]
   ·simp[A,o]
theorem jw(w:AU)(g o j:Nat)(k i:Int)(b:Nat)(t:ByteArray)(s u:AA)(h:g≠j):fa (w.setCell ⟨j,0,U⟩ u) g o k i b t s=(fa w g o k i b t s).setCell ⟨j,0,U⟩ u:=by
 unfold fa;rw[cC _ _ _ _ _ _ _ h,cC _ _ _ _ _ _ _ h,cC _ _ _ _ _ _ _ h,cC _ _ _ _ _ _ _ h,cC _ _ _ _ _ _ _ h]
structure mg(L:L8)(w wr:AU)(R:Nat)(s:List Col)(m:L8)(r:Except Nat (List V×Nat))(ys:List V)(v:AA):Prop where
 b1:wr.1[w.1.size+1]?=I (wx #[v] 64 (0,0))
 b2:wr.1[w.1.size+2]?=I (wx #[px N 0] 3 (0,0))
 b3:wr.1[w.1.size+3]?=I (wx #[px N 0] 25 (0,0))
 below:AC w.1.size w wr
 low:w.1.size+4<=R
 high:R<wr.1.size
 built:∃us Fs,bd wr (R+1) v ys.length us Fs ys
 left:∃n,aA L wr w.1.size R (m.drop n)∧r=glue ys n (Rw.rd (s.drop ys.length) (m.drop n))
 len:ys.length<=s.length
def iB:AV:=#[px N 0,px N 0,.float .f64 0,.string ⟨#[]⟩,Y U 0 0]
section
variable {L:L8} {w wr wa w2 w3 w4:AU} {R:Nat} {s:List Col} {m:L8} {r:Except Nat (List V×Nat)} {ys:List V} {v:AA} {us:Nat->AV} {Fs:Nat->Nat->Prop} {n j:Nat} {x:V} {k i:Int} {b:Nat} {t:ByteArray} {q:OA} {nn c:Nat}
theorem mg.row(h:mg L w wr R s m r ys v)(K:bd wr (R+1) v ys.length us Fs ys)(o:AC wr.1.size wr wa)(D:Aside (fun i=>i=R) wa w2)(J:AC w2.1.size w2 w3):w3.ownsRow (R+1) 102 5 v ys.length (flat us ys.length)∧w2.1[w.1.size+1]?=I (wx #[v] 64 (0,0)):=by
 have ah:=h.low;have ab:=h.high;have ai:=o.size;have A:bd wa (R+1) v ys.length us Fs ys:=K.on o;have E:bd w2 (R+1) v ys.length us Fs ys:=A.aside D (fun g S M=>by have:=(A.lt g S).1;omega) (fun i X k Z M=>by have:=(A.range i X k Z).1;omega);refine⟨(E.on J).row,?_⟩;rw[D.block _ (by omega) (by omega),o.block _ (by omega)];exact h.b1
theorem mg.next(h:mg L w wr R s m r ys v)(a4:bd wr (R+1) v ys.length us Fs ys)(bl:ys.length<s.length)(bj:r=glue ys n (Rw.rd (s.drop ys.length) (m.drop n)))(bv:Sch.rdV s[ys.length].ty (m.drop n)=.ok (x,j))(S:AC wr.1.size wr wa)(M:Aside (fun i=>i=R) wa w2)(bn:aY w2 (fun k=>wa.1.size<=k∧k<w2.1.size) (cells5 k i b t q nn c) x)(bp:aA L w2 w.1.size R ((m.drop n).drop j))(J:AC w2.1.size w2 w3){g cap:Nat}(a0:w4.ownsRow (R+1) 102 5 (Y (I ⟨g,0,U⟩) (ys.length+1) cap) (ys.length+1) (flat us ys.length++iB.toList))(E:w3.grownBy w4 v.ownBlock)(Z:v.ownBlock=I g∨g=w3.1.size):
  (∀j,j<5->∃z,w4.cell? ⟨g,ys.length*5+j,U⟩=I z)∧(∀j,w4.frozen? ⟨g,j,U⟩=AK)∧R<g∧w4.1[w.1.size+1]?=I (wx #[v] 64 (0,0)) ∧
  mg L w ((fa w4 g (ys.length*5) k i b t (Y q nn c)).setCell ⟨w.1.size+1,0,U⟩ (Y (I ⟨g,0,U⟩) (ys.length+1) cap)) R s m r (ys++[x]) (Y (I ⟨g,0,U⟩) (ys.length+1) cap):=by
 have bk:=h.low;have b6:=h.high;have cb:=S.size;have b7:=M.size;have b8:=J.size;have b9:=E.size;have ab:bd wa (R+1) v ys.length us Fs ys:=a4.on S;obtain⟨b0,bN,a6,bO⟩:=M.split (by omega);have a9:bd b0 (R+1) v ys.length us Fs ys:=ab.aside bN (fun g E X=>by have:=(ab.lt g E).1;omega) (fun i aw k o X=>by have:=(ab.range i aw k o).1;omega);have bb:(flat us ys.length).length=ys.length*5:=by
  have:=a4.row.1;exact this
 obtain⟨bT,p2,p3⟩:=oU (z0:=px N 0) (z1:=px N 0) (z2:=.float .f64 0) (z3:=.string ⟨#[]⟩) (z4:=Y U 0 0) bb a0 k i b t q nn c;have be:R<g:=(a0.lt g rfl).1;have b5:g<w4.1.size:=(a0.lt g rfl).2;obtain⟨w5,ai⟩:∃w5,w5=fa w4 g (ys.length*5) k i b t (Y q nn c):=⟨_,rfl⟩;have K:Aside (fun j=>j=g) w4 w5:=by rw[ai];exact nh _ _ _ _ _ _ _ _
 have cc:w5.1.size=w4.1.size:=by rw[ai];exact oT _ _ _ _ _ _ _ _
 have A:w3.grownBy w5 v.ownBlock:=by
  refine⟨K.os.trans E.os,K.tape.trans E.tape,K.output.trans E.output,by omega,fun k o ah=>?_⟩;rw[K.block k (by omega) (fun X=>?_)]
  ·exact E.block k o ah
  ·rcases Z with Z | Z
   ·exact ah (by rw[Z,X])
   ·omega
 rw[<-ai] at p3;have a1:=a9.step bO bn (fun k o=>⟨by rw[a6];exact o.1,o.2⟩) J (by rw[a6];omega) p3 A Z;have a5:=fun k (o:v.ownBlock=I k)=>(ab.lt k o)
 -- what lies below stays
 have keep:∀k,k<=R->k≠R->k<wr.1.size->w5.1[k]?=wr.1[k]?:=fun k o ah bi=>by
  rw[K.block k (by omega) (by omega),E.block k (by omega) (fun ak=>by have:=(a5 k ak.symm).1;omega),J.block k (by omega),M.block k (by omega) ah,S.block k bi]
 have a2:w5.1[w.1.size+1]?=I (wx #[v] 64 (0,0)):=(keep _ (by omega) (by omega) (by omega)).trans h.b1;have bX:w4.1[w.1.size+1]?=I (wx #[v] 64 (0,0)):=by
  rw[<-K.block _ (by omega) (by omega)];exact a2
 have a7:Aside (fun k=>R<k) w2 w5:=by
  refine(af J (fun k=>R<k)).trans (G:=fun k=>R<k) ⟨A.os,A.tape,A.output,A.size,fun k o b4=>A.block k o (fun ak=>?_)⟩ (fun _ _ h=>h);have:=(a5 k ak.symm).1;omega
 have bq:aA L w5 w.1.size R ((m.drop n).drop j):=bp.aside a7 (fun k o=>o);obtain⟨a3,aj⟩:∃a3,a3=w5.setCell ⟨w.1.size+1,0,U⟩ (Y (I ⟨g,0,U⟩) (ys.length+1) cap):=⟨_,rfl⟩;have D:Aside (fun j=>j=w.1.size+1) w5 a3:=by rw[aj];exact am _ _ _ _
 have cd:=D.size;rw[<-ai,<-aj];refine⟨bT,p2,be,bX,?_⟩;have bs:=a1.aside D (fun a8 bc X=>by have:=(a1.lt a8 bc).1;omega) (fun i aw k o X=>by have:=(a1.range i aw k o).1;omega);refine⟨?_,?_,?_,?_,bk,by omega,⟨_,_,by rw[AH,AO];exact bs⟩,⟨n+j,?_,?_⟩,by rw[AH,AO];omega⟩
 ·rw[aj,ao a2 0];rfl
 ·rw[D.block _ (by omega) (by omega),keep _ (by omega) (by omega) (by omega)];exact h.b2
 ·rw[D.block _ (by omega) (by omega),keep _ (by omega) (by omega) (by omega)];exact h.b3
 ·refine⟨?_,?_,?_,by have:=h.below.size;omega,fun k o=>?_⟩
  ·rw[D.os,A.os,J.os,M.os,S.os];exact h.below.os
  ·rw[D.tape,A.tape,J.tape,M.tape,S.tape];exact h.below.tape
  ·rw[D.output,A.output,J.output,M.output,S.output];exact h.below.output
  ·rw[D.block k (by omega) (by omega),keep k (by omega) (by omega) (by omega)];exact h.below.block k o
 ·rw[<-Ax,aj];exact bq.set a2 (by simp) (by omega) (by omega) 0 _
 ·rw[bj,AH,AO,List.drop_eq_getElem_cons bl,qc,bv,lo,il,Ax]
end
end
section
open Go.RowKit
def unl(listed:Array Bool):Nat->Nat
 |0=>0
 |n+1=>unl listed n+if listed.getD n AJ then 0 else 1
theorem vI(listed:Array Bool)(i:Nat)(A:listed.getD i AJ=AK):∀n,(i<n->unl (listed.setIfInBounds i AJ) n+1<=unl listed n)∧unl (listed.setIfInBounds i AJ) n<=unl listed n:=by
 have E:i<listed.size:=by
  by_cases h:i<listed.size
  ·exact h
  ·simp[Array.getD,h] at A
 intro n;induction n with
 |zero=>exact⟨fun h=>absurd h (by omega),gQx⟩
 |succ n ih=>
  have e:(listed.setIfInBounds i AJ).getD n AJ=if n=i then AJ else listed.getD n true:=by
   by_cases o:n=i
   ·subst o;simp[Array.getD,E]
   ·rw[AF o];by_cases D:n<listed.size
    ·simp[Array.getD,D,Ne.symm o]
    ·simp[Array.getD,D]
  simp only[unl,e];by_cases o:n=i
  ·subst o;rw[AG rfl,A];simp only[Bool.false_eq_true,if_false,if_true];exact⟨fun _=>by have:=ih.2;omega,by have:=ih.2;omega⟩
  ·rw[AF o];exact⟨fun h=>by have:=ih.1 (by omega);omega,by have:=ih.2;omega⟩
theorem vJ(listed:Array Bool)(c:Nat)(o:listed.getD c AJ=AK):∀n,c<n->0<unl listed n:=by
 intro n;induction n with
 |zero=>intro h;omega
 |succ n ih=>
  intro h;rw[unl];by_cases A:c=n
  ·subst A;rw[o];simp
  ·have:=ih (by omega);omega
section
variable {P:Program} {ops:Array Oper} {Q:Exit->Act->AU->Prop}
theorem tf(M:∀(i:Nat) D,ops[i]?=I D->∀e∈D.after,Region.binds .any e=AJ->e.on<i)(listed:Array Bool)(ai:listed.size=ops.size):∀c,c<ops.size->listed.getD c AJ=AK->Region.ready .any ops listed≠[]:=by
 intro c;induction c using Nat.strongRecOn with
 |_ c ih=>
  intro o Z;by_cases h:∃j,j<c∧listed.getD j AJ=AK
  ·obtain⟨j,S,X⟩:=h;exact ih j S (by omega) X
  ·intro J;have A:c∈Region.ready .any ops listed:=by
    rw[mem_ready];refine⟨Z,ops[c],Array.getElem?_eq_getElem o,fun e K E=>?_⟩;have ab:=M c _ (Array.getElem?_eq_getElem o) e K E;cases hb:listed.getD e.on AJ with
    |false=>exact absurd ⟨e.on,ab,hb⟩ h
    |true=>
     have ah:e.on<listed.size:=(by omega);simp[Array.getD,ah] at hb ⊢;exact hb
   rw[J] at A;cases A
def iX(ops:Array Oper)(c:Nat)(late:Nat->Bool):Bool:=(List.range ops.size).all fun i=>match ops[i]? with
 |some o=>o.guard.isNone&&o.after.all (fun e=>!Region.binds .any e||decide (e.on<i))&&(!late i||o.after.any (fun e=>Region.binds .any e&&e.on==c))
 |none=>AJ
theorem ek{c:Nat}{K:Nat->Bool}(h:iX ops c K=AJ)(i:Nat)(A:Oper)(J:ops[i]?=I A):A.guard=U∧(∀e∈A.after,Region.binds .any e=AJ->e.on<i)∧(K i=AJ->∃e∈A.after,Region.binds .any e=AJ∧e.on=c):=by
 unfold iX at h;have o:=List.all_eq_true.1 h i (List.mem_range.2 (Array.getElem?_eq_some_iff.1 J).1);rw[J] at o;simp only[Bool.and_eq_true,Bool.or_eq_true,Bool.not_eq_true',Array.all_eq_true_iff_forall_mem,decide_eq_true_eq,Array.any_eq_true',beq_iff_eq,Option.isNone_iff_eq_none] at o;refine⟨o.1.1,fun e D hb=>(o.1.2 e D).resolve_left (by rw[hb];exact Bool.noConfusion),fun M=>?_⟩;rcases o.2 with E | ⟨e,D,hb,S⟩
 ·rw[M] at E;cases E
 ·exact⟨e,D,hb,S⟩
theorem oc(c:Nat)(ah:c<ops.size)(G:Act->AU->Prop)(E:Nat->Act->Prop)(J:Nat->Bool)(hchk:iX ops c J=AJ)(bn:∀(i:Nat) o,ops[i]?=I o->i≠c->J i=AK->∀a w,G a w->(∀e∈o.after,Region.binds .any e=AJ->E e.on a)->∃v w',(execOp a.eval o).run P w=.ok (.value v) w'∧G (a.put o.dst v) w'∧E i (a.put o.dst v)∧∀j,j≠i->E j a->E j (a.put o.dst v))(a4:∀o,ops[c]?=I o->∀a w,G a w->(∀e∈o.after,Region.binds .any e=AJ->E e.on a)->∀K,o.wp P a w K Q):
  ∀fuel listed a w,listed.size=ops.size->listed.getD c AJ=AK->unl listed ops.size<=fuel->(∀j,listed.getD j AK=AJ->E j a)->G a w->wpAny P .any ops Q fuel listed a w:=by
 have a7:=fun i o A=>(ek hchk i o A).2.1;have bi:=fun i o A=>(ek hchk i o A).2.2;have a9:=fun i o A=>(ek hchk i o A).1;intro fuel;induction fuel with
 |zero=>
  intro listed a w _ D bp _ _;have:=vJ listed c D ops.size ah;omega
 |succ fuel ih=>
  intro listed a w a0 D bp hd ak;refine⟨fun a2=>absurd a2 (tf a7 listed a0 c ah D),fun i bb=>?_⟩;obtain⟨bc,o,A,aj⟩:=mem_ready.1 bb;have be:i<ops.size:=(Array.getElem?_eq_some_iff.1 A).1;have ai:∀e∈o.after,Region.binds .any e=AJ->E e.on a:=fun e S hb=>hd _ (aj e S hb);have bq:Region.wanted o (yielded ops a.tmps)=true:=by simp[Region.wanted,a9 i o A]
  unfold wpOp;rw[A];dsimp only;rw[AG bq];refine .inl ?_;by_cases X:i=c
  ·subst X;exact a4 o A a w ak ai _
  ·have bj:J i=false:=by
    cases hb:J i with
    |false=>rfl
    |true=>
     obtain⟨e,S,a3,bk⟩:=bi i o A hb;have:=aj e S a3;rw[bk] at this;have M:c<listed.size:=(by omega);simp[Array.getD,M] at this D;rw[this] at D;cases D
   obtain⟨v,w',bl,a8,a5,a6⟩:=bn i o A X bj a w ak ai;unfold Oper.wp;rw[bl];refine ih _ _ _ (by simpa using a0) ?_ (by have:=(vI listed i bc ops.size).1 be;omega) (fun j Z=>?_) a8
   ·have M:c<listed.size:=(by omega);simp[Array.getD,M,X] at D ⊢;exact D
   ·by_cases ab:j=i
    ·subst ab;exact a5
    ·refine a6 j ab (hd j ?_);by_cases aw:j<listed.size
     ·simp[Array.getD,aw,Ne.symm ab] at Z ⊢;exact Z
     ·simp[Array.getD,aw] at Z
theorem kD(a:Act)(d j:Nat)(v:AA)(h:j≠d):(a.put (I d) v).tmps.getD j undef=a.tmps.getD j undef:=by
 simp[Act.put,Array.getD_eq_getD_getElem?,Array.getElem?_setIfInBounds_ne (Ne.symm h)]
theorem tr(a:Act)(d:Nat)(v:AA)(h:d<a.tmps.size):(a.put (I d) v).tmps.getD d undef=v:=by
 simp[Act.put,Array.getD_eq_getD_getElem?,h]
theorem mu(c:Nat)(a0:c<ops.size)(A ak:Nat)(bp:A+ops.size<=ak)(S:List (Nat×AA))(X:List Deferred)(W:AU->Prop)(E:Nat->Option AA)(K:Nat->Bool)(bb:iX ops c K=AJ)(a8:∀p∈S,p.1<A)(be:∀(i:Nat) o,ops[i]?=I o->i≠c->K i=AK->o.dst=I (A+i))(bi:∀(i:Nat) o,ops[i]?=I o->i≠c->K i=AK->∀(a:Act) (w:AU),(∀p∈S,a.tmps.getD p.1 undef=p.2)->W w->(∀e∈o.after,Region.binds .any e=AJ->∀u,E e.on=I u->a.tmps.getD (A+e.on) undef=u)->∃v w',(execOp a.eval o).run P w=.ok (.value v) w'∧W w'∧∀u,E i=I u->v=u)(a9:∀o,ops[c]?=I o->∀(a:Act) (w:AU),(∀p∈S,a.tmps.getD p.1 undef=p.2)->a.defers=X->W w->(∀e∈o.after,Region.binds .any e=AJ->∀u,E e.on=I u->a.tmps.getD (A+e.on) undef=u)->∀M,o.wp P a w M Q)(a:Act)(w:AU)(a4:a.tmps.size=ak)(a5:a.defers=X)(a6:∀p∈S,a.tmps.getD p.1 undef=p.2)(a7:W w):wpAny P .any ops Q ops.size (Array.replicate ops.size AK) a w:=by
 refine oc c a0 (fun a w=>a.tmps.size=ak∧a.defers=X∧(∀p∈S,a.tmps.getD p.1 undef=p.2)∧W w) (fun i a=>∀u,E i=I u->a.tmps.getD (A+i) undef=u) K bb ?_ ?_ _ _ _ _ (by simp) (by simp[Array.getD,a0]) ?_ ?_ ⟨a4,a5,a6,a7⟩
 ·intro i o D a1 a2 a w ⟨aw,Z,J,ab⟩ ah;obtain⟨v,w',bj,bk,bl⟩:=bi i o D a1 a2 a w J ab ah;have hd:=be i o D a1 a2;have bn:i<ops.size:=(Array.getElem?_eq_some_iff.1 D).1;rw[hd];refine⟨v,w',bj,⟨by simpa[Act.put] using aw,Z,fun p a3=>?_,bk⟩,fun u aj=>?_,fun j ai bc u aj=>?_⟩
  ·rw[kD _ _ _ _ (by have:=a8 p a3;omega)];exact J p a3
  ·rw[tr _ _ _ (by omega)];exact bl u aj
  ·rw[kD _ _ _ _ (by omega)];exact bc u aj
 ·intro o D a w ⟨aw,Z,J,ab⟩ ah M;exact a9 o D a w J Z ab ah M
 ·have:∀n,unl (Array.replicate ops.size AK) n<=n:=by
   intro n;induction n with
   |zero=>exact gQx
   |succ n ih=>
    rw[unl];split <;> omega
  exact this _
 ·intro j ai;exfalso;by_cases h:j<ops.size
  ·simp[Array.getD,h] at ai
  ·simp[Array.getD,h] at ai
def calm(Q:Exit->Act->AU->Prop):Exit->Act->AU->Prop
 |.panic _,_,_=>False
 |e,a,w=>Q e a w
theorem iM(a:Act)(w:AU):calm Q .normal a w=Q .normal a w:=rfl
theorem pZ{c:Code}{a:Act}(h:c.wp P (calm Q) a w):c.wp P Q a w:=Code.wp_mono (fun e a w o=>by cases e <;> first | exact o | exact o.elim) h
end
end
section
open Go.RowKit
attribute [local go_sem] al
theorem ip(p q s:Addr)(x:AA)(y z:Int)(k:Int)(w:AU)(J:w.cell? p=I x)(ah:w.frozen? p=AK)(K:w.cell? q=I (px N y))(ai:w.frozen? q=AK)(M:w.cell? s=I (px N z))(aj:w.frozen? s=AK)(S:p≠q)(X:p≠s)(Z:q≠s):
  CallsD AE 184 #[O (I p),O (I q),O (I s)] (.panicking [{ v:=.iface 25 (px N k),recovered:=AK }]) w fun e E w'=>
   e=.returned (.tuple #[])∧E=.panicking [{ v:=.iface 25 (px N k),recovered:=AJ }]∧w'=(((w.setCell p (Y U 0 0)).setCell q (px N 0)).setCell s (px N k)).drew:=by
 have ab:=jn k;refine callsD_of_wpS func184 rfl fun A o D=>?_;apply wpS_seq;apply wpS_region;simp[wpOpsS,go_sem,recoverD,D,ntmps184,Exit.thenS];refine wpS_of_wp ?_;go_wp2_with fail;go_region_law (fail)
 all_goals
  show bodyPostS AE Tryz.f184 A o _ Exit.normal _ _ _;simp[bodyPostS,results,Tryz.results184]
theorem nP(p q s:Addr)(w:AU):
  CallsD AE 184 #[O (I p),O (I q),O (I s)] .returning w fun e D w'=>e=.returned (.tuple #[])∧D=.returning∧w'=w:=by
 refine callsD_of_wpS func184 rfl fun o E A=>?_;apply wpS_seq;apply wpS_region;simp[wpOpsS,go_sem,recoverD,A,ntmps184,Exit.thenS];refine wpS_of_wp ?_;go_wp2_with fail;cases o
 simp_all [bodyPostS,results,Tryz.results184]
theorem et{P:Program}{fn:Func}{p q s:Tmp}{E J K:TypeId}(h:fn.results=#[.cell p E,.cell q J,.cell s K])(tmps:AV)(w:AU)(g A D:Nat)(t:TypeId)(o:AV)(fr:Nat×Nat)(d:TypeDesc)(x y:Int)(aj:tmps.getD p undef=O (I ⟨g,0,U⟩))(Z:w.1[g]?=I (wx o t fr))(a3:P.underlying E=I d)(hd:(match d with | .struct _ | .array _ _=>AJ | _=>AK)=AJ)(ai:(P.info? E).map (·.size)=I o.size)(aw:tmps.getD q undef=O (I ⟨A,0,U⟩))(ab:w.cell? ⟨A,0,U⟩=I (px N x))(a4:P.underlying J=I (.int N))(a1:tmps.getD s undef=O (I ⟨D,0,U⟩))(ah:w.cell? ⟨D,0,U⟩=I (px N y))(a5:P.underlying K=I (.int N)):
  (results fn tmps).run P w=.ok (.tuple #[.agg o,px N x,px N y]) w:=by
 have ak:tmps[p]?.getD undef=O (I ⟨g,0,U⟩):=by simpa using aj
 have a0:tmps[q]?.getD undef=O (I ⟨A,0,U⟩):=by simpa using aw
 have a2:tmps[s]?.getD undef=O (I ⟨D,0,U⟩):=by simpa using a1
 have M:=run_loadVar_row w g t E o fr d Z a3 hd ai;have S:(loadVar J ⟨A,0,U⟩).run P w=.ok (px N x) w:=by
  simp[go_sem,isAgg,run_underlying a4,ab]
 have X:(loadVar K ⟨D,0,U⟩).run P w=.ok (px N y) w:=by
  simp[go_sem,isAgg,run_underlying a5,ah]
 simp[results,h,ak,a0,a2,asAddr,M,S,X]
structure dP(w W:AU)(v:AA)(x y:Int):Prop where
 b1:W.1[w.1.size+1]?=I (wx #[v] 64 (0,0))
 b2:W.1[w.1.size+2]?=I (wx #[px N x] 3 (0,0))
 b3:W.1[w.1.size+3]?=I (wx #[px N y] 25 (0,0))
 below:AC w.1.size w W
theorem dP.on{x:Int}(h:dP w W v x y)(hb:AC W.1.size W W'):dP w W' v x y:=by
 have o:=ap h.b1;have A:=ap h.b2;have D:=ap h.b3;exact⟨by rw[hb.block _ o];exact h.b1,by rw[hb.block _ A];exact h.b2,by rw[hb.block _ D];exact h.b3,h.below.trans (hb.mono h.below.size)⟩
theorem dP.aside{x:Int}{F:Nat->Prop}(h:dP w W v x y)(D:Aside F W W')(A:∀k,F k->w.1.size+4<=k):dP w W' v x y:=by
 have E:=ap h.b1;have J:=ap h.b2;have K:=ap h.b3;exact⟨by rw[D.block _ E (fun o=>by have:=A _ o;omega)];exact h.b1,by rw[D.block _ J (fun o=>by have:=A _ o;omega)];exact h.b2,by rw[D.block _ K (fun o=>by have:=A _ o;omega)];exact h.b3,h.below.trans (D.below h.below.size (fun k M o=>by have:=A _ o;omega))⟩
theorem dP.set1{x:Int}(h:dP w W v x y)(v':AA):dP w (W.setCell ⟨w.1.size+1,0,U⟩ v') v' x y:=by
 have J:=ap h.b1;have A:=ap h.b2;have D:=ap h.b3;have o:Aside (fun i=>i=w.1.size+1) W (W.setCell ⟨w.1.size+1,0,U⟩ v'):=am _ _ _ _;exact⟨by rw[ao h.b1 0];rfl,by rw[o.block _ A (by omega)];exact h.b2,by rw[o.block _ D (by omega)];exact h.b3,h.below.trans (o.below h.below.size (fun k E=>by omega))⟩
theorem dP.set2{x:Int}(h:dP w W v x y)(A:Int):dP w (W.setCell ⟨w.1.size+2,0,U⟩ (px N A)) v A y:=by
 have D:=ap h.b1;have K:=ap h.b2;have E:=ap h.b3;have o:Aside (fun i=>i=w.1.size+2) W (W.setCell ⟨w.1.size+2,0,U⟩ (px N A)):=am _ _ _ _;exact⟨by rw[o.block _ D (by omega)];exact h.b1,by rw[ao h.b2 0];rfl,by rw[o.block _ E (by omega)];exact h.b3,h.below.trans (o.below h.below.size (fun k J=>by omega))⟩
theorem dP.set3{x:Int}(h:dP w W v x y)(A:Int):dP w (W.setCell ⟨w.1.size+3,0,U⟩ (px N A)) v x A:=by
 have D:=ap h.b1;have E:=ap h.b2;have K:=ap h.b3;have o:Aside (fun i=>i=w.1.size+3) W (W.setCell ⟨w.1.size+3,0,U⟩ (px N A)):=am _ _ _ _;exact⟨by rw[o.block _ D (by omega)];exact h.b1,by rw[o.block _ E (by omega)];exact h.b2,by rw[ao h.b3 0];rfl,h.below.trans (o.below h.below.size (fun k J=>by omega))⟩
theorem dP.drew{x:Int}(h:dP w W v x y):dP w W.drew v x y:=⟨h.b1,h.b2,h.b3,h.below.drew⟩
theorem mg.d{L:L8}{R:Nat}{s:List Col}{m:L8}{r:Except Nat (List V×Nat)}{ys:List V}{v:AA}(h:mg L w wr R s m r ys v):dP w wr v 0 0:=⟨h.b1,h.b2,h.b3,h.below⟩
structure cS(w wr W:AU)(v:AA)(x y:Int):Prop where
 d:dP w W v x y
 aside:Aside (fun i=>w.1.size<i∧i<w.1.size+4) wr W
theorem cS.set1{x:Int}(h:cS w wr W v x y)(v':AA):cS w wr (W.setCell ⟨w.1.size+1,0,U⟩ v') v' x y:=⟨h.d.set1 v',h.aside.trans (am _ _ _ _) (fun i _ o=>by rw[o];omega)⟩
theorem cS.set2{x:Int}(h:cS w wr W v x y)(o:Int):cS w wr (W.setCell ⟨w.1.size+2,0,U⟩ (px N o)) v o y:=⟨h.d.set2 o,h.aside.trans (am _ _ _ _) (fun i _ A=>by rw[A];omega)⟩
theorem cS.set3{x:Int}(h:cS w wr W v x y)(o:Int):cS w wr (W.setCell ⟨w.1.size+3,0,U⟩ (px N o)) v x o:=⟨h.d.set3 o,h.aside.trans (am _ _ _ _) (fun i _ A=>by rw[A];omega)⟩
theorem cS.drew{x:Int}(h:cS w wr W v x y):cS w wr W.drew v x y:=⟨h.d.drew,h.aside.drew⟩
theorem uI(s:List Col)(p:OA)(aj:Nat)(l:L8)(q:OA)(d:Nat)(a:Int)(w:AU)(hF:ef w p aj s)(hQ:l.length<=140737488351232)(hR:l.length<=d)(gd:At w q l)(hG:-9223372036854775808<=a)(hH:a<=9223372036854775807):
    Calls AE 167 #[.agg #[Y p s.length aj],Y q l.length d,px N a] w (xi w (Rw.read s l a)):=by
  have kb:∀(fn:Fn) (first cap:AV) (w:AU),(Instr.makeFunc fn first cap).run AE w=.ok (.func fn first cap) w:=fun _ _ _ _=>rfl;obtain⟨h1,j3,er,gz⟩:=hF;obtain⟨r,a2⟩:∃r,r=Rw.read s l a:=⟨_,rfl⟩;have b9:=gQq (a2.trans (by rw[Rw.read]:Rw.read s l a=_));rw[<-a2];obtain⟨a6,a7⟩:∃a6,a6=(((w.alloc (wx #[Y p s.length aj] 35)).alloc (wx #[Y U 0 0] 64)).alloc (wx #[px N 0] 3)).alloc (wx #[px N 0] 25):=⟨_,rfl⟩;have hB0:AC w.1.size w a6:=by rw[a7];exact((gQy.alloc (by simp) _).alloc (by simp <;> omega) _).alloc (by simp <;> omega) _
  have e0:Hid (dP w a6 (Y U 0 0) 0 0):=by
    refine⟨?_,?_,?_,hB0⟩
    · rw[a7,ay _ _ (by simp <;> omega),ay _ _ (by simp)];have:=an (w.alloc (wx #[Y p s.length aj] 35)) (wx #[Y U 0 0] 64);simpa using this
    · rw[a7,ay _ _ (by simp)];have:=an ((w.alloc (wx #[Y p s.length aj] 35)).alloc (wx #[Y U 0 0] 64)) (wx #[px N 0] 3);simpa using this
    · have:=an (((w.alloc (wx #[Y p s.length aj] 35)).alloc (wx #[Y U 0 0] 64)).alloc (wx #[px N 0] 3)) (wx #[px N 0] 25);rw[a7];simpa using this
  have e9:Hid (a6.cell? ⟨w.1.size,0,U⟩=I (Y p s.length aj)):=by
    show a6.cell? _=_;have bX:(w.alloc (wx #[Y p s.length aj] 35)).cell? ⟨w.1.size,0,U⟩=I (Y p s.length aj):=(by simp);rw[a7];exact ae gQy (ae gQy (ae gQy bX))
  have h0:w.1.size+4<=a6.1.size:=by rw[a7];simp
  have g7:=gQq hB0;have hk:=gQq er;have eL:=gQq gd;have bl:=gQq (je s p aj a6 h1 (er.on hB0) gz);have cs:=gQq (fun h=>Sch.err_open (s:=s) h);have cw:=gQq (fun h=>Rw.types_ok (s:=s) h);obtain⟨E,gl⟩:∃E,E=Sch.err s:=⟨_,rfl⟩;rw[<-gl] at bl b9 cs cw;have e8:=gQq a7;clear a7 a2 er gz gd gl hB0
  go_enter_defers func167,ntmps167
  go_wp2_with fail;rw[<-e8.out];clear e8;refine bl.out.mono ?_;rintro e w1 ⟨rfl,dj⟩;have ai:=gQq (e0.out.on dj);have g5:=ae dj e9.out;have ky:w.1.size+4<=w1.1.size:=AT h0 dj.size;have g8:Hid (AC w.1.size w w1):=ai.out.below;clear dj bl e9 g7 e0;have gL:w1.cell? ⟨w.1.size+1,0,U⟩=I (Y U 0 0):=aa ai.out.b1 0;have gN:w1.cell? ⟨w.1.size+2,0,U⟩=I (px N 0):=aa ai.out.b2 0;have g0:w1.cell? ⟨w.1.size+3,0,U⟩=I (px N 0):=aa ai.out.b3 0;have g1:=ac ai.out.b1 0;have g2:=ac ai.out.b2 0;have g3:=ac ai.out.b3 0;by_cases bX:¬E=0
  · have c6:((E:Int) != 0)=true:=cE (by omega);have aw:Hid (r=.error E):=(by show _=_;rw[b9.out,AG bX]);have d0:=gQq (((ai.out.set1 (Y U 0 0)).set2 0).set3 E);clear b9 bX cs cw;go_wp2;have cy:=d0.out;refine⟨_,et rfl _ _ (w.1.size+1) (w.1.size+2) (w.1.size+3) _ #[Y U 0 0] _ _ 0 E rfl cy.b1 underlying64 rfl (by kernel_rfl) rfl (aa cy.b2 0) underlying3 rfl (aa cy.b3 0) underlying25,?_⟩;rw[aw.out];exact⟨rfl,cy.below⟩
  have c6:((E:Int) != 0)=false:=ca (by omega);have cu:=gQq (b9.out.trans (AF bX));have kc:s.length<=16:=(cs.out (by omega)).2.1;have d5:=gQq (cw.out (by omega));clear b9 cs bX cw
  -- a panic that goes through the door
  have d1:Hid (∀(E:Nat) (cx:AU) (v:AA) (x y:Int),r=.error E->dP w cx v x y->∀(tmps:AV) (d7:List Deferred),tmps.getD 6 undef=O (I ⟨w.1.size+1,0,U⟩)->tmps.getD 7 undef=O (I ⟨w.1.size+2,0,U⟩)->tmps.getD 8 undef=O (I ⟨w.1.size+3,0,U⟩)->d7=[{ target:=.fn (.func 184) #[O (I ⟨w.1.size+1,0,U⟩),O (I ⟨w.1.size+2,0,U⟩),O (I ⟨w.1.size+3,0,U⟩)],args:=#[] }]->bodyPostD AE Tryz.f167 (xi w r) (Exit.panic (dm E)) { tmps:=tmps,defers:=d7 } cx):=by
    intro E cx v x y ab bp tmps d7 c7 c8 d8 eb;subst eb;refine leaves_cons (f:=184) (args:=#[O (I ⟨w.1.size+1,0,U⟩),O (I ⟨w.1.size+2,0,U⟩),O (I ⟨w.1.size+3,0,U⟩)]) (by simp) (by simp[go_sem]) ?_;refine(ip ⟨w.1.size+1,0,U⟩ ⟨w.1.size+2,0,U⟩ ⟨w.1.size+3,0,U⟩ v x y E cx (aa bp.b1 0) (ac bp.b1 0) (aa bp.b2 0) (ac bp.b2 0) (aa bp.b3 0) (ac bp.b3 0) (by intro cj;injection cj;omega) (by intro cj;injection cj;omega) (by intro cj;injection cj;omega)).mono ?_;rintro e ia i0 ⟨rfl,rfl,rfl⟩;have c5:=(((bp.set1 (Y U 0 0)).set2 0).set3 E).drew;refine⟨_,et rfl tmps _ (w.1.size+1) (w.1.size+2) (w.1.size+3) _ #[Y U 0 0] _ _ 0 (E:Int) c7 c5.b1 underlying64 rfl (by kernel_rfl) c8 (aa c5.b2 0) underlying3 d8 (aa c5.b3 0) underlying25,?_⟩;rw[ab];exact⟨rfl,c5.below⟩
  have bO:=gQq (qY l q d a w.1.size w1 hQ hR (eL.out.on g8.out) (by omega) (fun en ad df=>by
    obtain⟨b,o,hZ,hb,_⟩:=aP eL.out (List.length_pos_iff.2 en);rw[hZ] at df;injection df with df;subst df
    exact hb) hG hH)
  unfold lg at bO;by_cases bn:a<0∨(l.length:Int)<a
  · have aw:Hid (r=.error 30):=(by show _=_;rw[cu.out,AG bn]);simp only[AG bn] at bO;clear cu d5;go_wp2_with fail;refine bO.out.mono ?_;rintro e w2 ⟨rfl,b4⟩;have d0:=gQq (ai.out.on b4);clear b4;go_wp2;exact d1.out 30 w2 _ _ _ aw.out d0.out _ _ rfl rfl rfl rfl
  have cb:=gQq (cu.out.trans (AF bn));simp only[AF bn] at bO;have f5:((a.toNat:Nat):Int)=a:=by omega
  have j1:a<=(l.length:Int):=by omega
  have j2:0<=a:=by omega
  have b8:=gQq f5;clear cu bn f5;go_wp2_with fail;refine bO.out.mono ?_;rintro e w2 ⟨rfl,ep,b4,k0⟩;obtain⟨m,em⟩:∃m,m=l.drop a.toNat:=⟨_,rfl⟩;rw[<-em] at cb ep;obtain⟨bv,be⟩:∃bv,bv=Rw.rd s m:=⟨_,rfl⟩;rw[<-be] at cb;have e1:Hid (mg l w w2 (w1.1.size+1) s m bv [] (Y U 0 0)):=by
    have hd:=ai.out.on b4;refine⟨hd.b1,hd.b2,hd.b3,hd.below,by omega,by omega,⟨_,_,ir _ _⟩,⟨0,by rw[List.drop_zero];exact ep,?_⟩,Nat.zero_le _⟩;rw[List.drop_zero,List.length_nil,List.drop_zero,<-be];cases bv with
    |error e=>rfl
    |ok p=>simp[glue]
  have i4:=ae b4 g5;have hf:=gQq em;have hh:=gQq be;clear ep b4 bO gL gN g0 g1 g2 g3 g5 em be;go_wp2_with fail;go_loopw [26] (fun ez wr=>∃(ys:List V) (A:OA) (c9:Nat),ez=px N ys.length∧ys.length<=s.length∧Hid (mg l w wr (w1.1.size+1) s m bv ys (Y A ys.length c9))) (fun ez _=>s.length-(intOf ez).toNat);case atStart=>exact⟨[],U,0,rfl,Nat.zero_le _,e1.out⟩
  case round=>
    obtain⟨ys,A,c9,rfl,k3,D⟩:=hrel;clear e1 i4;by_cases ck:ys.length<s.length
    · have j5:(ys.length:Int)<(s.length:Int):=(by omega);have ds:=D.out.below;obtain⟨bx,k5,k,bk,bj,bi,ih,id,ib,iy,ix,it,ic,rfl,hK,gb,gt,-⟩:=hk.out.at ys.length ck;obtain⟨fo,fq,fs,fv,fx,fy,f0,f2,f3⟩:=gb.on ds;obtain⟨wa,b7⟩:∃wa,wa=wr.alloc (wx #[.string s[ys.length].name,px N k,Y bk bj bi,.bool s[ys.length].has,px N ih,px N id,.float .f64 ib,.string iy,Y ix it ic] 104):=⟨_,rfl⟩;have ea:AC wr.1.size wr wa:=(by rw[b7];exact gQy);have hi:Hid (wa.1.size=wr.1.size+1):=(by show _=_;rw[b7];simp);have ev:wa.cell? ⟨wr.1.size,1,U⟩=I (px N k):=(by rw[b7];simp);have ew:wa.cell? ⟨wr.1.size,2,U⟩=I (Y bk bj bi):=(by rw[b7];simp);have h7:∀o,(wa.alloc o).cell? ⟨wr.1.size,1,U⟩=I (px N k):=fun o=>ae gQy ev;have h8:∀o,(wa.alloc o).cell? ⟨wr.1.size,2,U⟩=I (Y bk bj bi):=fun o=>ae gQy ew;have d6:wa.cell? ⟨w.1.size+1,0,U⟩=I (Y A ys.length c9):=ae ea (aa D.out.b1 0);have hs:∀o,(wa.alloc o).cell? ⟨w.1.size+1,0,U⟩=I (Y A ys.length c9):=fun o=>ae gQy d6;obtain⟨n,bb,cp⟩:=D.out.left;obtain⟨us,Fs,ci⟩:=D.out.built;have a5:=gQq ci;have d2:=gQq cp;have X:=gQq ea;have bl:Hid (∀W',AC wr.1.size wr W'->Calls AE 186 #[O (I ⟨w1.1.size+1,0,U⟩),.agg #[px N k,Y bk bj bi]] W' (bJ l W' w.1.size (w1.1.size+1) (m.drop n) (Sch.rdV s[ys.length].ty (m.drop n)) (isV W'))):=fun W' hb=>xN _ 1 (d5.out _ (Aw ck)) l (m.drop n) _ _ W' _ ⟨w,gt,ds.trans (hb.mono ds.size),by omega⟩ (bb.on hb)
      obtain⟨g4,dv⟩:∃x,x=Sch.rdV s[ys.length].ty (m.drop n):=⟨_,rfl⟩;rw[<-dv] at bl;have e4:=gQq dv;have hj:Hid (Rw.rd (s.drop ys.length) (m.drop n)=lo (s.drop (ys.length+1)) (m.drop n) g4):=by
        show _=_;rw[List.drop_eq_getElem_cons ck,qc,dv]
      generalize s[ys.length].name=k4 at *
      generalize s[ys.length].has=k1 at *
      have cr:=gQq b7;clear gb gt ds b7 ea bb cp ci dv hK;cases g4 with
      |error er2=>
        have aw:Hid (r=.error er2):=by
          show _=_;have bT:bv=.error er2:=(by rw[d2.out,hj.out];rfl);rw[cb.out,bT]
        obtain⟨c6,-⟩:∃c6:Nat,c6=0:=⟨_,rfl⟩;have ak:Hid (∀W' eC,AC wr.1.size wr W'->Aside (fun i=>i=w1.1.size+1) W' eC->dP w eC (Y A ys.length c9) 0 0):=fun W' eC hb a8=>(D.out.d.on hb).aside a8 (fun k b6=>by rw[b6];omega);go_wp2_with fail;rw[<-cr.out];clear cr fo fq fs fv fx fy f0 f2 f3;refine wp_region_any (by kernel_rfl) ?_
        refine mu 5 (by simp) 30 56 (by simp) [(6,O (I ⟨w.1.size+1,0,U⟩)),(7,O (I ⟨w.1.size+2,0,U⟩)),(8,O (I ⟨w.1.size+3,0,U⟩)),(10,O (I ⟨w1.1.size+1,0,U⟩)),(12,O (I ⟨wr.1.size,0,U⟩))]
          [{ target:=.fn (.func 184) #[O (I ⟨w.1.size+1,0,U⟩),O (I ⟨w.1.size+2,0,U⟩),O (I ⟨w.1.size+3,0,U⟩)],args:=#[] }] (fun w'=>AC wa.1.size wa w')
          (fun i=>match i with
            |0=>I (O (I ⟨w.1.size+1,0,U⟩))
            |1=>I (Y A ys.length c9)
            |2=>I (O (I ⟨w1.1.size+1,0,U⟩))
            |3=>I (O (I ⟨wr.1.size,1,U⟩))
            |4=>I (.agg #[px N k,Y bk bj bi])
            |_=>U) (fun i=>decide (7<i)) (by kernel_rfl) (by simp) ?_ ?_ ?_ _ _ (by rfl) (by rfl) (by simp) gQz.drew
        · intro i o ah hO el;have hN:¬7<i:=(by simpa using el);rcases(by omega:i=0∨i=1∨i=2∨i=3∨i=4∨i=6∨i=7) with rfl | rfl | rfl | rfl | rfl | rfl | rfl <;> (obtain rfl:=Option.some.inj ah;rfl)
        · intro i o ah hO el Z w' bq M b5;have hN:¬7<i:=(by simpa using el);have hA:Z.tmps[6]?.getD undef=O (I ⟨w.1.size+1,0,U⟩):=(by simpa using bq (6,O (I ⟨w.1.size+1,0,U⟩)) (by simp));have ht:Z.tmps[10]?.getD undef=O (I ⟨w1.1.size+1,0,U⟩):=(by simpa using bq (10,O (I ⟨w1.1.size+1,0,U⟩)) (by simp));have hu:Z.tmps[12]?.getD undef=O (I ⟨wr.1.size,0,U⟩):=(by simpa using bq (12,O (I ⟨wr.1.size,0,U⟩)) (by simp));have i1:=ae M d6;have i2:=ae M ev;have i3:=ae M ew;rcases(by omega:i=0∨i=1∨i=2∨i=3∨i=4∨i=6∨i=7) with rfl | rfl | rfl | rfl | rfl | rfl | rfl;all_goals simp only[List.getElem?_toArray,List.getElem?_cons_zero,List.getElem?_cons_succ,Option.some.injEq] at ah
          all_goals subst ah
          · exact⟨O (I ⟨w.1.size+1,0,U⟩),w',by simp[execOp,hA,go_sem],M,fun u J=>by injection J⟩
          · have hv:Z.tmps[30]?.getD undef=O (I ⟨w.1.size+1,0,U⟩):=(by simpa using b5 ⟨0,.data⟩ (by simp) rfl _ rfl);exact⟨Y A ys.length c9,w',by simp[execOp,hv,i1,go_sem],M,fun u J=>by injection J⟩
          · exact⟨O (I ⟨w1.1.size+1,0,U⟩),w',by simp[execOp,ht,go_sem],M,fun u J=>by injection J⟩
          · exact⟨O (I ⟨wr.1.size,1,U⟩),w',by simp[execOp,hu,go_sem],M,fun u J=>by injection J⟩
          · have hy:Z.tmps[33]?.getD undef=O (I ⟨wr.1.size,1,U⟩):=(by simpa using b5 ⟨3,.data⟩ (by simp) rfl _ rfl);exact⟨.agg #[px N k,Y bk bj bi],w',by simp[execOp,hy,i2,i3,go_sem],M,fun u J=>by injection J⟩
          · have hw:Z.tmps[31]?.getD undef=Y A ys.length c9:=(by simpa using b5 ⟨1,.data⟩ (by simp) rfl _ rfl);exact⟨px N ys.length,w',by simp[hw,go_sem],M,fun u J=>by cases J⟩
          · exact⟨Y (I ⟨w'.1.size,0,U⟩) 1 1,w'.alloc (wx iB 102),by simp[execOp,iB,go_sem],M.alloc M.size _,fun u J=>by cases J⟩
        · intro o ah Z w' bq eb M b5 K;have hx:Z.eval (.tmp 32)=O (I ⟨w1.1.size+1,0,U⟩):=by
            simp only[List.getElem?_toArray,List.getElem?_cons_zero,List.getElem?_cons_succ,Option.some.injEq] at ah;subst ah;simpa[Act.eval] using b5 ⟨2,.data⟩ (by simp) rfl _ rfl
          have hz:Z.eval (.tmp 34)=.agg #[px N k,Y bk bj bi]:=by
            simp only[List.getElem?_toArray,List.getElem?_cons_zero,List.getElem?_cons_succ,Option.some.injEq] at ah;subst ah;simpa[Act.eval] using b5 ⟨4,.data⟩ (by simp) rfl _ rfl
          simp only[List.getElem?_toArray,List.getElem?_cons_zero,List.getElem?_cons_succ,Option.some.injEq] at ah;subst ah;have gh:=X.out.trans (M.mono X.out.size);unfold Oper.wp;have ab : (execOp Z.eval { dst := I 35, op := Op.call { callee := .value (.func 186), args := #[.tmp 32, .tmp 34], argTypes := #[283, 99] }, type := 102, pos := "row.go:75", after := #[{ on := 2, ground := .data }, { on := 4, ground := .data }], guard := U }).run AE w'=.ok (.enter 186 #[O (I ⟨w1.1.size+1, 0, U⟩), .agg #[px N k, Y bk bj bi]]) w' := by
            have hM:Z.eval (.func 186)=.func (.func 186) #[] #[]:=rfl;have hL:=enters func186 (by kernel_rfl) rfl;simp[execOp,resolve,invoke,hx,hz,hM,Deferred.ofValue,hL]
          rw[ab,Oper.upon_enter];refine(bl.out w' gh).mono ?_;intro e w5 du;obtain⟨hD,hE⟩:=du.bad;subst hD;exact d1.out er2 w5 _ _ _ aw.out (ak.out _ _ gh hE) _ _ (bq (6,_) (by simp)) (bq (7,_) (by simp)) (bq (8,_) (by simp)) eb
      |ok xj=>
        obtain⟨x,j⟩:=xj;have hS:=D.out.low;have j4:=D.out.high;have hP:(ys.length:Int)<(ys.length:Int)+1:=(by omega);have e7:Hid (∀a∈iB.toList,a.oneCell'=AJ):=by
          show ∀a∈iB.toList,a.oneCell'=AJ;simp[iB,Value.oneCell']
        have ha:Hid (∀W' w5 (u:AV),AC wr.1.size wr W'->Aside (fun i=>i=w1.1.size+1) W' w5->aY w5 (fun k=>W'.1.size<=k∧k<w5.1.size) u x->aA l w5 w.1.size (w1.1.size+1) ((m.drop n).drop j)->w5.1[w.1.size+1]?=I (wx #[Y A ys.length c9] 64 (0,0))∧∀bN,AC w5.1.size w5 bN->bN.ownsRow (w1.1.size+1+1) 102 5 (Y A ys.length c9) ys.length (flat us ys.length)):=fun W' w5 u hb a8 _ _=>⟨(D.out.row a5.out hb a8 gQz).2,fun bN hJ=>(D.out.row a5.out hb a8 hJ).1⟩;go_wp2_with fail;rw[<-cr.out];clear cr fo fq fs fv fx fy f0 f2 f3;refine pZ ?_
        go_region_law (first
          | (refine de (.tmp 32) (.tmp 34) 283 99 (by rfl) (by rfl) (by rfl) (by rfl) func186 (by kernel_rfl) (by rfl) (bl.out _ (by first | exact X.out.drew | exact(X.out.alloc X.out.size _).drew | exact X.out.drew.alloc X.out.size _)) ?_;intro e w5 du;obtain⟨v,ab,eq,bb,a8⟩:=du.good;obtain⟨u,eq,co⟩:=eq.open;clear du;obtain⟨h4,h3,hl,h9,h6,h5,hr,J⟩:=co.shape;subst J;subst eq;have ct:Hid (∃W',AC wr.1.size wr W'∧Aside (fun i=>i=w1.1.size+1) W' w5∧aY w5 (fun k=>W'.1.size<=k∧k<w5.1.size) (cells5 h4 h3 hl h9 h6 h5 hr) x∧aA l w5 w.1.size (w1.1.size+1) ((m.drop n).drop j)):=⟨_,by first | exact X.out.drew | exact(X.out.alloc X.out.size _).drew | exact X.out.drew.alloc X.out.size _,a8,co,bb⟩;have fc:Hid (∀k C,_->k≠w1.1.size+1->w5.1[k]?=I C):=fun k C b6 en=>(a8.block k (ap b6) en).trans b6;unfold cells5 at ab;refine⟨_,ab,?_⟩;clear ab bb a8 co;obtain⟨fi,a1,a0,a9,bc⟩:=ct.out;have eg:=ha.out _ _ _ a1 a0 a9 bc;have g6:w5.cell? ⟨w.1.size+1,0,U⟩=I (Y A ys.length c9):=aa eg.1 0;have i5:∀o,(w5.alloc o).cell? ⟨w.1.size+1,0,U⟩=I (Y A ys.length c9):=fun o=>ae gQy g6;have d3:=gQq eg.2;have d4:Hid (wr.1.size<=w5.1.size):=AT a1.size a0.size;clear a1 a0 a9 bc eg)
          | (refine kw (B:=w1.1.size+1+1) (us:=us) (v:=Y A ys.length c9) (n:=ys.length) (u:=iB) (ad:=wa.1.size) (H:=w5.1.size) (d3.out _ gQz) rfl e7.out (fc.out wa.1.size _ (an wa _) (by have:=hi.out;omega)) (by omega) (by have:=d4.out;omega) rfl (.tmp 31) (.tmp 37) (by rfl) (by rfl) (by rfl) (by rfl) ?_;intro g cap bN a2 bs cn;obtain⟨fi,a1,a0,a9,bc⟩:=ct.out;obtain⟨S,p2,p3,p4,a3⟩:=D.out.next a5.out ck d2.out e4.out.symm a1 a0 a9 bc gQz a2 bs cn;obtain⟨hm,c0⟩:=S 0 (by omega);obtain⟨hn,c1⟩:=S 1 (by omega);obtain⟨ho,c2⟩:=S 2 (by omega);obtain⟨hp,c3⟩:=S 3 (by omega);obtain⟨hq,c4⟩:=S 4 (by omega);rw[Nat.add_zero] at c0;have f6:=p2 (ys.length*5);have f1:=p2 (ys.length*5+1);have f7:=p2 (ys.length*5+2);have f8:=p2 (ys.length*5+3);have f9:=p2 (ys.length*5+4);have bT:bN.cell? ⟨w.1.size+1,0,U⟩=I (Y A ys.length c9):=aa p4 0;have f4:=ac p4 0;have hW:¬g=w.1.size+1:=(by omega);have hX:¬w.1.size+1=g:=(by omega);have a4:=a3;rw[<-jw _ _ _ _ _ _ _ _ _ _ (by omega)] at a4;unfold fa at a3 a4;have e5:=gQq a3;have e6:=gQq a4;clear S p2 p4 a3 a4 a2 bs cn a1 a0 a9 bc)
          | (refine kw (B:=w1.1.size+1+1) (us:=us) (v:=Y A ys.length c9) (n:=ys.length) (u:=iB) (ad:=w5.1.size) (H:=w5.1.size+1) (d3.out _ gQy) rfl e7.out (an w5 _) (by omega) (by have:=d4.out;simp;omega) (by simp) (.tmp 31) (.tmp 37) (by rfl) (by rfl) (by rfl) (by rfl) ?_;intro g cap bN a2 bs cn;obtain⟨fi,a1,a0,a9,bc⟩:=ct.out;obtain⟨S,p2,p3,p4,a3⟩:=D.out.next a5.out ck d2.out e4.out.symm a1 a0 a9 bc gQy a2 bs (by simpa using cn);obtain⟨hm,c0⟩:=S 0 (by omega);obtain⟨hn,c1⟩:=S 1 (by omega);obtain⟨ho,c2⟩:=S 2 (by omega);obtain⟨hp,c3⟩:=S 3 (by omega);obtain⟨hq,c4⟩:=S 4 (by omega);rw[Nat.add_zero] at c0;have f6:=p2 (ys.length*5);have f1:=p2 (ys.length*5+1);have f7:=p2 (ys.length*5+2);have f8:=p2 (ys.length*5+3);have f9:=p2 (ys.length*5+4);have bT:bN.cell? ⟨w.1.size+1,0,U⟩=I (Y A ys.length c9):=aa p4 0;have f4:=ac p4 0;have hW:¬g=w.1.size+1:=(by omega);have hX:¬w.1.size+1=g:=(by omega);have a4:=a3;rw[<-jw _ _ _ _ _ _ _ _ _ _ (by omega)] at a4;unfold fa at a3 a4;have e5:=gQq a3;have e6:=gQq a4;clear S p2 p4 a3 a4 a2 bs cn a1 a0 a9 bc)
          |fail)
        all_goals
          rw[iM];clear c0 c1 c2 c3 c4 f6 f1 f7 f8 f9 bT f4 g6 i5 d3 fc d4 ct ev ew h7 h8 d6 hs hP;go_wp2;go_roundw;case rel=>
            refine⟨ys++[x],I ⟨g,0,U⟩,cap,by simp,by simp;omega,?_⟩;rw[AH,AO]
            first
              |with_reducible exact e5
              |with_reducible exact e6
          case measure=>simp[intOf];omega
    · have ka:¬(ys.length:Int)<(s.length:Int):=(by omega);have h2:ys.length=s.length:=(by omega);obtain⟨n,bb,cp⟩:=D.out.left;have be:bv=.ok (ys,n):=by
        rw[cp,List.drop_eq_nil_of_le (by omega)];simp[Rw.rd,glue]
      have gs:Rw.rd s m=.ok (ys,n):=(by rw[<-hh.out];exact be);obtain⟨-,hV,⟨rest,gm⟩,-,-⟩:=Rw.rd_ok s m ys n d5.out gs;have hY:n<=m.length:=(by rw[gm,AH];omega);obtain⟨T,k7,j0,pos,d9,gq⟩:=bb.out;have hT:m.length=l.length-a.toNat:=(by rw[hf.out,AL]);have gn:pos=a.toNat+n:=by
        have bn:=congrArg List.length gq;rw[AL,AL] at bn;have c7:=d9.pos;have c8:=b8.out;omega
      have k8:wr.cell? ⟨w1.1.size+1,2,U⟩=I (px N ((pos:Nat):Int)):=aa d9.b0 2;have k2:IntKind.i64.wrap ((pos:Int)-a)=(n:Int):=(by rw[IntKind.wrap_i64];have:=b8.out;omega);have cv:Hid (r=if 1024<n then .error 2 else .ok (ys,a.toNat+n)):=(by show _=_;rw[cb.out,be]);have hg:=gQq gn;have kk:-9223372036854775808<=(pos:Int)-a:=(by have:=b8.out;omega);have kx:(pos:Int)-a<=9223372036854775807:=(by have:=b8.out;omega);have kd:(pos:Int)-a=(n:Int):=(by have:=b8.out;omega);have he:Hid (cS w wr wr (Y A ys.length c9) 0 0):=⟨D.out.d,Aside.refl _ _⟩;have hS:=D.out.low;obtain⟨us,Fs,ci⟩:=D.out.built;have a5:=gQq ci;have ak:=gQq D.out.d;have gL:wr.cell? ⟨w.1.size+1,0,U⟩=I (Y A ys.length c9):=aa ak.out.b1 0;have gN:wr.cell? ⟨w.1.size+2,0,U⟩=I (px N 0):=aa ak.out.b2 0;have g0:wr.cell? ⟨w.1.size+3,0,U⟩=I (px N 0):=aa ak.out.b3 0;have g1:=ac ak.out.b1 0;have g2:=ac ak.out.b2 0;have g3:=ac ak.out.b3 0;clear bb cp be gs hV gm hY d9 gq hT gn ci D cb h2;by_cases dr:1024<n
      · have aw:Hid (r=.error 2):=cv.out.trans (AG dr);have hB:decide ((n:Int)<=1024)=false:=AP (by omega);have hC:decide ((pos:Int)-a<=1024)=false:=AP (by omega);clear cv dr;go_wp2_with fail;refine(cO _ 2 _).mono ?_;rintro e w5 ⟨rfl,cq⟩;rw[cq];clear cq w5;go_wp2;exact d1.out 2 wr _ _ _ aw.out ak.out _ _ rfl rfl rfl rfl
      · have aw:Hid (r=.ok (ys,a.toNat+n)):=cv.out.trans (AF dr);have hB:decide ((n:Int)<=1024)=true:=AR (by omega);have hC:decide ((pos:Int)-a<=1024)=true:=AR (by omega);have hc:Hid (∀(cc:AU) (tmps:AV),cS w wr cc (Y A ys.length c9) pos 0->tmps.getD 6 undef=O (I ⟨w.1.size+1,0,U⟩)->tmps.getD 7 undef=O (I ⟨w.1.size+2,0,U⟩)->tmps.getD 8 undef=O (I ⟨w.1.size+3,0,U⟩)->∃v,(results Tryz.f167 tmps).run AE cc=.ok v cc∧xi w r (.returned v) cc):=by
          intro cc tmps cd c7 c8 d8;refine⟨_,et rfl tmps _ (w.1.size+1) (w.1.size+2) (w.1.size+3) _ #[Y A ys.length c9] _ _ pos 0 c7 cd.d.b1 underlying64 rfl (by kernel_rfl) c8 (aa cd.d.b2 0) underlying3 d8 (aa cd.d.b3 0) underlying25,?_⟩;rw[aw.out];have hI:=a5.out.aside cd.aside (fun g bs ab=>by have:=(a5.out.lt g bs).1;omega) (fun i ec k b6 ab=>by have:=(a5.out.range i ec k b6).1;omega);obtain⟨p2,c2,ab,co⟩:=hI.done (by omega) 0 0 0 ⟨#[]⟩;injection ab with bT e2 e3;subst bT e3;exact⟨A,c9,by rw[hg.out],co.mono (fun i ec=>⟨by omega,ec.2⟩),cd.d.below⟩
        clear cv dr;go_wp2_with fail;refine(dk _ 2 _).mono ?_;rintro e w5 ⟨rfl,cq⟩;rw[cq];clear cq w5;go_wp2_with fail;refine pZ ?_;go_region_law (fail)
        all_goals
          rw[iM];go_wp2;refine leaves_cons (f:=184) (args:=#[O (I ⟨w.1.size+1,0,U⟩),O (I ⟨w.1.size+2,0,U⟩),O (I ⟨w.1.size+3,0,U⟩)]) (by simp) (by simp[go_sem]) ?_;refine(nP ⟨w.1.size+1,0,U⟩ ⟨w.1.size+2,0,U⟩ ⟨w.1.size+3,0,U⟩ _).mono ?_;rintro e ia i0 ⟨rfl,rfl,rfl⟩;refine hc.out _ _ ?_ rfl rfl rfl;exact(((he.out.set1 _).set2 _).set3 _).drew
end
end Go.Proofs.YtngmnfdaedlodaaGreatDoor

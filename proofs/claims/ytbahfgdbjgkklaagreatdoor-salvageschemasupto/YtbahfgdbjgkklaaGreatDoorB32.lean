import Derived.Test.YtbahfgdbjgkklaaGreatDoorB31
import Derived.Test.YtbahfgdbjgkklaaGreatDoorB19
set_option maxRecDepth 100000
set_option maxHeartbeats 20000000
namespace Go.Proofs.YtbahfgdbjgkklaaGreatDoor
variable{W W' w wr:World}{v:Value}{y:Int}
section
open Go.RowKit
attribute [local go_sem] af
theorem cI(w:World)(g D j E:Nat)(u v:Value)(h:g≠j):(w.setCell ⟨j,E,none⟩ u).setCell ⟨g,D,none⟩ v=(w.setCell ⟨g,D,none⟩ v).setCell ⟨j,E,none⟩ u:=by
 unfold World.setCell;congr 1;apply Array.ext
 ·simp
 ·intro i I J;simp only[Array.getElem_modify];by_cases z:g=i
  ·by_cases o:j=i
   ·omega
   ·simp[z,o]
  ·by_cases o:j=i
   ·simp[z,o]
   ·simp[z,o]
theorem j8(w:World)(g o j:Nat)(k i:Int)(b:Nat)(t:ByteArray)(s u:Value)(h:g≠j):fI (w.setCell ⟨j,0,none⟩ u) g o k i b t s=(fI w g o k i b t s).setCell ⟨j,0,none⟩ u:=by
 unfold fI;rw[cI _ _ _ _ _ _ _ h,cI _ _ _ _ _ _ _ h,cI _ _ _ _ _ _ _ h,cI _ _ _ _ _ _ _ h,cI _ _ _ _ _ _ _ h]
structure mY(L:L8)(w wr:World)(R:Nat)(s:List Col)(m:L8)(r:Except Nat (List V×Nat))(ys:List V)(v:Value):Prop where
 b1:wr.1[w.1.size+1]?=some (.cells #[v] 82 (0,0))
 b2:wr.1[w.1.size+2]?=some (.cells #[.int .i64 0] 3 (0,0))
 b3:wr.1[w.1.size+3]?=some (.cells #[.int .i64 0] 68 (0,0))
 below:Below w.1.size w wr
 low:w.1.size+4<=R
 high:R<wr.1.size
 built:∃us Fs,aZ wr (R+1) v ys.length us Fs ys
 left:∃n,aD L wr w.1.size R (m.drop n)∧r=glue ys n (Rw.rd (s.drop ys.length) (m.drop n))
 len:ys.length<=s.length
def iO:AV:=#[.int .i64 0,.int .i64 0,.float .f64 0,.string ⟨#[]⟩,.slice none 0 0]
section
variable {L:L8} {w wr wa w2 w3 w4:World} {R:Nat} {s:List Col} {m:L8} {r:Except Nat (List V×Nat)} {ys:List V} {v:Value} {us:Nat->AV} {Fs:Nat->Nat->Prop} {n j:Nat} {x:V} {k i:Int} {b:Nat} {t:ByteArray} {q:OA} {nn c:Nat}
theorem mY.row(h:mY L w wr R s m r ys v)(J:aZ wr (R+1) v ys.length us Fs ys)(o:Below wr.1.size wr wa)(D:Aside (fun i=>i=R) wa w2)(I:Below w2.1.size w2 w3):w3.ownsRow (R+1) 38 5 v ys.length (flat us ys.length)∧w2.1[w.1.size+1]?=some (.cells #[v] 82 (0,0)):=by
 have X:=h.low;have U:=h.high;have Y:=o.size;have z:aZ wa (R+1) v ys.length us Fs ys:=J.on o;have E:aZ w2 (R+1) v ys.length us Fs ys:=z.aside D (fun g M K=>by have:=(z.lt g M).1;omega) (fun i O k S K=>by have:=(z.range i O k S).1;omega);refine⟨(E.on I).row,?_⟩;rw[D.block _ (by omega) (by omega),o.block _ (by omega)];exact h.b1
theorem mY.next(h:mY L w wr R s m r ys v)(a2:aZ wr (R+1) v ys.length us Fs ys)(bj:ys.length<s.length)(be:r=glue ys n (Rw.rd (s.drop ys.length) (m.drop n)))(br:Sch.rdV s[ys.length].ty (m.drop n)=.ok (x,j))(M:Below wr.1.size wr wa)(K:Aside (fun i=>i=R) wa w2)(bk:aO w2 (fun k=>wa.1.size<=k∧k<w2.1.size) (cells5 k i b t q nn c) x)(bn:aD L w2 w.1.size R ((m.drop n).drop j))(I:Below w2.1.size w2 w3){g cap:Nat}(aj:w4.ownsRow (R+1) 38 5 (.slice (some ⟨g,0,none⟩) (ys.length+1) cap) (ys.length+1) (flat us ys.length++iO.toList))(E:w3.grownBy w4 v.ownBlock)(S:v.ownBlock=some g∨g=w3.1.size):
  (∀j,j<5->∃z,w4.cell? ⟨g,ys.length*5+j,none⟩=some z)∧(∀j,w4.frozen? ⟨g,j,none⟩=false)∧R<g∧w4.1[w.1.size+1]?=some (.cells #[v] 82 (0,0)) ∧
  mY L w ((fI w4 g (ys.length*5) k i b t (.slice q nn c)).setCell ⟨w.1.size+1,0,none⟩ (.slice (some ⟨g,0,none⟩) (ys.length+1) cap)) R s m r (ys++[x]) (.slice (some ⟨g,0,none⟩) (ys.length+1) cap):=by
 have bi:=h.low;have b6:=h.high;have ca:=M.size;have b7:=K.size;have b8:=I.size;have b9:=E.size;have U:aZ wa (R+1) v ys.length us Fs ys:=a2.on M;obtain⟨bX,bs,a4,bN⟩:=K.split (by omega);have a7:aZ bX (R+1) v ys.length us Fs ys:=U.aside bs (fun g E O=>by have:=(U.lt g E).1;omega) (fun i ah k o O=>by have:=(U.range i ah k o).1;omega);have a8:(flat us ys.length).length=ys.length*5:=by
  have:=a2.row.1;exact this
 obtain⟨bO,p2,p3⟩:=pY (z0:=.int .i64 0) (z1:=.int .i64 0) (z2:=.float .f64 0) (z3:=.string ⟨#[]⟩) (z4:=.slice none 0 0) a8 aj k i b t q nn c;have bb:R<g:=(aj.lt g rfl).1;have b5:g<w4.1.size:=(aj.lt g rfl).2;obtain⟨w5,Y⟩:∃w5,w5=fI w4 g (ys.length*5) k i b t (.slice q nn c):=⟨_,rfl⟩;have J:Aside (fun j=>j=g) w4 w5:=by rw[Y];exact oe _ _ _ _ _ _ _ _
 have cb:w5.1.size=w4.1.size:=by rw[Y];exact pX _ _ _ _ _ _ _ _
 have hg5:w3.grownBy w5 v.ownBlock:=by
  refine⟨J.os.trans E.os,J.tape.trans E.tape,J.output.trans E.output,by omega,fun k o X=>?_⟩;rw[J.block k (by omega) (fun O=>?_)]
  ·exact E.block k o X
  ·rcases S with S | S
   ·exact X (by rw[S,O])
   ·omega
 rw[<-Y] at p3;have ak:=a7.step bN bk (fun k o=>⟨by rw[a4];exact o.1,o.2⟩) I (by rw[a4];omega) p3 hg5 S;have a3:=fun k (o:v.ownBlock=some k)=>(U.lt k o)
 -- what lies below stays
 have keep:∀k,k<=R->k≠R->k<wr.1.size->w5.1[k]?=wr.1[k]?:=fun k o X bc=>by
  rw[J.block k (by omega) (by omega),E.block k (by omega) (fun ab=>by have:=(a3 k ab.symm).1;omega),I.block k (by omega),K.block k (by omega) X,M.block k bc]
 have a0:w5.1[w.1.size+1]?=some (.cells #[v] 82 (0,0)):=(keep _ (by omega) (by omega) (by omega)).trans h.b1;have bT:w4.1[w.1.size+1]?=some (.cells #[v] 82 (0,0)):=by
  rw[<-J.block _ (by omega) (by omega)];exact a0
 have a5:Aside (fun k=>R<k) w2 w5:=by
  refine(al I (fun k=>R<k)).trans (G:=fun k=>R<k) ⟨hg5.os,hg5.tape,hg5.output,hg5.size,fun k o b4=>hg5.block k o (fun ab=>?_)⟩ (fun _ _ h=>h);have:=(a3 k ab.symm).1;omega
 have bp:aD L w5 w.1.size R ((m.drop n).drop j):=bn.aside a5 (fun k o=>o);obtain⟨a1,Z⟩:∃a1,a1=w5.setCell ⟨w.1.size+1,0,none⟩ (.slice (some ⟨g,0,none⟩) (ys.length+1) cap):=⟨_,rfl⟩;have D:Aside (fun j=>j=w.1.size+1) w5 a1:=by rw[Z];exact ag _ _ _ _
 have cc:=D.size;rw[<-Y,<-Z];refine⟨bO,p2,bb,bT,?_⟩;have bq:=ak.aside D (fun a6 a9 O=>by have:=(ak.lt a6 a9).1;omega) (fun i ah k o O=>by have:=(ak.range i ah k o).1;omega);refine⟨?_,?_,?_,?_,bi,by omega,⟨_,_,by rw[List.length_append,List.length_singleton];exact bq⟩,⟨n+j,?_,?_⟩,by rw[List.length_append,List.length_singleton];omega⟩
 ·rw[Z,ai a0 0];rfl
 ·rw[D.block _ (by omega) (by omega),keep _ (by omega) (by omega) (by omega)];exact h.b2
 ·rw[D.block _ (by omega) (by omega),keep _ (by omega) (by omega) (by omega)];exact h.b3
 ·refine⟨?_,?_,?_,by have:=h.below.size;omega,fun k o=>?_⟩
  ·rw[D.os,hg5.os,I.os,K.os,M.os];exact h.below.os
  ·rw[D.tape,hg5.tape,I.tape,K.tape,M.tape];exact h.below.tape
  ·rw[D.output,hg5.output,I.output,K.output,M.output];exact h.below.output
  ·rw[D.block k (by omega) (by omega),keep k (by omega) (by omega) (by omega)];exact h.below.block k o
 ·rw[<-List.drop_drop,Z];exact bp.set a0 (by simp) (by omega) (by omega) 0 _
 ·rw[be,List.length_append,List.length_singleton,List.drop_eq_getElem_cons bj,qM,br,ma,eS,List.drop_drop]
end
end
section
open Go.RowKit
def unl(listed:Array Bool):Nat->Nat
 |0=>0
 |n+1=>unl listed n+if listed.getD n true then 0 else 1
theorem wy(listed:Array Bool)(i:Nat)(z:listed.getD i true=false):∀n,(i<n->unl (listed.setIfInBounds i true) n+1<=unl listed n)∧unl (listed.setIfInBounds i true) n<=unl listed n:=by
 have E:i<listed.size:=by
  by_cases h:i<listed.size
  ·exact h
  ·simp[Array.getD,h] at z
 intro n;induction n with
 |zero=>exact⟨fun h=>absurd h (by omega),gQx⟩
 |succ n ih=>
  have e:(listed.setIfInBounds i true).getD n true=if n=i then true else listed.getD n true:=by
   by_cases o:n=i
   ·subst o;simp[Array.getD,E]
   ·rw[if_neg o];by_cases D:n<listed.size
    ·simp[Array.getD,D,Ne.symm o]
    ·simp[Array.getD,D]
  simp only[unl,e];by_cases o:n=i
  ·subst o;rw[if_pos rfl,z];simp only[Bool.false_eq_true,if_false,if_true];exact⟨fun _=>by have:=ih.2;omega,by have:=ih.2;omega⟩
  ·rw[if_neg o];exact⟨fun h=>by have:=ih.1 (by omega);omega,by have:=ih.2;omega⟩
theorem wA(listed:Array Bool)(c:Nat)(o:listed.getD c true=false):∀n,c<n->0<unl listed n:=by
 intro n;induction n with
 |zero=>intro h;omega
 |succ n ih=>
  intro h;rw[unl];by_cases z:c=n
  ·subst z;rw[o];simp
  ·have:=ih (by omega);omega
section
variable {P:Program} {ops:Array Oper} {Q:Exit->Act->World->Prop}
theorem tR(K:∀(i:Nat) D,ops[i]?=some D->∀e∈D.after,Region.binds .any e=true->e.on<i)(listed:Array Bool)(Y:listed.size=ops.size):∀c,c<ops.size->listed.getD c true=false->Region.ready .any ops listed≠[]:=by
 intro c;induction c using Nat.strongRecOn with
 |_ c ih=>
  intro o S;by_cases h:∃j,j<c∧listed.getD j true=false
  ·obtain⟨j,M,O⟩:=h;exact ih j M (by omega) O
  ·intro I;have z:c∈Region.ready .any ops listed:=by
    rw[mem_ready];refine⟨S,ops[c],Array.getElem?_eq_getElem o,fun e J E=>?_⟩;have U:=K c _ (Array.getElem?_eq_getElem o) e J E;cases hb:listed.getD e.on true with
    |false=>exact absurd ⟨e.on,U,hb⟩ h
    |true=>
     have X:e.on<listed.size:=(by omega);simp[Array.getD,X] at hb ⊢;exact hb
   rw[I] at z;cases z
def jp(ops:Array Oper)(c:Nat)(late:Nat->Bool):Bool:=(List.range ops.size).all fun i=>match ops[i]? with
 |some o=>o.guard.isNone&&o.after.all (fun e=>!Region.binds .any e||decide (e.on<i))&&(!late i||o.after.any (fun e=>Region.binds .any e&&e.on==c))
 |none=>true
theorem fj{c:Nat}{J:Nat->Bool}(h:jp ops c J=true)(i:Nat)(z:Oper)(I:ops[i]?=some z):z.guard=none∧(∀e∈z.after,Region.binds .any e=true->e.on<i)∧(J i=true->∃e∈z.after,Region.binds .any e=true∧e.on=c):=by
 unfold jp at h;have o:=List.all_eq_true.1 h i (List.mem_range.2 (Array.getElem?_eq_some_iff.1 I).1);rw[I] at o;simp only[Bool.and_eq_true,Bool.or_eq_true,Bool.not_eq_true',Array.all_eq_true_iff_forall_mem,decide_eq_true_eq,Array.any_eq_true',beq_iff_eq,Option.isNone_iff_eq_none] at o;refine⟨o.1.1,fun e D hb=>(o.1.2 e D).resolve_left (by rw[hb];exact Bool.noConfusion),fun K=>?_⟩;rcases o.2 with E | ⟨e,D,hb,M⟩
 ·rw[K] at E;cases E
 ·exact⟨e,D,hb,M⟩
theorem oX(c:Nat)(X:c<ops.size)(G:Act->World->Prop)(E:Nat->Act->Prop)(I:Nat->Bool)(J:jp ops c I=true)(bk:∀(i:Nat) o,ops[i]?=some o->i≠c->I i=false->∀a w,G a w->(∀e∈o.after,Region.binds .any e=true->E e.on a)->∃v w',(execOp a.eval o).run P w=.ok (.value v) w'∧G (a.put o.dst v) w'∧E i (a.put o.dst v)∧∀j,j≠i->E j a->E j (a.put o.dst v))(a2:∀o,ops[c]?=some o->∀a w,G a w->(∀e∈o.after,Region.binds .any e=true->E e.on a)->∀K,o.wp P a w K Q):
  ∀fuel listed a w,listed.size=ops.size->listed.getD c true=false->unl listed ops.size<=fuel->(∀j,listed.getD j false=true->E j a)->G a w->wpAny P .any ops Q fuel listed a w:=by
 have a5:=fun i o z=>(fj J i o z).2.1;have bc:=fun i o z=>(fj J i o z).2.2;have a7:=fun i o z=>(fj J i o z).1;intro fuel;induction fuel with
 |zero=>
  intro listed a w _ D bn _ _;have:=wA listed c D ops.size X;omega
 |succ fuel ih=>
  intro listed a w aj D bn hd ab;refine⟨fun a0=>absurd a0 (tR a5 listed aj c X D),fun i a8=>?_⟩;obtain⟨a9,o,z,Z⟩:=mem_ready.1 a8;have bb:i<ops.size:=(Array.getElem?_eq_some_iff.1 z).1;have Y:∀e∈o.after,Region.binds .any e=true->E e.on a:=fun e M hb=>hd _ (Z e M hb);have bp:Region.wanted o (yielded ops a.tmps)=true:=by simp[Region.wanted,a7 i o z]
  unfold wpOp;rw[z];dsimp only;rw[if_pos bp];refine .inl ?_;by_cases O:i=c
  ·subst O;exact a2 o z a w ab Y _
  ·have be:I i=false:=by
    cases hb:I i with
    |false=>rfl
    |true=>
     obtain⟨e,M,a1,bi⟩:=bc i o z hb;have:=Z e M a1;rw[bi] at this;have hcs:c<listed.size:=(by omega);simp[Array.getD,hcs] at this D;rw[this] at D;cases D
   obtain⟨v,w',bj,a6,a3,a4⟩:=bk i o z O be a w ab Y;unfold Oper.wp;rw[bj];refine ih _ _ _ (by simpa using aj) ?_ (by have:=(wy listed i a9 ops.size).1 bb;omega) (fun j S=>?_) a6
   ·have hcs:c<listed.size:=(by omega);simp[Array.getD,hcs,O] at D ⊢;exact D
   ·by_cases U:j=i
    ·subst U;exact a3
    ·refine a4 j U (hd j ?_);by_cases ah:j<listed.size
     ·simp[Array.getD,ah,Ne.symm U] at S ⊢;exact S
     ·simp[Array.getD,ah] at S
theorem lz(a:Act)(d j:Nat)(v:Value)(h:j≠d):(a.put (some d) v).tmps.getD j undef=a.tmps.getD j undef:=by
 simp[Act.put,Array.getD_eq_getD_getElem?,Array.getElem?_setIfInBounds_ne (Ne.symm h)]
theorem tW(a:Act)(d:Nat)(v:Value)(h:d<a.tmps.size):(a.put (some d) v).tmps.getD d undef=v:=by
 simp[Act.put,Array.getD_eq_getD_getElem?,h]
theorem nd(c:Nat)(aj:c<ops.size)(z ab:Nat)(bn:z+ops.size<=ab)(S:List (Nat×Value))(M:List Deferred)(W:World->Prop)(E:Nat->Option Value)(J:Nat->Bool)(a8:jp ops c J=true)(a6:∀p∈S,p.1<z)(bb:∀(i:Nat) o,ops[i]?=some o->i≠c->J i=false->o.dst=some (z+i))(bc:∀(i:Nat) o,ops[i]?=some o->i≠c->J i=false->∀(a:Act) (w:World),(∀p∈S,a.tmps.getD p.1 undef=p.2)->W w->(∀e∈o.after,Region.binds .any e=true->∀u,E e.on=some u->a.tmps.getD (z+e.on) undef=u)->∃v w',(execOp a.eval o).run P w=.ok (.value v) w'∧W w'∧∀u,E i=some u->v=u)(a7:∀o,ops[c]?=some o->∀(a:Act) (w:World),(∀p∈S,a.tmps.getD p.1 undef=p.2)->a.defers=M->W w->(∀e∈o.after,Region.binds .any e=true->∀u,E e.on=some u->a.tmps.getD (z+e.on) undef=u)->∀K,o.wp P a w K Q)(a:Act)(w:World)(a2:a.tmps.size=ab)(a3:a.defers=M)(a4:∀p∈S,a.tmps.getD p.1 undef=p.2)(a5:W w):wpAny P .any ops Q ops.size (Array.replicate ops.size false) a w:=by
 refine oX c aj (fun a w=>a.tmps.size=ab∧a.defers=M∧(∀p∈S,a.tmps.getD p.1 undef=p.2)∧W w) (fun i a=>∀u,E i=some u->a.tmps.getD (z+i) undef=u) J a8 ?_ ?_ _ _ _ _ (by simp) (by simp[Array.getD,aj]) ?_ ?_ ⟨a2,a3,a4,a5⟩
 ·intro i o D ak a0 a w ⟨ah,O,I,U⟩ X;obtain⟨v,w',be,bi,bj⟩:=bc i o D ak a0 a w I U X;have hd:=bb i o D ak a0;have bk:i<ops.size:=(Array.getElem?_eq_some_iff.1 D).1;rw[hd];refine⟨v,w',be,⟨by simpa[Act.put] using ah,O,fun p a1=>?_,bi⟩,fun u Z=>?_,fun j Y a9 u Z=>?_⟩
  ·rw[lz _ _ _ _ (by have:=a6 p a1;omega)];exact I p a1
  ·rw[tW _ _ _ (by omega)];exact bj u Z
  ·rw[lz _ _ _ _ (by omega)];exact a9 u Z
 ·intro o D a w ⟨ah,O,I,U⟩ X K;exact a7 o D a w I O U X K
 ·have:∀n,unl (Array.replicate ops.size false) n<=n:=by
   intro n;induction n with
   |zero=>exact gQx
   |succ n ih=>
    rw[unl];split <;> omega
  exact this _
 ·intro j Y;exfalso;by_cases h:j<ops.size
  ·simp[Array.getD,h] at Y
  ·simp[Array.getD,h] at Y
def zK(Q:Exit->Act->World->Prop):Exit->Act->World->Prop
 |.panic _,_,_=>False
 |e,a,w=>Q e a w
theorem jc(a:Act)(w:World):zK Q .normal a w=Q .normal a w:=rfl
theorem qF{c:Code}{a:Act}(h:c.wp P (zK Q) a w):c.wp P Q a w:=Code.wp_mono (fun e a w o=>by cases e <;> first | exact o | exact o.elim) h
end
end
section
open Go.RowKit
attribute [local go_sem] af
theorem iH(p q s:Addr)(x:Value)(y I:Int)(k:Int)(w:World)(J:w.cell? p=some x)(Y:w.frozen? p=false)(K:w.cell? q=some (.int .i64 y))(Z:w.frozen? q=false)(M:w.cell? s=some (.int .i64 I))(ab:w.frozen? s=false)(O:p≠q)(S:p≠s)(U:q≠s):
  CallsD Tryz.prog 139 #[.pointer (some p),.pointer (some q),.pointer (some s)] (.panicking [{ v:=.iface 68 (.int .i64 k),recovered:=false }]) w fun e E w'=>
   e=.returned (.tuple #[])∧E=.panicking [{ v:=.iface 68 (.int .i64 k),recovered:=true }]∧w'=(((w.setCell p (.slice none 0 0)).setCell q (.int .i64 0)).setCell s (.int .i64 k)).drew:=by
 have X:=jP k;refine callsD_of_wpS Tryz.func139 rfl fun z o D=>?_;apply wpS_seq;apply wpS_region;simp[wpOpsS,go_sem,recoverD,D,Tryz.ntmps139,Exit.thenS];refine wpS_of_wp ?_;go_wp2_with fail;go_region_law (fail)
 all_goals
  show bodyPostS Tryz.prog Tryz.f139 z o _ Exit.normal _ _ _;simp[bodyPostS,results,Tryz.results139]
theorem oI(p q s:Addr)(w:World):
  CallsD Tryz.prog 139 #[.pointer (some p),.pointer (some q),.pointer (some s)] .returning w fun e D w'=>e=.returned (.tuple #[])∧D=.returning∧w'=w:=by
 refine callsD_of_wpS Tryz.func139 rfl fun o E z=>?_;apply wpS_seq;apply wpS_region;simp[wpOpsS,go_sem,recoverD,z,Tryz.ntmps139,Exit.thenS];refine wpS_of_wp ?_;go_wp2_with fail;cases o
 simp_all [bodyPostS,results,Tryz.results139]
theorem fl{P:Program}{fn:Func}{p q s:Tmp}{E I J:TypeId}(h:fn.results=#[.cell p E,.cell q I,.cell s J])(tmps:AV)(w:World)(g z D:Nat)(t:TypeId)(o:AV)(fr:Nat×Nat)(d:TypeDesc)(x y:Int)(Z:tmps.getD p undef=.pointer (some ⟨g,0,none⟩))(S:w.1[g]?=some (.cells o t fr))(a1:P.underlying E=some d)(hd:(match d with | .struct _ | .array _ _=>true | _=>false)=true)(Y:(P.info? E).map (·.size)=some o.size)(ah:tmps.getD q undef=.pointer (some ⟨z,0,none⟩))(U:w.cell? ⟨z,0,none⟩=some (.int .i64 x))(a2:P.underlying I=some (.int .i64))(ak:tmps.getD s undef=.pointer (some ⟨D,0,none⟩))(X:w.cell? ⟨D,0,none⟩=some (.int .i64 y))(a3:P.underlying J=some (.int .i64)):
  (results fn tmps).run P w=.ok (.tuple #[.agg o,.int .i64 x,.int .i64 y]) w:=by
 have ab:tmps[p]?.getD undef=.pointer (some ⟨g,0,none⟩):=by simpa using Z
 have aj:tmps[q]?.getD undef=.pointer (some ⟨z,0,none⟩):=by simpa using ah
 have a0:tmps[s]?.getD undef=.pointer (some ⟨D,0,none⟩):=by simpa using ak
 have K:=run_loadVar_row w g t E o fr d S a1 hd Y;have M:(loadVar I ⟨z,0,none⟩).run P w=.ok (.int .i64 x) w:=by
  simp[go_sem,isAgg,run_underlying a2,U]
 have O:(loadVar J ⟨D,0,none⟩).run P w=.ok (.int .i64 y) w:=by
  simp[go_sem,isAgg,run_underlying a3,X]
 simp[results,h,ab,aj,a0,asAddr,K,M,O]
structure ek(w W:World)(v:Value)(x y:Int):Prop where
 b1:W.1[w.1.size+1]?=some (.cells #[v] 82 (0,0))
 b2:W.1[w.1.size+2]?=some (.cells #[.int .i64 x] 3 (0,0))
 b3:W.1[w.1.size+3]?=some (.cells #[.int .i64 y] 68 (0,0))
 below:Below w.1.size w W
theorem ek.on{x:Int}(h:ek w W v x y)(hb:Below W.1.size W W'):ek w W' v x y:=by
 have o:=au h.b1;have z:=au h.b2;have D:=au h.b3;exact⟨by rw[hb.block _ o];exact h.b1,by rw[hb.block _ z];exact h.b2,by rw[hb.block _ D];exact h.b3,h.below.trans (hb.mono h.below.size)⟩
theorem ek.aside{x:Int}{F:Nat->Prop}(h:ek w W v x y)(D:Aside F W W')(z:∀k,F k->w.1.size+4<=k):ek w W' v x y:=by
 have E:=au h.b1;have I:=au h.b2;have J:=au h.b3;exact⟨by rw[D.block _ E (fun o=>by have:=z _ o;omega)];exact h.b1,by rw[D.block _ I (fun o=>by have:=z _ o;omega)];exact h.b2,by rw[D.block _ J (fun o=>by have:=z _ o;omega)];exact h.b3,h.below.trans (D.below h.below.size (fun k K o=>by have:=z _ o;omega))⟩
theorem ek.set1{x:Int}(h:ek w W v x y)(v':Value):ek w (W.setCell ⟨w.1.size+1,0,none⟩ v') v' x y:=by
 have I:=au h.b1;have z:=au h.b2;have D:=au h.b3;have o:Aside (fun i=>i=w.1.size+1) W (W.setCell ⟨w.1.size+1,0,none⟩ v'):=ag _ _ _ _;exact⟨by rw[ai h.b1 0];rfl,by rw[o.block _ z (by omega)];exact h.b2,by rw[o.block _ D (by omega)];exact h.b3,h.below.trans (o.below h.below.size (fun k E=>by omega))⟩
theorem ek.set2{x:Int}(h:ek w W v x y)(z:Int):ek w (W.setCell ⟨w.1.size+2,0,none⟩ (.int .i64 z)) v z y:=by
 have D:=au h.b1;have J:=au h.b2;have E:=au h.b3;have o:Aside (fun i=>i=w.1.size+2) W (W.setCell ⟨w.1.size+2,0,none⟩ (.int .i64 z)):=ag _ _ _ _;exact⟨by rw[o.block _ D (by omega)];exact h.b1,by rw[ai h.b2 0];rfl,by rw[o.block _ E (by omega)];exact h.b3,h.below.trans (o.below h.below.size (fun k I=>by omega))⟩
theorem ek.set3{x:Int}(h:ek w W v x y)(z:Int):ek w (W.setCell ⟨w.1.size+3,0,none⟩ (.int .i64 z)) v x z:=by
 have D:=au h.b1;have E:=au h.b2;have J:=au h.b3;have o:Aside (fun i=>i=w.1.size+3) W (W.setCell ⟨w.1.size+3,0,none⟩ (.int .i64 z)):=ag _ _ _ _;exact⟨by rw[o.block _ D (by omega)];exact h.b1,by rw[o.block _ E (by omega)];exact h.b2,by rw[ai h.b3 0];rfl,h.below.trans (o.below h.below.size (fun k I=>by omega))⟩
theorem ek.drew{x:Int}(h:ek w W v x y):ek w W.drew v x y:=⟨h.b1,h.b2,h.b3,h.below.drew⟩
theorem mY.d{L:L8}{R:Nat}{s:List Col}{m:L8}{r:Except Nat (List V×Nat)}{ys:List V}{v:Value}(h:mY L w wr R s m r ys v):ek w wr v 0 0:=⟨h.b1,h.b2,h.b3,h.below⟩
structure cX(w wr W:World)(v:Value)(x y:Int):Prop where
 d:ek w W v x y
 aside:Aside (fun i=>w.1.size<i∧i<w.1.size+4) wr W
theorem cX.set1{x:Int}(h:cX w wr W v x y)(v':Value):cX w wr (W.setCell ⟨w.1.size+1,0,none⟩ v') v' x y:=⟨h.d.set1 v',h.aside.trans (ag _ _ _ _) (fun i _ o=>by rw[o];omega)⟩
theorem cX.set2{x:Int}(h:cX w wr W v x y)(o:Int):cX w wr (W.setCell ⟨w.1.size+2,0,none⟩ (.int .i64 o)) v o y:=⟨h.d.set2 o,h.aside.trans (ag _ _ _ _) (fun i _ z=>by rw[z];omega)⟩
theorem cX.set3{x:Int}(h:cX w wr W v x y)(o:Int):cX w wr (W.setCell ⟨w.1.size+3,0,none⟩ (.int .i64 o)) v x o:=⟨h.d.set3 o,h.aside.trans (ag _ _ _ _) (fun i _ z=>by rw[z];omega)⟩
theorem cX.drew{x:Int}(h:cX w wr W v x y):cX w wr W.drew v x y:=⟨h.d.drew,h.aside.drew⟩
theorem vy(s:List Col)(p:OA)(Z:Nat)(l:L8)(q:OA)(d:Nat)(a:Int)(w:World)(hk:bB w p Z s)(hv:l.length<=140737488351232)(hw:l.length<=d)(fb:At w q l)(hl:-9223372036854775808<=a)(hm:a<=9223372036854775807):
    Calls Tryz.prog 89 #[.agg #[.slice p s.length Z],.slice q l.length d,.int .i64 a] w (xz w (Rw.read s l a)):=by
  have ic:∀(fn:Fn) (first cap:AV) (w:World),(Instr.makeFunc fn first cap).run Tryz.prog w=.ok (.func fn first cap) w:=fun _ _ _ _=>rfl;obtain⟨hF,h8,d5,fx⟩:=hk;obtain⟨r,a0⟩:∃r,r=Rw.read s l a:=⟨_,rfl⟩;have b8:=gQq (a0.trans (by rw[Rw.read]:Rw.read s l a=_));rw[<-a0];obtain⟨a4,a5⟩:∃a4,a4=(((w.alloc (.cells #[.slice p s.length Z] 29)).alloc (.cells #[.slice none 0 0] 82)).alloc (.cells #[.int .i64 0] 3)).alloc (.cells #[.int .i64 0] 68):=⟨_,rfl⟩;have cy:Below w.1.size w a4:=by rw[a5];exact((gQy.alloc (by simp) _).alloc (by simp <;> omega) _).alloc (by simp <;> omega) _
  have eb:Hid (ek w a4 (.slice none 0 0) 0 0):=by
    refine⟨?_,?_,?_,cy⟩
    · rw[a5,aG _ _ (by simp <;> omega),aG _ _ (by simp)];have:=am (w.alloc (.cells #[.slice p s.length Z] 29)) (.cells #[.slice none 0 0] 82);simpa using this
    · rw[a5,aG _ _ (by simp)];have:=am ((w.alloc (.cells #[.slice p s.length Z] 29)).alloc (.cells #[.slice none 0 0] 82)) (.cells #[.int .i64 0] 3);simpa using this
    · have:=am (((w.alloc (.cells #[.slice p s.length Z] 29)).alloc (.cells #[.slice none 0 0] 82)).alloc (.cells #[.int .i64 0] 3)) (.cells #[.int .i64 0] 68);rw[a5];simpa using this
  have ei:Hid (a4.cell? ⟨w.1.size,0,none⟩=some (.slice p s.length Z)):=by
    show a4.cell? _=_;have bT:(w.alloc (.cells #[.slice p s.length Z] 29)).cell? ⟨w.1.size,0,none⟩=some (.slice p s.length Z):=(by simp);rw[a5];exact ae gQy (ae gQy (ae gQy bT))
  have hE:w.1.size+4<=a4.1.size:=by rw[a5];simp
  have gd:=gQq cy;have gu:=gQq d5;have ea:=gQq fb;have bj:=gQq (rm s p Z a4 hF (d5.on cy) fx);have cn:=gQq (fun h=>Sch.err_open (s:=s) h);have cr:=gQq (fun h=>Rw.types_ok (s:=s) h);obtain⟨E,fe⟩:∃E,E=Sch.err s:=⟨_,rfl⟩;rw[<-fe] at bj b8 cn cr;have eh:=gQq a5;clear a5 a0 d5 fx fb fe cy
  go_enter_defers Tryz.func89,Tryz.ntmps89
  go_wp2_with fail;rw[<-eh.out];clear eh;refine bj.out.mono ?_;rintro e w1 ⟨rfl,c6⟩;have Y:=gQq (eb.out.on c6);have f8:=ae c6 ei.out;have iy:w.1.size+4<=w1.1.size:=Nat.le_trans hE c6.size;have ge:Hid (Below w.1.size w w1):=Y.out.below;clear c6 bj ei gd eb;have fy:w1.cell? ⟨w.1.size+1,0,none⟩=some (.slice none 0 0):=aa Y.out.b1 0;have f0:w1.cell? ⟨w.1.size+2,0,none⟩=some (.int .i64 0):=aa Y.out.b2 0;have f2:w1.cell? ⟨w.1.size+3,0,none⟩=some (.int .i64 0):=aa Y.out.b3 0;have f3:=ac Y.out.b1 0;have f4:=ac Y.out.b2 0;have f5:=ac Y.out.b3 0;by_cases bT:¬E=0
  · have cv:((E:Int) != 0)=true:=aQ (by omega);have ah:Hid (r=.error E):=(by show _=_;rw[b8.out,if_pos bT]);have db:=gQq (((Y.out.set1 (.slice none 0 0)).set2 0).set3 E);clear b8 bT cn cr;go_wp2;have ct:=db.out;refine⟨_,fl rfl _ _ (w.1.size+1) (w.1.size+2) (w.1.size+3) _ #[.slice none 0 0] _ _ 0 E rfl ct.b1 Tryz.underlying82 rfl (by kernel_rfl) rfl (aa ct.b2 0) Tryz.underlying3 rfl (aa ct.b3 0) Tryz.underlying68,?_⟩;rw[ah.out];exact⟨rfl,ct.below⟩
  have cv:((E:Int) != 0)=false:=bo (by omega);have cp:=gQq (b8.out.trans (if_neg bT));have id:s.length<=16:=(cn.out (by omega)).2.1;have dh:=gQq (cr.out (by omega));clear b8 cn bT cr
  -- a panic that goes through the door
  have dc:Hid (∀(E:Nat) (cs:World) (v:Value) (x y:Int),r=.error E->ek w cs v x y->∀(tmps:AV) (dj:List Deferred),tmps.getD 6 undef=.pointer (some ⟨w.1.size+1,0,none⟩)->tmps.getD 7 undef=.pointer (some ⟨w.1.size+2,0,none⟩)->tmps.getD 8 undef=.pointer (some ⟨w.1.size+3,0,none⟩)->dj=[{ target:=.fn (.func 139) #[.pointer (some ⟨w.1.size+1,0,none⟩),.pointer (some ⟨w.1.size+2,0,none⟩),.pointer (some ⟨w.1.size+3,0,none⟩)],args:=#[] }]->bodyPostD Tryz.prog Tryz.f89 (xz w r) (Exit.panic (dK E)) { tmps:=tmps,defers:=dj } cs):=by
    intro E cs v x y U bn tmps dj cw cx dk dr;subst dr;refine leaves_cons (f:=139) (args:=#[.pointer (some ⟨w.1.size+1,0,none⟩),.pointer (some ⟨w.1.size+2,0,none⟩),.pointer (some ⟨w.1.size+3,0,none⟩)]) (by simp) (by simp[go_sem]) ?_;refine(iH ⟨w.1.size+1,0,none⟩ ⟨w.1.size+2,0,none⟩ ⟨w.1.size+3,0,none⟩ v x y E cs (aa bn.b1 0) (ac bn.b1 0) (aa bn.b2 0) (ac bn.b2 0) (aa bn.b3 0) (ac bn.b3 0) (by intro cd;injection cd;omega) (by intro cd;injection cd;omega) (by intro cd;injection cd;omega)).mono ?_;rintro e hO hX ⟨rfl,rfl,rfl⟩;have cu:=(((bn.set1 (.slice none 0 0)).set2 0).set3 E).drew;refine⟨_,fl rfl tmps _ (w.1.size+1) (w.1.size+2) (w.1.size+3) _ #[.slice none 0 0] _ _ 0 (E:Int) cw cu.b1 Tryz.underlying82 rfl (by kernel_rfl) cx (aa cu.b2 0) Tryz.underlying3 dk (aa cu.b3 0) Tryz.underlying68,?_⟩;rw[U];exact⟨rfl,cu.below⟩
  have bN:=gQq (se l q d a w.1.size w1 hv hw (ea.out.on ge.out) (by omega) (fun d2 ad c5=>by
    obtain⟨b,J,hD,hb,_⟩:=aC ea.out (List.length_pos_iff.2 d2);rw[hD] at c5;injection c5 with c5;subst c5
    exact hb) hl hm)
  unfold lX at bN;by_cases bk:a<0∨(l.length:Int)<a
  · have ah:Hid (r=.error 30):=(by show _=_;rw[cp.out,if_pos bk]);simp only[if_pos bk] at bN;clear cp dh;go_wp2_with fail;refine bN.out.mono ?_;rintro e w2 ⟨rfl,bX⟩;have db:=gQq (Y.out.on bX);clear bX;go_wp2;exact dc.out 30 w2 _ _ _ ah.out db.out _ _ rfl rfl rfl rfl
  have b9:=gQq (cp.out.trans (if_neg bk));simp only[if_neg bk] at bN;have e5:((a.toNat:Nat):Int)=a:=by omega
  have h6:a<=(l.length:Int):=by omega
  have h7:0<=a:=by omega
  have b7:=gQq e5;clear cp bk e5;go_wp2_with fail;refine bN.out.mono ?_;rintro e w2 ⟨rfl,d3,bX,i0⟩;obtain⟨m,d1⟩:∃m,m=l.drop a.toNat:=⟨_,rfl⟩;rw[<-d1] at b9 d3;obtain⟨br,bb⟩:∃br,br=Rw.rd s m:=⟨_,rfl⟩;rw[<-bb] at b9;have ec:Hid (mY l w w2 (w1.1.size+1) s m br [] (.slice none 0 0)):=by
    have hd:=Y.out.on bX;refine⟨hd.b1,hd.b2,hd.b3,hd.below,by omega,by omega,⟨_,_,fV _ _⟩,⟨0,by rw[List.drop_zero];exact d3,?_⟩,Nat.zero_le _⟩;rw[List.drop_zero,List.length_nil,List.drop_zero,<-bb];cases br with
    |error e=>rfl
    |ok p=>simp[glue]
  have h2:=ae bX f8;have gm:=gQq d1;have gp:=gQq bb;clear d3 bX bN fy f0 f2 f3 f4 f5 f8 d1 bb;go_wp2_with fail;go_loopw [26] (fun d8 wr=>∃(ys:List V) (z:OA) (o:Nat),d8=.int .i64 ys.length∧ys.length<=s.length∧Hid (mY l w wr (w1.1.size+1) s m br ys (.slice z ys.length o))) (fun d8 _=>s.length-(intOf d8).toNat);case atStart=>exact⟨[],none,0,rfl,Nat.zero_le _,ec.out⟩
  case round=>
    obtain⟨ys,z,o,rfl,i3,D⟩:=hrel;clear ec h2;by_cases ce:ys.length<s.length
    · have ia:(ys.length:Int)<(s.length:Int):=(by omega);have c8:=D.out.below;obtain⟨bx,i5,k,bi,be,bc,hT,hS,hP,hW,hV,hU,hR,rfl,hp,fa,fs,-⟩:=gu.out.at ys.length ce;obtain⟨en,ep,er,eu,ew,ez,eC,e0,e1⟩:=fa.on c8;obtain⟨wa,b6⟩:∃wa,wa=wr.alloc (.cells #[.string s[ys.length].name,.int .i64 k,.slice bi be bc,.bool s[ys.length].has,.int .i64 hT,.int .i64 hS,.float .f64 hP,.string hW,.slice hV hU hR] 40):=⟨_,rfl⟩;have dp:Below wr.1.size wr wa:=(by rw[b6];exact gQy);have gs:Hid (wa.1.size=wr.1.size+1):=(by show _=_;rw[b6];simp);have d6:wa.cell? ⟨wr.1.size,1,none⟩=some (.int .i64 k):=(by rw[b6];simp);have d7:wa.cell? ⟨wr.1.size,2,none⟩=some (.slice bi be bc):=(by rw[b6];simp);have hL:∀J,(wa.alloc J).cell? ⟨wr.1.size,1,none⟩=some (.int .i64 k):=fun J=>ae gQy d6;have hM:∀J,(wa.alloc J).cell? ⟨wr.1.size,2,none⟩=some (.slice bi be bc):=fun J=>ae gQy d7;have di:wa.cell? ⟨w.1.size+1,0,none⟩=some (.slice z ys.length o):=ae dp (aa D.out.b1 0);have g4:∀J,(wa.alloc J).cell? ⟨w.1.size+1,0,none⟩=some (.slice z ys.length o):=fun J=>ae gQy di;obtain⟨n,a8,ci⟩:=D.out.left;obtain⟨us,Fs,cc⟩:=D.out.built;have a3:=gQq cc;have dd:=gQq ci;have O:=gQq dp;have bj:Hid (∀W',Below wr.1.size wr W'->Calls Tryz.prog 141 #[.pointer (some ⟨w1.1.size+1,0,none⟩),.agg #[.int .i64 k,.slice bi be bc]] W' (bI l W' w.1.size (w1.1.size+1) (m.drop n) (Sch.rdV s[ys.length].ty (m.drop n)) (isV W'))):=fun W' hb=>ya _ 1 (dh.out _ (List.getElem_mem ce)) l (m.drop n) _ _ W' _ ⟨w,fs,c8.trans (hb.mono c8.size),by omega⟩ (a8.on hb)
      obtain⟨f6,da⟩:∃x,x=Sch.rdV s[ys.length].ty (m.drop n):=⟨_,rfl⟩;rw[<-da] at bj;have ed:=gQq da;have gt:Hid (Rw.rd (s.drop ys.length) (m.drop n)=ma (s.drop (ys.length+1)) (m.drop n) f6):=by
        show _=_;rw[List.drop_eq_getElem_cons ce,qM,da]
      generalize s[ys.length].name=i4 at *
      generalize s[ys.length].has=i1 at *
      have ck:=gQq b6;clear fa fs c8 b6 dp a8 ci cc da hp;cases f6 with
      |error er2=>
        have ah:Hid (r=.error er2):=by
          show _=_;have bO:br=.error er2:=(by rw[dd.out,gt.out];rfl);rw[b9.out,bO]
        obtain⟨cv,-⟩:∃cv:Nat,cv=0:=⟨_,rfl⟩;have ab:Hid (∀W' d9,Below wr.1.size wr W'->Aside (fun i=>i=w1.1.size+1) W' d9->ek w d9 (.slice z ys.length o) 0 0):=fun W' d9 hb a6=>(D.out.d.on hb).aside a6 (fun k b5=>by rw[b5];omega);go_wp2_with fail;rw[<-ck.out];clear ck en ep er eu ew ez eC e0 e1;refine wp_region_any (by kernel_rfl) ?_
        refine nd 5 (by simp) 30 56 (by simp) [(6,.pointer (some ⟨w.1.size+1,0,none⟩)),(7,.pointer (some ⟨w.1.size+2,0,none⟩)),(8,.pointer (some ⟨w.1.size+3,0,none⟩)),(10,.pointer (some ⟨w1.1.size+1,0,none⟩)),(12,.pointer (some ⟨wr.1.size,0,none⟩))]
          [{ target:=.fn (.func 139) #[.pointer (some ⟨w.1.size+1,0,none⟩),.pointer (some ⟨w.1.size+2,0,none⟩),.pointer (some ⟨w.1.size+3,0,none⟩)],args:=#[] }] (fun w'=>Below wa.1.size wa w')
          (fun i=>match i with
            |0=>some (.pointer (some ⟨w.1.size+1,0,none⟩))
            |1=>some (.slice z ys.length o)
            |2=>some (.pointer (some ⟨w1.1.size+1,0,none⟩))
            |3=>some (.pointer (some ⟨wr.1.size,1,none⟩))
            |4=>some (.agg #[.int .i64 k,.slice bi be bc])
            |_=>none) (fun i=>decide (7<i)) (by kernel_rfl) (by simp) ?_ ?_ ?_ _ _ (by rfl) (by rfl) (by simp) gQz.drew
        · intro i J X ht d0;have hs:¬7<i:=(by simpa using d0);rcases(by omega:i=0∨i=1∨i=2∨i=3∨i=4∨i=6∨i=7) with rfl | rfl | rfl | rfl | rfl | rfl | rfl <;> (obtain rfl:=Option.some.inj X;rfl)
        · intro i J X ht d0 S w' bp hbel b4;have hs:¬7<i:=(by simpa using d0);have hf:S.tmps[6]?.getD undef=.pointer (some ⟨w.1.size+1,0,none⟩):=(by simpa using bp (6,.pointer (some ⟨w.1.size+1,0,none⟩)) (by simp));have g5:S.tmps[10]?.getD undef=.pointer (some ⟨w1.1.size+1,0,none⟩):=(by simpa using bp (10,.pointer (some ⟨w1.1.size+1,0,none⟩)) (by simp));have g6:S.tmps[12]?.getD undef=.pointer (some ⟨wr.1.size,0,none⟩):=(by simpa using bp (12,.pointer (some ⟨wr.1.size,0,none⟩)) (by simp));have hZ:=ae hbel di;have h0:=ae hbel d6;have h1:=ae hbel d7;rcases(by omega:i=0∨i=1∨i=2∨i=3∨i=4∨i=6∨i=7) with rfl | rfl | rfl | rfl | rfl | rfl | rfl;all_goals simp only[List.getElem?_toArray,List.getElem?_cons_zero,List.getElem?_cons_succ,Option.some.injEq] at X
          all_goals subst X
          · exact⟨.pointer (some ⟨w.1.size+1,0,none⟩),w',by simp[execOp,hf,go_sem],hbel,fun u I=>by injection I⟩
          · have g7:S.tmps[30]?.getD undef=.pointer (some ⟨w.1.size+1,0,none⟩):=(by simpa using b4 ⟨0,.data⟩ (by simp) rfl _ rfl);exact⟨.slice z ys.length o,w',by simp[execOp,g7,hZ,go_sem],hbel,fun u I=>by injection I⟩
          · exact⟨.pointer (some ⟨w1.1.size+1,0,none⟩),w',by simp[execOp,g5,go_sem],hbel,fun u I=>by injection I⟩
          · exact⟨.pointer (some ⟨wr.1.size,1,none⟩),w',by simp[execOp,g6,go_sem],hbel,fun u I=>by injection I⟩
          · have hc:S.tmps[33]?.getD undef=.pointer (some ⟨wr.1.size,1,none⟩):=(by simpa using b4 ⟨3,.data⟩ (by simp) rfl _ rfl);exact⟨.agg #[.int .i64 k,.slice bi be bc],w',by simp[execOp,hc,h0,h1,go_sem],hbel,fun u I=>by injection I⟩
          · have g8:S.tmps[31]?.getD undef=.slice z ys.length o:=(by simpa using b4 ⟨1,.data⟩ (by simp) rfl _ rfl);exact⟨.int .i64 ys.length,w',by simp[g8,go_sem],hbel,fun u I=>by cases I⟩
          · exact⟨.slice (some ⟨w'.1.size,0,none⟩) 1 1,w'.alloc (.cells iO 38),by simp[execOp,iO,go_sem],hbel.alloc hbel.size _,fun u I=>by cases I⟩
        · intro J X S w' bp dr hbel b4 K;have ha:S.eval (.tmp 32)=.pointer (some ⟨w1.1.size+1,0,none⟩):=by
            simp only[List.getElem?_toArray,List.getElem?_cons_zero,List.getElem?_cons_succ,Option.some.injEq] at X;subst X;simpa[Act.eval] using b4 ⟨2,.data⟩ (by simp) rfl _ rfl
          have he:S.eval (.tmp 34)=.agg #[.int .i64 k,.slice bi be bc]:=by
            simp only[List.getElem?_toArray,List.getElem?_cons_zero,List.getElem?_cons_succ,Option.some.injEq] at X;subst X;simpa[Act.eval] using b4 ⟨4,.data⟩ (by simp) rfl _ rfl
          simp only[List.getElem?_toArray,List.getElem?_cons_zero,List.getElem?_cons_succ,Option.some.injEq] at X;subst X;have fc:=O.out.trans (hbel.mono O.out.size);unfold Oper.wp;have U : (execOp S.eval { dst := some 35, op := Op.call { callee := .value (.func 141), args := #[.tmp 32, .tmp 34], argTypes := #[219, 34] }, type := 38, pos := "row.go:75", after := #[{ on := 2, ground := .data }, { on := 4, ground := .data }], guard := none }).run Tryz.prog w'=.ok (.enter 141 #[.pointer (some ⟨w1.1.size+1, 0, none⟩), .agg #[.int .i64 k, .slice bi be bc]]) w' := by
            have hr:S.eval (.func 141)=.func (.func 141) #[] #[]:=rfl;have hq:=enters Tryz.func141 (by kernel_rfl) rfl;simp[execOp,resolve,invoke,ha,he,hr,Deferred.ofValue,hq]
          rw[U,Oper.upon_enter];refine(bj.out w' fc).mono ?_;intro e w5 c9;obtain⟨hi,hj⟩:=c9.bad;subst hi;exact dc.out er2 w5 _ _ _ ah.out (ab.out _ _ fc hj) _ _ (bp (6,_) (by simp)) (bp (7,_) (by simp)) (bp (8,_) (by simp)) dr
      |ok xj=>
        obtain⟨x,j⟩:=xj;have hx:=D.out.low;have h9:=D.out.high;have hu:(ys.length:Int)<(ys.length:Int)+1:=(by omega);have eg:Hid (∀a∈iO.toList,a.oneCell'=true):=by
          show ∀a∈iO.toList,a.oneCell'=true;simp[iO,Value.oneCell']
        have gg:Hid (∀W' w5 (u:AV),Below wr.1.size wr W'->Aside (fun i=>i=w1.1.size+1) W' w5->aO w5 (fun k=>W'.1.size<=k∧k<w5.1.size) u x->aD l w5 w.1.size (w1.1.size+1) ((m.drop n).drop j)->w5.1[w.1.size+1]?=some (.cells #[.slice z ys.length o] 82 (0,0))∧∀bs,Below w5.1.size w5 bs->bs.ownsRow (w1.1.size+1+1) 38 5 (.slice z ys.length o) ys.length (flat us ys.length)):=fun W' w5 u hb a6 _ _=>⟨(D.out.row a3.out hb a6 gQz).2,fun bs ho=>(D.out.row a3.out hb a6 ho).1⟩;go_wp2_with fail;rw[<-ck.out];clear ck en ep er eu ew ez eC e0 e1;refine qF ?_
        go_region_law (first
          | (refine dE (.tmp 32) (.tmp 34) 219 34 (by rfl) (by rfl) (by rfl) (by rfl) Tryz.func141 (by kernel_rfl) (by rfl) (bj.out _ (by first | exact O.out.drew | exact(O.out.alloc O.out.size _).drew | exact O.out.drew.alloc O.out.size _)) ?_;intro e w5 c9;obtain⟨v,U,d4,a8,a6⟩:=c9.good;obtain⟨u,d4,cg⟩:=d4.open;clear c9;obtain⟨hI,hH,gz,hN,hK,hJ,g3,I⟩:=cg.shape;subst I;subst d4;have co:Hid (∃W',Below wr.1.size wr W'∧Aside (fun i=>i=w1.1.size+1) W' w5∧aO w5 (fun k=>W'.1.size<=k∧k<w5.1.size) (cells5 hI hH gz hN hK hJ g3) x∧aD l w5 w.1.size (w1.1.size+1) ((m.drop n).drop j)):=⟨_,by first | exact O.out.drew | exact(O.out.alloc O.out.size _).drew | exact O.out.drew.alloc O.out.size _,a6,cg,a8⟩;have el:Hid (∀k C,_->k≠w1.1.size+1->w5.1[k]?=some C):=fun k C b5 d2=>(a6.block k (au b5) d2).trans b5;unfold cells5 at U;refine⟨_,U,?_⟩;clear U a8 a6 cg;obtain⟨em,ak,aj,a7,a9⟩:=co.out;have dv:=gg.out _ _ _ ak aj a7 a9;have gb:w5.cell? ⟨w.1.size+1,0,none⟩=some (.slice z ys.length o):=aa dv.1 0;have h3:∀J,(w5.alloc J).cell? ⟨w.1.size+1,0,none⟩=some (.slice z ys.length o):=fun J=>ae gQy gb;have de:=gQq dv.2;have df:Hid (wr.1.size<=w5.1.size):=Nat.le_trans ak.size aj.size;clear ak aj a7 a9 dv)
          | (refine ll (B:=w1.1.size+1+1) (us:=us) (v:=.slice z ys.length o) (n:=ys.length) (u:=iO) (ad:=wa.1.size) (H:=w5.1.size) (de.out _ gQz) rfl eg.out (el.out wa.1.size _ (am wa _) (by have:=gs.out;omega)) (by omega) (by have:=df.out;omega) rfl (.tmp 31) (.tmp 37) (by rfl) (by rfl) (by rfl) (by rfl) ?_;intro g cap bs a0 bq cf;obtain⟨em,ak,aj,a7,a9⟩:=co.out;obtain⟨M,p2,p3,p4,a1⟩:=D.out.next a3.out ce dd.out ed.out.symm ak aj a7 a9 gQz a0 bq cf;obtain⟨gL,c0⟩:=M 0 (by omega);obtain⟨gN,c1⟩:=M 1 (by omega);obtain⟨g0,c2⟩:=M 2 (by omega);obtain⟨g1,c3⟩:=M 3 (by omega);obtain⟨g2,c4⟩:=M 4 (by omega);rw[Nat.add_zero] at c0;have e6:=p2 (ys.length*5);have f1:=p2 (ys.length*5+1);have e7:=p2 (ys.length*5+2);have e8:=p2 (ys.length*5+3);have e9:=p2 (ys.length*5+4);have bO:bs.cell? ⟨w.1.size+1,0,none⟩=some (.slice z ys.length o):=aa p4 0;have e4:=ac p4 0;have hA:¬g=w.1.size+1:=(by omega);have hB:¬w.1.size+1=g:=(by omega);have a2:=a1;rw[<-j8 _ _ _ _ _ _ _ _ _ _ (by omega)] at a2;unfold fI at a1 a2;have ee:=gQq a1;have ef:=gQq a2;clear M p2 p4 a1 a2 a0 bq cf ak aj a7 a9)
          | (refine ll (B:=w1.1.size+1+1) (us:=us) (v:=.slice z ys.length o) (n:=ys.length) (u:=iO) (ad:=w5.1.size) (H:=w5.1.size+1) (de.out _ gQy) rfl eg.out (am w5 _) (by omega) (by have:=df.out;simp;omega) (by simp) (.tmp 31) (.tmp 37) (by rfl) (by rfl) (by rfl) (by rfl) ?_;intro g cap bs a0 bq cf;obtain⟨em,ak,aj,a7,a9⟩:=co.out;obtain⟨M,p2,p3,p4,a1⟩:=D.out.next a3.out ce dd.out ed.out.symm ak aj a7 a9 gQy a0 bq (by simpa using cf);obtain⟨gL,c0⟩:=M 0 (by omega);obtain⟨gN,c1⟩:=M 1 (by omega);obtain⟨g0,c2⟩:=M 2 (by omega);obtain⟨g1,c3⟩:=M 3 (by omega);obtain⟨g2,c4⟩:=M 4 (by omega);rw[Nat.add_zero] at c0;have e6:=p2 (ys.length*5);have f1:=p2 (ys.length*5+1);have e7:=p2 (ys.length*5+2);have e8:=p2 (ys.length*5+3);have e9:=p2 (ys.length*5+4);have bO:bs.cell? ⟨w.1.size+1,0,none⟩=some (.slice z ys.length o):=aa p4 0;have e4:=ac p4 0;have hA:¬g=w.1.size+1:=(by omega);have hB:¬w.1.size+1=g:=(by omega);have a2:=a1;rw[<-j8 _ _ _ _ _ _ _ _ _ _ (by omega)] at a2;unfold fI at a1 a2;have ee:=gQq a1;have ef:=gQq a2;clear M p2 p4 a1 a2 a0 bq cf ak aj a7 a9)
          |fail)
        all_goals
          rw[jc];clear c0 c1 c2 c3 c4 e6 f1 e7 e8 e9 bO e4 gb h3 de el df co d6 d7 hL hM di g4 hu;go_wp2;go_roundw;case rel=>
            refine⟨ys++[x],some ⟨g,0,none⟩,cap,by simp,by simp;omega,?_⟩;rw[List.length_append,List.length_singleton]
            first
              |with_reducible exact ee
              |with_reducible exact ef
          case measure=>simp[intOf];omega
    · have ib:¬(ys.length:Int)<(s.length:Int):=(by omega);have hG:ys.length=s.length:=(by omega);obtain⟨n,a8,ci⟩:=D.out.left;have bb:br=.ok (ys,n):=by
        rw[ci,List.drop_eq_nil_of_le (by omega)];simp[Rw.rd,glue]
      have fi:Rw.rd s m=.ok (ys,n):=(by rw[<-gp.out];exact bb);obtain⟨-,hz,⟨rest,ff⟩,-,-⟩:=Rw.rd_ok s m ys n dh.out fi;have hC:n<=m.length:=(by rw[ff,List.length_append];omega);obtain⟨T,i9,h5,pos,dn,fh⟩:=a8.out;have hy:m.length=l.length-a.toNat:=(by rw[gm.out,List.length_drop]);have fg:pos=a.toNat+n:=by
        have bk:=congrArg List.length fh;rw[List.length_drop,List.length_drop] at bk;have cw:=dn.pos;have cx:=b7.out;omega
      have j0:wr.cell? ⟨w1.1.size+1,2,none⟩=some (.int .i64 ((pos:Nat):Int)):=aa dn.b0 2;have i2:IntKind.i64.wrap ((pos:Int)-a)=(n:Int):=(by rw[IntKind.wrap_i64];have:=b7.out;omega);have cq:Hid (r=if 1024<n then .error 2 else .ok (ys,a.toNat+n)):=(by show _=_;rw[b9.out,bb]);have gn:=gQq fg;have it:-9223372036854775808<=(pos:Int)-a:=(by have:=b7.out;omega);have ix:(pos:Int)-a<=9223372036854775807:=(by have:=b7.out;omega);have ih:(pos:Int)-a=(n:Int):=(by have:=b7.out;omega);have gl:Hid (cX w wr wr (.slice z ys.length o) 0 0):=⟨D.out.d,Aside.refl _ _⟩;have hx:=D.out.low;obtain⟨us,Fs,cc⟩:=D.out.built;have a3:=gQq cc;have ab:=gQq D.out.d;have fy:wr.cell? ⟨w.1.size+1,0,none⟩=some (.slice z ys.length o):=aa ab.out.b1 0;have f0:wr.cell? ⟨w.1.size+2,0,none⟩=some (.int .i64 0):=aa ab.out.b2 0;have f2:wr.cell? ⟨w.1.size+3,0,none⟩=some (.int .i64 0):=aa ab.out.b3 0;have f3:=ac ab.out.b1 0;have f4:=ac ab.out.b2 0;have f5:=ac ab.out.b3 0;clear a8 ci bb fi hz ff hC dn fh hy fg cc D b9 hG;by_cases c7:1024<n
      · have ah:Hid (r=.error 2):=cq.out.trans (if_pos c7);have hg:decide ((n:Int)<=1024)=false:=decide_eq_false (by omega);have hh:decide ((pos:Int)-a<=1024)=false:=decide_eq_false (by omega);clear cq c7;go_wp2_with fail;refine(cT _ 2 _).mono ?_;rintro e w5 ⟨rfl,cj⟩;rw[cj];clear cj w5;go_wp2;exact dc.out 2 wr _ _ _ ah.out ab.out _ _ rfl rfl rfl rfl
      · have ah:Hid (r=.ok (ys,a.toNat+n)):=cq.out.trans (if_neg c7);have hg:decide ((n:Int)<=1024)=true:=decide_eq_true (by omega);have hh:decide ((pos:Int)-a<=1024)=true:=decide_eq_true (by omega);have gh:Hid (∀(ca:World) (tmps:AV),cX w wr ca (.slice z ys.length o) pos 0->tmps.getD 6 undef=.pointer (some ⟨w.1.size+1,0,none⟩)->tmps.getD 7 undef=.pointer (some ⟨w.1.size+2,0,none⟩)->tmps.getD 8 undef=.pointer (some ⟨w.1.size+3,0,none⟩)->∃v,(results Tryz.f89 tmps).run Tryz.prog ca=.ok v ca∧xz w r (.returned v) ca):=by
          intro ca tmps cb cw cx dk;refine⟨_,fl rfl tmps _ (w.1.size+1) (w.1.size+2) (w.1.size+3) _ #[.slice z ys.length o] _ _ pos 0 cw cb.d.b1 Tryz.underlying82 rfl (by kernel_rfl) cx (aa cb.d.b2 0) Tryz.underlying3 dk (aa cb.d.b3 0) Tryz.underlying68,?_⟩;rw[ah.out];have hn:=a3.out.aside cb.aside (fun g bq U=>by have:=(a3.out.lt g bq).1;omega) (fun i ds k b5 U=>by have:=(a3.out.range i ds k b5).1;omega);obtain⟨p2,c2,U,cg⟩:=hn.done (by omega) 0 0 0 ⟨#[]⟩;injection U with bO e2 e3;subst bO e3;exact⟨z,o,by rw[gn.out],cg.mono (fun i ds=>⟨by omega,ds.2⟩),cb.d.below⟩
        clear cq c7;go_wp2_with fail;refine(dI _ 2 _).mono ?_;rintro e w5 ⟨rfl,cj⟩;rw[cj];clear cj w5;go_wp2_with fail;refine qF ?_;go_region_law (fail)
        all_goals
          rw[jc];go_wp2;refine leaves_cons (f:=139) (args:=#[.pointer (some ⟨w.1.size+1,0,none⟩),.pointer (some ⟨w.1.size+2,0,none⟩),.pointer (some ⟨w.1.size+3,0,none⟩)]) (by simp) (by simp[go_sem]) ?_;refine(oI ⟨w.1.size+1,0,none⟩ ⟨w.1.size+2,0,none⟩ ⟨w.1.size+3,0,none⟩ _).mono ?_;rintro e hO hX ⟨rfl,rfl,rfl⟩;refine gh.out _ _ ?_ rfl rfl rfl;exact(((gl.out.set1 _).set2 _).set3 _).drew
end
end Go.Proofs.YtbahfgdbjgkklaaGreatDoor

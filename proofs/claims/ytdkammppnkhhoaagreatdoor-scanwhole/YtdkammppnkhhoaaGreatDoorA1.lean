import Derived.Deep.RegionHeldLaw
import Derived.Test.YtdkammppnkhhoaaGreatDoorA4
import Derived.Test.YtdkammppnkhhoaaGreatDoorA6
set_option maxRecDepth 100000
set_option maxHeartbeats 16000000
namespace Go.Proofs.YtdkammppnkhhoaaGreatDoor
variable{id k:Nat}{w:World}{o:Oper}{l:List Oper}
section
open Go
def eg(P:Program)(o:Oper)(Q:Exit->Act->World->Prop):Exit->Act->World->Prop
 |.normal,a,w=>o.wp P a w (fun a' w'=>Q .normal a' w') Q
 |e,a,w=>Q e a w
section
variable {P:Program} {md:Region.Mode} {l:List Oper} {o:Oper} {Q:Exit->Act->World->Prop}
theorem pu{x:Oper}{a:Act}{D A:Act->World->Prop}(h:∀a w,D a w->A a w)(I:x.wp P a w D (eg P o Q)):x.wp P a w A Q:=by
 have z:x.wp P a w A (eg P o Q):=Oper.wp_mono h I;unfold Oper.wp at z ⊢;generalize (execOp a.eval x).run P w=r at z ⊢;cases r with
 |ok n w'=>cases n <;> first | exact z | exact Calls.mono z (fun e J E=>by cases e <;> exact E)
 |halt y w'=>cases y <;> exact z
def oM(md:Region.Mode)(l:List Oper)(o:Oper):Bool :=
 l.all (fun x=>x.guard.isNone)&&o.guard.isNone&&(List.range l.length).all (fun k=>((l[k]?).map fun x=>x.after.all fun e=>!Region.binds md e||decide (e.on<k)).getD true)
 &&o.after.all (fun e=>!Region.binds md e||decide (e.on<l.length))&&(List.range l.length).all (fun k=>(o.after.any fun e=>Region.binds md e&&e.on==k)||(List.range l.length).any fun j=>decide (k<j)&&((l[j]?).map fun x=>x.after.any fun e=>Region.binds md e&&e.on==k).getD false)
def pq(md:Region.Mode)(l:List Oper)(b:Array Bool):Prop:=∀j x,l[j]?=some x->b.getD j false=true->∀e∈x.after,Region.binds md e=true->b.getD e.on false=true
theorem cO{b:Array Bool}(d:Bool)(h:k<b.size):(b.push false).getD k d=b.getD k d:=by
 simp[Array.getElem?_push,h,Nat.ne_of_lt h]
theorem mN(ak:oM md l o=true):∀(fuel:Nat) (b:Array Bool) (a:Act) (w:World),b.size=l.length->pq md l b->wpAny P md l.toArray (eg P o Q) fuel b a w->wpAny P md (l++[o]).toArray Q (fuel+1) (b.push false) a w:=by
 unfold oM at ak;simp only[Bool.and_eq_true,List.all_eq_true,List.mem_range,Array.all_eq_true',Array.any_eq_true',Bool.or_eq_true,Bool.not_eq_true',decide_eq_true_eq,beq_iff_eq,Option.isNone_iff_eq_none,List.any_eq_true] at ak;obtain⟨⟨⟨⟨bl,bq⟩,hb⟩,Z⟩,bT⟩:=ak;have a1:∀k,k<l.length->(l++[o]).toArray[k]?=l.toArray[k]?:=fun k R=>by simp[List.getElem?_append_left R]
 have a3:(l++[o]).toArray[l.length]?=some o:=by simp
 have a4:∀b:Array Bool,b.size=l.length->∀j,j<l.length->j∈Region.ready md (l++[o]).toArray (b.push false)->j∈Region.ready md l.toArray b:=fun b K j A h=>by
  rw[mem_ready,a1 j A,cO _ (by omega)] at h;obtain⟨z,x,D,h2⟩:=h;refine mem_ready.2 ⟨z,x,D,fun e J I=>?_⟩;have U:=hb j A;have bX:l[j]?=some x:=by simpa using D
  rw[bX] at U;simp only[Option.map_some,Option.getD_some,Array.all_eq_true',Bool.or_eq_true,Bool.not_eq_true',decide_eq_true_eq] at U;have L:=h2 e J I;rcases U e J with E | E
  ·rw[I] at E;cases E
  ·rw[cO _ (by omega)] at L;exact L
 have bk:∀b:Array Bool,b.size=l.length->∀j,j<l.length->j∈Region.ready md l.toArray b->j∈Region.ready md (l++[o]).toArray (b.push false):=fun b K j A h=>by
  obtain⟨z,x,D,h2⟩:=mem_ready.1 h;refine mem_ready.2 ⟨by rw[cO _ (by omega)];exact z,x,by rw[a1 j A];exact D,fun e J I=>?_⟩;have L:=h2 e J I;have E:e.on<b.size:=by
   rcases Nat.lt_or_ge e.on b.size with V | V
   ·exact V
   ·simp[Array.getElem?_eq_none V] at L
  rw[cO _ E];exact L
 have U:∀b:Array Bool,∀j,j∈Region.ready md (l++[o]).toArray b->j<=l.length:=fun b j h=>by
  obtain⟨-,x,D,-⟩:=mem_ready.1 h;have:=(Array.getElem?_eq_some_iff.1 D).1;simp at this;omega
 have be:∀b:Array Bool,b.size=l.length->Region.ready md l.toArray b=[]->∀k,k<l.length->b.getD k false=true:=fun b K M k=>by
  induction k using Nat.strongRecOn with
  |_ k ih=>
   intro R;cases W:b.getD k false with
   |true=>rfl
   |false=>
    exfalso;have D:l.toArray[k]?=some l[k]:=(by simp[R]);have:k∈Region.ready md l.toArray b:=by
     refine mem_ready.2 ⟨?_,l[k],D,fun e J I=>?_⟩
     ·simp[show k<b.size by omega] at W ⊢;exact W
     ·have z:=hb k R;rw[List.getElem?_eq_getElem R] at z;simp only[Option.map_some,Option.getD_some,Array.all_eq_true',Bool.or_eq_true,Bool.not_eq_true',decide_eq_true_eq] at z;rcases z e J with h2 | h2
      ·rw[I] at h2;cases h2
      ·exact ih e.on h2 (by omega)
    rw[M] at this;cases this
 have a8:∀(fuel:Nat) (b:Array Bool) (a:Act) (w:World),b.size=l.length->Region.ready md l.toArray b=[]->eg P o Q .normal a w->wpAny P md (l++[o]).toArray Q (fuel+1) (b.push false) a w:=fun fuel b a w K M bs=>by
  have a7:=be b K M;have bd:l.length∈Region.ready md (l++[o]).toArray (b.push false):=mem_ready.2 ⟨by rw[<-K];simp,o,a3,fun e J I=>by
   rcases Z e J with z | z
   ·rw[I] at z;cases z
   ·rw[cO _ (by omega)];exact a7 e.on z⟩
  refine⟨fun aj=>(by rw[aj] at bd;cases bd),fun j A=>?_⟩;have a2:j=l.length:=by
   have z:=U _ j A;rcases Nat.lt_or_ge j l.length with h2 | h2
   ·have:=a4 b K j h2 A;rw[M] at this;cases this
   ·omega
  subst a2;unfold wpOp;simp only[a3,Region.wanted,bq,if_true];refine .inl (Oper.wp_mono (fun a6 w' h=>wpAny_done ?_ h fuel) bs);refine List.eq_nil_iff_forall_not_mem.2 fun j A=>?_;have z:=U _ j A;have h2:=(mem_ready.1 A).1;rcases Nat.lt_or_ge j l.length with L | L
  ·rw[getD_set_ne true (by omega),cO _ (by omega)] at h2;have E:=a7 j L;simp[show j<b.size by omega] at h2 E;rw[E] at h2;cases h2
  ·have:j=l.length:=(by omega);subst this;simp[K] at h2
 intro fuel;induction fuel with
 |zero=>exact fun b a w K _ h=>a8 0 b a w K h.1 h.2
 |succ fuel ih=>
  intro b a w K W h;by_cases M:Region.ready md l.toArray b=[]
  ·exact a8 (fuel+1) b a w K M (h.1 M)
  ·have bp:∀j,j∈Region.ready md (l++[o]).toArray (b.push false)->j<l.length:=fun j A=>by
    have z:=U _ j A;rcases Nat.lt_or_ge j l.length with h2 | h2
    ·exact h2
    ·exfalso;have a2:j=l.length:=(by omega);subst a2;obtain⟨-,x,D,L⟩:=mem_ready.1 A;rw[a3] at D;injection D with D;subst D;have bO:∀d k,k+d=l.length->0<d->b.getD k false=true:=fun d=>by
      induction d using Nat.strongRecOn with
      |_ d ih2=>
       intro k b1 hd;rcases bT k (by omega) with ⟨e,J,I,a0⟩ | ⟨j,A,b2,D⟩
       ·have E:=L e J I;rw[a0,cO _ (by omega)] at E;exact E
       ·rw[List.getElem?_eq_getElem A] at D;simp only[Option.map_some,Option.getD_some,Array.any_eq_true',Bool.and_eq_true,beq_iff_eq] at D;obtain⟨e,J,I,a0⟩:=D;have E:=W j l[j] (List.getElem?_eq_getElem A) (ih2 (l.length-j) (by omega) j (by omega) (by omega)) e J I;rw[a0] at E;exact E
     refine M (List.eq_nil_iff_forall_not_mem.2 fun k R=>?_);obtain⟨a5,y,Y,-⟩:=mem_ready.1 R;have b3:k<l.length:=by
      have:=(Array.getElem?_eq_some_iff.1 Y).1;simpa using this
     have E:=bO (l.length-k) k (by omega) (by omega);simp[show k<b.size by omega] at a5 E;rw[E] at a5;cases a5
   refine⟨fun aj=>absurd (List.eq_nil_iff_forall_not_mem.2 fun j A=>?_) M,fun j A=>?_⟩
   ·have O:j<l.length:=by
     obtain⟨-,y,Y,-⟩:=mem_ready.1 A;have:=(Array.getElem?_eq_some_iff.1 Y).1;simpa using this
    have:=bk b K j O A;rw[aj] at this;cases this
   ·have O:=bp j A;have z:=h.2 j (a4 b K j O A);have D:l.toArray[j]?=some l[j]:=(by simp[O]);have bn:(l[j]).guard=none:=bl _ (List.getElem_mem O);have bN:(b.push false).setIfInBounds j true=(b.setIfInBounds j true).push false:=by
     apply Array.ext_getElem?;intro k;simp only[Array.getElem?_setIfInBounds,Array.getElem?_push,Array.size_push,Array.size_setIfInBounds];by_cases bb:j=k
     ·subst bb;simp[show j<b.size by omega,show j≠b.size by omega,show j<b.size+1 by omega]
     ·simp[bb]
    have bj:pq md l (b.setIfInBounds j true):=fun i x Z bc e J I=>by
     by_cases a9:j=i
     ·subst a9;obtain⟨-,y,Y,h2⟩:=mem_ready.1 (a4 b K j O A);have b0:y=x:=by
       have:l[j]?=some y:=(by simpa using Y);rw[Z] at this;injection this with this;exact this.symm
      subst b0;have L:=h2 e J I;by_cases X:j=e.on
      ·rw[<-X];simp[show j<b.size by omega]
      ·rw[getD_set_ne false X];exact L
     ·rw[getD_set_ne false a9] at bc;have L:=W i x Z bc e J I;by_cases X:j=e.on
      ·rw[<-X];simp[show j<b.size by omega]
      ·rw[getD_set_ne false X];exact L
    unfold wpOp at z ⊢;simp only[D,a1 j O,Region.wanted,bn,if_true] at z ⊢;rw[bN];rcases z with z | ⟨z,h2⟩
    ·exact .inl (pu (fun a6 w' V=>ih _ a6 w' (by simpa using K) bj V) z)
    ·exact .inr ⟨z,h2⟩
theorem iB{a:Act}(E:P.follows .mixedOrders=true)(D:oM .any l o=true)(h:wpAny P .any l.toArray (eg P o Q) l.length (Array.replicate l.length false) a w.drew):(Code.region id (l++[o]).toArray true).wp P Q a w:=by
 refine wp_region_any E ?_;have A:=mN D l.length (Array.replicate l.length false) a w.drew (by simp) (fun j x _ y=>(by
  simp only[Array.getD_eq_getD_getElem?,Array.getElem?_replicate] at y
  split at y <;> cases y)) h
 have z:(l++[o]).toArray.size=l.length+1:=by simp
 rw[z,Array.replicate_succ];exact A
end
end
section
open Go.RowKit
def Ext(w:World):Type:={ w':World // Below w.1.size w w' }
def gZ(w w':World):Prop:=∃z:Ext w,w'=z.val
theorem eY{P:Program}{Q:Exit->Act->World->Prop}{a:Act}(D:P.follows .mixedOrders=true)(A:Region.lexB .any l.toArray=true)(h:wpQuiet P l.toArray (fun w'=>∃y:Ext w,w'=y.val) (fun z=>∀w',(∃y:Ext w,w'=y.val)->Q .normal z w') l a):(Code.region id l.toArray true).wp P Q a w :=
 wp_region_quiet (C:=fun w'=>∃y:Ext w,w'=y.val) D A ⟨⟨w.drew,xY.drew⟩,rfl⟩ (by simpa using h)
section
variable {P:Program} {ops:Array Oper} {Q:Exit->Act->World->Prop} {u:World}
def lD(P:Program)(u:World)(T:Act->Prop):List Oper->Act->Prop
 | [],a=>T a
 |o::l,a=>∃v,(∀z:Ext u,(execOp a.eval o).run P z.val=.ok (.value v) z.val)∧lD P u T l (a.put o.dst v)
theorem tJ{T:Act->Prop}{a:Act}(h:∃v,(∀y:Ext u,(execOp a.eval o).run P y.val=.ok (.value v) y.val)∧lD P u T l (a.put o.dst v)):lD P u T (o::l) a:=h
theorem rb{T:Act->Prop}{a:Act}(h:T a):lD P u T [] a:=h
theorem jR{T y:Act->Prop}(h:∀a,T a->y a):∀(l:List Oper) (a:Act),lD P u T l a->lD P u y l a
 | [],a,k=>h a k
 |_::l,_,⟨v,k1,k2⟩=>⟨v,k1,jR h l _ k2⟩
def pw(P:Program)(u:World)(Q:Exit->Act->World->Prop):List Oper->Act->World->Prop
 | [],a,w=>Q .normal a w
 |o::l,a,w=>o.wp P a w (fun a' w'=>gZ u w'∧pw P u Q l a' w') Q
theorem eO{a:Act}(h:∀y:Act->World->Prop,(∀a w,gZ u w->pw P u Q l a w->y a w)->o.wp P a w y Q):pw P u Q (o::l) a w:=h _ fun _ _ z A=>⟨z,A⟩
theorem qZ{a:Act}(h:∀y:Act->World->Prop,(∀a w,Q .normal a w->y a w)->o.wp P a w y Q):pw P u (eg P o Q) [] a w:=h _ fun _ _ h=>h
def hdB(ops:Array Oper):Nat->Nat->Array Bool->Bool
 |0,_,_=>true
 |m+1,k,b=>(Region.ready .any ops b).contains k&&Region.free .any ops b k&&((ops[k]?).map (·.guard.isNone)).getD false&&hdB ops m (k+1) (b.setIfInBounds k true)
def hdL:Nat->Nat->Array Bool->Array Bool
 |0,_,b=>b
 |m+1,k,b=>hdL m (k+1) (b.setIfInBounds k true)
def sqB(ops:Array Oper):Nat->Nat->Array Bool->Bool
 |0,_,b=>(Region.ready .any ops b).isEmpty
 |m+1,k,b=>(Region.ready .any ops b==[k])&&((ops[k]?).map (·.guard.isNone)).getD false&&sqB ops m (k+1) (b.setIfInBounds k true)
theorem guard_of(y:ops[k]?=some o)(h:((ops[k]?).map (·.guard.isNone)).getD false=true)(f:Nat->Option Bool):Region.wanted o f=true:=by
 rw[y] at h;simp only[Option.map_some,Option.getD_some,Option.isNone_iff_eq_none] at h;simp[Region.wanted,h]
theorem jS:∀(l:List Oper) (k:Nat) (b:Array Bool) (a:Act) (w:World),(∀j,j<l.length->l[j]?=ops[k+j]?)->sqB ops l.length k b=true->pw P u Q l a w->wpAnyH P .any ops Q (gZ u) l.length b a w
 | [],k,b,a,w,_,hB,h=>⟨by simpa[sqB] using hB,h⟩
 |o::l,k,b,a,w,hl,hB,h=>by
  have z:ops[k]?=some o:=by simpa using(hl 0 (by simp)).symm
  simp only[List.length_cons,sqB,Bool.and_eq_true,beq_iff_eq] at hB;obtain⟨⟨J,I⟩,E⟩:=hB;refine wpAnyH_all J (by simp) fun i A=>?_;rw[List.mem_singleton] at A;subst A;unfold wpOp;simp only[z,guard_of z I,if_true];exact .inl (Oper.wp_mono (fun D w' y=>⟨y.1,jS l (i+1) _ D w' (fun j K=>by have:=hl (j+1) (by simp;omega);simpa[Nat.add_assoc,Nat.add_comm 1 j] using this) E y.2⟩) h)
theorem jT{g:Nat}(A:Region.noSelect ops=true)(z:∀c d v a w,Q (.panic c) (Act.put a d v) w->Q (.panic c) a w)(D:gZ u w):∀(l:List Oper) (k:Nat) (b:Array Bool) (a:Act),(∀j,j<l.length->l[j]?=ops[k+j]?)->hdB ops l.length k b=true ->
  lD P u (fun E=>wpAnyH P .any ops Q (gZ u) g (hdL l.length k b) E w) l a->wpAnyH P .any ops Q (gZ u) (l.length+g) b a w
 | [],k,b,a,_,_,h=>by rw[List.length_nil,Nat.zero_add];exact h
 |o::l,k,b,a,hl,hB,h=>by
  have y:ops[k]?=some o:=by simpa using(hl 0 (by simp)).symm
  simp only[List.length_cons,hdB,Bool.and_eq_true] at hB;obtain⟨⟨⟨O,L⟩,M⟩,K⟩:=hB;obtain⟨v,I,J⟩:=h;rw[List.length_cons,Nat.add_right_comm];refine wpAnyH_take (v:=v) y A L O (fun c a w=>z c _ _ a w) (.inl ⟨guard_of y M _,?_⟩) D ?_
  ·rintro _ ⟨R,rfl⟩;exact I R
  ·exact jT A z D l (k+1) _ _ (fun j U=>by have:=hl (j+1) (by simp;omega);simpa[Nat.add_assoc,Nat.add_comm 1 j] using this) K J
def ve(l:List Oper)(n m:Nat):Bool :=
 ((l[n+m]?).map fun o=>oM .any (l.take (n+m)) o).getD false&&decide (l.length=n+m+1)&&Region.noSelect (l.take (n+m)).toArray&&hdB (l.take (n+m)).toArray n 0 (Array.replicate (n+m) false)&&sqB (l.take (n+m)).toArray m n (hdL n 0 (Array.replicate (n+m) false))
theorem iC{a:Act}(n m:Nat)(Z:P.follows .mixedOrders=true)(A:ve l n m=true)(z:l[n+m]?=some o)(X:∀c d v a w,Q (.panic c) (Act.put a d v) w->Q (.panic c) a w)(h:lD P u (fun D=>pw P u (eg P o Q) ((l.take (n+m)).drop n) D u.drew) (l.take n) a):(Code.region id l.toArray true).wp P Q a u:=by
 unfold ve at A;rw[z] at A;simp only[Option.map_some,Option.getD_some,Bool.and_eq_true,decide_eq_true_eq] at A;obtain⟨⟨⟨⟨O,ah⟩,R⟩,U⟩,V⟩:=A;have K:n+m<l.length:=by omega
 have L:l=l.take (n+m)++[o]:=by
  have y:=List.take_append_drop (n+m) l;have W:l.drop (n+m)=[o]:=by
   rw[List.drop_eq_getElem_cons K,List.drop_eq_nil_of_le (by omega)];rw[List.getElem?_eq_getElem K] at z;injection z with z;rw[z]
  rw[W] at y;exact y.symm
 have J:(l.take (n+m)).length=n+m:=by rw[List.length_take];omega
 have hd:((l.take (n+m)).drop n).length=m:=by rw[List.length_drop,J];omega
 have I:(l.take n).length=n:=by rw[List.length_take];omega
 rw[L];refine iB Z O (wpAny_of_held (S:=gZ u) _ _ _ _ ?_);rw[J];have Y:gZ u u.drew:=⟨⟨u.drew,xY.drew⟩,rfl⟩;have:=jT (P:=P) (Q:=eg P o Q) (ops:=(l.take (n+m)).toArray) (g:=m) R (fun c d v a w h=>X c d v a w h) Y (l.take n) 0 (Array.replicate (n+m) false) a (fun j E=>by
  rw[I] at E
  simp[E,show j<n+m by omega]) (by rw[I];exact U)
 rw[I] at this;refine this ?_;refine jR (fun D M=>?_) _ _ h;have y:=jS (P:=P) (u:=u) (Q:=eg P o Q) (ops:=(l.take (n+m)).toArray) ((l.take (n+m)).drop n) n (hdL n 0 (Array.replicate (n+m) false)) D u.drew (fun j E=>by simp[List.getElem?_drop]) (by rw[hd];exact V) M;rw[hd] at y;exact y
end
end
section
open Go.RowKit
section
variable {w w':World} {a:Nat} {x:Rw} {F:Nat->Prop}
theorem iY(h:ba w a x F)(V:¬F a)(f:Fr)(bc:f.kind=3)(u:AV)(cv:aP w u f)(p:Int):
  Calls Tryz.prog 64 #[.pointer (some ⟨a,0,none⟩),.agg u,.int .i64 p] w fun e w'=>e=.returned (.bool (x.follows f p))∧Below w.1.size w w':=by
 obtain⟨sp,cy,cp,co,a0,ak,rfl,-,-,-,-,-,-,b3,d3,cw⟩:=cv.out;unfold aB;have I:Hid (x.follows f p=decide (f.index.at_=p∧f.index.frames=x.frames∧f.index.rows=x.rows∧f.index.entries.map Ent.tup=x.entries.map Ent.tup)):=by show x.follows f p=_;unfold Rw.follows;rw[if_neg (by omega),if_neg (by omega),if_pos bc];rfl
 obtain⟨a2,W⟩:∃a2,a2=w.alloc (.cells #[.int .i64 f.kind,.int .i64 f.number,.slice sp f.cols.length cy,.int .i64 f.seq,.int .i64 f.first,.int .i64 f.rows,.slice cp f.block.length co,.int .i64 f.index.at_,.int .i64 f.index.frames,.int .i64 f.index.rows,.slice a0 f.index.entries.length ak] 47):=⟨_,rfl⟩;have a6:Below w.1.size w a2:=by rw[W];exact xV
 have bb:a2.1[w.1.size]?=some (.cells #[.int .i64 f.kind,.int .i64 f.number,.slice sp f.cols.length cy,.int .i64 f.seq,.int .i64 f.first,.int .i64 f.rows,.slice cp f.block.length co,.int .i64 f.index.at_,.int .i64 f.index.frames,.int .i64 f.index.rows,.slice a0 f.index.entries.length ak] 47 (0,0)):=by rw[W];exact ag w _
 have bk:=h.on a6 V;have be:=xX (cW bk);have a4:=xX bk;obtain⟨N,cs⟩:∃N,N=x.number:=⟨_,rfl⟩;rw[<-cs] at be;rw[bc] at W bb;obtain⟨eq,K⟩:∃A,A=f.number:=⟨_,rfl⟩;obtain⟨er,b0⟩:∃A,A=f.cols.length:=⟨_,rfl⟩;obtain⟨eu,bN⟩:∃A,A=f.seq:=⟨_,rfl⟩;obtain⟨ew,bO⟩:∃A,A=f.first:=⟨_,rfl⟩;obtain⟨ez,bT⟩:∃A,A=f.rows:=⟨_,rfl⟩;obtain⟨eC,bX⟩:∃A,A=f.block.length:=⟨_,rfl⟩;obtain⟨Z,a7⟩:∃A,A=f.index.at_:=⟨_,rfl⟩;obtain⟨ah,a8⟩:∃A,A=f.index.frames:=⟨_,rfl⟩;obtain⟨aj,a9⟩:∃A,A=f.index.rows:=⟨_,rfl⟩;obtain⟨bj,a3⟩:∃A,A=f.index.entries.length:=⟨_,rfl⟩;rw[<-K,<-b0,<-bN,<-bO,<-bT,<-bX,<-a7,<-a8,<-a9,<-a3] at W bb;rw[bc,<-K,<-b0,<-bN,<-bO,<-bT,<-bX,<-a7,<-a8,<-a9,<-a3];rw[<-a7,<-a8,<-a9] at I;rw[<-a3] at b3;have cb:=xX (cw.on a6);have bd:=xX a3;have ds:=xX W.symm;have b8:=xX a6;have b9:=xX bb;have fs:a2.1.size=w.1.size+1:=by rw[W];simp
 obtain⟨r,cx⟩:∃r,r=x.follows f p:=⟨_,rfl⟩;rw[<-cx] at I ⊢;clear h bk cv cw cs a6 bb W K b0 bN bO bT bX a7 a8 a9 a3 bc cx;go_enter Tryz.func64,Tryz.ntmps64;go_wp2_with fail;rw[ds.out];refine be.out.mono ?_;rintro e w1 ⟨rfl,K⟩;have Y:=xX K;have b1:=(K.block _ (by omega)).trans b9.out;obtain⟨f2,d7,d9,ea,eb,ec,el,em,en,ep,d8⟩:=aO b1;have c6:=xX b1;have fv:=K.size;clear K b1 be b9;obtain⟨R,b4⟩:∃R,R=x.frames:=⟨_,rfl⟩;obtain⟨ro,b5⟩:∃ro,ro=x.rows:=⟨_,rfl⟩;obtain⟨T,bl⟩:∃T,T=x.entries:=⟨_,rfl⟩;have cc:Hid (∀w',Below w1.1.size w1 w'->Calls Tryz.prog 33 #[.pointer (some ⟨a,0,none⟩)] w' fun e z=>e=.returned (.int .i64 R)∧Below w1.1.size w1 z):=fun w' hb=>(eA ((a4.out.on Y.out V).on hb V)).mono fun e z ⟨D,E⟩=>⟨by rw[b4];exact D,hb.trans (E.mono hb.size)⟩;have cj:Hid (∀w',Below w1.1.size w1 w'->Calls Tryz.prog 34 #[.pointer (some ⟨a,0,none⟩)] w' fun e z=>e=.returned (.int .i64 ro)∧Below w1.1.size w1 z):=fun w' hb=>(gC ((a4.out.on Y.out V).on hb V)).mono fun e z ⟨D,E⟩=>⟨by rw[b5];exact D,hb.trans (E.mono hb.size)⟩;have dp:Hid (∀w',Below w1.1.size w1 w'->Calls Tryz.prog 40 #[.pointer (some ⟨a,0,none⟩)] w' fun e z=>∃q cap,e=.returned (.slice q T.length cap)∧di z q T∧Below w1.1.size w1 z):=fun w' hb=>(fJ ((a4.out.on Y.out V).on hb V)).mono fun e z ⟨q,cap,D,E,d6⟩=>by
  rw[<-bl] at D E;obtain⟨p2,c2,d4,-,b2,-⟩:=E.ents;injection d4 with i1 _ _;subst i1;exact⟨q,cap,D,b2,hb.trans (d6.mono hb.size)⟩
 obtain⟨sm,b6⟩:∃sm,sm=decide (f.index.entries.map Ent.tup=T.map Ent.tup):=⟨_,rfl⟩;have dr:Hid (∀w' q cap,Below w1.1.size w1 w'->di w' q T->Calls Tryz.prog 39 #[.slice a0 bj ak,.slice q T.length cap] w' fun e z=>e=.returned (.bool sm)∧Below w1.1.size w1 z):=fun w' q cap hb b2=>by
  have cq:=fc a0 q ak cap f.index.entries T (by rw[<-bd.out];exact b3) w' ((cb.out.on Y.out).on hb) b2;rw[<-bd.out,<-b6] at cq;exact cq.mono fun e z ⟨D,n,E⟩=>⟨D,by rw[E];exact below_drewN hb n⟩
 have M:Hid (∀w',Below w1.1.size w1 w'->w'.cell? ⟨w.1.size,7,none⟩=some (.int .i64 Z)∧w'.cell? ⟨w.1.size,8,none⟩=some (.int .i64 ah)∧w'.cell? ⟨w.1.size,9,none⟩=some (.int .i64 aj)∧w'.cell? ⟨w.1.size,10,none⟩=some (.slice a0 bj ak)):=fun w' hb=>⟨ac hb em,ac hb en,ac hb ep,ac hb d8⟩;rw[<-b4,<-b5,<-bl] at I;have cn:=xX b6;have L:=xX (b8.out.trans (Y.out.mono b8.out.size));clear b4 b5 bl b6 a4 Y c6 cb bd b3 d3 d7 d9 ea eb ec el;haveI:Nonempty (Ext w1):=⟨⟨w1,xY⟩⟩;have f3:∀y:Ext w1,y.val.cell? ⟨w.1.size,7,none⟩=some (.int .i64 Z):=fun y=>(M.out _ y.2).1;have f4:∀y:Ext w1,y.val.cell? ⟨w.1.size,8,none⟩=some (.int .i64 ah):=fun y=>(M.out _ y.2).2.1;have f5:∀y:Ext w1,y.val.cell? ⟨w.1.size,9,none⟩=some (.int .i64 aj):=fun y=>(M.out _ y.2).2.2.1;have ci:Hid (∀y:Ext w1,Calls Tryz.prog 33 #[.pointer (some ⟨a,0,none⟩)] y.val fun e z=>e=.returned (.int .i64 R)∧∃b7:Ext w1,z=b7.val):=fun y=>(cc.out _ y.2).mono fun e z ⟨D,E⟩=>⟨D,⟨z,E⟩,rfl⟩;have ck:Hid (∀y:Ext w1,Calls Tryz.prog 34 #[.pointer (some ⟨a,0,none⟩)] y.val fun e z=>e=.returned (.int .i64 ro)∧∃b7:Ext w1,z=b7.val):=fun y=>(cj.out _ y.2).mono fun e z ⟨D,E⟩=>⟨D,⟨z,E⟩,rfl⟩;by_cases J:Z=p;case neg=>
  have d0:(Z==p)=false:=by rw[beq_eq_false_iff_ne];exact J
  have O:Hid (r=false):=by show r=_;rw[I.out,decide_eq_false (fun X=>J X.1)]
  clear J I;go_wp2_with fail;go_quiet (fail);go_wp2;go_ret;exact⟨by rw[O.out];rfl,below_drewN L.out _⟩
 have d0:(Z==p)=true:=by rw[beq_iff_eq];exact J
 by_cases U:ah=R;case neg=>
  have d1:(ah==R)=false:=by rw[beq_eq_false_iff_ne];exact U
  have O:Hid (r=false):=by show r=_;rw[I.out,decide_eq_false (fun X=>U X.2.1)]
  clear J U I;go_wp2_with fail;refine eY (by kernel_rfl) (by kernel_rfl) ?_;repeat (quiet_step (first | exact ci.out _ | exact ck.out _))
  refine wpQuiet_nil ?_;rintro c5 ⟨y,rfl⟩;go_wp2;go_ret;exact⟨by rw[O.out];rfl,L.out.trans (y.2.mono L.out.size)⟩
 have d1:(ah==R)=true:=by rw[beq_iff_eq];exact U
 by_cases a1:aj=ro;case neg=>
  have d2:(aj==ro)=false:=by rw[beq_eq_false_iff_ne];exact a1
  have O:Hid (r=false):=by show r=_;rw[I.out,decide_eq_false (fun X=>a1 X.2.2.1)]
  clear J U a1 I;go_wp2_with fail;refine eY (by kernel_rfl) (by kernel_rfl) ?_;repeat (quiet_step (first | exact ci.out _ | exact ck.out _))
  refine wpQuiet_nil ?_;rintro c5 ⟨y,rfl⟩;go_wp2;go_ret;exact⟨by rw[O.out];rfl,L.out.trans (y.2.mono L.out.size)⟩
 have d2:(aj==ro)=true:=by rw[beq_iff_eq];exact a1
 have O:Hid (r=sm):=by
  show r=_;rw[I.out,cn.out];by_cases a5:f.index.entries.map Ent.tup=T.map Ent.tup
  ·rw[decide_eq_true ⟨J,U,a1,a5⟩,decide_eq_true a5]
  ·rw[decide_eq_false (fun X=>a5 X.2.2.2),decide_eq_false a5]
 clear J U a1 I cn;go_wp2_with fail
 go_region_held3 (fun w'=>w'.cell? ⟨w.1.size,7,none⟩=some (.int .i64 Z)∧w'.cell? ⟨w.1.size,8,none⟩=some (.int .i64 ah)∧w'.cell? ⟨w.1.size,9,none⟩=some (.int .i64 aj)∧w'.cell? ⟨w.1.size,10,none⟩=some (.slice a0 bj ak)) (go_keep) (first|(go_at_call 33;refine(cc.out _ (xY.drew)).mono ?_;rintro e c5 ⟨rfl,bn⟩;obtain⟨eL,eS,eU,e0⟩:=M.out _ bn;have c7:=xX bn;clear bn)|(go_at_call 34;refine(cj.out _ c7.out).mono ?_;rintro e fx ⟨rfl,bp⟩;obtain⟨e1,e2,e3,e4⟩:=M.out _ bp;have c8:=xX bp;clear bp)|(go_at_call 40;refine(dp.out _ c8.out).mono ?_;rintro e fy ⟨d5,dv,rfl,ct,bq⟩;obtain⟨e5,e6,e7,e8⟩:=M.out _ bq;have c9:=xX bq;have df:=xX ct;clear bq ct)|(go_at_call 39;refine(dr.out _ d5 dv c9.out df.out).mono ?_;rintro e f0 ⟨rfl,bs⟩;obtain⟨e9,fi,fo,fr⟩:=M.out _ bs;have dd:=xX bs;clear bs)|fail)
 go_wp2;go_ret;exact⟨by rw[O.out];rfl,L.out.trans (dd.out.mono L.out.size)⟩
theorem i7(h:ba w a x F)(a0:¬F a)(f:Fr)(A:f.kind≠1)(D:f.kind≠2)(E:f.kind≠3)(u:AV)(Y:aP w u f)(p:Int):
  Calls Tryz.prog 64 #[.pointer (some ⟨a,0,none⟩),.agg u,.int .i64 p] w fun e w'=>e=.returned (.bool (x.follows f p))∧Below w.1.size w w':=by
 obtain⟨sp,Z,R,O,V,U,rfl,-⟩:=Y.out;unfold aB;have ak:Hid (x.follows f p=false):=by show x.follows f p=_;unfold Rw.follows;rw[if_neg A,if_neg D,if_neg E]
 obtain⟨y,z⟩:∃y,y=w.alloc (.cells #[.int .i64 f.kind,.int .i64 f.number,.slice sp f.cols.length Z,.int .i64 f.seq,.int .i64 f.first,.int .i64 f.rows,.slice R f.block.length O,.int .i64 f.index.at_,.int .i64 f.index.frames,.int .i64 f.index.rows,.slice V f.index.entries.length U] 47):=⟨_,rfl⟩;have I:Below w.1.size w y:=by rw[z];exact xV
 have W:y.1[w.1.size]?=some (.cells #[.int .i64 f.kind,.int .i64 f.number,.slice sp f.cols.length Z,.int .i64 f.seq,.int .i64 f.first,.int .i64 f.rows,.slice R f.block.length O,.int .i64 f.index.at_,.int .i64 f.index.frames,.int .i64 f.index.rows,.slice V f.index.entries.length U] 47 (0,0)):=by rw[z];exact ag w _
 have M:=xX (cW (h.on I a0));have aj:=xX z.symm;have K:=xX I;have L:=xX W;have bc:y.1.size=w.1.size+1:=by rw[z];simp
 have bd:(f.kind==1)=false:=by rw[beq_eq_false_iff_ne];exact A
 have be:(f.kind==2)=false:=by rw[beq_eq_false_iff_ne];exact D
 have bj:(f.kind==3)=false:=by rw[beq_eq_false_iff_ne];exact E
 clear h Y I W z A D E;go_enter Tryz.func64,Tryz.ntmps64;go_wp2_with fail;rw[aj.out];refine M.out.mono ?_;rintro e w1 ⟨rfl,J⟩;have X:=(J.block _ (by omega)).trans L.out;obtain⟨bk,a1,a3,a4,a5,a6,a7,a8,a9,bb,a2⟩:=aO X;have ah:=xX (K.out.trans (J.mono K.out.size));clear J X M L a1 a3 a4 a5 a6 a7 a8 a9 bb a2;go_wp2;go_ret;exact⟨by rw[ak.out];rfl,ah.out⟩
theorem kE(h:ba w a x F)(y:¬F a)(I:-1<=x.number∧x.number<2147483648)(f:Fr)(u:AV)(z:aP w u f)(p:Int):
  Calls Tryz.prog 64 #[.pointer (some ⟨a,0,none⟩),.agg u,.int .i64 p] w fun e w'=>e=.returned (.bool (x.follows f p))∧Below w.1.size w w':=by
 by_cases A:f.kind=1
 ·exact i6 h y I f A u z p
 ·by_cases D:f.kind=2
  ·exact iZ h y f D u z p
  ·by_cases E:f.kind=3
   ·exact iY h y f E u z p
   ·exact i7 h y f A D E u z p
end
end
section
open Go.RowKit
theorem jb{a:Addr}{l:List (List Value)}(A:R12 l)(h:da w (some a) l):∀j u,l.flatten[j]?=some u->w.cell? (a.add j)=some u:=fun j u z=>by
 have I:j<l.length*12:=by
  have:=(List.getElem?_eq_some_iff.1 z).1;rw[dB A] at this;exact this
 have hd:j=j / 12*12+j % 12:=by omega
 have D:j / 12<l.length:=by omega
 obtain⟨b,o,y,E⟩:=h (j / 12) D;injection y with y;subst y;rw[hd,iq A (j / 12) D (j % 12) (by omega)] at z;rw[Lib.add_plain,hd,<-Nat.add_assoc,E _ (by omega)];exact z
theorem mA(us:List (List Value))(u:List Value)(lp:OA)(p:Addr)(w:World)(z:R12 us)(y:R12 [u])(h:da w lp us)(E:da w (some p) [u])(ah:us.length<=1000000):
  ∃cap W,bJ Tryz.prog 109 109 109 (.slice lp us.length us.length) (.slice (some p) 1 1) w (.slice (some ⟨w.1.size,0,none⟩) (us.length+1) cap) W∧db W w.1.size (.slice (some ⟨w.1.size,0,none⟩) (us.length+1) cap) (us++[u])∧Below w.1.size w W:=by
 obtain⟨i,R,Z,I,L⟩:=info_parts vu;have V:∀c∈[u].flatten,c.oneCell'=true:=fun c A=>by
  obtain⟨x,Y,A⟩:=List.mem_flatten.1 A;exact(y x Y).2 c A
 have K:Src Tryz.prog i.size 109 (.slice (some p) 1 1) 1 [u].flatten w:=Src.ofSlice w Tryz.underlying109 p 1 1 [u].flatten (by rw[dB y,I];rfl) (jb y E) V;have hold:(Builtin.firstCells i.size us.length (.slice lp us.length us.length)).run Tryz.prog w.drew=.ok us.flatten.toArray w.drew:=by
  cases lp with
  |none=>
   have J:us=[]:=by
    cases us with
    |nil=>rfl
    |cons x r=>
     obtain⟨b,o,E,-⟩:=h 0 (by simp);cases E
   subst J;exact run_firstCells_none w.drew i.size 0 0 0
  |some a=>exact run_firstCells_some w.drew i.size us.length a _ _ us.flatten (by rw[dB z,I]) (fun j v U=>jb z h j v U)
 have X:=run_append_grow_src w 109 109 109 115 i oF Tryz.underlying109 R Z lp us.length us.length us.flatten hold _ 1 _ K (by omega) (by omega) (growslice_fits (by omega) (by rw[L];omega));have O:=grownCap_ge w (us.length+1) us.length 115;have M:grownCap w (us.length+1) us.length 115<=maxLen:=grownCap_le_maxLen w _ _ _ (by unfold maxLen;omega);have D:(us.flatten++[u].flatten).length=(us.length+1)*12:=by rw[List.length_append,dB z,dB y];simp;omega
 refine⟨_,_,⟨X⟩,⟨z.append y,?_,.inr ⟨w.1.size,_,_,?_,xZ,heap_alloc_new w.drew _,?_,M,?_,?_⟩⟩,xY.drew.alloc xZ _⟩
 ·rw[List.flatten_append,D,List.length_append];rfl
 ·rw[List.length_append];rfl
 ·rw[List.length_append];exact O
 ·simp only[Array.size_append,List.size_toArray,size_zeroCells,D];have:oF.cells.size=12:=rfl;rw[this];omega
 ·simp only[Array.toList_append];rw[List.length_append,List.length_singleton,<-D,List.flatten_append];exact List.take_left
theorem qY{us:List (List Value)}{u:List Value}{lp:OA}{p:Addr}{w:World}{H:Nat}(U:R12 us)(R:R12 [u])(h:da w lp us)(L:da w (some p) [u])(J:us.length<=1000000)(E:w.1.size=H){o:Oper}{a:Act}{z:Act->World->Prop}{Q:Exit->Act->World->Prop}(D x:Operand)(O:o.type=109)(K:o.op=Op.call { callee:=Callee.builtin Builtin.append,args:=#[D,x],argTypes:=#[109,109] })(M:a.eval D=.slice lp us.length us.length)(V:a.eval x=.slice (some p) 1 1)(I:∀cap W,db W H (.slice (some ⟨H,0,none⟩) (us.length+1) cap) (us++[u])->Below H w W->z (a.put o.dst (.slice (some ⟨H,0,none⟩) (us.length+1) cap)) W):
  Oper.wp Tryz.prog o a w z Q:=by
 obtain⟨cap,W,y,A,hb⟩:=mA us u lp p w U R h L J;have y:=y.run;rw[E] at y A hb;unfold Oper.wp;simp[execOp,K,resolve,invoke,builtin,M,V,O,y,Result.andThen];exact I cap W A hb
section
variable {w w':World} {a:Nat} {x:Rw} {F:Nat->Prop}
theorem na{lp M sp:OA}{X Z:Nat}{y J:List (List Value×(Fr×Int))}(V:y.map (·.2)=x.l)(aj:J.map (·.2)=x.s0)(a1:∀w',Aside (fun i=>i=a∨F i) w w'->((∀D∈y,PlV w' D.1 D.2)∧da w' lp (y.map (·.1)))∧di w' M x.e0∧(∀D∈J,PlV w' D.1 D.2)∧da w' sp (J.map (·.1)))(a2:x.e0.length*24<=140737488351232)(K:x.Small){u:List Value}{f:Fr}{p:Int}(a4:∀w',Aside (fun i=>i=a∨F i) w w'->PlV w' u (f,p))(bn:x.l.length<1000000)(a8:f.kind=2->0<=f.rows∧f.rows<=64)(a3:∀k,F k->k<w.1.size)(bj:a<w.1.size){W:World}{g cap:Nat}(a5:Aside (fun i=>i=a) w W)(R:W.1[a]?=some (.cells #[.slice (some ⟨g,0,none⟩) (x.l.length+1) cap,.int .i64 x.f0,.int .i64 x.r0,.slice M x.e0.length X,.slice sp x.s0.length Z] 111))(O:db W w.1.size (.slice (some ⟨g,0,none⟩) (x.l.length+1) cap) (y.map (·.1)++[u])):ba W a (x.push f p) F:=by
 have ak:y.length=x.l.length:=by rw[<-V,List.length_map]
 have bk:=(O.lt g rfl).1;have L:(x.push f p).l.length=x.l.length+1:=by simp[Rw.push]
 have a0:(y++[(u,(f,p))]).map (·.1)=y.map (·.1)++[u]:=by rw[List.map_append];rfl
 refine⟨⟨some ⟨g,0,none⟩,cap,M,X,sp,Z,y++[(u,(f,p))],J,by rw[L];exact R,by rw[List.map_append,V];rfl,aj,fun U hb=>?_,a2,?_⟩,⟨K.f0,K.r0,by rw[L];omega,K.s0,fun q E=>?_⟩⟩
 ·have Y:Aside (fun i=>i=a∨F i) w U:=(a5.mono fun i _ a6=>.inl a6).trans hb fun _ _ h=>h;obtain⟨⟨bb,-⟩,bc,bd,be⟩:=a1 U Y;refine⟨⟨fun D I=>?_,?_⟩,bc,bd,be⟩
  ·rcases List.mem_append.1 I with I | I
   ·exact bb D I
   ·rw[List.mem_singleton] at I;subst I;exact a4 U Y
  ·obtain⟨a9,ah,A,-,a7⟩:=(O.aside hb (fun k R z=>by
    have bl:g=k:=(by simpa[Value.ownBlock] using R);rcases z with z | z
    ·omega
    ·have:=a3 k z;omega)).lies
   injection A with A _ _;rw[a0,A];exact a7
 ·obtain⟨a9,ah,A,z,-⟩:=O.lies;injection A with _ _ A;rw[L,A];rw[List.length_append,List.length_map,ak] at z;exact z
 ·rcases List.mem_append.1 E with E | E
  ·exact K.rows q E
  ·rw[List.mem_singleton] at E;subst E;exact a8
theorem pK(h:ba w a x F)(bc:¬F a)(dv:∀k,F k->k<w.1.size){s:Wk}(bk:Rw.Twin s x)(ct:Sc.Good s)(f:Fr)(eb:f.wf)(d6:f.block.length<=1048576)(u:AV)(bO:∀w',Aside (fun i=>i=a∨F i) w w'->aP w' u f)(p:Int)(e9:x.l.length<1000000):
  Calls Tryz.prog 32 #[.pointer (some ⟨a,0,none⟩),.agg u,.int .i64 p] w fun e w'=>e=.returned (.int .i64 (if Sc.may s f p=true then 0 else 143))∧ba w' a (if Sc.may s f p=true then x.push f p else x) F∧Aside (fun i=>i=a) w w':=by
 have co:=h.lt;have bj:=bO w (Aside.refl _ _);obtain⟨sp,bq,a7,a6,a9,a8,rfl,-⟩:=bj.out;unfold aB at bj bO ⊢;obtain⟨ak,bd⟩:∃ak,ak=w.alloc (.cells #[.int .i64 f.kind,.int .i64 f.number,.slice sp f.cols.length bq,.int .i64 f.seq,.int .i64 f.first,.int .i64 f.rows,.slice a7 f.block.length a6,.int .i64 f.index.at_,.int .i64 f.index.frames,.int .i64 f.index.rows,.slice a9 f.index.entries.length a8] 47):=⟨_,rfl⟩;have cp:Below w.1.size w ak:=by rw[bd];exact xV
 have d4:ak.1[w.1.size]?=some (.cells #[.int .i64 f.kind,.int .i64 f.number,.slice sp f.cols.length bq,.int .i64 f.seq,.int .i64 f.first,.int .i64 f.rows,.slice a7 f.block.length a6,.int .i64 f.index.at_,.int .i64 f.index.frames,.int .i64 f.index.rows,.slice a9 f.index.entries.length a8] 47 (0,0)):=by rw[bd];exact ag w _
 have b5:=xX bd.symm;have g7:ak.1.size=w.1.size+1:=by rw[bd];simp
 have E:Hid (Sc.may s f p=(Fr.within Fr.S p&&decide (Fr.err f=0)&&Sc.follows s f p)):=rfl;obtain⟨V,d9⟩:∃V,V=Sc.may s f p:=⟨_,rfl⟩;rw[<-d9] at E ⊢;obtain⟨en,cy⟩:∃en:Int,en=if V=true then 0 else 143:=⟨_,rfl⟩;obtain⟨em,cx⟩:∃em:Rw,em=if V=true then x.push f p else x:=⟨_,rfl⟩;rw[<-cy,<-cx];have M:=xX cy;have L:=xX cx;have Y:=xX (lX f d6 eb _ ak (bj.on cp));have a5:=xX (fun(a1:Fr.err f=0) w1 (hb:Below w.1.size w w1)=>by
  have O:=kE (h.on hb bc) bc (by rw[bk.number];exact ct.number) f _ (bj.on hb) p;rw[bk.follows ct a1] at O;exact O)
 have D:=xX h;have I:=xX cp;have a4:=xX d4;have ah:=xX bO;have dd:=xX dv;obtain⟨cb,cs⟩:∃cb,cb=Fr.err f:=⟨_,rfl⟩;rw[<-cs] at Y;have Z:=xX cs;clear h bO bj eb bd cp d4 d9 bk ct cs d6 dv cy cx;by_cases X:Fr.within Fr.S p=true;case neg=>
  have cw:Fr.within Fr.S p=false:=by simpa using X
  have cj:¬(0<=p∧p<1099511627776):=fun d7=>X (Fr.within_iff.2 d7);have b4:Hid (V=false):=by show V=_;rw[E.out,cw];rfl
  have aj:=xX (D.out.on I.out bc);rw[b4.out] at M L;have bb:0<=p->1099511627776<=p:=fun a0=>by omega
  by_cases a0:p<0
  ·have ds:decide (p<0)=true:=decide_eq_true a0;clear E cw X cj bb Y a5 D a4 ah Z;go_enter Tryz.func32,Tryz.ntmps32;go_wp2;rw[b5.out];go_ret;rw[M.out,L.out];exact⟨rfl,aj.out,ae I.out _⟩
  ·have ds:decide (p<0)=false:=decide_eq_false a0;have e1:decide (1099511627776<=p)=true:=decide_eq_true (bb (by omega));have g3:1099511627776<=p:=bb (by omega);clear E cw X cj bb Y a5 D a4 ah Z;go_enter Tryz.func32,Tryz.ntmps32;go_wp2;rw[b5.out];go_ret;rw[M.out,L.out];exact⟨rfl,aj.out,ae I.out _⟩
 obtain⟨hc,fv⟩:=Fr.within_iff.1 X;have ds:¬p<0:=by omega
 have p2:p<1099511627776:=fv;have e1:¬1099511627776<=p:=by omega
 rw[X,Bool.true_and] at E;clear X;go_enter Tryz.func32,Tryz.ntmps32;go_wp2_with fail;rw[b5.out];refine Y.out.mono ?_;rintro e w1 (⟨bn,q,cap,rfl,-,R⟩ | ⟨bn,rfl,R⟩);case inr=>
  have aj:=xX (D.out.on (I.out.trans (R.mono I.out.size)) bc);have bX:Hid (Aside (fun i=>i=a) w w1):=ae (I.out.trans (R.mono I.out.size)) _;have bb:((cb:Int) != 0)=true:=by rw[bne_iff_ne];omega
  have b4:Hid (V=false):=by show V=_;rw[E.out,decide_eq_false (by rw[<-Z.out];exact bn)];rfl
  rw[b4.out] at M L;clear R Y bn E Z a5 D a4 ah;go_wp2;go_ret;rw[M.out,L.out];exact⟨rfl,aj.out,bX.out⟩
 have a1:Fr.err f=0:=by rw[<-Z.out];exact bn
 have b0:=xX (I.out.trans (R.mono I.out.size));have b3:=xX (a5.out a1 w1 b0.out);have cq:=(R.block _ (by omega)).trans a4.out;obtain⟨fx,fy,f3,f4,f5,f6,f7,f8,f9,gb,f2⟩:=aO cq;have c8:=xX cq;have df:=xX (Sc.err_parts a1).2.1;rw[decide_eq_true a1,Bool.true_and] at E;obtain⟨cc,d8⟩:∃cc,cc=Sc.follows s f p:=⟨_,rfl⟩;rw[<-d8] at E b3;have g8:=R.size;clear R cq d8 a1 bn Y Z a5 a4;go_wp2_with fail;refine b3.out.mono ?_;rintro e w2 ⟨rfl,bN⟩;have J:=xX (b0.out.trans (bN.mono b0.out.size));have d5:=(bN.block _ (by omega)).trans c8.out;obtain⟨gf,gh,gm,gn,gq,gs,gt,gz,gL,gN,gl⟩:=aO d5;have ha:=bN.size;clear bN d5 b3 fx fy f3 f4 f5 f6 f7 f8 f9 gb f2 c8;rw[E.out] at M L;cases cc with
 |false=>
  have aj:=xX (D.out.on J.out bc);have bX:Hid (Aside (fun i=>i=a) w w2):=ae J.out _;clear D ah;go_wp2;go_ret;rw[M.out,L.out];exact⟨rfl,aj.out,bX.out⟩
 |true=>
  obtain⟨lp,U,b9,b8,c7,c6,eL,g0,ec,b6,dr,bp,el,fs⟩:=D.out.out;have dp:=xX D.out.small;obtain⟨us,a3⟩:∃us,us=eL.map (·.1):=⟨_,rfl⟩;have b7:us.length=x.l.length:=by rw[a3,List.length_map,<-b6,List.length_map]
  have g6:us.length<1000000:=by omega
  have bT:w2.1[a]?=some (.cells #[.slice lp us.length U,.int .i64 x.f0,.int .i64 x.r0,.slice b9 x.e0.length b8,.slice c7 x.s0.length c6] 111):=by rw[b7,J.out.block a co];exact ec
  have g4:us.length<=U:=by omega
  have c0:w2.cell? ⟨a,0,none⟩=some (.slice lp us.length U):=aa bT 0;have g1:w2.frozen? ⟨a,0,none⟩=false:=ab bT 0;have d0:da w2 lp us:=by rw[a3];exact(bp w2 (ae J.out _)).1.2
  have hg:∀w',(Instr.slice 109 (.slice lp us.length U) none (some (.int .i64 (us.length:Nat))) (some (.int .i64 (us.length:Nat)))).run Tryz.prog w'=.ok (.slice lp us.length us.length) w':=fun w'=>by
   have fi:(sizeOf (Tryz.prog.elem 109)).run Tryz.prog w'=.ok 12 w':=(by kernel_rfl);rw[run_slice_hm w' 109 lp us.length U (by kernel_rfl) .i64 .i64 (us.length:Nat) (us.length:Nat) (by omega) (by omega) (by omega),fi];have a0:us.length≠0->∃b o,lp=some ⟨b,o,none⟩:=fun a0=>by
    obtain⟨b,o,O,-⟩:=d0 0 (by omega);exact⟨b,o,O⟩
   by_cases ea:us.length=0
   ·rw[ea];simp[sliced,Result.andThen]
   ·obtain⟨b,o,rfl⟩:=a0 ea;simp[sliced,Result.andThen,Addr.add]
  obtain⟨u12,c5⟩:∃u12:List Value,u12=[.int .i64 f.kind,.int .i64 f.number,.slice sp f.cols.length bq,.int .i64 f.seq,.int .i64 f.first,.int .i64 f.rows,.slice a7 f.block.length a6,.int .i64 f.index.at_,.int .i64 f.index.frames,.int .i64 f.index.rows,.slice a9 f.index.entries.length a8,.int .i64 p]:=⟨_,rfl⟩;have cn:∀w',Aside (fun i=>i=a∨F i) w w'->PlV w' u12 (f,p):=fun w' be=>⟨sp,bq,a7,a6,a9,a8,ah.out w' be,c5⟩;have d2:=(cn w (Aside.refl _ _)).twelve;have ez:Hid (R12 [u12]):=fun y bl=>by
   rw[List.mem_singleton] at bl;subst bl;exact d2
  have eC:Hid (R12 us):=fun y bl=>by
   rw[a3] at bl;obtain⟨t,bk,rfl⟩:=List.mem_map.1 bl;exact((bp w (Aside.refl _ _)).1.1 t bk).twelve
  have eu:Hid (∀w',Below w2.1.size w2 w'->da w' lp us):=fun w' hb=>by rw[a3];exact(bp w' (ae (J.out.trans (hb.mono J.out.size)) _)).1.2
  have er:Hid (∀w',w'.1[w2.1.size]?=some (.cells u12.toArray 115)->da w' (some ⟨w2.1.size,0,none⟩) [u12]):=fun w' hb j e6=>by
   have e7:j=0:=(by simpa using e6);subst e7;exact⟨w2.1.size,0,rfl,fun m _=>by rw[aa hb];simp⟩
  have e5:a<w2.1.size:=Nat.lt_of_lt_of_le co J.out.size;have c9:Hid (∀w',Below w2.1.size w2 w'->w'.1[a]?=some (.cells #[.slice lp us.length U,.int .i64 x.f0,.int .i64 x.r0,.slice b9 x.e0.length b8,.slice c7 x.s0.length c6] 111)):=fun w' hb=>(hb.block a e5).trans bT;have ep:Hid (∀W cap,db W (w2.1.size+1) (.slice (some ⟨w2.1.size+1,0,none⟩) (us.length+1) cap) (us++[u12])->Below w2.1.size w2 W->ba (W.setCell ⟨a,0,none⟩ (.slice (some ⟨w2.1.size+1,0,none⟩) (us.length+1) cap)) a (x.push f p) F∧Aside (fun i=>i=a) w (W.setCell ⟨a,0,none⟩ (.slice (some ⟨w2.1.size+1,0,none⟩) (us.length+1) cap))):=fun W cap e3 hb=>by
   have fo:=J.out.size;have g5:=hb.size;have e4:Aside (fun i=>i=a) w W:=ae (J.out.trans (hb.mono fo)) _;have be:=e4.setCell (p:=⟨a,0,none⟩) (.inl rfl) (.slice (some ⟨w2.1.size+1,0,none⟩) (us.length+1) cap);refine⟨?_,be⟩;have ck:db (W.setCell ⟨a,0,none⟩ (.slice (some ⟨w2.1.size+1,0,none⟩) (us.length+1) cap)) w.1.size (.slice (some ⟨w2.1.size+1,0,none⟩) (us.length+1) cap) (us++[u12]):=by
    have O:=e3.aside ((Aside.refl (fun k=>k=a) W).setCell (p:=⟨a,0,none⟩) (.inl rfl) (.slice (some ⟨w2.1.size+1,0,none⟩) (us.length+1) cap)) (fun k a2 d7=>by
     have:w2.1.size+1=k:=(by simpa[Value.ownBlock] using a2);omega)
    refine⟨O.1,O.2.1,?_⟩;rcases O.2.2 with ⟨ci,-⟩ | ⟨g,c,eU,ci,cj,e2⟩
    ·cases ci
    ·exact .inr ⟨g,c,eU,ci,by omega,e2⟩
   have e8:=c9.out W hb;have a2:(W.setCell ⟨a,0,none⟩ (.slice (some ⟨w2.1.size+1,0,none⟩) (us.length+1) cap)).1[a]?=some (.cells #[.slice (some ⟨w2.1.size+1,0,none⟩) (us.length+1) cap,.int .i64 x.f0,.int .i64 x.r0,.slice b9 x.e0.length b8,.slice c7 x.s0.length c6] 111):=by
    simp[World.setCell,Array.getElem?_modify,e8]
   rw[b7] at a2 ck be ⊢;rw[a3] at ck;exact na b6 dr bp el dp.out cn e9 (fun a2=>by have:=df.out a2;omega) dd.out co be a2 ck
  have ew:=xX c5;have fr:us.length<=1000000:=by omega
  clear ec b6 dr bp el fs a3 b7 cn d2 d0 D dp c5 df dd ah bT;go_wp2_with fail;have b2:Hid (∀o,Below w2.1.size w2 (w2.alloc o).drew):=fun o=>(xY.alloc xZ o).drew;haveI:Nonempty (Ext w2):=⟨⟨w2,xY⟩⟩;have hh:∀z:Ext w2,z.val.cell? ⟨w.1.size,0,none⟩=some (.int .i64 f.kind):=fun z=>ac z.2 gf;have hi:∀z:Ext w2,z.val.cell? ⟨w.1.size,1,none⟩=some (.int .i64 f.number):=fun z=>ac z.2 gh;have hk:∀z:Ext w2,z.val.cell? ⟨w.1.size,2,none⟩=some (.slice sp f.cols.length bq):=fun z=>ac z.2 gm;have hl:∀z:Ext w2,z.val.cell? ⟨w.1.size,3,none⟩=some (.int .i64 f.seq):=fun z=>ac z.2 gn;have hm:∀z:Ext w2,z.val.cell? ⟨w.1.size,4,none⟩=some (.int .i64 f.first):=fun z=>ac z.2 gq;have hn:∀z:Ext w2,z.val.cell? ⟨w.1.size,5,none⟩=some (.int .i64 f.rows):=fun z=>ac z.2 gs;have ho:∀z:Ext w2,z.val.cell? ⟨w.1.size,6,none⟩=some (.slice a7 f.block.length a6):=fun z=>ac z.2 gt;have hp:∀z:Ext w2,z.val.cell? ⟨w.1.size,7,none⟩=some (.int .i64 f.index.at_):=fun z=>ac z.2 gz;have hq:∀z:Ext w2,z.val.cell? ⟨w.1.size,8,none⟩=some (.int .i64 f.index.frames):=fun z=>ac z.2 gL;have hr:∀z:Ext w2,z.val.cell? ⟨w.1.size,9,none⟩=some (.int .i64 f.index.rows):=fun z=>ac z.2 gN;have hj:∀z:Ext w2,z.val.cell? ⟨w.1.size,10,none⟩=some (.slice a9 f.index.entries.length a8):=fun z=>ac z.2 gl;have g2:∀z:Ext w2,z.val.cell? ⟨a,0,none⟩=some (.slice lp us.length U):=fun z=>ac z.2 c0;refine iC (u:=w2) 19 4 (by kernel_rfl) (by kernel_rfl) rfl (fun c d v a w h=>by cases d <;> exact h) ?_;simp only[List.take_succ_cons,List.take_zero,List.drop_succ_cons,List.drop_zero]
  iterate 19
   refine tJ ?_;apply Exists.intro;refine⟨fun z=>?_,?_⟩
   ·go_simp;try with_reducible rfl
   try simp only[Act.put,List.setIfInBounds_toArray,List.set_cons_zero,List.set_cons_succ]
  refine rb ?_;refine eO (fun K A=>?_);go_simp;refine A _ _ ⟨⟨_,b2.out _⟩,rfl⟩ ?_;clear A K;try simp only[Act.put,List.setIfInBounds_toArray,List.set_cons_zero,List.set_cons_succ]
  refine eO (fun K A=>?_);refine qY (us:=us) (u:=u12) (lp:=lp) (p:=⟨w2.1.size,0,none⟩) eC.out ez.out (eu.out _ (b2.out _)) (er.out _ (by rw[ew.out];exact ag w2 _)) fr (H:=w2.1.size+1) (by simp) (.tmp 44) (.tmp 48) rfl rfl rfl rfl ?_;intro eS w4 d1 d3;have bs:Below w2.1.size w2 w4:=(b2.out _).trans (d3.mono (by omega));have cv:=c9.out w4 bs;have he:w4.cell? ⟨a,0,none⟩=some (.slice lp us.length U):=aa cv 0;have hf:w4.frozen? ⟨a,0,none⟩=false:=ab cv 0;have eq:=xX (ep.out w4 eS d1 bs);have b1:=xX bs;refine A _ _ ⟨⟨_,b1.out⟩,rfl⟩ ?_;clear d1 d3 bs cv A K;try simp only[Act.put,List.setIfInBounds_toArray,List.set_cons_zero,List.set_cons_succ]
  refine eO (fun K A=>?_);go_simp;refine A _ _ ⟨⟨_,b1.out⟩,rfl⟩ ?_;clear A K;try simp only[Act.put,List.setIfInBounds_toArray,List.set_cons_zero,List.set_cons_succ]
  refine eO (fun K A=>?_);go_simp;refine A _ _ ⟨⟨_,b1.out⟩,rfl⟩ ?_;clear A K;try simp only[Act.put,List.setIfInBounds_toArray,List.set_cons_zero,List.set_cons_succ]
  refine qZ (fun K A=>?_);go_simp;refine A _ _ ?_;clear A K;go_wp2;go_ret;rw[M.out,L.out];exact⟨rfl,eq.out⟩
end
end
end Go.Proofs.YtdkammppnkhhoaaGreatDoor

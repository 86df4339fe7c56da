import Derived.Deep.RegionHeldLaw
import Derived.Test.YtlgfdgdlaahpfaaGreatDoorA4
import Derived.Test.YtlgfdgdlaahpfaaGreatDoorA6
set_option maxRecDepth 100000
set_option maxHeartbeats 16000000
namespace Go.Proofs.YtlgfdgdlaahpfaaGreatDoor
section
open Go
def dQ(P:Program)(o:Oper)(Q:Exit->Act->World->Prop):Exit->Act->World->Prop
 |.normal,a,w=>o.wp P a w (fun a' w'=>Q .normal a' w') Q
 |e,a,w=>Q e a w
section
variable {P:Program} {md:Region.Mode} {l:List Oper} {o:Oper} {Q:Exit->Act->World->Prop}
theorem nM{x:Oper}{a:Act}{w:World}{K K':Act->World->Prop}(h:∀a w,K a w->K' a w)(hh:x.wp P a w K (dQ P o Q)):x.wp P a w K' Q:=by
 have h1:x.wp P a w K' (dQ P o Q):=Oper.wp_mono h hh
 unfold Oper.wp at h1 ⊢
 generalize (execOp a.eval x).run P w=r at h1 ⊢
 cases r with
 |ok n w'=>cases n <;> first | exact h1 | exact Calls.mono h1 (fun e w'' he=>by cases e <;> exact he)
 |halt y w'=>cases y <;> exact h1
def nc(md:Region.Mode)(l:List Oper)(o:Oper):Bool :=
 l.all (fun x=>x.guard.isNone)&&o.guard.isNone&&(List.range l.length).all (fun k=>((l[k]?).map fun x=>x.after.all fun e=>!Region.binds md e||decide (e.on<k)).getD true)
 &&o.after.all (fun e=>!Region.binds md e||decide (e.on<l.length))&&(List.range l.length).all (fun k=>(o.after.any fun e=>Region.binds md e&&e.on==k)||(List.range l.length).any fun j=>decide (k<j)&&((l[j]?).map fun x=>x.after.any fun e=>Region.binds md e&&e.on==k).getD false)
def nJ(md:Region.Mode)(l:List Oper)(b:Array Bool):Prop:=∀j x,l[j]?=some x->b.getD j false=true->∀e∈x.after,Region.binds md e=true->b.getD e.on false=true
theorem cC{b:Array Bool}{k:Nat}(d:Bool)(h:k<b.size):(b.push false).getD k d=b.getD k d:=by
 simp[Array.getElem?_push,h,Nat.ne_of_lt h]
theorem lz(hB:nc md l o=true):∀(fuel:Nat) (b:Array Bool) (a:Act) (w:World),b.size=l.length->nJ md l b->wpAny P md l.toArray (dQ P o Q) fuel b a w->wpAny P md (l++[o]).toArray Q (fuel+1) (b.push false) a w:=by
 unfold nc at hB
 simp only[Bool.and_eq_true,List.all_eq_true,List.mem_range,Array.all_eq_true',Array.any_eq_true',Bool.or_eq_true,Bool.not_eq_true',decide_eq_true_eq,beq_iff_eq,Option.isNone_iff_eq_none,List.any_eq_true] at hB
 obtain⟨⟨⟨⟨hg,ho⟩,hb⟩,hi⟩,hw⟩:=hB
 have hget:∀k,k<l.length->(l++[o]).toArray[k]?=l.toArray[k]?:=fun k hk=>by simp[List.getElem?_append_left hk]
 have hlast:(l++[o]).toArray[l.length]?=some o:=by simp
 have hup:∀b:Array Bool,b.size=l.length->∀j,j<l.length->j∈Region.ready md (l++[o]).toArray (b.push false)->j∈Region.ready md l.toArray b:=fun b hs j hj h=>by
  rw[mem_ready,hget j hj,cC _ (by omega)] at h
  obtain⟨h1,x,hx,h2⟩:=h
  refine mem_ready.2 ⟨h1,x,hx,fun e he hbi=>?_⟩
  have hlt:=hb j hj
  have hx':l[j]?=some x:=by simpa using hx
  rw[hx'] at hlt
  simp only[Option.map_some,Option.getD_some,Array.all_eq_true',Bool.or_eq_true,Bool.not_eq_true',decide_eq_true_eq] at hlt
  have h3:=h2 e he hbi
  rcases hlt e he with h4 | h4
  ·rw[hbi] at h4;cases h4
  ·rw[cC _ (by omega)] at h3;exact h3
 have hdn:∀b:Array Bool,b.size=l.length->∀j,j<l.length->j∈Region.ready md l.toArray b->j∈Region.ready md (l++[o]).toArray (b.push false):=fun b hs j hj h=>by
  obtain⟨h1,x,hx,h2⟩:=mem_ready.1 h
  refine mem_ready.2 ⟨by rw[cC _ (by omega)];exact h1,x,by rw[hget j hj];exact hx,fun e he hbi=>?_⟩
  have h3:=h2 e he hbi
  have h4:e.on<b.size:=by
   rcases Nat.lt_or_ge e.on b.size with h' | h'
   ·exact h'
   ·simp[Array.getElem?_eq_none h'] at h3
  rw[cC _ h4];exact h3
 have hlt:∀b:Array Bool,∀j,j∈Region.ready md (l++[o]).toArray b->j<=l.length:=fun b j h=>by
  obtain⟨-,x,hx,-⟩:=mem_ready.1 h
  have:=(Array.getElem?_eq_some_iff.1 hx).1
  simp at this
  omega
 have hall:∀b:Array Bool,b.size=l.length->Region.ready md l.toArray b=[]->∀k,k<l.length->b.getD k false=true:=fun b hs hr k=>by
  induction k using Nat.strongRecOn with
  |_ k ih=>
   intro hk
   cases hc:b.getD k false with
   |true=>rfl
   |false=>
    exfalso
    have hx:l.toArray[k]?=some l[k]:=by simp[hk]
    have:k∈Region.ready md l.toArray b:=by
     refine mem_ready.2 ⟨?_,l[k],hx,fun e he hbi=>?_⟩
     ·simp[show k<b.size by omega] at hc ⊢;exact hc
     ·have h1:=hb k hk
      rw[List.getElem?_eq_getElem hk] at h1
      simp only[Option.map_some,Option.getD_some,Array.all_eq_true',Bool.or_eq_true,Bool.not_eq_true',decide_eq_true_eq] at h1
      rcases h1 e he with h2 | h2
      ·rw[hbi] at h2;cases h2
      ·exact ih e.on h2 (by omega)
    rw[hr] at this
    cases this
 have hfin:∀(fuel:Nat) (b:Array Bool) (a:Act) (w:World),b.size=l.length->Region.ready md l.toArray b=[]->dQ P o Q .normal a w->wpAny P md (l++[o]).toArray Q (fuel+1) (b.push false) a w:=fun fuel b a w hs hr hq=>by
  have hL:=hall b hs hr
  have hme:l.length∈Region.ready md (l++[o]).toArray (b.push false):=mem_ready.2 ⟨by rw[<-hs];simp,o,hlast,fun e he hbi=>by
   rcases hi e he with h1 | h1
   ·rw[hbi] at h1;cases h1
   ·rw[cC _ (by omega)];exact hL e.on h1⟩
  refine⟨fun h0=>(by rw[h0] at hme;cases hme),fun j hj=>?_⟩
  have hjn:j=l.length:=by
   have h1:=hlt _ j hj
   rcases Nat.lt_or_ge j l.length with h2 | h2
   ·have:=hup b hs j h2 hj
    rw[hr] at this
    cases this
   ·omega
  subst hjn
  unfold wpOp
  simp only[hlast,Region.wanted,ho,if_true]
  refine .inl (Oper.wp_mono (fun a' w' h=>wpAny_done ?_ h fuel) hq)
  refine List.eq_nil_iff_forall_not_mem.2 fun j hj=>?_
  have h1:=hlt _ j hj
  have h2:=(mem_ready.1 hj).1
  rcases Nat.lt_or_ge j l.length with h3 | h3
  ·rw[getD_set_ne true (by omega),cC _ (by omega)] at h2
   have h4:=hL j h3
   simp[show j<b.size by omega] at h2 h4
   rw[h4] at h2
   cases h2
  ·have:j=l.length:=by omega
   subst this
   simp[hs] at h2
 intro fuel
 induction fuel with
 |zero=>exact fun b a w hs _ h=>hfin 0 b a w hs h.1 h.2
 |succ fuel ih=>
  intro b a w hs hc h
  by_cases hr:Region.ready md l.toArray b=[]
  ·exact hfin (fuel+1) b a w hs hr (h.1 hr)
  ·have hne:∀j,j∈Region.ready md (l++[o]).toArray (b.push false)->j<l.length:=fun j hj=>by
    have h1:=hlt _ j hj
    rcases Nat.lt_or_ge j l.length with h2 | h2
    ·exact h2
    ·exfalso
     have hjn:j=l.length:=by omega
     subst hjn
     obtain⟨-,x,hx,h3⟩:=mem_ready.1 hj
     rw[hlast] at hx
     injection hx with hx
     subst hx
     have hup2:∀d k,k+d=l.length->0<d->b.getD k false=true:=fun d=>by
      induction d using Nat.strongRecOn with
      |_ d ih2=>
       intro k hkd hd
       rcases hw k (by omega) with ⟨e,he,hbi,heq⟩ | ⟨j,hj,hkj,hx⟩
       ·have h4:=h3 e he hbi
        rw[heq,cC _ (by omega)] at h4
        exact h4
       ·rw[List.getElem?_eq_getElem hj] at hx
        simp only[Option.map_some,Option.getD_some,Array.any_eq_true',Bool.and_eq_true,beq_iff_eq] at hx
        obtain⟨e,he,hbi,heq⟩:=hx
        have h4:=hc j l[j] (List.getElem?_eq_getElem hj) (ih2 (l.length-j) (by omega) j (by omega) (by omega)) e he hbi
        rw[heq] at h4
        exact h4
     refine hr (List.eq_nil_iff_forall_not_mem.2 fun k hk=>?_)
     obtain⟨k1,y,hy,-⟩:=mem_ready.1 hk
     have hkl:k<l.length:=by
      have:=(Array.getElem?_eq_some_iff.1 hy).1
      simpa using this
     have h4:=hup2 (l.length-k) k (by omega) (by omega)
     simp[show k<b.size by omega] at k1 h4
     rw[h4] at k1
     cases k1
   refine⟨fun h0=>absurd (List.eq_nil_iff_forall_not_mem.2 fun j hj=>?_) hr,fun j hj=>?_⟩
   ·have hjl:j<l.length:=by
     obtain⟨-,y,hy,-⟩:=mem_ready.1 hj
     have:=(Array.getElem?_eq_some_iff.1 hy).1
     simpa using this
    have:=hdn b hs j hjl hj
    rw[h0] at this
    cases this
   ·have hjl:=hne j hj
    have h1:=h.2 j (hup b hs j hjl hj)
    have hx:l.toArray[j]?=some l[j]:=by simp[hjl]
    have hgj:(l[j]).guard=none:=hg _ (List.getElem_mem hjl)
    have hset:(b.push false).setIfInBounds j true=(b.setIfInBounds j true).push false:=by
     apply Array.ext_getElem?
     intro k
     simp only[Array.getElem?_setIfInBounds,Array.getElem?_push,Array.size_push,Array.size_setIfInBounds]
     by_cases hjk:j=k
     ·subst hjk
      simp[show j<b.size by omega,show j≠b.size by omega,show j<b.size+1 by omega]
     ·simp[hjk]
    have hc':nJ md l (b.setIfInBounds j true):=fun i x hi hli e he hbi=>by
     by_cases hji:j=i
     ·subst hji
      obtain⟨-,y,hy,h2⟩:=mem_ready.1 (hup b hs j hjl hj)
      have hxy:y=x:=by
       have:l[j]?=some y:=by simpa using hy
       rw[hi] at this
       injection this with this
       exact this.symm
      subst hxy
      have h3:=h2 e he hbi
      by_cases hje:j=e.on
      ·rw[<-hje];simp[show j<b.size by omega]
      ·rw[getD_set_ne false hje];exact h3
     ·rw[getD_set_ne false hji] at hli
      have h3:=hc i x hi hli e he hbi
      by_cases hje:j=e.on
      ·rw[<-hje];simp[show j<b.size by omega]
      ·rw[getD_set_ne false hje];exact h3
    unfold wpOp at h1 ⊢
    simp only[hx,hget j hjl,Region.wanted,hgj,if_true] at h1 ⊢
    rw[hset]
    rcases h1 with h1 | ⟨h1,h2⟩
    ·exact .inl (nM (fun a' w' h'=>ih _ a' w' (by simpa using hs) hc' h') h1)
    ·exact .inr ⟨h1,h2⟩
theorem gF{id:Nat}{a:Act}{w:World}(hm:P.follows .mixedOrders=true)(hB:nc .any l o=true)(h:wpAny P .any l.toArray (dQ P o Q) l.length (Array.replicate l.length false) a w.drew):(Code.region id (l++[o]).toArray true).wp P Q a w:=by
 refine wp_region_any hm ?_
 have h1:=lz hB l.length (Array.replicate l.length false) a w.drew (by simp) (fun j x _ hj=>(by
  simp only[Array.getD_eq_getD_getElem?,Array.getElem?_replicate] at hj
  split at hj <;> cases hj)) h
 have e1:(l++[o]).toArray.size=l.length+1:=by simp
 rw[e1,Array.replicate_succ]
 exact h1
end
end
section
open Go.RowKit
def Ext(w:World):Type:={ w':World // Below w.1.size w w' }
def gm(w w':World):Prop:=∃z:Ext w,w'=z.val
theorem eA{P:Program}{id:Nat}{Q:Exit->Act->World->Prop}{a:Act}{w:World}{l:List Oper}(hm:P.follows .mixedOrders=true)(hB:Region.lexB .any l.toArray=true)(h:wpQuiet P l.toArray (fun w'=>∃z:Ext w,w'=z.val) (fun a'=>∀w',(∃z:Ext w,w'=z.val)->Q .normal a' w') l a):(Code.region id l.toArray true).wp P Q a w :=
 wp_region_quiet (C:=fun w'=>∃z:Ext w,w'=z.val) hm hB ⟨⟨w.drew,vZ.drew⟩,rfl⟩ (by simpa using h)
section
variable {P:Program} {ops:Array Oper} {Q:Exit->Act->World->Prop} {u:World}
def kh(P:Program)(u:World)(T:Act->Prop):List Oper->Act->Prop
 | [],a=>T a
 |o::l,a=>∃v,(∀z:Ext u,(execOp a.eval o).run P z.val=.ok (.value v) z.val)∧kh P u T l (a.put o.dst v)
theorem rL{T:Act->Prop}{o:Oper}{l:List Oper}{a:Act}(h:∃v,(∀z:Ext u,(execOp a.eval o).run P z.val=.ok (.value v) z.val)∧kh P u T l (a.put o.dst v)):kh P u T (o::l) a:=h
theorem pt{T:Act->Prop}{a:Act}(h:T a):kh P u T [] a:=h
theorem iZ{T T':Act->Prop}(h:∀a,T a->T' a):∀(l:List Oper) (a:Act),kh P u T l a->kh P u T' l a
 | [],a,k=>h a k
 |_::l,_,⟨v,k1,k2⟩=>⟨v,k1,iZ h l _ k2⟩
def nN(P:Program)(u:World)(Q:Exit->Act->World->Prop):List Oper->Act->World->Prop
 | [],a,w=>Q .normal a w
 |o::l,a,w=>o.wp P a w (fun a' w'=>gm u w'∧nN P u Q l a' w') Q
theorem ej{o:Oper}{l:List Oper}{a:Act}{w:World}(h:∀K:Act->World->Prop,(∀a w,gm u w->nN P u Q l a w->K a w)->o.wp P a w K Q):nN P u Q (o::l) a w:=h _ fun _ _ h1 h2=>⟨h1,h2⟩
theorem pr{o:Oper}{a:Act}{w:World}(h:∀K:Act->World->Prop,(∀a w,Q .normal a w->K a w)->o.wp P a w K Q):nN P u (dQ P o Q) [] a w:=h _ fun _ _ h=>h
def hdB(ops:Array Oper):Nat->Nat->Array Bool->Bool
 |0,_,_=>true
 |m+1,k,b=>(Region.ready .any ops b).contains k&&Region.free .any ops b k&&((ops[k]?).map (·.guard.isNone)).getD false&&hdB ops m (k+1) (b.setIfInBounds k true)
def hdL:Nat->Nat->Array Bool->Array Bool
 |0,_,b=>b
 |m+1,k,b=>hdL m (k+1) (b.setIfInBounds k true)
def sqB(ops:Array Oper):Nat->Nat->Array Bool->Bool
 |0,_,b=>(Region.ready .any ops b).isEmpty
 |m+1,k,b=>(Region.ready .any ops b==[k])&&((ops[k]?).map (·.guard.isNone)).getD false&&sqB ops m (k+1) (b.setIfInBounds k true)
theorem guard_of{o:Oper}{k:Nat}(h0:ops[k]?=some o)(h:((ops[k]?).map (·.guard.isNone)).getD false=true)(f:Nat->Option Bool):Region.wanted o f=true:=by
 rw[h0] at h
 simp only[Option.map_some,Option.getD_some,Option.isNone_iff_eq_none] at h
 simp[Region.wanted,h]
theorem i6:∀(l:List Oper) (k:Nat) (b:Array Bool) (a:Act) (w:World),(∀j,j<l.length->l[j]?=ops[k+j]?)->sqB ops l.length k b=true->nN P u Q l a w->wpAnyH P .any ops Q (gm u) l.length b a w
 | [],k,b,a,w,_,hB,h=>⟨by simpa[sqB] using hB,h⟩
 |o::l,k,b,a,w,hl,hB,h=>by
  have h0:ops[k]?=some o:=by simpa using(hl 0 (by simp)).symm
  simp only[List.length_cons,sqB,Bool.and_eq_true,beq_iff_eq] at hB
  obtain⟨⟨hr,hg⟩,hB'⟩:=hB
  refine wpAnyH_all hr (by simp) fun i hi=>?_
  rw[List.mem_singleton] at hi
  subst hi
  unfold wpOp
  simp only[h0,guard_of h0 hg,if_true]
  exact .inl (Oper.wp_mono (fun a' w' h'=>⟨h'.1,i6 l (i+1) _ a' w' (fun j hj=>by have:=hl (j+1) (by simp;omega);simpa[Nat.add_assoc,Nat.add_comm 1 j] using this) hB' h'.2⟩) h)
theorem i7{g:Nat}{w:World}(hs:Region.noSelect ops=true)(hQ:∀c d v a w,Q (.panic c) (Act.put a d v) w->Q (.panic c) a w)(hw:gm u w):∀(l:List Oper) (k:Nat) (b:Array Bool) (a:Act),(∀j,j<l.length->l[j]?=ops[k+j]?)->hdB ops l.length k b=true ->
  kh P u (fun a'=>wpAnyH P .any ops Q (gm u) g (hdL l.length k b) a' w) l a->wpAnyH P .any ops Q (gm u) (l.length+g) b a w
 | [],k,b,a,_,_,h=>by rw[List.length_nil,Nat.zero_add];exact h
 |o::l,k,b,a,hl,hB,h=>by
  have h0:ops[k]?=some o:=by simpa using(hl 0 (by simp)).symm
  simp only[List.length_cons,hdB,Bool.and_eq_true] at hB
  obtain⟨⟨⟨hr,hf⟩,hg⟩,hB'⟩:=hB
  obtain⟨v,h1,h2⟩:=h
  rw[List.length_cons,Nat.add_right_comm]
  refine wpAnyH_take (v:=v) h0 hs hf hr (fun c a w=>hQ c _ _ a w) (.inl ⟨guard_of h0 hg _,?_⟩) hw ?_
  ·rintro _ ⟨z,rfl⟩
   exact h1 z
  ·exact i7 hs hQ hw l (k+1) _ _ (fun j hj=>by have:=hl (j+1) (by simp;omega);simpa[Nat.add_assoc,Nat.add_comm 1 j] using this) hB' h2
def sX(l:List Oper)(n m:Nat):Bool :=
 ((l[n+m]?).map fun o=>nc .any (l.take (n+m)) o).getD false&&decide (l.length=n+m+1)&&Region.noSelect (l.take (n+m)).toArray&&hdB (l.take (n+m)).toArray n 0 (Array.replicate (n+m) false)&&sqB (l.take (n+m)).toArray m n (hdL n 0 (Array.replicate (n+m) false))
theorem gG{id:Nat}{a:Act}{l:List Oper}{o:Oper}(n m:Nat)(hm:P.follows .mixedOrders=true)(hB:sX l n m=true)(ho:l[n+m]?=some o)(hQ:∀c d v a w,Q (.panic c) (Act.put a d v) w->Q (.panic c) a w)(h:kh P u (fun a'=>nN P u (dQ P o Q) ((l.take (n+m)).drop n) a' u.drew) (l.take n) a):(Code.region id l.toArray true).wp P Q a u:=by
 unfold sX at hB
 rw[ho] at hB
 simp only[Option.map_some,Option.getD_some,Bool.and_eq_true,decide_eq_true_eq] at hB
 obtain⟨⟨⟨⟨h1,h2⟩,h3⟩,h4⟩,h5⟩:=hB
 have hlt:n+m<l.length:=by omega
 have e0:l=l.take (n+m)++[o]:=by
  have h6:=List.take_append_drop (n+m) l
  have h7:l.drop (n+m)=[o]:=by
   rw[List.drop_eq_getElem_cons hlt,List.drop_eq_nil_of_le (by omega)]
   rw[List.getElem?_eq_getElem hlt] at ho
   injection ho with ho
   rw[ho]
  rw[h7] at h6
  exact h6.symm
 have hl:(l.take (n+m)).length=n+m:=by rw[List.length_take];omega
 have hd:((l.take (n+m)).drop n).length=m:=by rw[List.length_drop,hl];omega
 have ht:(l.take n).length=n:=by rw[List.length_take];omega
 rw[e0]
 refine gF hm h1 (wpAny_of_held (S:=gm u) _ _ _ _ ?_)
 rw[hl]
 have hin:gm u u.drew:=⟨⟨u.drew,vZ.drew⟩,rfl⟩
 have:=i7 (P:=P) (Q:=dQ P o Q) (ops:=(l.take (n+m)).toArray) (g:=m) h3 (fun c d v a w h=>hQ c d v a w h) hin (l.take n) 0 (Array.replicate (n+m) false) a (fun j hj=>by
  rw[ht] at hj
  simp[hj,show j<n+m by omega]) (by rw[ht];exact h4)
 rw[ht] at this
 refine this ?_
 refine iZ (fun a' h'=>?_) _ _ h
 have h6:=i6 (P:=P) (u:=u) (Q:=dQ P o Q) (ops:=(l.take (n+m)).toArray) ((l.take (n+m)).drop n) n (hdL n 0 (Array.replicate (n+m) false)) a' u.drew (fun j hj=>by simp[List.getElem?_drop]) (by rw[hd];exact h5) h'
 rw[hd] at h6
 exact h6
end
end
section
open Go.RowKit
section
variable {w w':World} {a:Nat} {x:Rw} {F:Nat->Prop}
theorem gY(h:aG w a x F)(hFa:¬F a)(f:Fr)(hk:f.kind=3)(u:AV)(hf:aB w u f)(p:Int):
  Calls Tryz.prog 32 #[.pointer (some ⟨a,0,none⟩),.agg u,.int .i64 p] w fun e w'=>e=.returned (.bool (x.follows f p))∧Below w.1.size w w':=by
 obtain⟨sp,sc,bp,bc,ep,ec,rfl,-,-,-,-,-,-,hfe1,hfe2,hfe3⟩:=hf.out
 unfold av
 have HX:Hid (x.follows f p=decide (f.index.at_=p∧f.index.frames=x.frames∧f.index.rows=x.rows∧f.index.entries.map Ent.tup=x.entries.map Ent.tup)):=by show x.follows f p=_;unfold Rw.follows;rw[if_neg (by omega),if_neg (by omega),if_pos hk];rfl
 obtain⟨W0,hW0⟩:∃W0,W0=w.alloc (.cells #[.int .i64 f.kind,.int .i64 f.number,.slice sp f.cols.length sc,.int .i64 f.seq,.int .i64 f.first,.int .i64 f.rows,.slice bp f.block.length bc,.int .i64 f.index.at_,.int .i64 f.index.frames,.int .i64 f.index.rows,.slice ep f.index.entries.length ec] 36):=⟨_,rfl⟩
 have hb0:Below w.1.size w W0:=by rw[hW0];exact vY
 have hbk:W0.1[w.1.size]?=some (.cells #[.int .i64 f.kind,.int .i64 f.number,.slice sp f.cols.length sc,.int .i64 f.seq,.int .i64 f.first,.int .i64 f.rows,.slice bp f.block.length bc,.int .i64 f.index.at_,.int .i64 f.index.frames,.int .i64 f.index.rows,.slice ep f.index.entries.length ec] 36 (0,0)):=by rw[hW0];exact ag w _
 have h0:=h.on hb0 hFa
 have HN:=vQ (cI h0)
 have H0:=vQ h0
 obtain⟨N,hN⟩:∃N,N=x.number:=⟨_,rfl⟩
 rw[<-hN] at HN
 rw[hk] at hW0 hbk
 obtain⟨b1,hb1⟩:∃y,y=f.number:=⟨_,rfl⟩
 obtain⟨b2,hbb2⟩:∃y,y=f.cols.length:=⟨_,rfl⟩
 obtain⟨b3,hb3⟩:∃y,y=f.seq:=⟨_,rfl⟩
 obtain⟨b4,hb4⟩:∃y,y=f.first:=⟨_,rfl⟩
 obtain⟨b5,hb5⟩:∃y,y=f.rows:=⟨_,rfl⟩
 obtain⟨b6,hb6⟩:∃y,y=f.block.length:=⟨_,rfl⟩
 obtain⟨b7,hb7⟩:∃y,y=f.index.at_:=⟨_,rfl⟩
 obtain⟨b8,hb8⟩:∃y,y=f.index.frames:=⟨_,rfl⟩
 obtain⟨b9,hb9⟩:∃y,y=f.index.rows:=⟨_,rfl⟩
 obtain⟨b10,hb10⟩:∃y,y=f.index.entries.length:=⟨_,rfl⟩
 rw[<-hb1,<-hbb2,<-hb3,<-hb4,<-hb5,<-hb6,<-hb7,<-hb8,<-hb9,<-hb10] at hW0 hbk
 rw[hk,<-hb1,<-hbb2,<-hb3,<-hb4,<-hb5,<-hb6,<-hb7,<-hb8,<-hb9,<-hb10]
 rw[<-hb7,<-hb8,<-hb9] at HX
 rw[<-hb10] at hfe1
 have HEn:=vQ (hfe3.on hb0)
 have HE10:=vQ hb10
 have HW0:=vQ hW0.symm
 have HB0:=vQ hb0
 have HBk:=vQ hbk
 have hz0:W0.1.size=w.1.size+1:=by rw[hW0];simp
 obtain⟨r,hr⟩:∃r,r=x.follows f p:=⟨_,rfl⟩
 rw[<-hr] at HX ⊢
 clear h h0 hf hfe3 hN hb0 hbk hW0 hb1 hbb2 hb3 hb4 hb5 hb6 hb7 hb8 hb9 hb10 hk hr
 go_enter Tryz.func32,Tryz.ntmps32
 go_wp2_with fail
 rw[HW0.out]
 refine HN.out.mono ?_
 rintro e w1 ⟨rfl,hb1⟩
 have HB1:=vQ hb1
 have hbk1:=(hb1.block _ (by omega)).trans HBk.out
 obtain⟨x0,x1,x2,x3,x4,x5,x6,x7,x8,x9,x10⟩:=aO hbk1
 have HBk1:=vQ hbk1
 have hz1:=hb1.size
 clear hb1 hbk1 HN HBk
 obtain⟨fr,hfr⟩:∃fr,fr=x.frames:=⟨_,rfl⟩
 obtain⟨ro,hro⟩:∃ro,ro=x.rows:=⟨_,rfl⟩
 obtain⟨T,hT⟩:∃T,T=x.entries:=⟨_,rfl⟩
 have HF:Hid (∀w',Below w1.1.size w1 w'->Calls Tryz.prog 33 #[.pointer (some ⟨a,0,none⟩)] w' fun e w''=>e=.returned (.int .i64 fr)∧Below w1.1.size w1 w''):=fun w' hb=>(dX ((H0.out.on HB1.out hFa).on hb hFa)).mono fun e w'' ⟨q1,q2⟩=>⟨by rw[hfr];exact q1,hb.trans (q2.mono hb.size)⟩
 have HR:Hid (∀w',Below w1.1.size w1 w'->Calls Tryz.prog 34 #[.pointer (some ⟨a,0,none⟩)] w' fun e w''=>e=.returned (.int .i64 ro)∧Below w1.1.size w1 w''):=fun w' hb=>(fN ((H0.out.on HB1.out hFa).on hb hFa)).mono fun e w'' ⟨q1,q2⟩=>⟨by rw[hro];exact q1,hb.trans (q2.mono hb.size)⟩
 have HEt:Hid (∀w',Below w1.1.size w1 w'->Calls Tryz.prog 40 #[.pointer (some ⟨a,0,none⟩)] w' fun e w''=>∃q cap,e=.returned (.slice q T.length cap)∧cQ w'' q T∧Below w1.1.size w1 w''):=fun w' hb=>(fb ((H0.out.on HB1.out hFa).on hb hFa)).mono fun e w'' ⟨q,cap,q1,q2,q3⟩=>by
  rw[<-hT] at q1 q2
  obtain⟨p2,c2,hv,-,he,-⟩:=q2.ents
  injection hv with i1 _ _
  subst i1
  exact⟨q,cap,q1,he,hb.trans (q3.mono hb.size)⟩
 obtain⟨sm,hsm⟩:∃sm,sm=decide (f.index.entries.map Ent.tup=T.map Ent.tup):=⟨_,rfl⟩
 have HSm:Hid (∀w' q cap,Below w1.1.size w1 w'->cQ w' q T->Calls Tryz.prog 39 #[.slice ep b10 ec,.slice q T.length cap] w' fun e w''=>e=.returned (.bool sm)∧Below w1.1.size w1 w''):=fun w' q cap hb he=>by
  have h5:=eF ep q ec cap f.index.entries T (by rw[<-HE10.out];exact hfe1) w' ((HEn.out.on HB1.out).on hb) he
  rw[<-HE10.out,<-hsm] at h5
  exact h5.mono fun e w'' ⟨q1,n,q2⟩=>⟨q1,by rw[q2];exact below_drewN hb n⟩
 have HCl:Hid (∀w',Below w1.1.size w1 w'->w'.cell? ⟨w.1.size,7,none⟩=some (.int .i64 b7)∧w'.cell? ⟨w.1.size,8,none⟩=some (.int .i64 b8)∧w'.cell? ⟨w.1.size,9,none⟩=some (.int .i64 b9)∧w'.cell? ⟨w.1.size,10,none⟩=some (.slice ep b10 ec)):=fun w' hb=>⟨ab hb x7,ab hb x8,ab hb x9,ab hb x10⟩
 rw[<-hfr,<-hro,<-hT] at HX
 have HSd:=vQ hsm
 have HBf:=vQ (HB0.out.trans (HB1.out.mono HB0.out.size))
 clear hfr hro hT hsm H0 HB1 HBk1 HEn HE10 hfe1 hfe2 x1 x2 x3 x4 x5 x6
 haveI:Nonempty (Ext w1):=⟨⟨w1,vZ⟩⟩
 have y7:∀z:Ext w1,z.val.cell? ⟨w.1.size,7,none⟩=some (.int .i64 b7):=fun z=>(HCl.out _ z.2).1
 have y8:∀z:Ext w1,z.val.cell? ⟨w.1.size,8,none⟩=some (.int .i64 b8):=fun z=>(HCl.out _ z.2).2.1
 have y9:∀z:Ext w1,z.val.cell? ⟨w.1.size,9,none⟩=some (.int .i64 b9):=fun z=>(HCl.out _ z.2).2.2.1
 have HFz:Hid (∀z:Ext w1,Calls Tryz.prog 33 #[.pointer (some ⟨a,0,none⟩)] z.val fun e w''=>e=.returned (.int .i64 fr)∧∃z':Ext w1,w''=z'.val):=fun z=>(HF.out _ z.2).mono fun e w'' ⟨q1,q2⟩=>⟨q1,⟨w'',q2⟩,rfl⟩
 have HRz:Hid (∀z:Ext w1,Calls Tryz.prog 34 #[.pointer (some ⟨a,0,none⟩)] z.val fun e w''=>e=.returned (.int .i64 ro)∧∃z':Ext w1,w''=z'.val):=fun z=>(HR.out _ z.2).mono fun e w'' ⟨q1,q2⟩=>⟨q1,⟨w'',q2⟩,rfl⟩
 by_cases h1:b7=p
 case neg=>
  have g1:(b7==p)=false:=by rw[beq_eq_false_iff_ne];exact h1
  have HRr:Hid (r=false):=by show r=_;rw[HX.out,decide_eq_false (fun hc=>h1 hc.1)]
  clear h1 HX
  go_wp2_with fail
  go_quiet (fail)
  go_wp2
  go_ret
  exact⟨by rw[HRr.out];rfl,below_drewN HBf.out _⟩
 have g1:(b7==p)=true:=by rw[beq_iff_eq];exact h1
 by_cases h2:b8=fr
 case neg=>
  have g2:(b8==fr)=false:=by rw[beq_eq_false_iff_ne];exact h2
  have HRr:Hid (r=false):=by show r=_;rw[HX.out,decide_eq_false (fun hc=>h2 hc.2.1)]
  clear h1 h2 HX
  go_wp2_with fail
  refine eA (by kernel_rfl) (by kernel_rfl) ?_
  repeat (quiet_step (first | exact HFz.out _ | exact HRz.out _))
  refine wpQuiet_nil ?_
  rintro w18 ⟨z,rfl⟩
  go_wp2
  go_ret
  exact⟨by rw[HRr.out];rfl,HBf.out.trans (z.2.mono HBf.out.size)⟩
 have g2:(b8==fr)=true:=by rw[beq_iff_eq];exact h2
 by_cases h3:b9=ro
 case neg=>
  have g3:(b9==ro)=false:=by rw[beq_eq_false_iff_ne];exact h3
  have HRr:Hid (r=false):=by show r=_;rw[HX.out,decide_eq_false (fun hc=>h3 hc.2.2.1)]
  clear h1 h2 h3 HX
  go_wp2_with fail
  refine eA (by kernel_rfl) (by kernel_rfl) ?_
  repeat (quiet_step (first | exact HFz.out _ | exact HRz.out _))
  refine wpQuiet_nil ?_
  rintro w18 ⟨z,rfl⟩
  go_wp2
  go_ret
  exact⟨by rw[HRr.out];rfl,HBf.out.trans (z.2.mono HBf.out.size)⟩
 have g3:(b9==ro)=true:=by rw[beq_iff_eq];exact h3
 have HRr:Hid (r=sm):=by
  show r=_
  rw[HX.out,HSd.out]
  by_cases h4:f.index.entries.map Ent.tup=T.map Ent.tup
  ·rw[decide_eq_true ⟨h1,h2,h3,h4⟩,decide_eq_true h4]
  ·rw[decide_eq_false (fun hc=>h4 hc.2.2.2),decide_eq_false h4]
 clear h1 h2 h3 HX HSd
 go_wp2_with fail
 go_region_held3 (fun w'=>w'.cell? ⟨w.1.size,7,none⟩=some (.int .i64 b7)∧w'.cell? ⟨w.1.size,8,none⟩=some (.int .i64 b8)∧w'.cell? ⟨w.1.size,9,none⟩=some (.int .i64 b9)∧w'.cell? ⟨w.1.size,10,none⟩=some (.slice ep b10 ec)) (go_keep) (first
  | (go_at_call 33;refine(HF.out _ (vZ.drew)).mono ?_;rintro e w18 ⟨rfl,hb18⟩;obtain⟨c18a,c18b,c18c,c18d⟩:=HCl.out _ hb18;have HBn18:=vQ hb18;clear hb18)
  | (go_at_call 34;refine(HR.out _ HBn18.out).mono ?_;rintro e w19 ⟨rfl,hb19⟩;obtain⟨c19a,c19b,c19c,c19d⟩:=HCl.out _ hb19;have HBn19:=vQ hb19;clear hb19)
  | (go_at_call 40;refine(HEt.out _ HBn19.out).mono ?_;rintro e w20 ⟨q20,cap20,rfl,he20,hb20⟩;obtain⟨c20a,c20b,c20c,c20d⟩:=HCl.out _ hb20;have HBn20:=vQ hb20;have HEn20:=vQ he20;clear hb20 he20)
  | (go_at_call 39;refine(HSm.out _ q20 cap20 HBn20.out HEn20.out).mono ?_;rintro e w21 ⟨rfl,hb21⟩;obtain⟨c21a,c21b,c21c,c21d⟩:=HCl.out _ hb21;have HBn21:=vQ hb21;clear hb21)
  |fail)
 go_wp2
 go_ret
 exact⟨by rw[HRr.out];rfl,HBf.out.trans (HBn21.out.mono HBf.out.size)⟩
theorem hU(h:aG w a x F)(hFa:¬F a)(f:Fr)(g1:f.kind≠1)(g2:f.kind≠2)(g3:f.kind≠3)(u:AV)(hf:aB w u f)(p:Int):
  Calls Tryz.prog 32 #[.pointer (some ⟨a,0,none⟩),.agg u,.int .i64 p] w fun e w'=>e=.returned (.bool (x.follows f p))∧Below w.1.size w w':=by
 obtain⟨sp,sc,bp,bc,ep,ec,rfl,-⟩:=hf.out
 unfold av
 have HX:Hid (x.follows f p=false):=by show x.follows f p=_;unfold Rw.follows;rw[if_neg g1,if_neg g2,if_neg g3]
 obtain⟨W0,hW0⟩:∃W0,W0=w.alloc (.cells #[.int .i64 f.kind,.int .i64 f.number,.slice sp f.cols.length sc,.int .i64 f.seq,.int .i64 f.first,.int .i64 f.rows,.slice bp f.block.length bc,.int .i64 f.index.at_,.int .i64 f.index.frames,.int .i64 f.index.rows,.slice ep f.index.entries.length ec] 36):=⟨_,rfl⟩
 have hb0:Below w.1.size w W0:=by rw[hW0];exact vY
 have hbk:W0.1[w.1.size]?=some (.cells #[.int .i64 f.kind,.int .i64 f.number,.slice sp f.cols.length sc,.int .i64 f.seq,.int .i64 f.first,.int .i64 f.rows,.slice bp f.block.length bc,.int .i64 f.index.at_,.int .i64 f.index.frames,.int .i64 f.index.rows,.slice ep f.index.entries.length ec] 36 (0,0)):=by rw[hW0];exact ag w _
 have HN:=vQ (cI (h.on hb0 hFa))
 have HW0:=vQ hW0.symm
 have HB0:=vQ hb0
 have HBk:=vQ hbk
 have hz0:W0.1.size=w.1.size+1:=by rw[hW0];simp
 have k1:(f.kind==1)=false:=by rw[beq_eq_false_iff_ne];exact g1
 have k2:(f.kind==2)=false:=by rw[beq_eq_false_iff_ne];exact g2
 have k3:(f.kind==3)=false:=by rw[beq_eq_false_iff_ne];exact g3
 clear h hf hb0 hbk hW0 g1 g2 g3
 go_enter Tryz.func32,Tryz.ntmps32
 go_wp2_with fail
 rw[HW0.out]
 refine HN.out.mono ?_
 rintro e w1 ⟨rfl,hb1⟩
 have hbk1:=(hb1.block _ (by omega)).trans HBk.out
 obtain⟨x0,x1,x2,x3,x4,x5,x6,x7,x8,x9,x10⟩:=aO hbk1
 have HBf:=vQ (HB0.out.trans (hb1.mono HB0.out.size))
 clear hb1 hbk1 HN HBk x1 x2 x3 x4 x5 x6 x7 x8 x9 x10
 go_wp2
 go_ret
 exact⟨by rw[HX.out];rfl,HBf.out⟩
theorem jB(h:aG w a x F)(hFa:¬F a)(hn:-1<=x.number∧x.number<2147483648)(f:Fr)(u:AV)(hf:aB w u f)(p:Int):
  Calls Tryz.prog 32 #[.pointer (some ⟨a,0,none⟩),.agg u,.int .i64 p] w fun e w'=>e=.returned (.bool (x.follows f p))∧Below w.1.size w w':=by
 by_cases h1:f.kind=1
 ·exact g9 h hFa hn f h1 u hf p
 ·by_cases h2:f.kind=2
  ·exact gZ h hFa f h2 u hf p
  ·by_cases h3:f.kind=3
   ·exact gY h hFa f h3 u hf p
   ·exact hU h hFa f h1 h2 h3 u hf p
end
end
section
open Go.RowKit
theorem ij{w:World}{a:Addr}{l:List (List Value)}(hl:R12 l)(h:cM w (some a) l):∀j u,l.flatten[j]?=some u->w.cell? (a.add j)=some u:=fun j u hj=>by
 have hj2:j<l.length*12:=by
  have:=(List.getElem?_eq_some_iff.1 hj).1
  rw[di hl] at this
  exact this
 have hd:j=j / 12*12+j % 12:=by omega
 have hq:j / 12<l.length:=by omega
 obtain⟨b,o,he,hk⟩:=h (j / 12) hq
 injection he with he
 subst he
 rw[hd,gA hl (j / 12) hq (j % 12) (by omega)] at hj
 rw[Lib.add_plain,hd,<-Nat.add_assoc,hk _ (by omega)]
 exact hj
theorem kW(us:List (List Value))(u:List Value)(lp:OA)(p:Addr)(w:World)(hus:R12 us)(hu:R12 [u])(h:cM w lp us)(hp:cM w (some p) [u])(hn:us.length<=1000000):
  ∃cap W,bC Tryz.prog 69 69 69 (.slice lp us.length us.length) (.slice (some p) 1 1) w (.slice (some ⟨w.1.size,0,none⟩) (us.length+1) cap) W∧cO W w.1.size (.slice (some ⟨w.1.size,0,none⟩) (us.length+1) cap) (us++[u])∧Below w.1.size w W:=by
 obtain⟨i,hi,hz,hsz,hby⟩:=info_parts s9
 have hone:∀c∈[u].flatten,c.oneCell'=true:=fun c hc=>by
  obtain⟨x,hx,hc⟩:=List.mem_flatten.1 hc
  exact(hu x hx).2 c hc
 have hS:Src Tryz.prog i.size 69 (.slice (some p) 1 1) 1 [u].flatten w:=Src.ofSlice w Tryz.underlying69 p 1 1 [u].flatten (by rw[di hu,hsz];rfl) (ij hu hp) hone
 have hold:(Builtin.firstCells i.size us.length (.slice lp us.length us.length)).run Tryz.prog w.drew=.ok us.flatten.toArray w.drew:=by
  cases lp with
  |none=>
   have h0:us=[]:=by
    cases us with
    |nil=>rfl
    |cons x r=>
     obtain⟨b,o,hp,-⟩:=h 0 (by simp)
     cases hp
   subst h0
   exact run_firstCells_none w.drew i.size 0 0 0
  |some a=>exact run_firstCells_some w.drew i.size us.length a _ _ us.flatten (by rw[di hus,hsz]) (fun j v hj=>ij hus h j v hj)
 have hr:=run_append_grow_src w 69 69 69 76 i mX Tryz.underlying69 hi hz lp us.length us.length us.flatten hold _ 1 _ hS (by omega) (by omega) (growslice_fits (by omega) (by rw[hby];omega))
 have hge:=grownCap_ge w (us.length+1) us.length 76
 have hcm:grownCap w (us.length+1) us.length 76<=maxLen:=grownCap_le_maxLen w _ _ _ (by unfold maxLen;omega)
 have hlen:(us.flatten++[u].flatten).length=(us.length+1)*12:=by rw[List.length_append,di hus,di hu];simp;omega
 refine⟨_,_,⟨hr⟩,⟨hus.append hu,?_,.inr ⟨w.1.size,_,_,?_,vX,heap_alloc_new w.drew _,?_,hcm,?_,?_⟩⟩,vZ.drew.alloc vX _⟩
 ·rw[List.flatten_append,hlen,List.length_append];rfl
 ·rw[List.length_append];rfl
 ·rw[List.length_append];exact hge
 ·simp only[Array.size_append,List.size_toArray,size_zeroCells,hlen]
  have:mX.cells.size=12:=rfl
  rw[this]
  omega
 ·simp only[Array.toList_append]
  rw[List.length_append,List.length_singleton,<-hlen,List.flatten_append]
  exact List.take_left
theorem pq{us:List (List Value)}{u:List Value}{lp:OA}{p:Addr}{w:World}{H:Nat}(hus:R12 us)(hu:R12 [u])(h:cM w lp us)(hp:cM w (some p) [u])(hn:us.length<=1000000)(hH:w.1.size=H){o:Oper}{a:Act}{K:Act->World->Prop}{Q:Exit->Act->World->Prop}(y x:Operand)(ht:o.type=69)(hop:o.op=Op.call { callee:=Callee.builtin Builtin.append,args:=#[y,x],argTypes:=#[69,69] })(hs:a.eval y=.slice lp us.length us.length)(hx:a.eval x=.slice (some p) 1 1)(hK:∀cap W,cO W H (.slice (some ⟨H,0,none⟩) (us.length+1) cap) (us++[u])->Below H w W->K (a.put o.dst (.slice (some ⟨H,0,none⟩) (us.length+1) cap)) W):
  Oper.wp Tryz.prog o a w K Q:=by
 obtain⟨cap,W,hr,hm,hb⟩:=kW us u lp p w hus hu h hp hn
 have hr:=hr.run
 rw[hH] at hr hm hb
 unfold Oper.wp
 simp[execOp,hop,resolve,invoke,builtin,hs,hx,ht,hr,Result.andThen]
 exact hK cap W hm hb
section
variable {w w':World} {a:Nat} {x:Rw} {F:Nat->Prop}
theorem lO{lp ep sp:OA}{ec sc:Nat}{ZL ZS:List (List Value×(Fr×Int))}(e1:ZL.map (·.2)=x.l)(e2:ZS.map (·.2)=x.s0)(h2:∀w',Aside (fun i=>i=a∨F i) w w'->((∀z∈ZL,PlV w' z.1 z.2)∧cM w' lp (ZL.map (·.1)))∧cQ w' ep x.e0∧(∀z∈ZS,PlV w' z.1 z.2)∧cM w' sp (ZS.map (·.1)))(h3:x.e0.length*24<=140737488351232)(hs:x.Small){u:List Value}{f:Fr}{p:Int}(hP:∀w',Aside (fun i=>i=a∨F i) w w'->PlV w' u (f,p))(hn:x.l.length<1000000)(hr:f.kind=2->0<=f.rows∧f.rows<=64)(hFl:∀k,F k->k<w.1.size)(hal:a<w.1.size){W:World}{g cap:Nat}(ha:Aside (fun i=>i=a) w W)(hk:W.1[a]?=some (.cells #[.slice (some ⟨g,0,none⟩) (x.l.length+1) cap,.int .i64 x.f0,.int .i64 x.r0,.slice ep x.e0.length ec,.slice sp x.s0.length sc] 71))(hO:cO W w.1.size (.slice (some ⟨g,0,none⟩) (x.l.length+1) cap) (ZL.map (·.1)++[u])):aG W a (x.push f p) F:=by
 have eL:ZL.length=x.l.length:=by rw[<-e1,List.length_map]
 have hg:=(hO.lt g rfl).1
 have el:(x.push f p).l.length=x.l.length+1:=by simp[Rw.push]
 have em:(ZL++[(u,(f,p))]).map (·.1)=ZL.map (·.1)++[u]:=by rw[List.map_append];rfl
 refine⟨⟨some ⟨g,0,none⟩,cap,ep,ec,sp,sc,ZL++[(u,(f,p))],ZS,by rw[el];exact hk,by rw[List.map_append,e1];rfl,e2,fun w'' hb=>?_,h3,?_⟩,⟨hs.f0,hs.r0,by rw[el];omega,hs.s0,fun q hq=>?_⟩⟩
 ·have hb2:Aside (fun i=>i=a∨F i) w w'':=(ha.mono fun i _ hi=>.inl hi).trans hb fun _ _ h=>h
  obtain⟨⟨q1,-⟩,q3,q4,q5⟩:=h2 w'' hb2
  refine⟨⟨fun z hz=>?_,?_⟩,q3,q4,q5⟩
  ·rcases List.mem_append.1 hz with hz | hz
   ·exact q1 z hz
   ·rw[List.mem_singleton] at hz
    subst hz
    exact hP w'' hb2
  ·obtain⟨p',c',hv,-,hl⟩:=(hO.aside hb (fun k hk hc=>by
    have hkg:g=k:=by simpa[Value.ownBlock] using hk
    rcases hc with hc | hc
    ·omega
    ·have:=hFl k hc;omega)).lies
   injection hv with hv _ _
   rw[em,hv]
   exact hl
 ·obtain⟨p',c',hv,hc,-⟩:=hO.lies
  injection hv with _ _ hv
  rw[el,hv]
  rw[List.length_append,List.length_map,eL] at hc
  exact hc
 ·rcases List.mem_append.1 hq with hq | hq
  ·exact hs.rows q hq
  ·rw[List.mem_singleton] at hq
   subst hq
   exact hr
theorem i9(h:aG w a x F)(hFa:¬F a)(hFl:∀k,F k->k<w.1.size){s:Wk}(ht:Rw.Twin s x)(hg:Sc.Good s)(f:Fr)(hwf:f.wf)(hbl:f.block.length<=140737488351232)(u:AV)(hf:∀w',Aside (fun i=>i=a∨F i) w w'->aB w' u f)(p:Int)(hn:x.l.length<1000000):
  Calls Tryz.prog 10 #[.pointer (some ⟨a,0,none⟩),.agg u,.int .i64 p] w fun e w'=>e=.returned (.int .i64 (if Sc.may s f p=true then 0 else 143))∧aG w' a (if Sc.may s f p=true then x.push f p else x) F∧Aside (fun i=>i=a) w w':=by
 have hal:=h.lt
 have hf0:=hf w (Aside.refl _ _)
 obtain⟨sp,sc,bp,bc,ep,ec,rfl,-⟩:=hf0.out
 unfold av at hf0 hf ⊢
 obtain⟨W0,hW0⟩:∃W0,W0=w.alloc (.cells #[.int .i64 f.kind,.int .i64 f.number,.slice sp f.cols.length sc,.int .i64 f.seq,.int .i64 f.first,.int .i64 f.rows,.slice bp f.block.length bc,.int .i64 f.index.at_,.int .i64 f.index.frames,.int .i64 f.index.rows,.slice ep f.index.entries.length ec] 36):=⟨_,rfl⟩
 have hb0:Below w.1.size w W0:=by rw[hW0];exact vY
 have hbk:W0.1[w.1.size]?=some (.cells #[.int .i64 f.kind,.int .i64 f.number,.slice sp f.cols.length sc,.int .i64 f.seq,.int .i64 f.first,.int .i64 f.rows,.slice bp f.block.length bc,.int .i64 f.index.at_,.int .i64 f.index.frames,.int .i64 f.index.rows,.slice ep f.index.entries.length ec] 36 (0,0)):=by rw[hW0];exact ag w _
 have HW0:=vQ hW0.symm
 have hz0:W0.1.size=w.1.size+1:=by rw[hW0];simp
 have HM:Hid (Sc.may s f p=(Fr.within Fr.S p&&decide (Fr.err f=0)&&Sc.follows s f p)):=rfl
 obtain⟨mb,hmb⟩:∃mb,mb=Sc.may s f p:=⟨_,rfl⟩
 rw[<-hmb] at HM ⊢
 obtain⟨rc,hrc⟩:∃rc:Int,rc=if mb=true then 0 else 143:=⟨_,rfl⟩
 obtain⟨nx,hnx⟩:∃nx:Rw,nx=if mb=true then x.push f p else x:=⟨_,rfl⟩
 rw[<-hrc,<-hnx]
 have HRc:=vQ hrc
 have HNx:=vQ hnx
 have HE:=vQ (kB f hbl hwf _ W0 (hf0.on hb0))
 have HFo:=vQ (fun(he:Fr.err f=0) w1 (hb:Below w.1.size w w1)=>by
  have h1:=jB (h.on hb hFa) hFa (by rw[ht.number];exact hg.number) f _ (hf0.on hb) p
  rw[ht.follows hg he] at h1
  exact h1)
 have HH:=vQ h
 have HB0:=vQ hb0
 have HBk:=vQ hbk
 have HF:=vQ hf
 have HFl:=vQ hFl
 obtain⟨er,her⟩:∃er,er=Fr.err f:=⟨_,rfl⟩
 rw[<-her] at HE
 have HEr:=vQ her
 clear h hf hf0 hwf hW0 hb0 hbk hmb ht hg her hbl hFl hrc hnx
 by_cases hlg:Fr.within Fr.S p=true
 case neg=>
  have hlf:Fr.within Fr.S p=false:=by simpa using hlg
  have h3:¬(0<=p∧p<1099511627776):=fun hc=>hlg (Fr.within_iff.2 hc)
  have HM2:Hid (mb=false):=by show mb=_;rw[HM.out,hlf];rfl
  have HRw:=vQ (HH.out.on HB0.out hFa)
  rw[HM2.out] at HRc HNx
  have g2:0<=p->1099511627776<=p:=fun h0=>by omega
  by_cases h0:p<0
  ·have g0:decide (p<0)=true:=decide_eq_true h0
   clear HM hlf hlg h3 g2 HE HFo HH HBk HF HEr
   go_enter Tryz.func10,Tryz.ntmps10
   go_wp2
   rw[HW0.out]
   go_ret
   rw[HRc.out,HNx.out]
   exact⟨rfl,HRw.out,ae HB0.out _⟩
  ·have g0:decide (p<0)=false:=decide_eq_false h0
   have g1:decide (1099511627776<=p)=true:=decide_eq_true (g2 (by omega))
   have g3:1099511627776<=p:=g2 (by omega)
   clear HM hlf hlg h3 g2 HE HFo HH HBk HF HEr
   go_enter Tryz.func10,Tryz.ntmps10
   go_wp2
   rw[HW0.out]
   go_ret
   rw[HRc.out,HNx.out]
   exact⟨rfl,HRw.out,ae HB0.out _⟩
 obtain⟨p0,p1⟩:=Fr.within_iff.1 hlg
 have g0:¬p<0:=by omega
 have p2:p<1099511627776:=p1
 have g1:¬1099511627776<=p:=by omega
 rw[hlg,Bool.true_and] at HM
 clear hlg
 go_enter Tryz.func10,Tryz.ntmps10
 go_wp2_with fail
 rw[HW0.out]
 refine HE.out.mono ?_
 rintro e w1 (⟨hz,q,cap,rfl,-,hb1⟩ | ⟨hz,rfl,hb1⟩)
 case inr=>
  have HRw:=vQ (HH.out.on (HB0.out.trans (hb1.mono HB0.out.size)) hFa)
  have HA1:Hid (Aside (fun i=>i=a) w w1):=ae (HB0.out.trans (hb1.mono HB0.out.size)) _
  have g2:((er:Int) != 0)=true:=by rw[bne_iff_ne];omega
  have HM2:Hid (mb=false):=by show mb=_;rw[HM.out,decide_eq_false (by rw[<-HEr.out];exact hz)];rfl
  rw[HM2.out] at HRc HNx
  clear hb1 HE hz HM HEr HFo HH HBk HF
  go_wp2
  go_ret
  rw[HRc.out,HNx.out]
  exact⟨rfl,HRw.out,HA1.out⟩
 have he:Fr.err f=0:=by rw[<-HEr.out];exact hz
 have HB1:=vQ (HB0.out.trans (hb1.mono HB0.out.size))
 have HFw:=vQ (HFo.out he w1 HB1.out)
 have hbk1:=(hb1.block _ (by omega)).trans HBk.out
 obtain⟨x0,x1,x2,x3,x4,x5,x6,x7,x8,x9,x10⟩:=aO hbk1
 have HBk1:=vQ hbk1
 have HPr:=vQ (Sc.err_parts he).2.1
 rw[decide_eq_true he,Bool.true_and] at HM
 obtain⟨fo,hfo⟩:∃fo,fo=Sc.follows s f p:=⟨_,rfl⟩
 rw[<-hfo] at HM HFw
 have hz1:=hb1.size
 clear hb1 hbk1 hfo he hz HE HEr HFo HBk
 go_wp2_with fail
 refine HFw.out.mono ?_
 rintro e w2 ⟨rfl,hb2⟩
 have HB2:=vQ (HB1.out.trans (hb2.mono HB1.out.size))
 have hbk2:=(hb2.block _ (by omega)).trans HBk1.out
 obtain⟨y0,y1,y2,y3,y4,y5,y6,y7,y8,y9,y10⟩:=aO hbk2
 have hz2:=hb2.size
 clear hb2 hbk2 HFw x0 x1 x2 x3 x4 x5 x6 x7 x8 x9 x10 HBk1
 rw[HM.out] at HRc HNx
 cases fo with
 |false=>
  have HRw:=vQ (HH.out.on HB2.out hFa)
  have HA1:Hid (Aside (fun i=>i=a) w w2):=ae HB2.out _
  clear HH HF
  go_wp2
  go_ret
  rw[HRc.out,HNx.out]
  exact⟨rfl,HRw.out,HA1.out⟩
 |true=>
  obtain⟨lp,lc,ep',ec',sp',sc',ZL,ZS,k1,e1,e2,k2,k3,k4⟩:=HH.out.out
  have HS:=vQ HH.out.small
  obtain⟨us,hus⟩:∃us,us=ZL.map (·.1):=⟨_,rfl⟩
  have eU:us.length=x.l.length:=by rw[hus,List.length_map,<-e1,List.length_map]
  have hul:us.length<1000000:=by omega
  have k5:w2.1[a]?=some (.cells #[.slice lp us.length lc,.int .i64 x.f0,.int .i64 x.r0,.slice ep' x.e0.length ec',.slice sp' x.s0.length sc'] 71):=by rw[eU,HB2.out.block a hal];exact k1
  have hlc:us.length<=lc:=by omega
  have c0:w2.cell? ⟨a,0,none⟩=some (.slice lp us.length lc):=aa k5 0
  have c0f:w2.frozen? ⟨a,0,none⟩=false:=ac k5 0
  have hL2:cM w2 lp us:=by rw[hus];exact(k2 w2 (ae HB2.out _)).1.2
  have s2:∀w',(Instr.slice 69 (.slice lp us.length lc) none (some (.int .i64 (us.length:Nat))) (some (.int .i64 (us.length:Nat)))).run Tryz.prog w'=.ok (.slice lp us.length us.length) w':=fun w'=>by
   have hs:(sizeOf (Tryz.prog.elem 69)).run Tryz.prog w'=.ok 12 w':=by kernel_rfl
   rw[run_slice_hm w' 69 lp us.length lc (by kernel_rfl) .i64 .i64 (us.length:Nat) (us.length:Nat) (by omega) (by omega) (by omega),hs]
   have h0:us.length≠0->∃b o,lp=some ⟨b,o,none⟩:=fun h0=>by
    obtain⟨b,o,h1,-⟩:=hL2 0 (by omega)
    exact⟨b,o,h1⟩
   by_cases hu0:us.length=0
   ·rw[hu0];simp[sliced,Result.andThen]
   ·obtain⟨b,o,rfl⟩:=h0 hu0
    simp[sliced,Result.andThen,Addr.add]
  obtain⟨u12,hu12⟩:∃u12:List Value,u12=[.int .i64 f.kind,.int .i64 f.number,.slice sp f.cols.length sc,.int .i64 f.seq,.int .i64 f.first,.int .i64 f.rows,.slice bp f.block.length bc,.int .i64 f.index.at_,.int .i64 f.index.frames,.int .i64 f.index.rows,.slice ep f.index.entries.length ec,.int .i64 p]:=⟨_,rfl⟩
  have hPl:∀w',Aside (fun i=>i=a∨F i) w w'->PlV w' u12 (f,p):=fun w' ha=>⟨sp,sc,bp,bc,ep,ec,HF.out w' ha,hu12⟩
  have hP12:=(hPl w (Aside.refl _ _)).twelve
  have HU1:Hid (R12 [u12]):=fun y hy=>by
   rw[List.mem_singleton] at hy
   subst hy
   exact hP12
  have HUs:Hid (R12 us):=fun y hy=>by
   rw[hus] at hy
   obtain⟨t,ht,rfl⟩:=List.mem_map.1 hy
   exact((k2 w (Aside.refl _ _)).1.1 t ht).twelve
  have HLs:Hid (∀w',Below w2.1.size w2 w'->cM w' lp us):=fun w' hb=>by rw[hus];exact(k2 w' (ae (HB2.out.trans (hb.mono HB2.out.size)) _)).1.2
  have HLn:Hid (∀w',w'.1[w2.1.size]?=some (.cells u12.toArray 76)->cM w' (some ⟨w2.1.size,0,none⟩) [u12]):=fun w' hb j hj=>by
   have hj0:j=0:=by simpa using hj
   subst hj0
   exact⟨w2.1.size,0,rfl,fun m _=>by rw[aa hb];simp⟩
  have hal2:a<w2.1.size:=Nat.lt_of_lt_of_le hal HB2.out.size
  have HC0:Hid (∀w',Below w2.1.size w2 w'->w'.1[a]?=some (.cells #[.slice lp us.length lc,.int .i64 x.f0,.int .i64 x.r0,.slice ep' x.e0.length ec',.slice sp' x.s0.length sc'] 71)):=fun w' hb=>(hb.block a hal2).trans k5
  have HEnd:Hid (∀W cap,cO W (w2.1.size+1) (.slice (some ⟨w2.1.size+1,0,none⟩) (us.length+1) cap) (us++[u12])->Below w2.1.size w2 W->aG (W.setCell ⟨a,0,none⟩ (.slice (some ⟨w2.1.size+1,0,none⟩) (us.length+1) cap)) a (x.push f p) F∧Aside (fun i=>i=a) w (W.setCell ⟨a,0,none⟩ (.slice (some ⟨w2.1.size+1,0,none⟩) (us.length+1) cap))):=fun W cap hO hb=>by
   have hsz:=HB2.out.size
   have hsw:=hb.size
   have haW:Aside (fun i=>i=a) w W:=ae (HB2.out.trans (hb.mono hsz)) _
   have ha:=haW.setCell (p:=⟨a,0,none⟩) (.inl rfl) (.slice (some ⟨w2.1.size+1,0,none⟩) (us.length+1) cap)
   refine⟨?_,ha⟩
   have hO2:cO (W.setCell ⟨a,0,none⟩ (.slice (some ⟨w2.1.size+1,0,none⟩) (us.length+1) cap)) w.1.size (.slice (some ⟨w2.1.size+1,0,none⟩) (us.length+1) cap) (us++[u12]):=by
    have h1:=hO.aside ((Aside.refl (fun k=>k=a) W).setCell (p:=⟨a,0,none⟩) (.inl rfl) (.slice (some ⟨w2.1.size+1,0,none⟩) (us.length+1) cap)) (fun k hk hc=>by
     have:w2.1.size+1=k:=by simpa[Value.ownBlock] using hk
     omega)
    refine⟨h1.1,h1.2.1,?_⟩
    rcases h1.2.2 with ⟨h2,-⟩ | ⟨g,c,cur,h2,h3,h4⟩
    ·cases h2
    ·exact .inr ⟨g,c,cur,h2,by omega,h4⟩
   have hkW:=HC0.out W hb
   have hk:(W.setCell ⟨a,0,none⟩ (.slice (some ⟨w2.1.size+1,0,none⟩) (us.length+1) cap)).1[a]?=some (.cells #[.slice (some ⟨w2.1.size+1,0,none⟩) (us.length+1) cap,.int .i64 x.f0,.int .i64 x.r0,.slice ep' x.e0.length ec',.slice sp' x.s0.length sc'] 71):=by
    simp[World.setCell,Array.getElem?_modify,hkW]
   rw[eU] at hk hO2 ha ⊢
   rw[hus] at hO2
   exact lO e1 e2 k2 k3 HS.out hPl hn (fun hk=>by have:=HPr.out hk;omega) HFl.out hal ha hk hO2
  have HU:=vQ hu12
  have hul2:us.length<=1000000:=by omega
  clear k1 e1 e2 k2 k3 k4 hus eU hPl hP12 hL2 HH HS hu12 HPr HFl HF k5
  go_wp2_with fail
  have HBx:Hid (∀o,Below w2.1.size w2 (w2.alloc o).drew):=fun o=>(vZ.alloc vX o).drew
  haveI:Nonempty (Ext w2):=⟨⟨w2,vZ⟩⟩
  have v0:∀z:Ext w2,z.val.cell? ⟨w.1.size,0,none⟩=some (.int .i64 f.kind):=fun z=>ab z.2 y0
  have v1:∀z:Ext w2,z.val.cell? ⟨w.1.size,1,none⟩=some (.int .i64 f.number):=fun z=>ab z.2 y1
  have v2:∀z:Ext w2,z.val.cell? ⟨w.1.size,2,none⟩=some (.slice sp f.cols.length sc):=fun z=>ab z.2 y2
  have v3:∀z:Ext w2,z.val.cell? ⟨w.1.size,3,none⟩=some (.int .i64 f.seq):=fun z=>ab z.2 y3
  have v4:∀z:Ext w2,z.val.cell? ⟨w.1.size,4,none⟩=some (.int .i64 f.first):=fun z=>ab z.2 y4
  have v5:∀z:Ext w2,z.val.cell? ⟨w.1.size,5,none⟩=some (.int .i64 f.rows):=fun z=>ab z.2 y5
  have v6:∀z:Ext w2,z.val.cell? ⟨w.1.size,6,none⟩=some (.slice bp f.block.length bc):=fun z=>ab z.2 y6
  have v7:∀z:Ext w2,z.val.cell? ⟨w.1.size,7,none⟩=some (.int .i64 f.index.at_):=fun z=>ab z.2 y7
  have v8:∀z:Ext w2,z.val.cell? ⟨w.1.size,8,none⟩=some (.int .i64 f.index.frames):=fun z=>ab z.2 y8
  have v9:∀z:Ext w2,z.val.cell? ⟨w.1.size,9,none⟩=some (.int .i64 f.index.rows):=fun z=>ab z.2 y9
  have v10:∀z:Ext w2,z.val.cell? ⟨w.1.size,10,none⟩=some (.slice ep f.index.entries.length ec):=fun z=>ab z.2 y10
  have c0z:∀z:Ext w2,z.val.cell? ⟨a,0,none⟩=some (.slice lp us.length lc):=fun z=>ab z.2 c0
  refine gG (u:=w2) 19 4 (by kernel_rfl) (by kernel_rfl) rfl (fun c d v a w h=>by cases d <;> exact h) ?_
  simp only[List.take_succ_cons,List.take_zero,List.drop_succ_cons,List.drop_zero]
  iterate 19
   refine rL ?_
   apply Exists.intro
   refine⟨fun z=>?_,?_⟩
   ·go_simp
    try with_reducible rfl
   try simp only[Act.put,List.setIfInBounds_toArray,List.set_cons_zero,List.set_cons_succ]
  refine pt ?_
  refine ej (fun K hK=>?_)
  go_simp
  refine hK _ _ ⟨⟨_,HBx.out _⟩,rfl⟩ ?_
  clear hK K
  try simp only[Act.put,List.setIfInBounds_toArray,List.set_cons_zero,List.set_cons_succ]
  refine ej (fun K hK=>?_)
  refine pq (us:=us) (u:=u12) (lp:=lp) (p:=⟨w2.1.size,0,none⟩) HUs.out HU1.out (HLs.out _ (HBx.out _)) (HLn.out _ (by rw[HU.out];exact ag w2 _)) hul2 (H:=w2.1.size+1) (by simp) (.tmp 44) (.tmp 48) rfl rfl rfl rfl ?_
  intro cap4 w4 hO4 hb4
  have hB4:Below w2.1.size w2 w4:=(HBx.out _).trans (hb4.mono (by omega))
  have hk4:=HC0.out w4 hB4
  have q5:w4.cell? ⟨a,0,none⟩=some (.slice lp us.length lc):=aa hk4 0
  have q6:w4.frozen? ⟨a,0,none⟩=false:=ac hk4 0
  have HF4:=vQ (HEnd.out w4 cap4 hO4 hB4)
  have HB4:=vQ hB4
  refine hK _ _ ⟨⟨_,HB4.out⟩,rfl⟩ ?_
  clear hO4 hb4 hB4 hk4 hK K
  try simp only[Act.put,List.setIfInBounds_toArray,List.set_cons_zero,List.set_cons_succ]
  refine ej (fun K hK=>?_)
  go_simp
  refine hK _ _ ⟨⟨_,HB4.out⟩,rfl⟩ ?_
  clear hK K
  try simp only[Act.put,List.setIfInBounds_toArray,List.set_cons_zero,List.set_cons_succ]
  refine ej (fun K hK=>?_)
  go_simp
  refine hK _ _ ⟨⟨_,HB4.out⟩,rfl⟩ ?_
  clear hK K
  try simp only[Act.put,List.setIfInBounds_toArray,List.set_cons_zero,List.set_cons_succ]
  refine pr (fun K hK=>?_)
  go_simp
  refine hK _ _ ?_
  clear hK K
  go_wp2
  go_ret
  rw[HRc.out,HNx.out]
  exact⟨rfl,HF4.out⟩
end
end
end Go.Proofs.YtlgfdgdlaahpfaaGreatDoor

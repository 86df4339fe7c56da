import Derived.Test.YtllbniljgcgbeaaGreatDoorB02
import Derived.Deep.RegionLaw
import Derived.Deep.RegionHeldLaw
namespace Go.Proofs.YtllbniljgcgbeaaGreatDoor
section
open Go.RowKit
end
section
open Go
def dw(P:Program)(o:Oper)(Q:Exit->Act->World->Prop):Exit->Act->World->Prop
 |.normal,a,w=>o.wp P a w (fun a' w'=>Q .normal a' w') Q
 |e,a,w=>Q e a w
section
variable {P:Program} {md:Region.Mode} {l:List Oper} {o:Oper} {Q:Exit->Act->World->Prop}
theorem mN{x:Oper}{a:Act}{w:World}{K K':Act->World->Prop}(h:∀a w,K a w->K' a w)(hh:x.wp P a w K (dw P o Q)):x.wp P a w K' Q:=by
 have h1:x.wp P a w K' (dw P o Q):=Oper.wp_mono h hh
 unfold Oper.wp at h1 ⊢
 generalize (execOp a.eval x).run P w=r at h1 ⊢
 cases r with
 |ok n w'=>cases n <;> first | exact h1 | exact Calls.mono h1 (fun e w'' he=>by cases e <;> exact he)
 |halt y w'=>cases y <;> exact h1
def mw(md:Region.Mode)(l:List Oper)(o:Oper):Bool :=
 l.all (fun x=>x.guard.isNone)&&o.guard.isNone&&(List.range l.length).all (fun k=>((l[k]?).map fun x=>x.after.all fun e=>!Region.binds md e||decide (e.on<k)).getD true)
 &&o.after.all (fun e=>!Region.binds md e||decide (e.on<l.length))&&(List.range l.length).all (fun k=>(o.after.any fun e=>Region.binds md e&&e.on==k)||(List.range l.length).any fun j=>decide (k<j)&&((l[j]?).map fun x=>x.after.any fun e=>Region.binds md e&&e.on==k).getD false)
def mK(md:Region.Mode)(l:List Oper)(b:Array Bool):Prop:=∀j x,l[j]?=some x->b.getD j false=true->∀e∈x.after,Region.binds md e=true->b.getD e.on false=true
theorem bQ{b:Array Bool}{k:Nat}(d:Bool)(h:k<b.size):(b.push false).getD k d=b.getD k d:=by
 simp[Array.getElem?_push,h,Nat.ne_of_lt h]
theorem lr(hB:mw md l o=true):∀(fuel:Nat) (b:Array Bool) (a:Act) (w:World),b.size=l.length->mK md l b->wpAny P md l.toArray (dw P o Q) fuel b a w->wpAny P md (l++[o]).toArray Q (fuel+1) (b.push false) a w:=by
 unfold mw at hB
 simp only[Bool.and_eq_true,List.all_eq_true,List.mem_range,Array.all_eq_true',Array.any_eq_true',Bool.or_eq_true,Bool.not_eq_true',decide_eq_true_eq,beq_iff_eq,Option.isNone_iff_eq_none,List.any_eq_true] at hB
 obtain⟨⟨⟨⟨hg,ho⟩,hb⟩,hi⟩,hw⟩:=hB
 have hget:∀k,k<l.length->(l++[o]).toArray[k]?=l.toArray[k]?:=fun k hk=>by simp[List.getElem?_append_left hk]
 have hlast:(l++[o]).toArray[l.length]?=some o:=by simp
 have hup:∀b:Array Bool,b.size=l.length->∀j,j<l.length->j∈Region.ready md (l++[o]).toArray (b.push false)->j∈Region.ready md l.toArray b:=fun b hs j hj h=>by
  rw[mem_ready,hget j hj,bQ _ (by omega)] at h
  obtain⟨h1,x,hx,h2⟩:=h
  refine mem_ready.2 ⟨h1,x,hx,fun e he hbi=>?_⟩
  have hlt:=hb j hj
  have hx':l[j]?=some x:=by simpa using hx
  rw[hx'] at hlt
  simp only[Option.map_some,Option.getD_some,Array.all_eq_true',Bool.or_eq_true,Bool.not_eq_true',decide_eq_true_eq] at hlt
  have h3:=h2 e he hbi
  rcases hlt e he with h4 | h4
  ·rw[hbi] at h4;cases h4
  ·rw[bQ _ (by omega)] at h3;exact h3
 have hdn:∀b:Array Bool,b.size=l.length->∀j,j<l.length->j∈Region.ready md l.toArray b->j∈Region.ready md (l++[o]).toArray (b.push false):=fun b hs j hj h=>by
  obtain⟨h1,x,hx,h2⟩:=mem_ready.1 h
  refine mem_ready.2 ⟨by rw[bQ _ (by omega)];exact h1,x,by rw[hget j hj];exact hx,fun e he hbi=>?_⟩
  have h3:=h2 e he hbi
  have h4:e.on<b.size:=by
   rcases Nat.lt_or_ge e.on b.size with h' | h'
   ·exact h'
   ·simp[Array.getElem?_eq_none h'] at h3
  rw[bQ _ h4];exact h3
 have hlt:∀b:Array Bool,∀j,j∈Region.ready md (l++[o]).toArray b->j<=l.length:=fun b j h=>by
  obtain⟨-,x,hx,-⟩:=mem_ready.1 h
  have:=(Array.getElem?_eq_some_iff.1 hx).1
  simp at this
  omega
 have hall:∀b:Array Bool,b.size=l.length->Region.ready md l.toArray b=[]->∀k,k<l.length->b.getD k false=true:=fun b hs hr k=>by
  induction k using Nat.strongRecOn with
  |_ k ih=>
   intro hk
   cases hc:b.getD k false with
   |true=>rfl
   |false=>
    exfalso
    have hx:l.toArray[k]?=some l[k]:=by simp[hk]
    have:k∈Region.ready md l.toArray b:=by
     refine mem_ready.2 ⟨?_,l[k],hx,fun e he hbi=>?_⟩
     ·simp[show k<b.size by omega] at hc ⊢;exact hc
     ·have h1:=hb k hk
      rw[List.getElem?_eq_getElem hk] at h1
      simp only[Option.map_some,Option.getD_some,Array.all_eq_true',Bool.or_eq_true,Bool.not_eq_true',decide_eq_true_eq] at h1
      rcases h1 e he with h2 | h2
      ·rw[hbi] at h2;cases h2
      ·exact ih e.on h2 (by omega)
    rw[hr] at this
    cases this
 have hfin:∀(fuel:Nat) (b:Array Bool) (a:Act) (w:World),b.size=l.length->Region.ready md l.toArray b=[]->dw P o Q .normal a w->wpAny P md (l++[o]).toArray Q (fuel+1) (b.push false) a w:=fun fuel b a w hs hr hq=>by
  have hL:=hall b hs hr
  have hme:l.length∈Region.ready md (l++[o]).toArray (b.push false):=mem_ready.2 ⟨by rw[<-hs];simp,o,hlast,fun e he hbi=>by
   rcases hi e he with h1 | h1
   ·rw[hbi] at h1;cases h1
   ·rw[bQ _ (by omega)];exact hL e.on h1⟩
  refine⟨fun h0=>(by rw[h0] at hme;cases hme),fun j hj=>?_⟩
  have hjn:j=l.length:=by
   have h1:=hlt _ j hj
   rcases Nat.lt_or_ge j l.length with h2 | h2
   ·have:=hup b hs j h2 hj
    rw[hr] at this
    cases this
   ·omega
  subst hjn
  unfold wpOp
  simp only[hlast,Region.wanted,ho,if_true]
  refine .inl (Oper.wp_mono (fun a' w' h=>wpAny_done ?_ h fuel) hq)
  refine List.eq_nil_iff_forall_not_mem.2 fun j hj=>?_
  have h1:=hlt _ j hj
  have h2:=(mem_ready.1 hj).1
  rcases Nat.lt_or_ge j l.length with h3 | h3
  ·rw[getD_set_ne true (by omega),bQ _ (by omega)] at h2
   have h4:=hL j h3
   simp[show j<b.size by omega] at h2 h4
   rw[h4] at h2
   cases h2
  ·have:j=l.length:=by omega
   subst this
   simp[hs] at h2
 intro fuel
 induction fuel with
 |zero=>exact fun b a w hs _ h=>hfin 0 b a w hs h.1 h.2
 |succ fuel ih=>
  intro b a w hs hc h
  by_cases hr:Region.ready md l.toArray b=[]
  ·exact hfin (fuel+1) b a w hs hr (h.1 hr)
  ·have hne:∀j,j∈Region.ready md (l++[o]).toArray (b.push false)->j<l.length:=fun j hj=>by
    have h1:=hlt _ j hj
    rcases Nat.lt_or_ge j l.length with h2 | h2
    ·exact h2
    ·exfalso
     have hjn:j=l.length:=by omega
     subst hjn
     obtain⟨-,x,hx,h3⟩:=mem_ready.1 hj
     rw[hlast] at hx
     injection hx with hx
     subst hx
     have hup2:∀d k,k+d=l.length->0<d->b.getD k false=true:=fun d=>by
      induction d using Nat.strongRecOn with
      |_ d ih2=>
       intro k hkd hd
       rcases hw k (by omega) with ⟨e,he,hbi,heq⟩ | ⟨j,hj,hkj,hx⟩
       ·have h4:=h3 e he hbi
        rw[heq,bQ _ (by omega)] at h4
        exact h4
       ·rw[List.getElem?_eq_getElem hj] at hx
        simp only[Option.map_some,Option.getD_some,Array.any_eq_true',Bool.and_eq_true,beq_iff_eq] at hx
        obtain⟨e,he,hbi,heq⟩:=hx
        have h4:=hc j l[j] (List.getElem?_eq_getElem hj) (ih2 (l.length-j) (by omega) j (by omega) (by omega)) e he hbi
        rw[heq] at h4
        exact h4
     refine hr (List.eq_nil_iff_forall_not_mem.2 fun k hk=>?_)
     obtain⟨k1,y,hy,-⟩:=mem_ready.1 hk
     have hkl:k<l.length:=by
      have:=(Array.getElem?_eq_some_iff.1 hy).1
      simpa using this
     have h4:=hup2 (l.length-k) k (by omega) (by omega)
     simp[show k<b.size by omega] at k1 h4
     rw[h4] at k1
     cases k1
   refine⟨fun h0=>absurd (List.eq_nil_iff_forall_not_mem.2 fun j hj=>?_) hr,fun j hj=>?_⟩
   ·have hjl:j<l.length:=by
     obtain⟨-,y,hy,-⟩:=mem_ready.1 hj
     have:=(Array.getElem?_eq_some_iff.1 hy).1
     simpa using this
    have:=hdn b hs j hjl hj
    rw[h0] at this
    cases this
   ·have hjl:=hne j hj
    have h1:=h.2 j (hup b hs j hjl hj)
    have hx:l.toArray[j]?=some l[j]:=by simp[hjl]
    have hgj:(l[j]).guard=none:=hg _ (List.getElem_mem hjl)
    have hset:(b.push false).setIfInBounds j true=(b.setIfInBounds j true).push false:=by
     apply Array.ext_getElem?
     intro k
     simp only[Array.getElem?_setIfInBounds,Array.getElem?_push,Array.size_push,Array.size_setIfInBounds]
     by_cases hjk:j=k
     ·subst hjk
      simp[show j<b.size by omega,show j≠b.size by omega,show j<b.size+1 by omega]
     ·simp[hjk]
    have hc':mK md l (b.setIfInBounds j true):=fun i x hi hli e he hbi=>by
     by_cases hji:j=i
     ·subst hji
      obtain⟨-,y,hy,h2⟩:=mem_ready.1 (hup b hs j hjl hj)
      have hxy:y=x:=by
       have:l[j]?=some y:=by simpa using hy
       rw[hi] at this
       injection this with this
       exact this.symm
      subst hxy
      have h3:=h2 e he hbi
      by_cases hje:j=e.on
      ·rw[<-hje];simp[show j<b.size by omega]
      ·rw[getD_set_ne false hje];exact h3
     ·rw[getD_set_ne false hji] at hli
      have h3:=hc i x hi hli e he hbi
      by_cases hje:j=e.on
      ·rw[<-hje];simp[show j<b.size by omega]
      ·rw[getD_set_ne false hje];exact h3
    unfold wpOp at h1 ⊢
    simp only[hx,hget j hjl,Region.wanted,hgj,if_true] at h1 ⊢
    rw[hset]
    rcases h1 with h1 | ⟨h1,h2⟩
    ·exact .inl (mN (fun a' w' h'=>ih _ a' w' (by simpa using hs) hc' h') h1)
    ·exact .inr ⟨h1,h2⟩
theorem gf{id:Nat}{a:Act}{w:World}(hm:P.follows .mixedOrders=true)(hB:mw .any l o=true)(h:wpAny P .any l.toArray (dw P o Q) l.length (Array.replicate l.length false) a w.drew):(Code.region id (l++[o]).toArray true).wp P Q a w:=by
 refine wp_region_any hm ?_
 have h1:=lr hB l.length (Array.replicate l.length false) a w.drew (by simp) (fun j x _ hj=>(by
  simp only[Array.getD_eq_getD_getElem?,Array.getElem?_replicate] at hj
  split at hj <;> cases hj)) h
 have e1:(l++[o]).toArray.size=l.length+1:=by simp
 rw[e1,Array.replicate_succ]
 exact h1
end
end
section
open Go.RowKit
def Ext(w:World):Type:={ w':World // Below w.1.size w w' }
def bY(w w':World):Prop:=∃z:Ext w,w'=z.val
section
variable {P:Program} {ops:Array Oper} {Q:Exit->Act->World->Prop} {u:World}
def j9(P:Program)(u:World)(T:Act->Prop):List Oper->Act->Prop
 | [],a=>T a
 |o::l,a=>∃v,(∀z:Ext u,(execOp a.eval o).run P z.val=.ok (.value v) z.val)∧j9 P u T l (a.put o.dst v)
theorem qn{T:Act->Prop}{o:Oper}{l:List Oper}{a:Act}(h:∃v,(∀z:Ext u,(execOp a.eval o).run P z.val=.ok (.value v) z.val)∧j9 P u T l (a.put o.dst v)):j9 P u T (o::l) a:=h
theorem ot{T:Act->Prop}{a:Act}(h:T a):j9 P u T [] a:=h
theorem iI{T T':Act->Prop}(h:∀a,T a->T' a):∀(l:List Oper) (a:Act),j9 P u T l a->j9 P u T' l a
 | [],a,k=>h a k
 |_::l,_,⟨v,k1,k2⟩=>⟨v,k1,iI h l _ k2⟩
def qm(P:Program)(u:World)(Q:Exit->Act->World->Prop):List Oper->Act->World->Prop
 | [],a,w=>Q .normal a w
 |o::l,a,w=>o.wp P a w (fun a' w'=>bY u w'∧qm P u Q l a' w') Q
theorem oq{o:Oper}{a:Act}{w:World}(h:∀K:Act->World->Prop,(∀a w,Q .normal a w->K a w)->o.wp P a w K Q):qm P u (dw P o Q) [] a w:=h _ fun _ _ h=>h
def hdB(ops:Array Oper):Nat->Nat->Array Bool->Bool
 |0,_,_=>true
 |m+1,k,b=>(Region.ready .any ops b).contains k&&Region.free .any ops b k&&((ops[k]?).map (·.guard.isNone)).getD false&&hdB ops m (k+1) (b.setIfInBounds k true)
def hdL:Nat->Nat->Array Bool->Array Bool
 |0,_,b=>b
 |m+1,k,b=>hdL m (k+1) (b.setIfInBounds k true)
def sqB(ops:Array Oper):Nat->Nat->Array Bool->Bool
 |0,_,b=>(Region.ready .any ops b).isEmpty
 |m+1,k,b=>(Region.ready .any ops b==[k])&&((ops[k]?).map (·.guard.isNone)).getD false&&sqB ops m (k+1) (b.setIfInBounds k true)
theorem guard_of{o:Oper}{k:Nat}(h0:ops[k]?=some o)(h:((ops[k]?).map (·.guard.isNone)).getD false=true)(f:Nat->Option Bool):Region.wanted o f=true:=by
 rw[h0] at h
 simp only[Option.map_some,Option.getD_some,Option.isNone_iff_eq_none] at h
 simp[Region.wanted,h]
theorem iJ:∀(l:List Oper) (k:Nat) (b:Array Bool) (a:Act) (w:World),(∀j,j<l.length->l[j]?=ops[k+j]?)->sqB ops l.length k b=true->qm P u Q l a w->wpAnyH P .any ops Q (bY u) l.length b a w
 | [],k,b,a,w,_,hB,h=>⟨by simpa[sqB] using hB,h⟩
 |o::l,k,b,a,w,hl,hB,h=>by
  have h0:ops[k]?=some o:=by simpa using(hl 0 (by simp)).symm
  simp only[List.length_cons,sqB,Bool.and_eq_true,beq_iff_eq] at hB
  obtain⟨⟨hr,hg⟩,hB'⟩:=hB
  refine wpAnyH_all hr (by simp) fun i hi=>?_
  rw[List.mem_singleton] at hi
  subst hi
  unfold wpOp
  simp only[h0,guard_of h0 hg,if_true]
  exact .inl (Oper.wp_mono (fun a' w' h'=>⟨h'.1,iJ l (i+1) _ a' w' (fun j hj=>by have:=hl (j+1) (by simp;omega);simpa[Nat.add_assoc,Nat.add_comm 1 j] using this) hB' h'.2⟩) h)
theorem iK{g:Nat}{w:World}(hs:Region.noSelect ops=true)(hQ:∀c d v a w,Q (.panic c) (Act.put a d v) w->Q (.panic c) a w)(hw:bY u w):∀(l:List Oper) (k:Nat) (b:Array Bool) (a:Act),(∀j,j<l.length->l[j]?=ops[k+j]?)->hdB ops l.length k b=true ->
  j9 P u (fun a'=>wpAnyH P .any ops Q (bY u) g (hdL l.length k b) a' w) l a->wpAnyH P .any ops Q (bY u) (l.length+g) b a w
 | [],k,b,a,_,_,h=>by rw[List.length_nil,Nat.zero_add];exact h
 |o::l,k,b,a,hl,hB,h=>by
  have h0:ops[k]?=some o:=by simpa using(hl 0 (by simp)).symm
  simp only[List.length_cons,hdB,Bool.and_eq_true] at hB
  obtain⟨⟨⟨hr,hf⟩,hg⟩,hB'⟩:=hB
  obtain⟨v,h1,h2⟩:=h
  rw[List.length_cons,Nat.add_right_comm]
  refine wpAnyH_take (v:=v) h0 hs hf hr (fun c a w=>hQ c _ _ a w) (.inl ⟨guard_of h0 hg _,?_⟩) hw ?_
  ·rintro _ ⟨z,rfl⟩
   exact h1 z
  ·exact iK hs hQ hw l (k+1) _ _ (fun j hj=>by have:=hl (j+1) (by simp;omega);simpa[Nat.add_assoc,Nat.add_comm 1 j] using this) hB' h2
def rC(l:List Oper)(n m:Nat):Bool :=
 ((l[n+m]?).map fun o=>mw .any (l.take (n+m)) o).getD false&&decide (l.length=n+m+1)&&Region.noSelect (l.take (n+m)).toArray&&hdB (l.take (n+m)).toArray n 0 (Array.replicate (n+m) false)&&sqB (l.take (n+m)).toArray m n (hdL n 0 (Array.replicate (n+m) false))
theorem gg{id:Nat}{a:Act}{l:List Oper}{o:Oper}(n m:Nat)(hm:P.follows .mixedOrders=true)(hB:rC l n m=true)(ho:l[n+m]?=some o)(hQ:∀c d v a w,Q (.panic c) (Act.put a d v) w->Q (.panic c) a w)(h:j9 P u (fun a'=>qm P u (dw P o Q) ((l.take (n+m)).drop n) a' u.drew) (l.take n) a):(Code.region id l.toArray true).wp P Q a u:=by
 unfold rC at hB
 rw[ho] at hB
 simp only[Option.map_some,Option.getD_some,Bool.and_eq_true,decide_eq_true_eq] at hB
 obtain⟨⟨⟨⟨h1,h2⟩,h3⟩,h4⟩,h5⟩:=hB
 have hlt:n+m<l.length:=by omega
 have e0:l=l.take (n+m)++[o]:=by
  have h6:=List.take_append_drop (n+m) l
  have h7:l.drop (n+m)=[o]:=by
   rw[List.drop_eq_getElem_cons hlt,List.drop_eq_nil_of_le (by omega)]
   rw[List.getElem?_eq_getElem hlt] at ho
   injection ho with ho
   rw[ho]
  rw[h7] at h6
  exact h6.symm
 have hl:(l.take (n+m)).length=n+m:=by rw[List.length_take];omega
 have hd:((l.take (n+m)).drop n).length=m:=by rw[List.length_drop,hl];omega
 have ht:(l.take n).length=n:=by rw[List.length_take];omega
 rw[e0]
 refine gf hm h1 (wpAny_of_held (S:=bY u) _ _ _ _ ?_)
 rw[hl]
 have hin:bY u u.drew:=⟨⟨u.drew,tZ.drew⟩,rfl⟩
 have:=iK (P:=P) (Q:=dw P o Q) (ops:=(l.take (n+m)).toArray) (g:=m) h3 (fun c d v a w h=>hQ c d v a w h) hin (l.take n) 0 (Array.replicate (n+m) false) a (fun j hj=>by
  rw[ht] at hj
  simp[hj,show j<n+m by omega]) (by rw[ht];exact h4)
 rw[ht] at this
 refine this ?_
 refine iI (fun a' h'=>?_) _ _ h
 have h6:=iJ (P:=P) (u:=u) (Q:=dw P o Q) (ops:=(l.take (n+m)).toArray) ((l.take (n+m)).drop n) n (hdL n 0 (Array.replicate (n+m) false)) a' u.drew (fun j hj=>by simp[List.getElem?_drop]) (by rw[hd];exact h5) h'
 rw[hd] at h6
 exact h6
end
end
section
open Go.RowKit
section
variable {P:Program} {ops:Array Oper} {Q:Exit->Act->World->Prop}
theorem fE{md:Region.Mode}{S S':World->Prop}(h:∀w,S' w->S w):∀(fuel:Nat) (b:Array Bool) (a:Act) (w:World),wpAnyH P md ops Q S' fuel b a w->wpAnyH P md ops Q S fuel b a w
 |0,_,_,_,k=>k
 |fuel+1,_,_,_,k=>⟨k.1,fun i hi=>wpOp_mono (fun a' w' h'=>⟨h w' h'.1,fE h fuel _ a' w' h'.2⟩) (k.2 i hi)⟩
def dh(P:Program)(ops:Array Oper)(Q:Exit->Act->World->Prop):List (Bool×Nat)->World->Act->World->Prop
 | [],_,a,w=>Q .normal a w
 | (true,i)::r,u,a,w=>∃o,ops[i]?=some o∧∃v,(∀z:Ext u,(execOp a.eval o).run P z.val=.ok (.value v) z.val)∧dh P ops Q r u (a.put o.dst v) w
 | (false,i)::r,u,a,w=>∃o,ops[i]?=some o∧o.wp P a w (fun a' w'=>bY u w'∧dh P ops Q r w' a' w') Q
theorem fC{i:Nat}{r:List (Bool×Nat)}{u:World}{a:Act}{w:World}{l:List Oper}(h:match l[i]? with
  |some o=>∃v,(∀z:Ext u,(execOp a.eval o).run P z.val=.ok (.value v) z.val)∧dh P l.toArray Q r u (a.put o.dst v) w
  |none=>False):dh P l.toArray Q ((true,i)::r) u a w:=by
 split at h
 ·next o ho=>exact⟨o,by simpa using ho,h⟩
 ·exact h.elim
theorem iH{i:Nat}{r:List (Bool×Nat)}{u:World}{a:Act}{w:World}{l:List Oper}(h:match l[i]? with
  |some o=>∀K:Act->World->Prop,(∀a' w',bY u w'->dh P l.toArray Q r w' a' w'->K a' w')->o.wp P a w K Q
  |none=>False):dh P l.toArray Q ((false,i)::r) u a w:=by
 split at h
 ·next o ho=>exact⟨o,by simpa using ho,h _ fun _ _ h1 h2=>⟨h1,h2⟩⟩
 ·exact h.elim
theorem lq{u:World}{a:Act}{w:World}(h:Q .normal a w):dh P ops Q [] u a w:=h
def dz(ops:Array Oper):List (Bool×Nat)->Array Bool->Bool
 | [],b=>(Region.ready .any ops b).isEmpty
 | (true,i)::r,b=>(Region.ready .any ops b).contains i&&Region.free .any ops b i&&((ops[i]?).map (·.guard.isNone)).getD false&&dz ops r (b.setIfInBounds i true)
 | (false,i)::r,b=>(Region.ready .any ops b==[i])&&((ops[i]?).map (·.guard.isNone)).getD false&&dz ops r (b.setIfInBounds i true)
theorem bY.trans{u v w:World}(h:bY u v)(k:bY v w):bY u w:=by
 obtain⟨z,rfl⟩:=h
 obtain⟨y,rfl⟩:=k
 exact⟨⟨y.1,z.2.trans (y.2.mono z.2.size)⟩,rfl⟩
theorem gE(hs:Region.noSelect ops=true)(hQ:∀c d v a w,Q (.panic c) (Act.put a d v) w->Q (.panic c) a w):∀(l:List (Bool×Nat)) (u:World) (b:Array Bool) (a:Act) (w:World),bY u w->dz ops l b=true->dh P ops Q l u a w->wpAnyH P .any ops Q (bY u) l.length b a w
 | [],u,b,a,w,_,hB,h=>⟨by simpa[dz] using hB,h⟩
 | (true,i)::r,u,b,a,w,hw,hB,h=>by
  obtain⟨o,ho,v,h1,h2⟩:=h
  simp only[dz,Bool.and_eq_true] at hB
  obtain⟨⟨⟨hr,hf⟩,hg⟩,hB'⟩:=hB
  refine wpAnyH_take (v:=v) ho hs hf hr (fun c a w=>hQ c _ _ a w) (.inl ⟨guard_of ho hg _,?_⟩) hw (gE hs hQ r u _ _ w hw hB' h2)
  rintro _ ⟨z,rfl⟩
  exact h1 z
 | (false,i)::r,u,b,a,w,hw,hB,h=>by
  obtain⟨o,ho,h1⟩:=h
  simp only[dz,Bool.and_eq_true,beq_iff_eq] at hB
  obtain⟨⟨hr,hg⟩,hB'⟩:=hB
  refine wpAnyH_all hr (by simp) fun j hj=>?_
  rw[List.mem_singleton] at hj
  subst hj
  unfold wpOp
  simp only[ho,guard_of ho hg,if_true]
  exact .inl (Oper.wp_mono (fun a' w' h'=>⟨h'.1,fE (fun x hx=>h'.1.trans hx) _ _ _ _ (gE hs hQ r w' _ a' w' ⟨⟨w',tZ⟩,rfl⟩ hB' h'.2)⟩) h1)
theorem dF{id:Nat}{a:Act}{u:World}(l:List (Bool×Nat))(hm:P.follows .mixedOrders=true)(hB:(decide (l.length=ops.size)&&Region.noSelect ops&&dz ops l (Array.replicate ops.size false))=true)(hQ:∀c d v a w,Q (.panic c) (Act.put a d v) w->Q (.panic c) a w)(h:dh P ops Q l u a u.drew):(Code.region id ops true).wp P Q a u:=by
 simp only[Bool.and_eq_true,decide_eq_true_eq] at hB
 obtain⟨⟨h1,h2⟩,h3⟩:=hB
 refine wp_region_held (S:=bY u) hm ?_
 rw[<-h1]
 have h4:=gE h2 hQ l u (Array.replicate ops.size false) a u.drew ⟨⟨u.drew,tZ.drew⟩,rfl⟩ h3 h
 rw[<-h1] at h4
 exact h4
end
end
end Go.Proofs.YtllbniljgcgbeaaGreatDoor

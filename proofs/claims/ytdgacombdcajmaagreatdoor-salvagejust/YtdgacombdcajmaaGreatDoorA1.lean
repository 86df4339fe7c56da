import Derived.Test.YtdgacombdcajmaaGreatDoorB39
import Derived.Test.YtdgacombdcajmaaGreatDoorB20
import Derived.Test.YtdgacombdcajmaaGreatDoorB27
set_option maxRecDepth 100000
namespace Go.Proofs.YtdgacombdcajmaaGreatDoor
section
structure Bat where
 at_:Nat
 number:Int
 seq:Int
 first:Int
 rows:List (List V)
namespace Sv
def frames(rs:List Run):List (Nat×Fr):=rs.filterMap fun r=>match Fr.dec r.2 with
 |.ok f=>some (r.1,f)
 |.error _=>none
def said(rs:List Run):List (Int×List Col):=(frames rs).filterMap fun p=>if p.2.kind=1 then some (p.2.number,p.2.cols) else none
def sure(l:List (Int×List Col))(n:Int):Option (List Col):=match l.filter (fun p=>decide (p.1=n)) with
 | []=>none
 |p::r=>if r.all (fun q=>Sch.same p.2 q.2) then some p.2 else none
def saved(s:Int->Option (List Col))(p:Nat×Fr):Option Bat:=if p.2.kind=2 then match s p.2.number with
 |none=>none
 |some c=>match Bt.unpack c p.2.block p.2.rows with
  |.error _=>none
  |.ok l=>some ⟨p.1,p.2.number,p.2.seq,p.2.first,l⟩ else none
def bats(s:Int->Option (List Col))(rs:List Run):List Bat:=(frames rs).filterMap (saved s)
def all(b:L8):List Bat:=bats (sure (said (Sp.of b).out)) (Sp.of b).out
structure Of(r:Run)(x:Bat):Prop where
 at_:x.at_=r.1
 frame:∃f,Fr.dec r.2=.ok f∧f.kind=2∧f.number=x.number∧f.seq=x.seq∧f.first=x.first∧f.rows=(x.rows.length:Int)
theorem whole_len{s:List Col}{b:L8}{n:Int}{l:List (List V)}(h:Bt.unpack s b n=.ok l):(l.length:Int)=n:=(Bt.unpack_pack h).2.2.1
theorem bats_of(s:Int->Option (List Col)):∀rs:List Run,∃ks:List Run,ks.Sublist rs∧ks.length=(bats s rs).length∧∀j (h1:j<ks.length) (h2:j<(bats s rs).length),Of ks[j] (bats s rs)[j]
 | []=>⟨[],List.Sublist.slnil,rfl,fun j h1=>by simp at h1⟩
 |r::rs=>by
  obtain⟨ks,h1,h2,h3⟩:=bats_of s rs
  have hskip:bats s (r::rs)=bats s rs->∃ks:List Run,ks.Sublist (r::rs)∧ks.length=(bats s (r::rs)).length∧∀j (h1:j<ks.length) (h2:j<(bats s (r::rs)).length),Of ks[j] (bats s (r::rs))[j]:=fun e=>by
   rw[e]
   exact⟨ks,h1.cons _,h2,h3⟩
  cases hd:Fr.dec r.2 with
  |error e=>exact hskip (by simp[bats,frames,hd])
  |ok f=>
   have hf:bats s (r::rs)=(saved s (r.1,f)).toList++bats s rs:=by
    simp only[bats,frames,List.filterMap_cons,hd]
    cases saved s (r.1,f) <;> rfl
   cases hs:saved s (r.1,f) with
   |none=>exact hskip (by rw[hf,hs];rfl)
   |some x=>
    have hx:bats s (r::rs)=x::bats s rs:=by rw[hf,hs];rfl
    rw[hx]
    refine⟨r::ks,h1.cons_cons _,by simp[h2],fun j g1 g2=>?_⟩
    cases j with
    |zero=>
     rw[List.getElem_cons_zero,List.getElem_cons_zero]
     unfold saved at hs
     dsimp only at hs
     split at hs
     ·rename_i hk
      split at hs
      ·cases hs
      ·rename_i c hc
       split at hs
       ·cases hs
       ·rename_i l hl
        injection hs with hs
        subst hs
        exact⟨rfl,f,hd,hk,rfl,rfl,rfl,(whole_len hl).symm⟩
     ·cases hs
    |succ j=>
     rw[List.getElem_cons_succ,List.getElem_cons_succ]
     exact h3 j (by simpa using g1) (by simpa using g2)
end Sv
end
section
namespace Sv
def first(l:List (Int×List Col))(n:Int):Option (List Col):=(l.filter (fun p=>decide (p.1=n))).head?.map (·.2)
def bad(l:List (Int×List Col))(n:Int):Bool:=match l.filter (fun p=>decide (p.1=n)) with
 | []=>false
 |p::r=>!(r.all fun q=>Sch.same p.2 q.2)
theorem sure_eq(l:List (Int×List Col))(n:Int):sure l n=if bad l n=true then none else first l n:=by
 unfold sure bad first
 cases l.filter (fun p=>decide (p.1=n)) with
 |nil=>rfl
 |cons p r=>cases h:r.all (fun q=>Sch.same p.2 q.2) <;> simp[h]
theorem filter_snoc(l:List (Int×List Col))(x:Int×List Col)(n:Int):(l++[x]).filter (fun p=>decide (p.1=n))=l.filter (fun p=>decide (p.1=n))++if x.1=n then [x] else []:=by
 rw[List.filter_append]
 by_cases h:x.1=n <;> simp[h]
theorem first_snoc(l:List (Int×List Col))(x:Int×List Col)(n:Int):first (l++[x]) n=if n=x.1 then some ((first l n).getD x.2) else first l n:=by
 unfold first
 rw[filter_snoc]
 by_cases h:n=x.1
 ·subst h
  cases l.filter (fun p=>decide (p.1=x.1)) <;> simp
 ·rw[if_neg h,if_neg (fun e=>h e.symm),List.append_nil]
theorem bad_snoc(l:List (Int×List Col))(x:Int×List Col)(n:Int):bad (l++[x]) n=(bad l n||(decide (n=x.1)&&!((first l n).all fun c=>Sch.same c x.2))):=by
 unfold bad first
 rw[filter_snoc]
 by_cases h:n=x.1
 ·subst h
  cases l.filter (fun p=>decide (p.1=x.1)) with
  |nil=>simp
  |cons p r=>simp[List.all_append,Bool.not_and]
 ·rw[if_neg (fun e=>h e.symm),List.append_nil]
  simp[h]
theorem sure_mem{l:List (Int×List Col)}{n:Int}{c:List Col}(h:sure l n=some c):(n,c)∈l:=by
 unfold sure at h
 split at h
 ·cases h
 ·rename_i p r hp
  split at h
  ·injection h with h
   have:p∈l.filter (fun p=>decide (p.1=n)):=by rw[hp];exact List.mem_cons_self
   rw[List.mem_filter] at this
   have h1:p.1=n:=of_decide_eq_true this.2
   rw[<-h,<-h1]
   exact this.1
  ·cases h
theorem sure_unlike:∀{l:List (Int×List Col)},l.Pairwise (fun a b=>a.1≠b.1)->∀{n:Int} {c:List Col},(n,c)∈l->sure l n=some c
 | [],_,n,c,h=>by simp at h
 |p::l,hp,n,c,h=>by
  rw[List.pairwise_cons] at hp
  rcases List.mem_cons.1 h with h1 | h1
  ·have:l.filter (fun q=>decide (q.1=n))=[]:=List.filter_eq_nil_iff.2 fun q hq=>by
    have:=hp.1 q hq
    rw[<-h1] at this
    simpa using fun e=>this e.symm
   unfold sure
   rw[List.filter_cons_of_pos (by rw[<-h1];simp),this,<-h1]
   rfl
  ·have hne:p.1≠n:=hp.1 _ h1
   have:=sure_unlike hp.2 h1
   unfold sure at this ⊢
   rw[List.filter_cons_of_neg (by simpa using hne)]
   exact this
theorem said_snoc(rs:List Run)(r:Run):said (rs++[r])=said rs++(match Fr.dec r.2 with
  |.ok f=>if f.kind=1 then [(f.number,f.cols)] else []
  |.error _=>[]):=by
 unfold said frames
 rw[List.filterMap_append,List.filterMap_append]
 cases h:Fr.dec r.2 with
 |error e=>simp[h]
 |ok f=>by_cases hk:f.kind=1 <;> simp[h,hk]
def bat1(s:Int->Option (List Col))(r:Run):Option Bat:=match Fr.dec r.2 with
 |.ok f=>saved s (r.1,f)
 |.error _=>none
theorem bats_snoc(s:Int->Option (List Col))(rs:List Run)(r:Run):bats s (rs++[r])=bats s rs++(bat1 s r).toList:=by
 unfold bats frames bat1
 rw[List.filterMap_append,List.filterMap_append]
 cases h:Fr.dec r.2 with
 |error e=>simp[h]
 |ok f=>cases hk:saved s (r.1,f) <;> simp[h,hk]
def good(p:Int×List Col):Prop:=(0<=p.1∧p.1<2147483648)∧Sch.err p.2=0∧p.2.map Col.fix=p.2∧∀x∈p.2,x.wf
theorem dec_good{l:L8}{f:Fr}(h:Fr.dec l=.ok f)(hk:f.kind=1):good (f.number,f.cols):=by
 obtain⟨h1,_,h3,h4,_⟩:=Fr.dec_ok h
 have h5:=(Fr.err_open h1).1
 unfold Fr.err0 at h5
 rw[if_pos hk] at h5
 unfold Fr.norm at h3
 rw[if_pos hk] at h3
 split at h5
 ·omega
 ·rename_i hw
  have hw2:=Fr.within_iff.1 (by simpa using hw)
  exact⟨hw2,h5,congrArg Fr.cols h3,h4.2.2.1⟩
theorem said_good(rs:List Run):∀p∈said rs,good p:=by
 intro p hp
 unfold said frames at hp
 simp only[List.mem_filterMap] at hp
 obtain⟨q,⟨r,_,hr⟩,hq⟩:=hp
 split at hr
 ·rename_i f hf
  injection hr with hr
  subst hr
  dsimp only at hq
  split at hq
  ·rename_i hk
   injection hq with hq
   rw[<-hq]
   exact dec_good hf hk
  ·cases hq
 ·cases hr
theorem said_le(rs:List Run):(said rs).length<=rs.length:=Nat.le_trans (List.length_filterMap_le _ _) (List.length_filterMap_le _ _)
theorem bats_le(s:Int->Option (List Col))(rs:List Run):(bats s rs).length<=rs.length:=Nat.le_trans (List.length_filterMap_le _ _) (List.length_filterMap_le _ _)
end Sv
end
section
def fk:Col:=⟨⟨#[97]⟩,.mk 2 [],false,V0⟩
def aG:List Col:=[fk]
theorem nZ:Sch.colErr [] fk=0:=Sch.col_make (by kernel_rfl) rfl (Sch.ty_leaf (by omega) (by omega) (by omega)) (fun _=>Sch.v0_fix) (fun h=>by cases h)
theorem iA:Sch.bytes aG=[1,1,97,2,0]:=by
 unfold Sch.bytes aG fk Sch.cB
 simp only[List.map_cons,List.map_nil,Sch.tyB_mk]
 kernel_rfl
theorem fH:Sch.err aG=0:=Sch.err_make (by decide) (by decide) (by
 unfold aG
 rw[Sch.colsErr,if_pos nZ,Sch.colsErr]) (by rw[iA];decide)
theorem jq:∀c∈aG,c.wf:=by
 intro c hc
 unfold aG at hc
 rcases List.mem_cons.1 hc with rfl | hc
 ·exact⟨by decide,Ty.wf_mk.2 ⟨by omega,fun x hx=>by cases hx⟩,Sch.v0_wf⟩
 ·cases hc
def bC:List V:=[.mk 2 5 0 ⟨#[]⟩ []]
theorem mA:∀v∈bC,v.wf:=by
 intro v hv
 unfold bC at hv
 rcases List.mem_cons.1 hv with rfl | hv
 ·exact V.wf_mk.2 ⟨by omega,by omega,by omega,Nat.zero_le _,fun x hx=>by cases hx⟩
 ·cases hv
theorem p8:bC.map V.fix=bC:=by
 unfold bC
 simp only[List.map_cons,List.map_nil,V.fix_mk,Sch.fixB_zero,V.fixL]
theorem xH:Leb.put (Leb.zig 5)=[10]:=by kernel_rfl
theorem iw:Rw.bytes bC=[10]:=by
 unfold Rw.bytes bC
 simp only[List.map_cons,List.map_nil,Sch.vB_mk]
 simp[Sch.vH,xH]
theorem qa:Rw.err aG bC=0:=Rw.err_make fH rfl (by
 have h1:Rw.vErr (.mk 2 []) (.mk 2 5 0 ⟨#[]⟩ [])=0:=Rw.vErr_make (Sch.ty_leaf (by omega) (by omega) (by omega)) (Sch.chk_make (by omega) (by unfold V.ownB;simp[Sch.fixB_zero]) (Nat.zero_le _) (by simp) (fun h=>by cases h) (fun x hx=>by cases hx)) (by rw[Sch.of_mk];rfl)
 unfold aG bC fk
 rw[Rw.colsErr,if_pos h1,Rw.colsErr]
 ·intro c s v r h;cases h) (by rw[iw];decide)
theorem jn:Bt.rowsErr aG [bC]=0:=by
 rw[Bt.rowsErr,if_pos qa,Bt.rowsErr]
theorem dF:Bt.bytes [bC]=[10]:=by
 simp only[Bt.bytes,iw]
 rfl
theorem tC:Bt.err aG [bC]=0:=Bt.err_make (Bt.numErr_make fH (by decide) (by decide)) jn (by rw[dF];decide)
theorem blk17:Blk.pack [10]=⟨0,[0,10]⟩:=by kernel_rfl
theorem xy:Blk.unpack [0,10]=⟨0,[10]⟩:=by kernel_rfl
theorem rP:Bt.unpack aG [0,10] 1=.ok [bC]:=by
 have h:=Bt.whole_put jn (by intro x hx;rw[List.mem_singleton.1 hx];exact mA)
 rw[dF] at h
 unfold Bt.unpack
 rw[if_neg (by rw[Bt.numErr_make fH (by decide) (by decide)];decide),xy,if_neg (by decide)]
 show Bt.whole aG [10] 1=_
 rw[show(1:Nat)=[bC].length from rfl,h,List.map_cons,List.map_nil,p8]
def bR:Fr:={ Fr0 with kind:=1,number:=3,cols:=aG }
def cm:Fr:={ Fr0 with kind:=2,number:=3,seq:=9,first:=70,rows:=1,block:=[0,10] }
def qk:L8:=[7,1,3,1,1,97,2,5,36,43,112,67]
def iP:L8:=[6,2,3,9,70,1,6,10,64,90,31,222]
theorem s0:Fr.head bR=[1,3,1,1,97,2,0]:=by
 unfold Fr.head Fr.fields
 rw[if_pos (show bR.kind=1 from rfl),show bR.cols=aG from rfl,iA]
 kernel_rfl
theorem kZ:Fr.run bR=qk:=by
 unfold Fr.run
 rw[s0]
 kernel_rfl
theorem k6:Fr.run cm=iP:=by decide +kernel
theorem pB:Fr.err bR=0:=by
 have h0:Fr.err0 bR=0:=by
  unfold Fr.err0
  rw[if_pos (show bR.kind=1 from rfl),if_neg (by decide)]
  exact fH
 unfold Fr.err
 rw[h0,if_neg (by decide),if_neg (by rw[kZ];decide)]
theorem pC:Fr.err cm=0:=by
 have h0:Fr.err0 cm=0:=by
  unfold Fr.err0
  rw[if_neg (by decide),if_pos (show cm.kind=2 from rfl),if_neg (by decide)]
 unfold Fr.err
 rw[h0,if_neg (by decide),if_neg (by rw[k6];decide)]
theorem sE:Fr.norm bR=bR:=by
 unfold Fr.norm
 rw[if_pos (show bR.kind=1 from rfl)]
 have h:Col.fix fk=fk:=by
  unfold Col.fix fk
  simp[V0,V.fix_mk,Sch.fixB_zero,V.fixL]
 show({ Fr0 with kind:=1,number:=3,cols:=[Col.fix fk] }:Fr)=_
 rw[h]
 rfl
theorem sF:Fr.norm cm=cm:=rfl
theorem uZ:Fr.dec qk=.ok bR:=by
 have h:=Fr.dec_run pB jq
 rw[kZ,sE] at h
 exact h
theorem pD:Fr.dec iP=.ok cm:=by
 have h:=Fr.dec_run pC (fun c hc=>by cases hc)
 rw[k6,sF] at h
 exact h
def dX:L8:=[1,0,2]++(0::(iP++[0]))++[7,0]++(0::(qk++[0]))
theorem we:(Sp.of dX).out=[(1,[2]),(3,iP),(16,[7]),(19,qk)]:=by decide +kernel
theorem xZ:Fr.dec [2]=.error 30:=by kernel_rfl
theorem xY:Fr.dec [7]=.error 30:=by kernel_rfl
theorem m9:Sv.frames (Sp.of dX).out=[(3,cm),(19,bR)]:=by
 rw[we]
 simp only[Sv.frames,List.filterMap_cons,List.filterMap_nil,xZ,xY,pD,uZ]
theorem r7:Sv.said (Sp.of dX).out=[(3,aG)]:=by
 unfold Sv.said
 rw[m9]
 rfl
theorem nI:Sv.sure (Sv.said (Sp.of dX).out) 3=some aG:=by
 rw[r7]
 rfl
theorem xf:Sv.all dX=[⟨3,3,9,70,[bC]⟩]:=by
 unfold Sv.all Sv.bats
 rw[m9]
 have h:Sv.saved (Sv.sure (Sv.said (Sp.of dX).out)) (3,cm)=some ⟨3,3,9,70,[bC]⟩:=by
  unfold Sv.saved
  rw[if_pos (show cm.kind=2 from rfl),show(3,cm).2.number=(3:Int) from rfl,nI]
  show(match Bt.unpack aG [0,10] 1 with
   |.error _=>none
   |.ok l=>some (⟨3,3,9,70,l⟩:Bat))=_
  rw[rP]
 have h2:Sv.saved (Sv.sure (Sv.said (Sp.of dX).out)) (19,bR)=none:=by
  unfold Sv.saved
  rw[if_neg (show ¬bR.kind=2 by decide)]
 simp only[List.filterMap_cons,List.filterMap_nil,h,h2]
theorem uA:∀{l:List (Int×List Col)},l.Pairwise (fun a b=>a.1<b.1)->(∀n c,(n,c)∈l↔Sv.sure (Sv.said (Sp.of dX).out) n=some c)->l=[(3,aG)]
 | [],_,h=>by have:=(h 3 aG).2 nI;simp at this
 | [x],_,h=>by have:=(h 3 aG).2 nI;simp at this;rw[<-this]
 |x::y::r,hp,h=>by
  have hn:∀z,z∈x::y::r->z.1=3:=fun z hz=>by
   have:=Sv.sure_mem ((h z.1 z.2).1 hz)
   rw[r7] at this
   simp at this
   exact this.1
  have h1:=(List.pairwise_cons.1 hp).1 y (by simp)
  have h2:=hn x (by simp)
  have h3:=hn y (by simp)
  omega
theorem u9:Sv.all (0::(iP++[0]))=[]:=by
 have hr:(Sp.of (0::(iP++[0]))).out=[(0,iP)]:=by decide +kernel
 unfold Sv.all Sv.bats Sv.said
 rw[hr]
 have hf:Sv.frames [(0,iP)]=[(0,cm)]:=by
  simp only[Sv.frames,List.filterMap_cons,List.filterMap_nil,pD]
 rw[hf]
 rfl
end
section
open Go.RowKit
def dY(F:Nat->Prop)(w:World)(P:World->Prop):Prop:=∀w',Aside F w w'->P w'
theorem dY.here{F:Nat->Prop}{w:World}{P:World->Prop}(h:dY F w P):P w:=h w (Aside.refl _ _)
theorem dY.step{F F':Nat->Prop}{w w':World}{P:World->Prop}(h:dY F w P)(ha:Aside F w w')(hF:∀k,F' k->F k∨w.1.size<=k):dY F' w' P:=fun w'' h2=>h w'' (ha.trans h2 fun i hi hf=>(hF i hf).elim id (fun hc=>absurd hi (Nat.not_lt_of_le hc)))
theorem kH(k:Nat):∀us:List (List Value),(∀u∈us,u.length=k)->∀(j:Nat) (u:List Value),us[j]?=some u->∀m,m<k->us.flatten[j*k+m]?=u[m]?
 | [],_,j,u,h,_,_=>by simp at h
 |x::us,h,0,u,hu,m,hm=>by
  have hx:=h x List.mem_cons_self
  simp at hu
  subst hu
  rw[List.flatten_cons,Nat.zero_mul,Nat.zero_add,List.getElem?_append_left (by omega)]
 |x::us,h,j+1,u,hu,m,hm=>by
  have hx:=h x List.mem_cons_self
  rw[List.flatten_cons,List.getElem?_append_right (by rw[hx,Nat.add_mul];omega),hx,show(j+1)*k+m-k=j*k+m by rw[Nat.add_mul];omega]
  exact kH k us (fun y hy=>h y (List.mem_cons_of_mem _ hy)) j u (by simpa using hu) m hm
section
variable {α:Type} {T S:TypeId} {k:Nat} {P:α->List Value->World->Prop} {w w':World} {B:Nat} {v:Value} {xs:List α}
structure Lot(T:TypeId)(k:Nat)(P:α->List Value->World->Prop)(w:World)(B:Nat)(v:Value)(xs:List α):Prop where
 out:∃us:List (List Value),us.length=xs.length∧(∀u∈us,u.length=k)∧w.ownsRow B T k v xs.length us.flatten∧∀j (hj:j<xs.length),∃u,us[j]?=some u∧dY (fun i=>v.ownBlock=some i) w (P xs[j] u)
theorem gD(w:World)(B:Nat):Lot T k P w B (.slice none 0 0) []:=⟨[],rfl,by simp,⟨by simp,.inl ⟨rfl,rfl⟩⟩,fun j hj=>by simp at hj⟩
theorem Lot.lt(h:Lot T k P w B v xs):∀i,v.ownBlock=some i->B<=i∧i<w.1.size:=by
 obtain⟨us,_,_,h1,_⟩:=h.out
 exact World.ownsRow.lt h1
theorem Lot.aside{F:Nat->Prop}(h:Lot T k P w B v xs)(ha:Aside F w w')(hv:∀i,v.ownBlock=some i->¬F i)(hP:∀x u,dY (fun i=>v.ownBlock=some i) w (P x u)->dY (fun i=>v.ownBlock=some i) w' (P x u)):Lot T k P w' B v xs:=by
 obtain⟨us,h1,h2,h3,h4⟩:=h.out
 refine⟨us,h1,h2,⟨h3.1,?_⟩,fun j hj=>?_⟩
 ·rcases h3.2 with h5 | ⟨g,cap,cur,rfl,h6,h7,h8⟩
  ·exact .inl h5
  ·exact .inr ⟨g,cap,cur,rfl,h6,by rw[ha.block g (Array.getElem?_eq_some_iff.1 h7).1 (hv g rfl)];exact h7,h8⟩
 ·obtain⟨u,e1,e2⟩:=h4 j hj
  exact⟨u,e1,hP _ _ e2⟩
theorem Lot.on(h:Lot T k P w B v xs)(hb:Below w.1.size w w'):Lot T k P w' B v xs:=h.aside (ag hb (fun _=>False)) (fun _ _ hc=>hc) fun _ _ hs=>hs.step (ag hb _) (fun _ hk=>.inl hk)
theorem Lot.form(h:Lot T k P w B v xs):∃q c,v=.slice q xs.length c∧xs.length<=c:=by
 obtain⟨us,_,_,h1,_⟩:=h.out
 rcases h1.2 with ⟨rfl,h3⟩ | ⟨g,cap,cur,rfl,_,_,h4,_⟩
 ·exact⟨none,0,by rw[h3],by omega⟩
 ·exact⟨_,_,rfl,h4⟩
theorem Lot.cell(h:Lot T k P w B v xs)(j:Nat)(hj:j<xs.length):∃g cap u,v=.slice (some ⟨g,0,none⟩) xs.length cap∧xs.length<=cap∧B<=g∧g<w.1.size∧u.length=k∧(∀m,m<k->w.cell? ⟨g,j*k+m,none⟩=u[m]?)∧P xs[j] u w:=by
 obtain⟨us,h1,h2,h3,h4⟩:=h.out
 obtain⟨u,e1,e2⟩:=h4 j hj
 rcases h3.2 with ⟨_,h5⟩ | ⟨g,cap,cur,rfl,h6,h7,h8,_,h9,h10⟩
 ·omega
 ·refine⟨g,cap,u,rfl,h8,h6,(Array.getElem?_eq_some_iff.1 h7).1,h2 u (List.mem_of_getElem? e1),fun m hm=>?_,e2.here⟩
  have hlt:j*k+m<xs.length*k:=by
   have:=Nat.mul_le_mul_right k (show j+1<=xs.length from hj)
   rw[Nat.add_mul] at this
   omega
  rw[<-kH k us h2 j u e1 m hm,<-h10,List.getElem?_take_of_lt hlt]
  simp[World.cell?,h7]
theorem ja{ad H b:Nat}{z:Value}(hinf:(Tryz.prog.info? T).map (fun i=>(i.zero,i.size,i.bytes))=some (some z,k,b))(hS:Tryz.prog.underlying S=some (.slice T))(hzk:z.cells.size=k)(hk0:0<k)(hr:Lot T k P w B v xs)(x:α)(C:AV)(hC:C.size=k)(h1:∀a∈C.toList,a.oneCell'=true)(hP:dY (fun i=>v.ownBlock=some i) w (P x C.toList))(hblk:w.1[ad]?=some (.cells C T (0,0)))(hn:(xs.length+1)*b<=140737488355328)(hn2:xs.length<=1000000000)(hB:B<=w.1.size)(hH:w.1.size=H){ops:Array Oper}{rest:List Oper}{o:Oper}{a:Act}{Q:Exit->Act->World->Prop}{y q:Operand}(hg:o.guard=none)(hop:o.op=Op.call { callee:=Callee.builtin Builtin.append,args:=#[y,q],argTypes:=#[S,S] })(hs:a.eval y=v)(hx:a.eval q=.slice (some ⟨ad,0,none⟩) 1 1)(hK:∀g cap w',Lot T k P w' B (.slice (some ⟨g,0,none⟩) (xs.length+1) cap) (xs++[x])->Aside (fun j=>v.ownBlock=some j) w w'->(v.ownBlock=some g∨g=H)->wpList Tryz.prog ops Q rest (a.put o.dst (.slice (some ⟨g,0,none⟩) (xs.length+1) cap)) w'):
  wpList Tryz.prog ops Q (o::rest) a w:=by
 obtain⟨i,hi,hz,hsz,hby⟩:=info_parts hinf
 obtain⟨us,e1,e2,e3,e4⟩:=hr.out
 refine wpList_append_lies w hg y q S hop B T i z k b hS hi hz hsz hby hzk hk0 v xs.length us.flatten hs e3 ⟨ad,0,none⟩ 1 1 _ hx (by simp[hC])
  (World.news_of_block hblk) h1 (by decide) (by unfold maxLen;omega) hn hB H hH fun g cap w' h3 h4 h5 _=>?_
 have ha:=bB h4
 have hF:∀i,(Value.slice (some ⟨g,0,none⟩) (xs.length+1) cap).ownBlock=some i->v.ownBlock=some i∨w.1.size<=i:=fun i hi=>by
  simp only[Value.ownBlock,Option.some.injEq] at hi
  subst hi
  rcases h5 with h5 | h5
  ·exact .inl h5
  ·exact .inr (by omega)
 refine hK g cap w' ⟨us++[C.toList],by simp[e1],fun u hu=>?_,?_,fun j hj=>?_⟩ ha h5
 ·rcases List.mem_append.1 hu with hu | hu
  ·exact e2 u hu
  ·simp at hu
   rw[hu]
   simpa using hC
 ·rw[List.length_append,List.length_singleton,List.flatten_append]
  simpa using h3
 ·by_cases hje:j<xs.length
  ·obtain⟨u,f1,f2⟩:=e4 j hje
   refine⟨u,by rw[List.getElem?_append_left (by omega)];exact f1,?_⟩
   rw[List.getElem_append_left hje]
   exact f2.step ha hF
  ·have hj2:j=xs.length:=by rw[List.length_append,List.length_singleton] at hj;omega
   subst hj2
   refine⟨C.toList,by rw[List.getElem?_append_right (by omega),e1];simp,?_⟩
   simp only[List.getElem_append_right yX,Nat.sub_self,List.getElem_cons_zero]
   exact hP.step ha hF
end
end
section
open Go.RowKit Go.Maps
theorem mR:Keyed Tryz.prog 2:=int_keyed Tryz.underlying2
def dZ:Value:=.agg #[.slice none 0 0]
theorem pO(w:World):(zeroValue 31).run Tryz.prog w=.ok dZ w:=by kernel_rfl
def hY(v:Value):Option (DataW Value×List MemPlace):=some (.held v,[])
def ev(n:Int):Lit:=.int .i64 n
theorem eu{a b:Int}(h:ev a=ev b):a=b:=by
 unfold ev at h
 injection h
theorem jw{n:Int}(h:Fr.i64 n):keyOf Tryz.prog 2 (.int .i64 n)=some (ev n):=keyOf_int_mk Tryz.underlying2 (by
 show(decide _&&decide _)=true
 rw[Bool.and_eq_true]
 exact⟨decide_eq_true h.1,decide_eq_true h.2⟩)
def pJ(D:DataW Value)(g:Int->Option Value):Prop:=∀m,Maps.has D (ev m)=(g m).isSome∧∀v,D.atKey (ev m) (.held v)=.held ((g m).getD v)
structure KM(w:World)(M n:Nat)(g:Int->Option Value):Prop where
 out:∃D:DataW Value,w.ownsMap Tryz.prog 2 hY M n D∧pJ D g
structure RM(w:World)(M r n:Nat)(g:Int->Option Value)(ns:List Int)(cnt:Nat):Prop where
 out:∃D left,w.ranges Tryz.prog 2 hY M r n D left cnt∧pJ D g∧∀m,left (ev m)=((g m).isSome&&!decide (m∈ns))
section
variable {w w':World} {M n r cnt:Nat} {g:Int->Option Value} {ns:List Int}
theorem po(w:World):KM (w.alloc (.map #[] 0)) w.1.size 0 (fun _=>none):=⟨.map [],World.ownsMap_made _ _ _ _,fun _=>⟨rfl,fun _=>rfl⟩⟩
theorem KM.lt(h:KM w M n g):M<w.1.size:=by
 obtain⟨D,h1,_⟩:=h.out
 exact h1.lt
theorem KM.aside{F:Nat->Prop}(h:KM w M n g)(ha:Aside F w w')(hF:¬F M):KM w' M n g:=by
 obtain⟨D,⟨es,clock,h1,h2⟩,h3⟩:=h.out
 exact⟨D,⟨es,clock,(ha.block M h.lt hF).trans h1,h2⟩,h3⟩
theorem KM.on(h:KM w M n g)(hb:Below w.1.size w w'):KM w' M n g:=h.aside (ag hb (fun _=>False)) (fun hc=>hc)
theorem KM.eq{g':Int->Option Value}(h:KM w M n g)(he:∀m,g' m=g m):KM w M n g':=by
 rw[show g'=g from funext he]
 exact h
theorem KM.look(h:KM w M n g){m:Int}(hm:Fr.i64 m):(Instr.lookup 88 (.map (some M)) (.int .i64 m) true).run Tryz.prog w=.ok (.tuple #[(g m).getD dZ,.bool (g m).isSome]) w:=by
 obtain⟨D,h1,h2⟩:=h.out
 obtain⟨v,ps,hr,hv⟩:=h1.look_ok mR Tryz.underlying88 (pO w) (zd:=.held dZ) (zp:=[]) rfl (jw hm)
 rw[(h2 m).2] at hv
 unfold hY at hv
 injection hv with hv
 injection hv with hv _
 injection hv with hv
 rw[hr,hv,(h2 m).1]
theorem jd(h:w.mapTurned w' M):Aside (fun k=>k=M) w w'∧w'.1.size=w.1.size:=by
 have hg2:=h.grown
 refine⟨⟨hg2.os,hg2.tape,hg2.output,hg2.size,fun k hk hf=>hg2.block k hk (fun hc=>hf (by injection hc))⟩,?_⟩
 obtain⟨es,clock,es',clock',_,e⟩:=h
 rw[e]
 simp[Go.ChangeMaps.setBlock]
theorem KM.put(h:KM w M n g){m:Int}(hm:Fr.i64 m)(hn:n<1000000000)(v:Value):∃w',(Instr.mapUpdate 88 (.map (some M)) (.int .i64 m) v).run Tryz.prog w=.ok () w'∧KM w' M (n+1) (fun k=>if k=m then some v else g k)∧Aside (fun k=>k=M) w w'∧w'.1.size=w.1.size:=by
 obtain⟨D,h1,h2⟩:=h.out
 obtain⟨w',hr,ho,hg⟩:=h1.store mR Tryz.underlying88 (by unfold maxLen;omega) (jw hm) (val:=v) (d:=.held v) (ps:=[]) rfl
 refine⟨w',hr,⟨_,ho,fun k=>?_⟩,jd hg⟩
 dsimp only
 by_cases hk:k=m
 ·subst hk
  rw[if_pos rfl,has_put_same h1.isMap (by trivial)]
  exact⟨rfl,fun z=>by rw[atKey_put_same h1.isMap (by trivial)];rfl⟩
 ·rw[if_neg hk,has_put_other (fun e=>hk (eu e))]
  exact⟨(h2 k).1,fun z=>by rw[atKey_put_other (fun e=>hk (eu e))];exact(h2 k).2 z⟩
theorem RM.left(h:RM w M r n g ns cnt):w.rangeLeft M r=cnt:=by
 obtain⟨D,left,h1,_⟩:=h.out
 exact h1.left_eq
theorem RM.owns(h:RM w M r n g ns cnt):KM w M n g:=by
 obtain⟨D,left,h1,h2,_⟩:=h.out
 exact⟨D,h1.owns,h2⟩
theorem RM.lt(h:RM w M r n g ns cnt):r<w.1.size∧r≠M:=by
 obtain⟨D,left,h1,_⟩:=h.out
 exact⟨h1.lt,h1.ne⟩
theorem RM.aside{F:Nat->Prop}(h:RM w M r n g ns cnt)(ha:Aside F w w')(h1:¬F M)(h2:¬F r):RM w' M r n g ns cnt:=by
 have hM:=h.owns.lt
 have hr:=h.lt.1
 obtain⟨D,left,⟨es,clock,since,seen,c0,e1,e2,e3,e4,e5,e6⟩,h4⟩:=h.out
 exact⟨D,left,⟨es,clock,since,seen,c0,(ha.block M hM h1).trans e1,e2,e3,e4,(ha.block r hr h2).trans e5,e6⟩,h4⟩
theorem RM.on(h:RM w M r n g ns cnt)(hb:Below w.1.size w w'):RM w' M r n g ns cnt:=h.aside (ag hb (fun _=>False)) (fun hc=>hc) (fun hc=>hc)
variable {ops:Array Oper} {rest:List Oper} {o:Oper} {a:Act} {Q:Exit->Act->World->Prop} {x y:Operand}
theorem rM(h:KM w M n g){m:Int}(hm:Fr.i64 m)(hg:o.guard=none)(hop:o.op=Op.call { callee:=Callee.builtin Builtin.delete,args:=#[x,y],argTypes:=#[88,2] })(hx:a.eval x=.map (some M))(hy:a.eval y=.int .i64 m)(hK:∀w',KM w' M n (fun k=>if k=m then none else g k)->Aside (fun k=>k=M) w w'->w'.1.size=w.1.size->wpList Tryz.prog ops Q rest (a.put o.dst (.tuple #[])) w'):wpList Tryz.prog ops Q (o::rest) a w:=by
 obtain⟨D,h1,h2⟩:=h.out
 refine wpList_delete_own w hg x y _ _ hop 31 mR Tryz.underlying88 hY M n D hx h1 _ _ hy (jw hm) fun w' ho ht=>hK w' ⟨_,ho,fun k=>?_⟩ (jd ht).1 (jd ht).2
 dsimp only
 by_cases hk:k=m
 ·subst hk
  rw[if_pos rfl,has_del_same]
  exact⟨rfl,fun z=>by rw[atKey_del_same];rfl⟩
 ·rw[if_neg hk,has_del_other (fun e=>hk (eu e))]
  exact⟨(h2 k).1,fun z=>by rw[atKey_del_other (fun e=>hk (eu e))];exact(h2 k).2 z⟩
theorem rI(h:KM w M n g){m:Int}(hm:Fr.i64 m)(hn:n<1000000000)(v:Value){z:Operand}(hg:o.guard=none)(hop:o.op=Op.mapUpdate 88 x y z)(hx:a.eval x=.map (some M))(hy:a.eval y=.int .i64 m)(hz:a.eval z=v)(hK:∀w',KM w' M (n+1) (fun k=>if k=m then some v else g k)->Aside (fun k=>k=M) w w'->w'.1.size=w.1.size->wpList Tryz.prog ops Q rest (a.put o.dst undef) w'):wpList Tryz.prog ops Q (o::rest) a w:=by
 obtain⟨w',hr,h1,h2,h3⟩:=h.put hm hn v
 refine wpList_plain hg fun K' hK'=>?_
 unfold Oper.wp
 simp[execOp,hop,hx,hy,hz,hr,Result.andThen]
 exact hK' _ _ (hK w' h1 h2 h3)
theorem KM.drewN(h:KM w M n g)(k:Nat):KM (w.drewN k) M n g:=⟨h.out⟩
theorem i6(h:KM w M n g)(hg:o.guard=none)(hop:o.op=Op.range 88 x)(hx:a.eval x=.map (some M))(hK:∀w' cnt,cnt<=n->RM w' M w.1.size n g [] cnt->Below w.1.size w w'->w'.1.size=w.1.size+1->wpList Tryz.prog ops Q rest (a.put o.dst (.pointer (some ⟨w.1.size,0,none⟩))) w'):wpList Tryz.prog ops Q (o::rest) a w:=by
 obtain⟨D,h1,h2⟩:=h.out
 refine wpList_range_own w hg x _ hop 2 31 mR Tryz.underlying88 hY M n D hx h1 fun w' hr hgr hs=>hK w' _ h1.size_le ⟨D,_,hr,h2,fun m=>?_⟩ ((bB hgr).below yX (fun k _ hc=>by cases hc)) hs
 rw[(h2 m).1]
 simp
theorem kj(h:RM w M r n g ns cnt)(hg:o.guard=none)(hop:o.op=Op.next x false)(hx:a.eval x=.pointer (some ⟨r,0,none⟩))(hDone:(∀m v,g m=some v->m∈ns)->wpList Tryz.prog ops Q rest (a.put o.dst (.tuple #[.bool false])) w)(hMore:∀(m:Int) (c:Value) (w':World) (cnt':Nat),Fr.i64 m->g m=some c->m∉ns->RM w' M r n g (ns++[m]) cnt'->cnt'<cnt->Aside (fun k=>k=r) w w'->w'.1.size=w.1.size->(Instr.entry (.pointer (some ⟨r,0,none⟩))).run Tryz.prog w'=.ok (.tuple #[.int .i64 m,c]) w'->wpList Tryz.prog ops Q rest (a.put o.dst (.tuple #[.bool true,.int .i64 m,c])) w'):
  wpList Tryz.prog ops Q (o::rest) a w:=by
 obtain⟨D,left,h1,h2,h3⟩:=h.out
 refine wpList_next_ranges w hg x hop 2 mR hY (Value.int .i64) (id:Value->Value) (fun key kl hk=>by obtain⟨z,rfl,_⟩:=Maps.keyOf_int_inv Tryz.underlying2 hk;exact⟨z,rfl⟩) (fun v y _=>⟨v,rfl⟩) M r n D left cnt hx h1
  (fun _ hl=>hDone fun m v hm=>?_) (fun m c kl y w' cnt' hkey hlk hv hat hrg hlt hgr hsz hen=>?_)
 ·have:=hl (ev m)
  rw[h3 m,hm] at this
  simpa using this
 ·obtain⟨m',em,rfl,hwf⟩:=Maps.keyOf_int_inv Tryz.underlying2 hkey
  injection em with _ em
  subst em
  have hk:=h3 m
  rw[show left (ev m)=true from hlk] at hk
  have hk2:=hk.symm
  rw[Bool.and_eq_true] at hk2
  have hns:m∉ns:=by simpa using hk2.2
  obtain⟨c',hc'⟩:=Option.isSome_iff_exists.1 hk2.1
  have hcc:c'=c:=by
   have e1:=(h2 m).2 dZ
   rw[hc'] at e1
   have e2:=hat (.held dZ)
   rw[show D.atKey (Lit.int .i64 m) (.held dZ)=D.atKey (ev m) (.held dZ) from rfl,e1] at e2
   injection hv with hv
   rw[<-hv] at e2
   injection e2
  subst hcc
  refine hMore m c' w' cnt' ?_ hc' hns ⟨D,_,hrg,h2,fun z=>?_⟩ hlt ((bB hgr).mono (fun i _ hi=>by injection hi with hi;exact hi.symm)) hsz hen
  ·have:(decide _&&decide _)=true:=hwf
   rw[Bool.and_eq_true] at this
   exact⟨of_decide_eq_true this.1,of_decide_eq_true this.2⟩
  ·show(left (ev z)&&!(ev z).sameKey (ev m))=_
   rw[h3 z]
   by_cases hz:z=m
   ·subst hz
    rw[WideAt.sameKey_self (by trivial)]
    simp
   ·rw[Maps.sameKey_ne (fun e=>hz (eu e))]
    cases g z <;> simp[hz]
theorem KM.obj(h:KM w M n g):∃es clock,w.1[M]?=some (.map es clock):=by
 obtain⟨D,⟨es,clock,h1,h2⟩,h3⟩:=h.out
 exact⟨es,clock,h1⟩
theorem KM.off(h:KM w M n g){i:Nat}{C:AV}{T:TypeId}{f:Nat×Nat}(hi:w.1[i]?=some (.cells C T f)):i≠M:=by
 obtain⟨es,clock,h1⟩:=h.obj
 intro hc
 rw[hc,h1] at hi
 cases hi
end
end
end Go.Proofs.YtdgacombdcajmaaGreatDoor

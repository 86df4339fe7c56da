import Derived.Test.YtllbniljgcgbeaaGreatDoorB05
import Derived.Test.YtllbniljgcgbeaaGreatDoorB15
import Derived.Test.YtllbniljgcgbeaaGreatDoorB16
import Derived.Test.YtllbniljgcgbeaaGreatDoorB10
set_option maxRecDepth 100000
set_option maxHeartbeats 4000000
namespace Go.Proofs.YtllbniljgcgbeaaGreatDoor
section
open Go.RowKit
def kwC:AV:=#[.string ⟨#[]⟩,.string ⟨#[98,111,111,108]⟩,.string ⟨#[105,110,116]⟩,.string ⟨#[102,108,111,97,116]⟩,.string ⟨#[116,101,120,116]⟩,.string ⟨#[98,121,116,101,115]⟩,.string ⟨#[111,112,116]⟩,.string ⟨#[108,105,115,116]⟩]
structure Hv(w:World):Prop where
 tab:Tab w
 tz:Tz w
 sen:Sen w
 kw : w.var? Tryz.prog "gabion/text.kindWords"=some kwC
theorem gKw: Tryz.prog.globalNamed "gabion/text.kindWords"=some 0 := by kernel_rfl
theorem tD: Tryz.prog.globalNamed "internal/strconv.uint64pow10"=some 2 := by kernel_rfl
theorem eM{w w':World}{n:String}{g:Nat}(hg:Tryz.prog.globalNamed n=some g)(h:w'.1[g]?=w.1[g]?):w'.var? Tryz.prog n=w.var? Tryz.prog n:=by
 simp only[World.var?,hg,Option.bind_some,h]
theorem Hv.size{w:World}(h:Hv w):7<=w.1.size:=oB h.tz
theorem Hv.keep{w w':World}(h:Hv w)(hk:∀k,k<7->w'.1[k]?=w.1[k]?):Hv w':=by
 obtain⟨h1,h2,⟨h3,h4⟩,h5⟩:=h
 refine⟨?_,?_,⟨?_,?_⟩,?_⟩
 ·unfold Tab Lib.TabIs at h1 ⊢
  rw[eM tD (hk _ (by decide))];exact h1
 ·unfold Tz at h2 ⊢
  rw[World.cell?_of_block (w:=w) (hk _ (by decide))];exact h2
 ·rw[eM qZ (hk _ (by decide))];exact h3
 ·rw[eM rb (hk _ (by decide))];exact h4
 ·rw[eM gKw (hk _ (by decide))];exact h5
theorem Hv.on{w w':World}{B:Nat}(h:Hv w)(hb:Below B w w')(hB:7<=B):Hv w':=h.keep fun k hk=>hb.block k (by omega)
theorem Hv.aside{w w':World}{F:Nat->Prop}(h:Hv w)(ha:Aside F w w')(hF:∀k,F k->7<=k):Hv w':=h.keep fun k hk=>ha.block k (by have:=h.size;omega) (fun hc=>by have:=hF k hc;omega)
theorem Hv.drewN{w:World}(h:Hv w)(n:Nat):Hv (w.drewN n):=h.keep fun _ _=>rfl
def dN(k at_:Nat):List PanicEntry:=[{ v:=.iface 88 (.agg #[.int .i64 k,.int .i64 at_]),recovered:=false }]
def psC(S:ByteArray)(a:Int):AV:=#[.string S,.int .i64 a]
structure Prs(w:World)(P:Nat)(S:ByteArray)(l:Tx.Bs):Prop where
 lies:w.1[P]?=some (.cells (psC S ((S.size-l.length:Nat):Int)) 90 (0,0))
 suf:S.data.toList.drop (S.size-l.length)=l
 le:l.length<=S.size
 small:S.size<=140737488351232
 low:7<=P
 hv:Hv w
theorem ax(F:Nat->Prop)(w:World)(n:Nat):Aside F w (w.drewN n):=⟨rfl,rfl,rfl,tX,fun _ _ _=>rfl⟩
section
variable {w w':World} {P:Nat} {S:ByteArray} {l:Tx.Bs}
theorem Prs.lt(h:Prs w P S l):P<w.1.size:=(Array.getElem?_eq_some_iff.1 h.lies).1
theorem Prs.on(h:Prs w P S l)(hb:Below w.1.size w w'):Prs w' P S l:=⟨(hb.block P h.lt).trans h.lies,h.suf,h.le,h.small,h.low,h.hv.on hb h.hv.size⟩
theorem Prs.aside{F:Nat->Prop}(h:Prs w P S l)(ha:Aside F w w')(hF:∀k,F k->P<k):Prs w' P S l:=⟨(ha.block P h.lt (fun hc=>by have:=hF P hc;omega)).trans h.lies,h.suf,h.le,h.small,h.low,h.hv.aside ha (fun k hk=>by have:=hF k hk;have:=h.low;omega)⟩
theorem Prs.drewN(h:Prs w P S l)(n:Nat):Prs (w.drewN n) P S l:=⟨h.lies,h.suf,h.le,h.small,h.low,h.hv.drewN n⟩
theorem Prs.cell(h:Prs w P S l)(i:Nat):w.cell? ⟨P,i,none⟩=(psC S ((S.size-l.length:Nat):Int))[i]?:=by
 unfold World.cell?
 rw[h.lies]
 rfl
theorem Prs.thawed(h:Prs w P S l)(i:Nat):w.frozen? ⟨P,i,none⟩=false:=by simp[World.frozen?,h.lies]
theorem Prs.head{c:UInt8}{r:Tx.Bs}(h:Prs w P S (c::r)):∃hlt:S.size-(c::r).length<S.size,S[S.size-(c::r).length]'hlt=c:=by
 have hle:=h.le
 simp only[List.length_cons] at hle
 have hlt:S.size-(c::r).length<S.size:=by simp only[List.length_cons];omega
 refine⟨hlt,?_⟩
 have h1:=congrArg List.head? h.suf
 rw[List.head?_drop,List.head?_cons] at h1
 obtain⟨h2,h3⟩:=List.getElem?_eq_some_iff.1 h1
 rw[<-h3]
 simp[ByteArray.getElem_eq_getElem_data]
theorem Prs.skip{a r:Tx.Bs}(h:Prs w P S (a++r)){x:Int}(hx:x=((S.size-r.length:Nat):Int)):Prs (w.setCell ⟨P,1,none⟩ (.int .i64 x)) P S r:=by
 have hle:=h.le
 have hs:=h.suf
 simp only[List.length_append] at hle hs
 refine⟨?_,?_,by omega,h.small,h.low,?_⟩
 ·rw[hx]
  simp only[World.setCell,Array.getElem?_modify,h.lies,if_true,Option.map_some]
  rfl
 ·have e:S.size-r.length=(S.size-(a.length+r.length))+a.length:=by omega
  rw[e,<-List.drop_drop,hs,List.drop_left]
 ·have hl:=h.low
  exact h.hv.keep fun k hk=>Below.heap_setCell _ _ _ _ (by show k≠P;omega)
theorem bu(w:World)(P:Nat)(u:Value):Aside (fun k=>k=P) w (w.setCell ⟨P,1,none⟩ u):=(Aside.refl (fun k=>k=P) w).setCell (p:=⟨P,1,none⟩) (.inl rfl) u
def PsA{α:Type}(w:World)(P:Nat)(S:ByteArray)(r:Tx.R (α×Tx.Bs))(V:α->Value->World->Prop)(e:Ending)(w':World):Prop:=match r with
 |.error (k,n)=>e=.panicked (dN k (S.size-n))∧Aside (fun i=>i=P) w w'
 |.ok (a,l)=>∃v,e=.returned v∧V a v w'∧Prs w' P S l∧Aside (fun i=>i=P) w w'
theorem PsA.good{α:Type}{a:α}{V:α->Value->World->Prop}{e:Ending}(h:PsA w P S (.ok (a,l)) V e w'):∃v,e=.returned v∧V a v w'∧Prs w' P S l∧Aside (fun i=>i=P) w w':=h
theorem PsA.bad{α:Type}{k n:Nat}{V:α->Value->World->Prop}{e:Ending}(h:PsA (α:=α) w P S (.error (k,n)) V e w'):e=.panicked (dN k (S.size-n))∧Aside (fun i=>i=P) w w':=h
def PsU(w:World)(P:Nat)(S:ByteArray)(r:Tx.R Tx.Bs)(e:Ending)(w':World):Prop:=match r with
 |.error (k,n)=>e=.panicked (dN k (S.size-n))∧Aside (fun i=>i=P) w w'
 |.ok l=>e=.returned (.tuple #[])∧Prs w' P S l∧Aside (fun i=>i=P) w w'
theorem aV(a:Value)(k:Int)(w:World):Calls Tryz.prog 48 #[a,.bool true,.int .i64 k] w fun e w'=>e=.returned (.tuple #[])∧w'=w:=by
 go_enter Tryz.func48,Tryz.ntmps48
 go_wp2
 go_end0
 exact⟨rfl,rfl⟩
theorem aN(h:Prs w P S l)(k n:Nat)(hn:l.length=n):Calls Tryz.prog 48 #[.pointer (some ⟨P,0,none⟩),.bool false,.int .i64 (k:Nat)] w fun e w'=>e=.panicked (dN k (S.size-n))∧w'=w:=by
 subst hn
 have c1:w.cell? ⟨P,1,none⟩=some (.int .i64 ((S.size-l.length:Nat):Int)):=h.cell 1
 have HV:Hid (dN k (S.size-l.length)=[{ v:=.iface 88 (.agg #[.int .i64 k,.int .i64 ((S.size-l.length:Nat):Int)]),recovered:=false }]):=rfl
 obtain⟨a,ha⟩:∃a:Int,a=((S.size-l.length:Nat):Int):=⟨_,rfl⟩
 rw[<-ha] at c1 HV
 clear h ha
 go_enter Tryz.func48,Tryz.ntmps48
 go_wp2
 rw[HV.out]
 exact⟨rfl,rfl,rfl⟩
theorem dV(h:Prs w P S l)(c:UInt8):Calls Tryz.prog 79 #[.pointer (some ⟨P,0,none⟩),.int .u8 (c.toNat:Int)] w fun r w'=>r=.returned (.bool (decide (l.head?=some c)))∧∃n,w'=w.drewN n:=by
 have c0:w.cell? ⟨P,0,none⟩=some (.string S):=h.cell 0
 have c1:w.cell? ⟨P,1,none⟩=some (.int .i64 ((S.size-l.length:Nat):Int)):=h.cell 1
 have hsm:=h.small
 cases l with
 |nil=>
  obtain⟨a,ha⟩:∃a,a=S.size-([]:Tx.Bs).length:=⟨_,rfl⟩
  rw[<-ha] at c1
  have f1:¬(a:Int)<(S.size:Int):=by rw[ha];simp
  have f2:decide ((a:Int)<(S.size:Int))=false:=decide_eq_false f1
  have f3:decide (a<S.size)=false:=decide_eq_false (by omega)
  have f4:¬a<S.size:=by omega
  clear h ha
  go_enter Tryz.func79,Tryz.ntmps79
  go_wp2_with fail
  go_quiet (fail)
  go_wp2
  go_ret
  exact⟨rfl,_,rfl⟩
 |cons d r=>
  obtain⟨hlt,hd⟩:=h.head
  obtain⟨a,ha⟩:∃a,S.size-(d::r).length=a:=⟨_,rfl⟩
  have hd2:∃hlt:a<S.size,S[a]'hlt=d:=by subst ha;exact⟨hlt,hd⟩
  rw[ha] at c1
  clear hlt hd h ha
  obtain⟨hlt,hd⟩:=hd2
  have f1:(a:Int)<(S.size:Int):=by omega
  have HE:Hid (decide ((d::r).head?=some c)=((d.toNat:Int)==(c.toNat:Int))):=by
   show _=_
   rw[List.head?_cons,Bool.eq_iff_iff,decide_eq_true_iff,beq_iff_eq]
   exact⟨fun h=>by injection h with h;rw[h],fun h=>by rw[UInt8.toNat_inj.1 (by omega:d.toNat=c.toNat)]⟩
  go_enter Tryz.func79,Tryz.ntmps79
  go_wp2_with fail
  go_quiet (fail)
  go_wp2
  go_ret
  rw[HE.out]
  exact⟨rfl,_,rfl⟩
theorem cO(h:Prs w P S l)(M:ByteArray)(hM:M.size<=10):Calls Tryz.prog 80 #[.pointer (some ⟨P,0,none⟩),.string M] w (PsU w P S (Tx.must M.data.toList l)):=by
 have HR:=tQ h
 have hml:M.data.toList.length=M.size:=by show M.data.toList.length=M.data.size;simp
 obtain⟨m,hm⟩:∃m,m=M.data.toList:=⟨_,rfl⟩
 rw[<-hm] at hml ⊢
 have HMm:=tQ hm
 obtain⟨X,hX⟩:∃X,X=Tx.must m l:=⟨_,rfl⟩
 rw[<-hX]
 have HX:=tQ hX
 clear h hm hX
 go_enter Tryz.func80,Tryz.ntmps80
 go_wp2_with fail
 go_loopw [7] (fun v7 wr=>∃(i:Nat) (l':Tx.Bs),i<=M.size∧v7=.int .i64 (i:Nat)∧Hid (Prs wr P S l')∧Hid (Tx.must (m.drop i) l'=X)∧Hid (Aside (fun k=>k=P) w wr)) (fun v7 _=>M.size-(intOf v7).toNat)
 case atStart=>exact⟨0,l,Nat.zero_le _,rfl,HR,(by show Tx.must (m.drop 0) l=X;rw[List.drop_zero];exact HX.out.symm),Aside.refl _ _⟩
 case round=>
  obtain⟨i,l',hi,rfl,HD,HM,HA⟩:=hrel
  have hiI:(i:Int)<=10:=by omega
  by_cases hlt:i<M.size
  case neg=>
   have f1:¬(i:Int)<(M.size:Int):=by omega
   have HXe:Hid (X=.ok l'):=by
    show X=_
    rw[<-HM.out,List.drop_eq_nil_of_le (by omega)]
    rfl
   go_wp2
   go_end0
   rw[HXe.out]
   exact⟨rfl,HD.out,HA.out⟩
  have f1:(i:Int)<(M.size:Int):=by omega
  have hdm:m.drop i=m[i]'(by omega)::m.drop (i+1):=List.drop_eq_getElem_cons (by omega)
  have hmi:M[i]'hlt=m[i]'(by omega):=by
   simp only[HMm.out]
   rfl
  obtain⟨x,hx⟩:∃x,x=m[i]'(by omega):=⟨_,rfl⟩
  rw[<-hx] at hdm hmi
  rw[hdm] at HM
  clear hx hdm
  have HSt:=tQ (dV HD.out x)
  by_cases hh:l'.head?=some x
  ·obtain⟨r,rfl⟩:∃r,l'=x::r:=by
    cases l' with
    |nil=>cases hh
    |cons d r=>injection hh with hh;exact⟨r,by rw[hh]⟩
   rw[decide_eq_true hh] at HSt
   have HM2:Hid (Tx.must (m.drop (i+1)) r=X):=by
    show _=_
    rw[<-HM.out]
    show _=if x=x then _ else _
    rw[if_pos rfl]
   have hsm:=HD.out.small
   have hle:=HD.out.le
   obtain⟨a,ha⟩:∃a,S.size-(x::r).length=a:=⟨_,rfl⟩
   have hc1:∀n,(wr.drewN n).cell? ⟨P,1,none⟩=some (.int .i64 (a:Int)):=fun n=>by rw[<-ha];exact(HD.out.drewN n).cell 1
   have ht1:∀n,(wr.drewN n).frozen? ⟨P,1,none⟩=false:=fun n=>(HD.out.drewN n).thawed 1
   have haS:(a:Int)<140737488351232:=by simp only[List.length_cons] at ha hle;omega
   have HN:Hid (∀k,Prs ((wr.drewN k).setCell ⟨P,1,none⟩ (.int .i64 ((a:Int)+1))) P S r∧Aside (fun k=>k=P) w ((wr.drewN k).setCell ⟨P,1,none⟩ (.int .i64 ((a:Int)+1)))):=fun k=>
    ⟨Prs.skip (a:=[x]) (HD.out.drewN k) (by simp only[List.length_cons] at ha hle;omega),(HA.out.trans (ax _ wr k) (fun _ _ h=>h)).trans (bu _ _ _) (fun _ _ h=>h)⟩
   clear HD HM ha HA hh hle hsm
   go_wp2_with fail
   refine HSt.out.mono ?_
   rintro e w1 ⟨rfl,n,hw1⟩
   have d1:=hc1 n
   have d2:=ht1 n
   have HNn:=tQ (HN.out n)
   rw[<-hw1] at d1 d2 HNn
   clear hw1 hc1 ht1 HN HSt
   go_wp2_with fail
   refine(aV _ 5 _).mono ?_
   rintro e w2 ⟨rfl,hw2⟩
   rw[hw2]
   clear hw2 w2
   go_wp2
   go_roundw
   case rel=>exact⟨i+1,r,by omega,by go_num,HNn.out.1,HM2,HNn.out.2⟩
   case measure=>simp[intOf];omega
  ·rw[decide_eq_false hh] at HSt
   have HXe:Hid (X=.error (5,l'.length)):=by
    show X=_
    rw[<-HM.out]
    cases l' with
    |nil=>rfl
    |cons d r=>
     show(if d=x then _ else _)=_
     rw[if_neg (fun hc=>hh (by rw[hc];rfl))]
     rfl
   have HF:Hid (∀n,Calls Tryz.prog 48 #[.pointer (some ⟨P,0,none⟩),.bool false,.int .i64 5] (wr.drewN n) fun e w'=>e=.panicked (dN 5 (S.size-l'.length))∧Aside (fun k=>k=P) w w'):=fun n=>
    (aN (HD.out.drewN n) 5 l'.length rfl).mono fun e w' ⟨q1,q2⟩=>⟨q1,by rw[q2];exact HA.out.trans (ax _ wr n) (fun _ _ h=>h)⟩
   clear HD HM HA hh
   go_wp2_with fail
   refine HSt.out.mono ?_
   rintro e w1 ⟨rfl,n,hw1⟩
   have HFn:=tQ (HF.out n)
   rw[<-hw1] at HFn
   clear hw1 HF HSt
   go_wp2_with fail
   refine HFn.out.mono ?_
   rintro e w2 ⟨rfl,ha2⟩
   have HA2:=tQ ha2
   clear ha2 HFn
   go_wp2
   rw[HXe.out]
   exact⟨rfl,rfl,HA2.out⟩
end
end
section
open Go.RowKit
def fT(r:Int):Bool:=decide (97<=r∧r<=122)
def eT(r:Int):Bool:=decide (48<=r∧r<=57)
def nu(r:Int):Bool:=fT r||eT r||(r==95)
def jB(r:Int):Bool:=eT r||(r==45)
def nv(r:Int):Bool:=fT r||jB r
def ez(r:Int):Bool:=decide (32<=r∧r<=126)
structure fc(q:Int->Bool)(p:UInt8->Bool):Prop where
 low:∀c:UInt8,c.toNat<128->q (c.toNat:Int)=p c
 hig:∀c:UInt8,128<=c.toNat->p c=false
 out:∀r:Int,128<=r->q r=false
theorem mQ{c d:UInt8}:((c.toNat:Int)==(d.toNat:Int))=decide (c=d):=by
 by_cases h:c=d
 ·rw[h];simp
 ·rw[decide_eq_false h,beq_eq_false_iff_ne]
  intro hc
  exact h (UInt8.toNat_inj.1 (by omega))
theorem sy{c d:UInt8}(h:c.toNat≠d.toNat):decide (c=d)=false:=decide_eq_false (fun hc=>h (by rw[hc]))
theorem bC:fc fT Sch.low:=by
 refine⟨fun c _=>?_,fun c h=>?_,fun r h=>?_⟩
 ·unfold fT Sch.low;exact decide_eq_decide.2 (by omega)
 ·unfold Sch.low;exact decide_eq_false (by omega)
 ·unfold fT;exact decide_eq_false (by omega)
theorem cT:fc eT Tx.dig:=by
 refine⟨fun c _=>?_,fun c h=>?_,fun r h=>?_⟩
 ·unfold eT Tx.dig;exact decide_eq_decide.2 (by omega)
 ·unfold Tx.dig;exact decide_eq_false (by omega)
 ·unfold eT;exact decide_eq_false (by omega)
theorem dX:fc jB Tx.iset:=by
 refine⟨fun c h=>?_,fun c h=>?_,fun r h=>?_⟩
 ·unfold jB Tx.iset;rw[cT.low c h,<-mQ (d:=45)];rfl
 ·unfold Tx.iset;rw[cT.hig c h,sy (d:=45) (by show c.toNat≠45;omega)];rfl
 ·unfold jB;rw[cT.out r h,beq_eq_false_iff_ne.2 (by omega)];rfl
theorem nh:fc nv Tx.fset:=by
 refine⟨fun c h=>?_,fun c h=>?_,fun r h=>?_⟩
 ·unfold nv Tx.fset;rw[bC.low c h,dX.low c h];unfold Tx.iset;rw[Bool.or_assoc]
 ·unfold Tx.fset;rw[bC.hig c h,cT.hig c h,sy (d:=45) (by show c.toNat≠45;omega)];rfl
 ·unfold nv;rw[bC.out r h,dX.out r h];rfl
theorem ng:fc nu Sch.ch:=by
 refine⟨fun c h=>?_,fun c h=>?_,fun r h=>?_⟩
 ·unfold nu Sch.ch
  rw[<-bC.low c h]
  have e1:eT (c.toNat:Int)=decide (48<=c.toNat∧c.toNat<=57):=by unfold eT;exact decide_eq_decide.2 (by omega)
  have e2:((c.toNat:Int)==95)=decide (c.toNat=95):=by rw[Bool.eq_iff_iff];simp;omega
  rw[e1,e2]
 ·unfold Sch.ch
  have e1:decide (48<=c.toNat∧c.toNat<=57)=false:=decide_eq_false (by omega)
  have e2:decide (c.toNat=95)=false:=decide_eq_false (by omega)
  rw[bC.hig c h,e1,e2]
  rfl
 ·unfold nu;rw[bC.out r h,cT.out r h,beq_eq_false_iff_ne.2 (by omega)];rfl
def plq(q c:UInt8):Bool:=decide (32<=c.toNat∧c.toNat<=126)&&!decide (c=92)&&!decide (c=q)
def oX(q:UInt8)(r:Int):Bool:=ez r&&!(r==92)&&!(r==(q.toNat:Int))
theorem nf(q:UInt8):fc (oX q) (plq q):=by
 refine⟨fun c h=>?_,fun c h=>?_,fun r h=>?_⟩
 ·unfold oX plq
  have e1:ez (c.toNat:Int)=decide (32<=c.toNat∧c.toNat<=126):=by unfold ez;exact decide_eq_decide.2 (by omega)
  have e2:((c.toNat:Int)==92)=decide (c=92):=mQ (d:=92)
  rw[e1,e2,mQ]
 ·unfold plq
  rw[decide_eq_false (by omega)]
  rfl
 ·unfold oX ez
  rw[decide_eq_false (by omega)]
  rfl
theorem pU{c:UInt8}{r:L8}(h:128<=c.toNat):128<=(dec (c::r)).1:=by
 have may_ge:∀a b,U8.may a b=true->a<=b:=fun a b hm=>by
  unfold U8.may at hm
  simp only[Bool.and_eq_true,decide_eq_true_eq] at hm
  exact hm.1.1
 simp only[dec]
 rw[if_neg (by omega)]
 repeat' split
 all_goals dsimp only
 all_goals first
  |omega
  | (rename_i hc;have:=hc.2;omega)
  | (rename_i hc;have:=may_ge _ _ hc.2.2;omega)
  | (rename_i hc;have:=may_ge _ _ hc.2.2.2;omega)
theorem ec(r:Int)(w:World):Calls Tryz.prog 98 #[.int .i32 r] w fun e w'=>e=.returned (.bool (fT r))∧w'=w:=by
 obtain⟨b,hb⟩:∃b,b=fT r:=⟨_,rfl⟩
 rw[<-hb]
 unfold fT at hb
 by_cases h1:(97:Int)<=r
 ·by_cases h2:r<=122
  ·have HB:Hid (b=true):=by show _=_;rw[hb];exact decide_eq_true ⟨h1,h2⟩
   clear hb
   go_enter Tryz.func98,Tryz.ntmps98
   go_wp2
   go_ret
   exact⟨by rw[HB.out];rfl,rfl⟩
  ·have HB:Hid (b=false):=by show _=_;rw[hb];exact decide_eq_false (by omega)
   clear hb
   go_enter Tryz.func98,Tryz.ntmps98
   go_wp2
   go_ret
   exact⟨by rw[HB.out];rfl,rfl⟩
 ·have HB:Hid (b=false):=by show _=_;rw[hb];exact decide_eq_false (by omega)
  clear hb
  go_enter Tryz.func98,Tryz.ntmps98
  go_wp2
  go_ret
  exact⟨by rw[HB.out];rfl,rfl⟩
theorem kS(r:Int)(w:World):Calls Tryz.prog 124 #[.int .i32 r] w fun e w'=>e=.returned (.bool (eT r))∧w'=w:=by
 obtain⟨b,hb⟩:∃b,b=eT r:=⟨_,rfl⟩
 rw[<-hb]
 unfold eT at hb
 by_cases h1:(48:Int)<=r
 ·by_cases h2:r<=57
  ·have HB:Hid (b=true):=by show _=_;rw[hb];exact decide_eq_true ⟨h1,h2⟩
   clear hb
   go_enter Tryz.func124,Tryz.ntmps124
   go_wp2
   go_ret
   exact⟨by rw[HB.out];rfl,rfl⟩
  ·have HB:Hid (b=false):=by show _=_;rw[hb];exact decide_eq_false (by omega)
   clear hb
   go_enter Tryz.func124,Tryz.ntmps124
   go_wp2
   go_ret
   exact⟨by rw[HB.out];rfl,rfl⟩
 ·have HB:Hid (b=false):=by show _=_;rw[hb];exact decide_eq_false (by omega)
  clear hb
  go_enter Tryz.func124,Tryz.ntmps124
  go_wp2
  go_ret
  exact⟨by rw[HB.out];rfl,rfl⟩
theorem gO(r:Int)(w:World):Calls Tryz.prog 121 #[.int .i32 r] w fun e w'=>e=.returned (.bool (ez r))∧w'=w:=by
 obtain⟨b,hb⟩:∃b,b=ez r:=⟨_,rfl⟩
 rw[<-hb]
 unfold ez at hb
 by_cases h1:(32:Int)<=r
 ·by_cases h2:r<=126
  ·have HB:Hid (b=true):=by show _=_;rw[hb];exact decide_eq_true ⟨h1,h2⟩
   clear hb
   go_enter Tryz.func121,Tryz.ntmps121
   go_wp2
   go_ret
   exact⟨by rw[HB.out];rfl,rfl⟩
  ·have HB:Hid (b=false):=by show _=_;rw[hb];exact decide_eq_false (by omega)
   clear hb
   go_enter Tryz.func121,Tryz.ntmps121
   go_wp2
   go_ret
   exact⟨by rw[HB.out];rfl,rfl⟩
 ·have HB:Hid (b=false):=by show _=_;rw[hb];exact decide_eq_false (by omega)
  clear hb
  go_enter Tryz.func121,Tryz.ntmps121
  go_wp2
  go_ret
  exact⟨by rw[HB.out];rfl,rfl⟩
theorem lY(r:Int)(w:World):Calls Tryz.prog 100 #[.int .i32 r] w fun e w'=>e=.returned (.bool (jB r))∧w'=w:=by
 have HD:=tQ (kS r w)
 have HR:Hid (jB r=(eT r||(r==45))):=rfl
 generalize jB r=b at *
 cases hd:eT r with
 |true=>
  rw[hd] at HD HR
  clear hd
  go_enter Tryz.func100,Tryz.ntmps100
  go_wp2_with fail
  refine HD.out.mono ?_
  rintro e w' ⟨rfl,hw'⟩
  subst hw'
  go_wp2
  go_ret
  exact⟨by rw[HR.out];rfl,rfl⟩
 |false=>
  rw[hd] at HD HR
  clear hd
  go_enter Tryz.func100,Tryz.ntmps100
  go_wp2_with fail
  refine HD.out.mono ?_
  rintro e w' ⟨rfl,hw'⟩
  subst hw'
  go_wp2
  go_ret
  exact⟨by rw[HR.out];rfl,rfl⟩
theorem pI(r:Int)(w:World):Calls Tryz.prog 140 #[.int .i32 r] w fun e w'=>e=.returned (.bool (nv r))∧w'=w:=by
 have HL:=tQ (ec r w)
 have HD:=tQ (lY r w)
 have HR:Hid (nv r=(fT r||jB r)):=rfl
 generalize nv r=b at *
 generalize jB r=c at *
 cases hd:fT r with
 |true=>
  rw[hd] at HL HR
  clear hd
  go_enter Tryz.func140,Tryz.ntmps140
  go_wp2_with fail
  refine HL.out.mono ?_
  rintro e w' ⟨rfl,hw'⟩
  subst hw'
  go_wp2
  go_ret
  exact⟨by rw[HR.out];rfl,rfl⟩
 |false=>
  rw[hd] at HL HR
  clear hd
  go_enter Tryz.func140,Tryz.ntmps140
  go_wp2_with fail
  refine HL.out.mono ?_
  rintro e w' ⟨rfl,hw'⟩
  subst hw'
  go_wp2_with fail
  refine HD.out.mono ?_
  rintro e w1 ⟨rfl,hw1⟩
  subst hw1
  go_wp2
  go_ret
  exact⟨by rw[HR.out];rfl,rfl⟩
theorem qV(r:Int)(w:World):Calls Tryz.prog 82 #[.int .i32 r] w fun e w'=>e=.returned (.bool (nu r))∧w'=w:=by
 have HL:=tQ (ec r w)
 have HD:=tQ (kS r w)
 have HR:Hid (nu r=(fT r||eT r||(r==95))):=rfl
 generalize nu r=b at *
 cases hd:fT r with
 |true=>
  rw[hd] at HL HR
  clear hd
  go_enter Tryz.func82,Tryz.ntmps82
  go_wp2_with fail
  refine HL.out.mono ?_
  rintro e w' ⟨rfl,hw'⟩
  subst hw'
  go_wp2
  go_ret
  exact⟨by rw[HR.out];rfl,rfl⟩
 |false=>
  rw[hd] at HL HR
  cases hc:eT r with
  |true=>
   rw[hc] at HD HR
   clear hd hc
   go_enter Tryz.func82,Tryz.ntmps82
   go_wp2_with fail
   refine HL.out.mono ?_
   rintro e w' ⟨rfl,hw'⟩
   subst hw'
   go_wp2_with fail
   refine HD.out.mono ?_
   rintro e w1 ⟨rfl,hw1⟩
   subst hw1
   go_wp2
   go_ret
   exact⟨by rw[HR.out];rfl,rfl⟩
  |false=>
   rw[hc] at HD HR
   clear hd hc
   go_enter Tryz.func82,Tryz.ntmps82
   go_wp2_with fail
   refine HL.out.mono ?_
   rintro e w' ⟨rfl,hw'⟩
   subst hw'
   go_wp2_with fail
   refine HD.out.mono ?_
   rintro e w1 ⟨rfl,hw1⟩
   subst hw1
   go_wp2
   go_ret
   exact⟨by rw[HR.out];rfl,rfl⟩
end
end Go.Proofs.YtllbniljgcgbeaaGreatDoor

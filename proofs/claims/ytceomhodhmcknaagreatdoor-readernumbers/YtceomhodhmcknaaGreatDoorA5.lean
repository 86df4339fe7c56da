import Derived.Test.YtceomhodhmcknaaGreatDoorA4
set_option maxRecDepth 100000
set_option maxHeartbeats 8000000
namespace Go.Proofs.YtceomhodhmcknaaGreatDoor
variable{B M a g r:Nat}{w w0:World}{b:L8}
section
open Go.RowKit
section
variable {w0 w w':World} {B Bw g r a M n n0 j:Nat} {v un lv:Value} {b:L8} {G:Nat->Prop} {X:Sc.Pos} {tr:List V->List V} {ts:List Tl}
def NfR(w0:World)(B Bw g r a M:Nat)(v un lv:Value)(b:L8)(n:Nat)(G:Nat->Prop)(j:Nat)(X:Sc.Pos)(rr:Except Nat (Fr×Nat))(w':World):Prop:=match rr with
 |.error er=>Sc.step b X=.error er∧er≠0∧RdE w0 w' B g r a M v un lv b (n+2202) 0
 |.ok (f,m)=>Sc.at_ b X.at_=.ok (f,m)∧Sc.may X.wk f X.at_=true∧f.wf∧X.at_<m∧m<=b.length∧Rdg w0 w' B Bw g r a M v un lv b (n+2202) G (j+1) (Rd.stepped b X f m)
theorem NfR.on{rr:Except Nat (Fr×Nat)}(h:NfR w0 B Bw g r a M v un lv b n G j X rr w)(hb:Below w.1.size w w'):NfR w0 B Bw g r a M v un lv b n G j X rr w':=by
 cases rr with
 |error er=>exact⟨h.1,h.2.1,h.2.2.on hb⟩
 |ok y=>exact⟨h.1,h.2.1,h.2.2.1,h.2.2.2.1,h.2.2.2.2.1,h.2.2.2.2.2.on hb⟩
theorem NfR.beside{x:Nat}{rr:Except Nat (Fr×Nat)}(h:NfR w0 B Bw g r a M v un lv b n G j X rr w)(hc:RdC w0 B g r a M v b)(ha:Aside (fun i=>i=x) w w')(hx:w0.1.size<=x)(hG:G x):NfR w0 B Bw g r a M v un lv b n G j X rr w':=by
 cases rr with
 |error er=>exact⟨h.1,h.2.1,h.2.2.beside hc ha hx⟩
 |ok y=>exact⟨h.1,h.2.1,h.2.2.1,h.2.2.2.1,h.2.2.2.2.1,h.2.2.2.2.2.beside hc ha hx hG⟩
theorem NfR.less{G':Nat->Prop}{rr:Except Nat (Fr×Nat)}(h:NfR w0 B Bw g r a M v un lv b n G j X rr w)(hi:∀k,G' k->G k)(hin:∀i,i=g∨v.ownBlock=some i∨i=r->G' i):NfR w0 B Bw g r a M v un lv b n G' j X rr w:=by
 cases rr with
 |error er=>exact h
 |ok y=>exact⟨h.1,h.2.1,h.2.2.1,h.2.2.2.1,h.2.2.2.2.1,h.2.2.2.2.2.less hi hin⟩
theorem NfA.any{e:Ending}(h:NfA w0 w B Bw g r a M v un lv b n G j X e w'):∃(rr:Except Nat (Fr×Nat)) (k0 k1 k3 k4 k5 k7 k8 k9:Int) (sp bp ep:OA) (sn sc bn bc en ec m er:Nat),e=.returned (.tuple #[.agg (av k0 k1 sp sn sc k3 k4 k5 bp bn bc k7 k8 k9 ep en ec),.int .i64 (er:Nat)])∧AtS rr w.1.size w' (av k0 k1 sp sn sc k3 k4 k5 bp bn bc k7 k8 k9 ep en ec) m er∧NfR w0 B Bw g r a M v un lv b n G j X rr w'∧Aside (rF g r G) w w':=by
 obtain⟨ha,⟨er,h1,h2,h3,h4⟩ | ⟨f,m,u,h1,h2,h3,h4,h5,h6,h7,h8⟩⟩:=h
 ·exact⟨.error er,0,0,0,0,0,0,0,0,none,none,none,0,0,0,0,0,0,0,er,h3,⟨rfl,rfl⟩,⟨h1,h2,h4⟩,ha⟩
 ·obtain⟨sp,sc,bp,bc,ep,ec,hu,-⟩:=h4.out
  subst hu
  exact⟨.ok (f,m),_,_,_,_,_,_,_,_,_,_,_,_,_,_,_,_,_,m,0,h3,⟨rfl,rfl,h4⟩,⟨h1,h2,h5,h6,h7,h8⟩,ha⟩
def NdA(w0 w:World)(B Bw g r a M n0:Nat)(v un lv:Value)(b:L8)(tr:List V->List V)(ts:List Tl)(G:Nat->Prop)(p:Nat)(e:Ending)(w':World):Prop :=
 ∃(j:Nat) (X:Sc.Pos) (rr:Except Nat (Fr×Nat)) (k0 k1 k3 k4 k5 k7 k8 k9:Int) (sp bp ep:OA) (sn sc bn bc en ec m er:Nat),e=.returned (.tuple #[.agg (av k0 k1 sp sn sc k3 k4 k5 bp bn bc k7 k8 k9 ep en ec),.int .i64 (er:Nat)])∧AtS rr w.1.size w' (av k0 k1 sp sn sc k3 k4 k5 bp bn bc k7 k8 k9 ep en ec) m er∧NfR w0 B Bw g r a M v un lv b (n0+2202*j) G j X rr w'∧Aside (rF g r G) w w'∧Rd.Inv tr b j X ts∧p<=X.at_∧∀f m,rr=.ok (f,m)->f.kind=2
def rAt(r:Nat)(W:World):Nat:=(intOf ((W.cell? ⟨r,1,none⟩).getD (.bool false))).toNat
theorem pB(hc:RdC w0 B g r a M v b)(h:Rdg w0 w B Bw g r a M v un lv b (n0+2202*j) G j X)(hI:Rd.Inv tr b j X ts)(hn:n0<=10000000000)(hBw:Bw<=w0.1.size):
  Calls Tryz.prog 50 #[.pointer (some ⟨r,0,none⟩)] w (NdA w0 w B Bw g r a M n0 v un lv b tr ts G X.at_):=by
 obtain⟨W1,hW1⟩:∃W1,W1=w.alloc (.cells #[.int .i64 0,.int .i64 0,.slice none 0 0,.int .i64 0,.int .i64 0,.int .i64 0,.slice none 0 0,.int .i64 0,.int .i64 0,.int .i64 0,.slice none 0 0] 61):=⟨_,rfl⟩
 have hb1:Below w.1.size w W1:=by rw[hW1];exact xY
 have hs1:W1.1.size=w.1.size+1:=by rw[hW1];simp
 have HP:Hid (W1.1[w.1.size]?=some (.cells cm 61 (0,0))):=by rw[hW1];exact ap w _
 have HS:Hid (∃j Y,Rdg w0 W1 B Bw g r a M v un lv b (n0+2202*j) (fun k=>G k∨k=w.1.size) j Y∧Rd.Inv tr b j Y ts∧Aside (rF g r (fun k=>G k∨k=w.1.size)) W1 W1∧X.at_<=Y.at_):=⟨j,X,h.grow hb1 (fun k hk=>hk.imp id (fun h=>by omega)) (fun k hk=>.inl hk),hI,Aside.refl _ _,xX⟩
 have HC:=xQ hc
 have HW1:=xQ hW1
 have HB1:=xQ hb1
 have HIn:=xQ h.inG
 have HZ:=xQ h.asd.size
 have hlen:=hc.len
 clear hc h hI hW1 hb1
 go_enter Tryz.func50,Tryz.ntmps50
 go_wp2_with fail
 rw[<-HW1.out]
 clear HW1
 go_loopw [] (fun wr=>Hid (∃j Y,Rdg w0 wr B Bw g r a M v un lv b (n0+2202*j) (fun k=>G k∨k=w.1.size) j Y∧Rd.Inv tr b j Y ts∧Aside (rF g r (fun k=>G k∨k=w.1.size)) W1 wr∧X.at_<=Y.at_)) (fun wr=>b.length-rAt r wr)
 case atStart=>exact HS
 case round=>
  have HL:=hrel
  clear hrel
  clear HS
  obtain⟨j,Y,hR,hI,hA,hX⟩:=HL.out
  obtain⟨-,hat,h8,-⟩:=Sc.goes_good hI.goes
  have HNF:=xQ (mY HC.out hR (by omega) (by omega) hBw)
  have HI:=xQ hI
  have HA:=xQ hA
  have HX:=xQ hX
  have HAt:Hid (rAt r wr=Y.at_):=by
   show _=_
   unfold rAt
   rw[show wr.cell? ⟨r,1,none⟩=some (.int .i64 (Y.at_:Nat)) from aa hR.blk 1]
   simp[intOf]
  clear HL hR hI hA hX
  go_wp2_with fail
  refine HNF.out.mono ?_
  rintro e w2 hans
  obtain⟨rr,k0,k1,k3,k4,k5,k7,k8,k9,sp,bp,ep,sn,sc,bn,bc,en,ec,m,er,rfl,hsay,hnf,has⟩:=hans.any
  obtain⟨w3,hw3⟩:∃w3,w3=w2.alloc (.cells #[.int .i64 k0,.int .i64 k1,.slice sp sn sc,.int .i64 k3,.int .i64 k4,.int .i64 k5,.slice bp bn bc,.int .i64 k7,.int .i64 k8,.int .i64 k9,.slice ep en ec] 61):=⟨_,rfl⟩
  have hG:=oG hsay rfl has
  rw[<-hw3] at hG
  have hb3:Below w2.1.size w2 w3:=by rw[hw3];exact xY
  have hz1:=HZ.out
  have hA3:Aside (rF g r (fun k=>G k∨k=w.1.size)) W1 w3:=HA.out.trans hG.asd (fun _ _ h=>h)
  have hrw:=(HC.out.far r (.inr (.inl rfl))).2
  have hgw:=(HC.out.far g (.inl rfl)).2
  have hr3:=(hA3.block _ (by omega) (fun hc=>by rcases hc with hc | hc | hc;omega;omega;exact hc (.inr rfl))).trans HP.out
  unfold cm at hr3
  have hr2:∀o,(w2.alloc o).1[w.1.size]?=some (.cells #[.int .i64 0,.int .i64 0,.slice none 0 0,.int .i64 0,.int .i64 0,.int .i64 0,.slice none 0 0,.int .i64 0,.int .i64 0,.int .i64 0,.slice none 0 0] 61 (0,0)):=fun o=>by
   have h:w.1.size<w2.1.size:=by have:=HA.out.size;have:=has.size;omega
   rw[az _ _ h,<-hb3.block _ h]
   exact hr3
  have d0:∀o,(w2.alloc o).cell? ⟨w.1.size,0,none⟩=some (.int .i64 0):=fun o=>aa (hr2 o) 0
  have d1:∀o,(w2.alloc o).cell? ⟨w.1.size,1,none⟩=some (.int .i64 0):=fun o=>aa (hr2 o) 1
  have d2:∀o,(w2.alloc o).cell? ⟨w.1.size,2,none⟩=some (.slice none 0 0):=fun o=>aa (hr2 o) 2
  have d3:∀o,(w2.alloc o).cell? ⟨w.1.size,3,none⟩=some (.int .i64 0):=fun o=>aa (hr2 o) 3
  have d4:∀o,(w2.alloc o).cell? ⟨w.1.size,4,none⟩=some (.int .i64 0):=fun o=>aa (hr2 o) 4
  have d5:∀o,(w2.alloc o).cell? ⟨w.1.size,5,none⟩=some (.int .i64 0):=fun o=>aa (hr2 o) 5
  have d6:∀o,(w2.alloc o).cell? ⟨w.1.size,6,none⟩=some (.slice none 0 0):=fun o=>aa (hr2 o) 6
  have d7:∀o,(w2.alloc o).cell? ⟨w.1.size,7,none⟩=some (.int .i64 0):=fun o=>aa (hr2 o) 7
  have d8:∀o,(w2.alloc o).cell? ⟨w.1.size,8,none⟩=some (.int .i64 0):=fun o=>aa (hr2 o) 8
  have d9:∀o,(w2.alloc o).cell? ⟨w.1.size,9,none⟩=some (.int .i64 0):=fun o=>aa (hr2 o) 9
  have d10:∀o,(w2.alloc o).cell? ⟨w.1.size,10,none⟩=some (.slice none 0 0):=fun o=>aa (hr2 o) 10
  have df:∀o i,(w2.alloc o).frozen? ⟨w.1.size,i,none⟩=false:=fun o i=>ac (hr2 o) i
  have hw2s:=has.size
  have n1:¬w2.1.size=w.1.size:=by have:=hA3.size;have:=HA.out.size;omega
  have n2:¬w.1.size=w2.1.size:=fun h=>n1 h.symm
  have HW3:=xQ hw3
  have HG:=xQ hG
  have HNf:=xQ (hnf.on hb3)
  have HA3:=xQ hA3
  have HR3:=xQ hr3
  -- the answer
  have HEnd:Hid ((∀f m,rr=.ok (f,m)->f.kind=2)->NdA w0 w B Bw g r a M n0 v un lv b tr ts G X.at_ (.returned (.tuple #[.agg (av k0 k1 sp sn sc k3 k4 k5 bp bn bc k7 k8 k9 ep en ec),.int .i64 (er:Nat)])) (de w3 w.1.size (.int .i64 k0) (.int .i64 k1) (.slice sp sn sc) (.int .i64 k3) (.int .i64 k4) (.int .i64 k5) (.slice bp bn bc) (.int .i64 k7) (.int .i64 k8) (.int .i64 k9) (.slice ep en ec))):=fun hk2=>by
   have hs:=aO w3 w.1.size (.int .i64 k0) (.int .i64 k1) (.slice sp sn sc) (.int .i64 k3) (.int .i64 k4) (.int .i64 k5) (.slice bp bn bc) (.int .i64 k7) (.int .i64 k8) (.int .i64 k9) (.slice ep en ec)
   have h5:=(hnf.on hb3).beside HC.out hs hz1 (.inr rfl)
   refine⟨j,Y,rr,k0,k1,k3,k4,k5,k7,k8,k9,sp,bp,ep,sn,sc,bn,bc,en,ec,m,er,rfl,?_,h5.less (fun k hk=>.inl hk) HIn.out,?_,HI.out,HX.out,hk2⟩
   ·have h6:=hG.says
    cases rr with
    |error k=>exact h6
    |ok y=>exact⟨h6.1,h6.2.1,(h6.2.2.beside14 hs (fun k hk=>by have:=HA.out.size;omega)).low14 (by have:=HA.out.size;omega)⟩
   ·exact((ag HB1.out _).trans (gW HA3.out (fun k _ hk=>.inl hk)) (fun _ _ h=>h)).trans hs (fun i hi he=>by omega)
  clear hans hsay hnf has hw3 hG hb3 hz1 hA3 hr3 hr2 HNF
  unfold av
  cases rr with
  |error k=>
   obtain⟨rfl,-⟩:er=k∧_:=HG.out.says
   have hne:er≠0:=HNf.out.2.1
   have g1:((er:Int) != 0)=true:=bC (by omega)
   clear hne
   go_wp2
   rw[<-HW3.out]
   refine bodyPost_ret (aB rfl _ _ w.1.size _ _ _ _ rfl (bm HR3.out _ _ _ _ _ _ _ _ _ _ _) Tryz.underlying61 rfl (by kernel_rfl)) rfl ?_
   exact HEnd.out (fun _ _ h=>by cases h)
  |ok y=>
   obtain⟨f,m'⟩:=y
   obtain⟨rfl,rfl,hfo⟩:er=0∧m=m'∧_:=HG.out.says
   have hk0:k0=f.kind:=by
    obtain⟨sp',sc',bp',bc',ep',ec',hu,-⟩:=hfo.out
    unfold av at hu
    injection hu with hu
    injection hu with hu _
    injection hu with _ hu
   obtain⟨q1,q2,q3,q4,q5,q6⟩:Sc.at_ b Y.at_=.ok (f,m)∧Sc.may Y.wk f Y.at_=true∧f.wf∧Y.at_<m∧m<=b.length∧Rdg w0 w3 B Bw g r a M v un lv b (n0+2202*j+2202) (fun k=>G k∨k=w.1.size) (j+1) (Rd.stepped b Y f m):=HNf.out
   have HQ:=xQ (And.intro q1 (And.intro q2 q6))
   have HK0:=xQ hk0
   clear hfo q1 q2 q3 q6 hk0
   by_cases hk:k0=2
   ·subst hk
    clear q4 q5
    go_wp2
    rw[<-HW3.out]
    refine bodyPost_ret (aB rfl _ _ w.1.size _ _ _ _ rfl (bm HR3.out _ _ _ _ _ _ _ _ _ _ _) Tryz.underlying61 rfl (by kernel_rfl)) rfl ?_
    exact HEnd.out (fun f' m' h=>by injection h with h;injection h with h _;rw[<-h,<-HK0.out])
   ·have g1:(k0==2)=false:=bv hk
    have HN:Hid (∃j Y,Rdg w0 w3 B Bw g r a M v un lv b (n0+2202*j) (fun k=>G k∨k=w.1.size) j Y∧Rd.Inv tr b j Y ts∧Aside (rF g r (fun k=>G k∨k=w.1.size)) W1 w3∧X.at_<=Y.at_):=⟨j+1,Rd.stepped b Y f m,HQ.out.2.2,HI.out.other HQ.out.1 HQ.out.2.1 (by rw[<-HK0.out];exact hk),HA3.out,Nat.le_trans HX.out (Nat.le_of_lt q4)⟩
    have HAt3:Hid (rAt r w3=m):=by
     show _=_
     unfold rAt
     rw[show w3.cell? ⟨r,1,none⟩=some (.int .i64 (m:Nat)) from aa HQ.out.2.2.blk 1]
     simp[intOf]
    clear HEnd
    go_wp2
    go_roundw
    case rel=>rw[<-HW3.out];exact HN
    case measure=>rw[<-HW3.out,HAt3.out,HAt.out];omega
end
end
section
open Go.RowKit Go.Shelf
attribute [local go_sem] af Oper.semAt_some
def gu(tr:List V->List V)(w0:World)(g r a M:Nat)(un:Value)(b:L8):Prop:=∀(W:World) (p:Nat) (lv:Value) (er j n:Nat) (X:Sc.Pos) (f:Fr) (ys:List (List V)) (y:List V) (sp q:OA) (sc d:Nat),
 Aside (gS g r a M) w0 W->W.1[r]?=some (.cells (cQ g p a un lv er) 73 (0,0))->Sc.goes b j=some X->Sc.at_ b X.at_=.ok (f,n)->f.kind=2->Bt.unpack (Sc.schAt X.wk f.number) f.block f.rows=.ok ys->y∈ys->dc W sp sc (Sc.schAt X.wk f.number)->aW W q d y ->
 Calls Tryz.prog 85 #[.pointer (some ⟨r,0,none⟩),.agg #[.slice sp (Sc.schAt X.wk f.number).length sc],.agg #[.slice q y.length d]] W fun e W'=>∃q' d',e=.returned (.tuple #[.agg #[.slice q' (tr y).length d'],.int .i64 0])∧Below W.1.size W W'∧∀F:Nat->Prop,(∀i,F i->i<W.1.size)->bI F W (fun W=>aW W q d y)->bI F W' (fun W=>aW W q' d' (tr y))
theorem om(w0:World)(g r a M:Nat)(c:Nat)(b:L8):gu id w0 g r a M (.slice none 0 c) b:=by
 intro W p lv er j n X f ys y sp q sc d _ hblk _ _ _ _ _ _ _
 obtain⟨nS,hnS⟩:∃k,k=(Sc.schAt X.wk f.number).length:=⟨_,rfl⟩
 obtain⟨nY,hnY⟩:∃k,k=y.length:=⟨_,rfl⟩
 obtain⟨W0,hW0⟩:∃W0,W0=((W.alloc (.cells #[.slice sp nS sc] 53)).alloc (.cells #[.slice q nY d] 35)).alloc (.cells #[.slice none 0 0] 35):=⟨_,rfl⟩
 obtain⟨l0,l1,l2,lb,ls⟩:=al3 W (.cells #[.slice sp nS sc] 53) (.cells #[.slice q nY d] 35) (.cells #[.slice none 0 0] 35)
 have c3:(((W.alloc (.cells #[.slice sp nS sc] 53)).alloc (.cells #[.slice q nY d] 35)).alloc (.cells #[.slice none 0 0] 35)).cell? ⟨r,3,none⟩=some (.slice none 0 c):=aA hblk lb 3
 have HB:=xQ lb
 have HL2:=xQ l2
 have HN:=xQ hnY
 rw[<-hnS,<-hnY]
 have HB2:=xQ (lb.setCell (p:=⟨W.1.size+1+1,0,none⟩) (by simp;omega) (.slice q nY d))
 clear hblk l0 l1 l2 lb ls hW0 W0 hnS hnY
 go_enter Tryz.func85,Tryz.ntmps85
 go_wp2
 refine bodyPost_ret (aB rfl _ _ (W.1.size+1+1) _ _ _ _ rfl (al3 W _ _ _).2.2.1 Tryz.underlying35 rfl (by kernel_rfl)) rfl ?_
 refine⟨q,d,by rw[HN.out];rfl,(al3 W _ _ _).2.2.2.1,fun F hF hs=>hs.step (ag (al3 W _ _ _).2.2.2.1 _) (fun k hk=>.inl hk)⟩
theorem wz(r:Nat)(k0 k1 k3 k4 k5 k7 k8 k9:Int)(sp bp ep fp q:OA)(sn sc bn bc en ec fn fc n d:Nat)(w:World):
  Calls Tryz.prog 53 #[.pointer (some ⟨r,0,none⟩),.agg #[.int .i64 k0,.int .i64 k1,.slice sp sn sc,.int .i64 k3,.int .i64 k4,.int .i64 k5,.slice bp bn bc,.int .i64 k7,.int .i64 k8,.int .i64 k9,.slice ep en ec],.agg #[.slice fp fn fc],.slice q n d] w fun e w'=>e=.returned (.func (.func 84) #[] #[.pointer (some ⟨w.1.size+1+1+1,0,none⟩),.pointer (some ⟨w.1.size+1,0,none⟩),.pointer (some ⟨w.1.size,0,none⟩),.pointer (some ⟨w.1.size+1+1,0,none⟩)])∧w'=(((w.alloc (.cells #[.pointer (some ⟨r,0,none⟩)] 28)).alloc (.cells #[.int .i64 k0,.int .i64 k1,.slice sp sn sc,.int .i64 k3,.int .i64 k4,.int .i64 k5,.slice bp bn bc,.int .i64 k7,.int .i64 k8,.int .i64 k9,.slice ep en ec] 61)).alloc (.cells #[.slice fp fn fc] 53)).alloc (.cells #[.slice q n d] 55):=by
 go_enter Tryz.func53,Tryz.ntmps53
 go_wp2
 go_ret
 exact⟨rfl,rfl⟩
theorem uL{tr:List V->List V}{un:Value}(HRd:gu tr w0 g r a M un b){j n:Nat}{X:Sc.Pos}{f:Fr}{ys:List (List V)}(hgo:Sc.goes b j=some X)(hat:Sc.at_ b X.at_=.ok (f,n))(hk:f.kind=2)(hu:Bt.unpack (Sc.schAt X.wk f.number) f.block f.rows=.ok ys)(hfr:0<=f.first∧f.first<=1099511627776)(hyl:ys.length<=64)(lo hi rb fb sb wb:Nat)(sp bp ep fp q:OA)(sn sc bn bc en ec fc d:Nat)(k0 k3 k5 k7 k8 k9:Int)(L:Nat)(J:List Tx->World->Prop)(W:World)(hJb:∀xs W,J xs W->Aside (gS g r a M) w0 W∧(∃p lv er,W.1[r]?=some (.cells (cQ g p a un lv er) 73 (0,0)))∧dc W fp fc (Sc.schAt X.wk f.number)∧mh lo hi W q ys∧hi<=W.1.size ∧
   W.1[rb]?=some (.cells #[.pointer (some ⟨r,0,none⟩)] 28 (0,0))∧W.1[fb]?=some (.cells #[.int .i64 k0,.int .i64 f.number,.slice sp sn sc,.int .i64 k3,.int .i64 f.first,.int .i64 k5,.slice bp bn bc,.int .i64 k7,.int .i64 k8,.int .i64 k9,.slice ep en ec] 61 (0,0))∧W.1[sb]?=some (.cells #[.slice fp (Sc.schAt X.wk f.number).length fc] 53 (0,0))∧W.1[wb]?=some (.cells #[.slice q ys.length d] 55 (0,0)))(hJn:∀xs W W',J xs W->Below W.1.size W W'->J xs W')(h0:J [] W)(good:∀m xs x W1 W2,xs.length<ys.length->J xs W1->Below W1.1.size W1 W2->bI (fun i=>(i<lo∨hi<=i)∧i<W1.1.size) W2 (fun W=>aW W x.q x.d x.t.row)->YieldAt Fence.wide m Tryz.prog L #[.agg #[.slice x.q x.t.row.length x.d,.int .i64 x.t.at_,.int .i64 x.t.num,.int .i64 0]] W2 fun e W'=>∃b,e=.returned (.bool b)∧b=true∧J (xs++[x]) W'):
  Calls Tryz.prog 84 #[.func (.yield L) #[] #[],.pointer (some ⟨wb,0,none⟩),.pointer (some ⟨fb,0,none⟩),.pointer (some ⟨rb,0,none⟩),.pointer (some ⟨sb,0,none⟩)] W fun e W'=>(∃v,e=.returned v)∧∃xs,J xs W'∧xs.map Tx.t=Rd.rows tr f.first f.number ys:=by
 have n0:=am (hJb [] W h0).2.2.2.2.2.2.2.2
 have HJb:=xQ hJb
 have HJn:=xQ hJn
 have H0:=xQ h0
 have HG:=xQ good
 have HR:=xQ HRd
 have HF:=xQ (And.intro hgo (And.intro hat (And.intro hk hu)))
 clear hJb hJn h0 good HRd hgo hat hk hu
 refine(callsIn_wide (n:=3)).1 ?_
 refine callsIn_of_wp Tryz.func84 rfl trivial ?_ rfl
 simp only[Tryz.ntmps84,List.size_toArray,List.length_cons,List.length_nil,Nat.reduceAdd,Nat.reduceSub,Array.replicate_succ,Array.replicate_zero,List.push_toArray,List.append_toArray,List.nil_append,List.cons_append]
 gi_wp2
 gi_loopw [11] (fun v11 wr=>∃(i:Nat) (xs:List Tx),i<=ys.length∧v11=.int .i64 i∧Hid (J xs wr∧xs.length=i∧xs.map Tx.t=Rd.rows tr f.first f.number (ys.take i))) (fun v11 _=>ys.length-(intOf v11).toNat)
 case atStart=>exact⟨0,[],by omega,rfl,H0.out,rfl,by rw[List.take_zero];rfl⟩
 case round=>
  clear n0
  obtain⟨i,xs,hi',rfl,HK⟩:=hrel
  by_cases hlt:i<ys.length
  ·have hlt':(i:Int)<(ys.length:Int):=by omega
   obtain⟨j1,⟨pr,lvr,err,j2⟩,j3,j4,j5,j6,j7,j8,j9⟩:=HJb.out xs wr HK.out.1
   obtain⟨bb,o,qk,dk,rfl,hbb,hc,hst⟩:=j4 i hlt
   obtain⟨y,hy⟩:∃y,y=ys[i]:=⟨_,rfl⟩
   rw[<-hy] at hc hst
   have hmem:y∈ys:=by rw[hy];exact List.getElem_mem hlt
   obtain⟨w1,hw1⟩:∃w1,w1=(wr.alloc (.cells #[.slice qk y.length dk] 35)).alloc (.cells #[.slice none 0 0,.int .i64 (f.first+(i:Nat)),.int .i64 f.number,.int .i64 0] 38):=⟨_,rfl⟩
   obtain⟨l0,l1,lb,ls⟩:=al2 wr (.cells #[.slice qk y.length dk] 35) (.cells #[.slice none 0 0,.int .i64 (f.first+(i:Nat)),.int .i64 f.number,.int .i64 0] 38)
   rw[<-hw1] at l0 l1 lb ls
   have hrd:=HR.out w1 pr lvr err j n X f ys y fp qk fc dk (j1.trans (ag lb (fun _=>False)) (fun _ _ h=>h.elim)) (aF j2 lb (ao j2)) HF.out.1 HF.out.2.1 HF.out.2.2.1 HF.out.2.2.2 hmem (j3.on lb) ((hst.here).on lb)
   have m0:wr.cell? ⟨fb,4,none⟩=some (.int .i64 f.first):=aa j7 4
   have m1:wr.cell? ⟨fb,1,none⟩=some (.int .i64 f.number):=aa j7 1
   have m0a:∀o,(wr.alloc o).cell? ⟨fb,4,none⟩=some (.int .i64 f.first):=fun o=>ae (xZ.alloc xX o) m0
   have m1a:∀o,(wr.alloc o).cell? ⟨fb,1,none⟩=some (.int .i64 f.number):=fun o=>ae (xZ.alloc xX o) m1
   have m2:w1.cell? ⟨rb,0,none⟩=some (.pointer (some ⟨r,0,none⟩)):=am (aF j6 lb (ao j6))
   have m3:w1.cell? ⟨sb,0,none⟩=some (.slice fp (Sc.schAt X.wk f.number).length fc):=am (aF j8 lb (ao j8))
   rw[hw1] at m2 m3
   have hiI:(i:Int)<64:=by omega
   have hf0:=hfr.1
   have hf1:=hfr.2
   have HW1:=xQ hw1
   have HL1:=xQ l1
   have HLb:=xQ (And.intro lb ls)
   have HRd:=xQ hrd
   have HY:=xQ hy
   have HSt:=xQ hst
   clear hy hst hmem hw1 l0 l1 lb ls hrd j1 j2 j3 j4 j6 j7 j8 j9
   gi_wp2
   refine⟨trivial,?_⟩
   rw[<-HW1.out]
   refine(callsIn_wide.2 HRd.out).mono ?_
   rintro e w2 ⟨q',d',rfl,hb2,hst2⟩
   have hl2:=aF HL1.out hb2 (ao HL1.out)
   obtain⟨w3,hw3⟩:∃w3,w3=(w2.setCell ⟨wr.1.size+1,0,none⟩ (.slice q' (tr y).length d')).setCell ⟨wr.1.size+1,3,none⟩ (.int .i64 0):=⟨_,rfl⟩
   have hl3:=al (al hl2 0 (.slice q' (tr y).length d')) 3 (.int .i64 0)
   rw[<-hw3] at hl3
   have hbr:Below wr.1.size wr w2:=HLb.out.1.trans (hb2.mono HLb.out.1.size)
   have hb3:Below wr.1.size wr w3:=by
    rw[hw3]
    exact(hbr.setCell (p:=⟨wr.1.size+1,0,none⟩) (by show _<=wr.1.size+1;omega) _).setCell (p:=⟨wr.1.size+1,3,none⟩) (by show _<=wr.1.size+1;omega) _
   have hls:=HLb.out.2
   have hs3:bI (fun i=>(i<lo∨hi<=i)∧i<wr.1.size) w3 (fun W=>aW W q' d' (tr y)):=by
    have h1:=hst2 (fun i=>(i<lo∨hi<=i)∧i<w1.1.size) (fun i h=>h.2) (HSt.out.step (ag HLb.out.1 _) (fun k hk=>.inl hk.1))
    refine h1.step (w':=w3) ?_ (fun k hk=>.inl ⟨hk.1,by omega⟩)
    rw[hw3]
    exact((Aside.refl _ _).setCell (p:=⟨wr.1.size+1,0,none⟩) (.inl ⟨.inr (by show hi<=wr.1.size+1;omega),by show wr.1.size+1<_;omega⟩) _).setCell (p:=⟨wr.1.size+1,3,none⟩) (.inl ⟨.inr (by show hi<=wr.1.size+1;omega),by show wr.1.size+1<_;omega⟩) _
   obtain⟨fn,tmps,assign,body,hy,hR1⟩:=HG.out 2 xs ⟨q',d',⟨f.first+(i:Nat),f.number,tr y⟩⟩ wr w3 (by rw[HK.out.2.1];exact hlt) HK.out.1 hb3 hs3
   obtain⟨x0,x1,x2,x3⟩:=cQ4 hl2
   have xf:=ac hl2
   have HN:Hid ((xs++[(⟨q',d',⟨f.first+(i:Nat),f.number,tr y⟩⟩:Tx)]).map Tx.t=Rd.rows tr f.first f.number (ys.take (i+1))):=by
    show _=_
    rw[List.take_add_one,List.getElem?_eq_getElem hlt,Option.toList_some,Rd.rows_snoc,List.map_append,HK.out.2.2,<-HY.out,List.length_take,Nat.min_eq_left (by omega)]
    rfl
   rw[hw3] at hy hR1
   clear hb2 hst2 hl2 hl3 hbr hb3 hs3 hls hw3 HRd HW1 m0 m1 m0a m1a m2 m3
   gi_wp2
   refine hR1.mono ?_
   rintro e w4 ⟨b4,rfl,rfl,hJ4⟩
   have HJ4:=xQ hJ4
   clear hJ4
   gi_wp2
   go_roundw
   case rel=>exact⟨i+1,_,by omega,by go_num,HJ4.out,by simp[HK.out.2.1],HN.out⟩
   case measure=>simp[intOf];omega
  ·have hie:i=ys.length:=by omega
   subst hie
   clear hlt
   gi_wp2
   go_end0
   exact⟨⟨_,rfl⟩,xs,HK.out.1,by rw[HK.out.2.2,List.take_length]⟩
end
section
open Go.RowKit Go.Shelf
attribute [local go_sem] af Oper.semAt_some
def NbA(w0 w:World)(B Bw g r a M n0:Nat)(v un lv:Value)(b:L8)(tr:List V->List V)(ts:List Tl)(G:Nat->Prop)(p:Nat)(e:Ending)(w':World):Prop :=
  Aside (rF g r G) w w'∧∃(j:Nat) (X:Sc.Pos),((∃er:Nat,Rd.Inv tr b j X ts∧Rd.End b X er∧er≠0∧e=.returned (.tuple #[.slice none 0 0,.int .i64 (er:Nat)])∧RdE w0 w' B g r a M v un lv b (n0+2202*(j+1)) 0) ∨
   (∃(xs:List Tx) (q:OA) (c lo:Nat),Rd.Inv tr b j X (ts++xs.map Tx.t)∧p<X.at_∧e=.returned (.tuple #[.slice q xs.length c,.int .i64 0])∧xs.length<=c∧w.1.size<=lo∧lo<=w'.1.size∧TlL w' q xs∧(∀bb o,q=some ⟨bb,o,none⟩->lo<=bb)∧TlS (fun i=>i<lo) w' xs∧Rdg w0 w' B Bw g r a M v un lv b (n0+2202*j) (fun k=>G k∨(lo<=k∧k<w'.1.size)) j X))
theorem lg{p:OA}{c:Nat}{s:List Col}(h:dn w B #[.slice p s.length c] s)(hw:∀x∈s,x.wf):dc w p c s:=by
 obtain⟨v,us,Fs,h1,h2,h3⟩:=h.out
 injection h1 with h1
 injection h1 with h1 _
 obtain⟨p',c',h4,h5,h6⟩:=h2.cols h3
 rw[<-h1] at h4
 injection h4 with e1 _ e2
 subst e1 e2
 exact⟨h3,h5,h6,hw⟩
structure TlI(w5 w6:World)(Bx lo hi:Nat)(rec:Loop)(v:Value)(xs:List Tx)(W:World):Prop where
 below:Below w5.1.size w5 W
 same:∀k,k<w6.1.size->k≠Bx->W.1[k]?=w6.1[k]?
 box:W.1[Bx]?=some (.cells #[v] 31 (0,0))
 has:TlO W (w6.1.size+2) v xs
 rows:TlS (fun i=>i<lo∨(hi<=i∧i<w6.1.size+2)∨v.ownBlock=some i) W xs
 dfr:W.1[w6.1.size]?=some (.deferred (some []))
 lp:W.1[w6.1.size+1]?=some (.loop rec)
 size:w6.1.size+2<=W.1.size
section
variable {w5 w6 W W':World} {Bx lo hi:Nat} {rec:Loop} {v v':Value} {xs:List Tx}
theorem TlI.on(h:TlI w5 w6 Bx lo hi rec v xs W)(hb:Below W.1.size W W'):TlI w5 w6 Bx lo hi rec v xs W':=by
 have hs:=h.size
 exact⟨h.below.trans (hb.mono h.below.size),fun k hk hne=>(hb.block k (by omega)).trans (h.same k hk hne),aF h.box hb (ao h.box),h.has.on hb,h.rows.on hb,aF h.dfr hb (by omega),aF h.lp hb (by omega),by have:=hb.size;omega⟩
theorem TlI.turn(h:TlI w5 w6 Bx lo hi rec v xs W)(hw:w5.1.size<=w6.1.size)(hB:Bx<w6.1.size)(hh:hi<=w6.1.size)(rec':Loop):TlI w5 w6 Bx lo hi rec' v xs (W.putObj (w6.1.size+1) (.loop rec')):=by
 have hs:=h.size
 exact⟨h.below.trans (bo _ (by omega) h.below.size),fun k hk hne=>(World.putObj_heap_other (by omega)).trans (h.same k hk hne),(World.putObj_heap_other (by omega)).trans h.box,h.has.aside (bR _) (fun k hk hc=>by have:=(h.has.lt k hk).1;omega),h.rows.step ((bR _).mono (fun i _ hi'=>.inr (.inl (by omega)))) (fun k hk=>.inl hk),(World.putObj_heap_other (by omega)).trans h.dfr,World.putObj_heap_same (by omega),by simp;omega⟩
theorem TlI.more{cap:Nat}{x:Tx}(h:TlI w5 w6 Bx lo hi rec v xs W)(hw:w5.1.size<=Bx)(hB:Bx<w6.1.size)(hh:hi<=Bx)(ha:Aside (fun k=>v.ownBlock=some k) W W')(hn:v.ownBlock=some g∨W.1.size<=g)(hv:TlO W' (w6.1.size+2) (.slice (some ⟨g,0,none⟩) (xs++[x]).length cap) (xs++[x]))(hx:bI (fun i=>i<lo∨(hi<=i∧i<w6.1.size+2)∨v.ownBlock=some i) W (fun W=>aW W x.q x.d x.t.row)):
  W'.1[Bx]?=some (.cells #[v] 31 (0,0))∧TlI w5 w6 Bx lo hi rec (.slice (some ⟨g,0,none⟩) (xs++[x]).length cap) (xs++[x]) (W'.setCell ⟨Bx,0,none⟩ (.slice (some ⟨g,0,none⟩) (xs++[x]).length cap)):=by
 have hs:=h.size
 have hold:∀k,k<w6.1.size+2->W'.1[k]?=W.1[k]?:=fun k hk=>ha.block k (by omega) (fun hc=>by have:=(h.has.lt k hc).1;omega)
 have hbx:W'.1[Bx]?=some (.cells #[v] 31 (0,0)):=(hold Bx (by omega)).trans h.box
 obtain⟨v',hv'⟩:∃v',v'=Value.slice (some ⟨g,0,none⟩) (xs++[x]).length cap:=⟨_,rfl⟩
 have hvo:v'.ownBlock=some g:=by rw[hv'];rfl
 rw[<-hv'] at hv ⊢
 have hset:∀k,k≠Bx->(W'.setCell ⟨Bx,0,none⟩ v').1[k]?=W'.1[k]?:=fun k hk=>Below.heap_setCell _ _ _ _ hk
 have hbW:Below w5.1.size W W':=ha.below h.below.size (fun k hk hc=>by have:=(h.has.lt k hc).1;omega)
 have hs':=ha.size
 have hst:Aside (fun k=>k=Bx) W' (W'.setCell ⟨Bx,0,none⟩ v'):=ai W' Bx 0 v'
 have hall:Aside (fun i=>i<lo∨(hi<=i∧i<w6.1.size+2)∨v.ownBlock=some i) W (W'.setCell ⟨Bx,0,none⟩ v'):=(ha.mono (fun i _ hi'=>.inr (.inr hi'))).trans hst (fun i _ hi'=>.inr (.inl (by omega)))
 have hF:∀k,(k<lo∨(hi<=k∧k<w6.1.size+2)∨v'.ownBlock=some k)->(k<lo∨(hi<=k∧k<w6.1.size+2)∨v.ownBlock=some k)∨W.1.size<=k:=fun k hk=>by
  rcases hk with hk | hk | hk
  ·exact .inl (.inl hk)
  ·exact .inl (.inr (.inl hk))
  ·rw[hvo] at hk
   injection hk with hk
   subst hk
   rcases hn with hn | hn
   ·exact .inl (.inr (.inr hn))
   ·exact .inr hn
 refine⟨hbx,⟨(h.below.trans hbW).setCell (p:=⟨Bx,0,none⟩) hw _,fun k hk hne=>?_,by simpa using al hbx 0 v',?_,fun y hy=>?_,?_,?_,?_⟩⟩
 ·rw[hset k hne,hold k (by omega)];exact h.same k hk hne
 ·exact TlO.aside hv hst (fun k hk hc=>by have:=(TlO.lt hv k hk).1;omega)
 ·rcases List.mem_append.1 hy with hy | hy
  ·exact(h.rows y hy).step hall hF
  ·rw[List.mem_singleton.1 hy]
   exact hx.step hall hF
 ·rw[hset _ (by omega),hold _ (by omega)];exact h.dfr
 ·rw[hset _ (by omega),hold _ (by omega)];exact h.lp
 ·have:(W'.setCell ⟨Bx,0,none⟩ v').1.size=W'.1.size:=by simp[World.setCell]
  omega
end
theorem kZ{s:Wk}{f:Fr}{p:Int}(hg:Sc.Good s)(hm:Sc.may s f p=true)(hk:f.kind=2):∃k,(Sc.take s f p).sch f.number=some k∧k.cols=Sc.schAt s f.number∧(∀x∈k.cols,x.wf)∧Sch.err k.cols=0:=by
 obtain⟨-,he,hf⟩:=Sc.may_parts hm
 have h1:=((Sc.err_parts he).2.1 hk).1
 have h2:=(Sc.follows_data hk hf).1
 obtain⟨k,hk2⟩:=hg.has (by omega)
 rw[<-h2] at hk2
 obtain⟨-,h4,h5,-⟩:=hg.known _ k hk2
 refine⟨k,?_,?_,fun x hx=>(h5 x hx).2,h4⟩
 ·unfold Sc.take
  rw[if_neg (by omega),if_pos hk]
  show(Sc.enter s f p).sch f.number=_
  rw[(Sc.enter_same s f p).1]
  exact hk2
 ·unfold Sc.schAt
  rw[hk2]
theorem mZ{Bw n0 j:Nat}{v un lv:Value}{tr:List V->List V}{ts:List Tl}{G:Nat->Prop}{X:Sc.Pos}(hRd:gu tr w0 g r a M un b)(hc:RdC w0 B g r a M v b)(h:Rdg w0 w B Bw g r a M v un lv b (n0+2202*j) G j X)(hI:Rd.Inv tr b j X ts)(hn:n0<=10000000000)(hBw:Bw<=w0.1.size):
    Calls Tryz.prog 34 #[.pointer (some ⟨r,0,none⟩)] w (NbA w0 w B Bw g r a M n0 v un lv b tr ts G X.at_):=by
  obtain⟨W1,hW1⟩:∃W1,W1=w.alloc (.cells #[.pointer (some ⟨r,0,none⟩)] 28):=⟨_,rfl⟩
  have hb1:Below w.1.size w W1:=by rw[hW1];exact xY
  have hs1:W1.1.size=w.1.size+1:=by rw[hW1];simp
  have HP:Hid (W1.1[w.1.size]?=some (.cells #[.pointer (some ⟨r,0,none⟩)] 28 (0,0))):=by rw[hW1];exact ap w _
  have HND:=xQ (pB (tr:=tr) (ts:=ts) hc (h.grow (G':=fun k=>G k∨k=w.1.size) hb1 (fun k hk=>hk.imp id (fun h=>by omega)) (fun k hk=>.inl hk)) hI hn hBw)
  have HC:=xQ hc
  have HRd:=xQ hRd
  have HW1:=xQ hW1
  have HB1:=xQ hb1
  have HIn:=xQ h.inG
  have HZ:=xQ h.asd.size
  have hlen:=hc.len
  clear hc h hI hW1 hb1 hRd
  refine(callsIn_wide (n:=5)).1 ?_
  refine callsIn_of_wp_marks Tryz.func34 rfl trivial ?_ rfl
  simp only[Tryz.ntmps34,List.size_toArray,List.length_cons,List.length_nil,Nat.reduceAdd,Nat.reduceSub,Array.replicate_succ,Array.replicate_zero,List.push_toArray,List.append_toArray,List.nil_append,List.cons_append]
  gi_wp2
  refine⟨trivial,?_⟩
  rw[<-HW1.out]
  refine(callsIn_wide.2 HND.out).mono ?_
  rintro e w2 ⟨j,Y,rr,k0,k1,k3,k4,k5,k7,k8,k9,sp,bp,ep,sn,sc,bn,bc,en,ec,m,er,rfl,hsay,hnf,has,hI,hp,hk2⟩
  have hwW:=HB1.out.size
  have hw0w:=HZ.out
  have hrw:=(HC.out.far r (.inr (.inl rfl))).2
  have hgw:=(HC.out.far g (.inl rfl)).2
  have hbox:=(has.block _ (by omega) (fun hc=>by rcases hc with hc | hc | hc;omega;omega;exact hc (.inr rfl))).trans HP.out
  have HA2:Hid (Aside (rF g r G) w w2):=(ag HB1.out _).trans (gW has (fun k _ hk=>.inl hk)) (fun _ _ h=>h)
  have hs2:=has.size
  have HI:=xQ hI
  have HPp:=xQ hp
  have HK2:=xQ hk2
  unfold av
  cases rr with
  |error k=>
    obtain⟨rfl,-⟩:er=k∧_:=hsay
    obtain⟨q1,q2,q3⟩:Sc.step b Y=.error er∧er≠0∧RdE w0 w2 B g r a M v un lv b (n0+2202*j+2202) 0:=hnf
    have g1:((er:Int) != 0)=true:=bC (by omega)
    have HQ:=xQ (And.intro q1 (And.intro q2 q3))
    clear has hI hp hk2 hbox q1 q2 q3 HND HW1
    gi_wp2
    refine⟨_,results_tmp2 rfl _ _ _,?_⟩
    exact⟨HA2.out.alloc _,j,Y,.inl ⟨er,HI.out,.inl HQ.out.1,HQ.out.2.1,rfl,HQ.out.2.2.on xY⟩⟩
  |ok y=>
    obtain⟨f,m'⟩:=y
    obtain⟨rfl,rfl,hfo⟩:er=0∧m=m'∧dD w2 W1.1.size (av k0 k1 sp sn sc k3 k4 k5 bp bn bc k7 k8 k9 ep en ec) f:=hsay
    obtain⟨sp',sc',bp',bc',ep',ec',hu,-,-,-,hbl,hbc,hbA,-⟩:=hfo.lies.out
    simp only[av,Array.mk.injEq,List.cons.injEq,Value.int.injEq,Value.slice.injEq,and_true,true_and] at hu
    obtain⟨rfl,rfl,⟨rfl,rfl,rfl⟩,rfl,rfl,rfl,⟨rfl,rfl,rfl⟩,rfl,rfl,rfl,rfl,rfl,rfl⟩:=hu
    obtain⟨q1,q2,q3,q4,q5,q6⟩:Sc.at_ b Y.at_=.ok (f,m)∧Sc.may Y.wk f Y.at_=true∧f.wf∧Y.at_<m∧m<=b.length∧Rdg w0 w2 B Bw g r a M v un lv b (n0+2202*j+2202) (fun k=>G k∨k=w.1.size) (j+1) (Rd.stepped b Y f m):=hnf
    have hkd:=hk2 f m rfl
    obtain⟨kn,t1,t2,t3,t4⟩:=kZ (Sc.goes_good hI.goes).1 q2 hkd
    obtain⟨v',g',hkw,-⟩:=q6.walk
    obtain⟨-,p2,p3,p4⟩:=(Sc.err_parts (Sc.may_parts q2).2.1).2.1 hkd
    have hSc:=fun W (hb:Below w2.1.size w2 W)=>tu (hkw.on hb) f.number q3.2.1
    rw[show(Rd.stepped b Y f m).wk.sch f.number=some kn from t1] at hSc
    obtain⟨w3,hw3⟩:∃w3,w3=w2.alloc (.cells #[.int .i64 f.kind,.int .i64 f.number,.slice sp f.cols.length sc,.int .i64 f.seq,.int .i64 f.first,.int .i64 f.rows,.slice bp f.block.length bc,.int .i64 f.index.at_,.int .i64 f.index.frames,.int .i64 f.index.rows,.slice ep f.index.entries.length ec] 61):=⟨_,rfl⟩
    have hb3:Below w2.1.size w2 w3:=by rw[hw3];exact xY
    have HSc:=xQ (hSc w3 hb3)
    have HF3:Hid (w3.1[w2.1.size]?=some (.cells #[.int .i64 f.kind,.int .i64 f.number,.slice sp f.cols.length sc,.int .i64 f.seq,.int .i64 f.first,.int .i64 f.rows,.slice bp f.block.length bc,.int .i64 f.index.at_,.int .i64 f.index.frames,.int .i64 f.index.rows,.slice ep f.index.entries.length ec] 61 (0,0))):=by rw[hw3];exact ap w2 _
    have c0:∀o,(w2.alloc o).cell? ⟨w.1.size,0,none⟩=some (.pointer (some ⟨r,0,none⟩)):=fun o=>ae (xZ.alloc xX o) (am hbox)
    have c1:∀o,(w2.alloc o).cell? ⟨r,2,none⟩=some (.pointer (some ⟨a,0,none⟩)):=fun o=>ae (xZ.alloc xX o) (aa q6.blk 2)
    have HW3:=xQ hw3
    have HB3:=xQ hb3
    have HR2:=xQ q6
    have HQ:=xQ (And.intro q1 (And.intro q2 (And.intro q4 q5)))
    have HT:=xQ (And.intro t2 (And.intro t3 t4))
    have HBl:=xQ (And.intro hbl (And.intro hbc hbA))
    have HPs:=xQ (And.intro hkd (And.intro p3 p4))
    have HBox:=xQ hbox
    have e0:w3.cell? ⟨w.1.size,0,none⟩=some (.pointer (some ⟨r,0,none⟩)):=by rw[hw3];exact c0 _
    have e1:w3.cell? ⟨r,2,none⟩=some (.pointer (some ⟨a,0,none⟩)):=by rw[hw3];exact c1 _
    have e2:w3.cell? ⟨w2.1.size,1,none⟩=some (.int .i64 f.number):=aa HF3.out 1
    have HScA:Hid (∀W,Below w3.1.size w3 W->Calls Tryz.prog 51 #[.pointer (some ⟨a,0,none⟩),.int .i64 f.number] W fun e w'=>xm (some kn) W e w'∧Below W.1.size W w'):=fun W hb=>hSc W (hb3.trans (hb.mono hb3.size))
    clear has hI hp hk2 hbox c0 c1 HSc q1 q2 q3 q4 q5 q6 t1 t2 t3 t4 hkw hSc hfo hbl hbc hbA hkd p2 p3 p4 hw3 hb3 HND HW1
    gi_wp2
    rw[<-HW3.out]
    refine wpIn_wide.2 ?_
    go_cut [6] from 11 (fun v6 wx=>∃(gb cap:Nat) (q:OA),v6=.pointer (some ⟨gb,0,none⟩)∧Hid (Below w3.1.size w3 wx∧wx.1[gb]?=some (.cells #[.slice q kn.cols.length cap] 53 (0,0))∧w3.1.size<=gb∧dc wx q cap kn.cols))
    case first=>
      go_region_held3 (fun w'=>w'.cell? ⟨w.1.size,0,none⟩=some (.pointer (some ⟨r,0,none⟩))∧w'.cell? ⟨r,2,none⟩=some (.pointer (some ⟨a,0,none⟩))∧w'.cell? ⟨w2.1.size,1,none⟩=some (.int .i64 f.number)) (first | go_keep | exact⟨y0,y1,y2⟩) (first
        | (go_at_call 51;refine(HScA.out _ (by first | exact xZ.drew | exact xZ)).mono ?_;rintro e w4 ⟨⟨q,cap,rfl,hso⟩,hb4⟩;have hb5:Below w3.1.size w3 w4:=⟨hb4.os,hb4.tape,hb4.output,hb4.size,hb4.block⟩;have z0:=ae hb5 e0;have z1:=ae hb5 e1;have z2:=ae hb5 e2;have HZ4:Hid (∀o,Below w3.1.size w3 (w4.alloc o)∧dc (w4.alloc o) q cap kn.cols):=fun o=>⟨hb5.alloc hb5.size o,(lg hso HT.out.2.1).on (xZ.alloc xX o)⟩;have HS4:Hid (w3.1.size<=w4.1.size):=hb5.size;clear hso hb4 hb5)
        | (go_at_call 51;refine(HScA.out _ (by first | exact xY.drew | exact xZ.drew.alloc xX _ | exact xY)).mono ?_;rintro e w4 ⟨⟨q,cap,rfl,hso⟩,hb4⟩;have hb5:Below w3.1.size w3 w4:=(xY.drew).trans (hb4.mono (by simp));have hz:w4.1[w3.1.size]?=some (.cells #[.slice none 0 0] 53 (0,0)):=(hb4.block _ (by simp)).trans (ap w3 _);have z0:=ae hb5 e0;have z1:=ae hb5 e1;have z2:=ae hb5 e2;have ha:=ai w4 w3.1.size 0 (.slice q kn.cols.length cap);have y0:=(ha.cell (p:=⟨w.1.size,0,none⟩) (World.block_lt_of_cell? _ _ z0) (by have:=World.block_lt_of_cell? _ _ e0;simp only at this ⊢;omega)).trans z0;have y1:=(ha.cell (p:=⟨r,2,none⟩) (World.block_lt_of_cell? _ _ z1) (by have:=World.block_lt_of_cell? _ _ e1;simp only at this ⊢;omega)).trans z1;have y2:=(ha.cell (p:=⟨w2.1.size,1,none⟩) (World.block_lt_of_cell? _ _ z2) (by have:=World.block_lt_of_cell? _ _ e2;simp only at this ⊢;omega)).trans z2;have HZ5:Hid (Below w3.1.size w3 (w4.setCell ⟨w3.1.size,0,none⟩ (.slice q kn.cols.length cap))∧(w4.setCell ⟨w3.1.size,0,none⟩ (.slice q kn.cols.length cap)).1[w3.1.size]?=some (.cells #[.slice q kn.cols.length cap] 53 (0,0))∧w3.1.size<=w3.1.size∧dc (w4.setCell ⟨w3.1.size,0,none⟩ (.slice q kn.cols.length cap)) q cap kn.cols):=⟨hb5.setCell (p:=⟨w3.1.size,0,none⟩) xX _,by simpa using al hz 0 (.slice q kn.cols.length cap),xX,lg (hso.beside ha (fun k hk=>by simp;omega)) HT.out.2.1⟩;have x0:w4.cell? ⟨w3.1.size,0,none⟩=some (.slice none 0 0):=aa hz 0;have xf:=ac hz;clear hso hb4 hb5 hz ha))
      all_goals (try go_wp2_with fail)
      all_goals go_meet
      · exact⟨w4.1.size,cap,q,rfl,(HZ4.out _).1,ap w4 _,HS4.out,(HZ4.out _).2⟩
      all_goals exact⟨w3.1.size,cap,q,rfl,HZ5.out⟩
    case rest=>
      obtain⟨gb,cap,q,rfl,HX⟩:=hcut
      obtain⟨hbx,hgb,hgn,hsl⟩:=HX.out
      have hf3:=(hbx.block _ (ao HF3.out)).trans HF3.out
      have x0:wc.cell? ⟨gb,0,none⟩=some (.slice q kn.cols.length cap):=am hgb
      have x5:wc.cell? ⟨w2.1.size,5,none⟩=some (.int .i64 f.rows):=aa hf3 5
      have x6:wc.cell? ⟨w2.1.size,6,none⟩=some (.slice bp f.block.length bc):=aa hf3 6
      have hb2c:Below w2.1.size w2 wc:=HB3.out.trans (hbx.mono HB3.out.size)
      have HU:=xQ (qH (qV (m:=[]) (fun y hy=>by cases hy)) kn.cols q cap f.block bp bc f.rows wc hsl HBl.out.1 HBl.out.2.1 (HBl.out.2.2.on hb2c))
      obtain⟨U,hU⟩:∃U,U=Bt.unpack kn.cols f.block f.rows:=⟨_,rfl⟩
      rw[<-hU] at HU
      rw[HT.out.1] at hU
      have HUu:=xQ hU
      have HBc:=xQ hb2c
      have HGb:=xQ hgb
      have HSl:=xQ hsl
      have HFc:=xQ hf3
      clear hbx hgb hgn hsl hf3 e0 e1 e2 HScA hb2c hU
      gi_wp2
      refine⟨trivial,?_⟩
      refine(callsIn_wide.2 HU.out).mono ?_
      rintro e w5 hun
      cases U with
      |error er=>
        obtain⟨rfl,hb5⟩:e=.returned (.tuple #[.slice none 0 0,.int .i64 (er:Nat)])∧Below wc.1.size wc w5:=hun
        have hne:=Bt.unpack_err HUu.out.symm
        have g1:((er:Int) != 0)=true:=bC (by omega)
        have HB5:=xQ (HBc.out.trans (hb5.mono HBc.out.size))
        clear hb5 HU x0 x5 x6
        gi_wp2
        refine⟨_,results_tmp2 rfl _ _ _,?_⟩
        exact⟨HA2.out.trans (ag HB5.out (fun _=>False)) (fun _ _ h=>h.elim),j,Y,.inl ⟨er,HI.out,.inr ⟨f,m,HQ.out.1,HQ.out.2.1,HPs.out.1,HUu.out.symm⟩,hne,rfl,(HR2.out.toE).on HB5.out⟩⟩
      |ok ys=>
        obtain⟨q5,c5,rfl,hrb,hb5⟩:∃q5 c5,e=.returned (.tuple #[.slice q5 ys.length c5,.int .i64 0])∧bM w5 wc.1.size (.slice q5 ys.length c5) ys∧Below wc.1.size wc w5:=hun
        have hwf:∀y∈ys,∀x∈y,x.wf:=fun y hy x hx=>((Bt.whole_ok (Bt.unpack_open HUu.out.symm).2.2).2.2.2.2 y hy x hx).2
        have hyl:ys.length<=64:=by have:=(Bt.unpack_pack HUu.out.symm).2.2.1;have:=HPs.out.2.2;omega
        have HRs:=xQ (hrb.still hwf)
        have HB5:=xQ (HBc.out.trans (hb5.mono HBc.out.size))
        have HBc5:=xQ hb5
        have HS5:=xQ (HSl.out.on hb5)
        have hf5:=(hb5.block _ (ao HFc.out)).trans HFc.out
        have hg5:=(hb5.block _ (ao HGb.out)).trans HGb.out
        have hx5:=(HB5.out.block _ (ao HBox.out)).trans HBox.out
        have y11:∀o,(w5.alloc o).cell? ⟨gb,0,none⟩=some (.slice q kn.cols.length cap):=fun o=>ae (xZ.alloc xX o) (am hg5)
        have y12:∀o,(w5.alloc o).cell? ⟨w.1.size,0,none⟩=some (.pointer (some ⟨r,0,none⟩)):=fun o=>ae (xZ.alloc xX o) (am hx5)
        have y0:∀o,(w5.alloc o).cell? ⟨w2.1.size,0,none⟩=some (.int .i64 f.kind):=fun o=>ae (xZ.alloc xX o) (aa hf5 0)
        have y1:∀o,(w5.alloc o).cell? ⟨w2.1.size,1,none⟩=some (.int .i64 f.number):=fun o=>ae (xZ.alloc xX o) (aa hf5 1)
        have y2:∀o,(w5.alloc o).cell? ⟨w2.1.size,2,none⟩=some (.slice sp f.cols.length sc):=fun o=>ae (xZ.alloc xX o) (aa hf5 2)
        have y3:∀o,(w5.alloc o).cell? ⟨w2.1.size,3,none⟩=some (.int .i64 f.seq):=fun o=>ae (xZ.alloc xX o) (aa hf5 3)
        have y4:∀o,(w5.alloc o).cell? ⟨w2.1.size,4,none⟩=some (.int .i64 f.first):=fun o=>ae (xZ.alloc xX o) (aa hf5 4)
        have y5:∀o,(w5.alloc o).cell? ⟨w2.1.size,5,none⟩=some (.int .i64 f.rows):=fun o=>ae (xZ.alloc xX o) (aa hf5 5)
        have y6:∀o,(w5.alloc o).cell? ⟨w2.1.size,6,none⟩=some (.slice bp f.block.length bc):=fun o=>ae (xZ.alloc xX o) (aa hf5 6)
        have y7:∀o,(w5.alloc o).cell? ⟨w2.1.size,7,none⟩=some (.int .i64 f.index.at_):=fun o=>ae (xZ.alloc xX o) (aa hf5 7)
        have y8:∀o,(w5.alloc o).cell? ⟨w2.1.size,8,none⟩=some (.int .i64 f.index.frames):=fun o=>ae (xZ.alloc xX o) (aa hf5 8)
        have y9:∀o,(w5.alloc o).cell? ⟨w2.1.size,9,none⟩=some (.int .i64 f.index.rows):=fun o=>ae (xZ.alloc xX o) (aa hf5 9)
        have y10:∀o,(w5.alloc o).cell? ⟨w2.1.size,10,none⟩=some (.slice ep f.index.entries.length ec):=fun o=>ae (xZ.alloc xX o) (aa hf5 10)
        have HX5:=xQ hx5
        have hs25:=HB5.out.size
        have hsc5:=hb5.size
        clear hrb hb5 hf5 hg5 hx5 hwf HU x0 x5 x6
        gi_wp2
        refine⟨trivial,?_⟩
        refine(callsIn_wide.2 (wz r _ _ _ _ _ _ _ _ _ _ _ _ _ _ _ _ _ _ _ _ _ _ _ _)).mono ?_
        rintro e w6 ⟨rfl,hw6⟩
        obtain⟨m0,m1,m2,m3,m4,mb,ms⟩:=al5 w5 (.cells #[.slice none 0 0] 31) (.cells #[.pointer (some ⟨r,0,none⟩)] 28) (.cells #[.int .i64 f.kind,.int .i64 f.number,.slice sp f.cols.length sc,.int .i64 f.seq,.int .i64 f.first,.int .i64 f.rows,.slice bp f.block.length bc,.int .i64 f.index.at_,.int .i64 f.index.frames,.int .i64 f.index.rows,.slice ep f.index.entries.length ec] 61) (.cells #[.slice q kn.cols.length cap] 53) (.cells #[.slice q5 ys.length c5] 55)
        rw[<-hw6] at m0 m1 m2 m3 m4 mb ms
        have HM:=xQ (And.intro m0 (And.intro m1 (And.intro m2 (And.intro m3 (And.intro m4 mb)))))
        have hms:w5.1.size+5<=w6.1.size:=by omega
        clear hw6 m0 m1 m2 m3 m4 mb ms y0 y1 y2 y3 y4 y5 y6 y7 y8 y9 y10 y11 y12
        gi_wp2
        refine fX (gf:=84) rfl (enters_of Tryz.func84 (by kernel_rfl) rfl) ?_
        intro fn
        generalize hrec:fW fn _ _ _ _ _=rec
        have HREC:=xQ hrec
        clear hrec
        have hrr:=ao HR2.out.blk
        refine(uL HRd.out HI.out.goes HQ.out.1 HPs.out.1 HUu.out.symm (by have:=HPs.out.2.1;omega) hyl wc.1.size w5.1.size (w5.1.size+1) (w5.1.size+1+1) (w5.1.size+1+1+1) (w5.1.size+1+1+1+1) sp bp ep q q5 f.cols.length sc f.block.length bc f.index.entries.length ec cap c5 f.kind f.seq f.rows f.index.at_ f.index.frames f.index.rows (w6.1.size+1) (fun xs W=>∃v,TlI w5 w6 w5.1.size wc.1.size w5.1.size (rec .ready none) v xs W) _ ?hJb ?hJn ?h0 ?good).mono ?_
        case hJb=>
          rintro xs W ⟨v,h⟩
          have hW2:Below w2.1.size w2 W:=HB5.out.trans (h.below.mono HB5.out.size)
          exact⟨(HR2.out.on hW2).asd,⟨_,_,_,(HR2.out.on hW2).blk⟩,by rw[<-HT.out.1];exact HS5.out.on h.below,HRs.out.on xX (ag h.below _),h.below.size,(h.same _ (by omega) (by omega)).trans HM.out.2.1,(h.same _ (by omega) (by omega)).trans HM.out.2.2.1,by rw[<-HT.out.1];exact(h.same _ (by omega) (by omega)).trans HM.out.2.2.2.1,(h.same _ (by omega) (by omega)).trans HM.out.2.2.2.2.1⟩
        case hJn=>
          rintro xs W W' ⟨v,h⟩ hb
          exact⟨v,h.on hb⟩
        case h0=>
          obtain⟨a0,a1,ab,asz⟩:=al2 w6 (.deferred (some [])) (.loop (rec .ready none))
          exact⟨.slice none 0 0,HM.out.2.2.2.2.2.trans (ab.mono (by omega)),fun k hk _=>ab.block k hk,aF HM.out.1 ab (by omega),oj _ _,fun x hx=>(by cases hx),a0,a1,by omega⟩
        case good=>
          rintro mm xs x W1' W2' hxn ⟨v,h1⟩ hb12 hst
          have h2:=h1.on hb12
          have hlp:=h2.lp
          rw[<-HREC.out] at hlp
          refine dF (R:=fun b W'=>b=true∧∃v,TlI w5 w6 w5.1.size wc.1.size w5.1.size (rec .ready none) v (xs++[x]) W') hlp rfl ?_
          obtain⟨Wr,hWr⟩:∃Wr,Wr=W2'.alloc (.cells #[.slice x.q x.t.row.length x.d,.int .i64 x.t.at_,.int .i64 x.t.num,.int .i64 0] 38):=⟨_,rfl⟩
          have hb2r:Below W2'.1.size W2' Wr:=by rw[hWr];exact xY
          have hrb:Wr.1[W2'.1.size]?=some (.cells #[.slice x.q x.t.row.length x.d,.int .i64 x.t.at_,.int .i64 x.t.num,.int .i64 0] 38 (0,0)):=by rw[hWr];exact ap W2' _
          have hr:=h2.on hb2r
          have hlr:=hr.lp
          rw[<-HREC.out] at hlr
          obtain⟨Wb,hWb⟩:∃Wb,Wb=Wr.putObj (w6.1.size+1) (.loop (rec .busy none)):=⟨_,rfl⟩
          have hb:=hr.turn (by omega) (by omega) (by omega) (rec .busy none)
          have hbb:Wb.1[W2'.1.size]?=some (.cells #[.slice x.q x.t.row.length x.d,.int .i64 x.t.at_,.int .i64 x.t.num,.int .i64 0] 38 (0,0)):=by rw[hWb];exact(World.putObj_heap_other (by have:=h2.size;omega)).trans hrb
          have hs1':=h1.size
          have hs12:=hb12.size
          have hst2:bI (fun i=>i<wc.1.size∨(w5.1.size<=i∧i<w6.1.size+2)∨v.ownBlock=some i) Wb (fun W=>aW W x.q x.d x.t.row):=by
            rw[hWb]
            refine hst.step (F':=fun i=>i<wc.1.size∨(w5.1.size<=i∧i<w6.1.size+2)∨v.ownBlock=some i) ((ag hb2r _).trans (bR _) (fun i _ hi=>⟨.inr (by omega),by omega⟩)) (fun k hk=>.inl ?_)
            rcases hk with hk | hk | hk
            · exact⟨.inl hk,by omega⟩
            · exact⟨.inr hk.1,by omega⟩
            · have:=h1.has.lt k hk;exact⟨.inr (by omega),by omega⟩
          rw[<-hWb] at hb
          rw[<-HREC.out] at hWb
          obtain⟨Wc,hWc⟩:∃Wc,Wc=Wb.alloc (.cells #[.slice x.q x.t.row.length x.d,.int .i64 x.t.at_,.int .i64 x.t.num,.int .i64 0] 38):=⟨_,rfl⟩
          have hbc:Below Wb.1.size Wb Wc:=by rw[hWc];exact xY
          have hcI:=hb.on hbc
          have hcb:Wc.1[Wb.1.size]?=some (.cells #[.slice x.q x.t.row.length x.d,.int .i64 x.t.at_,.int .i64 x.t.num,.int .i64 0] 38 (0,0)):=by rw[hWc];exact ap Wb _
          have n7:=am hb.box
          obtain⟨o0,o1,o2,o3⟩:=cQ4 hbb
          have hW2:Below w2.1.size w2 Wb:=HB5.out.trans (hb.below.mono HB5.out.size)
          have o4:Wb.cell? ⟨r,4,none⟩=some (.int .i64 0):=aa (HR2.out.on hW2).blk 4
          have o5:Wb.cell? ⟨w.1.size,0,none⟩=some (.pointer (some ⟨r,0,none⟩)):=am ((hb.below.block _ (ao HX5.out)).trans HX5.out)
          have hrun:=oi hcI.has hcI.size x _ hcb (by omega)
          obtain⟨g3,cap3,W5,hr3,ho3,ha3,hn3⟩:=hrun
          obtain⟨hbx,hj⟩:=hcI.more (by omega) (by omega) (by omega) ha3 hn3 ho3 (hst2.step (ag hbc _) (fun k hk=>.inl hk))
          obtain⟨zs,hzs⟩:∃zs,zs=xs++[x]:=⟨_,rfl⟩
          rw[<-hzs] at hr3 hj
          have n8:=am hbx
          have f8:=aI hbx
          have HR3:=xQ hr3
          have HJ3:=xQ hj
          have HZs:=xQ hzs
          have HWr:=xQ hWr
          have HWb:=xQ hWb
          have HWc:=xQ hWc
          have HLr:=xQ hlr
          clear h1 h2 hr hb hcI hWr hWb hWc hlr hlp hst hst2 hb12 hb2r hrb hbb hbc hcb hW2 hr3 ho3 ha3 hn3 hbx hj hzs
          gi_wp2
          rw[<-HWr.out]
          refine⟨HLr.out,?_⟩
          rw[<-HWb.out]
          gi_wp2_with (first
            | (gi_at_builtin
               rw[<-HWc.out]
               refine cn HR3.out rfl rfl rfl rfl ?_)
            |fail)
          have hlp3:=HJ3.out.lp
          rw[<-HREC.out] at hlp3
          refine⟨hlp3,rfl,.slice (some ⟨g3,0,none⟩) zs.length cap3,?_⟩
          have ht:=HJ3.out.turn (by omega) (by omega) (by omega) (rec .ready none)
          rw[HREC.out,<-HZs.out]
          exact ht
        rintro e W4 ⟨⟨v4,rfl⟩,xs,⟨vv,hJ4⟩,hxs⟩
        have h5:=hJ4.turn (by omega) (by omega) (by omega) (rec .exhausted none)
        refine⟨⟨_,rfl⟩,.inl ⟨hJ4.lp,?_⟩⟩
        obtain⟨W5,hW5⟩:∃W5,W5=W4.putObj (w6.1.size+1) (.loop (rec .exhausted none)):=⟨_,rfl⟩
        rw[<-hW5] at h5 ⊢
        obtain⟨pv,cv,rfl,hcv2,-⟩:=h5.has.form
        have H5:=xQ h5
        have HXs:=xQ hxs
        have n7:=am h5.box
        clear hJ4 h5 hW5 hxs
        gi_wp2
        refine⟨by simp,.inl ⟨_,_,rfl,run_takeDeferred H5.out.dfr,?_⟩⟩
        refine⟨_,results_tmp2 rfl _ _ _,?_⟩
        have hb6:Below w2.1.size w2 (W5.putObj w6.1.size (.deferred none)):=(HB5.out.trans (H5.out.below.mono HB5.out.size)).trans (bo _ (by omega) (by have:=H5.out.size;omega))
        have ha6:Aside (fun k=>k=w6.1.size) W5 (W5.putObj w6.1.size (.deferred none)):=bR _
        have ho6:TlO (W5.putObj w6.1.size (.deferred none)) (w6.1.size+2) (.slice pv xs.length cv) xs:=H5.out.has.aside ha6 (fun k hk hc=>by have:=(H5.out.has.lt k hk).1;omega)
        obtain⟨pv',cv',he,hcv,hTl⟩:=ho6.form
        injection he with e1 _ e2
        subst e1 e2
        have hI2:=HI.out.data HQ.out.1 HQ.out.2.1 HPs.out.1 HUu.out.symm
        rw[<-HXs.out] at hI2
        refine⟨HA2.out.trans (ag hb6 (fun _=>False)) (fun _ _ h=>h.elim),j+1,Rd.stepped b Y f m,.inr ⟨xs,pv,cv,wc.1.size,hI2,Nat.lt_of_le_of_lt HPp.out HQ.out.2.2.1,rfl,hcv,?_,?_,hTl,fun bb o hq=>?_,?_,?_⟩⟩
        · have:=HBc.out.size;omega
        · have:=H5.out.size;have:=ha6.size;omega
        · have:=(ho6.lt bb (by rw[hq];rfl)).1;omega
        · exact H5.out.rows.step (ha6.mono (fun i _ hi=>.inr (.inl (by omega)))) (fun k hk=>.inl (.inl hk))
        · exact(HR2.out.less (fun k hk=>.inl hk) HIn.out).grow hb6 (fun k hk=>hk.imp id (fun h=>⟨by have:=HBc.out.size;omega,h.2⟩)) (fun k hk=>.inl hk)
end
end Go.Proofs.YtceomhodhmcknaaGreatDoor

import Derived.Test.YtngmnfdaedlodaaGreatDoorA5
import Derived.Test.YtngmnfdaedlodaaGreatDoorC9
import Derived.Deep.RegionHeldLaw
set_option maxRecDepth 100000
set_option maxHeartbeats 4000000
namespace Go.Proofs.YtngmnfdaedlodaaGreatDoor
open Go.Proofs.Tryz
open Option renaming some->I,none->U
open Go.Value renaming pointer->Y,int->F,slice->mA,tuple->oq
open Or renaming inl->C,inr->sq
open Go.IntKind renaming i64->N
open Go.RowKit renaming Below->AX
open Go.Obj renaming cells->qj
open Go renaming World->wv,Calls->AZ
open Go.Proofs.Tryz renaming prog->AW
open Go.Ending renaming returned->qz
variable{B B' M a g k k' n x x':Nat}{w w' w0 w1:wv}{v v':Value}{q:OA}{c:List Col}
section
open Go.RowKit Go.Maps
section
variable {w:wv} {B g x k:Nat} {v:Value} {s:Dv.St}
theorem nS(h:av w B g v s x k)(hd:s.down=true):AZ AW 10 #[Y (I ⟨g,0,U⟩)] w fun e w'=>e=qz (oq #[Y U,F N 0,F N 50])∧w'=w:=by
 have o:=gQq (kUp h);rw[hd] at o;clear h hd;go_enter func10,ntmps10;go_wp2_with fail;refine o.out.mono ?_;rintro e w' ⟨rfl,y⟩;rw[y];clear y w' o;go_wp2
 go_ret3
 exact⟨rfl,rfl⟩
theorem rm(h:av w B g v s x k)(hd:s.down=true):AZ AW 88 #[Y (I ⟨g,0,U⟩)] w fun e w'=>e=qz (oq #[F N 0,Y U,ii 50])∧AX w.1.size w w':=by
 have o:=gQq (nS h hd);clear h hd;go_enter func88,ntmps88;go_wp2_with fail;refine o.out.mono ?_;rintro e w' ⟨rfl,y⟩;rw[y];clear y w' o;go_wp2
 go_ret3
 exact⟨rfl,gQz⟩
theorem uI(h:av w B g v s x k)(hd:s.down=true):AZ AW 61 #[Y (I ⟨g,0,U⟩)] w fun e w'=>e=qz (oq #[F N 0,ii 50])∧AX w.1.size w w':=by
 have o:=gQq (rm h hd);clear h hd;go_enter func61,ntmps61;go_wp2_with fail;refine o.out.mono ?_;rintro e w1 ⟨rfl,y⟩;have D:=gQq y;clear y o;unfold ii;go_wp2;go_ret2;exact⟨rfl,D.out⟩
theorem wE(h:av w B g v s x k)(hd:s.down=true)(L:He w):AZ AW 39 #[Y (I ⟨g,0,U⟩)] w fun e w'=>e=qz (oq #[F N 0,F N 50])∧AX w.1.size w w':=by
 have J:=gQq (uI h hd);have S:=gQq L;clear h hd L;go_enter func39,ntmps39;go_wp2_with fail;refine J.out.mono ?_;rintro e w1 ⟨rfl,o⟩;have y:=gQq o;have D:=gQq (kS 50 w1 (S.out.on o));clear o J;unfold ii;go_wp2_with fail;refine D.out.mono ?_;rintro e V ⟨rfl,K⟩;have Q:=gQq (y.out.trans (K.mono y.out.size));clear K D;go_wp2;go_ret2;exact⟨rfl,Q.out⟩
theorem uB(t:Nat)(s:Dv.St)(r:Except Nat Nat):(Rp.do_ { s with told:=t } r).2.2={ (Rp.do_ s r).2.2 with told:=t }:=by
 rw[Wr.do_told]
theorem zD{s:Dv.St}{r:Except Nat Nat}(h:(Rp.do_ s r).2.1=0)(hd:s.down=false):(Rp.do_ s r).2.2.down=false∧(Rp.do_ s r).2.2.b.length<=s.b.length:=by
 unfold Rp.do_ at h ⊢;cases r with
 |error c=>
  exact⟨hd,gQx⟩
 |ok K=>
  dsimp only at h ⊢;split at h
  ·next h1=>rw[AK h1];exact⟨hd,gQx⟩
  ·next h1=>
   rw[AJ h1];split at h
   ·next h2=>
    rw[AK h2];unfold Dv.cut at h2 ⊢;rw[AJ (by rw[hd];decide)] at h2 ⊢;split at h2
    ·cases h2
    ·next h3=>
     rw[AJ h3];split at h2
     ·next h4=>
      rw[AK h4];exact⟨hd,by show(s.b.take _).length<=_;rw[AA];omega⟩
     ·cases h2
   ·next h2=>exact absurd h h2
def Ac(w:wv)(B g:Nat)(v:Value)(s:Dv.St)(E:Nat->Prop)(R:Nat×Option Wr×Dv.St)(e1:Ending)(w1:wv):Prop:=∃t v' x' k',t<=s.told+8000000000∧av w1 B g v' { R.2.2 with told:=t } x' k'∧Aside (fun i=>i=g∨v.ownBlock=I i) w w1∧(∀i,v'.ownBlock=I i->v.ownBlock=I i∨w.1.size<=i)∧match R.2.1 with
 |none=>e1=qz (oq #[Y U,F N (R.1:Nat)])
 |some z=>∃a m M n e gm q cap,e1=qz (oq #[Y (I ⟨a,0,U⟩),F N 0])∧KWr w1 B a g m M n v' e x' k' gm q cap { z with s:={ z.s with told:=t } } E∧n<=2097153∧w.1.size<=a∧w.1.size<=m∧w.1.size<=M∧∀i,e.ownBlock=I i->w.1.size<=i
theorem au.down19{g:Int->Option Value}{s:Wk}{G:Nat->Prop}(h:au w B a M n v g s G)(o:B'<=B):au w B' a M n v g s G:=⟨h.lies,h.map,h.ents.low o,⟨AG o h.base.1,AG o h.base.2⟩,h.good,h.low,h.off,h.sch⟩
theorem qg(h:av w B g v s x k)(E:Nat->Prop)(cw:∀i,E i->i<w.1.size)(c:List Col)(p:OA)(aj:Nat)(hc:c.length*120<=140737488351232)(d5:cT w p c)(bX:∀y∈c,y.wf)(d6:∀w',Aside (fun i=>i=g∨v.ownBlock=I i) w w'->cT w' p c)(eL:s.b.length<=2097152)(e0:s.safe<=s.b.length)(ez:s.done<4611686018427387904)(e1:s.told<=100000000000000)(d3:Hv w)(dr:He w)(bv:2<B)(eq:B<=w.1.size):
  AZ AW 16 #[Y (I ⟨g,0,U⟩),.agg #[mA p c.length aj]] w (Ac w B g v s E (Wr.opens s c)):=by
 obtain⟨j,X,Q,b0,b1⟩:=Rp.ends s.b;have ak:Hid (Wr.opens s c=if Sch.err c≠0 then (Sch.err c,U,s) else if s.down=true then (50,U,s) else (if (Rp.do_ s (Rp.look s.b j X.at_ Q)).2.1≠0 then ((Rp.do_ s (Rp.look s.b j X.at_ Q)).2.1,U,(Rp.do_ s (Rp.look s.b j X.at_ Q)).2.2) else (0,I ⟨(Rp.do_ s (Rp.look s.b j X.at_ Q)).2.2,(Sc.whole (Rp.do_ s (Rp.look s.b j X.at_ Q)).2.2.b).2.1.wk,c.map Col.fix,true⟩,(Rp.do_ s (Rp.look s.b j X.at_ Q)).2.2))):=by
  show _=_;unfold Wr.opens;rw[Sc.whole_of b0 b1]
 obtain⟨a0,a9⟩:∃a0,a0=w.alloc (qj #[mA p c.length aj] 35):=⟨_,rfl⟩;have bO:AX w.1.size w a0:=by rw[a9];exact gQy
 have ds:a0.1[w.1.size]?=I (qj #[mA p c.length aj] 35 (0,0)):=by rw[a9];exact am w _
 have cd:=gQq (ja c p aj a0 hc (d5.on bO) bX);have b8:=gQq bO;have cp:=gQq ds;have d9:=gQq a9.symm;have V:=gQq h;have co:=gQq d3;have cn:=gQq dr;have ea:=gQq d6;have bn:=gQq cw;have cj:=gQq bX;have ck:=gQq (And.intro b0 b1);obtain⟨R,cx⟩:∃R,R=Wr.opens s c:=⟨_,rfl⟩;rw[<-cx] at ak ⊢;clear h d3 dr d6 d5 cw bX b0 b1 cx bO ds a9;go_enter func16,ntmps16;go_wp2_with fail;rw[d9.out];refine cd.out.mono ?_;rintro fo w1 ⟨rfl,bT⟩;have J:=gQq (b8.out.trans (bT.mono b8.out.size));have cq:=gQq ((bT.block _ (ao cp.out)).trans cp.out);clear cd bT;by_cases a8:Sch.err c=0
 ·have a6:=gQq (ak.out.trans (AJ (fun hc=>hc a8)));have em:((Sch.err c:Int) != 0)=false:=bZ (by omega);have cc:=gQq a8;clear ak a8;cases hd:s.down with
  |true=>
   have K:=gQq (a6.out.trans (AK hd));have ah:=gQq (wE (V.out.below J.out) hd (cn.out.on J.out));clear a6 hd;go_wp2_with fail;refine ah.out.mono ?_;rintro ec D ⟨rfl,c7⟩;have b9:=gQq (J.out.trans (c7.mono J.out.size));clear c7 ah;go_wp2;go_ret2;rw[K.out];exact⟨s.told,v,x,k,by omega,V.out.below b9.out,af b9.out _,fun _ o=>C o,rfl⟩
  |false=>
   have K:=gQq (a6.out.trans (AJ (by rw[hd];decide)));have fy:=J.out.size;have ah:=gQq (kDo (V.out.below J.out) hd eL e0 ez e1 (co.out.next J.out) (cn.out.on J.out) bv ck.out.1 ck.out.2);have d8:=gQq hd;obtain⟨r,d0⟩:∃r,r=Rp.look s.b j X.at_ Q:=⟨_,rfl⟩;rw[<-d0] at ah K;clear a6 hd d0;go_wp2_with fail;refine ah.out.mono ?_;rintro ec D ⟨rfl,bk,L,b6,b4,f5,bi,bN,d4⟩;rw[uB] at bi;obtain⟨S,cy⟩:∃S,S=(Rp.do_ s r).2.2:=⟨_,rfl⟩;rw[<-cy] at bi K;have a5:Hid (Aside (fun i=>i=g∨v.ownBlock=I i) w D):=(af J.out _).trans bN (fun _ _ h=>h);have ct:Hid (∀i,L.ownBlock=I i->v.ownBlock=I i∨w.1.size<=i):=fun i o=>(d4 i o).imp id (fun h=>by omega);have f0:g<w.1.size:=V.out.lt;have b2:∀i,v.ownBlock=I i->i<w.1.size:=fun i o=>(V.out.has.lt i o).2;have a4:=(bN.block w.1.size (ao cq.out) (fun hc=>by
    rcases hc with hc | hc
    ·omega
    ·have:=b2 _ hc;omega)).trans cq.out
   have cr:=gQq a4;have bp:=gQq bi;have fi:=gQq b2;clear bi bN d4 ah a4 b2;by_cases bj:(Rp.do_ s r).2.1=0
   ·have bq:=gQq (K.out.trans (AJ (fun hc=>hc bj)));have en:(((Rp.do_ s r).2.1:Int) != 0)=false:=bZ (by omega);obtain⟨c5,er⟩:=zD bj d8.out;rw[<-cy] at c5 er;have f7:=a5.out.size;have ep:AX B w D:=a5.out.below eq (fun i o hc=>by
     rcases hc with hc | hc
     ·have:=V.out.base;omega
     ·have:=(V.out.has.lt i hc).1;omega)
    have c6:=oR (G:=fun i=>(i=g∨L.ownBlock=I i)∨E i) bp.out c5 (by show S.b.length<=_;omega) (by show bk<=_;omega) (co.out.on ep bv) bv (by omega) (fun i o=>C o) (fun i o=>by
     rcases o with (o | o) | o
     ·omega
     ·exact(bp.out.has.lt i o).2
     ·have:=bn.out i o;omega)
    have cu:Hid (AZ AW 10 #[Y (I ⟨g,0,U⟩)] D fun e w'=>∃(j:Nat) (at_ Q:Int) (t:Nat) (v':Value) (el:Int->Option Value),e=qz (oq #[Y (I ⟨D.1.size+1,0,U⟩),F N at_,F N Q])∧au w' D.1.size (D.1.size+1) D.1.size (j+1) v' el (Sc.whole S.b).2.1.wk (fun i=>(i=g∨L.ownBlock=I i)∨E i)∧av w' B g L { S with told:=t } b6 b4∧Aside (fun i=>i=g) D w'∧j<=2097152∧t<=bk+1000000000):=by
     refine c6.mono ?_;rintro eg ab ⟨b3,a2,cv,bl,bs,d7,e6,b5,Z,e7,e8⟩;obtain⟨-,ev,fs,f3⟩:=Sc.goes_good d7;have f4:=Sc.reads_le S.b a2.at_;have fv:S.b.length<=2097152:=(by omega);have fx:a2.at_<=S.b.length:=ev;refine⟨b3,(a2.at_:Nat),(cv:Nat),_,bl,bs,b5,?_,e7,e8,?_,?_⟩
     ·rw[Sc.whole_of d7 e6];exact Z
     ·omega
     ·show bk+a2.read+Sc.reads S.b a2.at_<=_;omega
    clear c6 K bj;go_wp2_with fail;refine cu.out.mono ?_;rintro eg ab ⟨b3,at3,cv,e9,bl,bs,rfl,a4,dj,bc,f2,f6⟩;have b7:Hid (Aside (fun i=>i=g∨v.ownBlock=I i) w ab):=a5.out.trans bc (fun i _ o=>C o);have ci:=gQq (nD c p aj ab hc (ea.out ab b7.out) cc.out cj.out);have du:=(bc.block w.1.size (ao cr.out) (fun hc=>by omega)).trans cr.out;have gb:ab.cell? ⟨w.1.size,0,U⟩=I (mA p c.length aj):=aa du 0;have aw:=gQq a4;have a7:=gQq dj;have f8:=bc.size;clear a4 dj bc du cu;go_wp2_with fail;refine ci.out.mono ?_;rintro fq w4 ⟨Z,a3,rfl,d1,c8⟩;have cs:=gQq d1;have cb:=gQq c8;clear d1 c8 ci;go_wp2;go_ret2;rw[bq.out];obtain⟨a1,bb⟩:∃W,W=w4.alloc (qj #[Y (I ⟨g,0,U⟩),Y (I ⟨D.1.size+1,0,U⟩),mA Z c.length a3,.bool true] 86):=⟨_,rfl⟩;rw[<-bb];have c9:AX w4.1.size w4 a1:=(by rw[bb];exact gQy);have eC:a1.1[w4.1.size]?=I (qj #[Y (I ⟨g,0,U⟩),Y (I ⟨D.1.size+1,0,U⟩),mA Z c.length a3,.bool true] 86):=(by rw[bb];exact am w4 _);have e5:=cb.out.size;have f9:a1.1.size=w4.1.size+1:=(by rw[bb];simp);have be:AX ab.1.size ab a1:=cb.out.trans (c9.mono e5);have e3:∀i,(i=w4.1.size∨i=g∨L.ownBlock=I i)∨E i->i<a1.1.size:=fun i o=>by
     rcases o with (o | o | o) | o
     ·omega
     ·omega
     ·have:=(a7.out.has.lt i o).2;omega
     ·have:=bn.out i o;omega
    have e4:=(aw.out.down19 (B':=B) (by omega)).aside (af be (fun i=>(i=g∨L.ownBlock=I i)∨E i)) (fun i (o:(i=w4.1.size∨i=g∨L.ownBlock=I i)∨E i)=>by
     rcases o with (o | o | o) | o
     ·exact sq (by omega)
     ·exact C (C (C o))
     ·exact C (C (sq o))
     ·exact C (sq o)) e3
    obtain⟨b5,eb,d2,dv,df,-⟩:=cs.out.lies.out;rw[List.length_map] at d2 dv df;have e2:mA Z c.length a3=mA b5 c.length eb:=(by simpa using d2);injection e2 with i1 i2 i3;subst i1 i3;have ew:Calm (j8 w4.1.size g L (D.1.size+1) D.1.size bl E) w4 Z (c.map Col.fix):=gG (n:=c.length) (c:=a3) cs.out (fun i o=>by
     rcases o with ((o | o | o) | o) | o
     ·exact sq (by omega)
     ·exact C (by omega)
     ·exact C (a7.out.has.lt i o).2
     ·exact C (by have:=bn.out i o;omega)
     ·exact C (by
       rcases o with o | o | o
       ·have:=aw.out.lt;omega
       ·have:=aw.out.lt;omega
       ·exact(aw.out.ents.lt i o).2))
    refine⟨e9,L,b6,b4,by omega,a7.out.below be,b7.out.trans (af be _) (fun _ _ h=>h),ct.out,w4.1.size,D.1.size+1,D.1.size,b3+1,bl,bs,Z,a3,rfl,⟨?_,a7.out.below be,e4,by omega,⟨by rw[List.length_map];exact df,by rw[List.length_map];exact dv⟩,Sc.fix_wf cc.out cj.out,ew.step (af c9 _) (fun _ h=>C h)⟩,by omega,by omega,by omega,by omega,fun i o=>by have:=(aw.out.ents.lt i o).1;omega⟩;rw[eC];simp[gY]
   ·have bq:=gQq (K.out.trans (AK bj));have en:(((Rp.do_ s r).2.1:Int) != 0)=true:=(by rw[bne_iff_ne];omega);clear K;go_wp2;go_ret2;rw[bq.out];exact⟨bk,L,b6,b4,by omega,bp.out,a5.out,ct.out,rfl⟩
 ·have K:=gQq (ak.out.trans (AK a8));have em:((Sch.err c:Int) != 0)=true:=by rw[bne_iff_ne];omega
  clear ak;go_wp2;go_ret2;rw[K.out];exact⟨s.told,v,x,k,by omega,V.out.below J.out,af J.out _,fun _ o=>C o,rfl⟩
end
end
section
open Go.RowKit Go.Maps
section
variable {w w':wv} {B a g m M n:Nat} {v e:Value} {x k:Nat} {gm:Int->Option Value} {q:OA} {cap:Nat} {z:Wr} {E E':Nat->Prop}
theorem KWr.bes(h:KWr w B a g m M n v e x k gm q cap z E)(D:Aside E w w')(K:¬E a)(L:¬E g)(Q:∀i,v.ownBlock=I i->¬E i)(J:∀i,E' i->E i∨w.1.size<=i)(S:∀i,E' i->i<w'.1.size):KWr w' B a g m M n v e x k gm q cap z E':=by
 refine⟨(D.block a h.lt K).trans h.lies,h.dev.aside D L Q,h.walk.aside (D.mono fun i _ o=>sq o) (fun i o=>?_) (fun i o=>?_),h.base,h.room,h.good,h.calm.step (D.mono fun i _ o=>C (sq o)) (fun i o=>?_)⟩
 ·rcases o with o | o
  ·exact C (C o)
  ·rcases J i o with y | y
   ·exact C (sq y)
   ·exact sq y
 ·rcases o with o | o
  ·exact AF (h.walk.low i (C o)) D.size
  ·exact S i o
 ·rcases o with (o | o) | o
  ·exact C (C (C o))
  ·rcases J i o with y | y
   ·exact C (C (sq y))
   ·exact sq y
  ·exact C (sq o)
end
structure Sd(w:wv)(B zb g:Nat)(A:Al)(O E:Nat->Prop)(nb:Nat):Prop where
 low:∀i,O i->B<=i∧i<w.1.size
 ozb:O zb
 og:O g
 apart:∀i,O i->¬E i
 eL:∀i,E i->i<w.1.size
 zg:g≠zb
 out:∃wp v x k,w.1[zb]?=I (qj #[Y (I ⟨g,0,U⟩),Y U,wp,Y U] 32 (0,0))∧(∀i,v.ownBlock=I i->O i∧i≠zb)∧av w B g v A.s x k∧match A.w with
  |none=>wp=Y U
  |some u=>∃a m M n e gm q cap,wp=Y (I ⟨a,0,U⟩)∧n<=nb∧O a∧a≠zb∧(∀i,bz m M e i->O i)∧KWr w B a g m M n v e x k gm q cap ⟨A.s,u.1,u.2.1,u.2.2⟩ (fun i=>E i∨i=zb)
section
variable {w w':wv} {B zb g nb:Nat} {A:Al} {O E E':Nat->Prop}
theorem Sd.other(h:Sd w B zb g A O E nb)(D:Aside E w w')(V:∀i,E' i->E i∨w.1.size<=i)(X:∀i,E' i->i<w'.1.size):Sd w' B zb g A O E' nb:=by
 have aw:∀i,O i->¬E' i:=fun i o y=>by
  rcases V i y with J | J
  ·exact h.apart i o J
  ·have:=(h.low i o).2;omega
 refine⟨fun i o=>⟨(h.low i o).1,AF (h.low i o).2 D.size⟩,h.ozb,h.og,aw,X,h.zg,?_⟩;obtain⟨wp,v,x,k,J,K,ak,L⟩:=h.out;refine⟨wp,v,x,k,(D.block zb (h.low zb h.ozb).2 (h.apart zb h.ozb)).trans J,K,ak.aside D (h.apart g h.og) (fun i o=>h.apart i (K i o).1),?_⟩;cases hw:A.w with
 |none=>rw[hw] at L;exact L
 |some u=>
  rw[hw] at L;obtain⟨a,m,M,n,e,gm,q,cap,Z,ab,Q,S,ah,aj⟩:=L;refine⟨a,m,M,n,e,gm,q,cap,Z,ab,Q,S,ah,aj.bes (D.mono fun i _ o=>C o) (fun y=>y.elim (h.apart a Q) S) (fun y=>y.elim (h.apart g h.og) h.zg) (fun i o y=>y.elim (h.apart i (K i o).1) (K i o).2) (fun i o=>?_) (fun i o=>?_)⟩
  ·rcases o with o | o
   ·exact(V i o).imp C id
   ·exact C (sq o)
  ·rcases o with o | o
   ·exact X i o
   ·rw[o];exact AF (h.low zb h.ozb).2 D.size
theorem oB{s:Dv.St}(h:(Wr.opens s c).2.1=U):(Wr.opens s c).1≠0:=by
 unfold Wr.opens at h ⊢;split
 ·next h1=>exact h1
 ·next h1=>
  rw[AJ h1] at h;split
  ·exact(by decide:(50:Nat)≠0)
  ·next h2=>
   rw[AJ h2] at h;dsimp only at h ⊢;split
   ·next h3=>exact h3
   ·next h3=>rw[AJ h3] at h;cases h
theorem oA{s:Dv.St}{z:Wr}(h:(Wr.opens s c).2.1=I z):(Wr.opens s c).1=0:=by
 unfold Wr.opens at h ⊢;split
 ·next h1=>rw[AK h1] at h;cases h
 ·next h1=>
  rw[AJ h1] at h;split
  ·next h2=>rw[AK h2] at h;cases h
  ·next h2=>
   rw[AJ h2] at h;dsimp only at h ⊢;split
   ·next h3=>rw[AK h3] at h;cases h
   ·rfl
def et(O:Nat->Prop)(w w':wv)(i:Nat):Prop:=O i∨(w.1.size<=i∧i<w'.1.size)
theorem gW(h:Sd w B zb g A O E nb)(D:Aside O w w'):(∀i,et O w w' i->B<=i∧i<w'.1.size)∧∀i,et O w w' i->¬E i:=by
 have J:B<=w.1.size:=by have:=h.low zb h.ozb;omega
 refine⟨fun i o=>?_,fun i o y=>?_⟩
 ·rcases o with o | o
  ·exact⟨(h.low i o).1,AF (h.low i o).2 D.size⟩
  ·exact⟨by omega,o.2⟩
 ·rcases o with o | o
  ·exact h.apart i o y
  ·have:=h.eL i y;omega
theorem gu{wp:Value}{s':Dv.St}(h:Sd w B zb g A O E nb)(aw:w.1[zb]?=I (qj #[Y (I ⟨g,0,U⟩),Y U,wp,Y U] 32 (0,0)))(D:∀i,v.ownBlock=I i->O i∧i≠zb)(J:match A.w with
  |none=>wp=Y U
  |some u=>∃a m M n e gm q cap,wp=Y (I ⟨a,0,U⟩)∧n<=nb∧O a∧a≠zb∧(∀i,bz m M e i->O i)∧KWr w B a g m M n v e x k gm q cap ⟨A.s,u.1,u.2.1,u.2.2⟩ (fun i=>E i∨i=zb))(hb:AX w.1.size w w0)(hd:av w1 B g v' s' x' k')(S:Aside (fun i=>i=g∨v.ownBlock=I i) w0 w1)(V:∀i,v'.ownBlock=I i->v.ownBlock=I i∨w0.1.size<=i):Sd w1 B zb g ⟨s',A.w⟩ (et O w w1) E nb∧Aside O w w1:=by
 have Q:Aside (fun i=>i=g∨v.ownBlock=I i) w w1:=(af hb _).trans S (fun _ _ h=>h);have K:Aside O w w1:=Q.mono (fun i _ o=>o.elim (fun o=>by rw[o];exact h.og) (fun o=>(D i o).1));have a1:=hb.size;have a0:=(h.low zb h.ozb).2;refine⟨⟨(gW h K).1,C h.ozb,C h.og,(gW h K).2,fun i o=>AF (h.eL i o) K.size,h.zg,wp,v',x',k',(Q.block zb a0 (fun y=>y.elim (fun y=>h.zg y.symm) (fun y=>(D _ y).2 rfl))).trans aw,fun i o=>?_,hd,?_⟩,K⟩
 ·rcases V i o with L | L
  ·exact⟨C (D i L).1,(D i L).2⟩
  ·exact⟨sq ⟨by omega,(hd.has.lt i o).2⟩,by omega⟩
 ·cases hw:A.w with
  |none=>rw[hw] at J;exact J
  |some u=>
   rw[hw] at J;obtain⟨a,m,M,n,e,gm,q,cap,X,Z,ab,ah,aj,ak⟩:=J;exact⟨a,m,M,n,e,gm,q,cap,X,Z,C ab,ah,fun i o=>C (aj i o),(ak.on hb).filed hd S V⟩
theorem eT{e S:Value}{m n' nb':Nat}{aw:OA}{cap Z:Nat}{gm aj:Int->Option Value}{z X:Wr}(h:Sd w B zb g A O E nb)(a1:w.1[zb]?=I (qj #[Y (I ⟨g,0,U⟩),Y U,Y (I ⟨a,0,U⟩),Y U] 32 (0,0)))(K:∀i,v.ownBlock=I i->O i∧i≠zb)(ab:O a)(ah:a≠zb)(J:∀i,bz m M e i->O i)(a0:KWr w B a g m M n v e x k gm q cap z (fun i=>E i∨i=zb))(hb:AX w.1.size w w0)(Q:KWr w1 B a g m M n' v' S x' k' aj aw Z X (fun i=>E i∨i=zb))(a4:n'<=nb')(a2:Aside (fun i=>i=a∨(i=g∨v.ownBlock=I i)∨bz m M e i) w0 w1)(a5:∀i,v'.ownBlock=I i->v.ownBlock=I i∨w0.1.size<=i)(a3:∀i,S.ownBlock=I i->e.ownBlock=I i∨w0.1.size<=i):Sd w1 B zb g ⟨X.s,I (Al.of X)⟩ (et O w w1) E nb'∧Aside O w w1:=by
 have ak:Aside (fun i=>i=a∨(i=g∨v.ownBlock=I i)∨bz m M e i) w w1:=(af hb _).trans a2 (fun _ _ h=>h);have L:Aside O w w1:=ak.mono (fun i _ o=>by
  rcases o with o | (o | o) | o
  ·rw[o];exact ab
  ·rw[o];exact h.og
  ·exact(K i o).1
  ·exact J i o)
 have a7:=hb.size;have a6:=(h.low zb h.ozb).2;have V:=a0.walk.off zb (sq (sq rfl));refine⟨⟨(gW h L).1,C h.ozb,C h.og,(gW h L).2,fun i o=>AF (h.eL i o) L.size,h.zg,_,v',x',k',(ak.block zb a6 (fun y=>?_)).trans a1,fun i o=>?_,Q.dev,?_⟩,L⟩
 ·rcases y with y | (y | y) | y | y | y
  ·exact ah y.symm
  ·exact h.zg y.symm
  ·exact(K _ y).2 rfl
  ·exact V.1 y
  ·exact V.2.1 y
  ·exact V.2.2 y
 ·rcases a5 i o with D | D
  ·exact⟨C (K i D).1,(K i D).2⟩
  ·exact⟨sq ⟨by omega,(Q.dev.has.lt i o).2⟩,by omega⟩
 ·refine⟨a,m,M,n',S,aj,aw,Z,rfl,a4,C ab,ah,fun i o=>?_,Q⟩;rcases o with o | o | o
  ·exact C (J i (C o))
  ·exact C (J i (sq (C o)))
  ·rcases a3 i o with D | D
   ·exact C (J i (sq (sq D)))
   ·exact sq ⟨by omega,(Q.walk.ents.lt i o).2⟩
theorem Sd.few(h:Sd w B zb g A O E nb){nb':Nat}(S:nb<=nb'):Sd w B zb g A O E nb':=by
 refine⟨h.low,h.ozb,h.og,h.apart,h.eL,h.zg,?_⟩;obtain⟨wp,v,x,k,J,K,L,o⟩:=h.out;refine⟨wp,v,x,k,J,K,L,?_⟩;cases hw:A.w with
 |none=>rw[hw] at o;exact o
 |some u=>
  rw[hw] at o;obtain⟨a,m,M,n,e,gm,q,cap,y,Q,D⟩:=o;exact⟨a,m,M,n,e,gm,q,cap,y,by omega,D⟩
def yG(w:wv)(B zb g nb:Nat)(O E:Nat->Prop)(r:Nat×Al)(told:Nat)(e1:Ending)(w1:wv):Prop:=e1=qz (F N (r.1:Nat))∧(∃t,t<=told+8000000000∧Sd w1 B zb g (r.2.tl t) (et O w w1) E (nb+2097153))∧Aside O w w1
theorem qw(h:Sd w B zb g A O E nb)(y:Op)(p b1:OA)(c rd:Nat)(eq:∀w',AX B w w'->dZ w' p c y.c)(b8:∀w',AX B w w'->cP w' b1 rd y.l)(e1:Fr.i64 y.n)(eC:Fr.i64 y.m){i:Nat}(ew:Dv.Fits A.s i)(o:i<=1000)(hm:A.s.told<=10000000000000)(hi:nb<=800000000)(e2:Hv w)(ev:He w)(dr:2<B):
  AZ AW 8 #[Y (I ⟨zb,0,U⟩),.agg #[F N y.kind,mA p y.c.length c,mA b1 y.l.length rd,F N y.n,F N y.m]] w (yG w B zb g nb O E (Al.step y A) A.s.told):=by
 obtain⟨S,d3⟩:∃S,S=y.kind:=⟨_,rfl⟩;rw[<-d3];have a6:=gQq d3;clear d3;obtain⟨Z,b9⟩:∃Z,Z=w.alloc (qj #[F N S,mA p y.c.length c,mA b1 y.l.length rd,F N y.n,F N y.m] 38):=⟨_,rfl⟩;have d0:AX w.1.size w Z:=by rw[b9];exact gQy
 have bs:Z.1[w.1.size]?=I (qj #[F N S,mA p y.c.length c,mA b1 y.l.length rd,F N y.n,F N y.m] 38 (0,0)):=by rw[b9];exact am w _
 have gq:Z.1.size=w.1.size+1:=by rw[b9];simp
 obtain⟨wp,v,x,k,cc,cv,ez,e0⟩:=h.out;have gt:=(h.low zb h.ozb).2;have cj:B<=w.1.size:=by have:=h.low zb h.ozb;omega
 have ha:g<w.1.size:=(h.low g h.og).2;have cr:=(d0.block zb gt).trans cc;have b3:Hid (∀w1,Aside (fun i=>i≠zb∧i≠w.1.size) Z w1->(w1.1[zb]?=I (qj #[Y (I ⟨g,0,U⟩),Y U,wp,Y U] 32 (0,0))∧w1.1[w.1.size]?=I (qj #[F N S,mA p y.c.length c,mA b1 y.l.length rd,F N y.n,F N y.m] 38 (0,0)))):=fun w1 bX=>⟨(bX.block zb (by omega) (fun J=>J.1 rfl)).trans cr,(bX.block w.1.size (by omega) (fun J=>J.2 rfl)).trans bs⟩;have hn:=aa bs 0;have d7:=aa bs 1;have gz:=aa bs 2;have gL:=aa bs 3;have gN:=aa bs 4;have z0:=aa cr 0;have z2:=aa cr 2;have ho:∀bO,(w.alloc bO).cell? ⟨zb,0,U⟩=I (Y (I ⟨g,0,U⟩)):=fun bO=>ae (gQz.alloc gQx bO) (aa cc 0);have hp:∀bO,(w.alloc bO).cell? ⟨zb,2,U⟩=I wp:=fun bO=>ae (gQz.alloc gQx bO) (aa cc 2);have D:=gQq h;have c5:=gQq eq;have fs:=gQq b8;have bj:=gQq ew;have c8:=gQq e2;have fc:=gQq ev;have fo:=gQq e1;have fi:=gQq eC;have K:=gQq d0;have bc:=gQq cc;have aj:=gQq cv;have ci:=gQq ez;have bT:=gQq e0;have a8:=gQq b9.symm;have cd:Hid (∀i,(i=g∨v.ownBlock=I i)->i≠zb∧i≠w.1.size):=fun i o=>by
  rcases o with o | o
  ·rw[o];exact⟨h.zg,by omega⟩
  ·exact⟨(cv i o).2,by have:=(h.low i (cv i o).1).2;omega⟩
 have bk:Hid ((Al.step y A).2.tl A.s.told=(Al.step y A).2):=by
  have:=Al.step_tl A.s.told y A;rw[show A.tl A.s.told=A from rfl] at this;exact(congrArg Prod.snd this).symm
 clear h eq b8 ew e2 ev e1 eC d0 bs cr cc cv ez e0 b9;go_enter func8,ntmps8;by_cases a0:S=1
 ·have f2:(S==1)=true:=dq a0;have bv:=c5.out _ (K.out.drew.mono cj);have er:∀w',Aside (fun i=>i=g∨v.ownBlock=I i) Z.drew w'->AX B w w':=fun w' bX=>(K.out.drew.mono cj).trans (bX.below (by have:=K.out.size;simp;omega) (fun i o J=>by
   rcases J with J | J
   ·have:=(D.out.low g D.out.og).1;omega
   ·have:=(D.out.low i (aj.out i J).1).1;omega))
  have b7:=qg (ci.out.below K.out.drew) (fun i=>E i∨i=zb) (fun i o=>by
   rcases o with o | o
   ·have:=D.out.eL i o;simp;omega
   ·simp;omega) y.c p c bv.len bv.cols bv.wf (fun w' bX=>(c5.out w' (er w' bX)).cols) (by have:=bj.out.len;omega) bj.out.safe (by have:=bj.out.done;omega) (by omega) (c8.out.next K.out.drew) (fc.out.on K.out.drew) dr (by simp;omega)
  have L:Hid (Al.step y A=((Wr.opens A.s y.c).1,⟨(Wr.opens A.s y.c).2.2,match (Wr.opens A.s y.c).2.1 with | some z=>I (Al.of z) | none=>A.w⟩)):=by
   show _=_;unfold Al.step;rw[<-a6.out,AK a0];rfl
  have g4:=gQq a0;have cs:(Wr.opens A.s y.c).2.1=U->(Wr.opens A.s y.c).1≠0:=oB;have ct:∀z,(Wr.opens A.s y.c).2.1=I z->(Wr.opens A.s y.c).1=0∧z.s=(Wr.opens A.s y.c).2.2:=fun z e4=>⟨oA e4,(Wr.opens_fit bj.out y.c).2 z e4⟩;obtain⟨R,b8⟩:∃R,R=Wr.opens A.s y.c:=⟨_,rfl⟩;rw[<-b8] at b7 L cs ct;clear b8 bv er a0;obtain⟨eb,ro,g3⟩:=R;cases ro with
  |none=>
   have gn:eb≠0:=cs rfl;have g8:((eb:Int)==0)=false:=bf (by omega);have a3:Hid (AZ AW 16 #[Y (I ⟨g,0,U⟩),.agg #[mA p y.c.length c]] Z.drew fun a4 w1=>a4=qz (oq #[Y U,F N (eb:Nat)])∧∃t v' x' k',t<=A.s.told+8000000000∧av w1 B g v' { g3 with told:=t } x' k'∧Aside (fun i=>i=g∨v.ownBlock=I i) Z.drew w1∧(∀i,v'.ownBlock=I i->v.ownBlock=I i∨Z.drew.1.size<=i)):=b7.mono fun _ _ ⟨t,v',x',k',cx,g0,d8,d9,ea⟩=>⟨ea,t,v',x',k',cx,g0,d8,d9⟩;clear b7 cs ct gn;go_wp2_with fail;rw[a8.out]
   go_region_held3 (fun w'=>w'.cell? ⟨zb,0,U⟩=I (Y (I ⟨g,0,U⟩))∧w'.cell? ⟨zb,2,U⟩=I wp∧w'.cell? ⟨w.1.size,1,U⟩=I (mA p y.c.length c)) (go_keep) (first|(go_at_call 16;refine a3.out.mono ?_;rintro a4 w1 ⟨rfl,cy,bi,bp,bq,d6,bn,Q,ah⟩;obtain⟨ab,aw⟩:=b3.out w1 ((af gQz.drew _).trans Q (fun i _ o=>cd.out i o));have z0:=aa ab 0;have z2:=aa ab 2;have d7:=aa aw 1;have V:=gQq (gu D.out bc.out aj.out bT.out K.out.drew bn Q ah);clear bn Q ah ab aw)|fail)
   go_wp2;go_ret;exact⟨by rw[L.out];rfl,⟨cy,d6,by rw[L.out];exact V.out.1.few (by omega)⟩,V.out.2⟩
  |some z=>
   obtain⟨rfl,e5⟩:=ct z rfl;have a3:Hid (AZ AW 16 #[Y (I ⟨g,0,U⟩),.agg #[mA p y.c.length c]] Z.drew fun a4 w1=>∃t v' x' k' a m M n e gm q cap,a4=qz (oq #[Y (I ⟨a,0,U⟩),F N 0])∧t<=A.s.told+8000000000∧Aside (fun i=>i=g∨v.ownBlock=I i) Z.drew w1∧(∀i,v'.ownBlock=I i->v.ownBlock=I i∨Z.drew.1.size<=i)∧KWr w1 B a g m M n v' e x' k' gm q cap { z with s:={ z.s with told:=t } } (fun i=>E i∨i=zb)∧n<=2097153∧Z.drew.1.size<=a∧Z.drew.1.size<=m∧Z.drew.1.size<=M∧∀i,e.ownBlock=I i->Z.drew.1.size<=i):=b7.mono fun _ _ ⟨t,v',x',k',cx,_,d8,d9,a,m,M,n,e,gm,q,cap,ea,g1,g2⟩=>⟨t,v',x',k',a,m,M,n,e,gm,q,cap,ea,cx,d8,d9,g1,g2⟩;have fv:=gQq e5;clear b7 cs ct e5;go_wp2_with fail;rw[a8.out]
   go_region_held3 (fun w'=>w'.cell? ⟨zb,0,U⟩=I (Y (I ⟨g,0,U⟩))∧w'.cell? ⟨zb,2,U⟩=I wp∧w'.cell? ⟨w.1.size,1,U⟩=I (mA p y.c.length c)) (go_keep) (first|(go_at_call 16;refine a3.out.mono ?_;rintro a4 w1 ⟨cy,bi,bp,bq,a,m,M,n,e,gm,q,cap,rfl,d6,Q,ah,a9,d4,hc,he,hf,gl⟩;obtain⟨ab,aw⟩:=b3.out w1 ((af gQz.drew _).trans Q (fun i _ o=>cd.out i o));have z0:=aa ab 0;have z2:=aa ab 2;have g7:=ac ab 2;have d7:=aa aw 1;have fq:=gQq ab;have ec:=gQq Q;have en:=gQq ah;have em:=gQq a9;clear Q ah a9 ab aw)|fail)
   go_wp2;go_ret;obtain⟨b6,du⟩:∃W,W=w1.setCell ⟨zb,2,U⟩ (Y (I ⟨a,0,U⟩)):=⟨_,rfl⟩;rw[<-du];have d5:Aside (fun i=>i=zb) w1 b6:=(by rw[du];exact(Aside.refl (fun i=>i=zb) w1).setCell (p:=⟨zb,2,U⟩) (C rfl) _);have gs:b6.1[zb]?=I (qj #[Y (I ⟨g,0,U⟩),Y U,Y (I ⟨a,0,U⟩),Y U] 32 (0,0)):=(by rw[du];exact bU fq.out 2 _);have hk:=ec.out.size;have hl:=d5.size;have hj:Z.drew.1.size=w.1.size+1:=gq;have d2:=D.out.eL;have e3:∀i,bi.ownBlock=I i->et O w b6 i∧i≠zb:=fun i o=>by
    have hg:=(em.out.dev.has.lt i o).2;rcases en.out i o with bl | bl
    ·exact⟨C (aj.out i bl).1,(aj.out i bl).2⟩
    ·exact⟨sq ⟨by omega,by omega⟩,by omega⟩
   have gd:Aside O w w1:=(af K.out.drew _).trans (ec.out.mono (fun i _ o=>o.elim (fun o=>by rw[o];exact D.out.og) (fun o=>(aj.out i o).1))) (fun _ _ h=>h);have ck:Aside O w b6:=gd.trans d5 (fun i _ o=>by rw[o];exact D.out.ozb);have cb:KWr b6 B a g m M n bi e bp bq gm q cap { z with s:={ z.s with told:=cy } } (fun i=>E i∨i=zb):=em.out.besides (d5.mono fun i _ o=>sq o) (fun J=>J.elim (fun J=>by have:=d2 a J;omega) (fun J=>by omega)) (fun J=>J.elim (D.out.apart g D.out.og) D.out.zg) (fun i o J=>by
    rcases J with J | J
    ·rcases en.out i o with bl | bl
     ·exact D.out.apart i (aj.out i bl).1 J
     ·have:=d2 i J;omega
    ·exact(e3 i o).2 J) (fun _ h=>h)
   rw[fv.out] at cb;have gh:=cb.lt;refine⟨by rw[L.out];rfl,⟨cy,d6,?_⟩,ck⟩;rw[L.out];refine⟨(gW D.out ck).1,C D.out.ozb,C D.out.og,(gW D.out ck).2,fun i o=>AF (d2 i o) ck.size,D.out.zg,_,bi,bp,bq,gs,e3,cb.dev,a,m,M,n,e,gm,q,cap,rfl,by omega,sq ⟨by omega,gh⟩,by omega,fun i o=>sq ⟨?_,cb.low i (sq o)⟩,cb⟩;rcases o with o | o | o
   ·omega
   ·omega
   ·have:=gl i o;omega
 ·have f2:(S==1)=false:=bf a0;by_cases a5:S=7
  ·have f7:(S==7)=true:=dq a5;have c7:=gQq (zn (ci.out.below K.out.drew) y.n y.m fo.out.2 fi.out.2);have L:Hid (Al.step y A=((Dv.fail A.s y.n y.m).1,⟨(Dv.fail A.s y.n y.m).2,A.w⟩)):=by
    show _=_;unfold Al.step;rw[<-a6.out,AJ a0,AK a5]
   have f0:=gQq a5;clear a0 a5;go_wp2_with fail;rw[a8.out]
   go_region_held3 (fun w'=>w'.cell? ⟨zb,0,U⟩=I (Y (I ⟨g,0,U⟩))∧w'.cell? ⟨w.1.size,3,U⟩=I (F N y.n)∧w'.cell? ⟨w.1.size,4,U⟩=I (F N y.m)) (go_keep) (first|(go_at_call 23;refine c7.out.mono ?_;rintro a4 w1 ⟨rfl,bi,bp,bq,bn,Q,ah⟩;obtain⟨ab,aw⟩:=b3.out w1 ((af gQz.drew _).trans Q (fun i _ o=>cd.out i o));have z0:=aa ab 0;have gL:=aa aw 3;have gN:=aa aw 4;have V:=gQq (gu D.out bc.out aj.out bT.out K.out.drew bn Q ah);clear bn Q ah ab aw)|fail)
   go_wp2;go_ret;exact⟨by rw[L.out];rfl,⟨A.s.told,by omega,by rw[bk.out,L.out];exact V.out.1.few (by omega)⟩,V.out.2⟩
  ·have f7:(S==7)=false:=bf a5;by_cases be:S=8
   ·have f8:(S==8)=true:=dq be;have c7:=gQq (xX (ci.out.below K.out));have L:Hid (Al.step y A=((Dv.start A.s).1,⟨(Dv.start A.s).2,A.w⟩)):=by
     show _=_;unfold Al.step;rw[<-a6.out,AJ a0,AJ a5,AK be]
    have f0:=gQq be;clear a0 a5 be;go_wp2_with fail;rw[a8.out];refine c7.out.mono ?_;rintro a4 w1 ⟨rfl,bi,bp,bq,bn,Q,ah⟩;have V:=gQq (gu D.out bc.out aj.out bT.out K.out bn Q ah);clear bn Q ah;go_wp2;go_ret;exact⟨by rw[L.out];rfl,⟨A.s.told,by omega,by rw[bk.out,L.out];exact V.out.1.few (by omega)⟩,V.out.2⟩
   ·have f8:(S==8)=false:=bf be;obtain⟨dj,b0⟩:∃dj,dj=A.w:=⟨_,rfl⟩;rw[<-b0] at bT;have fx:=gQq b0;cases dj with
    |none=>
     have cw:=bT.out;simp only at cw;subst cw;have L:Hid (Al.step y A=(0,A)):=by
      show _=_;unfold Al.step;rw[<-a6.out,AJ a0,AJ a5,AJ be,<-b0]
     clear a0 a5 be b0;go_wp2;rw[a8.out];go_ret;refine⟨by rw[L.out];rfl,⟨A.s.told,by omega,?_⟩,af K.out _⟩;rw[bk.out,L.out];have bl:=gu (x:=x) (k:=k) D.out bc.out aj.out (by rw[<-fx.out]) gQz (ci.out.below K.out) (af K.out _) (fun _ o=>C o);exact bl.1.few (by omega)
    |some u=>
     obtain⟨a,m,M,n,e,gm,q,cap,cw,hh,cn,cp,ds,cq⟩:=bT.out;subst cw;have eg:Hid (Al.step y A=((Al.does y ⟨A.s,u.1,u.2.1,u.2.2⟩).1,⟨(Al.does y ⟨A.s,u.1,u.2.1,u.2.2⟩).2.s,I (Al.of (Al.does y ⟨A.s,u.1,u.2.1,u.2.2⟩).2)⟩)):=by
      show _=_;unfold Al.step;rw[<-a6.out,AJ a0,AJ a5,AJ be,<-b0]
     have a2:=eg;obtain⟨X,dv⟩:∃X:Wr,X=⟨A.s,u.1,u.2.1,u.2.2⟩:=⟨_,rfl⟩;have co:X.s=A.s:=(by rw[dv]);rw[<-dv] at a2 cq;have cu:=cq.walk.off zb (sq (sq rfl));have el:Hid (∀i,(i=a∨(i=g∨v.ownBlock=I i)∨bz m M e i)->i≠zb∧i≠w.1.size):=fun i o=>by
      rcases o with o | o | o
      ·rw[o];exact⟨cp,by have:=(D.out.low a cn).2;omega⟩
      ·exact cd.out i o
      ·refine⟨fun J=>?_,by have:=(D.out.low i (ds i o)).2;omega⟩;rw[J] at o;rcases o with o | o | o
       ·exact cu.1 o
       ·exact cu.2.1 o
       ·exact cu.2.2 o
     have c6:Hid (¬(E a∨a=zb)∧¬(E g∨g=zb)∧∀i,v.ownBlock=I i->¬(E i∨i=zb)):=⟨fun J=>J.elim (D.out.apart a cn) cp,fun J=>J.elim (D.out.apart g D.out.og) D.out.zg,fun i o J=>J.elim (D.out.apart i (aj.out i o).1) (aj.out i o).2⟩;have a7:=gQq cq;have b4:=gQq cn;have b2:=gQq cp;have b5:=gQq ds;have e6:X.s.safe<=X.s.b.length:=(by rw[co];exact bj.out.safe);have e7:X.s.b.length<=2097152:=(by rw[co];have:=bj.out.len;omega);have e8:X.s.most<=1048576:=(by rw[co];exact bj.out.most);have e9:X.s.done<4611686018425290752:=(by rw[co];have:=bj.out.done;omega);have d4:n<900000000:=(by omega);clear cq cn cp ds cu dv eg a0 a5 be b0;by_cases ak:S=2
     ·have f3:(S==2)=true:=dq ak;have L:Hid (Al.does y X=X.append y.l):=(by show _=_;unfold Al.does;rw[<-a6.out,AK ak]);have df:=gQq ak;clear ak;have a3:=gQq (kE (a7.out.on K.out.drew) c6.out (fs.out _ (K.out.drew.mono cj)) (c8.out.next K.out.drew) dr d4 e6 e7 e8 e9);go_wp2_with fail;rw[a8.out]
      go_region_held3 (fun w'=>w'.cell? ⟨zb,2,U⟩=I (Y (I ⟨a,0,U⟩))∧w'.cell? ⟨w.1.size,2,U⟩=I (mA b1 y.l.length rd)) (go_keep) (first|(go_at_call 15;refine a3.out.mono ?_;rintro a4 w1 ⟨rfl,⟨⟨bi,f9,bp,bq,gb,a9,ah,d1⟩,Q⟩⟩;obtain⟨ab,aw⟩:=b3.out w1 ((af gQz.drew _).trans Q (fun i _ o=>el.out i o));have z2:=aa ab 2;have gz:=aa aw 2;have V:=gQq (eT (nb':=nb+2097153) D.out bc.out aj.out b4.out b2.out b5.out a7.out K.out.drew a9 (by omega) Q ah d1);clear Q ab aw)|fail)
      go_wp2;go_ret;exact⟨by rw[a2.out,L.out];rfl,⟨A.s.told,by omega,by rw[bk.out,a2.out,L.out];exact V.out.1⟩,V.out.2⟩
     ·have f3:(S==2)=false:=bf ak;by_cases a1:S=3
      ·have f4:(S==3)=true:=dq a1;have L:Hid (Al.does y X=X.change y.c):=(by show _=_;unfold Al.does;rw[<-a6.out,AJ ak,AK a1]);have bv:=c5.out _ (K.out.drew.mono cj);have df:=gQq ak;have ep:=gQq a1;have c9:=gQq bv;clear ak a1 bv;have a3:=gQq (rL (a7.out.on K.out.drew) y.c p c c9.out.len c9.out.cols c9.out.wf);go_wp2_with fail;rw[a8.out]
       go_region_held3 (fun w'=>w'.cell? ⟨zb,2,U⟩=I (Y (I ⟨a,0,U⟩))∧w'.cell? ⟨w.1.size,1,U⟩=I (mA p y.c.length c)) (go_keep) (first|(go_at_call 25;refine a3.out.mono ?_;rintro a4 w1 ⟨rfl,⟨cx,g6,a9⟩,Q⟩;obtain⟨ab,aw⟩:=b3.out w1 ((af gQz.drew _).trans Q (fun i _ o=>el.out i (C o)));have z2:=aa ab 2;have d7:=aa aw 1;have V:=gQq (eT (nb':=nb+2097153) D.out bc.out aj.out b4.out b2.out b5.out a7.out K.out.drew a9 (by omega) (Q.mono fun i _ o=>C o) (fun _ o=>C o) (fun _ o=>C o));clear Q ab aw)|fail)
       go_wp2;go_ret;exact⟨by rw[a2.out,L.out];rfl,⟨A.s.told,by omega,by rw[bk.out,a2.out,L.out];exact V.out.1⟩,V.out.2⟩
      ·have f4:(S==3)=false:=bf a1;by_cases bb:S=4
       ·have f5:(S==4)=true:=dq bb;have L:Hid (Al.does y X=X.sync):=(by show _=_;unfold Al.does;rw[<-a6.out,AJ ak,AJ a1,AK bb]);have df:=gQq ak;have ep:=gQq a1;have fy:=gQq bb;clear ak a1 bb;have a3:=gQq (vW (a7.out.on K.out) c6.out);go_wp2_with fail;rw[a8.out];refine a3.out.mono ?_;rintro a4 w1 ⟨rfl,⟨⟨bi,bp,bq,a9,ah⟩,Q⟩⟩;have V:=gQq (eT (nb':=nb+2097153) D.out bc.out aj.out b4.out b2.out b5.out a7.out K.out a9 (by omega) (Q.mono fun i _ o=>o.elim C (fun o=>sq (C o))) ah (fun _ o=>C o));clear Q;go_wp2;go_ret;exact⟨by rw[a2.out,L.out];rfl,⟨A.s.told,by omega,by rw[bk.out,a2.out,L.out];exact V.out.1⟩,V.out.2⟩
       ·have f5:(S==4)=false:=bf bb;by_cases bN:S=5
        ·have f6:(S==5)=true:=dq bN;have L:Hid (Al.does y X=(X.close.2.1,X.close.2.2)):=(by show _=_;unfold Al.does;rw[<-a6.out,AJ ak,AJ a1,AJ bb,AK bN]);have df:=gQq ak;have ep:=gQq a1;have fy:=gQq bb;have g5:=gQq bN;clear ak a1 bb bN;have a3:=gQq (na (a7.out.on K.out) c6.out (c8.out.next K.out) dr d4 e6 e7 e8 e9);go_wp2_with fail;rw[a8.out];refine a3.out.mono ?_;rintro a4 w1 ⟨rfl,⟨⟨bi,f9,bp,bq,gb,a9,ah,d1⟩,Q⟩⟩;have V:=gQq (eT (nb':=nb+2097153) D.out bc.out aj.out b4.out b2.out b5.out a7.out K.out a9 (by omega) Q ah d1);clear Q;go_wp2;go_ret;exact⟨by rw[a2.out,L.out];rfl,⟨A.s.told,by omega,by rw[bk.out,a2.out,L.out];exact V.out.1⟩,V.out.2⟩
        ·have f6:(S==5)=false:=bf bN;have L:Hid (Al.does y X=(0,X)):=(by show _=_;unfold Al.does;rw[<-a6.out,AJ ak,AJ a1,AJ bb,AJ bN]);have V:=gQq (eT (nb':=nb+2097153) D.out bc.out aj.out b4.out b2.out b5.out a7.out gQz (a7.out.on K.out) (by omega) (af K.out _) (fun _ o=>C o) (fun _ o=>C o));clear ak a1 bb bN;go_wp2;rw[a8.out];go_ret;exact⟨by rw[a2.out,L.out];rfl,⟨A.s.told,by omega,by rw[bk.out,a2.out,L.out];exact V.out.1⟩,V.out.2⟩
end
end
section
open Go.RowKit Go.Maps
def opC(o:Op)(p:OA)(c:Nat)(rq:OA)(rd:Nat):List Value:=[F N o.kind,mA p o.c.length c,mA rq o.l.length rd,F N o.n,F N o.m]
def ve(w:wv)(q:OA)(l:List Op):Prop:=∀j (hj:j<l.length),∃b t p c rq rd,q=I ⟨b,t,U⟩∧b<w.1.size∧(∀m,m<5->w.cell? ⟨b,t+j*5+m,U⟩=(opC l[j] p c rq rd)[m]?)∧dZ w p c l[j].c∧cP w rq rd l[j].l∧Fr.i64 l[j].n∧Fr.i64 l[j].m
theorem ve.on{l:List Op}(h:ve w q l)(hb:AX w.1.size w w'):ve w' q l:=fun j X=>by
 obtain⟨b,t,p,c,D,rd,J,K,L,Q,S,V⟩:=h j X;exact⟨b,t,p,c,D,rd,J,AF K hb.size,fun m y=>by
  have o:=L m y;have Z:m<(opC l[j] p c D rd).length:=y;rw[List.getElem?_eq_getElem Z] at o ⊢
  exact ae hb o,Q.on hb,S.on hb,V⟩
theorem jR{s:Dv.St}(h:av w B g v s x k){T:L8}(Q:s.b=T)(V:T.length<=2097152){D:ByteArray}(S:D=textOf T):∀w',AX w.1.size w w'->AZ AW 9 #[Y (I ⟨g,0,U⟩)] w' fun e o=>∃q cap,e=qz (mA q T.length cap)∧(convert 40 9 (mA q T.length cap)).run AW o=.ok (.string D) o∧(∀y,AX o.1.size o y->(convert 40 9 (mA q T.length cap)).run AW y=.ok (.string D) y)∧AX w.1.size w o∧AX w'.1.size w' o:=fun w' hb=>by
 subst Q;refine(zV (h.below hb) V).mono ?_;rintro e o ⟨q,cap,Z,ab,K⟩;obtain⟨ak,ah,L,J,aj⟩:=ab.at;injection L with i1 _ i3;subst i1;subst i3;rw[S];exact⟨q,cap,Z,dp J cap,fun y X=>dp (J.on X) cap,hb.trans (K.mono hb.size),K⟩
theorem av.down19{s:Dv.St}(h:av w B g v s x k)(o:B'<=B):av w B' g v s x k:=⟨h.lies,h.has.low o,AG o h.base,h.due,h.left,h.keep⟩
theorem Sd.on{zb nb:Nat}{A:Al}{O E:Nat->Prop}(h:Sd w B zb g A O E nb)(hb:AX w.1.size w w'):Sd w' B zb g A O E nb:=h.other (af hb _) (fun _ o=>C o) (fun i o=>AF (h.eL i o) hb.size)
theorem Al.step_tl2(t y:Nat)(o:Op)(A:Al):(Al.step o (A.tl t)).2.tl y=(Al.step o A).2.tl y:=by
 rw[Al.step_tl];rfl
structure Tw(w1 wr:wv)(B z1 g1 z2 g2 t:Nat)(A:Al):Prop where
 out:∃O1 O2 t1 t2 nb,Sd wr B z1 g1 (A.tl t1) O1 O2 nb∧Sd wr B z2 g2 (A.tl t2) O2 O1 nb∧t1<=t*8000000000∧t2<=t*8000000000∧nb<=t*2097153
 fits:Dv.Fits A.s (2*t)
 below:AX B w1 wr
theorem Tw.on{wr:wv}{z1 o z2 y t:Nat}{A:Al}(h:Tw w1 wr B z1 o z2 y t A)(S:B<=wr.1.size)(hb:AX wr.1.size wr w'):Tw w1 w' B z1 o z2 y t A:=by
 obtain⟨D,J,V,X,nb,K,L,Q⟩:=h.out;exact⟨⟨D,J,V,X,nb,K.on hb,L.on hb,Q⟩,h.fits,h.below.trans (hb.mono S)⟩
theorem jX(dr:∀w,Hv w->He w->AZ AW 6 #[] w fun e w'=>e=qz (.bool true)∧AX w.1.size w w')(n:Int)(ev:Fr.i64 n)(l:List Op)(q:OA)(d:Nat)(w:wv)(el:ve w q l)(g4:l.length<=2000000000000)(ct:Hv w)(cn:He w):
  AZ AW 3 #[F N n,mA q l.length d] w fun e w'=>e=qz (.bool true)∧AX w.1.size w w':=by
 have df:=gQq (dr w ct cn);have dv:=gQq el;have cc:=gQq ct;have c9:=gQq cn;have gz:=gQq ev;clear el ct cn dr ev;go_enter func3,ntmps3;go_wp2_with fail;refine df.out.mono ?_;rintro e w1 ⟨rfl,Q⟩;have aj:=gQq Q;clear df Q;by_cases hl:n<0
 ·go_wp2;go_ret;exact⟨rfl,aj.out⟩
 by_cases hm:1048576<n
 ·go_wp2;go_ret;exact⟨rfl,aj.out⟩
 by_cases hi:(60:Int)<(l.length:Int)
 ·go_wp2;go_ret;exact⟨rfl,aj.out⟩
 obtain⟨a8,rfl⟩:∃a8:Nat,n=(a8:Int):=⟨n.toNat,by omega⟩;have co:a8<=1048576:=by omega
 have g5:l.length<=60:=by omega
 have ds:=gQq (ly a8 co w1);go_wp2_with fail;refine ds.out.mono ?_;rintro e J ⟨rfl,b3,en⟩;have b9:=gQq b3;have be:=gQq en;have du:=gQq (ly a8 co J);clear b3 en ds;go_wp2_with fail;refine du.out.mono ?_;rintro e D ⟨rfl,b4,ep⟩;have cb:=gQq b4;have ak:=gQq ep;clear b4 ep du;have cu:=be.out.size;have cv:=ak.out.size;have f9:=b9.out.lt;have gb:=cb.out.lt;obtain⟨a0,a3⟩:∃W,W=(D.alloc (qj #[Y (I ⟨w1.1.size,0,U⟩),Y U,Y U,Y U] 32)).alloc (qj #[Y (I ⟨J.1.size,0,U⟩),Y U,Y U,Y U] 32):=⟨_,rfl⟩;have b2:AX D.1.size D a0:=by rw[a3];exact gQy.alloc (by simp) _
 have gh:a0.1.size=D.1.size+2:=by rw[a3];simp
 have K:a0.1[D.1.size]?=I (qj #[Y (I ⟨w1.1.size,0,U⟩),Y U,Y U,Y U] 32 (0,0)):=by rw[a3,ax _ _ (by simp)];exact am D _
 have S:a0.1[D.1.size+1]?=I (qj #[Y (I ⟨J.1.size,0,U⟩),Y U,Y U,Y U] 32 (0,0)):=by
  rw[a3];have:=am (D.alloc (qj #[Y (I ⟨w1.1.size,0,U⟩),Y U,Y U,Y U] 32)) (qj #[Y (I ⟨J.1.size,0,U⟩),Y U,Y U,Y U] 32);simpa using this
 have cd:Hid (Tw w1 a0 w1.1.size D.1.size w1.1.size (D.1.size+1) J.1.size 0 ⟨Dv.new a8,U⟩):=by
  refine⟨⟨fun i=>i=D.1.size∨i=w1.1.size,fun i=>i=D.1.size+1∨i=J.1.size,0,0,0,?_,?_,gQx,gQx,gQx⟩,⟨gQx,Nat.zero_le _,co,Nat.zero_le _⟩,(be.out.trans (ak.out.mono cu)).trans (b2.mono (by omega))⟩
  ·exact⟨fun i y=>⟨by omega,by omega⟩,C rfl,sq rfl,fun i y Z=>by omega,fun i y=>by omega,by omega,_,mA U 0 0,0,0,K,(fun i y=>nomatch y),(b9.out.below ak.out).below b2,rfl⟩
  ·exact⟨fun i y=>⟨by omega,by omega⟩,C rfl,sq rfl,fun i y Z=>by omega,fun i y=>by omega,by omega,_,mA U 0 0,0,0,S,(fun i y=>nomatch y),(cb.out.below b2).down19 cu,rfl⟩
 have f2:=gQq a3.symm;obtain⟨B,bT⟩:∃B,B=w1.1.size:=⟨_,rfl⟩;obtain⟨z1,eL⟩:∃z1,z1=D.1.size:=⟨_,rfl⟩;obtain⟨a2,er⟩:∃a2,a2=J.1.size:=⟨_,rfl⟩;have V:w.1.size<=B:=by rw[bT];exact aj.out.size
 have g2:B<=a0.1.size:=by omega
 have eg:2<B:=AF cc.out.lt V;have gt:=gQq bT;clear K S b2 a3;go_wp2_with fail;rw[f2.out];rw[<-bT,<-eL,<-er] at cd ⊢;clear cu cv f9 gb gh bT eL er b9 cb be ak;go_loopw [59] (fun cy wr=>∃(t:Nat) (A:Al),t<=l.length∧cy=F N t∧Hid (Tw w1 wr B z1 B (z1+1) a2 t A)) (fun cy _=>l.length-(intOf cy).toNat);case atStart=>exact⟨0,_,by omega,rfl,cd⟩
 case round=>
  obtain⟨t,A,g7,rfl,X⟩:=hrel;clear cd;by_cases cs:t<l.length
  ·have f3:(t:Int)<(l.length:Int):=(by omega);have a5:=aj.out.trans (X.out.below.mono V);obtain⟨b,ah,p,c,e2,rd,rfl,g3,ab,eC,ez,b7,b6⟩:=(dv.out.on a5) t cs;obtain⟨o,b5⟩:∃o,o=l[t]:=⟨_,rfl⟩;rw[<-b5] at ab eC ez b7 b6;have gn:wr.cell? ⟨b,ah+t*5,U⟩=I (F N o.kind):=ab 0 (by omega);have e9:wr.cell? ⟨b,ah+t*5+1,U⟩=I (mA p o.c.length c):=ab 1 (by omega);have fc:wr.cell? ⟨b,ah+t*5+2,U⟩=I (mA e2 o.l.length rd):=ab 2 (by omega);have gq:wr.cell? ⟨b,ah+t*5+3,U⟩=I (F N o.n):=ab 3 (by omega);have gs:wr.cell? ⟨b,ah+t*5+4,U⟩=I (F N o.m):=ab 4 (by omega);obtain⟨gL,hp,a7,a1,bb,a9,b8,-,ck,cr,cp,-,-⟩:=dv.out t cs;have gd:a7=p∧a1=c∧bb=e2∧a9=rd:=by
    injection b8 with b8;injection b8 with e1 d9 _;subst e1 d9;have ea:=ck 1 (by omega);have eb:=ck 2 (by omega);rw[<-b5] at ea eb;have bN:=ae a5 (p:=⟨b,ah+t*5+1,U⟩) ea;have bO:=ae a5 (p:=⟨b,ah+t*5+2,U⟩) eb;rw[e9] at bN;rw[fc] at bO;injection bN with bN;injection bN with h5 _ h6;injection bO with bO;injection bO with h7 _ h8;exact⟨h5.symm,h6.symm,h7.symm,h8.symm⟩
   obtain⟨rfl,rfl,rfl,rfl⟩:=gd;rw[<-b5] at cr cp;have bq:Hid (∀w',AX w.1.size w w'->dZ w' a7 a1 o.c∧cP w' bb a9 o.l):=fun w' hb=>⟨cr.on hb,cp.on hb⟩;obtain⟨aw,b0⟩:∃W,W=wr.alloc (qj #[F N o.kind,mA a7 o.c.length a1,mA bb o.l.length a9,F N o.n,F N o.m] 38):=⟨_,rfl⟩;have Q:AX wr.1.size wr aw:=(by rw[b0];exact gQy);have K:aw.1[wr.1.size]?=I (qj #[F N o.kind,mA a7 o.c.length a1,mA bb o.l.length a9,F N o.n,F N o.m] 38 (0,0)):=(by rw[b0];exact am wr _);have ec:B<=wr.1.size:=by
    obtain⟨bs,bv,bn,bp,nb,L,-⟩:=X.out.out;have:=L.low z1 L.ozb;omega
   obtain⟨bs,bv,bn,bp,nb,cw,cx,g8,hc,g6⟩:=X.out.out;have L:=cw.on Q;have bc:=cx.on Q;have a4:=a5.trans (Q.mono a5.size);have a6:Dv.Fits A.s (2*t):=X.out.fits;have c5:=gQq (qw L o a7 bb a1 a9 (fun w' hb=>(bq.out w' (a4.trans (hb.mono V))).1) (fun w' hb=>(bq.out w' (a4.trans (hb.mono V))).2) b7 b6 (i:=2*t) ⟨a6.safe,a6.len,a6.most,a6.done⟩ (by omega) (by show bn<=_;omega) (by omega) (cc.out.next a4) (c9.out.on a4) eg);have d1:=gQq L;have d3:=gQq bc;have fq:=gQq a4;have fv:=gQq K;have f0:=gQq b0.symm;have d0:=gQq (And.intro b7 b6);have bi:=gQq a6;have c8:=gQq (AG ec Q.size);have fs:=gQq (X.out.below.trans (Q.mono ec));have hf:wr.1.size<aw.1.size:=ao K;have dj:Hid (∀i,bs i->i<wr.1.size):=fun i y=>(cw.low i y).2;have fx:Hid (∀i,bv i->i<wr.1.size):=fun i y=>(cx.low i y).2;have e4:=aa K 0;have e5:=aa K 1;have e6:=aa K 2;have e7:=aa K 3;have e8:=aa K 4;clear ab eC ez b7 b6 ck cr cp b8 Q K b0 L bc cw cx a4 a6 b5 a5 X;go_wp2_with fail;rw[f0.out];refine c5.out.mono ?_;rintro d9 J ⟨rfl,⟨e3,ha,cq⟩,bj⟩;have cv:=bj.size;have S:=(bj.block wr.1.size (by omega) (fun Z=>by have:=dj.out _ Z;omega)).trans fv.out;have ci:AX B aw J:=bj.below c8.out (fun i y Z=>by have:=(d1.out.low i Z).1;omega);have bk:=fq.out.trans (ci.mono V);have bc:Sd J B (z1+1) a2 (A.tl bp) bv (et bs aw J) nb:=d3.out.other bj (fun i y=>y.imp id (fun h=>h.1)) (fun i y=>(cq.low i y).2)
   have c6:=gQq (qw bc o a7 bb a1 a9 (fun w' hb=>(bq.out w' (bk.trans (hb.mono V))).1) (fun w' hb=>(bq.out w' (bk.trans (hb.mono V))).2) d0.out.1 d0.out.2 (i:=2*t) ⟨bi.out.safe,bi.out.len,bi.out.most,bi.out.done⟩ (by omega) (by show bp<=_;omega) (by omega) (cc.out.next bk) (c9.out.on bk) eg);have e4:=aa S 0;have e5:=aa S 1;have e6:=aa S 2;have e7:=aa S 3;have e8:=aa S 4;have d2:=gQq cq;have d4:=gQq bc;have be:=gQq (fs.out.trans ci);have c7:=gQq (AG c8.out cv);clear bj cq S ci bk bc c5;go_wp2_with fail;refine c6.out.mono ?_;rintro g1 D ⟨rfl,⟨gl,he,bl⟩,b1⟩;have L:Sd D B z1 B ((Al.step o (A.tl bn)).2.tl e3) (et bs aw J) (et bv J D) (nb+2097153):=d2.out.other b1 (fun i y=>y.imp id (fun h=>h.1)) (fun i y=>(bl.low i y).2);rw[Al.step_tl2] at L bl;have d5:Hid (Tw w1 D B z1 B (z1+1) a2 (t+1) (Al.step o A).2):=⟨⟨_,_,e3,gl,nb+2097153,L,bl,by have:(A.tl bn).s.told=bn:=rfl;omega,by have:(A.tl bp).s.told=bp:=rfl;omega,by omega⟩,Al.step_fit o A bi.out,be.out.trans (b1.below c7.out (fun i y Z=>by have:=(d4.out.low i Z).1;omega))⟩;rw[Al.step_tl,Al.step_tl];obtain⟨e0,ew⟩:∃e0,e0=(Al.step o A).1:=⟨_,rfl⟩;rw[<-ew];obtain⟨-,hq,hg,hj,-,-,d7,-⟩:=L.out;obtain⟨-,hr,hh,hk,-,-,d8,-⟩:=bl.out;obtain⟨T,bX⟩:∃T,T=(Al.step o A).2.s.b:=⟨_,rfl⟩;have em:T.length<=2097152:=(by rw[bX];have:=d5.out.fits.len;omega);obtain⟨d6,cj⟩:∃d6,d6=textOf T:=⟨_,rfl⟩;have fo:=gQq (jR d7 bX.symm em cj);have fi:=gQq (jR d8 bX.symm em cj);have ak:=gQq (AG c7.out b1.size)
   clear bl b1 L ew d7 d8 bX cj c6 d1 d3 d2 d4 e4 e5 e6 e7 e8 gn e9 fc gq gs dj fx;go_wp2_with fail
   go_region_held_law (fun _=>True) (trivial) (first|(go_at_call_of 9 B;refine(fo.out _ (by first | exact gQz.drew | assumption)).mono ?_;rintro e ht ⟨ho,g0,rfl,b3,b4,f7,f8⟩)|(go_at_call_of 9 a2;refine(fi.out _ (by first | exact gQz.drew | assumption)).mono ?_;rintro e hs ⟨hn,gN,rfl,f4,f5,eq,f6⟩)|fail)
   all_goals
    have fy:=gQq (d5.out.on ak.out eq);clear b3 b4 f7 f8 f4 f5 eq f6;go_wp2;go_roundw;case rel=>exact⟨t+1,_,by omega,by go_num,fy⟩
    case measure=>simp[intOf];omega
  ·have f3:¬(t:Int)<(l.length:Int):=(by omega);clear cs;go_wp2;go_ret;exact⟨rfl,aj.out.trans (X.out.below.mono V)⟩
end
end Go.Proofs.YtngmnfdaedlodaaGreatDoor

import Derived.Test.YtngmnfdaedlodaaGreatDoorA5
import Derived.Test.YtngmnfdaedlodaaGreatDoorC9
import Derived.Deep.RegionHeldLaw
set_option maxRecDepth 100000
set_option maxHeartbeats 4000000
namespace Go.Proofs.YtngmnfdaedlodaaGreatDoor
open Go.Proofs.Tryz
open Option renaming some->I,none->U
open Or renaming inl->Y,inr->AX
open Go.Value renaming pointer->C,int->F,slice->pv,tuple->qv
open Go.IntKind renaming i64->N
open Go.RowKit renaming Below->AC
open Go renaming World->AU
open Go.Obj renaming cells->wx
open Go.Ending renaming returned->wv
open Go.Proofs.Tryz renaming prog->AE
variable{B B' M a g k k' n x x':Nat}{w w' w0 w1:AU}{v v':Value}{q:OA}{c:List Col}
section
open Go.RowKit Go.Maps
section
variable {w:AU} {B g x k:Nat} {v:Value} {s:Dv.St}
theorem od(h:ax w B g v s x k)(hd:s.down=true):Calls AE 10 #[C (I ⟨g,0,U⟩)] w fun e w'=>e=wv (qv #[C U,F N 0,F N 50])∧w'=w:=by
 have o:=gQq (kUp h);rw[hd] at o;clear h hd;go_enter func10,ntmps10;go_wp2_with fail;refine o.out.mono ?_;rintro e w' ⟨rfl,y⟩;rw[y];clear y w' o;go_wp2
 go_ret3
 exact⟨rfl,rfl⟩
theorem rB(h:ax w B g v s x k)(hd:s.down=true):Calls AE 88 #[C (I ⟨g,0,U⟩)] w fun e w'=>e=wv (qv #[F N 0,C U,im 50])∧AC w.1.size w w':=by
 have o:=gQq (od h hd);clear h hd;go_enter func88,ntmps88;go_wp2_with fail;refine o.out.mono ?_;rintro e w' ⟨rfl,y⟩;rw[y];clear y w' o;go_wp2
 go_ret3
 exact⟨rfl,gQz⟩
theorem uO(h:ax w B g v s x k)(hd:s.down=true):Calls AE 61 #[C (I ⟨g,0,U⟩)] w fun e w'=>e=wv (qv #[F N 0,im 50])∧AC w.1.size w w':=by
 have o:=gQq (rB h hd);clear h hd;go_enter func61,ntmps61;go_wp2_with fail;refine o.out.mono ?_;rintro e w1 ⟨rfl,y⟩;have D:=gQq y;clear y o;unfold im;go_wp2;go_ret2;exact⟨rfl,D.out⟩
theorem wP(h:ax w B g v s x k)(hd:s.down=true)(L:He w):Calls AE 39 #[C (I ⟨g,0,U⟩)] w fun e w'=>e=wv (qv #[F N 0,F N 50])∧AC w.1.size w w':=by
 have J:=gQq (uO h hd);have S:=gQq L;clear h hd L;go_enter func39,ntmps39;go_wp2_with fail;refine J.out.mono ?_;rintro e w1 ⟨rfl,o⟩;have y:=gQq o;have D:=gQq (kX 50 w1 (S.out.on o));clear o J;unfold im;go_wp2_with fail;refine D.out.mono ?_;rintro e V ⟨rfl,K⟩;have Q:=gQq (y.out.trans (K.mono y.out.size));clear K D;go_wp2;go_ret2;exact⟨rfl,Q.out⟩
theorem uH(t:Nat)(s:Dv.St)(r:Except Nat Nat):(Rp.do_ { s with told:=t } r).2.2={ (Rp.do_ s r).2.2 with told:=t }:=by
 rw[Wr.do_told]
theorem zT{s:Dv.St}{r:Except Nat Nat}(h:(Rp.do_ s r).2.1=0)(hd:s.down=false):(Rp.do_ s r).2.2.down=false∧(Rp.do_ s r).2.2.b.length<=s.b.length:=by
 unfold Rp.do_ at h ⊢;cases r with
 |error c=>
  exact⟨hd,gQx⟩
 |ok K=>
  dsimp only at h ⊢;split at h
  ·next h1=>rw[AG h1];exact⟨hd,gQx⟩
  ·next h1=>
   rw[AF h1];split at h
   ·next h2=>
    rw[AG h2];unfold Dv.cut at h2 ⊢;rw[AF (by rw[hd];decide)] at h2 ⊢;split at h2
    ·cases h2
    ·next h3=>
     rw[AF h3];split at h2
     ·next h4=>
      rw[AG h4];exact⟨hd,by show(s.b.take _).length<=_;rw[AM];omega⟩
     ·cases h2
   ·next h2=>exact absurd h h2
def Aq(w:AU)(B g:Nat)(v:Value)(s:Dv.St)(E:Nat->Prop)(R:Nat×Option Wr×Dv.St)(e1:Ending)(w1:AU):Prop:=∃t v' x' k',t<=s.told+8000000000∧ax w1 B g v' { R.2.2 with told:=t } x' k'∧Aside (fun i=>i=g∨v.ownBlock=I i) w w1∧(∀i,v'.ownBlock=I i->v.ownBlock=I i∨w.1.size<=i)∧match R.2.1 with
 |none=>e1=wv (qv #[C U,F N (R.1:Nat)])
 |some z=>∃a m M n e gm q cap,e1=wv (qv #[C (I ⟨a,0,U⟩),F N 0])∧KWr w1 B a g m M n v' e x' k' gm q cap { z with s:={ z.s with told:=t } } E∧n<=2097153∧w.1.size<=a∧w.1.size<=m∧w.1.size<=M∧∀i,e.ownBlock=I i->w.1.size<=i
theorem av.down19{g:Int->Option Value}{s:Wk}{G:Nat->Prop}(h:av w B a M n v g s G)(o:B'<=B):av w B' a M n v g s G:=⟨h.lies,h.map,h.ents.low o,⟨AT o h.base.1,AT o h.base.2⟩,h.good,h.low,h.off,h.sch⟩
theorem qs(h:ax w B g v s x k)(E:Nat->Prop)(cv:∀i,E i->i<w.1.size)(c:List Col)(p:OA)(ai:Nat)(hc:c.length*120<=140737488351232)(d4:cU w p c)(bT:∀y∈c,y.wf)(d5:∀w',Aside (fun i=>i=g∨v.ownBlock=I i) w w'->cU w' p c)(eC:s.b.length<=2097152)(eL:s.safe<=s.b.length)(ew:s.done<4611686018427387904)(e0:s.told<=100000000000000)(d2:Hv w)(dj:He w)(bs:2<B)(ep:B<=w.1.size):
  Calls AE 16 #[C (I ⟨g,0,U⟩),.agg #[pv p c.length ai]] w (Aq w B g v s E (Wr.opens s c)):=by
 obtain⟨j,X,Q,bX,b0⟩:=Rp.ends s.b;have aj:Hid (Wr.opens s c=if Sch.err c≠0 then (Sch.err c,U,s) else if s.down=true then (50,U,s) else (if (Rp.do_ s (Rp.look s.b j X.at_ Q)).2.1≠0 then ((Rp.do_ s (Rp.look s.b j X.at_ Q)).2.1,U,(Rp.do_ s (Rp.look s.b j X.at_ Q)).2.2) else (0,I ⟨(Rp.do_ s (Rp.look s.b j X.at_ Q)).2.2,(Sc.whole (Rp.do_ s (Rp.look s.b j X.at_ Q)).2.2.b).2.1.wk,c.map Col.fix,true⟩,(Rp.do_ s (Rp.look s.b j X.at_ Q)).2.2))):=by
  show _=_;unfold Wr.opens;rw[Sc.whole_of bX b0]
 obtain⟨aw,a8⟩:∃aw,aw=w.alloc (wx #[pv p c.length ai] 35):=⟨_,rfl⟩;have bN:AC w.1.size w aw:=by rw[a8];exact gQy
 have dr:aw.1[w.1.size]?=I (wx #[pv p c.length ai] 35 (0,0)):=by rw[a8];exact an w _
 have cc:=gQq (je c p ai aw hc (d4.on bN) bT);have b7:=gQq bN;have co:=gQq dr;have d8:=gQq a8.symm;have V:=gQq h;have cn:=gQq d2;have ck:=gQq dj;have d9:=gQq d5;have bl:=gQq cv;have ci:=gQq bT;have cj:=gQq (And.intro bX b0);obtain⟨R,cw⟩:∃R,R=Wr.opens s c:=⟨_,rfl⟩;rw[<-cw] at aj ⊢;clear h d2 dj d5 d4 cv bT bX b0 cw bN dr a8;go_enter func16,ntmps16;go_wp2_with fail;rw[d8.out];refine cc.out.mono ?_;rintro fi w1 ⟨rfl,bO⟩;have J:=gQq (b7.out.trans (bO.mono b7.out.size));have cp:=gQq ((bO.block _ (ap co.out)).trans co.out);clear cc bO;by_cases a7:Sch.err c=0
 ·have a5:=gQq (aj.out.trans (AF (fun hc=>hc a7)));have el:((Sch.err c:Int) != 0)=false:=ca (by omega);have cb:=gQq a7;clear aj a7;cases hd:s.down with
  |true=>
   have K:=gQq (a5.out.trans (AG hd));have ah:=gQq (wP (V.out.below J.out) hd (ck.out.on J.out));clear a5 hd;go_wp2_with fail;refine ah.out.mono ?_;rintro eb D ⟨rfl,c6⟩;have b8:=gQq (J.out.trans (c6.mono J.out.size));clear c6 ah;go_wp2;go_ret2;rw[K.out];exact⟨s.told,v,x,k,by omega,V.out.below b8.out,af b8.out _,fun _ o=>Y o,rfl⟩
  |false=>
   have K:=gQq (a5.out.trans (AF (by rw[hd];decide)));have fx:=J.out.size;have ah:=gQq (kDo (V.out.below J.out) hd eC eL ew e0 (cn.out.next J.out) (ck.out.on J.out) bs cj.out.1 cj.out.2);have d7:=gQq hd;obtain⟨r,dv⟩:∃r,r=Rp.look s.b j X.at_ Q:=⟨_,rfl⟩;rw[<-dv] at ah K;clear a5 hd dv;go_wp2_with fail;refine ah.out.mono ?_;rintro eb D ⟨rfl,bj,L,b5,b3,f4,be,bv,d3⟩;rw[uH] at be;obtain⟨S,cx⟩:∃S,S=(Rp.do_ s r).2.2:=⟨_,rfl⟩;rw[<-cx] at be K;have a4:Hid (Aside (fun i=>i=g∨v.ownBlock=I i) w D):=(af J.out _).trans bv (fun _ _ h=>h);have cs:Hid (∀i,L.ownBlock=I i->v.ownBlock=I i∨w.1.size<=i):=fun i o=>(d3 i o).imp id (fun h=>by omega);have fy:g<w.1.size:=V.out.lt;have b1:∀i,v.ownBlock=I i->i<w.1.size:=fun i o=>(V.out.has.lt i o).2;have a3:=(bv.block w.1.size (ap cp.out) (fun hc=>by
    rcases hc with hc | hc
    ·omega
    ·have:=b1 _ hc;omega)).trans cp.out
   have cq:=gQq a3;have bn:=gQq be;have fc:=gQq b1;clear be bv d3 ah a3 b1;by_cases bi:(Rp.do_ s r).2.1=0
   ·have bp:=gQq (K.out.trans (AF (fun hc=>hc bi)));have em:(((Rp.do_ s r).2.1:Int) != 0)=false:=ca (by omega);obtain⟨cy,eq⟩:=zT bi d7.out;rw[<-cx] at cy eq;have f6:=a4.out.size;have en:AC B w D:=a4.out.below ep (fun i o hc=>by
     rcases hc with hc | hc
     ·have:=V.out.base;omega
     ·have:=(V.out.has.lt i hc).1;omega)
    have c5:=lF (G:=fun i=>(i=g∨L.ownBlock=I i)∨E i) bn.out cy (by show S.b.length<=_;omega) (by show bj<=_;omega) (cn.out.on en bs) bs (by omega) (fun i o=>Y o) (fun i o=>by
     rcases o with (o | o) | o
     ·omega
     ·exact(bn.out.has.lt i o).2
     ·have:=bl.out i o;omega)
    have ct:Hid (Calls AE 10 #[C (I ⟨g,0,U⟩)] D fun e w'=>∃(j:Nat) (at_ Q:Int) (t:Nat) (v':Value) (eg:Int->Option Value),e=wv (qv #[C (I ⟨D.1.size+1,0,U⟩),F N at_,F N Q])∧av w' D.1.size (D.1.size+1) D.1.size (j+1) v' eg (Sc.whole S.b).2.1.wk (fun i=>(i=g∨L.ownBlock=I i)∨E i)∧ax w' B g L { S with told:=t } b5 b3∧Aside (fun i=>i=g) D w'∧j<=2097152∧t<=bj+1000000000):=by
     refine c5.mono ?_;rintro ec ab ⟨b2,a1,cu,bk,bq,d6,e5,b4,Z,e6,e7⟩;obtain⟨-,er,fq,f2⟩:=Sc.goes_good d6;have f3:=Sc.reads_le S.b a1.at_;have fs:S.b.length<=2097152:=(by omega);have fv:a1.at_<=S.b.length:=er;refine⟨b2,(a1.at_:Nat),(cu:Nat),_,bk,bq,b4,?_,e6,e7,?_,?_⟩
     ·rw[Sc.whole_of d6 e5];exact Z
     ·omega
     ·show bj+a1.read+Sc.reads S.b a1.at_<=_;omega
    clear c5 K bi;go_wp2_with fail;refine ct.out.mono ?_;rintro ec ab ⟨b2,at3,cu,e8,bk,bq,rfl,a3,df,bb,f0,f5⟩;have b6:Hid (Aside (fun i=>i=g∨v.ownBlock=I i) w ab):=a4.out.trans bb (fun i _ o=>Y o);have cd:=gQq (nN c p ai ab hc (d9.out ab b6.out) cb.out ci.out);have ds:=(bb.block w.1.size (ap cq.out) (fun hc=>by omega)).trans cq.out;have f9:ab.cell? ⟨w.1.size,0,U⟩=I (pv p c.length ai):=aa ds 0;have ak:=gQq a3;have a6:=gQq df;have f7:=bb.size;clear a3 df bb ds ct;go_wp2_with fail;refine cd.out.mono ?_;rintro fo w4 ⟨Z,a2,rfl,d0,c7⟩;have cr:=gQq d0;have b9:=gQq c7;clear d0 c7 cd;go_wp2;go_ret2;rw[bp.out];obtain⟨a0,a9⟩:∃W,W=w4.alloc (wx #[C (I ⟨g,0,U⟩),C (I ⟨D.1.size+1,0,U⟩),pv Z c.length a2,.bool true] 86):=⟨_,rfl⟩;rw[<-a9];have c8:AC w4.1.size w4 a0:=(by rw[a9];exact gQy);have ez:a0.1[w4.1.size]?=I (wx #[C (I ⟨g,0,U⟩),C (I ⟨D.1.size+1,0,U⟩),pv Z c.length a2,.bool true] 86):=(by rw[a9];exact an w4 _);have e4:=b9.out.size;have f8:a0.1.size=w4.1.size+1:=(by rw[a9];simp);have bc:AC ab.1.size ab a0:=b9.out.trans (c8.mono e4);have e2:∀i,(i=w4.1.size∨i=g∨L.ownBlock=I i)∨E i->i<a0.1.size:=fun i o=>by
     rcases o with (o | o | o) | o
     ·omega
     ·omega
     ·have:=(a6.out.has.lt i o).2;omega
     ·have:=bl.out i o;omega
    have e3:=(ak.out.down19 (B':=B) (by omega)).aside (af bc (fun i=>(i=g∨L.ownBlock=I i)∨E i)) (fun i (o:(i=w4.1.size∨i=g∨L.ownBlock=I i)∨E i)=>by
     rcases o with (o | o | o) | o
     ·exact AX (by omega)
     ·exact Y (Y (Y o))
     ·exact Y (Y (AX o))
     ·exact Y (AX o)) e2
    obtain⟨b4,ea,d1,du,c9,-⟩:=cr.out.lies.out;rw[List.length_map] at d1 du c9;have e1:pv Z c.length a2=pv b4 c.length ea:=(by simpa using d1);injection e1 with i1 i2 i3;subst i1 i3;have ev:Calm (kf w4.1.size g L (D.1.size+1) D.1.size bk E) w4 Z (c.map Col.fix):=gJ (n:=c.length) (c:=a2) cr.out (fun i o=>by
     rcases o with ((o | o | o) | o) | o
     ·exact AX (by omega)
     ·exact Y (by omega)
     ·exact Y (a6.out.has.lt i o).2
     ·exact Y (by have:=bl.out i o;omega)
     ·exact Y (by
       rcases o with o | o | o
       ·have:=ak.out.lt;omega
       ·have:=ak.out.lt;omega
       ·exact(ak.out.ents.lt i o).2))
    refine⟨e8,L,b5,b3,by omega,a6.out.below bc,b6.out.trans (af bc _) (fun _ _ h=>h),cs.out,w4.1.size,D.1.size+1,D.1.size,b2+1,bk,bq,Z,a2,rfl,⟨?_,a6.out.below bc,e3,by omega,⟨by rw[List.length_map];exact c9,by rw[List.length_map];exact du⟩,Sc.fix_wf cb.out ci.out,ev.step (af c8 _) (fun _ h=>Y h)⟩,by omega,by omega,by omega,by omega,fun i o=>by have:=(ak.out.ents.lt i o).1;omega⟩;rw[ez];simp[hU]
   ·have bp:=gQq (K.out.trans (AG bi));have em:(((Rp.do_ s r).2.1:Int) != 0)=true:=(by rw[bne_iff_ne];omega);clear K;go_wp2;go_ret2;rw[bp.out];exact⟨bj,L,b5,b3,by omega,bn.out,a4.out,cs.out,rfl⟩
 ·have K:=gQq (aj.out.trans (AG a7));have el:((Sch.err c:Int) != 0)=true:=by rw[bne_iff_ne];omega
  clear aj;go_wp2;go_ret2;rw[K.out];exact⟨s.told,v,x,k,by omega,V.out.below J.out,af J.out _,fun _ o=>Y o,rfl⟩
end
end
section
open Go.RowKit Go.Maps
section
variable {w w':AU} {B a g m M n:Nat} {v e:Value} {x k:Nat} {gm:Int->Option Value} {q:OA} {cap:Nat} {z:Wr} {E E':Nat->Prop}
theorem KWr.bes(h:KWr w B a g m M n v e x k gm q cap z E)(D:Aside E w w')(K:¬E a)(L:¬E g)(Q:∀i,v.ownBlock=I i->¬E i)(J:∀i,E' i->E i∨w.1.size<=i)(S:∀i,E' i->i<w'.1.size):KWr w' B a g m M n v e x k gm q cap z E':=by
 refine⟨(D.block a h.lt K).trans h.lies,h.dev.aside D L Q,h.walk.aside (D.mono fun i _ o=>AX o) (fun i o=>?_) (fun i o=>?_),h.base,h.room,h.good,h.calm.step (D.mono fun i _ o=>Y (AX o)) (fun i o=>?_)⟩
 ·rcases o with o | o
  ·exact Y (Y o)
  ·rcases J i o with y | y
   ·exact Y (AX y)
   ·exact AX y
 ·rcases o with o | o
  ·exact AS (h.walk.low i (Y o)) D.size
  ·exact S i o
 ·rcases o with (o | o) | o
  ·exact Y (Y (Y o))
  ·rcases J i o with y | y
   ·exact Y (Y (AX y))
   ·exact AX y
  ·exact Y (AX o)
end
structure Sd(w:AU)(B zb g:Nat)(A:Al)(O E:Nat->Prop)(nb:Nat):Prop where
 low:∀i,O i->B<=i∧i<w.1.size
 ozb:O zb
 og:O g
 apart:∀i,O i->¬E i
 eL:∀i,E i->i<w.1.size
 zg:g≠zb
 out:∃wp v x k,w.1[zb]?=I (wx #[C (I ⟨g,0,U⟩),C U,wp,C U] 32 (0,0))∧(∀i,v.ownBlock=I i->O i∧i≠zb)∧ax w B g v A.s x k∧match A.w with
  |none=>wp=C U
  |some u=>∃a m M n e gm q cap,wp=C (I ⟨a,0,U⟩)∧n<=nb∧O a∧a≠zb∧(∀i,bA m M e i->O i)∧KWr w B a g m M n v e x k gm q cap ⟨A.s,u.1,u.2.1,u.2.2⟩ (fun i=>E i∨i=zb)
section
variable {w w':AU} {B zb g nb:Nat} {A:Al} {O E E':Nat->Prop}
theorem Sd.other(h:Sd w B zb g A O E nb)(D:Aside E w w')(V:∀i,E' i->E i∨w.1.size<=i)(X:∀i,E' i->i<w'.1.size):Sd w' B zb g A O E' nb:=by
 have ak:∀i,O i->¬E' i:=fun i o y=>by
  rcases V i y with J | J
  ·exact h.apart i o J
  ·have:=(h.low i o).2;omega
 refine⟨fun i o=>⟨(h.low i o).1,AS (h.low i o).2 D.size⟩,h.ozb,h.og,ak,X,h.zg,?_⟩;obtain⟨wp,v,x,k,J,K,aj,L⟩:=h.out;refine⟨wp,v,x,k,(D.block zb (h.low zb h.ozb).2 (h.apart zb h.ozb)).trans J,K,aj.aside D (h.apart g h.og) (fun i o=>h.apart i (K i o).1),?_⟩;cases hw:A.w with
 |none=>rw[hw] at L;exact L
 |some u=>
  rw[hw] at L;obtain⟨a,m,M,n,e,gm,q,cap,Z,ab,Q,S,ah,ai⟩:=L;refine⟨a,m,M,n,e,gm,q,cap,Z,ab,Q,S,ah,ai.bes (D.mono fun i _ o=>Y o) (fun y=>y.elim (h.apart a Q) S) (fun y=>y.elim (h.apart g h.og) h.zg) (fun i o y=>y.elim (h.apart i (K i o).1) (K i o).2) (fun i o=>?_) (fun i o=>?_)⟩
  ·rcases o with o | o
   ·exact(V i o).imp Y id
   ·exact Y (AX o)
  ·rcases o with o | o
   ·exact X i o
   ·rw[o];exact AS (h.low zb h.ozb).2 D.size
theorem oL{s:Dv.St}(h:(Wr.opens s c).2.1=U):(Wr.opens s c).1≠0:=by
 unfold Wr.opens at h ⊢;split
 ·next h1=>exact h1
 ·next h1=>
  rw[AF h1] at h;split
  ·exact(by decide:(50:Nat)≠0)
  ·next h2=>
   rw[AF h2] at h;dsimp only at h ⊢;split
   ·next h3=>exact h3
   ·next h3=>rw[AF h3] at h;cases h
theorem oK{s:Dv.St}{z:Wr}(h:(Wr.opens s c).2.1=I z):(Wr.opens s c).1=0:=by
 unfold Wr.opens at h ⊢;split
 ·next h1=>rw[AG h1] at h;cases h
 ·next h1=>
  rw[AF h1] at h;split
  ·next h2=>rw[AG h2] at h;cases h
  ·next h2=>
   rw[AF h2] at h;dsimp only at h ⊢;split
   ·next h3=>rw[AG h3] at h;cases h
   ·rfl
def ij(O:Nat->Prop)(w w':AU)(i:Nat):Prop:=O i∨(w.1.size<=i∧i<w'.1.size)
theorem gZ(h:Sd w B zb g A O E nb)(D:Aside O w w'):(∀i,ij O w w' i->B<=i∧i<w'.1.size)∧∀i,ij O w w' i->¬E i:=by
 have J:B<=w.1.size:=by have:=h.low zb h.ozb;omega
 refine⟨fun i o=>?_,fun i o y=>?_⟩
 ·rcases o with o | o
  ·exact⟨(h.low i o).1,AS (h.low i o).2 D.size⟩
  ·exact⟨by omega,o.2⟩
 ·rcases o with o | o
  ·exact h.apart i o y
  ·have:=h.eL i y;omega
theorem gx{wp:Value}{s':Dv.St}(h:Sd w B zb g A O E nb)(ak:w.1[zb]?=I (wx #[C (I ⟨g,0,U⟩),C U,wp,C U] 32 (0,0)))(D:∀i,v.ownBlock=I i->O i∧i≠zb)(J:match A.w with
  |none=>wp=C U
  |some u=>∃a m M n e gm q cap,wp=C (I ⟨a,0,U⟩)∧n<=nb∧O a∧a≠zb∧(∀i,bA m M e i->O i)∧KWr w B a g m M n v e x k gm q cap ⟨A.s,u.1,u.2.1,u.2.2⟩ (fun i=>E i∨i=zb))(hb:AC w.1.size w w0)(hd:ax w1 B g v' s' x' k')(S:Aside (fun i=>i=g∨v.ownBlock=I i) w0 w1)(V:∀i,v'.ownBlock=I i->v.ownBlock=I i∨w0.1.size<=i):Sd w1 B zb g ⟨s',A.w⟩ (ij O w w1) E nb∧Aside O w w1:=by
 have Q:Aside (fun i=>i=g∨v.ownBlock=I i) w w1:=(af hb _).trans S (fun _ _ h=>h);have K:Aside O w w1:=Q.mono (fun i _ o=>o.elim (fun o=>by rw[o];exact h.og) (fun o=>(D i o).1));have a0:=hb.size;have aw:=(h.low zb h.ozb).2;refine⟨⟨(gZ h K).1,Y h.ozb,Y h.og,(gZ h K).2,fun i o=>AS (h.eL i o) K.size,h.zg,wp,v',x',k',(Q.block zb aw (fun y=>y.elim (fun y=>h.zg y.symm) (fun y=>(D _ y).2 rfl))).trans ak,fun i o=>?_,hd,?_⟩,K⟩
 ·rcases V i o with L | L
  ·exact⟨Y (D i L).1,(D i L).2⟩
  ·exact⟨AX ⟨by omega,(hd.has.lt i o).2⟩,by omega⟩
 ·cases hw:A.w with
  |none=>rw[hw] at J;exact J
  |some u=>
   rw[hw] at J;obtain⟨a,m,M,n,e,gm,q,cap,X,Z,ab,ah,ai,aj⟩:=J;exact⟨a,m,M,n,e,gm,q,cap,X,Z,Y ab,ah,fun i o=>Y (ai i o),(aj.on hb).filed hd S V⟩
theorem eV{e S:Value}{m n' nb':Nat}{ak:OA}{cap Z:Nat}{gm ai:Int->Option Value}{z X:Wr}(h:Sd w B zb g A O E nb)(a0:w.1[zb]?=I (wx #[C (I ⟨g,0,U⟩),C U,C (I ⟨a,0,U⟩),C U] 32 (0,0)))(K:∀i,v.ownBlock=I i->O i∧i≠zb)(ab:O a)(ah:a≠zb)(J:∀i,bA m M e i->O i)(aw:KWr w B a g m M n v e x k gm q cap z (fun i=>E i∨i=zb))(hb:AC w.1.size w w0)(Q:KWr w1 B a g m M n' v' S x' k' ai ak Z X (fun i=>E i∨i=zb))(a3:n'<=nb')(a1:Aside (fun i=>i=a∨(i=g∨v.ownBlock=I i)∨bA m M e i) w0 w1)(a4:∀i,v'.ownBlock=I i->v.ownBlock=I i∨w0.1.size<=i)(a2:∀i,S.ownBlock=I i->e.ownBlock=I i∨w0.1.size<=i):Sd w1 B zb g ⟨X.s,I (Al.of X)⟩ (ij O w w1) E nb'∧Aside O w w1:=by
 have aj:Aside (fun i=>i=a∨(i=g∨v.ownBlock=I i)∨bA m M e i) w w1:=(af hb _).trans a1 (fun _ _ h=>h);have L:Aside O w w1:=aj.mono (fun i _ o=>by
  rcases o with o | (o | o) | o
  ·rw[o];exact ab
  ·rw[o];exact h.og
  ·exact(K i o).1
  ·exact J i o)
 have a6:=hb.size;have a5:=(h.low zb h.ozb).2;have V:=aw.walk.off zb (AX (AX rfl));refine⟨⟨(gZ h L).1,Y h.ozb,Y h.og,(gZ h L).2,fun i o=>AS (h.eL i o) L.size,h.zg,_,v',x',k',(aj.block zb a5 (fun y=>?_)).trans a0,fun i o=>?_,Q.dev,?_⟩,L⟩
 ·rcases y with y | (y | y) | y | y | y
  ·exact ah y.symm
  ·exact h.zg y.symm
  ·exact(K _ y).2 rfl
  ·exact V.1 y
  ·exact V.2.1 y
  ·exact V.2.2 y
 ·rcases a4 i o with D | D
  ·exact⟨Y (K i D).1,(K i D).2⟩
  ·exact⟨AX ⟨by omega,(Q.dev.has.lt i o).2⟩,by omega⟩
 ·refine⟨a,m,M,n',S,ai,ak,Z,rfl,a3,Y ab,ah,fun i o=>?_,Q⟩;rcases o with o | o | o
  ·exact Y (J i (Y o))
  ·exact Y (J i (AX (Y o)))
  ·rcases a2 i o with D | D
   ·exact Y (J i (AX (AX D)))
   ·exact AX ⟨by omega,(Q.walk.ents.lt i o).2⟩
theorem Sd.few(h:Sd w B zb g A O E nb){nb':Nat}(S:nb<=nb'):Sd w B zb g A O E nb':=by
 refine⟨h.low,h.ozb,h.og,h.apart,h.eL,h.zg,?_⟩;obtain⟨wp,v,x,k,J,K,L,o⟩:=h.out;refine⟨wp,v,x,k,J,K,L,?_⟩;cases hw:A.w with
 |none=>rw[hw] at o;exact o
 |some u=>
  rw[hw] at o;obtain⟨a,m,M,n,e,gm,q,cap,y,Q,D⟩:=o;exact⟨a,m,M,n,e,gm,q,cap,y,by omega,D⟩
def vo(w:AU)(B zb g nb:Nat)(O E:Nat->Prop)(r:Nat×Al)(told:Nat)(e1:Ending)(w1:AU):Prop:=e1=wv (F N (r.1:Nat))∧(∃t,t<=told+8000000000∧Sd w1 B zb g (r.2.tl t) (ij O w w1) E (nb+2097153))∧Aside O w w1
theorem xe(h:Sd w B zb g A O E nb)(y:Op)(p b0:OA)(c rd:Nat)(ep:∀w',AC B w w'->ef w' p c y.c)(b7:∀w',AC B w w'->cQ w' b0 rd y.l)(e0:Fr.i64 y.n)(ez:Fr.i64 y.m){i:Nat}(ev:Dv.Fits A.s i)(o:i<=1000)(hl:A.s.told<=10000000000000)(hh:nb<=800000000)(e1:Hv w)(er:He w)(dj:2<B):
  Calls AE 8 #[C (I ⟨zb,0,U⟩),.agg #[F N y.kind,pv p y.c.length c,pv b0 y.l.length rd,F N y.n,F N y.m]] w (vo w B zb g nb O E (Al.step y A) A.s.told):=by
 obtain⟨S,d2⟩:∃S,S=y.kind:=⟨_,rfl⟩;rw[<-d2];have a5:=gQq d2;clear d2;obtain⟨Z,b8⟩:∃Z,Z=w.alloc (wx #[F N S,pv p y.c.length c,pv b0 y.l.length rd,F N y.n,F N y.m] 38):=⟨_,rfl⟩;have dv:AC w.1.size w Z:=by rw[b8];exact gQy
 have bq:Z.1[w.1.size]?=I (wx #[F N S,pv p y.c.length c,pv b0 y.l.length rd,F N y.n,F N y.m] 38 (0,0)):=by rw[b8];exact an w _
 have gn:Z.1.size=w.1.size+1:=by rw[b8];simp
 obtain⟨wp,v,x,k,cb,cu,ew,eC⟩:=h.out;have gs:=(h.low zb h.ozb).2;have ci:B<=w.1.size:=by have:=h.low zb h.ozb;omega
 have g8:g<w.1.size:=(h.low g h.og).2;have cq:=(dv.block zb gs).trans cb;have b2:Hid (∀w1,Aside (fun i=>i≠zb∧i≠w.1.size) Z w1->(w1.1[zb]?=I (wx #[C (I ⟨g,0,U⟩),C U,wp,C U] 32 (0,0))∧w1.1[w.1.size]?=I (wx #[F N S,pv p y.c.length c,pv b0 y.l.length rd,F N y.n,F N y.m] 38 (0,0)))):=fun w1 bT=>⟨(bT.block zb (by omega) (fun J=>J.1 rfl)).trans cq,(bT.block w.1.size (by omega) (fun J=>J.2 rfl)).trans bq⟩;have hm:=aa bq 0;have d6:=aa bq 1;have gt:=aa bq 2;have gz:=aa bq 3;have gL:=aa bq 4;have z0:=aa cq 0;have z2:=aa cq 2;have hn:∀bN,(w.alloc bN).cell? ⟨zb,0,U⟩=I (C (I ⟨g,0,U⟩)):=fun bN=>ae (gQz.alloc gQx bN) (aa cb 0);have ho:∀bN,(w.alloc bN).cell? ⟨zb,2,U⟩=I wp:=fun bN=>ae (gQz.alloc gQx bN) (aa cb 2);have D:=gQq h;have cy:=gQq ep;have fq:=gQq b7;have bi:=gQq ev;have c7:=gQq e1;have e9:=gQq er;have fi:=gQq e0;have fc:=gQq ez;have K:=gQq dv;have bb:=gQq cb;have ai:=gQq cu;have cd:=gQq ew;have bO:=gQq eC;have a7:=gQq b8.symm;have cc:Hid (∀i,(i=g∨v.ownBlock=I i)->i≠zb∧i≠w.1.size):=fun i o=>by
  rcases o with o | o
  ·rw[o];exact⟨h.zg,by omega⟩
  ·exact⟨(cu i o).2,by have:=(h.low i (cu i o).1).2;omega⟩
 have bj:Hid ((Al.step y A).2.tl A.s.told=(Al.step y A).2):=by
  have:=Al.step_tl A.s.told y A;rw[show A.tl A.s.told=A from rfl] at this;exact(congrArg Prod.snd this).symm
 clear h ep b7 ev e1 er e0 ez dv bq cq cb cu ew eC b8;go_enter func8,ntmps8;by_cases aw:S=1
 ·have f0:(S==1)=true:=dq aw;have bs:=cy.out _ (K.out.drew.mono ci);have eq:∀w',Aside (fun i=>i=g∨v.ownBlock=I i) Z.drew w'->AC B w w':=fun w' bT=>(K.out.drew.mono ci).trans (bT.below (by have:=K.out.size;simp;omega) (fun i o J=>by
   rcases J with J | J
   ·have:=(D.out.low g D.out.og).1;omega
   ·have:=(D.out.low i (ai.out i J).1).1;omega))
  have b6:=qs (cd.out.below K.out.drew) (fun i=>E i∨i=zb) (fun i o=>by
   rcases o with o | o
   ·have:=D.out.eL i o;simp;omega
   ·simp;omega) y.c p c bs.len bs.cols bs.wf (fun w' bT=>(cy.out w' (eq w' bT)).cols) (by have:=bi.out.len;omega) bi.out.safe (by have:=bi.out.done;omega) (by omega) (c7.out.next K.out.drew) (e9.out.on K.out.drew) dj (by simp;omega)
  have L:Hid (Al.step y A=((Wr.opens A.s y.c).1,⟨(Wr.opens A.s y.c).2.2,match (Wr.opens A.s y.c).2.1 with | some z=>I (Al.of z) | none=>A.w⟩)):=by
   show _=_;unfold Al.step;rw[<-a5.out,AG aw];rfl
  have g3:=gQq aw;have cr:(Wr.opens A.s y.c).2.1=U->(Wr.opens A.s y.c).1≠0:=oL;have cs:∀z,(Wr.opens A.s y.c).2.1=I z->(Wr.opens A.s y.c).1=0∧z.s=(Wr.opens A.s y.c).2.2:=fun z e3=>⟨oK e3,(Wr.opens_fit bi.out y.c).2 z e3⟩;obtain⟨R,b7⟩:∃R,R=Wr.opens A.s y.c:=⟨_,rfl⟩;rw[<-b7] at b6 L cr cs;clear b7 bs eq aw;obtain⟨ea,ro,g2⟩:=R;cases ro with
  |none=>
   have gl:ea≠0:=cr rfl;have g7:((ea:Int)==0)=false:=bg (by omega);have a2:Hid (Calls AE 16 #[C (I ⟨g,0,U⟩),.agg #[pv p y.c.length c]] Z.drew fun a3 w1=>a3=wv (qv #[C U,F N (ea:Nat)])∧∃t v' x' k',t<=A.s.told+8000000000∧ax w1 B g v' { g2 with told:=t } x' k'∧Aside (fun i=>i=g∨v.ownBlock=I i) Z.drew w1∧(∀i,v'.ownBlock=I i->v.ownBlock=I i∨Z.drew.1.size<=i)):=b6.mono fun _ _ ⟨t,v',x',k',cw,gN,d7,d8,d9⟩=>⟨d9,t,v',x',k',cw,gN,d7,d8⟩;clear b6 cr cs gl;go_wp2_with fail;rw[a7.out]
   go_region_held3 (fun w'=>w'.cell? ⟨zb,0,U⟩=I (C (I ⟨g,0,U⟩))∧w'.cell? ⟨zb,2,U⟩=I wp∧w'.cell? ⟨w.1.size,1,U⟩=I (pv p y.c.length c)) (go_keep) (first|(go_at_call 16;refine a2.out.mono ?_;rintro a3 w1 ⟨rfl,cx,be,bn,bp,d5,bl,Q,ah⟩;obtain⟨ab,ak⟩:=b2.out w1 ((af gQz.drew _).trans Q (fun i _ o=>cc.out i o));have z0:=aa ab 0;have z2:=aa ab 2;have d6:=aa ak 1;have V:=gQq (gx D.out bb.out ai.out bO.out K.out.drew bl Q ah);clear bl Q ah ab ak)|fail)
   go_wp2;go_ret;exact⟨by rw[L.out];rfl,⟨cx,d5,by rw[L.out];exact V.out.1.few (by omega)⟩,V.out.2⟩
  |some z=>
   obtain⟨rfl,e4⟩:=cs z rfl;have a2:Hid (Calls AE 16 #[C (I ⟨g,0,U⟩),.agg #[pv p y.c.length c]] Z.drew fun a3 w1=>∃t v' x' k' a m M n e gm q cap,a3=wv (qv #[C (I ⟨a,0,U⟩),F N 0])∧t<=A.s.told+8000000000∧Aside (fun i=>i=g∨v.ownBlock=I i) Z.drew w1∧(∀i,v'.ownBlock=I i->v.ownBlock=I i∨Z.drew.1.size<=i)∧KWr w1 B a g m M n v' e x' k' gm q cap { z with s:={ z.s with told:=t } } (fun i=>E i∨i=zb)∧n<=2097153∧Z.drew.1.size<=a∧Z.drew.1.size<=m∧Z.drew.1.size<=M∧∀i,e.ownBlock=I i->Z.drew.1.size<=i):=b6.mono fun _ _ ⟨t,v',x',k',cw,_,d7,d8,a,m,M,n,e,gm,q,cap,d9,g0,g1⟩=>⟨t,v',x',k',a,m,M,n,e,gm,q,cap,d9,cw,d7,d8,g0,g1⟩;have fs:=gQq e4;clear b6 cr cs e4;go_wp2_with fail;rw[a7.out]
   go_region_held3 (fun w'=>w'.cell? ⟨zb,0,U⟩=I (C (I ⟨g,0,U⟩))∧w'.cell? ⟨zb,2,U⟩=I wp∧w'.cell? ⟨w.1.size,1,U⟩=I (pv p y.c.length c)) (go_keep) (first|(go_at_call 16;refine a2.out.mono ?_;rintro a3 w1 ⟨cx,be,bn,bp,a,m,M,n,e,gm,q,cap,rfl,d5,Q,ah,a8,d3,ha,hc,he,gh⟩;obtain⟨ab,ak⟩:=b2.out w1 ((af gQz.drew _).trans Q (fun i _ o=>cc.out i o));have z0:=aa ab 0;have z2:=aa ab 2;have g6:=ac ab 2;have d6:=aa ak 1;have fo:=gQq ab;have eb:=gQq Q;have em:=gQq ah;have el:=gQq a8;clear Q ah a8 ab ak)|fail)
   go_wp2;go_ret;obtain⟨b5,ds⟩:∃W,W=w1.setCell ⟨zb,2,U⟩ (C (I ⟨a,0,U⟩)):=⟨_,rfl⟩;rw[<-ds];have d4:Aside (fun i=>i=zb) w1 b5:=(by rw[ds];exact(Aside.refl (fun i=>i=zb) w1).setCell (p:=⟨zb,2,U⟩) (Y rfl) _);have gq:b5.1[zb]?=I (wx #[C (I ⟨g,0,U⟩),C U,C (I ⟨a,0,U⟩),C U] 32 (0,0)):=(by rw[ds];exact bV fo.out 2 _);have hj:=eb.out.size;have hk:=d4.size;have hi:Z.drew.1.size=w.1.size+1:=gn;have d1:=D.out.eL;have e2:∀i,be.ownBlock=I i->ij O w b5 i∧i≠zb:=fun i o=>by
    have hf:=(el.out.dev.has.lt i o).2;rcases em.out i o with bk | bk
    ·exact⟨Y (ai.out i bk).1,(ai.out i bk).2⟩
    ·exact⟨AX ⟨by omega,by omega⟩,by omega⟩
   have gb:Aside O w w1:=(af K.out.drew _).trans (eb.out.mono (fun i _ o=>o.elim (fun o=>by rw[o];exact D.out.og) (fun o=>(ai.out i o).1))) (fun _ _ h=>h);have cj:Aside O w b5:=gb.trans d4 (fun i _ o=>by rw[o];exact D.out.ozb);have b9:KWr b5 B a g m M n be e bn bp gm q cap { z with s:={ z.s with told:=cx } } (fun i=>E i∨i=zb):=el.out.besides (d4.mono fun i _ o=>AX o) (fun J=>J.elim (fun J=>by have:=d1 a J;omega) (fun J=>by omega)) (fun J=>J.elim (D.out.apart g D.out.og) D.out.zg) (fun i o J=>by
    rcases J with J | J
    ·rcases em.out i o with bk | bk
     ·exact D.out.apart i (ai.out i bk).1 J
     ·have:=d1 i J;omega
    ·exact(e2 i o).2 J) (fun _ h=>h)
   rw[fs.out] at b9;have gd:=b9.lt;refine⟨by rw[L.out];rfl,⟨cx,d5,?_⟩,cj⟩;rw[L.out];refine⟨(gZ D.out cj).1,Y D.out.ozb,Y D.out.og,(gZ D.out cj).2,fun i o=>AS (d1 i o) cj.size,D.out.zg,_,be,bn,bp,gq,e2,b9.dev,a,m,M,n,e,gm,q,cap,rfl,by omega,AX ⟨by omega,gd⟩,by omega,fun i o=>AX ⟨?_,b9.low i (AX o)⟩,b9⟩;rcases o with o | o | o
   ·omega
   ·omega
   ·have:=gh i o;omega
 ·have f0:(S==1)=false:=bg aw;by_cases a4:S=7
  ·have f6:(S==7)=true:=dq a4;have c6:=gQq (zE (cd.out.below K.out.drew) y.n y.m fi.out.2 fc.out.2);have L:Hid (Al.step y A=((Dv.fail A.s y.n y.m).1,⟨(Dv.fail A.s y.n y.m).2,A.w⟩)):=by
    show _=_;unfold Al.step;rw[<-a5.out,AF aw,AG a4]
   have fy:=gQq a4;clear aw a4;go_wp2_with fail;rw[a7.out]
   go_region_held3 (fun w'=>w'.cell? ⟨zb,0,U⟩=I (C (I ⟨g,0,U⟩))∧w'.cell? ⟨w.1.size,3,U⟩=I (F N y.n)∧w'.cell? ⟨w.1.size,4,U⟩=I (F N y.m)) (go_keep) (first|(go_at_call 23;refine c6.out.mono ?_;rintro a3 w1 ⟨rfl,be,bn,bp,bl,Q,ah⟩;obtain⟨ab,ak⟩:=b2.out w1 ((af gQz.drew _).trans Q (fun i _ o=>cc.out i o));have z0:=aa ab 0;have gz:=aa ak 3;have gL:=aa ak 4;have V:=gQq (gx D.out bb.out ai.out bO.out K.out.drew bl Q ah);clear bl Q ah ab ak)|fail)
   go_wp2;go_ret;exact⟨by rw[L.out];rfl,⟨A.s.told,by omega,by rw[bj.out,L.out];exact V.out.1.few (by omega)⟩,V.out.2⟩
  ·have f6:(S==7)=false:=bg a4;by_cases bc:S=8
   ·have f7:(S==8)=true:=dq bc;have c6:=gQq (yk (cd.out.below K.out));have L:Hid (Al.step y A=((Dv.start A.s).1,⟨(Dv.start A.s).2,A.w⟩)):=by
     show _=_;unfold Al.step;rw[<-a5.out,AF aw,AF a4,AG bc]
    have fy:=gQq bc;clear aw a4 bc;go_wp2_with fail;rw[a7.out];refine c6.out.mono ?_;rintro a3 w1 ⟨rfl,be,bn,bp,bl,Q,ah⟩;have V:=gQq (gx D.out bb.out ai.out bO.out K.out bl Q ah);clear bl Q ah;go_wp2;go_ret;exact⟨by rw[L.out];rfl,⟨A.s.told,by omega,by rw[bj.out,L.out];exact V.out.1.few (by omega)⟩,V.out.2⟩
   ·have f7:(S==8)=false:=bg bc;obtain⟨df,bX⟩:∃df,df=A.w:=⟨_,rfl⟩;rw[<-bX] at bO;have fv:=gQq bX;cases df with
    |none=>
     have cv:=bO.out;simp only at cv;subst cv;have L:Hid (Al.step y A=(0,A)):=by
      show _=_;unfold Al.step;rw[<-a5.out,AF aw,AF a4,AF bc,<-bX]
     clear aw a4 bc bX;go_wp2;rw[a7.out];go_ret;refine⟨by rw[L.out];rfl,⟨A.s.told,by omega,?_⟩,af K.out _⟩;rw[bj.out,L.out];have bk:=gx (x:=x) (k:=k) D.out bb.out ai.out (by rw[<-fv.out]) gQz (cd.out.below K.out) (af K.out _) (fun _ o=>Y o);exact bk.1.few (by omega)
    |some u=>
     obtain⟨a,m,M,n,e,gm,q,cap,cv,hg,ck,co,dr,cp⟩:=bO.out;subst cv;have ec:Hid (Al.step y A=((Al.does y ⟨A.s,u.1,u.2.1,u.2.2⟩).1,⟨(Al.does y ⟨A.s,u.1,u.2.1,u.2.2⟩).2.s,I (Al.of (Al.does y ⟨A.s,u.1,u.2.1,u.2.2⟩).2)⟩)):=by
      show _=_;unfold Al.step;rw[<-a5.out,AF aw,AF a4,AF bc,<-bX]
     have a1:=ec;obtain⟨X,du⟩:∃X:Wr,X=⟨A.s,u.1,u.2.1,u.2.2⟩:=⟨_,rfl⟩;have cn:X.s=A.s:=(by rw[du]);rw[<-du] at a1 cp;have ct:=cp.walk.off zb (AX (AX rfl));have eg:Hid (∀i,(i=a∨(i=g∨v.ownBlock=I i)∨bA m M e i)->i≠zb∧i≠w.1.size):=fun i o=>by
      rcases o with o | o | o
      ·rw[o];exact⟨co,by have:=(D.out.low a ck).2;omega⟩
      ·exact cc.out i o
      ·refine⟨fun J=>?_,by have:=(D.out.low i (dr i o)).2;omega⟩;rw[J] at o;rcases o with o | o | o
       ·exact ct.1 o
       ·exact ct.2.1 o
       ·exact ct.2.2 o
     have c5:Hid (¬(E a∨a=zb)∧¬(E g∨g=zb)∧∀i,v.ownBlock=I i->¬(E i∨i=zb)):=⟨fun J=>J.elim (D.out.apart a ck) co,fun J=>J.elim (D.out.apart g D.out.og) D.out.zg,fun i o J=>J.elim (D.out.apart i (ai.out i o).1) (ai.out i o).2⟩;have a6:=gQq cp;have b3:=gQq ck;have b1:=gQq co;have b4:=gQq dr;have e5:X.s.safe<=X.s.b.length:=(by rw[cn];exact bi.out.safe);have e6:X.s.b.length<=2097152:=(by rw[cn];have:=bi.out.len;omega);have e7:X.s.most<=1048576:=(by rw[cn];exact bi.out.most);have e8:X.s.done<4611686018425290752:=(by rw[cn];have:=bi.out.done;omega);have d3:n<900000000:=(by omega);clear cp ck co dr ct du ec aw a4 bc bX;by_cases aj:S=2
     ·have f2:(S==2)=true:=dq aj;have L:Hid (Al.does y X=X.append y.l):=(by show _=_;unfold Al.does;rw[<-a5.out,AG aj]);have c9:=gQq aj;clear aj;have a2:=gQq (kJ (a6.out.on K.out.drew) c5.out (fq.out _ (K.out.drew.mono ci)) (c7.out.next K.out.drew) dj d3 e5 e6 e7 e8);go_wp2_with fail;rw[a7.out]
      go_region_held3 (fun w'=>w'.cell? ⟨zb,2,U⟩=I (C (I ⟨a,0,U⟩))∧w'.cell? ⟨w.1.size,2,U⟩=I (pv b0 y.l.length rd)) (go_keep) (first|(go_at_call 15;refine a2.out.mono ?_;rintro a3 w1 ⟨rfl,⟨⟨be,f8,bn,bp,f9,a8,ah,d0⟩,Q⟩⟩;obtain⟨ab,ak⟩:=b2.out w1 ((af gQz.drew _).trans Q (fun i _ o=>eg.out i o));have z2:=aa ab 2;have gt:=aa ak 2;have V:=gQq (eV (nb':=nb+2097153) D.out bb.out ai.out b3.out b1.out b4.out a6.out K.out.drew a8 (by omega) Q ah d0);clear Q ab ak)|fail)
      go_wp2;go_ret;exact⟨by rw[a1.out,L.out];rfl,⟨A.s.told,by omega,by rw[bj.out,a1.out,L.out];exact V.out.1⟩,V.out.2⟩
     ·have f2:(S==2)=false:=bg aj;by_cases a0:S=3
      ·have f3:(S==3)=true:=dq a0;have L:Hid (Al.does y X=X.change y.c):=(by show _=_;unfold Al.does;rw[<-a5.out,AF aj,AG a0]);have bs:=cy.out _ (K.out.drew.mono ci);have c9:=gQq aj;have en:=gQq a0;have c8:=gQq bs;clear aj a0 bs;have a2:=gQq (rR (a6.out.on K.out.drew) y.c p c c8.out.len c8.out.cols c8.out.wf);go_wp2_with fail;rw[a7.out]
       go_region_held3 (fun w'=>w'.cell? ⟨zb,2,U⟩=I (C (I ⟨a,0,U⟩))∧w'.cell? ⟨w.1.size,1,U⟩=I (pv p y.c.length c)) (go_keep) (first|(go_at_call 25;refine a2.out.mono ?_;rintro a3 w1 ⟨rfl,⟨cw,g5,a8⟩,Q⟩;obtain⟨ab,ak⟩:=b2.out w1 ((af gQz.drew _).trans Q (fun i _ o=>eg.out i (Y o)));have z2:=aa ab 2;have d6:=aa ak 1;have V:=gQq (eV (nb':=nb+2097153) D.out bb.out ai.out b3.out b1.out b4.out a6.out K.out.drew a8 (by omega) (Q.mono fun i _ o=>Y o) (fun _ o=>Y o) (fun _ o=>Y o));clear Q ab ak)|fail)
       go_wp2;go_ret;exact⟨by rw[a1.out,L.out];rfl,⟨A.s.told,by omega,by rw[bj.out,a1.out,L.out];exact V.out.1⟩,V.out.2⟩
      ·have f3:(S==3)=false:=bg a0;by_cases a9:S=4
       ·have f4:(S==4)=true:=dq a9;have L:Hid (Al.does y X=X.sync):=(by show _=_;unfold Al.does;rw[<-a5.out,AF aj,AF a0,AG a9]);have c9:=gQq aj;have en:=gQq a0;have fx:=gQq a9;clear aj a0 a9;have a2:=gQq (wo (a6.out.on K.out) c5.out);go_wp2_with fail;rw[a7.out];refine a2.out.mono ?_;rintro a3 w1 ⟨rfl,⟨⟨be,bn,bp,a8,ah⟩,Q⟩⟩;have V:=gQq (eV (nb':=nb+2097153) D.out bb.out ai.out b3.out b1.out b4.out a6.out K.out a8 (by omega) (Q.mono fun i _ o=>o.elim Y (fun o=>AX (Y o))) ah (fun _ o=>Y o));clear Q;go_wp2;go_ret;exact⟨by rw[a1.out,L.out];rfl,⟨A.s.told,by omega,by rw[bj.out,a1.out,L.out];exact V.out.1⟩,V.out.2⟩
       ·have f4:(S==4)=false:=bg a9;by_cases bv:S=5
        ·have f5:(S==5)=true:=dq bv;have L:Hid (Al.does y X=(X.close.2.1,X.close.2.2)):=(by show _=_;unfold Al.does;rw[<-a5.out,AF aj,AF a0,AF a9,AG bv]);have c9:=gQq aj;have en:=gQq a0;have fx:=gQq a9;have g4:=gQq bv;clear aj a0 a9 bv;have a2:=gQq (nv (a6.out.on K.out) c5.out (c7.out.next K.out) dj d3 e5 e6 e7 e8);go_wp2_with fail;rw[a7.out];refine a2.out.mono ?_;rintro a3 w1 ⟨rfl,⟨⟨be,f8,bn,bp,f9,a8,ah,d0⟩,Q⟩⟩;have V:=gQq (eV (nb':=nb+2097153) D.out bb.out ai.out b3.out b1.out b4.out a6.out K.out a8 (by omega) Q ah d0);clear Q;go_wp2;go_ret;exact⟨by rw[a1.out,L.out];rfl,⟨A.s.told,by omega,by rw[bj.out,a1.out,L.out];exact V.out.1⟩,V.out.2⟩
        ·have f5:(S==5)=false:=bg bv;have L:Hid (Al.does y X=(0,X)):=(by show _=_;unfold Al.does;rw[<-a5.out,AF aj,AF a0,AF a9,AF bv]);have V:=gQq (eV (nb':=nb+2097153) D.out bb.out ai.out b3.out b1.out b4.out a6.out gQz (a6.out.on K.out) (by omega) (af K.out _) (fun _ o=>Y o) (fun _ o=>Y o));clear aj a0 a9 bv;go_wp2;rw[a7.out];go_ret;exact⟨by rw[a1.out,L.out];rfl,⟨A.s.told,by omega,by rw[bj.out,a1.out,L.out];exact V.out.1⟩,V.out.2⟩
end
end
section
open Go.RowKit Go.Maps
def opC(o:Op)(p:OA)(c:Nat)(rq:OA)(rd:Nat):List Value:=[F N o.kind,pv p o.c.length c,pv rq o.l.length rd,F N o.n,F N o.m]
def vv(w:AU)(q:OA)(l:List Op):Prop:=∀j (hj:j<l.length),∃b t p c rq rd,q=I ⟨b,t,U⟩∧b<w.1.size∧(∀m,m<5->w.cell? ⟨b,t+j*5+m,U⟩=(opC l[j] p c rq rd)[m]?)∧ef w p c l[j].c∧cQ w rq rd l[j].l∧Fr.i64 l[j].n∧Fr.i64 l[j].m
theorem vv.on{l:List Op}(h:vv w q l)(hb:AC w.1.size w w'):vv w' q l:=fun j X=>by
 obtain⟨b,t,p,c,D,rd,J,K,L,Q,S,V⟩:=h j X;exact⟨b,t,p,c,D,rd,J,AS K hb.size,fun m y=>by
  have o:=L m y;have Z:m<(opC l[j] p c D rd).length:=y;rw[List.getElem?_eq_getElem Z] at o ⊢
  exact ae hb o,Q.on hb,S.on hb,V⟩
theorem ax.down19{s:Dv.St}(h:ax w B g v s x k)(o:B'<=B):ax w B' g v s x k:=⟨h.lies,h.has.low o,AT o h.base,h.due,h.left,h.keep⟩
theorem Sd.on{zb nb:Nat}{A:Al}{O E:Nat->Prop}(h:Sd w B zb g A O E nb)(hb:AC w.1.size w w'):Sd w' B zb g A O E nb:=h.other (af hb _) (fun _ o=>Y o) (fun i o=>AS (h.eL i o) hb.size)
theorem Al.step_tl2(t t':Nat)(o:Op)(A:Al):(Al.step o (A.tl t)).2.tl t'=(Al.step o A).2.tl t':=by
 rw[Al.step_tl];rfl
structure Tw(w1 wr:AU)(B z1 g1 z2 g2 t:Nat)(A:Al):Prop where
 out:∃O1 O2 t1 t2 nb,Sd wr B z1 g1 (A.tl t1) O1 O2 nb∧Sd wr B z2 g2 (A.tl t2) O2 O1 nb∧t1<=t*8000000000∧t2<=t*8000000000∧nb<=t*2097153
 fits:Dv.Fits A.s (2*t)
 below:AC B w1 wr
theorem Tw.on{wr:AU}{z1 o z2 y t:Nat}{A:Al}(h:Tw w1 wr B z1 o z2 y t A)(S:B<=wr.1.size)(hb:AC wr.1.size wr w'):Tw w1 w' B z1 o z2 y t A:=by
 obtain⟨D,J,V,X,nb,K,L,Q⟩:=h.out;exact⟨⟨D,J,V,X,nb,K.on hb,L.on hb,Q⟩,h.fits,h.below.trans (hb.mono S)⟩
end
end Go.Proofs.YtngmnfdaedlodaaGreatDoor

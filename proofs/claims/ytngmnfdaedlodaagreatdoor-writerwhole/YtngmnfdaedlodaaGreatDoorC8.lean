import Derived.Test.YtngmnfdaedlodaaGreatDoorB49
import Derived.Test.YtngmnfdaedlodaaGreatDoorB48
import Derived.Test.YtngmnfdaedlodaaGreatDoorC5
set_option maxRecDepth 100000
set_option maxHeartbeats 4000000
namespace Go.Proofs.YtngmnfdaedlodaaGreatDoor
open Go.Proofs.Tryz
open Option renaming some->I,none->F
open Go.Value renaming int->U,slice->C
open Go.IntKind renaming i64->O
open Go.RowKit renaming Hid->R
open Except renaming error->N
open Go.Obj renaming cells->wx
variable{B M a j k n:Nat}{w1:World}{v:Value}{y:Sc.Pos}
section
open Go.RowKit Go.Maps
structure WhI(w wr:World)(B g x k:Nat)(v:Value)(s:Dv.St)(G:Nat->Prop)(j:Nat)(X:Sc.Pos):Prop where
 dev:ax wr B g v { s with told:=s.told+X.read } x k
 walk:∃v' g',av wr w.1.size (w.1.size+1) w.1.size j v' g' X.wk G
 aside:Aside (fun i=>i=g) w wr
 goes:Sc.goes s.b j=I X
section
variable {w:World} {B g x k:Nat} {v:Value} {s:Dv.St} {G:Nat->Prop}
theorem av.far{g:Int->Option Value}{s:Wk}{G:Nat->Prop}(h:av w1 B a M n v g s G){i:Nat}(o:bA a M v i):B<=i:=by
 rcases o with o | o | o
 ·rw[o];exact h.base.1
 ·rw[o];exact h.base.2
 ·exact(h.ents.lt i o).1
theorem WhI.after{E:World}{J:Dv.St}{Z:Wk}{Q:Value}{S:Int->Option Value}(hd:ax w1 B g v J x k)(D:av w1 w.1.size (w.1.size+1) w.1.size n Q S Z G)(X:Aside (fun i=>i=g) w w1)(K:Aside (bA (w.1.size+1) w.1.size Q) w1 E)(V:∀i,i=g∨v.ownBlock=I i->G i)(ab:g<w.1.size):
  ax E B g v J x k∧Aside (fun i=>i=g) w E:=by
 refine⟨hd.aside K (fun o=>?_) (fun i L o=>?_),X.trans K (fun i L o=>?_)⟩
 ·have:=D.far o;omega
 ·have A:=D.off i (V i (.inr L));rcases o with o | o | o
  ·exact A.1 o
  ·exact A.2.1 o
  ·exact A.2.2 o
 ·have:=D.far o;omega
theorem lF(h:ax w B g v s x k)(hd:s.down=false)(ez:s.b.length<=2097152)(fy:s.told<=1000000000000000)(d2:Hv w)(bi:2<B)(ct:B<=w.1.size)(cu:∀i,i=g∨v.ownBlock=I i->G i)(bj:∀i,G i->i<w.1.size):
  Calls Tryz.prog 10 #[.pointer (I ⟨g,0,F⟩)] w fun e w'=>∃j X er v' a1,Sc.goes s.b j=I X∧Sc.step s.b X=N er∧e=.returned (.tuple #[.pointer (I ⟨w.1.size+1,0,F⟩),U O (X.at_:Nat),U O (er:Nat)])∧av w' w.1.size (w.1.size+1) w.1.size (j+1) v' a1 X.wk G∧ax w' B g v { s with told:=s.told+X.read+Sc.reads s.b X.at_ } x k∧Aside (fun i=>i=g) w w':=by
 have be:=gQq (kUp h);rw[hd] at be;have b3:=gQq (uc w G bj);have b0:=gQq h;have b1:=gQq d2;have bX:=gQq cu;have e2:=gQq bj;have ew:=h.lt;have fo:=h.base;have d9:=gQq hd;clear h d2 cu bj hd;go_enter func10,ntmps10;go_wp2_with fail;refine be.out.mono ?_;rintro e w' ⟨rfl,d4⟩;rw[d4];clear d4 w' be;go_wp2_with fail;refine b3.out.mono ?_;rintro e w1 ⟨rfl,dv,S,eL⟩;have eb:R (WhI w w1 B g x k v s G 0 Sc.begin_):=⟨b0.out.below S,⟨_,_,dv⟩,af S _,rfl⟩;clear dv S eL b3 b0;go_wp2_with fail;go_loopw [6] (fun bN wr=>∃j X,bN=U O (X.at_:Nat)∧R (WhI w wr B g x k v s G j X)) (fun bN _=>s.b.length-(intOf bN).toNat);case atStart=>exact⟨0,Sc.begin_,rfl,eb⟩
 case round=>
  obtain⟨j,X,rfl,E⟩:=hrel;obtain⟨ev,fc,e9,fx⟩:=Sc.goes_good E.out.goes;obtain⟨v',a1,d6⟩:=E.out.walk;have cr:=kAt E.out.dev d9.out ez (by show s.told+X.read+s.b.length<=_;omega) (b1.out.on (E.out.aside.below ct (fun i L hc=>by omega)) bi) bi (X.at_:Nat);obtain⟨A,eq⟩:∃A,A=X.at_:=⟨_,rfl⟩
  have Z:R (Sc.step s.b X=match Sc.at_ s.b (X.at_:Nat) with
   |N e=>N e
   |.ok (f,n)=>if Sc.may X.wk f (X.at_:Nat)=true then .ok ⟨n,Sc.take X.wk f (X.at_:Nat),X.read+Sc.reads s.b (X.at_:Nat)⟩ else N 143):=rfl
  have ai:R (∀f n,Sc.at_ s.b (X.at_:Nat)=.ok (f,n)->f.wf∧n<=s.b.length∧X.at_<n):=fun f n bk=>by
   obtain⟨e3,e4,e5,el,em,en,e6⟩:=Sc.at_ok bk;exact⟨el,en,by rw[em];omega⟩
  have ah:R (∀er,Sc.at_ s.b (X.at_:Nat)=N er->er≠0):=fun er bk=>wZ bk;obtain⟨r,bq⟩:∃r,r=Sc.at_ s.b (X.at_:Nat):=⟨_,rfl⟩;rw[<-bq] at Z ai ah;have cs:Calls Tryz.prog 13 #[.pointer (I ⟨g,0,F⟩),U O (X.at_:Nat)] wr fun e w'=>AtA r wr e w'∧ax w' B g v { s with told:=s.told+X.read+Sc.reads s.b (X.at_:Nat) } x k∧Aside (fun k=>k=g) wr w':=by rw[bq];exact cr
  have a7:=gQq cs;have a0:=gQq d6;have fi:(X.at_:Int)<=2097152:=by omega
  clear cr cs bq d6 ev eq A;go_wp2_with fail;refine a7.out.mono ?_;rintro e D ⟨a2,a3,has⟩;have a5:av D w.1.size (w.1.size+1) w.1.size j v' a1 X.wk G:=a0.out.aside (has.mono fun i _ L=>bX.out i (.inl L)) (fun i L=>.inl L) (fun i L=>AS (a0.out.low i L) has.size);have J:Aside (fun i=>i=g) w D:=E.out.aside.trans has (fun _ _ h=>h);have bb:=gQq E.out.goes;cases r with
  |error er=>
   replace a2:e=.returned (.tuple #[.agg #[U O 0,U O 0,C F 0 0,U O 0,U O 0,U O 0,C F 0 0,U O 0,U O 0,U O 0,C F 0 0],U O 0,U O (er:Nat)]):=a2
   subst a2;have eC:=ah.out er rfl;have e7:((er:Int)==0)=false:=(by rw[BQ];omega);have e8:((er:Int) != 0)=true:=(by rw[bne_iff_ne];omega);have Q:R (Sc.step s.b X=N er):=Z.out;have eg:=gQq a5;have ea:=gQq a3;have d8:=gQq J;clear a5 a3 J has eC ah ai Z a7 a0 E;go_wp2
   go_ret3
   have ds:∀o,Below D.1.size D (D.alloc o):=fun o=>gQz.alloc gQx o;exact⟨j,X,er,v',a1,bb.out,Q.out,rfl,(eg.out.on (ds _)).more (Nat.le_succ j),ea.out.below (ds _),d8.out.alloc _⟩
  |ok y=>
   obtain⟨f,m⟩:=y;obtain⟨u,rfl,bn⟩:∃u,e=.returned (.tuple #[.agg u,U O (m:Nat),U O 0])∧eI D wr.1.size u f:=a2;obtain⟨d5,fs,fv⟩:=ai.out f m rfl;have bl:=bn.lies;obtain⟨sp,d7,co,cn,cq,cp,d1,-⟩:=bn.out;unfold aF at d1;subst d1;obtain⟨b5,cx⟩:∃x,x=f.kind:=⟨_,rfl⟩;obtain⟨b6,S⟩:∃x,x=f.number:=⟨_,rfl⟩;obtain⟨b8,dr⟩:∃x,x=f.cols.length:=⟨_,rfl⟩;obtain⟨b9,c5⟩:∃x,x=f.seq:=⟨_,rfl⟩;obtain⟨cb,c6⟩:∃x,x=f.first:=⟨_,rfl⟩;obtain⟨cc,c7⟩:∃x,x=f.rows:=⟨_,rfl⟩;obtain⟨cd,c8⟩:∃x,x=f.block.length:=⟨_,rfl⟩;obtain⟨ci,c9⟩:∃x,x=f.index.at_:=⟨_,rfl⟩;obtain⟨cj,df⟩:∃x,x=f.index.frames:=⟨_,rfl⟩;obtain⟨ck,dj⟩:∃x,x=f.index.rows:=⟨_,rfl⟩;obtain⟨b7,cy⟩:∃x,x=f.index.entries.length:=⟨_,rfl⟩;rw[<-cx,<-S,<-dr,<-c5,<-c6,<-c7,<-c8,<-c9,<-df,<-dj,<-cy] at bl ⊢;obtain⟨V,bs⟩:∃V,V=D.alloc (wx #[U O b5,U O b6,C sp b8 d7,U O b9,U O cb,U O cc,C co cd cn,U O ci,U O cj,U O ck,C cq b7 cp] 52):=⟨_,rfl⟩;have K:Below D.1.size D V:=(by rw[bs];exact gQy);have b4:R (D.alloc (wx #[U O b5,U O b6,C sp b8 d7,U O b9,U O cb,U O cc,C co cd cn,U O ci,U O cj,U O ck,C cq b7 cp] 52)=V):=bs.symm;have bp:=a5.on K;have d3:Hv V:=b1.out.on ((J.below ct (fun i L hc=>by omega)).trans (K.mono (by have:=J.size;omega))) bi;have bc:=gQq (ua bp f d5 _ (bl.on K) (X.at_:Nat) d3 (by omega) (by have:=J.size;have:=K.size;omega));have b2:=gQq bp;have bT:=gQq (a3.below K)
   have bO:R (Aside (fun i=>i=g) w V):=J.trans (af K (fun i=>i=g)) (fun _ _ h=>h);obtain⟨ab,a4⟩:∃ab,ab=Sc.may X.wk f (X.at_:Nat):=⟨_,rfl⟩;rw[<-a4] at bc;have aj:R (Sc.step s.b X=if ab=true then .ok ⟨m,Sc.take X.wk f (X.at_:Nat),X.read+Sc.reads s.b (X.at_:Nat)⟩ else N 143):=(by rw[a4];exact Z.out);have aw:R (Sc.next X.wk f (X.at_:Nat)=if ab=true then Sc.take X.wk f (X.at_:Nat) else X.wk):=(by rw[a4];exact rfl);have fq:(m:Int)<=2097152:=(by omega);clear bn bl a5 a3 J has bp d3 K bs a4 Z ah ai a7 a0 E cx S dr c5 c6 c7 c8 c9 df dj cy d5;go_wp2_with fail;rw[b4.out];refine bc.out.mono ?_;rintro e w4 ⟨rfl,e1,ep,d0,cv,e0⟩;obtain⟨du,cw⟩:=WhI.after bT.out b2.out bO.out cv bX.out ew;have HK4:=gQq d0;have a9:=gQq du;have a8:=gQq cw;clear d0 cv e0 du cw bc b2 bT bO b4;cases ab with
   |false=>
    have Q:R (Sc.step s.b X=N 143):=aj.out;have ak:R (Sc.next X.wk f (X.at_:Nat)=X.wk):=aw.out;rw[ak.out] at HK4;clear aj aw;go_wp2
    go_ret3
    exact⟨j,X,143,e1,ep,bb.out,Q.out,rfl,HK4.out,a9.out,a8.out⟩
   |true=>
    have Q:=gQq (Sc.goes_succ bb.out aj.out);have ak:R (Sc.next X.wk f (X.at_:Nat)=Sc.take X.wk f (X.at_:Nat)):=aw.out;rw[ak.out] at HK4;have ec:R (WhI w w4 B g x k v s G (j+1) ⟨m,Sc.take X.wk f (X.at_:Nat),X.read+Sc.reads s.b (X.at_:Nat)⟩):=⟨by rw[<-Nat.add_assoc];exact a9.out,⟨_,_,HK4.out⟩,a8.out,Q.out⟩;clear aj aw HK4 a9 a8 Q ak;go_wp2;go_roundw;case rel=>exact⟨j+1,_,rfl,ec⟩
    case measure=>simp[intOf];omega
end
end
section
open Go.RowKit Go.Maps
def An(o:Option Kn)(w:World)(e:Ending)(w':World):Prop:=match o with
 |none=>e=.returned (.tuple #[.agg #[C F 0 0],.bool false])
 |some k=>∃q cap,e=.returned (.tuple #[.agg #[C q k.cols.length cap],.bool true])∧dt w' w.1.size #[C q k.cols.length cap] k.cols
theorem fix_all{s:List Col}(h:∀c∈s,c.fix=c∧c.wf):s.map Col.fix=s:=by
 conv=>rhs;rw[<-List.map_id s]
 exact List.map_congr_left fun c o=>(h c o).1
theorem wu{w:World}{g:Int->Option Value}{s:Wk}{G:Nat->Prop}(h:av w B a M n v g s G)(m:Int)(bp:Fr.i64 m):Calls Tryz.prog 81 #[.pointer (I ⟨a,0,F⟩),U O m] w fun e w'=>An (s.sch m) w e w'∧Below w.1.size w w':=by
 obtain⟨A,D⟩:∃A,A=w.alloc (wx #[C F 0 0] 35):=⟨_,rfl⟩;have S:Below w.1.size w A:=by rw[D];exact gQy
 have E:A.1[w.1.size]?=I (wx #[C F 0 0] 35):=by rw[D];exact an w _
 have X:=h.on S;have c0:∀o,(w.alloc o).cell? ⟨a,0,F⟩=I (.map (I M)):=fun o=>ae (gQz.alloc gQx o) (h.cell 0);have a0:A.1.size=w.1.size+1:=by rw[D];simp
 have K:=X.map.look_ok bp;cases hs:s.sch m with
 |none=>
  rw[h.unknown hs] at K;simp only[Option.getD_none,Option.isSome_none,fF] at K;rw[D] at K;have bb:R (∀o,Below w.1.size w ((w.alloc (wx #[C F 0 0] 35)).alloc o)):=fun o=>gQy.alloc (by simp) _;have aj:R (∀o,((w.alloc (wx #[C F 0 0] 35)).alloc o).1[w.1.size]?=I (wx #[C F 0 0] 35)):=fun o=>by
   have a7:=(ay A o (ap E)).trans E;rw[D] at a7;exact a7
  have bT:∀o,((w.alloc (wx #[C F 0 0] 35)).alloc o).cell? ⟨w.1.size,0,F⟩=I (C F 0 0):=fun o=>by have:=aa ((ay A o (ap E)).trans E) 0;rw[D] at this;exact this
  have bX:∀o,((w.alloc (wx #[C F 0 0] 35)).alloc o).frozen? ⟨w.1.size,0,F⟩=false:=fun o=>by have:=ac ((ay A o (ap E)).trans E) 0;rw[D] at this;exact this
  clear h X hs D S E a0;go_enter func81,ntmps81;go_wp2;refine bodyPost_ret (eu rfl _ _ w.1.size _ _ _ _ rfl (aj.out _) underlying35 rfl (by kernel_rfl)) rfl ?_;exact⟨rfl,bb.out _⟩
 |some k=>
  obtain⟨p,c,a4,a5,bl,a6⟩:=X.known hs;obtain⟨-,a9,a1,-⟩:=h.good.known m k hs;rw[a4] at K;simp only[Option.getD_some,Option.isSome_some] at K;rw[D] at K;obtain⟨Q,Z⟩:∃Q,Q=A.alloc (wx #[C p k.cols.length c,U O k.place] 136):=⟨_,rfl⟩;have ab:Below A.1.size A Q:=by rw[Z];exact gQy
  have V:=gQq (qF k.cols p c Q a5 (a6.on ab) a9 (fun x bq=>(a1 x bq).2));rw[fix_all a1] at V;have a3:R ((w.alloc (wx #[C F 0 0] 35)).alloc (wx #[C p k.cols.length c,U O k.place] 136)=Q):=by rw[Z,D];exact rfl
  have a2:=gQq (S.trans (ab.mono S.size));have aj:=gQq ((ab.block _ (ap E)).trans E);have bv:Q.1.size=w.1.size+2:=by rw[Z];simp[a0]
  obtain⟨J,aw⟩:∃J,J=k.cols.length:=⟨_,rfl⟩;rw[<-aw] at V a3 K;have bi:=gQq aw;clear h X hs D S E Z ab a4 a5 bl a6 a9 a1 a0 aw;go_enter func81,ntmps81;go_wp2_with fail;rw[a3.out];refine V.out.mono ?_;rintro e L ⟨q,cap,rfl,a8,ah⟩;have ai:=(ah.block _ (by omega)).trans aj.out;have bN:L.cell? ⟨w.1.size,0,F⟩=I (C F 0 0):=aa ai 0;have bO:=ac ai 0;have ak:Aside (fun i=>i=w.1.size) L (L.setCell ⟨w.1.size,0,F⟩ (C q J cap)):=(Aside.refl (fun i=>i=w.1.size) L).setCell (p:=⟨w.1.size,0,F⟩) (.inl rfl) _;have bj:R (dt (L.setCell ⟨w.1.size,0,F⟩ (C q J cap)) w.1.size #[C q J cap] k.cols):=eo (a8.beside ak (fun i bn=>by omega)) (by omega);have bc:R (Below w.1.size w (L.setCell ⟨w.1.size,0,F⟩ (C q J cap))):=(a2.out.trans (ah.mono a2.out.size)).trans (ak.below (by have:=ah.size;omega) (fun i bn bs=>by omega));have be:R ((L.setCell ⟨w.1.size,0,F⟩ (C q J cap)).1[w.1.size]?=I (wx #[C q J cap] 35)):=by
   show _=_;simp only[World.setCell,Array.getElem?_modify,ai,if_true,Option.map_some];rfl
  clear a8 ah ai ak V;go_wp2;refine bodyPost_ret (eu rfl _ _ w.1.size _ _ _ _ rfl be.out underlying35 rfl (by kernel_rfl)) rfl ?_;have bk:=bi.out;subst bk;exact⟨⟨q,cap,rfl,bj.out⟩,bc.out⟩
end
section
namespace Rp
def kept(b:L8):Nat->Nat
 |0=>0
 |k+1=>match Sc.goes b k with
  |none=>kept b k
  |some x=>match Sc.at_ b x.at_ with
   |N _=>kept b k
   |.ok (f,n)=>if f.kind=1 then kept b k else n
def kind(b:L8):Nat->Int
 |0=>0
 |k+1=>match Sc.goes b k with
  |none=>0
  |some x=>match Sc.at_ b x.at_ with
   |N _=>0
   |.ok (f,_)=>f.kind
theorem kept_succ{b:L8}{x:Sc.Pos}{f:Fr}(h:Sc.goes b k=I x)(o:Sc.at_ b x.at_=.ok (f,n)):kept b (k+1)=if f.kind=1 then kept b k else n:=by
 rw[kept,h];simp only[o]
theorem kind_succ{b:L8}{x:Sc.Pos}{f:Fr}(h:Sc.goes b k=I x)(o:Sc.at_ b x.at_=.ok (f,n)):kind b (k+1)=f.kind:=by
 rw[kind,h];simp only[o]
theorem goes_lt{b:L8}{x:Sc.Pos}(J:Sc.goes b j=I x)(K:Sc.goes b (j+1)=I y):∃f,Sc.at_ b x.at_=.ok (f,y.at_)∧x.at_<y.at_:=by
 obtain⟨z,o,E⟩:=Sc.goes_pred K;rw[J] at o;injection o with o;subst o;obtain⟨f,A,-⟩:=Sc.step_ok E;obtain⟨L,Q,S,V,D,X,Z⟩:=Sc.at_ok A;exact⟨f,A,by rw[D];omega⟩
theorem goes_mono{b:L8}{x:Sc.Pos}(o:Sc.goes b j=I x):∀(d:Nat) {y:Sc.Pos},Sc.goes b (j+d)=I y->x.at_+d<=y.at_
 |0,y,hy=>by
  rw[Nat.add_zero,o] at hy;injection hy with hy;subst hy;exact gQx
 |d+1,y,hy=>by
  obtain⟨z,A,J⟩:=Sc.goes_pred (k:=j+d) hy;have D:=goes_mono o d A;obtain⟨f,-,E⟩:=goes_lt A hy;omega
theorem goes_le{b:L8}{x:Sc.Pos}(o:Sc.goes b j=I x)(A:Sc.goes b k=I y)(h:j<=k):x.at_+(k-j)<=y.at_:=goes_mono o (k-j) (by rw[show j+(k-j)=k by omega];exact A)
theorem goes_before{b:L8}:∀(d:Nat) {y:Sc.Pos},Sc.goes b (j+d)=I y->∃x,Sc.goes b j=I x
 |0,y,h=>⟨y,h⟩
 |d+1,y,h=>by
  obtain⟨z,o,-⟩:=Sc.goes_pred (k:=j+d) h;exact goes_before d o
theorem goes_pre{b:L8}(h:Sc.goes b k=I y)(o:j<=k):∃x,Sc.goes b j=I x:=goes_before (k-j) (by rw[show j+(k-j)=k by omega];exact h)
theorem kept_le{b:L8}:∀{k:Nat} {x:Sc.Pos},Sc.goes b k=I x->kept b k<=x.at_
 |0,_,_=>Nat.zero_le _
 |k+1,x,h=>by
  obtain⟨y,o,E⟩:=Sc.goes_pred h;obtain⟨f,A,D⟩:=goes_lt o h;rw[kept_succ o A];split
  ·have:=kept_le o;omega
  ·exact gQx
theorem kept_goes{b:L8}:∀{k:Nat} {x:Sc.Pos},Sc.goes b k=I x->∃m y,m<=k∧Sc.goes b m=I y∧y.at_=kept b k∧kept b m=kept b k
 |0,x,h=>⟨0,x,gQx,h,by injection h with h;subst h;rfl,rfl⟩
 |k+1,x,h=>by
  obtain⟨y,o,S⟩:=Sc.goes_pred h;obtain⟨f,J,L⟩:=goes_lt o h;have e:=kept_succ o J;by_cases A:f.kind=1
  ·rw[AG A] at e;obtain⟨m,z,Q,K,D,E⟩:=kept_goes o;exact⟨m,z,by omega,K,by rw[D,e],by rw[E,e]⟩
  ·rw[AF A] at e;exact⟨k+1,x,gQx,h,e.symm,rfl⟩
theorem kept_kind{b:L8}:∀{k:Nat} {x:Sc.Pos},Sc.goes b k=I x->kept b k=x.at_->kind b k≠1
 |0,_,_,_=>by simp[kind]
 |k+1,x,h,he=>by
  obtain⟨y,o,J⟩:=Sc.goes_pred h;obtain⟨f,A,E⟩:=goes_lt o h;rw[kind_succ o A];intro D;rw[kept_succ o A,AG D] at he;have:=kept_le o;omega
theorem kept_take{b:L8}{m:Nat}(hb:m<=b.length):∀{k:Nat} {x:Sc.Pos},Sc.goes b k=I x->x.at_<=m->kept (b.take m) k=kept b k
 |0,_,_,_=>rfl
 |k+1,x,h,hm=>by
  obtain⟨y,o,K⟩:=Sc.goes_pred h;obtain⟨f,A,J⟩:=goes_lt o h;have D:y.at_<=m:=by omega
  obtain⟨r,E⟩:=Sc.goes_take hb o D;rw[kept_succ o A,kept_succ E (Sc.at_take A hm hb),kept_take hb o D]
theorem ends(b:L8):∃j o A,Sc.goes b j=I o∧Sc.step b o=N A:=by
 have key:∀n j o,Sc.goes b j=I o->b.length-o.at_<=n->∃j o A,Sc.goes b j=I o∧Sc.step b o=N A:=by
  intro n;induction n with
  |zero=>
   intro j o h E;have:=(Sc.goes_good h).2.1;exact⟨j,o,140,h,Sc.step_end (by omega)⟩
  |succ n ih=>
   intro j o h E;cases hs:Sc.step b o with
   |error A=>exact⟨j,o,A,h,hs⟩
   |ok Y=>
    have D:=Sc.goes_succ h hs;obtain⟨f,-,J⟩:=goes_lt h D;exact ih (j+1) Y D (by omega)
 exact key _ 0 Sc.begin_ rfl gQx
def isF(r:L8):Bool:=match Fr.dec r with
 |.ok _=>true
 |N _=>false
def bad(b:L8)(p:Nat):Bool:=(Sp.of (b.drop p)).out.any fun r=>isF r.2
def look(b:L8)(j p er:Nat):Except Nat Nat:=if er≠140∧bad b p=true then N 150 else .ok (kept b j)
theorem run_small:∀(l:L8) (d:Sp),(∀r∈d.out,r.2.length<=2200)->∀r∈(d.run l).out,r.2.length<=2200
 | [],_,h=>h
 |c::l,d,h=>by
  rw[Sp.run_cons];refine run_small l _ fun r o=>?_;rw[Sp.step_out] at o;rcases List.mem_append.1 o with o | o
  ·exact h r o
  ·exact(Sp.told_pos r o).2
theorem of_small(l:L8):∀r∈(Sp.of l).out,r.2.length<=2200:=run_small l _ fun r o=>by cases o
theorem step_ne50{b:L8}{x:Sc.Pos}{e:Nat}(h:Sc.step b x=N e):e≠50:=by
 unfold Sc.step at h;split at h
 ·next e' he=>
  injection h with h;subst h;unfold Sc.at_ at he;split at he
  ·injection he with he;omega
  ·split at he
   ·injection he with he;omega
   ·split at he
    ·next e2 he2=>
     injection he with he;subst he;unfold Sc.runOf at he2;split at he2
     ·injection he2 with he2;omega
     ·unfold Sc.runT at he2;split at he2
      ·split at he2
       ·injection he2 with he2;omega
       ·cases he2
      ·split at he2 <;> injection he2 with he2 <;> omega
    ·split at he
     ·next e3 he3=>
      injection he with he;subst he;exact uJ he3
     ·cases he
 ·split at h
  ·cases h
  ·have o:e=143:=(Except.error.inj h).symm;omega
def do_(s:Dv.St)(r:Except Nat Nat):Nat×Nat×Dv.St:=match r with
 |N c=>(0,c,s)
 |.ok K=>if s.b.length=K then (0,0,s) else if (Dv.cut s K).1=0 then (s.b.length-K,0,(Dv.cut s K).2) else (0,(Dv.cut s K).1,(Dv.cut s K).2)
theorem run_nz:∀(u:L8) (d:Sp),(∀c∈u,c≠0)->(d.run u).out=d.out
 | [],_,_=>rfl
 |c::u,d,h=>by
  rw[Sp.run_cons,run_nz u _ (fun x o=>h x (by simp[o])),Sp.step_out,Sp.told_else (h c (by simp)),Az]
theorem of_torn{u:L8}(h:∀c∈u,c≠0):(Sp.of (0::u)).out=[]:=by
 unfold Sp.of;rw[Sp.run_cons,run_nz u _ h];rfl
theorem findIdx_none:∀(t:L8),(∀c∈t,c≠0)->t.findIdx (·==0)=t.length
 | [],_=>rfl
 |c::t,h=>by
  rw[List.findIdx_cons];have o:(c==0)=false:=by simpa using h c (by simp)
  rw[o,findIdx_none t (fun x A=>h x (by simp[A]))];simp
theorem ahead{b:L8}{n:Nat}:∀{k:Nat} {y:Sc.Pos},Sc.goes b k=I y->n<y.at_->∃j x z,j<k∧Sc.goes b j=I x∧x.at_<=n∧Sc.goes b (j+1)=I z∧n<z.at_
 |0,y,h,hn=>by
  injection h with h;subst h;exact absurd hn (Nat.not_lt_zero _)
 |k+1,y,h,hn=>by
  obtain⟨x,o,J⟩:=Sc.goes_pred h;by_cases D:x.at_<=n
  ·exact⟨k,x,y,Nat.lt_succ_self _,o,D,h,hn⟩
  ·obtain⟨j,a,z,E,A⟩:=ahead (n:=n) o (by omega);exact⟨j,a,z,by omega,A⟩
theorem first{b:L8}{z:Nat}{x:Sc.Pos}{f:Fr}(K:n<=b.length)(V:Sc.goes b j=I x)(X:x.at_<=n)(aw:Sc.at_ b x.at_=.ok (f,z))(a7:n<z):
  ∃r E,Sc.goes (b.take n) j=I ⟨x.at_,x.wk,r⟩∧Sc.step (b.take n) ⟨x.at_,x.wk,r⟩=N E∧look (b.take n) j x.at_ E=.ok (kept b j):=by
 obtain⟨r,Q⟩:=Sc.goes_take K V X;have J:=kept_take K V X;have A:(b.take n).length=n:=by rw[AM];omega
 by_cases a0:x.at_=n
 ·refine⟨r,140,Q,Sc.step_end (by rw[A];exact a0),?_⟩;unfold look;rw[AF (fun o=>o.1 rfl),J]
 ·obtain⟨a1,a2,Z,a3,ab,a5,ah⟩:=Sc.at_ok aw;have a6:=(Fr.err_open Z).2;have a4:z=x.at_+(Fr.run f).length+2:=by simpa using ab
  have ai:(b.drop x.at_).take ((Fr.run f).length+2)=0::(Fr.run f++[0]):=by simpa using ah
  obtain⟨d,hd⟩:∃d,n=x.at_+1+d:=⟨n-x.at_-1,by omega⟩;have S:(b.take n).drop x.at_=0::(Fr.run f).take d:=by
   rw[List.drop_take,hd,show x.at_+1+d-x.at_=d+1 by omega];have D:=congrArg (List.take (d+1)) ai;rw[List.take_take,Nat.min_eq_left (by omega),List.take_succ_cons,List.take_append_of_le_length (by omega)] at D;exact D
  have L:∀c∈(Fr.run f).take d,c≠0:=fun c o=>Fr.run_nz f c (List.mem_of_mem_take o);refine⟨r,142,Q,?_,?_⟩
  ·unfold Sc.step Sc.at_;rw[AF (by simp only[A];omega),AF (by simp only[A];omega)];have aj:(((b.take n).drop ((x.at_:Nat):Int).toNat).take 2202)=0::(Fr.run f).take d:=by
    rw[Int.toNat_natCast,S,List.take_of_length_le (by simp only[AI,AM];omega)]
   have ak:Sc.runOf (((b.take n).drop ((x.at_:Nat):Int).toNat).take 2202)=N 142:=by
    rw[aj,Sc.runOf_cons,AF (by simp)];unfold Sc.runT;rw[findIdx_none _ L,AF (by omega),AF (by simp only[AM];omega)]
   simp only[ak]
  ·unfold look bad;rw[S,of_torn L,AF (fun o=>by simp at o),J]
theorem done{b:L8}{L:Sc.Pos}(h:Sc.goes b j=I L):∃m y r,m<=j∧Sc.goes b m=I y∧y.at_=kept b j∧kept b j<=b.length∧Sc.goes (b.take (kept b j)) m=I ⟨kept b j,y.wk,r⟩∧Sc.step (b.take (kept b j)) ⟨kept b j,y.wk,r⟩=N 140∧kept (b.take (kept b j)) m=kept b j∧kind (b.take (kept b j)) m≠1:=by
 obtain⟨m,y,S,o,E,J⟩:=kept_goes h;have A:kept b j<=b.length:=by
  have:=(Sc.goes_good o).2.1;omega
 obtain⟨r,D⟩:=Sc.goes_take A o (by omega);have K:=kept_take A o (by omega);rw[E] at D;have Q:(b.take (kept b j)).length=kept b j:=by rw[AM];omega
 exact⟨m,y,r,S,o,E,A,D,Sc.step_end Q.symm,by rw[K,J],kept_kind D (by rw[K,J])⟩
end Rp
end
end Go.Proofs.YtngmnfdaedlodaaGreatDoor

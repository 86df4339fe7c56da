import Derived.Test.YtngmnfdaedlodaaGreatDoorA1
set_option maxRecDepth 100000
set_option maxHeartbeats 4000000
namespace Go.Proofs.YtngmnfdaedlodaaGreatDoor
open Go.Proofs.Tryz
open Option renaming some->I,none->O
open Go.Value renaming slice->U,pointer->qq
open Or renaming inl->Y
open Go renaming Value->AA,World->AU
open Go.Obj renaming cells->wx
open Go.RowKit renaming Below->AC
open Go.Ending renaming returned->wv
variable{w:AU}
section
open Go.RowKit
def eM(F:Nat->Prop)(w:AU)(P:AU->Prop):Prop:=∀w',Aside F w w'->P w'
theorem eM.here{F:Nat->Prop}{P:AU->Prop}(h:eM F w P):P w:=h w (Aside.refl _ _)
theorem eM.step{F o:Nat->Prop}{w':AU}{P:AU->Prop}(h:eM F w P)(D:Aside F w w')(A:∀k,o k->F k∨w.1.size<=k):eM o w' P:=fun Q y=>h Q (D.trans y fun i L K=>(A i K).elim id (fun J=>absurd L (Nat.not_lt_of_le J)))
theorem kR(k:Nat):∀us:List (List AA),(∀u∈us,u.length=k)->∀(j:Nat) (u:List AA),us[j]?=I u->∀m,m<k->us.flatten[j*k+m]?=u[m]?
 | [],_,j,u,h,_,_=>by simp at h
 |x::us,h,0,u,hu,m,hm=>by
  have o:=h x List.mem_cons_self;simp at hu;subst hu;rw[List.flatten_cons,Nat.zero_mul,Nat.zero_add,List.getElem?_append_left (by omega)]
 |x::us,h,j+1,u,hu,m,hm=>by
  have o:=h x List.mem_cons_self;rw[List.flatten_cons,List.getElem?_append_right (by rw[o,Nat.add_mul];omega),o,show(j+1)*k+m-k=j*k+m by rw[Nat.add_mul];omega];exact kR k us (fun A y=>h A (List.mem_cons_of_mem _ y)) j u (by simpa using hu) m hm
section
variable {α:Type} {T S:TypeId} {k:Nat} {P:α->List AA->AU->Prop} {w w':AU} {B:Nat} {v:AA} {xs:List α}
structure Lot(T:TypeId)(k:Nat)(P:α->List AA->AU->Prop)(w:AU)(B:Nat)(v:AA)(xs:List α):Prop where
 out:∃us:List (List AA),us.length=xs.length∧(∀u∈us,u.length=k)∧w.ownsRow B T k v xs.length us.flatten∧∀j (hj:j<xs.length),∃u,us[j]?=I u∧eM (fun i=>v.ownBlock=I i) w (P xs[j] u)
theorem i8(w:AU)(B:Nat):Lot T k P w B (U O 0 0) []:=⟨[],rfl,by simp,⟨by simp,Y ⟨rfl,rfl⟩⟩,fun j o=>by simp at o⟩
theorem Lot.lt(h:Lot T k P w B v xs):∀i,v.ownBlock=I i->B<=i∧i<w.1.size:=by
 obtain⟨us,_,_,o,_⟩:=h.out;exact World.ownsRow.lt o
theorem Lot.aside{F:Nat->Prop}(h:Lot T k P w B v xs)(ah:Aside F w w')(aj:∀i,v.ownBlock=I i->¬F i)(ab:∀x u,eM (fun i=>v.ownBlock=I i) w (P x u)->eM (fun i=>v.ownBlock=I i) w' (P x u)):Lot T k P w' B v xs:=by
 obtain⟨us,K,L,o,Q⟩:=h.out;refine⟨us,K,L,⟨o.1,?_⟩,fun j ai=>?_⟩
 ·rcases o.2 with V | ⟨g,cap,A,rfl,X,y,Z⟩
  ·exact Y V
  ·exact .inr ⟨g,cap,A,rfl,X,by rw[ah.block g (Array.getElem?_eq_some_iff.1 y).1 (aj g rfl)];exact y,Z⟩
 ·obtain⟨u,D,J⟩:=Q j ai;exact⟨u,D,ab _ _ J⟩
theorem Lot.on(h:Lot T k P w B v xs)(hb:AC w.1.size w w'):Lot T k P w' B v xs:=h.aside (af hb (fun _=>False)) (fun _ _ o=>o) fun _ _ A=>A.step (af hb _) (fun _ y=>Y y)
theorem Lot.form(h:Lot T k P w B v xs):∃q c,v=U q xs.length c∧xs.length<=c:=by
 obtain⟨us,_,_,o,_⟩:=h.out;rcases o.2 with ⟨rfl,y⟩ | ⟨g,cap,D,rfl,_,_,A,_⟩
 ·exact⟨O,0,by rw[y],by omega⟩
 ·exact⟨_,_,rfl,A⟩
theorem Lot.cell(h:Lot T k P w B v xs)(j:Nat)(D:j<xs.length):∃g cap u,v=U (I ⟨g,0,O⟩) xs.length cap∧xs.length<=cap∧B<=g∧g<w.1.size∧u.length=k∧(∀m,m<k->w.cell? ⟨g,j*k+m,O⟩=u[m]?)∧P xs[j] u w:=by
 obtain⟨us,ai,y,L,Q⟩:=h.out;obtain⟨u,o,J⟩:=Q j D;rcases L.2 with ⟨_,aj⟩ | ⟨g,cap,ah,rfl,V,A,X,_,ak,K⟩
 ·omega
 ·refine⟨g,cap,u,rfl,X,V,(Array.getElem?_eq_some_iff.1 A).1,y u (List.mem_of_getElem? o),fun m ab=>?_,J.here⟩;have Z:j*k+m<xs.length*k:=by
   have:=Nat.mul_le_mul_right k (show j+1<=xs.length from D);rw[Nat.add_mul] at this;omega
  rw[<-kR k us y j u o m ab,<-K,List.getElem?_take_of_lt Z];simp[World.cell?,A]
end
end
section
open Go.RowKit Go.Maps
def hU(g m:Nat)(q:OA)(n cap:Nat)(up:Bool):AV:=#[qq (I ⟨g,0,O⟩),qq (I ⟨m,0,O⟩),U q n cap,.bool up]
def kf(a g:Nat)(v:AA)(m M:Nat)(e:AA)(E:Nat->Prop)(i:Nat):Prop:=((i=a∨i=g∨v.ownBlock=I i)∨E i)∨bA m M e i
structure KWr(w:AU)(B a g m M n:Nat)(v e:AA)(x k:Nat)(gm:Int->Option AA)(q:OA)(cap:Nat)(z:Wr)(E:Nat->Prop):Prop where
 lies:w.1[a]?=I (wx (hU g m q z.c.length cap z.up) 86)
 dev:ax w B g v z.s x k
 walk:av w B m M n e gm z.k (fun i=>(i=a∨i=g∨v.ownBlock=I i)∨E i)
 base:B<=a
 room:z.c.length<=cap∧z.c.length*120<=140737488351232
 good:Sch.err z.c=0∧∀c∈z.c,c.fix=c∧c.wf
 calm:Calm (kf a g v m M e E) w q z.c
section
variable {w:AU} {B a g m M n:Nat} {v e:AA} {x k:Nat} {gm:Int->Option AA} {q:OA} {cap:Nat} {z:Wr} {E:Nat->Prop}
theorem KWr.lt(h:KWr w B a g m M n v e x k gm q cap z E):a<w.1.size:=(Array.getElem?_eq_some_iff.1 h.lies).1
theorem KWr.cell(h:KWr w B a g m M n v e x k gm q cap z E)(i:Nat):w.cell? ⟨a,i,O⟩=(hU g m q z.c.length cap z.up)[i]?:=by
 unfold World.cell?;rw[h.lies];rfl
theorem KWr.thawed(h:KWr w B a g m M n v e x k gm q cap z E)(i:Nat):w.frozen? ⟨a,i,O⟩=false:=by simp[World.frozen?,h.lies]
theorem rN(h:KWr w B a g m M n v e x k gm q cap z E):Calls Tryz.prog 55 #[qq (I ⟨a,0,O⟩)] w fun bk w'=>bk=wv (.int .i64 z.number)∧AC w.1.size w w':=by
 have bp:=h.walk.good.number;have bv:=gQq h;have c1:w.cell? ⟨a,1,O⟩=I (qq (I ⟨m,0,O⟩)):=h.cell 1;have c2:w.cell? ⟨a,2,O⟩=I (U q z.c.length cap):=h.cell 2;have ai:=gQq (ww h.walk);have X:=gQq (wu h.walk z.k.number ⟨by omega,by omega⟩)
 have o:Hid (z.number=match z.k.sch z.k.number with
  |some L=>if Sch.same L.cols z.c=true then z.k.number else z.k.number+1
  |none=>z.k.number+1):=rfl
 have bc:=gQq h.calm;have aw:∀u,z.k.sch z.k.number=I u->u.cols.length*120<=140737488351232:=fun u bq=>by
  obtain⟨p,c,-,bn,-⟩:=h.walk.known bq;exact bn
 have bN:=gQq h.lt;obtain⟨N,a5⟩:∃N,N=z.k.number:=⟨_,rfl⟩;obtain⟨R,a6⟩:∃R,R=z.number:=⟨_,rfl⟩;obtain⟨L,a8⟩:∃L,L=z.k.sch N:=⟨_,rfl⟩;rw[<-a5] at ai X o bp aw;rw[<-a8] at X o aw;rw[<-a6] at o ⊢;clear h a5 a6 a8;go_enter func55,ntmps55;go_wp2_with fail;refine ai.out.mono ?_;rintro ak w1 ⟨rfl,bb⟩;rw[bb];clear bb w1 ai;go_wp2_with fail;refine X.out.mono ?_;rintro ak w1 ⟨a0,ab⟩;have Q:=gQq ab;have bj:=ae ab c2;have bO:=ae ab c1;clear X ab;cases L with
 |none=>
  have a1:ak=wv (.tuple #[.agg #[U O 0 0],.bool false]):=a0;subst a1;have V:Hid (R=N+1):=o.out;clear a0 o;go_wp2_with fail;go_quiet (fail);go_wp2;go_ret;exact⟨by rw[V.out];rfl,below_drewN (Q.out.alloc Q.out.size _) _⟩
 |some u=>
  obtain⟨D,J,a1,a9⟩:∃q cap,ak=wv (.tuple #[.agg #[U q u.cols.length cap],.bool true])∧dt w1 w.1.size #[U q u.cols.length cap] u.cols:=a0;subst a1;have be:=gQq (aw u rfl);have a7:Calm (fun _=>False) w1 D u.cols:=gJ a9 (fun _ bl=>bl.elim);obtain⟨A,Z⟩:∃A,A=w1.alloc (wx #[U D u.cols.length J] 35):=⟨_,rfl⟩;have K:AC w1.1.size w1 A:=by rw[Z];exact gQy
  have z0:A.cell? ⟨w1.1.size,0,O⟩=I (U D u.cols.length J):=by rw[Z];exact aa (an w1 _) 0
  have z2:=ae K bj;have bi:=gQq Z.symm;have y:=gQq (Q.out.trans (K.mono Q.out.size));have a4:Hid (∀w',AC A.1.size A w'->Calls Tryz.prog 67 #[.agg #[U D u.cols.length J],.agg #[U q z.c.length cap]] w' fun e bs=>e=wv (.bool (Sch.same u.cols z.c))∧AC w'.1.size w' bs):=fun w' hb=>
   td u.cols z.c D q J cap w' be.out (a7 w' (af (K.trans (hb.mono K.size)) _)) (bc.out w' (af (y.out.trans (hb.mono y.out.size)) _))
  obtain⟨t,a2⟩:∃t,t=Sch.same u.cols z.c:=⟨_,rfl⟩;have V:Hid (R=if t=true then N else N+1):=by rw[a2];exact o.out
  rw[<-a2] at a4;clear o a9 a7 Z K a2;go_wp2_with fail;rw[bi.out]
  go_region_held3 (fun w'=>w'.cell? ⟨w1.1.size,0,O⟩=I (U D u.cols.length J)∧w'.cell? ⟨a,2,O⟩=I (U q z.c.length cap)) (go_keep) (first|(go_at_call 67;refine(a4.out _ (gQz.drew)).mono ?_;rintro e bT ⟨rfl,ah⟩;have z0:=ae ah z0;have z2:=ae ah z2;have a3:=gQq ah;clear ah)|fail)
  cases t with
  |true=>
   have aj:Hid (R=N):=V.out;go_wp2;go_ret;exact⟨by rw[aj.out];rfl,y.out.drew.trans (a3.out.mono y.out.drew.size)⟩
  |false=>
   have aj:Hid (R=N+1):=V.out;go_wp2;go_ret;exact⟨by rw[aj.out];rfl,y.out.drew.trans (a3.out.mono y.out.drew.size)⟩
theorem yt(h:KWr w B a g m M n v e x k gm q cap z E):Calls Tryz.prog 56 #[qq (I ⟨a,0,O⟩),.int .i64 z.number] w fun K w'=>K=wv (.bool z.due)∧AC w.1.size w w':=by
 have a6:=h.walk.good.number;have aw:=h.walk.good.since;have a5:=h.walk.good.frames;have aj:Fr.i64 z.number:=by
  unfold Wr.number;split
  ·split
   ·exact⟨by omega,by omega⟩
   ·exact⟨by omega,by omega⟩
  ·exact⟨by omega,by omega⟩
 have c1:w.cell? ⟨a,1,O⟩=I (qq (I ⟨m,0,O⟩)):=h.cell 1;have y:=gQq (yn h.walk z.number aj);have D:Hid (∀w',AC w.1.size w w'->Calls Tryz.prog 21 #[qq (I ⟨m,0,O⟩)] w' fun K a0=>K=wv (.int .i64 z.k.since)∧a0=w'):=fun w' hb=>tZ (h.walk.on hb);have J:Hid (z.due=((z.k.sch z.number).isNone||decide (8<=z.k.since))):=rfl;obtain⟨P,ai⟩:∃P,P=Sc.placeAt z.k z.number:=⟨_,rfl⟩;obtain⟨Z,V⟩:∃Z,Z=z.k.sch z.number:=⟨_,rfl⟩;obtain⟨N,L⟩:∃N,N=z.number:=⟨_,rfl⟩;obtain⟨R,Q⟩:∃R,R=z.due:=⟨_,rfl⟩;obtain⟨t,X⟩:∃t,t=z.k.since:=⟨_,rfl⟩;rw[<-ai,<-V,<-L] at y;rw[<-V,<-Q,<-X] at J;rw[<-X] at D aw;rw[<-L,<-Q];clear h ai V L Q X aj;go_enter func56,ntmps56;go_wp2_with fail;refine y.out.mono ?_;rintro a3 w1 ⟨rfl,o⟩;have ab:=gQq o;have a2:=ae o c1;have ah:=gQq (D.out w1 o);clear y o D;cases Z with
 |none=>
  have A:Hid (R=true):=J.out;go_wp2_with fail
  all_goals
   go_ret;exact⟨by rw[A.out];rfl,ab.out⟩
 |some u=>
  have A:Hid (R=decide (8<=t)):=J.out;go_wp2_with fail;refine ah.out.mono ?_;rintro a4 a1 ⟨rfl,ak⟩;rw[ak];clear ak a1 ah;go_wp2;go_ret;exact⟨by rw[A.out];rfl,ab.out⟩
end
end
section
open Go.RowKit Go.Maps
theorem nN(s:List Col)(p:OA)(c:Nat)(w:AU)(bs:s.length*120<=140737488351232)(bi:cU w p s)(L:Sch.err s=0)(a3:∀x∈s,x.wf):
  Calls Tryz.prog 40 #[.agg #[U p s.length c]] w fun e w'=>∃q cap,e=wv (.agg #[U q s.length cap])∧dt w' w.1.size #[U q s.length cap] (s.map Col.fix)∧AC w.1.size w w':=by
 obtain⟨o,K⟩:∃o,o=(w.alloc (wx #[U p s.length c] 35)).alloc (wx #[U O 0 0] 35):=⟨_,rfl⟩;have ab:Hid (AC w.1.size w o):=by rw[K];exact gQy.alloc (by simp) _
 have a7:o.1[w.1.size+1]?=I (wx #[U O 0 0] 35):=by
  rw[K];have:=an (w.alloc (wx #[U p s.length c] 35)) (wx #[U O 0 0] 35);simpa using this
 have a4:=gQq a7;have a5:Hid ((w.alloc (wx #[U p s.length c] 35)).alloc (wx #[U O 0 0] 35)=o):=K.symm;have Q:=gQq (jd s p c o bs (bi.on ab.out) a3);have hb:encB s=Sch.bytes s:=by unfold encB;rw[AG L]
 have bq:(Sch.bytes s).length<=1024:=(Sch.err_open L).2.2.2;have bc:=Sch.read_put L a3;rw[hb,L] at Q;have ak:=gQq bc;have bv:o.1.size=w.1.size+2:=by rw[K];simp
 obtain⟨aw,a8⟩:∃aw,aw=Sch.bytes s:=⟨_,rfl⟩;rw[<-a8] at Q bq ak;clear K bi L a3 hb bc a8 a7;go_enter func40,ntmps40;go_wp2_with fail;rw[a5.out];refine Q.out.mono ?_;rintro e w1 ⟨q,cap,rfl,a6,a1,X⟩;have ai:=gQq (lN q aw cap (by omega) a1 w1 a6);rw[ak.out] at ai;have ah:=gQq (ab.out.trans (X.mono ab.out.size));have aj:=gQq ((X.block _ (by omega)).trans a4.out);have bN:=X.size;clear a6 a1 X Q a4 a5;go_wp2_with fail;refine ai.out.mono ?_;rintro e J ⟨u,rfl,a2,Z⟩;obtain⟨p2,c2,be,bb,a9,-⟩:=a2.lies.out;rw[List.length_map] at be bb a9;subst be;obtain⟨A,V⟩:∃A,A=(J.alloc (wx #[U p2 s.length c2] 35)).setCell ⟨w.1.size+1,0,O⟩ (U p2 s.length c2):=⟨_,rfl⟩;have y:=(Z.block _ (ap aj.out)).trans aj.out;have bO:=Z.size;have a0:Aside (fun k=>k=w.1.size+1) J A:=by
  rw[V];exact((Aside.refl (fun k=>k=w.1.size+1) J).alloc _).setCell (p:=⟨w.1.size+1,0,O⟩) (Y rfl) _
 have bk:Hid (A.1[w.1.size+1]?=I (wx #[U p2 s.length c2] 35)):=by
  show _=_;rw[V];simp only[World.setCell,Array.getElem?_modify,ay _ _ (ap y),y,if_true,Option.map_some];rfl
 have bl:Hid (dt A w.1.size #[U p2 s.length c2] (s.map Col.fix)):=eo (a2.beside a0 (fun k bp=>by omega)) (by omega);have bj:Hid (AC w.1.size w A):=(ah.out.trans (Z.mono ah.out.size)).trans (a0.below (by omega) (fun k bp a1=>by omega));have bT:∀D,(J.alloc D).cell? ⟨w.1.size+1,0,O⟩=I (U O 0 0):=fun D=>aa ((ay _ _ (ap y)).trans y) 0;have bX:∀D,(J.alloc D).frozen? ⟨w.1.size+1,0,O⟩=false:=fun D=>by simp[World.frozen?,(ay J D (ap y)).trans y]
 have bn:=gQq V;clear a2 Z bb a9 a0 V y ai ak ah aj;go_wp2;rw[<-bn.out];refine bodyPost_ret (results_cell_row rfl _ _ (w.1.size+1) _ _ _ _ rfl bk.out underlying35 rfl (by kernel_rfl)) rfl ?_;exact⟨p2,c2,rfl,bl.out,bj.out⟩
end
section
open Go.RowKit Go.Maps
theorem da{B:Nat}{v:AA}{l:L8}(h:Has w B v l){i:Nat}(o:v.ownBlock=I i):∃C,w.1[i]?=I (wx C 5):=by
 rcases h.2 with ⟨rfl,_⟩ | ⟨g,cap,A,rfl,_,y,_⟩
 ·cases o
 ·simp only[Value.ownBlock,Option.some.injEq] at o;subst o;exact⟨_,y⟩
section
variable {w w':AU} {B a g m M n:Nat} {v e:AA} {x k:Nat} {gm:Int->Option AA} {q q':OA} {cap cap':Nat} {z z':Wr} {E E':Nat->Prop}
theorem KWr.ag(h:KWr w B a g m M n v e x k gm q cap z E):a≠g:=by
 intro y;have o:=h.dev.lies;rw[<-y,h.lies] at o;injection o with o;injection o with _ h2;exact absurd h2 (by decide)
theorem KWr.va(h:KWr w B a g m M n v e x k gm q cap z E):v.ownBlock≠I a:=fun y=>by
 obtain⟨C,o⟩:=da h.dev.has y;rw[h.lies] at o;injection o with o;injection o with _ h2;exact absurd h2 (by decide)
theorem KWr.put(h:KWr w B a g m M n v e x k gm q cap z E)(A:Aside (fun i=>i=a) w w')(K:w'.1[a]?=I (wx (hU g m q' z'.c.length cap' z'.up) 86))(Q:z'.s=z.s)(J:z'.k=z.k)(L:z'.c.length<=cap'∧z'.c.length*120<=140737488351232)(D:Sch.err z'.c=0∧∀c∈z'.c,c.fix=c∧c.wf)(y:Calm (kf a g v m M e E) w' q' z'.c):KWr w' B a g m M n v e x k gm q' cap' z' E :=
 ⟨K,by rw[Q];exact h.dev.aside A (fun y=>h.ag y.symm) (fun i o y=>h.va (by rw[o,y])),by rw[J];exact h.walk.aside (A.mono fun i _ o=>Y (Y o)) (fun i o=>Y o) (fun i o=>AS (h.walk.low i o) A.size),h.base,L,D,y⟩
theorem KWr.on(h:KWr w B a g m M n v e x k gm q cap z E)(hb:AC w.1.size w w'):KWr w' B a g m M n v e x k gm q cap z E :=
 ⟨(hb.block a h.lt).trans h.lies,h.dev.below hb,h.walk.on hb,h.base,h.room,h.good,h.calm.step (af hb _) (fun _ o=>Y o)⟩
theorem KWr.onE(h:KWr w B a g m M n v e x k gm q cap z E)(hb:AC w.1.size w w')(A:∀i,E' i->E i∨w.1.size<=i)(D:∀i,E' i->i<w'.1.size):KWr w' B a g m M n v e x k gm q cap z E':=by
 refine⟨(hb.block a h.lt).trans h.lies,h.dev.below hb,h.walk.aside (af hb _) (fun i o=>?_) (fun i o=>?_),h.base,h.room,h.good,h.calm.step (af hb _) (fun i o=>?_)⟩
 ·rcases o with o | o
  ·exact Y (Y o)
  ·rcases A i o with y | y
   ·exact Y (.inr y)
   ·exact .inr y
 ·rcases o with o | o
  ·exact AS (h.walk.low i (Y o)) hb.size
  ·exact D i o
 ·rcases o with (o | o) | o
  ·exact Y (Y (Y o))
  ·rcases A i o with y | y
   ·exact Y (Y (.inr y))
   ·exact .inr y
  ·exact Y (.inr o)
theorem KWr.besides(h:KWr w B a g m M n v e x k gm q cap z E)(y:Aside E w w')(D:¬E a)(J:¬E g)(K:∀i,v.ownBlock=I i->¬E i)(A:∀i,E' i->E i):KWr w' B a g m M n v e x k gm q cap z E':=by
 refine⟨(y.block a h.lt D).trans h.lies,h.dev.aside y J K,h.walk.aside (y.mono fun i _ o=>.inr o) (fun i o=>?_) (fun i o=>?_),h.base,h.room,h.good,h.calm.step (y.mono fun i _ o=>Y (.inr o)) (fun i o=>?_)⟩
 ·rcases o with o | o
  ·exact Y (Y o)
  ·exact Y (.inr (A i o))
 ·rcases o with o | o
  ·exact AS (h.walk.low i (Y o)) y.size
  ·exact AS (h.walk.low i (.inr (A i o))) y.size
 ·rcases o with (o | o) | o
  ·exact Y (Y (Y o))
  ·exact Y (Y (.inr (A i o)))
  ·exact Y (.inr o)
theorem KWr.low(h:KWr w B a g m M n v e x k gm q cap z E):∀i,kf a g v m M e E i->i<w.1.size:=fun i o=>by
 rcases o with o | o | o | o
 ·exact h.walk.low i o
 ·rw[o];exact h.walk.lt
 ·rw[o];exact h.walk.map.lt
 ·exact(h.walk.ents.lt i o).2
theorem rR(h:KWr w B a g m M n v e x k gm q cap z E)(s:List Col)(p:OA)(c:Nat)(bl:s.length*120<=140737488351232)(a4:cU w p s)(a3:∀x∈s,x.wf):
  Calls Tryz.prog 25 #[qq (I ⟨a,0,O⟩),.agg #[U p s.length c]] w fun bO w'=>bO=wv (.int .i64 ((z.change s).1:Nat))∧(∃q' cap',KWr w' B a g m M n v e x k gm q' cap' (z.change s).2 E)∧Aside (fun i=>i=a) w w':=by
 obtain⟨J,ab⟩:∃J,J=w.alloc (wx #[U p s.length c] 35):=⟨_,rfl⟩;have ak:AC w.1.size w J:=by rw[ab];exact gQy
 have V:=gQq h;have Q:=gQq ak;have bb:=gQq ab.symm;have b2:J.cell? ⟨w.1.size,0,O⟩=I (U p s.length c):=by rw[ab];exact aa (an w _) 0
 have c3:∀o,(w.alloc o).cell? ⟨a,3,O⟩=I (.bool z.up):=fun o=>ae (gQz.alloc gQx o) (h.cell 3);have bv:=gQq a4;have bc:=gQq a3;have ai:=gQq (je s p c J bl (a4.on ak) a3);have D:Hid (z.change s=if z.up=false then (6,z) else if Sch.err s≠0 then (Sch.err s,z) else (0,{ z with c:=s.map Col.fix })):=rfl;obtain⟨R,be⟩:∃R,R=z.change s:=⟨_,rfl⟩;rw[<-be] at D ⊢;obtain⟨b,hb⟩:∃b,b=z.up:=⟨_,rfl⟩;rw[<-hb] at c3 D;have bs:=gQq hb;obtain⟨K,a1⟩:∃K,K=Sch.err s:=⟨_,rfl⟩;rw[<-a1] at ai D;have a8:=gQq a1;clear h ak ab a4 a3 be hb a1;go_enter func25,ntmps25;cases b with
 |false=>
  have HR:Hid (R=(6,z)):=D.out;go_wp2;rw[bb.out];go_ret;exact⟨by rw[HR.out];rfl,⟨q,cap,by rw[HR.out];exact V.out.on Q.out⟩,af Q.out _⟩
 |true=>
  go_wp2_with fail;rw[bb.out];refine ai.out.mono ?_;rintro b5 w1 ⟨rfl,aw⟩;have A:=gQq (Q.out.trans (aw.mono Q.out.size));have cb:=ae aw b2;clear ai aw;by_cases bj:K=0
  ·subst bj;have HR:Hid (R=(0,⟨z.s,z.k,s.map Col.fix,true⟩)):=D.out;have a7:=gQq (nN s p c w1 bl (bv.out.on A.out) a8.out.symm bc.out);go_wp2_with fail;refine a7.out.mono ?_;rintro b6 L ⟨ah,X,rfl,bn,a0⟩;have aj:=A.out.trans (a0.mono A.out.size);have Z:=V.out.on aj;have b4:L.cell? ⟨a,2,O⟩=I (U q z.c.length cap):=Z.cell 2;have b7:=Z.thawed 2;have bq:=gQq aj;have b3:=gQq a0.size;have a6:=gQq Z;have a9:=gQq bn;clear a7 a0 aj Z bn;go_wp2;go_ret;obtain⟨b1,bN,bp,bk,bi,-⟩:=a9.out.lies.out;rw[List.length_map] at bp bk bi;have b0:U ah s.length X=U b1 s.length bN:=(by simpa using bp);injection b0 with i1 i2 i3;subst i1 i3;have a2:Aside (fun i=>i=a) L (L.setCell ⟨a,2,O⟩ (U ah s.length X)):=(Aside.refl (fun i=>i=a) L).setCell (p:=⟨a,2,O⟩) (Y rfl) _;have bX:=V.out.low;have b9:=A.out.size;refine⟨by rw[HR.out];rfl,⟨ah,X,?_⟩,(af bq.out _).trans a2 (fun i _ y=>y)⟩;rw[HR.out];refine a6.out.put a2 ?_ rfl rfl ⟨by simpa using bi,by simpa using bk⟩ ?_ ?_
   ·simp only[World.setCell,Array.getElem?_modify,a6.out.lies,if_true,Option.map_some];rw[AF (by simp)];simp[hU,<-bs.out]
   ·exact Sc.fix_wf a8.out.symm bc.out
   ·have bT:Calm (kf a g v m M e E) L ah (s.map Col.fix):=gJ (n:=s.length) (c:=X) a9.out (fun i y=>Y (by have:=bX i y;omega));exact bT.step (a2.mono fun i _ y=>Y (Y (Y y))) (fun i y=>Y y)
  ·have b8:((K:Int) != 0)=true:=(by rw[bne_iff_ne];omega);have HR:Hid (R=(K,z)):=D.out.trans (AG bj);go_wp2;go_ret;exact⟨by rw[HR.out];rfl,⟨q,cap,by rw[HR.out];exact V.out.on A.out⟩,af A.out _⟩
end
end
end Go.Proofs.YtngmnfdaedlodaaGreatDoor

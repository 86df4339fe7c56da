import Derived.Test.YtngmnfdaedlodaaGreatDoorB45
import Derived.Test.YtngmnfdaedlodaaGreatDoorB15
import Derived.Test.YtngmnfdaedlodaaGreatDoorB19
set_option maxRecDepth 100000
set_option maxHeartbeats 4000000
namespace Go.Proofs.YtngmnfdaedlodaaGreatDoor
open Go.Proofs.Tryz
open Option renaming none->I,some->U
open Go.Value renaming int->Y,slice->R
open Go.IntKind renaming i64->O
open Go.Obj renaming cells->N
open Or renaming inl->AZ
open Bool renaming false->AK
variable{B:Nat}{w w' w1:World}{c0 c1 c10 c2 c3 c4 c5 c6 c7 c8 c9:Value}{C u:AV}{T:TypeId}
section
open Go.RowKit Go.Maps
theorem eo{B':Nat}{s:List Col}(h:dt w B u s)(y:B'<=B):dt w B' u s:=by
 obtain⟨v,us,o,e,hb,A⟩:=h.out;exact⟨v,us,o,e,hb.low y,A⟩
theorem dt.beside{F:Nat->Prop}{s:List Col}(h:dt w B u s)(D:Aside F w w')(y:∀k,F k->k<B):dt w' B u s:=by
 obtain⟨v,us,A,rfl,hb,L⟩:=h.out;exact⟨v,us,A,rfl,hb.aside D (fun g E o=>by have:=(hb.lt g E).1;have:=y g o;omega) (fun j J k K o=>by have:=(hb.range j J k K).1;have:=y k o;omega),L⟩
theorem qF(s:List Col)(p:OA)(c:Nat)(w:World)(bp:s.length*120<=140737488351232)(bc:cU w p s)(K:Sch.err s=0)(a1:∀x∈s,x.wf):
  Calls Tryz.prog 97 #[.agg #[R p s.length c]] w fun e w'=>∃q cap,e=.returned (.agg #[R q s.length cap])∧dt w' w.1.size #[R q s.length cap] (s.map Col.fix)∧Below w.1.size w w':=by
 obtain⟨o,J⟩:∃o,o=(w.alloc (N #[R p s.length c] 35)).alloc (N #[R I 0 0] 35):=⟨_,rfl⟩;have X:Hid (Below w.1.size w o):=by rw[J];exact gQy.alloc (by simp) _
 have a5:o.1[w.1.size+1]?=U (N #[R I 0 0] 35):=by
  rw[J];have:=an (w.alloc (N #[R p s.length c] 35)) (N #[R I 0 0] 35);simpa using this
 have a2:=gQq a5;have a3:Hid ((w.alloc (N #[R p s.length c] 35)).alloc (N #[R I 0 0] 35)=o):=J.symm;have L:=gQq (jd s p c o bp (bc.on X.out) a1);have hb:encB s=Sch.bytes s:=by unfold encB;rw[AG K]
 have bn:(Sch.bytes s).length<=1024:=(Sch.err_open K).2.2.2;have a9:=Sch.read_put K a1;rw[hb,K] at L;have ai:=gQq a9;have bq:o.1.size=w.1.size+2:=by rw[J];simp
 obtain⟨aj,a6⟩:∃aj,aj=Sch.bytes s:=⟨_,rfl⟩;rw[<-a6] at L bn ai;clear J bc K a1 hb a9 a6 a5;go_enter func97,ntmps97;go_wp2_with fail;rw[a3.out];refine L.out.mono ?_;rintro e w1 ⟨q,cap,rfl,a4,aw,S⟩;have ab:=gQq (lN q aj cap (by omega) aw w1 a4);rw[ai.out] at ab;have Z:=gQq (X.out.trans (S.mono X.out.size));have ah:=gQq ((S.block _ (by omega)).trans a2.out);have bs:=S.size;clear a4 aw S L a2 a3;go_wp2_with fail;refine ab.out.mono ?_;rintro e E ⟨u,rfl,a0,V⟩;obtain⟨p2,c2,bb,a8,a7,-⟩:=a0.lies.out;rw[List.length_map] at bb a8 a7;subst bb;obtain⟨A,Q⟩:∃A,A=(E.alloc (N #[R p2 s.length c2] 35)).setCell ⟨w.1.size+1,0,I⟩ (R p2 s.length c2):=⟨_,rfl⟩;have y:=(V.block _ (ap ah.out)).trans ah.out;have bv:=V.size;have ak:Aside (fun k=>k=w.1.size+1) E A:=by
  rw[Q];exact((Aside.refl (fun k=>k=w.1.size+1) E).alloc _).setCell (p:=⟨w.1.size+1,0,I⟩) (AZ rfl) _
 have bi:Hid (A.1[w.1.size+1]?=U (N #[R p2 s.length c2] 35)):=by
  show _=_;rw[Q];simp only[World.setCell,Array.getElem?_modify,ay _ _ (ap y),y,if_true,Option.map_some];rfl
 have bj:Hid (dt A w.1.size #[R p2 s.length c2] (s.map Col.fix)):=eo (a0.beside ak (fun k bl=>by omega)) (by omega);have be:Hid (Below w.1.size w A):=(Z.out.trans (V.mono Z.out.size)).trans (ak.below (by omega) (fun k bl aw=>by omega));have bN:∀D,(E.alloc D).cell? ⟨w.1.size+1,0,I⟩=U (R I 0 0):=fun D=>aa ((ay _ _ (ap y)).trans y) 0;have bO:∀D,(E.alloc D).frozen? ⟨w.1.size+1,0,I⟩=false:=fun D=>by simp[World.frozen?,(ay E D (ap y)).trans y]
 have bk:=gQq Q;clear a0 V a8 a7 ak Q y ab ai Z ah;go_wp2;rw[<-bk.out];refine bodyPost_ret (results_cell_row rfl _ _ (w.1.size+1) _ _ _ _ rfl bi.out underlying35 rfl (by kernel_rfl)) rfl ?_;exact⟨p2,c2,rfl,bj.out,be.out⟩
end
section
open Go.RowKit
theorem cg{g:Nat}(h:w.1[g]?=U (N #[c0,c1,c2,c3,c4,c5,c6,c7,c8,c9,c10] T (0,0))):w.cell? ⟨g,0,I⟩=U c0∧w.cell? ⟨g,1,I⟩=U c1∧w.cell? ⟨g,2,I⟩=U c2∧w.cell? ⟨g,3,I⟩=U c3∧w.cell? ⟨g,4,I⟩=U c4∧w.cell? ⟨g,5,I⟩=U c5∧w.cell? ⟨g,6,I⟩=U c6∧w.cell? ⟨g,7,I⟩=U c7∧w.cell? ⟨g,8,I⟩=U c8∧w.cell? ⟨g,9,I⟩=U c9∧w.cell? ⟨g,10,I⟩=U c10 :=
 ⟨aa h 0,aa h 1,aa h 2,aa h 3,aa h 4,aa h 5,aa h 6,aa h 7,aa h 8,aa h 9,aa h 10⟩
theorem jP{g:Nat}(h:w.1[g]?=U (N C T (0,0))):w.frozen? ⟨g,0,I⟩=AK∧w.frozen? ⟨g,1,I⟩=AK∧w.frozen? ⟨g,2,I⟩=AK∧w.frozen? ⟨g,3,I⟩=AK∧w.frozen? ⟨g,4,I⟩=AK∧w.frozen? ⟨g,5,I⟩=AK∧w.frozen? ⟨g,6,I⟩=AK∧w.frozen? ⟨g,7,I⟩=AK∧w.frozen? ⟨g,8,I⟩=AK∧w.frozen? ⟨g,9,I⟩=AK∧w.frozen? ⟨g,10,I⟩=false :=
 ⟨ac h 0,ac h 1,ac h 2,ac h 3,ac h 4,ac h 5,ac h 6,ac h 7,ac h 8,ac h 9,ac h 10⟩
theorem iN{g:Nat}(h:w.1[g]?=U (N #[c0,c1,c2,c3,c4,c5,c6,c7,c8,c9,c10] T (0,0))):(∀o,(w.alloc o).cell? ⟨g,0,I⟩=U c0)∧(∀o,(w.alloc o).cell? ⟨g,1,I⟩=U c1)∧(∀o,(w.alloc o).cell? ⟨g,2,I⟩=U c2)∧(∀o,(w.alloc o).cell? ⟨g,3,I⟩=U c3)∧(∀o,(w.alloc o).cell? ⟨g,4,I⟩=U c4)∧(∀o,(w.alloc o).cell? ⟨g,5,I⟩=U c5)∧(∀o,(w.alloc o).cell? ⟨g,6,I⟩=U c6)∧(∀o,(w.alloc o).cell? ⟨g,7,I⟩=U c7)∧(∀o,(w.alloc o).cell? ⟨g,8,I⟩=U c8)∧(∀o,(w.alloc o).cell? ⟨g,9,I⟩=U c9)∧(∀o,(w.alloc o).cell? ⟨g,10,I⟩=U c10):=by
 have y:∀o,(w.alloc o).1[g]?=U (N #[c0,c1,c2,c3,c4,c5,c6,c7,c8,c9,c10] T (0,0)):=fun o=>(ay w o (ap h)).trans h;exact⟨fun o=>aa (y o) 0,fun o=>aa (y o) 1,fun o=>aa (y o) 2,fun o=>aa (y o) 3,fun o=>aa (y o) 4,fun o=>aa (y o) 5,fun o=>aa (y o) 6,fun o=>aa (y o) 7,fun o=>aa (y o) 8,fun o=>aa (y o) 9,fun o=>aa (y o) 10⟩
theorem gK{g:Nat}(h:w.1[g]?=U (N C T (0,0))):(∀o,(w.alloc o).frozen? ⟨g,0,I⟩=AK)∧(∀o,(w.alloc o).frozen? ⟨g,1,I⟩=AK)∧(∀o,(w.alloc o).frozen? ⟨g,2,I⟩=AK)∧(∀o,(w.alloc o).frozen? ⟨g,3,I⟩=AK)∧(∀o,(w.alloc o).frozen? ⟨g,4,I⟩=AK)∧(∀o,(w.alloc o).frozen? ⟨g,5,I⟩=AK)∧(∀o,(w.alloc o).frozen? ⟨g,6,I⟩=AK)∧(∀o,(w.alloc o).frozen? ⟨g,7,I⟩=AK)∧(∀o,(w.alloc o).frozen? ⟨g,8,I⟩=AK)∧(∀o,(w.alloc o).frozen? ⟨g,9,I⟩=AK)∧(∀o,(w.alloc o).frozen? ⟨g,10,I⟩=AK):=by
 have y:∀o,(w.alloc o).1[g]?=U (N C T (0,0)):=fun o=>(ay w o (ap h)).trans h;exact⟨fun o=>ac (y o) 0,fun o=>ac (y o) 1,fun o=>ac (y o) 2,fun o=>ac (y o) 3,fun o=>ac (y o) 4,fun o=>ac (y o) 5,fun o=>ac (y o) 6,fun o=>ac (y o) 7,fun o=>ac (y o) 8,fun o=>ac (y o) 9,fun o=>ac (y o) 10⟩
end
section
open Go.RowKit Go.Maps
section
variable {w:World} {B a M n:Nat} {v:Value} {g:Int->Option Value} {s:Wk} {G:Nat->Prop}
theorem nG(A:OA)(y o:Nat)(P:Int)(w:World):(Instr.field 136 (.agg #[R A y o,Y O P]) 1).run Tryz.prog w=.ok (Y O P) w:=by kernel_rfl
theorem lL(A:OA)(y o:Nat)(P:Int)(w:World):(Instr.field 136 (.agg #[R A y o,Y O P]) 0).run Tryz.prog w=.ok (.agg #[R A y o]) w:=by kernel_rfl
theorem Below.aside_cell{F:Nat->Prop}{p:Addr}{u:Value}(o:Aside F w w')(y:p.block<w.1.size)(A:¬F p.block)(h:w.cell? p=U u):w'.cell? p=U u:=(o.cell y A).trans h
theorem av.learned{y:World}{S:Nat}{q:OA}{cap:Nat}{m:Int}{c:List Col}{pl:Int}(h:av w1 B a M n v g s G)(Z:eO y M (n+1) (fun k=>if k=m then U (.agg #[R q c.length cap,Y O pl]) else g k))(K:Aside (fun k=>k=M) w1 y)(L:dt w1 S #[R q c.length cap] (c.map Col.fix))(ah:∀i,(i=a∨i=M∨v.ownBlock=U i)∨G i->i<S)(ai:Sc.Good (Sc.learn s m c pl)):
  av ((y.setCell ⟨a,1,I⟩ (Y O m)).setCell ⟨a,2,I⟩ (Y O 0)) B a M (n+1) v (fun k=>if k=m then U (.agg #[R q c.length cap,Y O pl]) else g k) (Sc.learn s m c pl) G∧Aside (bA a M v) w1 ((y.setCell ⟨a,1,I⟩ (Y O m)).setCell ⟨a,2,I⟩ (Y O 0)):=by
 have X:=h.aM;have ak:y.1[a]?=U (N (bM M s v) 79):=(K.block a h.lt X).trans h.lies;have aw:(y.setCell ⟨a,1,I⟩ (Y O m)).1[a]?=U (N (bM M { s with number:=m } v) 79):=p7 ak 1 _ rfl;have a0:((y.setCell ⟨a,1,I⟩ (Y O m)).setCell ⟨a,2,I⟩ (Y O 0)).1[a]?=U (N (bM M (Sc.learn s m c pl) v) 79):=p7 aw 2 _ rfl;have Q:Aside (fun k=>k=a) y ((y.setCell ⟨a,1,I⟩ (Y O m)).setCell ⟨a,2,I⟩ (Y O 0)):=((Aside.refl (fun k=>k=a) y).setCell (p:=⟨a,1,I⟩) (AZ rfl) _).setCell (p:=⟨a,2,I⟩) (AZ rfl) _;have E:Aside (bA a M v) w1 ((y.setCell ⟨a,1,I⟩ (Y O m)).setCell ⟨a,2,I⟩ (Y O 0)):=(K.mono fun i _ o=>.inr (AZ o)).trans Q (fun i _ o=>AZ o);refine⟨⟨a0,Z.keep (Q.block M Z.lt (fun A=>X A.symm)),?_,h.base,ai,fun k D=>AS (h.low k D) E.size,h.off,fun k=>?_⟩,E⟩
 ·exact(h.ents.aside K (fun k D A=>h.vM (by rw[D,A]))).aside Q (fun k D A=>h.va (by rw[D,A]))
 ·show vm _ _ (if k=m then U ⟨c.map Col.fix,pl⟩ else s.sch k) _;by_cases J:k=m
  ·rw[AG J];simp only[J,if_true];refine⟨q,cap,by rw[List.length_map],?_,?_,?_⟩
   ·obtain⟨_,_,_,_,_,aj⟩:=L.out;exact aj
   ·obtain⟨a2,a1,V,_,ab,_⟩:=L.lies.out;simp only[Array.mk.injEq,List.cons.injEq,and_true] at V;injection V with _ _ e3;rw[e3];exact ab
   ·exact(gJ (F:=fun i=>(i=a∨i=M∨v.ownBlock=U i)∨G i) L (fun i o=>AZ (ah i o))).step (E.mono fun i _ o=>AZ o) fun i o=>AZ o
  ·rw[AF J];simp only[AF J];exact(h.sch k).step (E.mono fun i _ o=>AZ o) fun i o=>AZ o
theorem yq(h:av w B a M n v g s G)(m:Int)(c:List Col)(p:OA)(y:Nat)(pl:Int)(bp:0<=m∧m<2147483648)(bn:s.number<=m)(bs:0<=pl∧pl<1099511627776)(Z:Sch.err c=0)(ab:∀x∈c,x.wf)(bv:c.length*120<=140737488351232)(a6:cU w p c)(bq:n<1000000000):
  Calls Tryz.prog 69 #[.pointer (U ⟨a,0,I⟩),Y O m,.agg #[R p c.length y],Y O pl] w fun e w'=>e=.returned (.tuple #[])∧cM w w' B a M (n+1) v (Sc.learn s m c pl) G:=by
 have c0:w.cell? ⟨a,0,I⟩=U (.map (U M)):=h.cell 0;obtain⟨o,J⟩:∃o,o=w.alloc (N #[R p c.length y] 35):=⟨_,rfl⟩;have E:Below w.1.size w o:=by rw[J];exact gQy
 have a2:o.1[w.1.size]?=U (N #[R p c.length y] 35):=by rw[J];exact an w _
 have bN:o.cell? ⟨a,0,I⟩=U (.map (U M)):=ae E c0;have bO:o.cell? ⟨w.1.size,0,I⟩=U (R p c.length y):=aa a2 0;have b3:o.1.size=w.1.size+1:=by rw[J];simp
 have bc:Hid (w.alloc (N #[R p c.length y] 35)=o):=J.symm;have X:=gQq (h.on E);have aj:=gQq E;have a8:Hid (∀w',Below o.1.size o w'->Calls Tryz.prog 97 #[.agg #[R p c.length y]] w' fun e ah=>∃q cap,e=.returned (.agg #[R q c.length cap])∧dt ah o.1.size #[R q c.length cap] (c.map Col.fix)∧Below o.1.size o ah):=fun w' hb=>(qF c p y w' bv (a6.on (E.trans (hb.mono E.size))) Z ab).mono fun e ah ⟨q,cap,bi,bj,bk⟩=>⟨q,cap,bi,eo bj hb.size,hb.trans (bk.mono hb.size)⟩;have bb:=gQq (Sc.good_learn h.good m c pl bp bn Z ab bs);have b0:=h.lt;have bX:=h.map.lt;have a0:=h.aM;have bl:Fr.i64 m:=⟨by omega,by omega⟩;have be:Hid (∀i,(i=a∨i=M∨v.ownBlock=U i)∨G i->i<o.1.size):=fun i A=>by
  rcases A with (A | A | A) | A
  ·omega
  ·omega
  ·have:=(h.ents.lt i A).2;omega
  ·have:=h.low i A;omega
 clear h a6 Z ab J E a2 c0;go_enter func69,ntmps69;go_wp2_with fail;rw[bc.out]
 go_region_held3 (fun w'=>w'.cell? ⟨a,0,I⟩=U (.map (U M))∧w'.cell? ⟨w.1.size,0,I⟩=U (R p c.length y)) (go_keep) (first|(go_at_call 97;refine(a8.out _ (gQz.drew)).mono ?_;rintro e w1 ⟨q,cap,rfl,a5,Q⟩;have z0:=ae Q bN;have z1:=ae Q bO;have aw:=gQq a5;have D:=gQq Q;obtain⟨ai,b1,a4,L,b2⟩:=(X.out.on D.out).map.put bl bq (.agg #[R q c.length cap,Y O pl]);have b4:=Below.aside_cell L (by have:=D.out.size;show a<w1.1.size;omega) a0 z0;have b5:=Below.aside_cell L (by have:=D.out.size;show w.1.size<w1.1.size;omega) (by show ¬w.1.size=M;omega) z1;have ak:=gQq a4;have V:=gQq L;clear a5 Q a4 L)|fail)
 have S:=X.out.on D.out;obtain⟨a3,a1⟩:=S.learned ak.out V.out aw.out be.out bb.out;have a9:=gQq a3;have a7:=gQq ((af (aj.out.trans (D.out.mono aj.out.size)) (bA a M v)).trans a1 (fun _ _ h=>h));have K:ai.1[a]?=U (N (bM M s v) 79):=(V.out.block a S.lt a0).trans S.lies;have u1:ai.cell? ⟨a,1,I⟩=U (Y O s.number):=aa K 1;have u2:ai.cell? ⟨a,2,I⟩=U (Y O s.since):=aa K 2;have f1:=ac K 1;have bT:=ac K 2;clear S a3 a1 K aw ak V D X;go_wp2;go_end0;exact⟨rfl,v,_,a9.out,a7.out,fun _ h=>AZ h⟩
theorem av.value(h:av w B a M n v g s G)(m:Int):∃D A o,(g m).getD fF=.agg #[R D A o,Y O (Sc.placeAt s m)]:=by
 cases hs:s.sch m with
 |none=>
  rw[h.unknown hs,show Sc.placeAt s m=0 by unfold Sc.placeAt;rw[hs]];exact⟨I,0,0,rfl⟩
 |some k=>
  obtain⟨p,c,y,-,-,-⟩:=h.known hs;rw[y,show Sc.placeAt s m=k.place by unfold Sc.placeAt;rw[hs]];exact⟨p,_,c,rfl⟩
theorem av.entered{A J:Nat}{e:Ent}{s':Wk}(h:av w B a M n v g s G)(ab:bL w1 B (R (U ⟨A,0,I⟩) (s.ents.length+1) J) (s.ents++[e]))(S:w.grownBy w1 v.ownBlock)(o:v.ownBlock=U A∨w.1.size<=A)(ah:s'={ s with ents:=s.ents++[e] })(X:Sc.Good s'):
  av (w1.setCell ⟨a,5,I⟩ (R (U ⟨A,0,I⟩) (s.ents.length+1) J)) B a M n (R (U ⟨A,0,I⟩) (s.ents.length+1) J) g s' G∧Aside (bA a M v) w (w1.setCell ⟨a,5,I⟩ (R (U ⟨A,0,I⟩) (s.ents.length+1) J)):=by
 have K:=ce S;have Z:w1.1[a]?=U (N (bM M s v) 79):=(K.block a h.lt h.va).trans h.lies;have Q:Aside (fun k=>k=a) w1 (w1.setCell ⟨a,5,I⟩ (R (U ⟨A,0,I⟩) (s.ents.length+1) J)):=(Aside.refl (fun k=>k=a) w1).setCell (p:=⟨a,5,I⟩) (AZ rfl) _;have L:Aside (bA a M v) w (w1.setCell ⟨a,5,I⟩ (R (U ⟨A,0,I⟩) (s.ents.length+1) J)):=(K.mono fun i _ y=>.inr (.inr y)).trans Q (fun i _ y=>AZ y);have aj:=h.lt;have ai:=h.map.lt;have V:A≠a:=fun D=>by
  rcases o with o | o
  ·exact h.va (by rw[o,D])
  ·omega
 have ak:A≠M:=fun D=>by
  rcases o with o | o
  ·exact h.vM (by rw[o,D])
  ·omega
 subst ah;refine⟨⟨p7 Z 5 _ rfl,?_,?_,h.base,X,fun k E=>AS (h.low k E) L.size,fun k E=>⟨(h.off k E).1,(h.off k E).2.1,fun D=>?_⟩,fun m=>?_⟩,L⟩
 ·refine h.map.keep ?_;rw[Q.block M (AS h.map.lt K.size) (fun D=>h.aM D.symm)];exact K.block M h.map.lt h.vM
 ·have:=ab.aside Q (fun k E D=>by simp only[Value.ownBlock,Option.some.injEq] at E;exact V (by rw[E,D]));exact this
 ·simp only[Value.ownBlock,Option.some.injEq] at D;rcases o with o | o
  ·exact(h.off k E).2.2 (by rw[o,D])
  ·have:=h.low k E;omega
 ·refine(h.sch m).step (L.mono fun i _ y=>AZ y) fun i y=>?_;rcases y with (y | y | y) | y
  ·exact AZ (AZ (AZ y))
  ·exact AZ (AZ (.inr (AZ y)))
  ·simp only[Value.ownBlock,Option.some.injEq] at y;rcases o with o | o
   ·exact AZ (AZ (.inr (.inr (by rw[o,y]))))
   ·exact .inr (by omega)
  ·exact AZ (.inr y)
end
end
section
open Go.RowKit Go.Maps
section
variable {w:World} {B a M n:Nat} {v:Value} {g:Int->Option Value} {s:Wk} {G:Nat->Prop}
theorem yr(h:av w B a M n v g s G)(f:Fr)(u:AV)(a7:cm w u f)(pl:Int)(bN:0<=pl∧pl<1099511627776)(bj:0<=f.seq∧f.seq<1099511627776)(bv:0<=f.first∧f.first<1099511627776)(b5:B<=w.1.size):
    Calls Tryz.prog 70 #[.pointer (U ⟨a,0,I⟩),.agg u,Y O pl] w fun e w'=>e=.returned (.tuple #[])∧cM w w' B a M n v (Sc.enter s f pl) G:=by
  obtain⟨sp,a3,V,S,Z,X,rfl,-⟩:=a7.out;unfold aF;obtain⟨W0,J⟩:∃W0,W0=w.alloc (N #[Y O f.kind,Y O f.number,R sp f.cols.length a3,Y O f.seq,Y O f.first,Y O f.rows,R V f.block.length S,Y O f.index.at_,Y O f.index.frames,Y O f.index.rows,R Z f.index.entries.length X] 52):=⟨_,rfl⟩;have ai:Below w.1.size w W0:=by rw[J];exact gQy
  have Q:=an w (N #[Y O f.kind,Y O f.number,R sp f.cols.length a3,Y O f.seq,Y O f.first,Y O f.rows,R V f.block.length S,Y O f.index.at_,Y O f.index.frames,Y O f.index.rows,R Z f.index.entries.length X] 52);rw[<-J] at Q;have b1:W0.cell? ⟨w.1.size,3,I⟩=U (Y O f.seq):=aa Q 3;have cd:W0.cell? ⟨w.1.size,4,I⟩=U (Y O f.first):=aa Q 4;have bl:W0.1.size=w.1.size+1:=by rw[J];simp
  have L:Hid (w.alloc (N #[Y O f.kind,Y O f.number,R sp f.cols.length a3,Y O f.seq,Y O f.first,Y O f.rows,R V f.block.length S,Y O f.index.at_,Y O f.index.frames,Y O f.index.rows,R Z f.index.entries.length X] 52)=W0):=J.symm;have D:=h.on ai;obtain⟨q,d,bO,b9,-,-⟩:=D.ents.ents;subst bO;have c0:W0.cell? ⟨a,0,I⟩=U (.map (U M)):=D.cell 0;have c1:W0.cell? ⟨a,1,I⟩=U (Y O s.number):=D.cell 1;have c5:W0.cell? ⟨a,5,I⟩=U (R q s.ents.length d):=D.cell 5;have bT:w.cell? ⟨a,5,I⟩=U (R q s.ents.length d):=h.cell 5;have y:=gQq D;have E:=gQq ai;have b8:=h.good.ents;have a4:=gQq (Sc.good_enter h.good f pl bN bv);have A:Hid (Sc.enter s f pl=if f.seq % 4=0∧s.ents.length<64 then { s with ents:=s.ents++[⟨pl,f.first,Sc.placeAt s s.number⟩] } else s):=rfl;obtain⟨bn,bi⟩:∃bn,bn=Sc.enter s f pl:=⟨_,rfl⟩;rw[<-bi] at A a4 ⊢;have b6:=h.lt;clear h a7 J ai Q D bi;by_cases K:f.seq % 4=0
  · have ab:(f.seq.tmod 4==0)=true:=(by rw[beq_iff_eq,Int.tmod_eq_emod_of_nonneg bj.1];exact K);by_cases a0:s.ents.length<64
    · have bs:(s.ents.length:Int)<64:=(by omega);rw[AG ⟨K,a0⟩] at A;go_enter func70,ntmps70;go_wp2_with fail;rw[L.out];obtain⟨b0,bX,bq,a8⟩:=y.out.value s.number;have bc:=(y.out.on ((Below.refl W0.1.size W0).drew)).map.look (m:=s.number) ⟨by have:=y.out.good.number;omega,by have:=y.out.good.number;omega⟩;rw[a8] at bc;obtain⟨P,ah⟩:∃P,P=Sc.placeAt s s.number:=⟨_,rfl⟩;rw[<-ah] at bc A;have b2:=gQq ah;have b4:∀o,(W0.alloc o).drew.cell? ⟨a,5,I⟩=U (R q s.ents.length d):=fun o=>ae ((Below.refl _ W0).alloc gQx o).drew c5;have b7:=nG b0 bX bq P;have a6:=gQq bl;clear L K ab a0 a8 ah bT b1 bl
      go_region_law (first|(refine jk (B:=B) (es:=s.ents) (v:=R q s.ents.length d) (by exact y.out.ents.on gQy.drew) ⟨pl,f.first,P⟩ (ad:=W0.1.size) (by exact an W0 _) (by omega) (by have:=a6.out;simp;omega) (H:=W0.1.size+1) (by simp) (.tmp 22) (.tmp 37) (by rfl) (by rfl) (by rfl) (by rfl) ?_;intro ab b3 w4 be ak a1;have bk:=(y.out.on ((Below.refl W0.1.size W0).alloc gQx (N #[Y O pl,Y O f.first,Y O P] 139)).drew).entered be ak (a1.imp id (fun h=>by rw[h];simp)) A.out a4.out;have bb:=((ce ak).block a (by have:=a6.out;simp;omega) y.out.va);have a5:=gQq bk;have aw:=bb.trans (y.out.on ((Below.refl W0.1.size W0).alloc gQx (N #[Y O pl,Y O f.first,Y O P] 139)).drew).lies;have cb:w4.cell? ⟨a,5,I⟩=U (R q s.ents.length d):=aa aw 5;have cc:w4.frozen? ⟨a,5,I⟩=false:=ac aw 5;have bp:=gQq a1;clear be ak a1 bk bb aw)|fail)
      all_goals
        go_wp2;go_end0;exact⟨rfl,_,_,a5.out.1,(af (E.out.trans (((Below.refl W0.1.size W0).alloc gQx _).drew.mono E.out.size)) _).trans a5.out.2 (fun _ _ h=>h),fun i a9=>by
          simp only[Value.ownBlock,Option.some.injEq] at a9;subst a9;rcases bp.out with h | h
          · exact AZ h
          · exact .inr (by have:=E.out.size;omega)⟩
    · have bs:decide ((s.ents.length:Int)<64)=false:=AP (by omega);rw[AF (fun aj=>a0 aj.2)] at A;go_enter func70,ntmps70;go_wp2;rw[L.out];go_end0;rw[A.out];exact⟨rfl,_,_,y.out,af E.out _,fun _ h=>AZ h⟩
  · have ab:(f.seq.tmod 4==0)=false:=(by rw[BQ,Int.tmod_eq_emod_of_nonneg bj.1];exact K);rw[AF (fun aj=>K aj.1)] at A;go_enter func70,ntmps70;go_wp2;rw[L.out];go_end0;rw[A.out];exact⟨rfl,_,_,y.out,af E.out _,fun _ h=>AZ h⟩
end
end
end Go.Proofs.YtngmnfdaedlodaaGreatDoor

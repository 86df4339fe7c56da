import Derived.Test.YtngmnfdaedlodaaGreatDoorA2
set_option maxRecDepth 100000
set_option maxHeartbeats 4000000
namespace Go.Proofs.YtngmnfdaedlodaaGreatDoor
open Go.Proofs.Tryz
open Option renaming none->I,some->U
open Or renaming inl->Y,inr->N
open Go.Value renaming pointer->O,int->F,bool->qz
open Go.IntKind renaming i64->C
open Go renaming World->AU
open Bool renaming false->AK
open Go.Obj renaming cells->wx
open Go.Proofs.Tryz renaming prog->AE
open Go.Ending renaming returned->wv
section
open Go.RowKit Go.Maps
theorem xH(r b a:Nat)(o:Int)(up:Bool)(u:FrameMode)(w:AU)(Q:w.cell? ⟨r,0,I⟩=U (F C o))(S:w.cell? ⟨b,0,I⟩=U (O (U ⟨a,0,I⟩)))(V:w.cell? ⟨a,3,I⟩=U (qz up))(X:w.frozen? ⟨a,3,I⟩=AK):
  CallsD AE 58 #[O (U ⟨r,0,I⟩),O (U ⟨b,0,I⟩)] u w fun e K w'=>K=u∧e=wv (.tuple #[])∧w'=if o=50∨o=51 then w.setCell ⟨a,3,I⟩ (qz AK) else w:=by
 by_cases y:o=50
 ·subst y;rw[AG (Y rfl)]
  go_enter_d func58,ntmps58
  go_wp2_with fail;go_end0;exact⟨rfl,rfl⟩
 ·have J:(o==50)=false:=by rw[BQ];exact y
  by_cases A:o=51
  ·subst A;rw[AG (N rfl)];clear y J
   go_enter_d func58,ntmps58
   go_wp2_with fail;go_end0;exact⟨rfl,rfl⟩
  ·have L:(o==51)=false:=(by rw[BQ];exact A);rw[AF (fun D=>by rcases D with D | D <;> omega)];clear y A
   go_enter_d func58,ntmps58
   go_wp2_with fail;go_end0;exact⟨rfl,rfl⟩
theorem pH(b a:Nat)(up:Bool)(u:FrameMode)(w:AU)(y:w.cell? ⟨b,0,I⟩=U (O (U ⟨a,0,I⟩)))(A:w.cell? ⟨a,3,I⟩=U (qz up))(D:w.frozen? ⟨a,3,I⟩=AK):
  CallsD AE 41 #[O (U ⟨b,0,I⟩)] u w fun e o w'=>o=u∧e=wv (.tuple #[])∧w'=w.setCell ⟨a,3,I⟩ (qz AK):=by
 go_enter_d func41,ntmps41
 go_wp2_with fail;go_end0;exact⟨rfl,rfl⟩
theorem fI{P:Program}{fn:Func}{p:Tmp}{o:TypeId}(h:fn.results=#[.cell p o])(tmps:AV)(w:AU)(g:Nat)(x:Int)(D:tmps.getD p undef=O (U ⟨g,0,I⟩))(A:w.cell? ⟨g,0,I⟩=U (F C x))(K:P.underlying o=U (.int C)):(results fn tmps).run P w=.ok (F C x) w:=by
 have J:tmps[p]?.getD undef=O (U ⟨g,0,I⟩):=by simpa using D
 have y:(loadVar o ⟨g,0,I⟩).run P w=.ok (F C x) w:=by
  simp[go_sem,isAgg,run_underlying K,A]
 simp[results,h,J,asAddr,y]
def qL(w:AU)(a:Nat)(f:FuncId)(args:AV)(Post:Nat->AU->Prop):Prop :=
 ∀w',Below w.1.size w w'->w.1.size+2<=w'.1.size->Calls AE f args w' fun e w''=>∃er:Nat,e=wv (F C (er:Nat))∧Post er w''∧(∀i,w.1.size<=i->i<w'.1.size->w''.1[i]?=w'.1[i]?)∧w'.1.size<=w''.1.size∧∃up,w''.cell? ⟨a,3,I⟩=U (qz up)∧w''.frozen? ⟨a,3,I⟩=AK
theorem wz(w:AU)(a f:Nat)(x:Value)(ah:Nat->AU->Prop)(a4:∀(args:AV) (w:AU),(callFunc f args).run AE w=.ok (.enter f args) w)(aj:qL w a f #[x] ah)(bc:a<w.1.size):
  Calls AE 35 #[O (U ⟨a,0,I⟩),.func (.func f) #[x] #[]] w fun e w'=>∃(o:Nat) (K X:AU),e=wv (F C (o:Nat))∧ah o K∧X=K.setCell ⟨w.1.size+1,0,I⟩ (F C (o:Nat))∧w'=if (o:Int)=50∨(o:Int)=51 then X.setCell ⟨a,3,I⟩ (qz AK) else X:=by
 have be:∀(fn:Fn) (first cap:AV) (w:AU),(Instr.makeFunc fn first cap).run AE w=.ok (.func fn first cap) w:=fun _ _ _ _=>rfl;have Z:=gQq aj;clear aj
 go_enter_defers func35,ntmps35
 go_wp2_with fail;obtain⟨A,J⟩:∃A,A=(w.alloc (wx #[O (U ⟨a,0,I⟩)] 29)).alloc (wx #[F C 0] 25):=⟨_,rfl⟩;have ak:Below w.1.size w A:=by rw[J];exact gQy.alloc (by simp) _
 have a0:A.1[w.1.size]?=U (wx #[O (U ⟨a,0,I⟩)] 29):=by rw[J,ay _ _ (by simp)];exact an w _
 have a2:A.1[w.1.size+1]?=U (wx #[F C 0] 25):=by
  rw[J];have:=an (w.alloc (wx #[O (U ⟨a,0,I⟩)] 29)) (wx #[F C 0] 25);simpa using this
 have bj:A.1.size=w.1.size+2:=by rw[J];simp
 rw[<-J];refine(Z.out A ak (by omega)).mono ?_;rintro e K ⟨o,rfl,aw,Q,bi,up,c3,ai⟩;have a1:=(Q w.1.size (by omega) (by omega)).trans a0;have S:=(Q (w.1.size+1) (by omega) (by omega)).trans a2;have a9:K.cell? ⟨w.1.size+1,0,I⟩=U (F C 0):=aa S 0;have bb:=ac S 0;have a3:=gQq aw;obtain⟨y,D⟩:∃y,y=K.setCell ⟨w.1.size+1,0,I⟩ (F C (o:Nat)):=⟨_,rfl⟩;have V:y.cell? ⟨w.1.size+1,0,I⟩=U (F C (o:Nat)):=by rw[D,World.cell?_setCell_same (h:=a9)]
 have a5:y.cell? ⟨w.1.size,0,I⟩=U (O (U ⟨a,0,I⟩)):=by rw[D,World.cell?_setCell_other (h:=by intro L;injection L;omega)];exact aa a1 0
 have a6:y.cell? ⟨a,3,I⟩=U (qz up):=by rw[D,World.cell?_setCell_other (h:=by intro L;injection L;omega)];exact c3
 have a8:y.frozen? ⟨a,3,I⟩=false:=by rw[D,World.frozen?_setCell];exact ai
 have bk:y.frozen? ⟨w.1.size+1,0,I⟩=false:=by rw[D,World.frozen?_setCell];exact bb
 have ab:=gQq D;clear aw Q J ak a0 a2 a1 S Z a4 c3 ai D;go_wp2;rw[<-ab.out];refine leaves_cons (f:=58) (args:=#[O (U ⟨w.1.size+1,0,I⟩),O (U ⟨w.1.size,0,I⟩)]) (by simp) (by simp[go_sem]) ?_;refine(xH (w.1.size+1) w.1.size a (o:Nat) up .returning y V a5 a6 a8).mono ?_;rintro e bl bn ⟨rfl,rfl,rfl⟩;have a7:(if (o:Int)=50∨(o:Int)=51 then y.setCell ⟨a,3,I⟩ (qz AK) else y).cell? ⟨w.1.size+1,0,I⟩=U (F C (o:Nat)):=by
  split
  ·rw[World.cell?_setCell_other (h:=by intro L;injection L;omega)];exact V
  ·exact V
 refine⟨_,fI rfl _ _ (w.1.size+1) (o:Nat) rfl a7 underlying25,o,K,y,rfl,a3.out,ab.out,rfl⟩
theorem yu(w:AU)(a f:Nat)(x y:Value)(ah:Nat->AU->Prop)(a5:∀(args:AV) (w:AU),(callFunc f args).run AE w=.ok (.enter f args) w)(aj:qL w a f #[x,y] ah)(be:a<w.1.size):
  Calls AE 35 #[O (U ⟨a,0,I⟩),.func (.func f) #[] #[x,y]] w fun e w'=>∃(o:Nat) (K X:AU),e=wv (F C (o:Nat))∧ah o K∧X=K.setCell ⟨w.1.size+1,0,I⟩ (F C (o:Nat))∧w'=if (o:Int)=50∨(o:Int)=51 then X.setCell ⟨a,3,I⟩ (qz AK) else X:=by
 have bi:∀(fn:Fn) (first cap:AV) (w:AU),(Instr.makeFunc fn first cap).run AE w=.ok (.func fn first cap) w:=fun _ _ _ _=>rfl;have Z:=gQq aj;clear aj
 go_enter_defers func35,ntmps35
 go_wp2_with fail;obtain⟨A,J⟩:∃A,A=(w.alloc (wx #[O (U ⟨a,0,I⟩)] 29)).alloc (wx #[F C 0] 25):=⟨_,rfl⟩;have ak:Below w.1.size w A:=by rw[J];exact gQy.alloc (by simp) _
 have a0:A.1[w.1.size]?=U (wx #[O (U ⟨a,0,I⟩)] 29):=by rw[J,ay _ _ (by simp)];exact an w _
 have a2:A.1[w.1.size+1]?=U (wx #[F C 0] 25):=by
  rw[J];have:=an (w.alloc (wx #[O (U ⟨a,0,I⟩)] 29)) (wx #[F C 0] 25);simpa using this
 have bk:A.1.size=w.1.size+2:=by rw[J];simp
 rw[<-J];refine(Z.out A ak (by omega)).mono ?_;rintro e K ⟨o,rfl,aw,Q,bj,up,c3,ai⟩;have a1:=(Q w.1.size (by omega) (by omega)).trans a0;have S:=(Q (w.1.size+1) (by omega) (by omega)).trans a2;have bb:K.cell? ⟨w.1.size+1,0,I⟩=U (F C 0):=aa S 0;have bc:=ac S 0;have a4:=gQq aw;obtain⟨W3,D⟩:∃W3,W3=K.setCell ⟨w.1.size+1,0,I⟩ (F C (o:Nat)):=⟨_,rfl⟩;have V:W3.cell? ⟨w.1.size+1,0,I⟩=U (F C (o:Nat)):=by rw[D,World.cell?_setCell_same (h:=bb)]
 have a6:W3.cell? ⟨w.1.size,0,I⟩=U (O (U ⟨a,0,I⟩)):=by rw[D,World.cell?_setCell_other (h:=by intro L;injection L;omega)];exact aa a1 0
 have a7:W3.cell? ⟨a,3,I⟩=U (qz up):=by rw[D,World.cell?_setCell_other (h:=by intro L;injection L;omega)];exact c3
 have a9:W3.frozen? ⟨a,3,I⟩=false:=by rw[D,World.frozen?_setCell];exact ai
 have bl:W3.frozen? ⟨w.1.size+1,0,I⟩=false:=by rw[D,World.frozen?_setCell];exact bc
 have ab:=gQq D;clear aw Q J ak a0 a2 a1 S Z a5 c3 ai D;go_wp2;rw[<-ab.out];refine leaves_cons (f:=58) (args:=#[O (U ⟨w.1.size+1,0,I⟩),O (U ⟨w.1.size,0,I⟩)]) (by simp) (by simp[go_sem]) ?_;refine(xH (w.1.size+1) w.1.size a (o:Nat) up .returning W3 V a6 a7 a9).mono ?_;rintro e bn bp ⟨rfl,rfl,rfl⟩;have a8:(if (o:Int)=50∨(o:Int)=51 then W3.setCell ⟨a,3,I⟩ (qz AK) else W3).cell? ⟨w.1.size+1,0,I⟩=U (F C (o:Nat)):=by
  split
  ·rw[World.cell?_setCell_other (h:=by intro L;injection L;omega)];exact V
  ·exact V
 refine⟨_,fI rfl _ _ (w.1.size+1) (o:Nat) rfl a8 underlying25,o,K,W3,rfl,a4.out,ab.out,rfl⟩
end
section
open Go.RowKit Go.Maps
section
variable {w w':AU} {B a g m M n:Nat} {v v' e:Value} {x k x' k':Nat} {gm:Int->Option Value} {q:OA} {cap:Nat} {z:Wr} {s':Dv.St} {E:Nat->Prop}
theorem KWr.filed(h:KWr w B a g m M n v e x k gm q cap z E)(hd:ax w' B g v' s' x' k')(A:Aside (fun i=>i=g∨v.ownBlock=U i) w w')(D:∀i,v'.ownBlock=U i->v.ownBlock=U i∨w.1.size<=i):KWr w' B a g m M n v' e x' k' gm q cap ⟨s',z.k,z.c,z.up⟩ E:=by
 refine⟨(A.block a h.lt (fun J=>J.elim h.ag h.va)).trans h.lies,hd,h.walk.aside (A.mono fun i _ o=>Y (N o)) (fun i o=>?_) (fun i o=>?_),h.base,h.room,h.good,h.calm.step (A.mono fun i _ o=>Y (Y (N o))) (fun i o=>?_)⟩
 ·rcases o with (o | o | o) | o
  ·exact Y (Y (Y o))
  ·exact Y (Y (N (Y o)))
  ·rcases D i o with y | y
   ·exact Y (Y (N (N y)))
   ·exact N y
  ·exact Y (N o)
 ·rcases o with (o | o | o) | o
  ·rw[o];exact AS h.lt A.size
  ·rw[o];exact hd.lt
  ·exact(hd.has.lt i o).2
  ·exact AS (h.walk.low i (N o)) A.size
 ·rcases o with ((o | o | o) | o) | o
  ·exact Y (Y (Y (Y o)))
  ·exact Y (Y (Y (N (Y o))))
  ·rcases D i o with y | y
   ·exact Y (Y (Y (N (N y))))
   ·exact N y
  ·exact Y (Y (N o))
  ·exact Y (N o)
theorem KWr.shut(h:KWr w B a g m M n v e x k gm q cap z E):KWr (w.setCell ⟨a,3,I⟩ (qz AK)) B a g m M n v e x k gm q cap { z with up:=AK } E:=by
 have y:Aside (fun i=>i=a) w (w.setCell ⟨a,3,I⟩ (qz AK)):=(Aside.refl (fun i=>i=a) w).setCell (p:=⟨a,3,I⟩) (Y rfl) _;refine h.put y ?_ rfl rfl h.room h.good (h.calm.step (y.mono fun i _ o=>Y (Y (Y o))) (fun i o=>Y o));simp only[World.setCell,Array.getElem?_modify,h.lies,if_true,Option.map_some];rw[AF (by simp)];simp[hU]
structure Ab(w:AU)(B a g m M n:Nat)(v e:Value)(gm:Int->Option Value)(q:OA)(cap:Nat)(z':Wr)(E:Nat->Prop)(w':AU):Prop where
 out:∃v' x' k',KWr w' B a g m M n v' e x' k' gm q cap z' E∧∀i,v'.ownBlock=U i->v.ownBlock=U i∨w.1.size<=i
 aside:Aside (fun i=>i=a∨i=g∨v.ownBlock=U i) w w'
theorem wo(h:KWr w B a g m M n v e x k gm q cap z E)(a2:¬E a∧¬E g∧∀i,v.ownBlock=U i->¬E i):
  Calls AE 26 #[O (U ⟨a,0,I⟩)] w fun bk w'=>bk=wv (F C (z.sync.1:Nat))∧Ab w B a g m M n v e gm q cap z.sync.2 E w':=by
 have Q:=gQq h;have X:=gQq a2;have c3:w.cell? ⟨a,3,I⟩=U (qz z.up):=h.cell 3;have c0:w.cell? ⟨a,0,I⟩=U (O (U ⟨g,0,I⟩)):=h.cell 0;have bT:∀(fn:Fn) (first cap:AV) (w:AU),(Instr.makeFunc fn first cap).run AE w=.ok (.func fn first cap) w:=fun _ _ _ _=>rfl;have L:Hid (z.sync=if z.up=AK then (6,z) else Wr.dare ((Dv.sync z.s).1,{ z with s:=(Dv.sync z.s).2 })):=rfl;have a1:qL w a 43 #[O (U ⟨g,0,I⟩)] (fun ak J=>ak=(Dv.sync z.s).1∧(∃v' x' k',KWr J B a g m M n v' e x' k' gm q cap ⟨(Dv.sync z.s).2,z.k,z.c,z.up⟩ (fun i=>E i∨i=w.1.size+1)∧∀i,v'.ownBlock=U i->v.ownBlock=U i∨w.1.size+2<=i)∧Aside (fun i=>i=g∨v.ownBlock=U i) w J):=fun w' hb bX=>by
  have aw:=h.onE (E':=fun i=>E i∨i=w.1.size+1) hb (fun i o=>o.imp id (fun o=>by omega)) (fun i o=>o.elim (fun o=>AS (h.walk.low i (N o)) hb.size) (fun o=>by omega));refine(xB aw.dev).mono ?_;rintro bl J ⟨rfl,v',x',k',hd,D,K⟩;have ab:=aw.filed hd D K;refine⟨_,rfl,⟨rfl,⟨v',x',k',ab,fun i o=>?_⟩,(af hb _).trans D (fun i _ o=>o)⟩,fun i ah bn=>D.block i bn (fun y=>?_),D.size,z.up,ab.cell 3,ab.thawed 3⟩
  ·rcases K i o with A | A
   ·exact Y A
   ·exact N (by omega)
  ·rcases y with y | y
   ·have:=h.dev.lt;omega
   ·have:=(h.dev.has.lt i y).2;omega
 have aj:=gQq (wz w a 43 (O (U ⟨g,0,I⟩)) _ (fun args w=>dn func43 (by kernel_rfl) rfl args w) a1 h.lt);have bc:=gQq h.lt;obtain⟨R,a3⟩:∃R,R=z.sync:=⟨_,rfl⟩;rw[<-a3] at L ⊢;obtain⟨b,hb⟩:∃b,b=z.up:=⟨_,rfl⟩;rw[<-hb] at c3 L;have be:=gQq hb;clear h a1 a3 hb a2;go_enter func26,ntmps26;cases b with
 |false=>
  have S:Hid (R=(6,z)):=L.out;go_wp2;go_ret;exact⟨by rw[S.out];rfl,⟨⟨v,x,k,by rw[S.out];exact Q.out,fun i o=>Y o⟩,Aside.refl _ _⟩⟩
 |true=>
  have S:Hid (R=Wr.dare ((Dv.sync z.s).1,⟨(Dv.sync z.s).2,z.k,z.c,z.up⟩)):=by show _=_;rw[<-be.out];exact L.out
  go_wp2_with fail;refine aj.out.mono ?_;rintro bl w1 ⟨ak,J,V,rfl,⟨rfl,⟨v',x',k',a6,K⟩,D⟩,a8,a7⟩;have bb:=gQq a6;have Z:=gQq K;have a9:=gQq D;have bi:=gQq a7;have bj:=gQq a8;clear a6 K D a7 a8 aj;go_wp2;go_ret;have bO:=bc.out;have bs:=Q.out.dev.lt;have bq:∀i,v.ownBlock=U i->i<w.1.size:=fun i o=>(Q.out.dev.has.lt i o).2;have bp:∀i,E i->i<w.1.size:=fun i o=>Q.out.walk.low i (N o);have a5:Aside (fun i=>i=w.1.size+1) J V:=by rw[bj.out];exact(Aside.refl (fun i=>i=w.1.size+1) J).setCell (p:=⟨w.1.size+1,0,I⟩) (Y rfl) _
  have ah:KWr V B a g m M n v' e x' k' gm q cap ⟨(Dv.sync z.s).2,z.k,z.c,z.up⟩ E:=bb.out.besides (a5.mono fun i _ o=>N o) (fun y=>y.elim (fun y=>X.out.1 y) (fun y=>by omega)) (fun y=>y.elim (fun y=>X.out.2.1 y) (fun y=>by omega)) (fun i o y=>by
   rcases y with y | y
   ·rcases Z.out i o with A | A
    ·exact X.out.2.2 i A y
    ·have:=bp i y;omega
   ·rcases Z.out i o with A | A
    ·have:=bq i A;omega
    ·omega) (fun i o=>Y o)
  have a0:Aside (fun i=>i=a∨i=g∨v.ownBlock=U i) w V:=(a9.out.mono fun i _ o=>N o).trans a5 (fun i bv bN=>by omega);have a4:∀i,v'.ownBlock=U i->v.ownBlock=U i∨w.1.size<=i:=fun i o=>(Z.out i o).imp id (fun h=>by omega);rw[S.out,bi.out];refine⟨rfl,?_⟩;by_cases y:((Dv.sync z.s).1:Int)=50∨((Dv.sync z.s).1:Int)=51
  ·have ai:(Dv.sync z.s).1=50∨(Dv.sync z.s).1=51:=(by omega);rw[AG y];unfold Wr.dare;rw[AG ai];exact⟨⟨v',x',k',ah.shut,a4⟩,a0.trans ((Aside.refl (fun i=>i=a) V).setCell (p:=⟨a,3,I⟩) (Y rfl) _) (fun i _ o=>Y o)⟩
  ·have ai:¬((Dv.sync z.s).1=50∨(Dv.sync z.s).1=51):=(by omega);rw[AF y];unfold Wr.dare;rw[AF ai];exact⟨⟨v',x',k',ah,a4⟩,a0⟩
end
end
end Go.Proofs.YtngmnfdaedlodaaGreatDoor

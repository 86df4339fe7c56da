import Derived.Test.YtngmnfdaedlodaaGreatDoorA4
set_option maxRecDepth 100000
set_option maxHeartbeats 4000000
namespace Go.Proofs.YtngmnfdaedlodaaGreatDoor
open Go.Proofs.Tryz
open Option renaming none->I,some->U
open Go.Value renaming pointer->Y,int->C,slice->pv
open Or renaming inl->O,inr->AX
open Go.IntKind renaming i64->sw
open Bool renaming false->AK
open Go.RowKit renaming Below->AC
open Go.Obj renaming cells->wx
open Go.Proofs.Tryz renaming prog->AE
open Go.Ending renaming returned->wv
section
open Go.RowKit Go.Maps
section
variable {w w':World} {B a g m M n N:Nat} {v e:Value} {x k:Nat} {gm:Int->Option Value} {q:OA} {cap:Nat} {z:Wr} {E G:Nat->Prop} {fv sv bv:Value} {fs:List Fr}
theorem xd{L K:Nat}(a0:w.cell? ⟨L,0,I⟩=U (Y (U ⟨a,0,I⟩)))(o:w.1[K]?=U (wx #[fv,sv,bv] 90 (0,0)))(Z:∃p c,fv=pv p fs.length c)(ab:∃p c,sv=pv p fs.length c)(hb:∃p c,bv=pv p (Wr.bytes fs).length c){y:Ending->World->Prop}(V:Calls AE 37 #[Y (U ⟨a,0,I⟩),.agg #[fv,sv,bv]] w y)(S:∀e w,y e w->∃Q:Int,e=wv (C sw Q)):
  Calls AE 36 #[Y (U ⟨L,0,I⟩),Y (U ⟨K,0,I⟩)] w y:=by
 have J:=gQq V;have D:=gQq S;obtain⟨aw,ak,rfl⟩:=Z;obtain⟨a2,a1,rfl⟩:=ab;obtain⟨ai,ah,rfl⟩:=hb;have a3:=aa o 0;have a4:=aa o 1;have a5:=aa o 2;clear V S o;go_enter func36,ntmps36;go_wp2_with fail;refine J.out.mono ?_;intro aj w1 A;obtain⟨Q,rfl⟩:=D.out _ _ A;have X:=gQq A;clear A J D;go_wp2;exact X.out
structure Apd(w:World)(B a g m M n:Nat)(v e:Value)(q:OA)(cap:Nat)(z':Wr)(E:Nat->Prop)(w':World):Prop where
 out:∃v' e' x' k' gm',KWr w' B a g m M (n+2) v' e' x' k' gm' q cap z' E∧(∀i,v'.ownBlock=U i->v.ownBlock=U i∨w.1.size<=i)∧∀i,e'.ownBlock=U i->e.ownBlock=U i∨w.1.size<=i
 aside:Aside (fun i=>i=a∨(i=g∨v.ownBlock=U i)∨bA m M e i) w w'
theorem KWr.more(h:KWr w B a g m M n v e x k gm q cap z E){n':Nat}(o:n<=n'):KWr w B a g m M n' v e x k gm q cap z E:=⟨h.lies,h.dev,h.walk.more o,h.base,h.room,h.good,h.calm⟩
theorem Apd.same{w0:World}(h:KWr w0 B a g m M n v e x k gm q cap z E)(hb:AC w0.1.size w0 w'):Apd w0 B a g m M n v e q cap z E w':=⟨⟨v,e,x,k,gm,(h.on hb).more (by omega),fun _ o=>O o,fun _ o=>O o⟩,af hb _⟩
theorem piece_ne{z:Wr}{y:List (List V)}{o:Nat}(h:Except.error o=z.piece y):o≠0:=by
 unfold Wr.piece at h;dsimp only at h;split at h
 ·next h1=>
  injection h with h;rw[h];exact h1
 ·cases h
theorem kJ(h:KWr w B a g m M n v e x k gm q cap z E)(b7:¬E a∧¬E g∧∀i,v.ownBlock=U i->¬E i){L:List (List V)}{cy:OA}{rd:Nat}(cb:cQ w cy rd L)(ct:Hv w)(eq:2<B)(em:n<900000000)(ep:z.s.safe<=z.s.b.length)(eg:z.s.b.length<=2097152)(el:z.s.most<=1048576)(d8:z.s.done<4611686018425290752):
  Calls AE 15 #[Y (U ⟨a,0,I⟩),pv cy L.length rd] w fun D w'=>D=wv (C sw ((z.append L).1:Nat))∧Apd w B a g m M n v e q cap (z.append L).2 E w':=by
 have J:=gQq h;have bi:=gQq b7;have dr:=gQq cb;have bT:=gQq ct;have d1:∀Z,(w.alloc Z).cell? ⟨a,3,I⟩=U (.bool z.up):=fun Z=>ae (gQz.alloc gQx Z) (h.cell 3)
 have a5:Hid (z.append L=if z.up=AK then (6,z) else match z.piece L with
  |.error e=>(e,z)
  |.ok p=>Wr.dare (z.write p)):=rfl
 have e6:∀(fn:Fn) (first cap:AV) (w:World),(Instr.makeFunc fn first cap).run AE w=.ok (.func fn first cap) w:=fun _ _ _ _=>rfl;obtain⟨R,cc⟩:∃R,R=z.append L:=⟨_,rfl⟩;rw[<-cc] at a5 ⊢;obtain⟨b,hb⟩:∃b,b=z.up:=⟨_,rfl⟩;rw[<-hb] at d1 a5;have ez:=gQq hb;obtain⟨a0,a7⟩:∃a0,a0=w.alloc (wx #[Y (U ⟨a,0,I⟩)] 29):=⟨_,rfl⟩;have ck:AC w.1.size w a0:=by rw[a7];exact gQy
 have cp:a0.1[w.1.size]?=U (wx #[Y (U ⟨a,0,I⟩)] 29 (0,0)):=by rw[a7];exact an w _
 have K:=gQq ck;have bX:=gQq cp;have bl:=gQq a7.symm;clear h b7 cb ct cc hb a7 ck cp;go_enter func15,ntmps15;cases b with
 |false=>
  have S:Hid (R=(6,z)):=a5.out;go_wp2;rw[bl.out];go_ret;rw[S.out];exact⟨rfl,Apd.same J.out K.out⟩
 |true=>
  have bs:=gQq (jR (J.out.on K.out) (dr.out.on K.out) (bT.out.next K.out))
  have S:Hid (R=match z.piece L with
   |.error e=>(e,z)
   |.ok p=>Wr.dare (z.write p)):=a5.out
  go_wp2_with fail;rw[bl.out];refine bs.out.mono ?_;rintro b2 w1 ⟨cn,bb⟩;have ah:=gQq cn;clear bs cn;obtain⟨r,bc⟩:∃r,r=z.piece L:=⟨_,rfl⟩;rw[<-bc] at S bb;cases r with
  |error ai=>
   have d9:b2=wv (.tuple #[.agg #[pv I 0 0,pv I 0 0,pv I 0 0],C sw (ai:Nat)]):=bb;subst d9;have en:=piece_ne bc;have eL:((ai:Int) != 0)=true:=(by rw[bne_iff_ne];omega);have bj:Hid (R=(ai,z)):=S.out;clear bb bc en S;go_wp2;go_ret;rw[bj.out];exact⟨rfl,Apd.same J.out ((K.out.trans (ah.out.mono K.out.size)).trans (gQy.mono (by have:=K.out.size;have:=ah.out.size;omega)))⟩
  |ok fs=>
   obtain⟨fv,sv,bv,N,G,rfl,d5,a4,b9,cx,ec⟩:=bb;obtain⟨A,a2⟩:∃W,W=w1.alloc (wx #[fv,sv,bv] 90):=⟨_,rfl⟩;have a8:AC w1.1.size w1 A:=(by rw[a2];exact gQy);have cq:A.1[w1.1.size]?=U (wx #[fv,sv,bv] 90 (0,0)):=(by rw[a2];exact an w1 _);have e9:a0.1.size=w.1.size+1:=(by rw[<-bl.out];simp);have fc:=ah.out.size;have fi:A.1.size=w1.1.size+1:=(by rw[a2];simp);have bq:=(a8.block w.1.size (by omega)).trans ((ah.out.block w.1.size (by omega)).trans bX.out);have aj:AC w.1.size w A:=(K.out.trans (ah.out.mono K.out.size)).trans (a8.mono (by omega));have Q:∀i,((i=g∨v.ownBlock=U i)∨bA m M e i)->i<w.1.size:=fun i o=>by
    rcases o with (o | o) | o
    ·rw[o];exact J.out.dev.lt
    ·exact(J.out.dev.has.lt i o).2
    ·exact J.out.low i (AX o)
   have cr:∀i,((i=g∨v.ownBlock=U i)∨bA m M e i)->kf a g v m M e E i:=fun i o=>by
    rcases o with (o | o) | o
    ·exact O (O (AX (O o)))
    ·exact O (O (AX (AX o)))
    ·exact AX o
   have a3:∀i,E i->i<w.1.size:=fun i o=>J.out.walk.low i (AX o);have b6:qL A a 36 #[Y (U ⟨w.1.size,0,I⟩),Y (U ⟨w1.1.size,0,I⟩)] (fun ai aw=>ai=(z.write fs).1∧(∃v' D ab k' X,KWr aw B a g m M (n+2) v' D ab k' X q cap (z.write fs).2 (fun i=>E i∨i=A.1.size+1)∧(∀i,v'.ownBlock=U i->v.ownBlock=U i∨A.1.size+2<=i)∧∀i,D.ownBlock=U i->e.ownBlock=U i∨A.1.size+2<=i)∧Aside (fun i=>(i=g∨v.ownBlock=U i)∨bA m M e i) A aw):=fun w' hb e8=>by
    have bn:=aj.trans (hb.mono aj.size);have d4:=J.out.onE (E':=fun i=>E i∨i=A.1.size+1) bn (fun i o=>o.imp id (fun o=>by omega)) (fun i o=>o.elim (fun o=>AS (a3 i o) bn.size) (fun o=>by omega));have a9:Pw w' N fv sv bv G fs:=(a4.aside (F:=fun _=>False) (af a8 _) (fun _ y=>y.elim) (fun _ y=>y.elim)).aside (F:=fun _=>False) (af hb _) (fun _ y=>y.elim) (fun _ y=>y.elim);have ew:=pX d4 a9 (fun i o=>b9 i (cr i o)) (fun i o=>by have:=Q i o;omega) (bT.out.next bn) eq cx (by omega) em ep eg el d8;obtain⟨b4,b3,eb,-⟩:=a9.frames.form;obtain⟨c6,c5,cs,-⟩:=a9.starts.form;obtain⟨b1,b0,d6,-,-⟩:=a9.bytes.at;rw[Wr.starts_len] at cs;have d7:=aa ((hb.block w.1.size (by omega)).trans bq) 0;refine(xd d7 ((hb.block w1.1.size (by omega)).trans cq) ⟨b4,b3,eb⟩ ⟨c6,c5,cs⟩ ⟨b1,b0,d6⟩ ew (fun _ _ h=>⟨_,h.1⟩)).mono ?_;rintro eC aw ⟨rfl,be⟩;obtain⟨v',D,ab,k',X,ak,ev,ea⟩:=be.out;refine⟨_,rfl,⟨rfl,⟨v',D,ab,k',X,ak.more (by omega),fun i o=>(ev i o).imp id (fun h=>by omega),fun i o=>(ea i o).imp id (fun h=>by omega)⟩,(af hb _).trans be.aside (fun i _ o=>o)⟩,fun i e0 a6=>be.aside.block i a6 (fun y=>by have:=Q i y;have:=aj.size;omega),be.aside.size,_,ak.cell 3,ak.thawed 3⟩
   have bO:=gQq (yu A a 36 (Y (U ⟨w.1.size,0,I⟩)) (Y (U ⟨w1.1.size,0,I⟩)) _ (fun args w=>dn func36 (by kernel_rfl) rfl args w) b6 (AS J.out.lt aj.size));obtain⟨b4,b3,rfl,-⟩:=a4.frames.form;obtain⟨c6,c5,rfl,-⟩:=a4.starts.form;obtain⟨b1,b0,rfl,-,-⟩:=a4.bytes.at;have bj:Hid (R=Wr.dare (z.write fs)):=S.out;have du:=gQq a2.symm;have bN:=gQq aj;have ds:=gQq Q;have c8:=gQq a3;have df:=gQq J.out.lt;have d2:A.cell? ⟨w.1.size,0,I⟩=U (Y (U ⟨a,0,I⟩)):=aa bq 0;have d3:∀Z,(w1.alloc Z).cell? ⟨w.1.size,0,I⟩=U (Y (U ⟨a,0,I⟩)):=fun Z=>ae (gQz.alloc gQx Z) (aa ((ah.out.block w.1.size (by omega)).trans bX.out) 0);clear a4 b9 cx ec d5 a8 cq bq aj Q cr a3 b6 a2 S bc;go_wp2_with fail;rw[du.out];refine bO.out.mono ?_;rintro b2 fo ⟨ai,aw,w4,rfl,⟨rfl,⟨v',D,ab,k',X,ak,cu,co⟩,ci⟩,cw,cv⟩;have dj:=gQq ak;have bk:=gQq cu;have c9:=gQq co;have c7:=gQq ci;have dv:=gQq cw;have d0:=gQq cv;clear ak cu co ci cw cv bO d2 d3;go_wp2;go_ret;have e2:=bN.out.size;have Q:=ds.out;have a3:=c8.out;have er:∀i,v.ownBlock=U i->i<w.1.size:=fun i o=>Q i (O (AX o));have e7:∀i,bA m M e i->i<w.1.size:=fun i o=>Q i (AX o);have e3:=Q g (O (O rfl));have e1:=df.out;have cj:Aside (fun i=>i=A.1.size+1) aw w4:=by rw[dv.out];exact(Aside.refl (fun i=>i=A.1.size+1) aw).setCell (p:=⟨A.1.size+1,0,I⟩) (O rfl) _
   have a6:KWr w4 B a g m M (n+2) v' D ab k' X q cap (z.write fs).2 E:=dj.out.besides (cj.mono fun i _ o=>AX o) (fun y=>y.elim (fun y=>bi.out.1 y) (fun y=>by omega)) (fun y=>y.elim (fun y=>bi.out.2.1 y) (fun y=>by omega)) (fun i o y=>by
    rcases y with y | y
    ·rcases bk.out i o with a1 | a1
     ·exact bi.out.2.2 i a1 y
     ·have:=a3 i y;omega
    ·rcases bk.out i o with a1 | a1
     ·have:=er i a1;omega
     ·omega) (fun i o=>O o)
   have b5:Aside (fun i=>i=a∨(i=g∨v.ownBlock=U i)∨bA m M e i) w w4:=((af bN.out _).trans c7.out (fun i _ o=>AX o)).trans cj (fun i e4 e5=>by omega);have cd:∀i,v'.ownBlock=U i->v.ownBlock=U i∨w.1.size<=i:=fun i o=>(bk.out i o).imp id (fun h=>by omega);have b8:∀i,D.ownBlock=U i->e.ownBlock=U i∨w.1.size<=i:=fun i o=>(c9.out i o).imp id (fun h=>by omega);rw[bj.out,d0.out];refine⟨rfl,?_⟩;by_cases y:((z.write fs).1:Int)=50∨((z.write fs).1:Int)=51
   ·have bp:(z.write fs).1=50∨(z.write fs).1=51:=(by omega);rw[AG y];unfold Wr.dare;rw[AG bp];exact⟨⟨v',D,ab,k',X,a6.shut,cd,b8⟩,b5.trans ((Aside.refl (fun i=>i=a) w4).setCell (p:=⟨a,3,I⟩) (O rfl) _) (fun i _ o=>O o)⟩
   ·have bp:¬((z.write fs).1=50∨(z.write fs).1=51):=(by omega);rw[AF y];unfold Wr.dare;rw[AF bp];exact⟨⟨v',D,ab,k',X,a6,cd,b8⟩,b5⟩
theorem wy(h:KWr w B a g m M n v e x k gm q cap z E){o:List (List V)}{ai:OA}{rd:Nat}(X:cQ w ai rd o)(ah:Hv w):
  Calls AE 14 #[Y (U ⟨a,0,I⟩),pv ai o.length rd] w fun aj w'=>aj=wv (.tuple #[C sw ((z.need o).1:Nat),C sw ((z.need o).2:Nat)])∧AC w.1.size w w':=by
 have c3:w.cell? ⟨a,3,I⟩=U (.bool z.up):=h.cell 3
 have D:Hid (z.need o=if z.up=AK then (0,6) else match z.piece o with
  |.error e=>(0,e)
  |.ok p=>((Wr.bytes p).length,0)):=rfl
 have S:=gQq (jR h X ah);obtain⟨R,Z⟩:∃R,R=z.need o:=⟨_,rfl⟩;rw[<-Z] at D ⊢;obtain⟨b,hb⟩:∃b,b=z.up:=⟨_,rfl⟩;rw[<-hb] at c3 D;clear h X ah Z hb;go_enter func14,ntmps14;cases b with
 |false=>
  have y:Hid (R=(0,6)):=D.out;go_wp2;go_ret2;rw[y.out];exact⟨rfl,gQz⟩
 |true=>
  have y:Hid (R=match z.piece o with
   |.error e=>(0,e)
   |.ok p=>((Wr.bytes p).length,0)):=D.out
  go_wp2_with fail;refine S.out.mono ?_;rintro ak w1 ⟨ab,K⟩;have A:=gQq ab;clear S ab;obtain⟨r,Q⟩:∃r,r=z.piece o:=⟨_,rfl⟩;rw[<-Q] at y K;cases r with
  |error er=>
   have a0:ak=wv (.tuple #[.agg #[pv I 0 0,pv I 0 0,pv I 0 0],C sw (er:Nat)]):=K;subst a0;have L:Hid (R=(0,er)):=y.out;clear K Q y;go_wp2;go_ret2;rw[L.out];exact⟨rfl,A.out.alloc A.out.size _⟩
  |ok fs=>
   obtain⟨fv,sv,bv,N,G,rfl,aw,J,-,-,-⟩:=K;obtain⟨a4,a3,rfl,-⟩:=J.frames.form;obtain⟨a6,a5,rfl,-⟩:=J.starts.form;obtain⟨a2,a1,rfl,-,-⟩:=J.bytes.at;have L:Hid (R=((Wr.bytes fs).length,0)):=y.out;clear J aw Q y;go_wp2;go_ret2;rw[L.out];exact⟨rfl,A.out.alloc A.out.size _⟩
end
end
section
open Go.RowKit Go.Maps
theorem xK{x:Idx}(y:Fr.i64 x.at_)(A:Fr.i64 x.frames)(D:Fr.i64 x.rows)(J:∀e∈x.entries,Fr.i64 e.at_∧Fr.i64 e.row∧Fr.i64 e.sch):(Wr.xFr x).wf :=
 have o:Fr.i64 0:=⟨by decide,by decide⟩;have K:Fr.i64 3:=⟨by decide,by decide⟩
 ⟨K,o,fun _ L=>(List.not_mem_nil L).elim,o,o,o,⟨y,A,D⟩,J⟩
theorem pF(w:World)(p:OA):cU w p []:=fun j o=>absurd o (Nat.not_lt_zero j)
section
variable {w w':World} {B a g m M n N:Nat} {v e:Value} {x k:Nat} {gm:Int->Option Value} {q:OA} {cap:Nat} {z:Wr} {E G:Nat->Prop}
theorem ud(h:KWr w B a g m M n v e x k gm q cap z E)(co:Hv w)(d2:2<B)(d0:n<900000000)(d1:z.s.safe<=z.s.b.length)(du:z.s.b.length<=2097152)(dv:z.s.most<=1048576)(c9:z.s.done<4611686018425290752):
    Calls AE 42 #[Y (U ⟨a,0,I⟩)] w fun bq w'=>bq=wv (.tuple #[.bool z.index.1,C sw (z.index.2.1:Nat)])∧Wrote w B a g m M n 1 v e q cap z.index.2.2 E w':=by
  have A:=gQq h;have b5:=gQq co;have c1:w.cell? ⟨a,1,I⟩=U (Y (U ⟨m,0,I⟩)):=h.cell 1;have bk:=gQq (qu h.walk);have a2:Hid (z.index=if z.k.closed=true then (AK,0,z) else (if (z.write [Wr.xFr ⟨(z.s.b.length:Nat),z.k.frames,z.k.rows,z.k.ents⟩]).1=52 then (AK,0,(z.write [Wr.xFr ⟨(z.s.b.length:Nat),z.k.frames,z.k.rows,z.k.ents⟩]).2) else (decide ((z.write [Wr.xFr ⟨(z.s.b.length:Nat),z.k.frames,z.k.rows,z.k.ents⟩]).1=0),(z.write [Wr.xFr ⟨(z.s.b.length:Nat),z.k.frames,z.k.rows,z.k.ents⟩]).1,(z.write [Wr.xFr ⟨(z.s.b.length:Nat),z.k.frames,z.k.rows,z.k.ents⟩]).2))):=rfl;obtain⟨R,cd⟩:∃R,R=z.index:=⟨_,rfl⟩;rw[<-cd] at a2 ⊢;obtain⟨cl,cj⟩:∃cl,cl=z.k.closed:=⟨_,rfl⟩;rw[<-cj] at bk a2;clear h co cd cj;go_enter func42,ntmps42;go_wp2_with fail;refine bk.out.mono ?_;rintro ew w1 ⟨rfl,cp⟩;rw[cp];clear cp w1 bk;cases cl with
  |true=>
    have aj:Hid (R=(AK,0,z)):=a2.out;go_wp2;go_ret2;rw[aj.out];exact⟨rfl,⟨v,e,x,k,gm,A.out.more (by omega),fun _ o=>O o,fun _ o=>O o⟩,Aside.refl _ _⟩
  |false=>
    have aj:Hid (R=(if (z.write [Wr.xFr ⟨(z.s.b.length:Nat),z.k.frames,z.k.rows,z.k.ents⟩]).1=52 then (AK,0,(z.write [Wr.xFr ⟨(z.s.b.length:Nat),z.k.frames,z.k.rows,z.k.ents⟩]).2) else (decide ((z.write [Wr.xFr ⟨(z.s.b.length:Nat),z.k.frames,z.k.rows,z.k.ents⟩]).1=0),(z.write [Wr.xFr ⟨(z.s.b.length:Nat),z.k.frames,z.k.rows,z.k.ents⟩]).1,(z.write [Wr.xFr ⟨(z.s.b.length:Nat),z.k.frames,z.k.rows,z.k.ents⟩]).2))):=a2.out;clear a2;obtain⟨r,bT⟩:∃r,r=z.write [Wr.xFr ⟨(z.s.b.length:Nat),z.k.frames,z.k.rows,z.k.ents⟩]:=⟨_,rfl⟩;rw[<-bT] at aj;have bn:=gQq bT;clear bT;have c0:w.cell? ⟨a,0,I⟩=U (Y (U ⟨g,0,I⟩)):=A.out.cell 0;have b7:Hid (∀w',AC w.1.size w w'->Calls AE 11 #[Y (U ⟨g,0,I⟩)] w' fun e ai=>e=wv (C sw (z.s.b.length:Nat))∧ai=w'):=fun w' hb=>lG (A.out.on hb).dev;have b4:Hid (∀w',AC w.1.size w w'->Calls AE 20 #[Y (U ⟨m,0,I⟩)] w' fun e ai=>e=wv (C sw z.k.frames)∧ai=w'):=fun w' hb=>jb (A.out.on hb).walk;have b9:Hid (∀w',AC w.1.size w w'->Calls AE 12 #[Y (U ⟨m,0,I⟩)] w' fun e ai=>e=wv (C sw z.k.rows)∧ai=w'):=fun w' hb=>nu (A.out.on hb).walk;have b3:Hid (∀w',AC w.1.size w w'->Calls AE 64 #[Y (U ⟨m,0,I⟩)] w' fun e ai=>∃q cap,e=wv (pv q z.k.ents.length cap)∧bL ai w'.1.size (pv q z.k.ents.length cap) z.k.ents∧AC w'.1.size w' ai):=fun w' hb=>ug (A.out.on hb).walk;have S:Hid (∀y,AC w.1.size w (w.alloc y).drew):=fun y=>(gQz.alloc gQx y).drew;have b8:Hid (w.1.size≠a):=fun K=>by have:=A.out.lt;omega
    have a0:Hid (AC w.1.size w w.drew):=gQz.drew;go_wp2_with fail
    go_region_held3 (fun w'=>w'.cell? ⟨a,0,I⟩=U (Y (U ⟨g,0,I⟩))∧w'.cell? ⟨a,1,I⟩=U (Y (U ⟨m,0,I⟩))) (go_keep) (first|(go_at_call 11;refine(b7.out _ (by first | exact S.out _ | exact a0.out)).mono ?_;rintro a7 w' ⟨rfl,ah⟩;rw[ah];clear ah w')|(go_at_call 20;refine(b4.out _ (by first | exact S.out _ | exact a0.out)).mono ?_;rintro a7 w' ⟨rfl,ah⟩;rw[ah];clear ah w')|(go_at_call 12;refine(b9.out _ (by first | exact S.out _ | exact a0.out)).mono ?_;rintro a7 w' ⟨rfl,ah⟩;rw[ah];clear ah w')|(go_at_call 64;refine(b3.out _ (by first | exact S.out _ | exact a0.out)).mono ?_;rintro a7 w1 ⟨X,V,rfl,ck,a1⟩;have a5:=gQq ck;have bi:=gQq a1;have c0:w1.cell? ⟨a,0,I⟩=U (Y (U ⟨g,0,I⟩)):=ae a1 (by first | exact ae (S.out _) c0 | exact c0);have c1:w1.cell? ⟨a,1,I⟩=U (Y (U ⟨m,0,I⟩)):=ae a1 (by first | exact ae (S.out _) c1 | exact c1);(try (have L:w1.1[w.1.size]?=U (wx #[C sw 0,C sw 0,C sw 0,pv I 0 0] 50 (0,0)):=(a1.block w.1.size (by simp)).trans (an w _);have d5:=aa L 0;have d6:=aa L 1;have d7:=aa L 2;have d8:=aa L 3;have cx:=ac L 0;have f1:=ac L 1;have cy:=ac L 2;have c5:=ac L 3;have b6:=gQq L;clear L));have e4:=a1.size;have e2:w.1.size≠a:=b8.out;have e3:a≠w.1.size:=fun K=>b8.out K.symm;clear ck a1)|fail)
    all_goals
      (first
        | (obtain⟨Wf,J⟩:∃Wf,Wf=(((w1.setCell ⟨w.1.size,0,I⟩ (C sw (z.s.b.length:Nat))).setCell ⟨w.1.size,1,I⟩ (C sw z.k.frames)).setCell ⟨w.1.size,2,I⟩ (C sw z.k.rows)).setCell ⟨w.1.size,3,I⟩ (pv X z.k.ents.length V):=⟨_,rfl⟩;obtain⟨D,aw⟩:∃D,D=w.1.size:=⟨_,rfl⟩;have Z:Wf.1[D]?=U (wx #[C sw (z.s.b.length:Nat),C sw z.k.frames,C sw z.k.rows,pv X z.k.ents.length V] 50 (0,0)):=(by rw[J,aw];exact bV (bV (bV (bV b6.out 0 _) 1 _) 2 _) 3 _);have bX:Aside (fun i=>i=w.1.size) w1 Wf:=(by rw[J];exact((((Aside.refl (fun i=>i=w.1.size) w1).setCell (p:=⟨w.1.size,0,I⟩) (O rfl) _).setCell (p:=⟨w.1.size,1,I⟩) (O rfl) _).setCell (p:=⟨w.1.size,2,I⟩) (O rfl) _).setCell (p:=⟨w.1.size,3,I⟩) (O rfl) _);have ak:AC w.1.size w w1:=(S.out _).trans (bi.out.mono (by simp));have a4:AC w.1.size w Wf:=ak.trans (bX.below ak.size (fun i o K=>by omega));have bc:bL Wf w.1.size (pv X z.k.ents.length V) z.k.ents:=(a5.out.low (by simp)).aside bX (fun i o K=>by have:=(a5.out.lt i o).1;simp at this;omega);rw[<-J,<-aw];clear b6 bX ak J d5 d6 d7 d8 cx f1 cy c5 aw)
        | (obtain⟨Wf,J⟩:∃Wf,Wf=w1.alloc (wx #[C sw (z.s.b.length:Nat),C sw z.k.frames,C sw z.k.rows,pv X z.k.ents.length V] 50):=⟨_,rfl⟩;obtain⟨D,aw⟩:∃D,D=w1.1.size:=⟨_,rfl⟩;have Z:Wf.1[D]?=U (wx #[C sw (z.s.b.length:Nat),C sw z.k.frames,C sw z.k.rows,pv X z.k.ents.length V] 50 (0,0)):=(by rw[J,aw];exact an w1 _);have ak:AC w.1.size w w1:=a0.out.trans bi.out;have a4:AC w.1.size w Wf:=(by rw[J];exact ak.alloc ak.size _);have bc:bL Wf w.1.size (pv X z.k.ents.length V) z.k.ents:=bL.on a5.out (by rw[J];exact gQy);rw[<-J,<-aw];clear ak J aw))
      have cq:=a4.size;have bO:∀i,((i=g∨v.ownBlock=U i)∨bA m M e i)->i<w.1.size:=fun i o=>by
        rcases o with (o | o) | o
        · rw[o];exact A.out.dev.lt
        · exact(A.out.dev.has.lt i o).2
        · exact A.out.low i (AX o)
      obtain⟨bp,a9⟩:∃W,W=Wf.alloc (wx #[pv I 0 0,pv I 0 0,pv I 0 0] 90):=⟨_,rfl⟩;have a3:AC Wf.1.size Wf bp:=(by rw[a9];exact gQy);obtain⟨G,a8⟩:∃G:Nat->Prop,G=fun i=>((i=g∨v.ownBlock=U i)∨bA m M e i)∨Wf.1.size<=i:=⟨_,rfl⟩;have cn:Pc Wf bp Wf.1.size (pv I 0 0) (pv I 0 0) (pv I 0 0) G [] [] []:=⟨by rw[a9];exact an Wf _,gQx,i8 _ _,i8 _ _,bG _ _,a3,fun i o=>by rw[a8];exact AX o⟩;have ab:=A.out.walk.good;have cr:iS G (Wr.xFr ⟨(z.s.b.length:Nat),z.k.frames,z.k.rows,z.k.ents⟩) (aF 3 0 I 0 0 0 0 0 I 0 0 (z.s.b.length:Nat) z.k.frames z.k.rows X z.k.ents.length V).toList bp:=fun w' c8=>by
        have dj:=(bc.on a3).aside c8 (fun i o K=>by
          rw[a8] at K;have:=bc.lt i o;rcases K with K | K
          · have:=bO i K;omega
          · omega)
        obtain⟨e5,ev,bs,ds,bN,-⟩:=dj.ents;injection bs with bs _ hec;subst bs hec;exact⟨I,0,I,0,X,V,rfl,by simp[Wr.xFr],by simp[Wr.xFr],pF w' I,by simp[Wr.xFr],by simp[Wr.xFr],O rfl,ab.ents,ds,bN⟩
      have b0:(Wr.xFr ⟨(z.s.b.length:Nat),z.k.frames,z.k.rows,z.k.ents⟩).wf:=xK ⟨by show _<=((z.s.b.length:Nat):Int);omega,by show((z.s.b.length:Nat):Int)<=_;omega⟩ ⟨by have:=ab.since;have:=ab.frames;show _<=z.k.frames;omega,by have:=ab.frames;show z.k.frames<=_;omega⟩ ⟨by have:=ab.rows;show _<=z.k.rows;omega,by have:=ab.rows;show z.k.rows<=_;omega⟩ ab.entsOk;have b2:=gQq (qH cn (Wr.xFr ⟨(z.s.b.length:Nat),z.k.frames,z.k.rows,z.k.ents⟩) b0 _ cr ((b5.out.next a4).next a3) (by simp) (by simp[Wr.bytes]));obtain⟨d9,eb,eg,em⟩:=cQ4 ((a3.block _ (ap Z)).trans Z);have ea:∀y,(Wf.alloc y).cell? ⟨D,0,I⟩=U _:=fun y=>ae (gQz.alloc gQx y) (aa Z 0);have ec:∀y,(Wf.alloc y).cell? ⟨D,1,I⟩=U _:=fun y=>ae (gQz.alloc gQx y) (aa Z 1);have el:∀y,(Wf.alloc y).cell? ⟨D,2,I⟩=U _:=fun y=>ae (gQz.alloc gQx y) (aa Z 2);have en:∀y,(Wf.alloc y).cell? ⟨D,3,I⟩=U _:=fun y=>ae (gQz.alloc gQx y) (aa Z 3);have ct:Hid (∀i,((i=g∨v.ownBlock=U i)∨bA m M e i)->G i):=fun i o=>by rw[a8];exact O o
      have cs:=gQq a4;have cu:=gQq bO;have cw:=gQq b0;have cv:=gQq a9.symm;clear a4 bc Z cn cr b0 a9 a3 a8 bO ab b7 b4 b9 b3 S a0 a5 bi c0 c1;go_wp2_with fail;rw[cv.out];refine b2.out.mono ?_;rintro a7 be ⟨rfl,e0,e8,er,Q,-⟩;have bb:AC w.1.size w be:=cs.out.trans (Q.below.mono cq);have a6:=gQq (pX (A.out.on bb) Q.pw ct.out (fun i o=>AS (cu.out i o) cq) (b5.out.next bb) d2 (fun f df=>by rw[List.mem_singleton.1 df];exact cw.out) (by simp) d0 d1 du dv c9);obtain⟨eL,eC,rfl,-⟩:=Q.frames.form;obtain⟨e7,e6,rfl,-⟩:=Q.starts.form;obtain⟨eq,ep,rfl,-,-⟩:=Q.bytes.at;have z0:be.cell? ⟨Wf.1.size,0,I⟩=U _:=Q.cell 0;have z1:be.cell? ⟨Wf.1.size,1,I⟩=U _:=Q.cell 1;have z2:be.cell? ⟨Wf.1.size,2,I⟩=U _:=Q.cell 2;have bj:=gQq bb;rw[List.nil_append] at a6 z0 z1 z2;rw[<-bn.out] at a6;clear Q bb b2 d9 eb eg em ea ec el en;go_wp2_with fail;refine a6.out.mono ?_;rintro ez w4 ⟨rfl,b1⟩;have ci:Wrote w B a g m M n 1 v e q cap r.2 E w4:=by
        obtain⟨v',bq,d4,k',c7,dr,d3,bN⟩:=b1.out;exact⟨⟨v',bq,d4,k',c7,dr,fun i o=>(d3 i o).imp id (fun h=>AT bj.out.size h),fun i o=>(bN i o).imp id (fun h=>AT bj.out.size h)⟩,(af bj.out _).trans b1.aside (fun _ _ h=>h)⟩
      have cb:=gQq ci;clear b1 ci a6;by_cases cc:r.1=52
      · have bl:=gQq (aj.out.trans (AG cc));have c6:((r.1:Int)==52)=true:=(by rw[beq_iff_eq];omega);clear aj bn;go_wp2;go_ret2;rw[bl.out];exact⟨rfl,cb.out⟩
      · have bl:=gQq (aj.out.trans (AF cc));have c6:((r.1:Int)==52)=false:=(by rw[BQ];omega);have e1:((r.1:Int)==0)=decide (r.1=0):=(by rw[Bool.eq_iff_iff,beq_iff_eq,decide_eq_true_iff];omega);clear aj bn;go_wp2;go_ret2;rw[bl.out];exact⟨by simp,cb.out⟩
end
end
section
open Go.RowKit Go.Maps
section
variable {w w':World} {B a g m M n N:Nat} {v e:Value} {x k:Nat} {gm:Int->Option Value} {q:OA} {cap:Nat} {z:Wr} {E G:Nat->Prop}
theorem Wrote.apd{y w1:World}{A:Wr}(hb:AC w.1.size w y)(h:Wrote y B a g m M n 1 v e q cap A E w1):Apd w B a g m M n v e q cap { A with up:=AK } E (w1.setCell ⟨a,3,I⟩ (.bool AK)):=by
 obtain⟨v',D,S,k',J,L,Q,K⟩:=h.out;exact⟨⟨v',D,S,k',J,(L.more (by omega)).shut,fun i o=>(Q i o).imp id (fun h=>AT hb.size h),fun i o=>(K i o).imp id (fun h=>AT hb.size h)⟩,((af hb _).trans h.aside (fun i _ o=>AX o)).trans ((Aside.refl (fun i=>i=a) w1).setCell (p:=⟨a,3,I⟩) (O rfl) _) (fun i _ o=>O o)⟩
theorem nv(h:KWr w B a g m M n v e x k gm q cap z E)(bn:¬E a∧¬E g∧∀i,v.ownBlock=U i->¬E i)(a4:Hv w)(co:2<B)(cn:n<900000000)(b5:z.s.safe<=z.s.b.length)(b0:z.s.b.length<=2097152)(b1:z.s.most<=1048576)(bs:z.s.done<4611686018425290752):
  Calls AE 19 #[Y (U ⟨a,0,I⟩)] w fun cd w'=>cd=wv (.tuple #[.bool z.close.1,C sw (z.close.2.1:Nat)])∧Apd w B a g m M n v e q cap z.close.2.2 E w':=by
 have cv:∀(fn:Fn) (first cap:AV) (w:World),(Instr.makeFunc fn first cap).run AE w=.ok (.func fn first cap) w:=fun _ _ _ _=>rfl;have X:=gQq h;have ct:=gQq a4;have D:Hid (z.close=if z.up=AK then (AK,6,z) else (if z.index.2.1≠0 then (AK,z.index.2.1,{ z.index.2.2 with up:=AK }) else (if (Dv.sync z.index.2.2.s).1≠0 then (AK,(Dv.sync z.index.2.2.s).1,{ z.index.2.2 with s:=(Dv.sync z.index.2.2.s).2,up:=AK }) else (z.index.1,0,{ z.index.2.2 with s:=(Dv.sync z.index.2.2.s).2,up:=AK })))):=rfl;have cc:∀o,(w.alloc o).cell? ⟨a,3,I⟩=U (.bool z.up):=fun o=>ae (gQz.alloc gQx o) (h.cell 3);obtain⟨ab,ah⟩:∃ab,ab=w.alloc (wx #[Y (U ⟨a,0,I⟩)] 29):=⟨_,rfl⟩;have aj:AC w.1.size w ab:=by rw[ah];exact gQy
 have bT:ab.1[w.1.size]?=U (wx #[Y (U ⟨a,0,I⟩)] 29 (0,0)):=by rw[ah];exact an w _
 have ak:=gQq (ud (h.on aj) (a4.next aj) co cn b5 b0 b1 bs);obtain⟨R,bp⟩:∃R,R=z.close:=⟨_,rfl⟩;rw[<-bp] at D ⊢;obtain⟨b,hb⟩:∃b,b=z.up:=⟨_,rfl⟩;rw[<-hb] at cc D;obtain⟨r,b3⟩:∃r,r=z.index:=⟨_,rfl⟩;rw[<-b3] at D ak;have V:=gQq aj;have aw:=gQq bT;have be:=gQq ah.symm;have cs:=gQq bn;clear h a4 bp hb b3 aj bT ah b5 b0 b1 bs bn
 go_enter_defers func19,ntmps19
 cases b with
 |false=>
  have J:Hid (R=(AK,6,z)):=D.out;go_wp2;rw[be.out];refine⟨_,results_tmp2 rfl _ _ _,?_⟩;rw[J.out];exact⟨rfl,Apd.same X.out V.out⟩
 |true=>
  have J:Hid (R=(if r.2.1≠0 then (AK,r.2.1,{ r.2.2 with up:=AK }) else (if (Dv.sync r.2.2.s).1≠0 then (AK,(Dv.sync r.2.2.s).1,{ r.2.2 with s:=(Dv.sync r.2.2.s).2,up:=AK }) else (r.1,0,{ r.2.2 with s:=(Dv.sync r.2.2.s).2,up:=AK })))):=D.out;clear D;go_wp2_with fail;rw[be.out];refine ak.out.mono ?_;rintro bk w1 ⟨rfl,Q⟩;have a3:∀i,((i=g∨v.ownBlock=U i)∨bA m M e i)->i<w.1.size:=fun i y=>by
   rcases y with (y | y) | y
   ·rw[y];exact X.out.dev.lt
   ·exact(X.out.dev.has.lt i y).2
   ·exact X.out.low i (AX y)
  have a2:=(Q.aside.block w.1.size (ap aw.out) (fun hc=>by have:=a3 _ hc;omega)).trans aw.out;have cb:w1.cell? ⟨w.1.size,0,I⟩=U (Y (U ⟨a,0,I⟩)):=aa a2 0;have b8:=gQq (Q.apd V.out);have bi:=gQq Q;obtain⟨c6,bk,c7,c5,ck,bO,b6,bN⟩:=Q.out;have K:=gQq bO;have a0:=gQq b6;have b9:=gQq bN;have a9:=gQq a2;have bb:=gQq a3;clear Q bO b6 bN a2 a3 ak;by_cases b4:r.2.1=0
  ·have Z:=gQq (J.out.trans (AF (fun hc=>hc b4)));have ci:((r.2.1:Int) != 0)=false:=ca (by omega);have c0:w1.cell? ⟨a,0,I⟩=U (Y (U ⟨g,0,I⟩)):=K.out.cell 0;have bc:=gQq (xB K.out.dev);clear J;go_wp2_with fail;refine bc.out.mono ?_;rintro cu a7 ⟨rfl,cq,cr,cp,bq,ai,a5⟩;have a1:=K.out.filed bq ai a5;have cy:=V.out.size;have cx:=ap aw.out;have bX:=(ai.block w.1.size (ap a9.out) (fun hc=>by
    rcases hc with hc | hc
    ·have:=bb.out g (O (O rfl));omega
    ·rcases a0.out _ hc with A | A
     ·have:=bb.out _ (O (AX A));omega
     ·omega)).trans a9.out
   have bj:a7.cell? ⟨w.1.size,0,I⟩=U (Y (U ⟨a,0,I⟩)):=aa bX 0;have cw:=bi.out.aside.size;have a8:Hid (Apd w B a g m M n v e q cap { r.2.2 with s:=(Dv.sync r.2.2.s).2,up:=AK } E (a7.setCell ⟨a,3,I⟩ (.bool AK))):=by
    refine⟨⟨cq,bk,cr,cp,ck,(a1.more (by omega)).shut,fun i y=>?_,fun i y=>(b9.out i y).imp id (fun h=>by omega)⟩,((((af V.out _).trans bi.out.aside (fun i _ y=>AX y)).trans ai (fun i y hc=>?_))).trans ((Aside.refl (fun i=>i=a) a7).setCell (p:=⟨a,3,I⟩) (O rfl) _) (fun i _ y=>O y)⟩
    ·rcases a5 i y with A | A
     ·exact(a0.out i A).imp id (fun h=>by omega)
     ·exact AX (by omega)
    ·rcases hc with hc | hc
     ·exact AX (O (O hc))
     ·rcases a0.out i hc with A | A
      ·exact AX (O (AX A))
      ·omega
   have S:=gQq a1;clear bq ai a5 a1 bX bc;by_cases b2:(Dv.sync r.2.2.s).1=0
   ·have L:=gQq (Z.out.trans (AF (fun hc=>hc b2)));have cj:(((Dv.sync r.2.2.s).1:Int) != 0)=false:=ca (by omega);clear Z;go_wp2;refine leaves_cons (f:=41) (args:=#[Y (U ⟨w.1.size,0,I⟩)]) (by simp) (by simp[go_sem]) ?_;refine(pH w.1.size a _ .returning _ bj (S.out.cell 3) (S.out.thawed 3)).mono ?_;rintro bl u9 b7 ⟨rfl,rfl,rfl⟩;refine⟨_,results_tmp2 rfl _ _ _,?_⟩;rw[L.out];exact⟨rfl,a8.out⟩
   ·have L:=gQq (Z.out.trans (AG b2));have cj:(((Dv.sync r.2.2.s).1:Int) != 0)=true:=(by rw[bne_iff_ne];omega);clear Z;go_wp2;refine leaves_cons (f:=41) (args:=#[Y (U ⟨w.1.size,0,I⟩)]) (by simp) (by simp[go_sem]) ?_;refine(pH w.1.size a _ .returning _ bj (S.out.cell 3) (S.out.thawed 3)).mono ?_;rintro bl u9 b7 ⟨rfl,rfl,rfl⟩;refine⟨_,results_tmp2 rfl _ _ _,?_⟩;rw[L.out];exact⟨rfl,a8.out⟩
  ·have L:=gQq (J.out.trans (AG b4));have ci:((r.2.1:Int) != 0)=true:=(by rw[bne_iff_ne];omega);clear J;go_wp2;refine leaves_cons (f:=41) (args:=#[Y (U ⟨w.1.size,0,I⟩)]) (by simp) (by simp[go_sem]) ?_;refine(pH w.1.size a _ .returning _ cb (K.out.cell 3) (K.out.thawed 3)).mono ?_;rintro bl u9 b7 ⟨rfl,rfl,rfl⟩;refine⟨_,results_tmp2 rfl _ _ _,?_⟩;rw[L.out];exact⟨rfl,b8.out⟩
end
end
end Go.Proofs.YtngmnfdaedlodaaGreatDoor

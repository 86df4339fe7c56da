import Derived.Test.YtngmnfdaedlodaaGreatDoorA4
set_option maxRecDepth 100000
set_option maxHeartbeats 4000000
namespace Go.Proofs.YtngmnfdaedlodaaGreatDoor
open Go.Proofs.Tryz
open Option renaming none->I,some->U
open Go.Value renaming pointer->Y,int->C,slice->mA
open Or renaming inl->O,inr->sq
open Go.IntKind renaming i64->px
open Bool renaming false->wx
open Go.RowKit renaming Below->AX
open Go.Obj renaming cells->qj
open Go.Proofs.Tryz renaming prog->AW
open Go.Ending renaming returned->qz
section
open Go.RowKit Go.Maps
section
variable {w w':World} {B a g m M n N:Nat} {v e:Value} {x k:Nat} {gm:Int->Option Value} {q:OA} {cap:Nat} {z:Wr} {E G:Nat->Prop} {fv sv bv:Value} {fs:List Fr}
theorem wP{L K:Nat}(a1:w.cell? ⟨L,0,I⟩=U (Y (U ⟨a,0,I⟩)))(o:w.1[K]?=U (qj #[fv,sv,bv] 90 (0,0)))(Z:∃p c,fv=mA p fs.length c)(ab:∃p c,sv=mA p fs.length c)(hb:∃p c,bv=mA p (Wr.bytes fs).length c){y:Ending->World->Prop}(V:Calls AW 37 #[Y (U ⟨a,0,I⟩),.agg #[fv,sv,bv]] w y)(S:∀e w,y e w->∃Q:Int,e=qz (C px Q)):
  Calls AW 36 #[Y (U ⟨L,0,I⟩),Y (U ⟨K,0,I⟩)] w y:=by
 have J:=gQq V;have D:=gQq S;obtain⟨a0,aw,rfl⟩:=Z;obtain⟨a3,a2,rfl⟩:=ab;obtain⟨aj,ah,rfl⟩:=hb;have a4:=aa o 0;have a5:=aa o 1;have a6:=aa o 2;clear V S o;go_enter func36,ntmps36;go_wp2_with fail;refine J.out.mono ?_;intro ak w1 A;obtain⟨Q,rfl⟩:=D.out _ _ A;have X:=gQq A;clear A J D;go_wp2;exact X.out
structure Apd(w:World)(B a g m M n:Nat)(v e:Value)(q:OA)(cap:Nat)(z':Wr)(E:Nat->Prop)(w':World):Prop where
 out:∃v' e' x' k' gm',KWr w' B a g m M (n+2) v' e' x' k' gm' q cap z' E∧(∀i,v'.ownBlock=U i->v.ownBlock=U i∨w.1.size<=i)∧∀i,e'.ownBlock=U i->e.ownBlock=U i∨w.1.size<=i
 aside:Aside (fun i=>i=a∨(i=g∨v.ownBlock=U i)∨bz m M e i) w w'
theorem KWr.more(h:KWr w B a g m M n v e x k gm q cap z E){n':Nat}(o:n<=n'):KWr w B a g m M n' v e x k gm q cap z E:=⟨h.lies,h.dev,h.walk.more o,h.base,h.room,h.good,h.calm⟩
theorem Apd.same{w0:World}(h:KWr w0 B a g m M n v e x k gm q cap z E)(hb:AX w0.1.size w0 w'):Apd w0 B a g m M n v e q cap z E w':=⟨⟨v,e,x,k,gm,(h.on hb).more (by omega),fun _ o=>O o,fun _ o=>O o⟩,af hb _⟩
theorem piece_ne{z:Wr}{y:List (List V)}{o:Nat}(h:Except.error o=z.piece y):o≠0:=by
 unfold Wr.piece at h;dsimp only at h;split at h
 ·next h1=>
  injection h with h;rw[h];exact h1
 ·cases h
theorem kE(h:KWr w B a g m M n v e x k gm q cap z E)(b8:¬E a∧¬E g∧∀i,v.ownBlock=U i->¬E i){L:List (List V)}{c5:OA}{rd:Nat}(cc:cP w c5 rd L)(cu:Hv w)(er:2<B)(en:n<900000000)(eq:z.s.safe<=z.s.b.length)(el:z.s.b.length<=2097152)(em:z.s.most<=1048576)(d9:z.s.done<4611686018425290752):
  Calls AW 15 #[Y (U ⟨a,0,I⟩),mA c5 L.length rd] w fun D w'=>D=qz (C px ((z.append L).1:Nat))∧Apd w B a g m M n v e q cap (z.append L).2 E w':=by
 have J:=gQq h;have bj:=gQq b8;have ds:=gQq cc;have bX:=gQq cu;have d2:∀Z,(w.alloc Z).cell? ⟨a,3,I⟩=U (.bool z.up):=fun Z=>ae (gQz.alloc gQx Z) (h.cell 3)
 have a6:Hid (z.append L=if z.up=wx then (6,z) else match z.piece L with
  |.error e=>(e,z)
  |.ok p=>Wr.dare (z.write p)):=rfl
 have e7:∀(fn:Fn) (first cap:AV) (w:World),(Instr.makeFunc fn first cap).run AW w=.ok (.func fn first cap) w:=fun _ _ _ _=>rfl;obtain⟨R,cd⟩:∃R,R=z.append L:=⟨_,rfl⟩;rw[<-cd] at a6 ⊢;obtain⟨b,hb⟩:∃b,b=z.up:=⟨_,rfl⟩;rw[<-hb] at d2 a6;have eC:=gQq hb;obtain⟨a1,a8⟩:∃a1,a1=w.alloc (qj #[Y (U ⟨a,0,I⟩)] 29):=⟨_,rfl⟩;have cn:AX w.1.size w a1:=by rw[a8];exact gQy
 have cq:a1.1[w.1.size]?=U (qj #[Y (U ⟨a,0,I⟩)] 29 (0,0)):=by rw[a8];exact am w _
 have K:=gQq cn;have b0:=gQq cq;have bn:=gQq a8.symm;clear h b8 cc cu cd hb a8 cn cq;go_enter func15,ntmps15;cases b with
 |false=>
  have S:Hid (R=(6,z)):=a6.out;go_wp2;rw[bn.out];go_ret;rw[S.out];exact⟨rfl,Apd.same J.out K.out⟩
 |true=>
  have bN:=gQq (jN (J.out.on K.out) (ds.out.on K.out) (bX.out.next K.out))
  have S:Hid (R=match z.piece L with
   |.error e=>(e,z)
   |.ok p=>Wr.dare (z.write p)):=a6.out
  go_wp2_with fail;rw[bn.out];refine bN.out.mono ?_;rintro b3 w1 ⟨co,bc⟩;have ah:=gQq co;clear bN co;obtain⟨r,be⟩:∃r,r=z.piece L:=⟨_,rfl⟩;rw[<-be] at S bc;cases r with
  |error aj=>
   have ea:b3=qz (.tuple #[.agg #[mA I 0 0,mA I 0 0,mA I 0 0],C px (aj:Nat)]):=bc;subst ea;have ep:=piece_ne be;have e0:((aj:Int) != 0)=true:=(by rw[bne_iff_ne];omega);have bk:Hid (R=(aj,z)):=S.out;clear bc be ep S;go_wp2;go_ret;rw[bk.out];exact⟨rfl,Apd.same J.out ((K.out.trans (ah.out.mono K.out.size)).trans (gQy.mono (by have:=K.out.size;have:=ah.out.size;omega)))⟩
  |ok fs=>
   obtain⟨fv,sv,bv,N,G,rfl,d6,a5,cb,cy,eg⟩:=bc;obtain⟨A,a3⟩:∃W,W=w1.alloc (qj #[fv,sv,bv] 90):=⟨_,rfl⟩;have a9:AX w1.1.size w1 A:=(by rw[a3];exact gQy);have cr:A.1[w1.1.size]?=U (qj #[fv,sv,bv] 90 (0,0)):=(by rw[a3];exact am w1 _);have fc:a1.1.size=w.1.size+1:=(by rw[<-bn.out];simp);have fi:=ah.out.size;have fo:A.1.size=w1.1.size+1:=(by rw[a3];simp);have bs:=(a9.block w.1.size (by omega)).trans ((ah.out.block w.1.size (by omega)).trans b0.out);have ak:AX w.1.size w A:=(K.out.trans (ah.out.mono K.out.size)).trans (a9.mono (by omega));have Q:∀i,((i=g∨v.ownBlock=U i)∨bz m M e i)->i<w.1.size:=fun i o=>by
    rcases o with (o | o) | o
    ·rw[o];exact J.out.dev.lt
    ·exact(J.out.dev.has.lt i o).2
    ·exact J.out.low i (sq o)
   have cs:∀i,((i=g∨v.ownBlock=U i)∨bz m M e i)->j8 a g v m M e E i:=fun i o=>by
    rcases o with (o | o) | o
    ·exact O (O (sq (O o)))
    ·exact O (O (sq (sq o)))
    ·exact sq o
   have a4:∀i,E i->i<w.1.size:=fun i o=>J.out.walk.low i (sq o);have b7:qE A a 36 #[Y (U ⟨w.1.size,0,I⟩),Y (U ⟨w1.1.size,0,I⟩)] (fun aj a0=>aj=(z.write fs).1∧(∃v' D ab k' X,KWr a0 B a g m M (n+2) v' D ab k' X q cap (z.write fs).2 (fun i=>E i∨i=A.1.size+1)∧(∀i,v'.ownBlock=U i->v.ownBlock=U i∨A.1.size+2<=i)∧∀i,D.ownBlock=U i->e.ownBlock=U i∨A.1.size+2<=i)∧Aside (fun i=>(i=g∨v.ownBlock=U i)∨bz m M e i) A a0):=fun w' hb e9=>by
    have bp:=ak.trans (hb.mono ak.size);have d5:=J.out.onE (E':=fun i=>E i∨i=A.1.size+1) bp (fun i o=>o.imp id (fun o=>by omega)) (fun i o=>o.elim (fun o=>AF (a4 i o) bp.size) (fun o=>by omega));have bb:Pw w' N fv sv bv G fs:=(a5.aside (F:=fun _=>False) (af a9 _) (fun _ y=>y.elim) (fun _ y=>y.elim)).aside (F:=fun _=>False) (af hb _) (fun _ y=>y.elim) (fun _ y=>y.elim);have ez:=pN d5 bb (fun i o=>cb i (cs i o)) (fun i o=>by have:=Q i o;omega) (bX.out.next bp) er cy (by omega) en eq el em d9;obtain⟨b5,b4,ec,-⟩:=bb.frames.form;obtain⟨c7,c6,ct,-⟩:=bb.starts.form;obtain⟨b2,b1,d7,-,-⟩:=bb.bytes.at;rw[Wr.starts_len] at ct;have d8:=aa ((hb.block w.1.size (by omega)).trans bs) 0;refine(wP d8 ((hb.block w1.1.size (by omega)).trans cr) ⟨b5,b4,ec⟩ ⟨c7,c6,ct⟩ ⟨b2,b1,d7⟩ ez (fun _ _ h=>⟨_,h.1⟩)).mono ?_;rintro eL a0 ⟨rfl,bi⟩;obtain⟨v',D,ab,k',X,aw,ew,eb⟩:=bi.out;refine⟨_,rfl,⟨rfl,⟨v',D,ab,k',X,aw.more (by omega),fun i o=>(ew i o).imp id (fun h=>by omega),fun i o=>(eb i o).imp id (fun h=>by omega)⟩,(af hb _).trans bi.aside (fun i _ o=>o)⟩,fun i e1 a7=>bi.aside.block i a7 (fun y=>by have:=Q i y;have:=ak.size;omega),bi.aside.size,_,aw.cell 3,aw.thawed 3⟩
   have bT:=gQq (yg A a 36 (Y (U ⟨w.1.size,0,I⟩)) (Y (U ⟨w1.1.size,0,I⟩)) _ (fun args w=>dm func36 (by kernel_rfl) rfl args w) b7 (AF J.out.lt ak.size));obtain⟨b5,b4,rfl,-⟩:=a5.frames.form;obtain⟨c7,c6,rfl,-⟩:=a5.starts.form;obtain⟨b2,b1,rfl,-,-⟩:=a5.bytes.at;have bk:Hid (R=Wr.dare (z.write fs)):=S.out;have dv:=gQq a3.symm;have bO:=gQq ak;have du:=gQq Q;have c9:=gQq a4;have dj:=gQq J.out.lt;have d3:A.cell? ⟨w.1.size,0,I⟩=U (Y (U ⟨a,0,I⟩)):=aa bs 0;have d4:∀Z,(w1.alloc Z).cell? ⟨w.1.size,0,I⟩=U (Y (U ⟨a,0,I⟩)):=fun Z=>ae (gQz.alloc gQx Z) (aa ((ah.out.block w.1.size (by omega)).trans b0.out) 0);clear a5 cb cy eg d6 a9 cr bs ak Q cs a4 b7 a3 S be;go_wp2_with fail;rw[dv.out];refine bT.out.mono ?_;rintro b3 fq ⟨aj,a0,w4,rfl,⟨rfl,⟨v',D,ab,k',X,aw,cv,cp⟩,cj⟩,cx,cw⟩;have dr:=gQq aw;have bl:=gQq cv;have df:=gQq cp;have c8:=gQq cj;have d0:=gQq cx;have d1:=gQq cw;clear aw cv cp cj cx cw bT d3 d4;go_wp2;go_ret;have e3:=bO.out.size;have Q:=du.out;have a4:=c9.out;have ev:∀i,v.ownBlock=U i->i<w.1.size:=fun i o=>Q i (O (sq o));have e8:∀i,bz m M e i->i<w.1.size:=fun i o=>Q i (sq o);have e4:=Q g (O (O rfl));have e2:=dj.out;have ck:Aside (fun i=>i=A.1.size+1) a0 w4:=by rw[d0.out];exact(Aside.refl (fun i=>i=A.1.size+1) a0).setCell (p:=⟨A.1.size+1,0,I⟩) (O rfl) _
   have a7:KWr w4 B a g m M (n+2) v' D ab k' X q cap (z.write fs).2 E:=dr.out.besides (ck.mono fun i _ o=>sq o) (fun y=>y.elim (fun y=>bj.out.1 y) (fun y=>by omega)) (fun y=>y.elim (fun y=>bj.out.2.1 y) (fun y=>by omega)) (fun i o y=>by
    rcases y with y | y
    ·rcases bl.out i o with a2 | a2
     ·exact bj.out.2.2 i a2 y
     ·have:=a4 i y;omega
    ·rcases bl.out i o with a2 | a2
     ·have:=ev i a2;omega
     ·omega) (fun i o=>O o)
   have b6:Aside (fun i=>i=a∨(i=g∨v.ownBlock=U i)∨bz m M e i) w w4:=((af bO.out _).trans c8.out (fun i _ o=>sq o)).trans ck (fun i e5 e6=>by omega);have ci:∀i,v'.ownBlock=U i->v.ownBlock=U i∨w.1.size<=i:=fun i o=>(bl.out i o).imp id (fun h=>by omega);have b9:∀i,D.ownBlock=U i->e.ownBlock=U i∨w.1.size<=i:=fun i o=>(df.out i o).imp id (fun h=>by omega);rw[bk.out,d1.out];refine⟨rfl,?_⟩;by_cases y:((z.write fs).1:Int)=50∨((z.write fs).1:Int)=51
   ·have bq:(z.write fs).1=50∨(z.write fs).1=51:=(by omega);rw[AK y];unfold Wr.dare;rw[AK bq];exact⟨⟨v',D,ab,k',X,a7.shut,ci,b9⟩,b6.trans ((Aside.refl (fun i=>i=a) w4).setCell (p:=⟨a,3,I⟩) (O rfl) _) (fun i _ o=>O o)⟩
   ·have bq:¬((z.write fs).1=50∨(z.write fs).1=51):=(by omega);rw[AJ y];unfold Wr.dare;rw[AJ bq];exact⟨⟨v',D,ab,k',X,a7,ci,b9⟩,b6⟩
theorem vZ(h:KWr w B a g m M n v e x k gm q cap z E){o:List (List V)}{aj:OA}{rd:Nat}(X:cP w aj rd o)(ah:Hv w):
  Calls AW 14 #[Y (U ⟨a,0,I⟩),mA aj o.length rd] w fun ak w'=>ak=qz (.tuple #[C px ((z.need o).1:Nat),C px ((z.need o).2:Nat)])∧AX w.1.size w w':=by
 have c3:w.cell? ⟨a,3,I⟩=U (.bool z.up):=h.cell 3
 have D:Hid (z.need o=if z.up=wx then (0,6) else match z.piece o with
  |.error e=>(0,e)
  |.ok p=>((Wr.bytes p).length,0)):=rfl
 have S:=gQq (jN h X ah);obtain⟨R,Z⟩:∃R,R=z.need o:=⟨_,rfl⟩;rw[<-Z] at D ⊢;obtain⟨b,hb⟩:∃b,b=z.up:=⟨_,rfl⟩;rw[<-hb] at c3 D;clear h X ah Z hb;go_enter func14,ntmps14;cases b with
 |false=>
  have y:Hid (R=(0,6)):=D.out;go_wp2;go_ret2;rw[y.out];exact⟨rfl,gQz⟩
 |true=>
  have y:Hid (R=match z.piece o with
   |.error e=>(0,e)
   |.ok p=>((Wr.bytes p).length,0)):=D.out
  go_wp2_with fail;refine S.out.mono ?_;rintro aw w1 ⟨ab,K⟩;have A:=gQq ab;clear S ab;obtain⟨r,Q⟩:∃r,r=z.piece o:=⟨_,rfl⟩;rw[<-Q] at y K;cases r with
  |error er=>
   have a1:aw=qz (.tuple #[.agg #[mA I 0 0,mA I 0 0,mA I 0 0],C px (er:Nat)]):=K;subst a1;have L:Hid (R=(0,er)):=y.out;clear K Q y;go_wp2;go_ret2;rw[L.out];exact⟨rfl,A.out.alloc A.out.size _⟩
  |ok fs=>
   obtain⟨fv,sv,bv,N,G,rfl,a0,J,-,-,-⟩:=K;obtain⟨a5,a4,rfl,-⟩:=J.frames.form;obtain⟨a7,a6,rfl,-⟩:=J.starts.form;obtain⟨a3,a2,rfl,-,-⟩:=J.bytes.at;have L:Hid (R=((Wr.bytes fs).length,0)):=y.out;clear J a0 Q y;go_wp2;go_ret2;rw[L.out];exact⟨rfl,A.out.alloc A.out.size _⟩
end
end
section
open Go.RowKit Go.Maps
theorem xy{x:Idx}(y:Fr.i64 x.at_)(A:Fr.i64 x.frames)(D:Fr.i64 x.rows)(J:∀e∈x.entries,Fr.i64 e.at_∧Fr.i64 e.row∧Fr.i64 e.sch):(Wr.xFr x).wf :=
 have o:Fr.i64 0:=⟨by decide,by decide⟩;have K:Fr.i64 3:=⟨by decide,by decide⟩
 ⟨K,o,fun _ L=>(List.not_mem_nil L).elim,o,o,o,⟨y,A,D⟩,J⟩
theorem pr(w:World)(p:OA):cT w p []:=fun j o=>absurd o (Nat.not_lt_zero j)
section
variable {w w':World} {B a g m M n N:Nat} {v e:Value} {x k:Nat} {gm:Int->Option Value} {q:OA} {cap:Nat} {z:Wr} {E G:Nat->Prop}
theorem tV(h:KWr w B a g m M n v e x k gm q cap z E)(cp:Hv w)(d3:2<B)(d1:n<900000000)(d2:z.s.safe<=z.s.b.length)(dv:z.s.b.length<=2097152)(d0:z.s.most<=1048576)(df:z.s.done<4611686018425290752):
    Calls AW 42 #[Y (U ⟨a,0,I⟩)] w fun bs w'=>bs=qz (.tuple #[.bool z.index.1,C px (z.index.2.1:Nat)])∧Wrote w B a g m M n 1 v e q cap z.index.2.2 E w':=by
  have A:=gQq h;have b6:=gQq cp;have c1:w.cell? ⟨a,1,I⟩=U (Y (U ⟨m,0,I⟩)):=h.cell 1;have bl:=gQq (qh h.walk);have a3:Hid (z.index=if z.k.closed=true then (wx,0,z) else (if (z.write [Wr.xFr ⟨(z.s.b.length:Nat),z.k.frames,z.k.rows,z.k.ents⟩]).1=52 then (wx,0,(z.write [Wr.xFr ⟨(z.s.b.length:Nat),z.k.frames,z.k.rows,z.k.ents⟩]).2) else (decide ((z.write [Wr.xFr ⟨(z.s.b.length:Nat),z.k.frames,z.k.rows,z.k.ents⟩]).1=0),(z.write [Wr.xFr ⟨(z.s.b.length:Nat),z.k.frames,z.k.rows,z.k.ents⟩]).1,(z.write [Wr.xFr ⟨(z.s.b.length:Nat),z.k.frames,z.k.rows,z.k.ents⟩]).2))):=rfl;obtain⟨R,ci⟩:∃R,R=z.index:=⟨_,rfl⟩;rw[<-ci] at a3 ⊢;obtain⟨cl,ck⟩:∃cl,cl=z.k.closed:=⟨_,rfl⟩;rw[<-ck] at bl a3;clear h cp ci ck;go_enter func42,ntmps42;go_wp2_with fail;refine bl.out.mono ?_;rintro ez w1 ⟨rfl,cq⟩;rw[cq];clear cq w1 bl;cases cl with
  |true=>
    have ak:Hid (R=(wx,0,z)):=a3.out;go_wp2;go_ret2;rw[ak.out];exact⟨rfl,⟨v,e,x,k,gm,A.out.more (by omega),fun _ o=>O o,fun _ o=>O o⟩,Aside.refl _ _⟩
  |false=>
    have ak:Hid (R=(if (z.write [Wr.xFr ⟨(z.s.b.length:Nat),z.k.frames,z.k.rows,z.k.ents⟩]).1=52 then (wx,0,(z.write [Wr.xFr ⟨(z.s.b.length:Nat),z.k.frames,z.k.rows,z.k.ents⟩]).2) else (decide ((z.write [Wr.xFr ⟨(z.s.b.length:Nat),z.k.frames,z.k.rows,z.k.ents⟩]).1=0),(z.write [Wr.xFr ⟨(z.s.b.length:Nat),z.k.frames,z.k.rows,z.k.ents⟩]).1,(z.write [Wr.xFr ⟨(z.s.b.length:Nat),z.k.frames,z.k.rows,z.k.ents⟩]).2))):=a3.out;clear a3;obtain⟨r,bX⟩:∃r,r=z.write [Wr.xFr ⟨(z.s.b.length:Nat),z.k.frames,z.k.rows,z.k.ents⟩]:=⟨_,rfl⟩;rw[<-bX] at ak;have bp:=gQq bX;clear bX;have c0:w.cell? ⟨a,0,I⟩=U (Y (U ⟨g,0,I⟩)):=A.out.cell 0;have b8:Hid (∀w',AX w.1.size w w'->Calls AW 11 #[Y (U ⟨g,0,I⟩)] w' fun e aj=>e=qz (C px (z.s.b.length:Nat))∧aj=w'):=fun w' hb=>m9 (A.out.on hb).dev;have b5:Hid (∀w',AX w.1.size w w'->Calls AW 20 #[Y (U ⟨m,0,I⟩)] w' fun e aj=>e=qz (C px z.k.frames)∧aj=w'):=fun w' hb=>i6 (A.out.on hb).walk;have cb:Hid (∀w',AX w.1.size w w'->Calls AW 12 #[Y (U ⟨m,0,I⟩)] w' fun e aj=>e=qz (C px z.k.rows)∧aj=w'):=fun w' hb=>qb (A.out.on hb).walk;have b4:Hid (∀w',AX w.1.size w w'->Calls AW 64 #[Y (U ⟨m,0,I⟩)] w' fun e aj=>∃q cap,e=qz (mA q z.k.ents.length cap)∧bK aj w'.1.size (mA q z.k.ents.length cap) z.k.ents∧AX w'.1.size w' aj):=fun w' hb=>tX (A.out.on hb).walk;have S:Hid (∀y,AX w.1.size w (w.alloc y).drew):=fun y=>(gQz.alloc gQx y).drew;have b9:Hid (w.1.size≠a):=fun K=>by have:=A.out.lt;omega
    have a1:Hid (AX w.1.size w w.drew):=gQz.drew;go_wp2_with fail
    go_region_held3 (fun w'=>w'.cell? ⟨a,0,I⟩=U (Y (U ⟨g,0,I⟩))∧w'.cell? ⟨a,1,I⟩=U (Y (U ⟨m,0,I⟩))) (go_keep) (first|(go_at_call 11;refine(b8.out _ (by first | exact S.out _ | exact a1.out)).mono ?_;rintro a8 w' ⟨rfl,ah⟩;rw[ah];clear ah w')|(go_at_call 20;refine(b5.out _ (by first | exact S.out _ | exact a1.out)).mono ?_;rintro a8 w' ⟨rfl,ah⟩;rw[ah];clear ah w')|(go_at_call 12;refine(cb.out _ (by first | exact S.out _ | exact a1.out)).mono ?_;rintro a8 w' ⟨rfl,ah⟩;rw[ah];clear ah w')|(go_at_call 64;refine(b4.out _ (by first | exact S.out _ | exact a1.out)).mono ?_;rintro a8 w1 ⟨X,V,rfl,cn,a2⟩;have a6:=gQq cn;have bj:=gQq a2;have c0:w1.cell? ⟨a,0,I⟩=U (Y (U ⟨g,0,I⟩)):=ae a2 (by first | exact ae (S.out _) c0 | exact c0);have c1:w1.cell? ⟨a,1,I⟩=U (Y (U ⟨m,0,I⟩)):=ae a2 (by first | exact ae (S.out _) c1 | exact c1);(try (have L:w1.1[w.1.size]?=U (qj #[C px 0,C px 0,C px 0,mA I 0 0] 50 (0,0)):=(a2.block w.1.size (by simp)).trans (am w _);have d6:=aa L 0;have d7:=aa L 1;have d8:=aa L 2;have d9:=aa L 3;have cy:=ac L 0;have f1:=ac L 1;have c5:=ac L 2;have c6:=ac L 3;have b7:=gQq L;clear L));have e5:=a2.size;have e3:w.1.size≠a:=b9.out;have e4:a≠w.1.size:=fun K=>b9.out K.symm;clear cn a2)|fail)
    all_goals
      (first
        | (obtain⟨Wf,J⟩:∃Wf,Wf=(((w1.setCell ⟨w.1.size,0,I⟩ (C px (z.s.b.length:Nat))).setCell ⟨w.1.size,1,I⟩ (C px z.k.frames)).setCell ⟨w.1.size,2,I⟩ (C px z.k.rows)).setCell ⟨w.1.size,3,I⟩ (mA X z.k.ents.length V):=⟨_,rfl⟩;obtain⟨D,a0⟩:∃D,D=w.1.size:=⟨_,rfl⟩;have Z:Wf.1[D]?=U (qj #[C px (z.s.b.length:Nat),C px z.k.frames,C px z.k.rows,mA X z.k.ents.length V] 50 (0,0)):=(by rw[J,a0];exact bU (bU (bU (bU b7.out 0 _) 1 _) 2 _) 3 _);have b0:Aside (fun i=>i=w.1.size) w1 Wf:=(by rw[J];exact((((Aside.refl (fun i=>i=w.1.size) w1).setCell (p:=⟨w.1.size,0,I⟩) (O rfl) _).setCell (p:=⟨w.1.size,1,I⟩) (O rfl) _).setCell (p:=⟨w.1.size,2,I⟩) (O rfl) _).setCell (p:=⟨w.1.size,3,I⟩) (O rfl) _);have aw:AX w.1.size w w1:=(S.out _).trans (bj.out.mono (by simp));have a5:AX w.1.size w Wf:=aw.trans (b0.below aw.size (fun i o K=>by omega));have be:bK Wf w.1.size (mA X z.k.ents.length V) z.k.ents:=(a6.out.low (by simp)).aside b0 (fun i o K=>by have:=(a6.out.lt i o).1;simp at this;omega);rw[<-J,<-a0];clear b7 b0 aw J d6 d7 d8 d9 cy f1 c5 c6 a0)
        | (obtain⟨Wf,J⟩:∃Wf,Wf=w1.alloc (qj #[C px (z.s.b.length:Nat),C px z.k.frames,C px z.k.rows,mA X z.k.ents.length V] 50):=⟨_,rfl⟩;obtain⟨D,a0⟩:∃D,D=w1.1.size:=⟨_,rfl⟩;have Z:Wf.1[D]?=U (qj #[C px (z.s.b.length:Nat),C px z.k.frames,C px z.k.rows,mA X z.k.ents.length V] 50 (0,0)):=(by rw[J,a0];exact am w1 _);have aw:AX w.1.size w w1:=a1.out.trans bj.out;have a5:AX w.1.size w Wf:=(by rw[J];exact aw.alloc aw.size _);have be:bK Wf w.1.size (mA X z.k.ents.length V) z.k.ents:=bK.on a6.out (by rw[J];exact gQy);rw[<-J,<-a0];clear aw J a0))
      have cr:=a5.size;have bT:∀i,((i=g∨v.ownBlock=U i)∨bz m M e i)->i<w.1.size:=fun i o=>by
        rcases o with (o | o) | o
        · rw[o];exact A.out.dev.lt
        · exact(A.out.dev.has.lt i o).2
        · exact A.out.low i (sq o)
      obtain⟨bq,bb⟩:∃W,W=Wf.alloc (qj #[mA I 0 0,mA I 0 0,mA I 0 0] 90):=⟨_,rfl⟩;have a4:AX Wf.1.size Wf bq:=(by rw[bb];exact gQy);obtain⟨G,a9⟩:∃G:Nat->Prop,G=fun i=>((i=g∨v.ownBlock=U i)∨bz m M e i)∨Wf.1.size<=i:=⟨_,rfl⟩;have co:Pc Wf bq Wf.1.size (mA I 0 0) (mA I 0 0) (mA I 0 0) G [] [] []:=⟨by rw[bb];exact am Wf _,gQx,iY _ _,iY _ _,bF _ _,a4,fun i o=>by rw[a9];exact sq o⟩;have ab:=A.out.walk.good;have cs:iO G (Wr.xFr ⟨(z.s.b.length:Nat),z.k.frames,z.k.rows,z.k.ents⟩) (aG 3 0 I 0 0 0 0 0 I 0 0 (z.s.b.length:Nat) z.k.frames z.k.rows X z.k.ents.length V).toList bq:=fun w' c9=>by
        have dr:=(be.on a4).aside c9 (fun i o K=>by
          rw[a9] at K;have:=be.lt i o;rcases K with K | K
          · have:=bT i K;omega
          · omega)
        obtain⟨e6,ew,bN,du,bO,-⟩:=dr.ents;injection bN with bN _ hec;subst bN hec;exact⟨I,0,I,0,X,V,rfl,by simp[Wr.xFr],by simp[Wr.xFr],pr w' I,by simp[Wr.xFr],by simp[Wr.xFr],O rfl,ab.ents,du,bO⟩
      have b1:(Wr.xFr ⟨(z.s.b.length:Nat),z.k.frames,z.k.rows,z.k.ents⟩).wf:=xy ⟨by show _<=((z.s.b.length:Nat):Int);omega,by show((z.s.b.length:Nat):Int)<=_;omega⟩ ⟨by have:=ab.since;have:=ab.frames;show _<=z.k.frames;omega,by have:=ab.frames;show z.k.frames<=_;omega⟩ ⟨by have:=ab.rows;show _<=z.k.rows;omega,by have:=ab.rows;show z.k.rows<=_;omega⟩ ab.entsOk;have b3:=gQq (qA co (Wr.xFr ⟨(z.s.b.length:Nat),z.k.frames,z.k.rows,z.k.ents⟩) b1 _ cs ((b6.out.next a5).next a4) (by simp) (by simp[Wr.bytes]));obtain⟨ea,ec,el,en⟩:=cQ4 ((a4.block _ (ao Z)).trans Z);have eb:∀y,(Wf.alloc y).cell? ⟨D,0,I⟩=U _:=fun y=>ae (gQz.alloc gQx y) (aa Z 0);have eg:∀y,(Wf.alloc y).cell? ⟨D,1,I⟩=U _:=fun y=>ae (gQz.alloc gQx y) (aa Z 1);have em:∀y,(Wf.alloc y).cell? ⟨D,2,I⟩=U _:=fun y=>ae (gQz.alloc gQx y) (aa Z 2);have ep:∀y,(Wf.alloc y).cell? ⟨D,3,I⟩=U _:=fun y=>ae (gQz.alloc gQx y) (aa Z 3);have cu:Hid (∀i,((i=g∨v.ownBlock=U i)∨bz m M e i)->G i):=fun i o=>by rw[a9];exact O o
      have ct:=gQq a5;have cv:=gQq bT;have cx:=gQq b1;have cw:=gQq bb.symm;clear a5 be Z co cs b1 bb a4 a9 bT ab b8 b5 cb b4 S a1 a6 bj c0 c1;go_wp2_with fail;rw[cw.out];refine b3.out.mono ?_;rintro a8 bi ⟨rfl,e1,e9,ev,Q,-⟩;have bc:AX w.1.size w bi:=ct.out.trans (Q.below.mono cr);have a7:=gQq (pN (A.out.on bc) Q.pw cu.out (fun i o=>AF (cv.out i o) cr) (b6.out.next bc) d3 (fun f dj=>by rw[List.mem_singleton.1 dj];exact cx.out) (by simp) d1 d2 dv d0 df);obtain⟨e0,eL,rfl,-⟩:=Q.frames.form;obtain⟨e8,e7,rfl,-⟩:=Q.starts.form;obtain⟨er,eq,rfl,-,-⟩:=Q.bytes.at;have z0:bi.cell? ⟨Wf.1.size,0,I⟩=U _:=Q.cell 0;have z1:bi.cell? ⟨Wf.1.size,1,I⟩=U _:=Q.cell 1;have z2:bi.cell? ⟨Wf.1.size,2,I⟩=U _:=Q.cell 2;have bk:=gQq bc;rw[List.nil_append] at a7 z0 z1 z2;rw[<-bp.out] at a7;clear Q bc b3 ea ec el en eb eg em ep;go_wp2_with fail;refine a7.out.mono ?_;rintro eC w4 ⟨rfl,b2⟩;have cj:Wrote w B a g m M n 1 v e q cap r.2 E w4:=by
        obtain⟨v',bs,d5,k',c8,ds,d4,bO⟩:=b2.out;exact⟨⟨v',bs,d5,k',c8,ds,fun i o=>(d4 i o).imp id (fun h=>AG bk.out.size h),fun i o=>(bO i o).imp id (fun h=>AG bk.out.size h)⟩,(af bk.out _).trans b2.aside (fun _ _ h=>h)⟩
      have cc:=gQq cj;clear b2 cj a7;by_cases cd:r.1=52
      · have bn:=gQq (ak.out.trans (AK cd));have c7:((r.1:Int)==52)=true:=(by rw[beq_iff_eq];omega);clear ak bp;go_wp2;go_ret2;rw[bn.out];exact⟨rfl,cc.out⟩
      · have bn:=gQq (ak.out.trans (AJ cd));have c7:((r.1:Int)==52)=false:=(by rw[AM];omega);have e2:((r.1:Int)==0)=decide (r.1=0):=(by rw[Bool.eq_iff_iff,beq_iff_eq,decide_eq_true_iff];omega);clear ak bp;go_wp2;go_ret2;rw[bn.out];exact⟨by simp,cc.out⟩
end
end
section
open Go.RowKit Go.Maps
section
variable {w w':World} {B a g m M n N:Nat} {v e:Value} {x k:Nat} {gm:Int->Option Value} {q:OA} {cap:Nat} {z:Wr} {E G:Nat->Prop}
theorem Wrote.apd{y w1:World}{A:Wr}(hb:AX w.1.size w y)(h:Wrote y B a g m M n 1 v e q cap A E w1):Apd w B a g m M n v e q cap { A with up:=wx } E (w1.setCell ⟨a,3,I⟩ (.bool wx)):=by
 obtain⟨v',D,S,k',J,L,Q,K⟩:=h.out;exact⟨⟨v',D,S,k',J,(L.more (by omega)).shut,fun i o=>(Q i o).imp id (fun h=>AG hb.size h),fun i o=>(K i o).imp id (fun h=>AG hb.size h)⟩,((af hb _).trans h.aside (fun i _ o=>sq o)).trans ((Aside.refl (fun i=>i=a) w1).setCell (p:=⟨a,3,I⟩) (O rfl) _) (fun i _ o=>O o)⟩
theorem na(h:KWr w B a g m M n v e x k gm q cap z E)(bp:¬E a∧¬E g∧∀i,v.ownBlock=U i->¬E i)(a5:Hv w)(cp:2<B)(co:n<900000000)(b6:z.s.safe<=z.s.b.length)(b1:z.s.b.length<=2097152)(b2:z.s.most<=1048576)(bN:z.s.done<4611686018425290752):
  Calls AW 19 #[Y (U ⟨a,0,I⟩)] w fun ci w'=>ci=qz (.tuple #[.bool z.close.1,C px (z.close.2.1:Nat)])∧Apd w B a g m M n v e q cap z.close.2.2 E w':=by
 have cw:∀(fn:Fn) (first cap:AV) (w:World),(Instr.makeFunc fn first cap).run AW w=.ok (.func fn first cap) w:=fun _ _ _ _=>rfl;have X:=gQq h;have cu:=gQq a5;have D:Hid (z.close=if z.up=wx then (wx,6,z) else (if z.index.2.1≠0 then (wx,z.index.2.1,{ z.index.2.2 with up:=wx }) else (if (Dv.sync z.index.2.2.s).1≠0 then (wx,(Dv.sync z.index.2.2.s).1,{ z.index.2.2 with s:=(Dv.sync z.index.2.2.s).2,up:=wx }) else (z.index.1,0,{ z.index.2.2 with s:=(Dv.sync z.index.2.2.s).2,up:=wx })))):=rfl;have cd:∀o,(w.alloc o).cell? ⟨a,3,I⟩=U (.bool z.up):=fun o=>ae (gQz.alloc gQx o) (h.cell 3);obtain⟨ab,ah⟩:∃ab,ab=w.alloc (qj #[Y (U ⟨a,0,I⟩)] 29):=⟨_,rfl⟩;have ak:AX w.1.size w ab:=by rw[ah];exact gQy
 have bX:ab.1[w.1.size]?=U (qj #[Y (U ⟨a,0,I⟩)] 29 (0,0)):=by rw[ah];exact am w _
 have aw:=gQq (tV (h.on ak) (a5.next ak) cp co b6 b1 b2 bN);obtain⟨R,bq⟩:∃R,R=z.close:=⟨_,rfl⟩;rw[<-bq] at D ⊢;obtain⟨b,hb⟩:∃b,b=z.up:=⟨_,rfl⟩;rw[<-hb] at cd D;obtain⟨r,b4⟩:∃r,r=z.index:=⟨_,rfl⟩;rw[<-b4] at D aw;have V:=gQq ak;have a0:=gQq bX;have bi:=gQq ah.symm;have ct:=gQq bp;clear h a5 bq hb b4 ak bX ah b6 b1 b2 bN bp
 go_enter_defers func19,ntmps19
 cases b with
 |false=>
  have J:Hid (R=(wx,6,z)):=D.out;go_wp2;rw[bi.out];refine⟨_,results_tmp2 rfl _ _ _,?_⟩;rw[J.out];exact⟨rfl,Apd.same X.out V.out⟩
 |true=>
  have J:Hid (R=(if r.2.1≠0 then (wx,r.2.1,{ r.2.2 with up:=wx }) else (if (Dv.sync r.2.2.s).1≠0 then (wx,(Dv.sync r.2.2.s).1,{ r.2.2 with s:=(Dv.sync r.2.2.s).2,up:=wx }) else (r.1,0,{ r.2.2 with s:=(Dv.sync r.2.2.s).2,up:=wx })))):=D.out;clear D;go_wp2_with fail;rw[bi.out];refine aw.out.mono ?_;rintro bl w1 ⟨rfl,Q⟩;have a4:∀i,((i=g∨v.ownBlock=U i)∨bz m M e i)->i<w.1.size:=fun i y=>by
   rcases y with (y | y) | y
   ·rw[y];exact X.out.dev.lt
   ·exact(X.out.dev.has.lt i y).2
   ·exact X.out.low i (sq y)
  have a3:=(Q.aside.block w.1.size (ao a0.out) (fun hc=>by have:=a4 _ hc;omega)).trans a0.out;have cc:w1.cell? ⟨w.1.size,0,I⟩=U (Y (U ⟨a,0,I⟩)):=aa a3 0;have b9:=gQq (Q.apd V.out);have bj:=gQq Q;obtain⟨c7,bl,c8,c6,cn,bT,b7,bO⟩:=Q.out;have K:=gQq bT;have a1:=gQq b7;have cb:=gQq bO;have bb:=gQq a3;have bc:=gQq a4;clear Q bT b7 bO a3 a4 aw;by_cases b5:r.2.1=0
  ·have Z:=gQq (J.out.trans (AJ (fun hc=>hc b5)));have cj:((r.2.1:Int) != 0)=false:=bZ (by omega);have c0:w1.cell? ⟨a,0,I⟩=U (Y (U ⟨g,0,I⟩)):=K.out.cell 0;have be:=gQq (xo K.out.dev);clear J;go_wp2_with fail;refine be.out.mono ?_;rintro cv a8 ⟨rfl,cr,cs,cq,bs,aj,a6⟩;have a2:=K.out.filed bs aj a6;have c5:=V.out.size;have cy:=ao a0.out;have b0:=(aj.block w.1.size (ao bb.out) (fun hc=>by
    rcases hc with hc | hc
    ·have:=bc.out g (O (O rfl));omega
    ·rcases a1.out _ hc with A | A
     ·have:=bc.out _ (O (sq A));omega
     ·omega)).trans bb.out
   have bk:a8.cell? ⟨w.1.size,0,I⟩=U (Y (U ⟨a,0,I⟩)):=aa b0 0;have cx:=bj.out.aside.size;have a9:Hid (Apd w B a g m M n v e q cap { r.2.2 with s:=(Dv.sync r.2.2.s).2,up:=wx } E (a8.setCell ⟨a,3,I⟩ (.bool wx))):=by
    refine⟨⟨cr,bl,cs,cq,cn,(a2.more (by omega)).shut,fun i y=>?_,fun i y=>(cb.out i y).imp id (fun h=>by omega)⟩,((((af V.out _).trans bj.out.aside (fun i _ y=>sq y)).trans aj (fun i y hc=>?_))).trans ((Aside.refl (fun i=>i=a) a8).setCell (p:=⟨a,3,I⟩) (O rfl) _) (fun i _ y=>O y)⟩
    ·rcases a6 i y with A | A
     ·exact(a1.out i A).imp id (fun h=>by omega)
     ·exact sq (by omega)
    ·rcases hc with hc | hc
     ·exact sq (O (O hc))
     ·rcases a1.out i hc with A | A
      ·exact sq (O (sq A))
      ·omega
   have S:=gQq a2;clear bs aj a6 a2 b0 be;by_cases b3:(Dv.sync r.2.2.s).1=0
   ·have L:=gQq (Z.out.trans (AJ (fun hc=>hc b3)));have ck:(((Dv.sync r.2.2.s).1:Int) != 0)=false:=bZ (by omega);clear Z;go_wp2;refine leaves_cons (f:=41) (args:=#[Y (U ⟨w.1.size,0,I⟩)]) (by simp) (by simp[go_sem]) ?_;refine(py w.1.size a _ .returning _ bk (S.out.cell 3) (S.out.thawed 3)).mono ?_;rintro bn u9 b8 ⟨rfl,rfl,rfl⟩;refine⟨_,results_tmp2 rfl _ _ _,?_⟩;rw[L.out];exact⟨rfl,a9.out⟩
   ·have L:=gQq (Z.out.trans (AK b3));have ck:(((Dv.sync r.2.2.s).1:Int) != 0)=true:=(by rw[bne_iff_ne];omega);clear Z;go_wp2;refine leaves_cons (f:=41) (args:=#[Y (U ⟨w.1.size,0,I⟩)]) (by simp) (by simp[go_sem]) ?_;refine(py w.1.size a _ .returning _ bk (S.out.cell 3) (S.out.thawed 3)).mono ?_;rintro bn u9 b8 ⟨rfl,rfl,rfl⟩;refine⟨_,results_tmp2 rfl _ _ _,?_⟩;rw[L.out];exact⟨rfl,a9.out⟩
  ·have L:=gQq (J.out.trans (AK b5));have cj:((r.2.1:Int) != 0)=true:=(by rw[bne_iff_ne];omega);clear J;go_wp2;refine leaves_cons (f:=41) (args:=#[Y (U ⟨w.1.size,0,I⟩)]) (by simp) (by simp[go_sem]) ?_;refine(py w.1.size a _ .returning _ cc (K.out.cell 3) (K.out.thawed 3)).mono ?_;rintro bn u9 b8 ⟨rfl,rfl,rfl⟩;refine⟨_,results_tmp2 rfl _ _ _,?_⟩;rw[L.out];exact⟨rfl,b9.out⟩
end
end
end Go.Proofs.YtngmnfdaedlodaaGreatDoor

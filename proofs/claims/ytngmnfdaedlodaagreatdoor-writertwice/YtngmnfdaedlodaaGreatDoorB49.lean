import Derived.Test.YtngmnfdaedlodaaGreatDoorC7
import Derived.Test.YtngmnfdaedlodaaGreatDoorC6
import Derived.Test.YtngmnfdaedlodaaGreatDoorB22
set_option maxRecDepth 100000
set_option maxHeartbeats 4000000
namespace Go.Proofs.YtngmnfdaedlodaaGreatDoor
open Go.Proofs.Tryz
open Go.Value renaming int->I,slice->Y,bool->mx,pointer->mE
open Go.IntKind renaming i64->U
open Option renaming none->O,some->C
open Go.RowKit renaming Hid->F,Below->AX
open Go.Obj renaming cells->N
open Go.Proofs.Tryz renaming prog->AW
open Bool renaming false->wx
open Go.Ending renaming returned->qz
variable{w1:World}
section
open Go.RowKit Go.Maps
section
variable {w:World} {B a M n:Nat} {v:Value} {g:Int->Option Value} {s:Wk} {G:Nat->Prop}
theorem rK(h:au w B a M n v g s G)(f:Fr)(ah:f.kind=1)(u:AV)(a7:cg w u f)(pl:Int)(b1:0<=f.number):
  Calls AW 46 #[mE (C ⟨a,0,O⟩),.agg u,I U pl] w fun e w'=>e=qz (mx (Sc.follows s f pl))∧AX w.1.size w w':=by
 obtain⟨sp,A,a3,a2,a5,a4,rfl,a9,bj,bb,-⟩:=a7.out;unfold aG;obtain⟨o,S⟩:∃o,o=w.alloc (N #[I U 1,I U f.number,Y sp f.cols.length A,I U f.seq,I U f.first,I U f.rows,Y a3 f.block.length a2,I U f.index.at_,I U f.index.frames,I U f.index.rows,Y a5 f.index.entries.length a4] 52):=⟨_,rfl⟩;have V:AX w.1.size w o:=by rw[S];exact gQy
 have X:=am w (N #[I U 1,I U f.number,Y sp f.cols.length A,I U f.seq,I U f.first,I U f.rows,Y a3 f.block.length a2,I U f.index.at_,I U f.index.frames,I U f.index.rows,Y a5 f.index.entries.length a4] 52);rw[<-S] at X;have bl:o.cell? ⟨w.1.size,1,O⟩=C (I U f.number):=aa X 1;have ak:o.cell? ⟨w.1.size,2,O⟩=C (Y sp f.cols.length A):=aa X 2;have Z:F (w.alloc (N #[I U 1,I U f.number,Y sp f.cols.length A,I U f.seq,I U f.first,I U f.rows,Y a3 f.block.length a2,I U f.index.at_,I U f.index.frames,I U f.index.rows,Y a5 f.index.entries.length a4] 52)=o):=S.symm;have E:=h.on V;have c0:o.cell? ⟨a,0,O⟩=C (.map (C M)):=E.cell 0;have c1:o.cell? ⟨a,1,O⟩=C (I U s.number):=E.cell 1;have b2:=h.good.number;have aw:=gQq V;obtain⟨R,ab⟩:∃R,R=Sc.follows s f pl:=⟨_,rfl⟩;have K:F (R=if f.number=s.number then Sch.same f.cols (Sc.schAt s s.number) else decide (f.number=s.number+1)):=by
  show _=_;rw[ab];unfold Sc.follows;rw[AK ah]
 rw[<-ab,ah];by_cases y:f.number=s.number
 ·obtain⟨k,a8⟩:=h.good.has (by omega);obtain⟨p,c,bc,bO,bT,be⟩:=E.known a8;have a1:F (∀w',AX o.1.size o w'->(Instr.lookup 77 (.map (C M)) (I U s.number) wx).run AW w'=.ok (.agg #[Y p k.cols.length c,I U k.place]) w'):=fun w' hb=>by
   have:=(E.on hb).map.look (m:=s.number) ⟨by omega,by omega⟩;rw[bc] at this;exact this
  have a0:F ((∀w',AX o.1.size o w'->w'.cell? ⟨a,0,O⟩=C (.map (C M)))∧(∀w',AX o.1.size o w'->w'.cell? ⟨a,1,O⟩=C (I U s.number))∧(∀w',AX o.1.size o w'->w'.cell? ⟨w.1.size,2,O⟩=C (Y sp f.cols.length A))):=⟨fun w' hb=>ae hb c0,fun w' hb=>ae hb c1,fun w' hb=>ae hb ak⟩;have b0:=lD p k.cols.length c k.place;have bs:F (∀w',AX o.1.size o w'->Calls AW 67 #[.agg #[Y sp f.cols.length A],.agg #[Y p k.cols.length c]] w' fun e bk=>e=qz (mx R)∧AX o.1.size o bk):=fun w' hb=>by
   have Q:=sX f.cols k.cols sp p A c w' a9 ((bb.on V).on hb) (be.on hb);have bX:R=Sch.same f.cols k.cols:=by
    rw[K.out,AK y];unfold Sc.schAt;rw[a8]
   rw[bX];exact Q.mono fun e bk ⟨bv,bN⟩=>⟨bv,hb.trans (bN.mono hb.size)⟩
  rw[y] at bl;have bi:(s.number==s.number)=true:=by simp
  rw[y] at Z;rw[y];clear h a7 S V X E ab K a9 bj bb bc bO bT be a8 ah y;go_enter func46,ntmps46;go_wp2_with fail;rw[Z.out];go_quiet (fail);go_wp2_with fail;obtain⟨L,a6⟩:∃L,L=o.drewN nq:=⟨_,rfl⟩;have D:AX o.1.size o L:=by rw[a6];exact below_drewN gQz _
  rw[<-a6];have b3:=ae D c0;have b4:=ae D c1;have b5:=ae D ak;have b7:=a1.out L D;have b6:=a1.out L.drew D.drew;have bn:=gQq D;clear a6 D Z bi c0 c1 bl ak
  go_region_held3 (fun w'=>w'.cell? ⟨a,0,O⟩=C (.map (C M))∧w'.cell? ⟨a,1,O⟩=C (I U s.number)∧w'.cell? ⟨w.1.size,2,O⟩=C (Y sp f.cols.length A)∧(Instr.lookup 77 (.map (C M)) (I U s.number) wx).run AW w'=.ok (.agg #[Y p k.cols.length c,I U k.place]) w') (go_keep) (first|(go_at_call 67;refine(bs.out _ bn.out.drew).mono ?_;rintro e aj ⟨rfl,J⟩;have z0:=a0.out.1 aj J;have z1:=a0.out.2.1 aj J;have z2:=a0.out.2.2 aj J;have b8:=a1.out aj J;have bp:=gQq J;clear J)|fail)
  go_wp2;go_ret;exact⟨rfl,aw.out.trans (bp.out.mono aw.out.size)⟩
 ·have bi:(f.number==s.number)=false:=by rw[AM];exact y
  rw[AJ y] at K;have bq:F (R=(f.number==s.number+1)):=by
   show _=_;rw[K.out];by_cases Q:f.number=s.number+1
   ·rw[Q];simp
   ·rw[AD Q];symm;rw[AM];exact Q
  clear h a7 S V X E ab K a9 bj bb ah y ak c0;go_enter func46,ntmps46;go_wp2_with fail;rw[Z.out];go_quiet (fail);go_wp2_with fail;go_quiet (fail);go_wp2;go_ret;rw[bq.out];exact⟨rfl,below_drewN (below_drewN aw.out _) _⟩
theorem rJ(h:au w B a M n v g s G)(f:Fr)(a0:f.kind=2)(u:AV)(a2:cg w u f)(pl:Int):
  Calls AW 46 #[mE (C ⟨a,0,O⟩),.agg u,I U pl] w fun e w'=>e=qz (mx (Sc.follows s f pl))∧AX w.1.size w w':=by
 obtain⟨sp,a1,ab,Z,aj,ah,rfl,-⟩:=a2.out;unfold aG;obtain⟨o,S⟩:∃o,o=w.alloc (N #[I U 2,I U f.number,Y sp f.cols.length a1,I U f.seq,I U f.first,I U f.rows,Y ab f.block.length Z,I U f.index.at_,I U f.index.frames,I U f.index.rows,Y aj f.index.entries.length ah] 52):=⟨_,rfl⟩;have aw:AX w.1.size w o:=by rw[S];exact gQy
 have J:=am w (N #[I U 2,I U f.number,Y sp f.cols.length a1,I U f.seq,I U f.first,I U f.rows,Y ab f.block.length Z,I U f.index.at_,I U f.index.frames,I U f.index.rows,Y aj f.index.entries.length ah] 52);rw[<-S] at J;have a5:o.cell? ⟨w.1.size,1,O⟩=C (I U f.number):=aa J 1;have a6:o.cell? ⟨w.1.size,3,O⟩=C (I U f.seq):=aa J 3;have a7:o.cell? ⟨w.1.size,4,O⟩=C (I U f.first):=aa J 4;have X:F (w.alloc (N #[I U 2,I U f.number,Y sp f.cols.length a1,I U f.seq,I U f.first,I U f.rows,Y ab f.block.length Z,I U f.index.at_,I U f.index.frames,I U f.index.rows,Y aj f.index.entries.length ah] 52)=o):=S.symm;have L:=h.on aw;have c1:o.cell? ⟨a,1,O⟩=C (I U s.number):=L.cell 1;have c3:o.cell? ⟨a,3,O⟩=C (I U s.frames):=L.cell 3;have c4:o.cell? ⟨a,4,O⟩=C (I U s.rows):=L.cell 4;have V:=gQq aw;obtain⟨R,ak⟩:∃R,R=Sc.follows s f pl:=⟨_,rfl⟩;have A:F (R=decide (f.number=s.number∧f.seq=s.frames∧f.first=s.rows)):=by
  show _=_;rw[ak];unfold Sc.follows;rw[AJ (by omega),AK a0]
 rw[<-ak,a0];clear h a2 S aw J L ak a0;by_cases y:f.number=s.number
 ·have a3:(f.number==s.number)=true:=by rw[beq_iff_eq];exact y
  by_cases D:f.seq=s.frames
  ·have a4:(f.seq==s.frames)=true:=(by rw[beq_iff_eq];exact D);have E:F (R=(f.first==s.rows)):=by
    show _=_;rw[A.out];by_cases Q:f.first=s.rows
    ·rw[AE ⟨y,D,Q⟩];symm;rw[beq_iff_eq];exact Q
    ·rw[AD (fun K=>Q K.2.2)];symm;rw[AM];exact Q
   clear A y D;go_enter func46,ntmps46;go_wp2_with fail;rw[X.out];go_quiet (fail);go_wp2;go_ret;rw[E.out];exact⟨rfl,below_drewN V.out _⟩
  ·have a4:(f.seq==s.frames)=false:=(by rw[AM];exact D);have E:F (R=wx):=(by show _=_;rw[A.out];exact AD (fun K=>D K.2.1));clear A y D;go_enter func46,ntmps46;go_wp2_with fail;rw[X.out];go_quiet (fail);go_wp2;go_ret;rw[E.out];exact⟨rfl,below_drewN V.out _⟩
 ·have a3:(f.number==s.number)=false:=by rw[AM];exact y
  have E:F (R=wx):=by show _=_;rw[A.out];exact AD (fun K=>y K.1)
  clear A y;go_enter func46,ntmps46;go_wp2_with fail;rw[X.out];go_quiet (fail);go_wp2;go_ret;rw[E.out];exact⟨rfl,below_drewN V.out _⟩
theorem rI(h:au w B a M n v g s G)(f:Fr)(a6:f.kind=3)(u:AV)(a5:cg w u f)(pl:Int):
  Calls AW 46 #[mE (C ⟨a,0,O⟩),.agg u,I U pl] w fun e w'=>e=qz (mx (Sc.follows s f pl))∧AX w.1.size w w':=by
 obtain⟨sp,a0,ah,ab,A,y,rfl,-,-,-,-,-,-,a3,bc,a4⟩:=a5.out;unfold aG;obtain⟨o,aj⟩:∃o,o=(w.alloc (N #[I U 3,I U f.number,Y sp f.cols.length a0,I U f.seq,I U f.first,I U f.rows,Y ah f.block.length ab,I U f.index.at_,I U f.index.frames,I U f.index.rows,Y A f.index.entries.length y] 52)).alloc (N #[I U f.index.at_,I U f.index.frames,I U f.index.rows,Y A f.index.entries.length y] 50):=⟨_,rfl⟩;have ak:AX w.1.size w o:=by rw[aj];exact gQy.alloc (by simp) _
 have aw:=am (w.alloc (N #[I U 3,I U f.number,Y sp f.cols.length a0,I U f.seq,I U f.first,I U f.rows,Y ah f.block.length ab,I U f.index.at_,I U f.index.frames,I U f.index.rows,Y A f.index.entries.length y] 52)) (N #[I U f.index.at_,I U f.index.frames,I U f.index.rows,Y A f.index.entries.length y] 50);rw[<-aj] at aw;have a2:(w.alloc (N #[I U 3,I U f.number,Y sp f.cols.length a0,I U f.seq,I U f.first,I U f.rows,Y ah f.block.length ab,I U f.index.at_,I U f.index.frames,I U f.index.rows,Y A f.index.entries.length y] 52)).1.size=w.1.size+1:=by simp
 rw[a2] at aw;obtain⟨bk,bl,bn,bp⟩:=cQ4 aw;have Z:F ((w.alloc (N #[I U 3,I U f.number,Y sp f.cols.length a0,I U f.seq,I U f.first,I U f.rows,Y ah f.block.length ab,I U f.index.at_,I U f.index.frames,I U f.index.rows,Y A f.index.entries.length y] 52)).alloc (N #[I U f.index.at_,I U f.index.frames,I U f.index.rows,Y A f.index.entries.length y] 50)=o):=aj.symm;have S:=h.on ak;obtain⟨q,d,bi,be,a7,-⟩:=S.ents.ents;subst bi;have c3:o.cell? ⟨a,3,O⟩=C (I U s.frames):=S.cell 3;have c4:o.cell? ⟨a,4,O⟩=C (I U s.rows):=S.cell 4;have bj:o.cell? ⟨a,5,O⟩=C (Y q s.ents.length d):=S.cell 5;have X:=gQq ak;obtain⟨R,a1⟩:∃R,R=Sc.follows s f pl:=⟨_,rfl⟩;have D:F (R=decide (f.index.at_=pl∧f.index.frames=s.frames∧f.index.rows=s.rows∧f.index.entries.map Ent.tup=s.ents.map Ent.tup)):=by
  show _=_;rw[a1];unfold Sc.follows;rw[AJ (by omega),AJ (by omega)];rfl
 have Q:F (∀m,Calls AW 68 #[Y A f.index.entries.length y,Y q s.ents.length d] (o.drewN m) fun e w'=>e=qz (mx (decide (f.index.entries.map Ent.tup=s.ents.map Ent.tup)))∧∃n,w'=(o.drewN m).drewN n):=fun m=>wA A q y d f.index.entries s.ents a3 (o.drewN m) ((a4.on ak).on (below_drewN gQz m)) (a7.on (below_drewN gQz m));rw[<-a1,a6];clear h a5 aj ak aw S a1 a6 a2 a3 bc a4 a7 be;by_cases J:f.index.at_=pl
 ·have a8:(f.index.at_==pl)=true:=by rw[beq_iff_eq];exact J
  by_cases K:f.index.frames=s.frames
  ·have a9:(f.index.frames==s.frames)=true:=(by rw[beq_iff_eq];exact K);by_cases L:f.index.rows=s.rows
   ·have bb:(f.index.rows==s.rows)=true:=(by rw[beq_iff_eq];exact L);have E:F (R=decide (f.index.entries.map Ent.tup=s.ents.map Ent.tup)):=by
     show _=_;rw[D.out];simp[J,K,L]
    rw[<-E.out] at Q;clear D E J K L;go_enter func46,ntmps46;go_wp2_with fail;rw[Z.out];go_quiet ((go_at_call 68;exact Calls.quiet_of (Q.out _)));go_wp2;go_ret;exact⟨rfl,below_drewN X.out _⟩
   ·have bb:(f.index.rows==s.rows)=false:=(by rw[AM];exact L);have E:F (R=wx):=(by show _=_;rw[D.out];exact AD (fun V=>L V.2.2.1));clear D J K L Q;go_enter func46,ntmps46;go_wp2_with fail;rw[Z.out];go_quiet (fail);go_wp2;go_ret;rw[E.out];exact⟨rfl,below_drewN X.out _⟩
  ·have a9:(f.index.frames==s.frames)=false:=(by rw[AM];exact K);have E:F (R=wx):=(by show _=_;rw[D.out];exact AD (fun V=>K V.2.1));clear D J K Q;go_enter func46,ntmps46;go_wp2_with fail;rw[Z.out];go_quiet (fail);go_wp2;go_ret;rw[E.out];exact⟨rfl,below_drewN X.out _⟩
 ·have a8:(f.index.at_==pl)=false:=by rw[AM];exact J
  have E:F (R=wx):=by show _=_;rw[D.out];exact AD (fun V=>J V.1)
  clear D J Q;go_enter func46,ntmps46;go_wp2_with fail;rw[Z.out];go_quiet (fail);go_wp2;go_ret;rw[E.out];exact⟨rfl,below_drewN X.out _⟩
theorem tW(h:au w B a M n v g s G)(f:Fr)(u:AV)(y:cg w u f)(pl:Int)(E:Fr.err f=0):
  Calls AW 46 #[mE (C ⟨a,0,O⟩),.agg u,I U pl] w fun e w'=>e=qz (mx (Sc.follows s f pl))∧AX w.1.size w w':=by
 obtain⟨A,-,D⟩:=Sc.err_parts E;rcases D with o | o | o
 ·exact rK h f o u y pl (A o).1.1
 ·exact rJ h f o u y pl
 ·exact rI h f o u y pl
end
end
section
open Go.RowKit Go.Maps
section
variable {w:World} {B a M n:Nat} {v:Value} {g:Int->Option Value} {s:Wk} {G:Nat->Prop}
theorem au.more(h:au w B a M n v g s G){n':Nat}(D:n<=n'):au w B a M n' v g s G:=by
 obtain⟨o,y,A⟩:=h.map.out;exact⟨h.lies,⟨o,y.mono D,A⟩,h.ents,h.base,h.good,h.low,h.off,h.sch⟩
theorem cM.put{s':Wk}{i:Nat}{x:Value}{v':Value}{o:Int->Option Value}(J:au w1 B a M n v' o s G)(y:Aside (bz a M v) w w1)(L:∀i,v'.ownBlock=C i->v.ownBlock=C i∨w.1.size<=i)(A:bL M s' v'=(bL M s v').setIfInBounds i x)(K:s'.sch=s.sch)(D:s'.ents=s.ents)(E:Sc.Good s'):cM w (w1.setCell ⟨a,i,O⟩ x) B a M n v s' G :=
 ⟨v',o,J.put i x A K D E,y.setCell (p:=⟨a,i,O⟩) (.inl (.inl rfl)) x,L⟩
theorem xW(h:au w B a M n v g s G)(f:Fr)(A:f.kind=1)(ak:f.wf)(u:AV)(a9:cg w u f)(pl:Int)(aj:Sc.may s f pl=true)(bq:n<1000000000):
  Calls AW 47 #[mE (C ⟨a,0,O⟩),.agg u,I U pl] w fun e w'=>e=qz (.tuple #[])∧cM w w' B a M (n+1) v (Sc.take s f pl) G:=by
 obtain⟨sp,L,V,S,Z,X,rfl,be,bs,bi,-⟩:=a9.out;unfold aG;obtain⟨bc,a8,bb⟩:=Sc.may_parts aj;obtain⟨a6,-,-⟩:=Sc.err_parts a8;obtain⟨a4,a5⟩:=a6 A;obtain⟨D,E⟩:∃D,D=w.alloc (N #[I U 1,I U f.number,Y sp f.cols.length L,I U f.seq,I U f.first,I U f.rows,Y V f.block.length S,I U f.index.at_,I U f.index.frames,I U f.index.rows,Y Z f.index.entries.length X] 52):=⟨_,rfl⟩;have J:AX w.1.size w D:=by rw[E];exact gQy
 have a3:F (w.alloc (N #[I U 1,I U f.number,Y sp f.cols.length L,I U f.seq,I U f.first,I U f.rows,Y V f.block.length S,I U f.index.at_,I U f.index.frames,I U f.index.rows,Y Z f.index.entries.length X] 52)=D):=E.symm;have a2:=gQq (yc (h.on J) f.number f.cols sp L pl a4 (Sc.follows_sch A bb) bc a5 ak.2.2.1 be (bi.on J) bq);have ah:=am w (N #[I U 1,I U f.number,Y sp f.cols.length L,I U f.seq,I U f.first,I U f.rows,Y V f.block.length S,I U f.index.at_,I U f.index.frames,I U f.index.rows,Y Z f.index.entries.length X] 52);rw[<-E] at ah;have a1:=gQq ah;have a0:=gQq J;have bT:=h.lt;have bn:¬bz a M v w.1.size:=fun y=>by
  rcases y with y | y | y
  ·omega
  ·have:=h.map.lt;omega
  ·have:=(h.ents.lt _ y).2;omega
 have o:F (Sc.take s f pl={ Sc.learn s f.number f.cols pl with closed:=wx }):=by
  show _=_;unfold Sc.take;rw[AK A]
 have Q:F (Sc.Good (Sc.take s f pl)):=Sc.good_take h.good ak aj;obtain⟨aw,bj⟩:∃aw,aw=Sc.take s f pl:=⟨_,rfl⟩;rw[<-bj] at o Q ⊢;rw[A];clear h a9 ak aj bc a8 bb a6 a4 a5 E J ah be bs bi bj A;go_enter func47,ntmps47;go_wp2_with fail;rw[a3.out];refine a2.out.mono ?_;rintro e w1 ⟨rfl,v',bO,K,ab,bk⟩;have a7:=(ab.block _ (ao a1.out) bn).trans a1.out;have bX:w1.cell? ⟨w.1.size,0,O⟩=C (I U 1):=aa a7 0;have bv:w1.cell? ⟨a,6,O⟩=C (mx (Sc.learn s f.number f.cols pl).closed):=K.cell 6;have bN:=K.thawed 6;have bl:F (cM w (w1.setCell ⟨a,6,O⟩ (mx wx)) B a M (n+1) v aw G):=cM.put K ((af a0.out _).trans ab (fun _ _ h=>h)) (fun i bp=>(bk i bp).imp id (fun h=>AG a0.out.size h)) (by rw[o.out];rfl) (by rw[o.out]) (by rw[o.out]) Q.out;clear K ab bk a7 a2 a3 o Q;go_wp2;go_end0;exact⟨rfl,bl.out⟩
theorem xU(h:au w B a M n v g s G)(f:Fr)(A:f.kind=3)(u:AV)(y:cg w u f)(pl:Int):
  Calls AW 47 #[mE (C ⟨a,0,O⟩),.agg u,I U pl] w fun e w'=>e=qz (.tuple #[])∧cM w w' B a M (n+1) v (Sc.take s f pl) G:=by
 obtain⟨sp,ab,L,K,V,S,rfl,-⟩:=y.out;unfold aG;have E:F (Sc.take s f pl={ s with closed:=true }):=by
  show _=_;unfold Sc.take;rw[AJ (by omega),AJ (by omega)]
 have D:F (∀o,cM w ((w.setCell ⟨a,6,O⟩ (mx true)).alloc o) B a M (n+1) v (Sc.take s f pl) G):=fun o=>by
  rw[E.out];exact⟨v,g,(((h.put 6 (mx true) (s':={ s with closed:=true }) rfl rfl rfl (Sc.good_closed h.good true)).more (Nat.le_succ n)).on (gQz.alloc gQx o)),((Aside.refl (bz a M v) w).setCell (p:=⟨a,6,O⟩) (.inl (.inl rfl)) _).alloc o,fun i J=>.inl J⟩
 have Q:w.cell? ⟨a,6,O⟩=C (mx s.closed):=h.cell 6;have X:=h.thawed 6;have Z:=h.lt;rw[A];clear h y A;go_enter func47,ntmps47;go_wp2;go_end0;exact⟨rfl,D.out _⟩
theorem xV(h:au w B a M n v g s G)(f:Fr)(K:f.kind=2)(cc:f.wf)(u:AV)(bj:cg w u f)(pl:Int)(bk:Sc.may s f pl=true)(cs:B<=w.1.size):
  Calls AW 47 #[mE (C ⟨a,0,O⟩),.agg u,I U pl] w fun e w'=>e=qz (.tuple #[])∧cM w w' B a M (n+1) v (Sc.take s f pl) G:=by
 have ak:=bj;obtain⟨sp,bn,a5,a4,a8,a7,rfl,-⟩:=bj.out;obtain⟨bl,b4,b5⟩:=Sc.may_parts bk;obtain⟨-,a6,-⟩:=Sc.err_parts b4;obtain⟨ck,a3,Z,bT⟩:=a6 K;obtain⟨cn,bX,b0⟩:=Sc.follows_data K b5;unfold aG at ak ⊢;rw[K] at ak;obtain⟨E,aj⟩:∃E,E=w.alloc (N #[I U 2,I U f.number,Y sp f.cols.length bn,I U f.seq,I U f.first,I U f.rows,Y a5 f.block.length a4,I U f.index.at_,I U f.index.frames,I U f.index.rows,Y a8 f.index.entries.length a7] 52):=⟨_,rfl⟩;have S:AX w.1.size w E:=by rw[aj];exact gQy
 have ci:F (w.alloc (N #[I U 2,I U f.number,Y sp f.cols.length bn,I U f.seq,I U f.first,I U f.rows,Y a5 f.block.length a4,I U f.index.at_,I U f.index.frames,I U f.index.rows,Y a8 f.index.entries.length a7] 52)=E):=aj.symm;have a2:=gQq (ye (h.on S) f _ (ak.on S) pl bl a3 Z (AG cs S.size));have bi:=am w (N #[I U 2,I U f.number,Y sp f.cols.length bn,I U f.seq,I U f.first,I U f.rows,Y a5 f.block.length a4,I U f.index.at_,I U f.index.frames,I U f.index.rows,Y a8 f.index.entries.length a7] 52);rw[<-aj] at bi;have D:=gQq bi;have bs:=gQq S;have c6:=h.lt;have be:¬bz a M v w.1.size:=fun V=>by
  rcases V with V | V | V
  ·omega
  ·have:=h.map.lt;omega
  ·have:=(h.ents.lt _ V).2;omega
 have X:F (Sc.take s f pl={ Sc.count (Sc.enter s f pl) f with closed:=wx }):=by
  show _=_;unfold Sc.take;rw[AJ (by omega),AK K]
 have bv:F (Sc.Good (Sc.take s f pl)):=Sc.good_take h.good cc bk;have ab:=Sc.enter_same s f pl;have ah:=Sc.good_enter h.good f pl bl Z;obtain⟨o,b8⟩:∃o,o=Sc.enter s f pl:=⟨_,rfl⟩;rw[<-b8] at a2 X ab ah;obtain⟨bp,b9⟩:∃bp,bp=Sc.take s f pl:=⟨_,rfl⟩;rw[<-b9] at X bv ⊢;rw[K];have b6:0<=o.frames∧o.frames<1099511627776:=by rw[ab.2.2.2.1,<-bX];exact a3
 have b7:0<=o.rows∧o.rows<1099511627776:=by rw[ab.2.2.2.2.1,<-b0];exact Z
 have c8:0<=o.since∧o.since<1099511627776:=by have:=ah.since;omega
 have y:=gQq ah;clear h bj ak cc bk bl b4 b5 a6 ck a3 Z cn bX b0 aj S bi b9 b8 K ab ah;go_enter func47,ntmps47;go_wp2_with fail;rw[ci.out];refine a2.out.mono ?_;rintro e w1 ⟨rfl,v',b1,aw,a9,cb⟩;have cu:=(a9.block _ (ao D.out) be).trans D.out;have c3:w1.cell? ⟨a,3,O⟩=C (I U o.frames):=aw.cell 3;have cp:=aw.thawed 3;have Q:au (w1.setCell ⟨a,3,O⟩ (I U (o.frames+1))) B a M n v' b1 { o with frames:=o.frames+1 } G:=aw.put 3 _ rfl rfl rfl ⟨y.out.number,by have:=y.out.since;exact⟨by dsimp only;omega,by dsimp only;omega⟩,by dsimp only;omega,y.out.rows,y.out.ents,y.out.entsOk,y.out.known,y.out.has⟩;obtain⟨L,a0⟩:∃L,L=w1.setCell ⟨a,3,O⟩ (I U (o.frames+1)):=⟨_,rfl⟩;have bb:Aside (bz a M v) E L:=by rw[a0];exact a9.setCell (p:=⟨a,3,O⟩) (.inl (.inl rfl)) _
 have cj:=gQq a0;rw[<-a0] at Q;have b2:=(bb.block _ (ao D.out) be).trans D.out;have cw:L.cell? ⟨w.1.size,5,O⟩=C (I U f.rows):=aa b2 5;have co:L.cell? ⟨a,4,O⟩=C (I U o.rows):=Q.cell 4;have cq:=Q.thawed 4;have bN:=gQq Q;have bq:=gQq bb;have bO:=gQq cb;clear aw a9 cb cu a2 b2 Q bb a0;go_wp2_with fail;rw[<-cj.out]
 go_region
 obtain⟨A,a1⟩:∃A,A=(L.setCell ⟨a,4,O⟩ (I U (o.rows+f.rows))).drew:=⟨_,rfl⟩;rw[<-a1];have J:au A B a M n v' b1 { o with frames:=o.frames+1,rows:=o.rows+f.rows } G:=by
  rw[a1];refine(bN.out.put 4 (I U (o.rows+f.rows)) (s':={ o with frames:=o.frames+1,rows:=o.rows+f.rows }) rfl rfl rfl ?_).on gQz.drew;exact⟨y.out.number,by have:=y.out.since;exact⟨by dsimp only;omega,by dsimp only;omega⟩,by dsimp only;omega,⟨by dsimp only;omega,by dsimp only;omega⟩,y.out.ents,y.out.entsOk,y.out.known,y.out.has⟩
 have bc:Aside (bz a M v) E A:=by rw[a1];exact(bq.out.setCell (p:=⟨a,4,O⟩) (.inl (.inl rfl)) _).drew
 have a6:A.cell? ⟨a,2,O⟩=C (I U o.since):=J.cell 2;have cy:=J.thawed 2;have cx:A.cell? ⟨a,6,O⟩=C (mx o.closed):=J.cell 6;have c5:=J.thawed 6;have b3:=(bc.block _ (ao D.out) be).trans D.out;have z0:A.cell? ⟨w.1.size,0,O⟩=C (I U 2):=aa b3 0;have c7:¬w.1.size=a:=by omega
 have cd:F (cM w ((A.setCell ⟨a,2,O⟩ (I U (o.since+1))).setCell ⟨a,6,O⟩ (mx wx)) B a M (n+1) v bp G):=by
  have cr:=(J.put 2 (I U (o.since+1)) (s':=Sc.count o f) rfl rfl rfl (Sc.good_count y.out f b6.2 b7.2 bT)).more (Nat.le_succ n);have ct:Aside (bz a M v) w (A.setCell ⟨a,2,O⟩ (I U (o.since+1))):=((af bs.out _).trans bc (fun _ _ h=>h)).setCell (p:=⟨a,2,O⟩) (.inl (.inl rfl)) _;rw[X.out];exact cM.put cr ct (fun i cv=>(bO.out i cv).imp id (fun h=>AG bs.out.size h)) rfl rfl rfl (Sc.good_closed (Sc.good_count y.out f b6.2 b7.2 bT) wx)
 clear J bc b3 a1 bN bq bO X bv cw co cq c3 cp;go_wp2;go_end0;exact⟨rfl,cd.out⟩
theorem zm(h:au w B a M n v g s G)(f:Fr)(D:f.wf)(u:AV)(y:cg w u f)(pl:Int)(A:Sc.may s f pl=true)(K:n<1000000000)(J:B<=w.1.size):
  Calls AW 47 #[mE (C ⟨a,0,O⟩),.agg u,I U pl] w fun e w'=>e=qz (.tuple #[])∧cM w w' B a M (n+1) v (Sc.take s f pl) G:=by
 obtain⟨-,-,E⟩:=Sc.err_parts (Sc.may_parts A).2.1;rcases E with o | o | o
 ·exact xW h f o D u y pl A K
 ·exact xV h f o D u y pl A J
 ·exact xU h f o u y pl
end
end
section
open Go.RowKit Go.Maps
section
variable {w:World} {B a M n:Nat} {v:Value} {g:Int->Option Value} {s:Wk} {G:Nat->Prop}
theorem cM.same(h:au w B a M n v g s G)(hb:AX w.1.size w w1):cM w w1 B a M (n+1) v s G:=⟨v,g,(h.on hb).more (Nat.le_succ n),af hb _,fun _ o=>.inl o⟩
theorem tT(h:au w B a M n v g s G)(f:Fr)(cc:f.wf)(u:AV)(bq:cg w u f)(pl:Int)(b9:Hv w)(cq:n<1000000000)(cn:B<=w.1.size):
  Calls AW 30 #[mE (C ⟨a,0,O⟩),.agg u,I U pl] w fun e w'=>e=qz (I U (if Sc.may s f pl=true then 0 else 143))∧cM w w' B a M (n+1) v (Sc.next s f pl) G:=by
 have bs:=bq;obtain⟨sp,bb,a4,a3,a6,a5,rfl,-⟩:=bq.out;unfold aG at bs ⊢;obtain⟨y,X⟩:∃y,y=(w.alloc (N #[I U f.kind,I U f.number,Y sp f.cols.length bb,I U f.seq,I U f.first,I U f.rows,Y a4 f.block.length a3,I U f.index.at_,I U f.index.frames,I U f.index.rows,Y a6 f.index.entries.length a5] 52)).alloc (N #[I U pl] 2):=⟨_,rfl⟩;have b2:AX w.1.size w y:=by rw[X];exact gQy.alloc (by simp) _
 have d5:y.1.size=w.1.size+2:=by rw[X];simp
 have b3:y.1[w.1.size]?=C (N #[I U f.kind,I U f.number,Y sp f.cols.length bb,I U f.seq,I U f.first,I U f.rows,Y a4 f.block.length a3,I U f.index.at_,I U f.index.frames,I U f.index.rows,Y a6 f.index.entries.length a5] 52):=by
  rw[X,ax _ _ (by simp)];exact am w _
 have b5:y.1[w.1.size+1]?=C (N #[I U pl] 2):=by
  rw[X];have:=am (w.alloc (N #[I U f.kind,I U f.number,Y sp f.cols.length bb,I U f.seq,I U f.first,I U f.rows,Y a4 f.block.length a3,I U f.index.at_,I U f.index.frames,I U f.index.rows,Y a6 f.index.entries.length a5] 52)) (N #[I U pl] 2);simpa using this
 have bX:F ((w.alloc (N #[I U f.kind,I U f.number,Y sp f.cols.length bb,I U f.seq,I U f.first,I U f.rows,Y a4 f.block.length a3,I U f.index.at_,I U f.index.frames,I U f.index.rows,Y a6 f.index.entries.length a5] 52)).alloc (N #[I U pl] 2)=y):=X.symm;have V:=gQq (xR (w.1.size+1) 1 [pl] (by simp) y (fun j cp=>by
  obtain rfl:j=0:=by simpa using cp
  exact aa b5 0))
 have ab:=gQq h;have A:=gQq b2;have bO:=gQq b3;have bc:=gQq bs;have b0:=gQq cc;have E:F (Sc.may s f pl=(Fr.within Fr.S pl&&decide (Fr.err f=0)&&Sc.follows s f pl)):=rfl;have o:F (Sc.next s f pl=if Sc.may s f pl=true then Sc.take s f pl else s):=rfl;obtain⟨Z,b8⟩:∃Z,Z=Sc.next s f pl:=⟨_,rfl⟩;obtain⟨cd,bN⟩:∃cd:Int,cd=if Sc.may s f pl=true then 0 else 143:=⟨_,rfl⟩;rw[<-b8] at o ⊢;rw[<-bN];have a2:=gQq bN;have cj:=gQq b9;clear h bq bs cc X b2 b3 b5 b8 b9 bN;by_cases a8:Fr.within Fr.S pl=true
 ·have aj:[pl].all (Fr.within Fr.S)=true:=by simp[a8]
  rw[aj] at V;have a0:=gQq (qp f b0.out _ y (cj.out.next A.out) (bc.out.on A.out));obtain⟨cs,ct,cv,cw,cx,cy,c5,c6,c7,c8,cu⟩:=cf bO.out;obtain⟨bj,bp⟩:∃bj,bj=Fr.err f:=⟨_,rfl⟩;rw[<-bp] at a0;have a1:=gQq bp;clear aj bp;go_enter func30,ntmps30;go_wp2_with fail;rw[bX.out];refine V.out.mono ?_;rintro e w' ⟨rfl,ak⟩;rw[ak];clear ak w' V;go_wp2_with fail;refine a0.out.mono ?_;rintro e w1 (⟨a9,q,cap,rfl,-,L⟩ | ⟨a9,rfl,L⟩)
  ·have aw:=gQq (A.out.trans (L.mono A.out.size));have bn:Fr.err f=0:=(by rw[<-a1.out];exact a9);have bl:=(L.block _ (by omega)).trans bO.out;obtain⟨c9,df,dr,ds,du,dv,d0,d1,d2,d3,dj⟩:=cf bl;have be:=gQq (tW (ab.out.on aw.out) f _ (bc.out.on aw.out) pl bn);obtain⟨a7,b6⟩:∃a7,a7=Sc.follows s f pl:=⟨_,rfl⟩;rw[<-b6] at be E;have ah:F (Sc.may s f pl=a7):=by
    show _=_;rw[E.out,a8,AE bn];rfl
   have ci:=gQq bl;have d6:=L.size;clear L bl b6 bn a0 E a1 cs ct cv cw cx cy c5 c6 c7 c8 cu;go_wp2_with fail;refine be.out.mono ?_;rintro e d7 ⟨rfl,bk⟩;have Q:=gQq (aw.out.trans (bk.mono aw.out.size));have b4:=(bk.block _ (by omega)).trans ci.out;obtain⟨z0,z1,z2,z3,z4,d9,ea,eb,ec,eg,d8⟩:=cf b4;clear bk b4 be c9 df dr ds du dv d0 d1 d2 d3 dj;cases a7 with
   |false=>
    have J:=gQq (cM.same ab.out Q.out);have D:F (Z=s):=(by show _=_;rw[o.out,ah.out];rfl);clear o;go_wp2;go_ret;rw[D.out,a2.out,ah.out];exact⟨rfl,J.out⟩
   |true=>
    have bT:=gQq (zm (ab.out.on Q.out) f b0.out _ (bc.out.on Q.out) pl ah.out cq (AG cn Q.out.size));have D:F (Z=Sc.take s f pl):=(by show _=_;rw[o.out,ah.out];rfl);clear o;go_wp2_with fail;refine bT.out.mono ?_;rintro e cr ⟨rfl,v',ck,b7,b1,cb⟩;have J:F (cM w cr B a M (n+1) v (Sc.take s f pl) G):=⟨v',ck,b7,(af Q.out _).trans b1 (fun _ _ h=>h),fun i co=>(cb i co).imp id (fun h=>AG Q.out.size h)⟩;clear b7 b1 cb bT;go_wp2;go_ret;rw[D.out,a2.out,ah.out];exact⟨rfl,J.out⟩
  ·have J:=gQq (cM.same ab.out (A.out.trans (L.mono A.out.size)));have d4:((bj:Int) != 0)=true:=(by rw[bne_iff_ne];omega);have K:Sc.may s f pl=false:=by
    rw[E.out,AD (by rw[<-a1.out];exact a9)];simp
   have D:F (Z=s):=(by show _=_;rw[o.out,K];rfl);have bi:=gQq K;clear L a0 a9 o E K a1;go_wp2;go_ret;rw[D.out,a2.out,bi.out];exact⟨rfl,J.out⟩
 ·have bv:Fr.within Fr.S pl=false:=by simpa using a8
  have aj:[pl].all (Fr.within Fr.S)=false:=by simp[bv]
  rw[aj] at V;have J:=gQq (cM.same ab.out A.out);have K:Sc.may s f pl=false:=by rw[E.out,bv];rfl
  have D:F (Z=s):=by show _=_;rw[o.out,K];rfl
  have bi:=gQq K;clear aj bv a8 o E K;go_enter func30,ntmps30;go_wp2_with fail;rw[bX.out];refine V.out.mono ?_;rintro e w' ⟨rfl,ak⟩;rw[ak];clear ak w' V;go_wp2;go_ret;rw[D.out,a2.out,bi.out];exact⟨rfl,J.out⟩
end
end
end Go.Proofs.YtngmnfdaedlodaaGreatDoor

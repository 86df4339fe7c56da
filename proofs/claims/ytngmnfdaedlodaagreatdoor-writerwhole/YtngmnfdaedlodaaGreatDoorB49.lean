import Derived.Test.YtngmnfdaedlodaaGreatDoorC7
import Derived.Test.YtngmnfdaedlodaaGreatDoorC6
import Derived.Test.YtngmnfdaedlodaaGreatDoorB22
set_option maxRecDepth 100000
set_option maxHeartbeats 4000000
namespace Go.Proofs.YtngmnfdaedlodaaGreatDoor
open Go.Proofs.Tryz
open Go.Value renaming int->I,slice->Y,bool->qz,pointer->qq
open Go.IntKind renaming i64->U
open Option renaming none->O,some->C
open Go.RowKit renaming Hid->F,Below->AC
open Go.Obj renaming cells->N
open Go.Proofs.Tryz renaming prog->AE
open Bool renaming false->AK
open Go.Ending renaming returned->wv
variable{w1:World}
section
open Go.RowKit Go.Maps
section
variable {w:World} {B a M n:Nat} {v:Value} {g:Int->Option Value} {s:Wk} {G:Nat->Prop}
theorem rQ(h:av w B a M n v g s G)(f:Fr)(ah:f.kind=1)(u:AV)(a6:cm w u f)(pl:Int)(b0:0<=f.number):
  Calls AE 46 #[qq (C ⟨a,0,O⟩),.agg u,I U pl] w fun e w'=>e=wv (qz (Sc.follows s f pl))∧AC w.1.size w w':=by
 obtain⟨sp,A,a2,a1,a4,a3,rfl,a8,bi,a9,-⟩:=a6.out;unfold aF;obtain⟨o,S⟩:∃o,o=w.alloc (N #[I U 1,I U f.number,Y sp f.cols.length A,I U f.seq,I U f.first,I U f.rows,Y a2 f.block.length a1,I U f.index.at_,I U f.index.frames,I U f.index.rows,Y a4 f.index.entries.length a3] 52):=⟨_,rfl⟩;have V:AC w.1.size w o:=by rw[S];exact gQy
 have X:=an w (N #[I U 1,I U f.number,Y sp f.cols.length A,I U f.seq,I U f.first,I U f.rows,Y a2 f.block.length a1,I U f.index.at_,I U f.index.frames,I U f.index.rows,Y a4 f.index.entries.length a3] 52);rw[<-S] at X;have bk:o.cell? ⟨w.1.size,1,O⟩=C (I U f.number):=aa X 1;have aj:o.cell? ⟨w.1.size,2,O⟩=C (Y sp f.cols.length A):=aa X 2;have Z:F (w.alloc (N #[I U 1,I U f.number,Y sp f.cols.length A,I U f.seq,I U f.first,I U f.rows,Y a2 f.block.length a1,I U f.index.at_,I U f.index.frames,I U f.index.rows,Y a4 f.index.entries.length a3] 52)=o):=S.symm;have E:=h.on V;have c0:o.cell? ⟨a,0,O⟩=C (.map (C M)):=E.cell 0;have c1:o.cell? ⟨a,1,O⟩=C (I U s.number):=E.cell 1;have b1:=h.good.number;have ak:=gQq V;obtain⟨R,ab⟩:∃R,R=Sc.follows s f pl:=⟨_,rfl⟩;have K:F (R=if f.number=s.number then Sch.same f.cols (Sc.schAt s s.number) else decide (f.number=s.number+1)):=by
  show _=_;rw[ab];unfold Sc.follows;rw[AG ah]
 rw[<-ab,ah];by_cases y:f.number=s.number
 ·obtain⟨k,a7⟩:=h.good.has (by omega);obtain⟨p,c,bb,bN,bO,bc⟩:=E.known a7;have a0:F (∀w',AC o.1.size o w'->(Instr.lookup 77 (.map (C M)) (I U s.number) AK).run AE w'=.ok (.agg #[Y p k.cols.length c,I U k.place]) w'):=fun w' hb=>by
   have:=(E.on hb).map.look (m:=s.number) ⟨by omega,by omega⟩;rw[bb] at this;exact this
  have aw:F ((∀w',AC o.1.size o w'->w'.cell? ⟨a,0,O⟩=C (.map (C M)))∧(∀w',AC o.1.size o w'->w'.cell? ⟨a,1,O⟩=C (I U s.number))∧(∀w',AC o.1.size o w'->w'.cell? ⟨w.1.size,2,O⟩=C (Y sp f.cols.length A))):=⟨fun w' hb=>ae hb c0,fun w' hb=>ae hb c1,fun w' hb=>ae hb aj⟩;have bX:=lL p k.cols.length c k.place;have bq:F (∀w',AC o.1.size o w'->Calls AE 67 #[.agg #[Y sp f.cols.length A],.agg #[Y p k.cols.length c]] w' fun e bj=>e=wv (qz R)∧AC o.1.size o bj):=fun w' hb=>by
   have Q:=td f.cols k.cols sp p A c w' a8 ((a9.on V).on hb) (bc.on hb);have bT:R=Sch.same f.cols k.cols:=by
    rw[K.out,AG y];unfold Sc.schAt;rw[a7]
   rw[bT];exact Q.mono fun e bj ⟨bs,bv⟩=>⟨bs,hb.trans (bv.mono hb.size)⟩
  rw[y] at bk;have be:(s.number==s.number)=true:=by simp
  rw[y] at Z;rw[y];clear h a6 S V X E ab K a8 bi a9 bb bN bO bc a7 ah y;go_enter func46,ntmps46;go_wp2_with fail;rw[Z.out];go_quiet (fail);go_wp2_with fail;obtain⟨L,a5⟩:∃L,L=o.drewN nq:=⟨_,rfl⟩;have D:AC o.1.size o L:=by rw[a5];exact below_drewN gQz _
  rw[<-a5];have b2:=ae D c0;have b3:=ae D c1;have b4:=ae D aj;have b6:=a0.out L D;have b5:=a0.out L.drew D.drew;have bl:=gQq D;clear a5 D Z be c0 c1 bk aj
  go_region_held3 (fun w'=>w'.cell? ⟨a,0,O⟩=C (.map (C M))∧w'.cell? ⟨a,1,O⟩=C (I U s.number)∧w'.cell? ⟨w.1.size,2,O⟩=C (Y sp f.cols.length A)∧(Instr.lookup 77 (.map (C M)) (I U s.number) AK).run AE w'=.ok (.agg #[Y p k.cols.length c,I U k.place]) w') (go_keep) (first|(go_at_call 67;refine(bq.out _ bl.out.drew).mono ?_;rintro e ai ⟨rfl,J⟩;have z0:=aw.out.1 ai J;have z1:=aw.out.2.1 ai J;have z2:=aw.out.2.2 ai J;have b7:=a0.out ai J;have bn:=gQq J;clear J)|fail)
  go_wp2;go_ret;exact⟨rfl,ak.out.trans (bn.out.mono ak.out.size)⟩
 ·have be:(f.number==s.number)=false:=by rw[BQ];exact y
  rw[AF y] at K;have bp:F (R=(f.number==s.number+1)):=by
   show _=_;rw[K.out];by_cases Q:f.number=s.number+1
   ·rw[Q];simp
   ·rw[AP Q];symm;rw[BQ];exact Q
  clear h a6 S V X E ab K a8 bi a9 ah y aj c0;go_enter func46,ntmps46;go_wp2_with fail;rw[Z.out];go_quiet (fail);go_wp2_with fail;go_quiet (fail);go_wp2;go_ret;rw[bp.out];exact⟨rfl,below_drewN (below_drewN ak.out _) _⟩
theorem rP(h:av w B a M n v g s G)(f:Fr)(aw:f.kind=2)(u:AV)(a1:cm w u f)(pl:Int):
  Calls AE 46 #[qq (C ⟨a,0,O⟩),.agg u,I U pl] w fun e w'=>e=wv (qz (Sc.follows s f pl))∧AC w.1.size w w':=by
 obtain⟨sp,a0,ab,Z,ai,ah,rfl,-⟩:=a1.out;unfold aF;obtain⟨o,S⟩:∃o,o=w.alloc (N #[I U 2,I U f.number,Y sp f.cols.length a0,I U f.seq,I U f.first,I U f.rows,Y ab f.block.length Z,I U f.index.at_,I U f.index.frames,I U f.index.rows,Y ai f.index.entries.length ah] 52):=⟨_,rfl⟩;have ak:AC w.1.size w o:=by rw[S];exact gQy
 have J:=an w (N #[I U 2,I U f.number,Y sp f.cols.length a0,I U f.seq,I U f.first,I U f.rows,Y ab f.block.length Z,I U f.index.at_,I U f.index.frames,I U f.index.rows,Y ai f.index.entries.length ah] 52);rw[<-S] at J;have a4:o.cell? ⟨w.1.size,1,O⟩=C (I U f.number):=aa J 1;have a5:o.cell? ⟨w.1.size,3,O⟩=C (I U f.seq):=aa J 3;have a6:o.cell? ⟨w.1.size,4,O⟩=C (I U f.first):=aa J 4;have X:F (w.alloc (N #[I U 2,I U f.number,Y sp f.cols.length a0,I U f.seq,I U f.first,I U f.rows,Y ab f.block.length Z,I U f.index.at_,I U f.index.frames,I U f.index.rows,Y ai f.index.entries.length ah] 52)=o):=S.symm;have L:=h.on ak;have c1:o.cell? ⟨a,1,O⟩=C (I U s.number):=L.cell 1;have c3:o.cell? ⟨a,3,O⟩=C (I U s.frames):=L.cell 3;have c4:o.cell? ⟨a,4,O⟩=C (I U s.rows):=L.cell 4;have V:=gQq ak;obtain⟨R,aj⟩:∃R,R=Sc.follows s f pl:=⟨_,rfl⟩;have A:F (R=decide (f.number=s.number∧f.seq=s.frames∧f.first=s.rows)):=by
  show _=_;rw[aj];unfold Sc.follows;rw[AF (by omega),AG aw]
 rw[<-aj,aw];clear h a1 S ak J L aj aw;by_cases y:f.number=s.number
 ·have a2:(f.number==s.number)=true:=by rw[beq_iff_eq];exact y
  by_cases D:f.seq=s.frames
  ·have a3:(f.seq==s.frames)=true:=(by rw[beq_iff_eq];exact D);have E:F (R=(f.first==s.rows)):=by
    show _=_;rw[A.out];by_cases Q:f.first=s.rows
    ·rw[AR ⟨y,D,Q⟩];symm;rw[beq_iff_eq];exact Q
    ·rw[AP (fun K=>Q K.2.2)];symm;rw[BQ];exact Q
   clear A y D;go_enter func46,ntmps46;go_wp2_with fail;rw[X.out];go_quiet (fail);go_wp2;go_ret;rw[E.out];exact⟨rfl,below_drewN V.out _⟩
  ·have a3:(f.seq==s.frames)=false:=(by rw[BQ];exact D);have E:F (R=AK):=(by show _=_;rw[A.out];exact AP (fun K=>D K.2.1));clear A y D;go_enter func46,ntmps46;go_wp2_with fail;rw[X.out];go_quiet (fail);go_wp2;go_ret;rw[E.out];exact⟨rfl,below_drewN V.out _⟩
 ·have a2:(f.number==s.number)=false:=by rw[BQ];exact y
  have E:F (R=AK):=by show _=_;rw[A.out];exact AP (fun K=>y K.1)
  clear A y;go_enter func46,ntmps46;go_wp2_with fail;rw[X.out];go_quiet (fail);go_wp2;go_ret;rw[E.out];exact⟨rfl,below_drewN V.out _⟩
theorem rO(h:av w B a M n v g s G)(f:Fr)(a5:f.kind=3)(u:AV)(a4:cm w u f)(pl:Int):
  Calls AE 46 #[qq (C ⟨a,0,O⟩),.agg u,I U pl] w fun e w'=>e=wv (qz (Sc.follows s f pl))∧AC w.1.size w w':=by
 obtain⟨sp,aw,ah,ab,A,y,rfl,-,-,-,-,-,-,a2,bb,a3⟩:=a4.out;unfold aF;obtain⟨o,ai⟩:∃o,o=(w.alloc (N #[I U 3,I U f.number,Y sp f.cols.length aw,I U f.seq,I U f.first,I U f.rows,Y ah f.block.length ab,I U f.index.at_,I U f.index.frames,I U f.index.rows,Y A f.index.entries.length y] 52)).alloc (N #[I U f.index.at_,I U f.index.frames,I U f.index.rows,Y A f.index.entries.length y] 50):=⟨_,rfl⟩;have aj:AC w.1.size w o:=by rw[ai];exact gQy.alloc (by simp) _
 have ak:=an (w.alloc (N #[I U 3,I U f.number,Y sp f.cols.length aw,I U f.seq,I U f.first,I U f.rows,Y ah f.block.length ab,I U f.index.at_,I U f.index.frames,I U f.index.rows,Y A f.index.entries.length y] 52)) (N #[I U f.index.at_,I U f.index.frames,I U f.index.rows,Y A f.index.entries.length y] 50);rw[<-ai] at ak;have a1:(w.alloc (N #[I U 3,I U f.number,Y sp f.cols.length aw,I U f.seq,I U f.first,I U f.rows,Y ah f.block.length ab,I U f.index.at_,I U f.index.frames,I U f.index.rows,Y A f.index.entries.length y] 52)).1.size=w.1.size+1:=by simp
 rw[a1] at ak;obtain⟨bj,bk,bl,bn⟩:=cQ4 ak;have Z:F ((w.alloc (N #[I U 3,I U f.number,Y sp f.cols.length aw,I U f.seq,I U f.first,I U f.rows,Y ah f.block.length ab,I U f.index.at_,I U f.index.frames,I U f.index.rows,Y A f.index.entries.length y] 52)).alloc (N #[I U f.index.at_,I U f.index.frames,I U f.index.rows,Y A f.index.entries.length y] 50)=o):=ai.symm;have S:=h.on aj;obtain⟨q,d,be,bc,a6,-⟩:=S.ents.ents;subst be;have c3:o.cell? ⟨a,3,O⟩=C (I U s.frames):=S.cell 3;have c4:o.cell? ⟨a,4,O⟩=C (I U s.rows):=S.cell 4;have bi:o.cell? ⟨a,5,O⟩=C (Y q s.ents.length d):=S.cell 5;have X:=gQq aj;obtain⟨R,a0⟩:∃R,R=Sc.follows s f pl:=⟨_,rfl⟩;have D:F (R=decide (f.index.at_=pl∧f.index.frames=s.frames∧f.index.rows=s.rows∧f.index.entries.map Ent.tup=s.ents.map Ent.tup)):=by
  show _=_;rw[a0];unfold Sc.follows;rw[AF (by omega),AF (by omega)];rfl
 have Q:F (∀m,Calls AE 68 #[Y A f.index.entries.length y,Y q s.ents.length d] (o.drewN m) fun e w'=>e=wv (qz (decide (f.index.entries.map Ent.tup=s.ents.map Ent.tup)))∧∃n,w'=(o.drewN m).drewN n):=fun m=>wK A q y d f.index.entries s.ents a2 (o.drewN m) ((a3.on aj).on (below_drewN gQz m)) (a6.on (below_drewN gQz m));rw[<-a0,a5];clear h a4 ai aj ak S a0 a5 a1 a2 bb a3 a6 bc;by_cases J:f.index.at_=pl
 ·have a7:(f.index.at_==pl)=true:=by rw[beq_iff_eq];exact J
  by_cases K:f.index.frames=s.frames
  ·have a8:(f.index.frames==s.frames)=true:=(by rw[beq_iff_eq];exact K);by_cases L:f.index.rows=s.rows
   ·have a9:(f.index.rows==s.rows)=true:=(by rw[beq_iff_eq];exact L);have E:F (R=decide (f.index.entries.map Ent.tup=s.ents.map Ent.tup)):=by
     show _=_;rw[D.out];simp[J,K,L]
    rw[<-E.out] at Q;clear D E J K L;go_enter func46,ntmps46;go_wp2_with fail;rw[Z.out];go_quiet ((go_at_call 68;exact Calls.quiet_of (Q.out _)));go_wp2;go_ret;exact⟨rfl,below_drewN X.out _⟩
   ·have a9:(f.index.rows==s.rows)=false:=(by rw[BQ];exact L);have E:F (R=AK):=(by show _=_;rw[D.out];exact AP (fun V=>L V.2.2.1));clear D J K L Q;go_enter func46,ntmps46;go_wp2_with fail;rw[Z.out];go_quiet (fail);go_wp2;go_ret;rw[E.out];exact⟨rfl,below_drewN X.out _⟩
  ·have a8:(f.index.frames==s.frames)=false:=(by rw[BQ];exact K);have E:F (R=AK):=(by show _=_;rw[D.out];exact AP (fun V=>K V.2.1));clear D J K Q;go_enter func46,ntmps46;go_wp2_with fail;rw[Z.out];go_quiet (fail);go_wp2;go_ret;rw[E.out];exact⟨rfl,below_drewN X.out _⟩
 ·have a7:(f.index.at_==pl)=false:=by rw[BQ];exact J
  have E:F (R=AK):=by show _=_;rw[D.out];exact AP (fun V=>J V.1)
  clear D J Q;go_enter func46,ntmps46;go_wp2_with fail;rw[Z.out];go_quiet (fail);go_wp2;go_ret;rw[E.out];exact⟨rfl,below_drewN X.out _⟩
theorem uf(h:av w B a M n v g s G)(f:Fr)(u:AV)(y:cm w u f)(pl:Int)(E:Fr.err f=0):
  Calls AE 46 #[qq (C ⟨a,0,O⟩),.agg u,I U pl] w fun e w'=>e=wv (qz (Sc.follows s f pl))∧AC w.1.size w w':=by
 obtain⟨A,-,D⟩:=Sc.err_parts E;rcases D with o | o | o
 ·exact rQ h f o u y pl (A o).1.1
 ·exact rP h f o u y pl
 ·exact rO h f o u y pl
end
end
section
open Go.RowKit Go.Maps
section
variable {w:World} {B a M n:Nat} {v:Value} {g:Int->Option Value} {s:Wk} {G:Nat->Prop}
theorem av.more(h:av w B a M n v g s G){n':Nat}(D:n<=n'):av w B a M n' v g s G:=by
 obtain⟨o,y,A⟩:=h.map.out;exact⟨h.lies,⟨o,y.mono D,A⟩,h.ents,h.base,h.good,h.low,h.off,h.sch⟩
theorem cM.put{s':Wk}{i:Nat}{x:Value}{v':Value}{o:Int->Option Value}(J:av w1 B a M n v' o s G)(y:Aside (bA a M v) w w1)(L:∀i,v'.ownBlock=C i->v.ownBlock=C i∨w.1.size<=i)(A:bM M s' v'=(bM M s v').setIfInBounds i x)(K:s'.sch=s.sch)(D:s'.ents=s.ents)(E:Sc.Good s'):cM w (w1.setCell ⟨a,i,O⟩ x) B a M n v s' G :=
 ⟨v',o,J.put i x A K D E,y.setCell (p:=⟨a,i,O⟩) (.inl (.inl rfl)) x,L⟩
theorem yj(h:av w B a M n v g s G)(f:Fr)(A:f.kind=1)(aj:f.wf)(u:AV)(a8:cm w u f)(pl:Int)(ai:Sc.may s f pl=true)(bp:n<1000000000):
  Calls AE 47 #[qq (C ⟨a,0,O⟩),.agg u,I U pl] w fun e w'=>e=wv (.tuple #[])∧cM w w' B a M (n+1) v (Sc.take s f pl) G:=by
 obtain⟨sp,L,V,S,Z,X,rfl,bc,bq,be,-⟩:=a8.out;unfold aF;obtain⟨bb,a7,a9⟩:=Sc.may_parts ai;obtain⟨a5,-,-⟩:=Sc.err_parts a7;obtain⟨a3,a4⟩:=a5 A;obtain⟨D,E⟩:∃D,D=w.alloc (N #[I U 1,I U f.number,Y sp f.cols.length L,I U f.seq,I U f.first,I U f.rows,Y V f.block.length S,I U f.index.at_,I U f.index.frames,I U f.index.rows,Y Z f.index.entries.length X] 52):=⟨_,rfl⟩;have J:AC w.1.size w D:=by rw[E];exact gQy
 have a2:F (w.alloc (N #[I U 1,I U f.number,Y sp f.cols.length L,I U f.seq,I U f.first,I U f.rows,Y V f.block.length S,I U f.index.at_,I U f.index.frames,I U f.index.rows,Y Z f.index.entries.length X] 52)=D):=E.symm;have a1:=gQq (yq (h.on J) f.number f.cols sp L pl a3 (Sc.follows_sch A a9) bb a4 aj.2.2.1 bc (be.on J) bp);have ah:=an w (N #[I U 1,I U f.number,Y sp f.cols.length L,I U f.seq,I U f.first,I U f.rows,Y V f.block.length S,I U f.index.at_,I U f.index.frames,I U f.index.rows,Y Z f.index.entries.length X] 52);rw[<-E] at ah;have a0:=gQq ah;have aw:=gQq J;have bO:=h.lt;have bl:¬bA a M v w.1.size:=fun y=>by
  rcases y with y | y | y
  ·omega
  ·have:=h.map.lt;omega
  ·have:=(h.ents.lt _ y).2;omega
 have o:F (Sc.take s f pl={ Sc.learn s f.number f.cols pl with closed:=AK }):=by
  show _=_;unfold Sc.take;rw[AG A]
 have Q:F (Sc.Good (Sc.take s f pl)):=Sc.good_take h.good aj ai;obtain⟨ak,bi⟩:∃ak,ak=Sc.take s f pl:=⟨_,rfl⟩;rw[<-bi] at o Q ⊢;rw[A];clear h a8 aj ai bb a7 a9 a5 a3 a4 E J ah bc bq be bi A;go_enter func47,ntmps47;go_wp2_with fail;rw[a2.out];refine a1.out.mono ?_;rintro e w1 ⟨rfl,v',bN,K,ab,bj⟩;have a6:=(ab.block _ (ap a0.out) bl).trans a0.out;have bT:w1.cell? ⟨w.1.size,0,O⟩=C (I U 1):=aa a6 0;have bs:w1.cell? ⟨a,6,O⟩=C (qz (Sc.learn s f.number f.cols pl).closed):=K.cell 6;have bv:=K.thawed 6;have bk:F (cM w (w1.setCell ⟨a,6,O⟩ (qz AK)) B a M (n+1) v ak G):=cM.put K ((af aw.out _).trans ab (fun _ _ h=>h)) (fun i bn=>(bj i bn).imp id (fun h=>AT aw.out.size h)) (by rw[o.out];rfl) (by rw[o.out]) (by rw[o.out]) Q.out;clear K ab bj a6 a1 a2 o Q;go_wp2;go_end0;exact⟨rfl,bk.out⟩
theorem yh(h:av w B a M n v g s G)(f:Fr)(A:f.kind=3)(u:AV)(y:cm w u f)(pl:Int):
  Calls AE 47 #[qq (C ⟨a,0,O⟩),.agg u,I U pl] w fun e w'=>e=wv (.tuple #[])∧cM w w' B a M (n+1) v (Sc.take s f pl) G:=by
 obtain⟨sp,ab,L,K,V,S,rfl,-⟩:=y.out;unfold aF;have E:F (Sc.take s f pl={ s with closed:=true }):=by
  show _=_;unfold Sc.take;rw[AF (by omega),AF (by omega)]
 have D:F (∀o,cM w ((w.setCell ⟨a,6,O⟩ (qz true)).alloc o) B a M (n+1) v (Sc.take s f pl) G):=fun o=>by
  rw[E.out];exact⟨v,g,(((h.put 6 (qz true) (s':={ s with closed:=true }) rfl rfl rfl (Sc.good_closed h.good true)).more (Nat.le_succ n)).on (gQz.alloc gQx o)),((Aside.refl (bA a M v) w).setCell (p:=⟨a,6,O⟩) (.inl (.inl rfl)) _).alloc o,fun i J=>.inl J⟩
 have Q:w.cell? ⟨a,6,O⟩=C (qz s.closed):=h.cell 6;have X:=h.thawed 6;have Z:=h.lt;rw[A];clear h y A;go_enter func47,ntmps47;go_wp2;go_end0;exact⟨rfl,D.out _⟩
theorem yi(h:av w B a M n v g s G)(f:Fr)(K:f.kind=2)(cb:f.wf)(u:AV)(bi:cm w u f)(pl:Int)(bj:Sc.may s f pl=true)(cr:B<=w.1.size):
  Calls AE 47 #[qq (C ⟨a,0,O⟩),.agg u,I U pl] w fun e w'=>e=wv (.tuple #[])∧cM w w' B a M (n+1) v (Sc.take s f pl) G:=by
 have aj:=bi;obtain⟨sp,bl,a4,a3,a7,a6,rfl,-⟩:=bi.out;obtain⟨bk,b3,b4⟩:=Sc.may_parts bj;obtain⟨-,a5,-⟩:=Sc.err_parts b3;obtain⟨cj,a2,Z,bO⟩:=a5 K;obtain⟨ck,bT,bX⟩:=Sc.follows_data K b4;unfold aF at aj ⊢;rw[K] at aj;obtain⟨E,ai⟩:∃E,E=w.alloc (N #[I U 2,I U f.number,Y sp f.cols.length bl,I U f.seq,I U f.first,I U f.rows,Y a4 f.block.length a3,I U f.index.at_,I U f.index.frames,I U f.index.rows,Y a7 f.index.entries.length a6] 52):=⟨_,rfl⟩;have S:AC w.1.size w E:=by rw[ai];exact gQy
 have cd:F (w.alloc (N #[I U 2,I U f.number,Y sp f.cols.length bl,I U f.seq,I U f.first,I U f.rows,Y a4 f.block.length a3,I U f.index.at_,I U f.index.frames,I U f.index.rows,Y a7 f.index.entries.length a6] 52)=E):=ai.symm;have a1:=gQq (yr (h.on S) f _ (aj.on S) pl bk a2 Z (AT cr S.size));have be:=an w (N #[I U 2,I U f.number,Y sp f.cols.length bl,I U f.seq,I U f.first,I U f.rows,Y a4 f.block.length a3,I U f.index.at_,I U f.index.frames,I U f.index.rows,Y a7 f.index.entries.length a6] 52);rw[<-ai] at be;have D:=gQq be;have bq:=gQq S;have c5:=h.lt;have bc:¬bA a M v w.1.size:=fun V=>by
  rcases V with V | V | V
  ·omega
  ·have:=h.map.lt;omega
  ·have:=(h.ents.lt _ V).2;omega
 have X:F (Sc.take s f pl={ Sc.count (Sc.enter s f pl) f with closed:=AK }):=by
  show _=_;unfold Sc.take;rw[AF (by omega),AG K]
 have bs:F (Sc.Good (Sc.take s f pl)):=Sc.good_take h.good cb bj;have ab:=Sc.enter_same s f pl;have ah:=Sc.good_enter h.good f pl bk Z;obtain⟨o,b7⟩:∃o,o=Sc.enter s f pl:=⟨_,rfl⟩;rw[<-b7] at a1 X ab ah;obtain⟨bn,b8⟩:∃bn,bn=Sc.take s f pl:=⟨_,rfl⟩;rw[<-b8] at X bs ⊢;rw[K];have b5:0<=o.frames∧o.frames<1099511627776:=by rw[ab.2.2.2.1,<-bT];exact a2
 have b6:0<=o.rows∧o.rows<1099511627776:=by rw[ab.2.2.2.2.1,<-bX];exact Z
 have c7:0<=o.since∧o.since<1099511627776:=by have:=ah.since;omega
 have y:=gQq ah;clear h bi aj cb bj bk b3 b4 a5 cj a2 Z ck bT bX ai S be b8 b7 K ab ah;go_enter func47,ntmps47;go_wp2_with fail;rw[cd.out];refine a1.out.mono ?_;rintro e w1 ⟨rfl,v',b0,ak,a8,b9⟩;have ct:=(a8.block _ (ap D.out) bc).trans D.out;have c3:w1.cell? ⟨a,3,O⟩=C (I U o.frames):=ak.cell 3;have co:=ak.thawed 3;have Q:av (w1.setCell ⟨a,3,O⟩ (I U (o.frames+1))) B a M n v' b0 { o with frames:=o.frames+1 } G:=ak.put 3 _ rfl rfl rfl ⟨y.out.number,by have:=y.out.since;exact⟨by dsimp only;omega,by dsimp only;omega⟩,by dsimp only;omega,y.out.rows,y.out.ents,y.out.entsOk,y.out.known,y.out.has⟩;obtain⟨L,aw⟩:∃L,L=w1.setCell ⟨a,3,O⟩ (I U (o.frames+1)):=⟨_,rfl⟩;have a9:Aside (bA a M v) E L:=by rw[aw];exact a8.setCell (p:=⟨a,3,O⟩) (.inl (.inl rfl)) _
 have ci:=gQq aw;rw[<-aw] at Q;have b1:=(a9.block _ (ap D.out) bc).trans D.out;have cv:L.cell? ⟨w.1.size,5,O⟩=C (I U f.rows):=aa b1 5;have cn:L.cell? ⟨a,4,O⟩=C (I U o.rows):=Q.cell 4;have cp:=Q.thawed 4;have bv:=gQq Q;have bp:=gQq a9;have bN:=gQq b9;clear ak a8 b9 ct a1 b1 Q a9 aw;go_wp2_with fail;rw[<-ci.out]
 go_region
 obtain⟨A,a0⟩:∃A,A=(L.setCell ⟨a,4,O⟩ (I U (o.rows+f.rows))).drew:=⟨_,rfl⟩;rw[<-a0];have J:av A B a M n v' b0 { o with frames:=o.frames+1,rows:=o.rows+f.rows } G:=by
  rw[a0];refine(bv.out.put 4 (I U (o.rows+f.rows)) (s':={ o with frames:=o.frames+1,rows:=o.rows+f.rows }) rfl rfl rfl ?_).on gQz.drew;exact⟨y.out.number,by have:=y.out.since;exact⟨by dsimp only;omega,by dsimp only;omega⟩,by dsimp only;omega,⟨by dsimp only;omega,by dsimp only;omega⟩,y.out.ents,y.out.entsOk,y.out.known,y.out.has⟩
 have bb:Aside (bA a M v) E A:=by rw[a0];exact(bp.out.setCell (p:=⟨a,4,O⟩) (.inl (.inl rfl)) _).drew
 have a5:A.cell? ⟨a,2,O⟩=C (I U o.since):=J.cell 2;have cx:=J.thawed 2;have cw:A.cell? ⟨a,6,O⟩=C (qz o.closed):=J.cell 6;have cy:=J.thawed 6;have b2:=(bb.block _ (ap D.out) bc).trans D.out;have z0:A.cell? ⟨w.1.size,0,O⟩=C (I U 2):=aa b2 0;have c6:¬w.1.size=a:=by omega
 have cc:F (cM w ((A.setCell ⟨a,2,O⟩ (I U (o.since+1))).setCell ⟨a,6,O⟩ (qz AK)) B a M (n+1) v bn G):=by
  have cq:=(J.put 2 (I U (o.since+1)) (s':=Sc.count o f) rfl rfl rfl (Sc.good_count y.out f b5.2 b6.2 bO)).more (Nat.le_succ n);have cs:Aside (bA a M v) w (A.setCell ⟨a,2,O⟩ (I U (o.since+1))):=((af bq.out _).trans bb (fun _ _ h=>h)).setCell (p:=⟨a,2,O⟩) (.inl (.inl rfl)) _;rw[X.out];exact cM.put cq cs (fun i cu=>(bN.out i cu).imp id (fun h=>AT bq.out.size h)) rfl rfl rfl (Sc.good_closed (Sc.good_count y.out f b5.2 b6.2 bO) AK)
 clear J bb b2 a0 bv bp bN X bs cv cn cp c3 co;go_wp2;go_end0;exact⟨rfl,cc.out⟩
theorem zD(h:av w B a M n v g s G)(f:Fr)(D:f.wf)(u:AV)(y:cm w u f)(pl:Int)(A:Sc.may s f pl=true)(K:n<1000000000)(J:B<=w.1.size):
  Calls AE 47 #[qq (C ⟨a,0,O⟩),.agg u,I U pl] w fun e w'=>e=wv (.tuple #[])∧cM w w' B a M (n+1) v (Sc.take s f pl) G:=by
 obtain⟨-,-,E⟩:=Sc.err_parts (Sc.may_parts A).2.1;rcases E with o | o | o
 ·exact yj h f o D u y pl A K
 ·exact yi h f o D u y pl A J
 ·exact yh h f o u y pl
end
end
section
open Go.RowKit Go.Maps
section
variable {w:World} {B a M n:Nat} {v:Value} {g:Int->Option Value} {s:Wk} {G:Nat->Prop}
theorem cM.same(h:av w B a M n v g s G)(hb:AC w.1.size w w1):cM w w1 B a M (n+1) v s G:=⟨v,g,(h.on hb).more (Nat.le_succ n),af hb _,fun _ o=>.inl o⟩
theorem ua(h:av w B a M n v g s G)(f:Fr)(cb:f.wf)(u:AV)(bp:cm w u f)(pl:Int)(b8:Hv w)(cp:n<1000000000)(ck:B<=w.1.size):
  Calls AE 30 #[qq (C ⟨a,0,O⟩),.agg u,I U pl] w fun e w'=>e=wv (I U (if Sc.may s f pl=true then 0 else 143))∧cM w w' B a M (n+1) v (Sc.next s f pl) G:=by
 have bq:=bp;obtain⟨sp,a9,a3,a2,a5,a4,rfl,-⟩:=bp.out;unfold aF at bq ⊢;obtain⟨y,X⟩:∃y,y=(w.alloc (N #[I U f.kind,I U f.number,Y sp f.cols.length a9,I U f.seq,I U f.first,I U f.rows,Y a3 f.block.length a2,I U f.index.at_,I U f.index.frames,I U f.index.rows,Y a5 f.index.entries.length a4] 52)).alloc (N #[I U pl] 2):=⟨_,rfl⟩;have b1:AC w.1.size w y:=by rw[X];exact gQy.alloc (by simp) _
 have d4:y.1.size=w.1.size+2:=by rw[X];simp
 have b2:y.1[w.1.size]?=C (N #[I U f.kind,I U f.number,Y sp f.cols.length a9,I U f.seq,I U f.first,I U f.rows,Y a3 f.block.length a2,I U f.index.at_,I U f.index.frames,I U f.index.rows,Y a5 f.index.entries.length a4] 52):=by
  rw[X,ay _ _ (by simp)];exact an w _
 have b4:y.1[w.1.size+1]?=C (N #[I U pl] 2):=by
  rw[X];have:=an (w.alloc (N #[I U f.kind,I U f.number,Y sp f.cols.length a9,I U f.seq,I U f.first,I U f.rows,Y a3 f.block.length a2,I U f.index.at_,I U f.index.frames,I U f.index.rows,Y a5 f.index.entries.length a4] 52)) (N #[I U pl] 2);simpa using this
 have bT:F ((w.alloc (N #[I U f.kind,I U f.number,Y sp f.cols.length a9,I U f.seq,I U f.first,I U f.rows,Y a3 f.block.length a2,I U f.index.at_,I U f.index.frames,I U f.index.rows,Y a5 f.index.entries.length a4] 52)).alloc (N #[I U pl] 2)=y):=X.symm;have V:=gQq (ye (w.1.size+1) 1 [pl] (by simp) y (fun j co=>by
  obtain rfl:j=0:=by simpa using co
  exact aa b4 0))
 have ab:=gQq h;have A:=gQq b1;have bN:=gQq b2;have bb:=gQq bq;have bX:=gQq cb;have E:F (Sc.may s f pl=(Fr.within Fr.S pl&&decide (Fr.err f=0)&&Sc.follows s f pl)):=rfl;have o:F (Sc.next s f pl=if Sc.may s f pl=true then Sc.take s f pl else s):=rfl;obtain⟨Z,b7⟩:∃Z,Z=Sc.next s f pl:=⟨_,rfl⟩;obtain⟨cc,bv⟩:∃cc:Int,cc=if Sc.may s f pl=true then 0 else 143:=⟨_,rfl⟩;rw[<-b7] at o ⊢;rw[<-bv];have a1:=gQq bv;have ci:=gQq b8;clear h bp bq cb X b1 b2 b4 b7 b8 bv;by_cases a7:Fr.within Fr.S pl=true
 ·have ai:[pl].all (Fr.within Fr.S)=true:=by simp[a7]
  rw[ai] at V;have aw:=gQq (qD f bX.out _ y (ci.out.next A.out) (bb.out.on A.out));obtain⟨cr,cs,cu,cv,cw,cx,cy,c5,c6,c7,ct⟩:=cg bN.out;obtain⟨bi,bn⟩:∃bi,bi=Fr.err f:=⟨_,rfl⟩;rw[<-bn] at aw;have a0:=gQq bn;clear ai bn;go_enter func30,ntmps30;go_wp2_with fail;rw[bT.out];refine V.out.mono ?_;rintro e w' ⟨rfl,aj⟩;rw[aj];clear aj w' V;go_wp2_with fail;refine aw.out.mono ?_;rintro e w1 (⟨a8,q,cap,rfl,-,L⟩ | ⟨a8,rfl,L⟩)
  ·have ak:=gQq (A.out.trans (L.mono A.out.size));have bl:Fr.err f=0:=(by rw[<-a0.out];exact a8);have bk:=(L.block _ (by omega)).trans bN.out;obtain⟨c8,c9,dj,dr,ds,du,dv,d0,d1,d2,df⟩:=cg bk;have bc:=gQq (uf (ab.out.on ak.out) f _ (bb.out.on ak.out) pl bl);obtain⟨a6,b5⟩:∃a6,a6=Sc.follows s f pl:=⟨_,rfl⟩;rw[<-b5] at bc E;have ah:F (Sc.may s f pl=a6):=by
    show _=_;rw[E.out,a7,AR bl];rfl
   have cd:=gQq bk;have d5:=L.size;clear L bk b5 bl aw E a0 cr cs cu cv cw cx cy c5 c6 c7 ct;go_wp2_with fail;refine bc.out.mono ?_;rintro e d6 ⟨rfl,bj⟩;have Q:=gQq (ak.out.trans (bj.mono ak.out.size));have b3:=(bj.block _ (by omega)).trans cd.out;obtain⟨z0,z1,z2,z3,z4,d8,d9,ea,eb,ec,d7⟩:=cg b3;clear bj b3 bc c8 c9 dj dr ds du dv d0 d1 d2 df;cases a6 with
   |false=>
    have J:=gQq (cM.same ab.out Q.out);have D:F (Z=s):=(by show _=_;rw[o.out,ah.out];rfl);clear o;go_wp2;go_ret;rw[D.out,a1.out,ah.out];exact⟨rfl,J.out⟩
   |true=>
    have bO:=gQq (zD (ab.out.on Q.out) f bX.out _ (bb.out.on Q.out) pl ah.out cp (AT ck Q.out.size));have D:F (Z=Sc.take s f pl):=(by show _=_;rw[o.out,ah.out];rfl);clear o;go_wp2_with fail;refine bO.out.mono ?_;rintro e cq ⟨rfl,v',cj,b6,b0,b9⟩;have J:F (cM w cq B a M (n+1) v (Sc.take s f pl) G):=⟨v',cj,b6,(af Q.out _).trans b0 (fun _ _ h=>h),fun i cn=>(b9 i cn).imp id (fun h=>AT Q.out.size h)⟩;clear b6 b0 b9 bO;go_wp2;go_ret;rw[D.out,a1.out,ah.out];exact⟨rfl,J.out⟩
  ·have J:=gQq (cM.same ab.out (A.out.trans (L.mono A.out.size)));have d3:((bi:Int) != 0)=true:=(by rw[bne_iff_ne];omega);have K:Sc.may s f pl=false:=by
    rw[E.out,AP (by rw[<-a0.out];exact a8)];simp
   have D:F (Z=s):=(by show _=_;rw[o.out,K];rfl);have be:=gQq K;clear L aw a8 o E K a0;go_wp2;go_ret;rw[D.out,a1.out,be.out];exact⟨rfl,J.out⟩
 ·have bs:Fr.within Fr.S pl=false:=by simpa using a7
  have ai:[pl].all (Fr.within Fr.S)=false:=by simp[bs]
  rw[ai] at V;have J:=gQq (cM.same ab.out A.out);have K:Sc.may s f pl=false:=by rw[E.out,bs];rfl
  have D:F (Z=s):=by show _=_;rw[o.out,K];rfl
  have be:=gQq K;clear ai bs a7 o E K;go_enter func30,ntmps30;go_wp2_with fail;rw[bT.out];refine V.out.mono ?_;rintro e w' ⟨rfl,aj⟩;rw[aj];clear aj w' V;go_wp2;go_ret;rw[D.out,a1.out,be.out];exact⟨rfl,J.out⟩
end
end
end Go.Proofs.YtngmnfdaedlodaaGreatDoor

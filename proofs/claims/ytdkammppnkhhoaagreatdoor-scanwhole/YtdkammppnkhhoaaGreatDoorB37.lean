import Derived.Test.YtdkammppnkhhoaaGreatDoorB27
import Derived.Test.YtdkammppnkhhoaaGreatDoorB35
import Derived.Test.YtdkammppnkhhoaaGreatDoorA7
set_option maxRecDepth 100000
set_option maxHeartbeats 4000000
namespace Go.Proofs.YtdkammppnkhhoaaGreatDoor
variable{w1:World}
section
open Go.RowKit Go.Maps
section
variable {w:World} {B a M n:Nat} {v:Value} {g:Int->Option Value} {s:Wk} {G:Nat->Prop}
theorem qh(h:ax w B a M n v g s G)(f:Fr)(X:f.kind=1)(u:AV)(a5:aP w u f)(pl:Int)(b0:0<=f.number):
  Calls Tryz.prog 45 #[.pointer (some ⟨a,0,none⟩),.agg u,.int .i64 pl] w fun e w'=>e=.returned (.bool (Sc.follows s f pl))∧Below w.1.size w w':=by
 obtain⟨sp,z,a1,a0,a3,a2,rfl,a7,bd,a8,-⟩:=a5.out;unfold aB;obtain⟨o,O⟩:∃o,o=w.alloc (.cells #[.int .i64 1,.int .i64 f.number,.slice sp f.cols.length z,.int .i64 f.seq,.int .i64 f.first,.int .i64 f.rows,.slice a1 f.block.length a0,.int .i64 f.index.at_,.int .i64 f.index.frames,.int .i64 f.index.rows,.slice a3 f.index.entries.length a2] 47):=⟨_,rfl⟩;have R:Below w.1.size w o:=by rw[O];exact xV
 have U:=ag w (.cells #[.int .i64 1,.int .i64 f.number,.slice sp f.cols.length z,.int .i64 f.seq,.int .i64 f.first,.int .i64 f.rows,.slice a1 f.block.length a0,.int .i64 f.index.at_,.int .i64 f.index.frames,.int .i64 f.index.rows,.slice a3 f.index.entries.length a2] 47);rw[<-O] at U;have bj:o.cell? ⟨w.1.size,1,none⟩=some (.int .i64 f.number):=aa U 1;have Z:o.cell? ⟨w.1.size,2,none⟩=some (.slice sp f.cols.length z):=aa U 2;have V:Hid (w.alloc (.cells #[.int .i64 1,.int .i64 f.number,.slice sp f.cols.length z,.int .i64 f.seq,.int .i64 f.first,.int .i64 f.rows,.slice a1 f.block.length a0,.int .i64 f.index.at_,.int .i64 f.index.frames,.int .i64 f.index.rows,.slice a3 f.index.entries.length a2] 47)=o):=O.symm;have E:=h.on R;have c0:o.cell? ⟨a,0,none⟩=some (.map (some M)):=E.cell 0;have c1:o.cell? ⟨a,1,none⟩=some (.int .i64 s.number):=E.cell 1;have b1:=h.good.number;have ah:=xX R;obtain⟨D,W⟩:∃D,D=Sc.follows s f pl:=⟨_,rfl⟩;have J:Hid (D=if f.number=s.number then Sch.same f.cols (Sc.schAt s s.number) else decide (f.number=s.number+1)):=by
  show _=_;rw[W];unfold Sc.follows;rw[if_pos X]
 rw[<-W,X];by_cases y:f.number=s.number
 ·obtain⟨k,a6⟩:=h.good.has (by omega);obtain⟨p,c,a9,bN,bO,bb⟩:=E.known a6;have ak:Hid (∀w',Below o.1.size o w'->(Instr.lookup 85 (.map (some M)) (.int .i64 s.number) false).run Tryz.prog w'=.ok (.agg #[.slice p k.cols.length c,.int .i64 k.place]) w'):=fun w' hb=>by
   have:=(E.on hb).map.look (m:=s.number) ⟨by omega,by omega⟩;rw[a9] at this;exact this
  have aj:Hid ((∀w',Below o.1.size o w'->w'.cell? ⟨a,0,none⟩=some (.map (some M)))∧(∀w',Below o.1.size o w'->w'.cell? ⟨a,1,none⟩=some (.int .i64 s.number))∧(∀w',Below o.1.size o w'->w'.cell? ⟨w.1.size,2,none⟩=some (.slice sp f.cols.length z))):=⟨fun w' hb=>ac hb c0,fun w' hb=>ac hb c1,fun w' hb=>ac hb Z⟩;have bX:=kP p k.cols.length c k.place;have bp:Hid (∀w',Below o.1.size o w'->Calls Tryz.prog 66 #[.agg #[.slice sp f.cols.length z],.agg #[.slice p k.cols.length c]] w' fun e be=>e=.returned (.bool D)∧Below o.1.size o be):=fun w' hb=>by
   have L:=vG f.cols k.cols sp p z c w' a7 ((a8.on R).on hb) (bb.on hb);have bT:D=Sch.same f.cols k.cols:=by
    rw[J.out,if_pos y];unfold Sc.schAt;rw[a6]
   rw[bT];exact L.mono fun e be ⟨bq,bs⟩=>⟨bq,hb.trans (bs.mono hb.size)⟩
  rw[y] at bj;have bc:(s.number==s.number)=true:=by simp
  rw[y] at V;rw[y];clear h a5 O R U E W J a7 bd a8 a9 bN bO bb a6 X y;go_enter Tryz.func45,Tryz.ntmps45;go_wp2_with fail;rw[V.out];go_quiet (fail);go_wp2_with fail;obtain⟨K,a4⟩:∃K,K=o.drewN nq:=⟨_,rfl⟩;have A:Below o.1.size o K:=by rw[a4];exact below_drewN xY _
  rw[<-a4];have b2:=ac A c0;have b3:=ac A c1;have b4:=ac A Z;have b6:=ak.out K A;have b5:=ak.out K.drew A.drew;have bk:=xX A;clear a4 A V bc c0 c1 bj Z
  go_region_held3 (fun w'=>w'.cell? ⟨a,0,none⟩=some (.map (some M))∧w'.cell? ⟨a,1,none⟩=some (.int .i64 s.number)∧w'.cell? ⟨w.1.size,2,none⟩=some (.slice sp f.cols.length z)∧(Instr.lookup 85 (.map (some M)) (.int .i64 s.number) false).run Tryz.prog w'=.ok (.agg #[.slice p k.cols.length c,.int .i64 k.place]) w') (go_keep) (first|(go_at_call 66;refine(bp.out _ bk.out.drew).mono ?_;rintro e Y ⟨rfl,I⟩;have b7:=aj.out.1 Y I;have b8:=aj.out.2.1 Y I;have b9:=aj.out.2.2 Y I;have cb:=ak.out Y I;have bl:=xX I;clear I)|fail)
  go_wp2;go_ret;exact⟨rfl,ah.out.trans (bl.out.mono ah.out.size)⟩
 ·have bc:(f.number==s.number)=false:=by rw[beq_eq_false_iff_ne];exact y
  rw[if_neg y] at J;have bn:Hid (D=(f.number==s.number+1)):=by
   show _=_;rw[J.out];by_cases L:f.number=s.number+1
   ·rw[L];simp
   ·rw[decide_eq_false L];symm;rw[beq_eq_false_iff_ne];exact L
  clear h a5 O R U E W J a7 bd a8 X y Z c0;go_enter Tryz.func45,Tryz.ntmps45;go_wp2_with fail;rw[V.out];go_quiet (fail);go_wp2_with fail;go_quiet (fail);go_wp2;go_ret;rw[bn.out];exact⟨rfl,below_drewN (below_drewN ah.out _) _⟩
theorem qg(h:ax w B a M n v g s G)(f:Fr)(aj:f.kind=2)(u:AV)(a0:aP w u f)(pl:Int):
  Calls Tryz.prog 45 #[.pointer (some ⟨a,0,none⟩),.agg u,.int .i64 pl] w fun e w'=>e=.returned (.bool (Sc.follows s f pl))∧Below w.1.size w w':=by
 obtain⟨sp,ak,W,V,Y,X,rfl,-⟩:=a0.out;unfold aB;obtain⟨o,O⟩:∃o,o=w.alloc (.cells #[.int .i64 2,.int .i64 f.number,.slice sp f.cols.length ak,.int .i64 f.seq,.int .i64 f.first,.int .i64 f.rows,.slice W f.block.length V,.int .i64 f.index.at_,.int .i64 f.index.frames,.int .i64 f.index.rows,.slice Y f.index.entries.length X] 47):=⟨_,rfl⟩;have ah:Below w.1.size w o:=by rw[O];exact xV
 have I:=ag w (.cells #[.int .i64 2,.int .i64 f.number,.slice sp f.cols.length ak,.int .i64 f.seq,.int .i64 f.first,.int .i64 f.rows,.slice W f.block.length V,.int .i64 f.index.at_,.int .i64 f.index.frames,.int .i64 f.index.rows,.slice Y f.index.entries.length X] 47);rw[<-O] at I;have a3:o.cell? ⟨w.1.size,1,none⟩=some (.int .i64 f.number):=aa I 1;have a4:o.cell? ⟨w.1.size,3,none⟩=some (.int .i64 f.seq):=aa I 3;have a5:o.cell? ⟨w.1.size,4,none⟩=some (.int .i64 f.first):=aa I 4;have U:Hid (w.alloc (.cells #[.int .i64 2,.int .i64 f.number,.slice sp f.cols.length ak,.int .i64 f.seq,.int .i64 f.first,.int .i64 f.rows,.slice W f.block.length V,.int .i64 f.index.at_,.int .i64 f.index.frames,.int .i64 f.index.rows,.slice Y f.index.entries.length X] 47)=o):=O.symm;have K:=h.on ah;have c1:o.cell? ⟨a,1,none⟩=some (.int .i64 s.number):=K.cell 1;have c3:o.cell? ⟨a,3,none⟩=some (.int .i64 s.frames):=K.cell 3;have c4:o.cell? ⟨a,4,none⟩=some (.int .i64 s.rows):=K.cell 4;have R:=xX ah;obtain⟨A,Z⟩:∃A,A=Sc.follows s f pl:=⟨_,rfl⟩;have z:Hid (A=decide (f.number=s.number∧f.seq=s.frames∧f.first=s.rows)):=by
  show _=_;rw[Z];unfold Sc.follows;rw[if_neg (by omega),if_pos aj]
 rw[<-Z,aj];clear h a0 O ah I K Z aj;by_cases y:f.number=s.number
 ·have a1:(f.number==s.number)=true:=by rw[beq_iff_eq];exact y
  by_cases D:f.seq=s.frames
  ·have a2:(f.seq==s.frames)=true:=(by rw[beq_iff_eq];exact D);have E:Hid (A=(f.first==s.rows)):=by
    show _=_;rw[z.out];by_cases L:f.first=s.rows
    ·rw[decide_eq_true ⟨y,D,L⟩];symm;rw[beq_iff_eq];exact L
    ·rw[decide_eq_false (fun J=>L J.2.2)];symm;rw[beq_eq_false_iff_ne];exact L
   clear z y D;go_enter Tryz.func45,Tryz.ntmps45;go_wp2_with fail;rw[U.out];go_quiet (fail);go_wp2;go_ret;rw[E.out];exact⟨rfl,below_drewN R.out _⟩
  ·have a2:(f.seq==s.frames)=false:=(by rw[beq_eq_false_iff_ne];exact D);have E:Hid (A=false):=(by show _=_;rw[z.out];exact decide_eq_false (fun J=>D J.2.1));clear z y D;go_enter Tryz.func45,Tryz.ntmps45;go_wp2_with fail;rw[U.out];go_quiet (fail);go_wp2;go_ret;rw[E.out];exact⟨rfl,below_drewN R.out _⟩
 ·have a1:(f.number==s.number)=false:=by rw[beq_eq_false_iff_ne];exact y
  have E:Hid (A=false):=by show _=_;rw[z.out];exact decide_eq_false (fun J=>y J.1)
  clear z y;go_enter Tryz.func45,Tryz.ntmps45;go_wp2_with fail;rw[U.out];go_quiet (fail);go_wp2;go_ret;rw[E.out];exact⟨rfl,below_drewN R.out _⟩
theorem qf(h:ax w B a M n v g s G)(f:Fr)(a4:f.kind=3)(u:AV)(a3:aP w u f)(pl:Int):
  Calls Tryz.prog 45 #[.pointer (some ⟨a,0,none⟩),.agg u,.int .i64 pl] w fun e w'=>e=.returned (.bool (Sc.follows s f pl))∧Below w.1.size w w':=by
 obtain⟨sp,aj,X,W,z,y,rfl,-,-,-,-,-,-,a1,a9,a2⟩:=a3.out;unfold aB;obtain⟨o,Y⟩:∃o,o=(w.alloc (.cells #[.int .i64 3,.int .i64 f.number,.slice sp f.cols.length aj,.int .i64 f.seq,.int .i64 f.first,.int .i64 f.rows,.slice X f.block.length W,.int .i64 f.index.at_,.int .i64 f.index.frames,.int .i64 f.index.rows,.slice z f.index.entries.length y] 47)).alloc (.cells #[.int .i64 f.index.at_,.int .i64 f.index.frames,.int .i64 f.index.rows,.slice z f.index.entries.length y] 45):=⟨_,rfl⟩;have Z:Below w.1.size w o:=by rw[Y];exact xV.alloc (by simp) _
 have ah:=ag (w.alloc (.cells #[.int .i64 3,.int .i64 f.number,.slice sp f.cols.length aj,.int .i64 f.seq,.int .i64 f.first,.int .i64 f.rows,.slice X f.block.length W,.int .i64 f.index.at_,.int .i64 f.index.frames,.int .i64 f.index.rows,.slice z f.index.entries.length y] 47)) (.cells #[.int .i64 f.index.at_,.int .i64 f.index.frames,.int .i64 f.index.rows,.slice z f.index.entries.length y] 45);rw[<-Y] at ah;have a0:(w.alloc (.cells #[.int .i64 3,.int .i64 f.number,.slice sp f.cols.length aj,.int .i64 f.seq,.int .i64 f.first,.int .i64 f.rows,.slice X f.block.length W,.int .i64 f.index.at_,.int .i64 f.index.frames,.int .i64 f.index.rows,.slice z f.index.entries.length y] 47)).1.size=w.1.size+1:=by simp
 rw[a0] at ah;obtain⟨be,bj,bk,bl⟩:=cQ4 ah;have V:Hid ((w.alloc (.cells #[.int .i64 3,.int .i64 f.number,.slice sp f.cols.length aj,.int .i64 f.seq,.int .i64 f.first,.int .i64 f.rows,.slice X f.block.length W,.int .i64 f.index.at_,.int .i64 f.index.frames,.int .i64 f.index.rows,.slice z f.index.entries.length y] 47)).alloc (.cells #[.int .i64 f.index.at_,.int .i64 f.index.frames,.int .i64 f.index.rows,.slice z f.index.entries.length y] 45)=o):=Y.symm;have O:=h.on Z;obtain⟨q,d,bc,bb,a5,-⟩:=O.ents.ents;subst bc;have c3:o.cell? ⟨a,3,none⟩=some (.int .i64 s.frames):=O.cell 3;have c4:o.cell? ⟨a,4,none⟩=some (.int .i64 s.rows):=O.cell 4;have bd:o.cell? ⟨a,5,none⟩=some (.slice q s.ents.length d):=O.cell 5;have U:=xX Z;obtain⟨I,ak⟩:∃I,I=Sc.follows s f pl:=⟨_,rfl⟩;have A:Hid (I=decide (f.index.at_=pl∧f.index.frames=s.frames∧f.index.rows=s.rows∧f.index.entries.map Ent.tup=s.ents.map Ent.tup)):=by
  show _=_;rw[ak];unfold Sc.follows;rw[if_neg (by omega),if_neg (by omega)];rfl
 have L:Hid (∀m,Calls Tryz.prog 67 #[.slice z f.index.entries.length y,.slice q s.ents.length d] (o.drewN m) fun e w'=>e=.returned (.bool (decide (f.index.entries.map Ent.tup=s.ents.map Ent.tup)))∧∃n,w'=(o.drewN m).drewN n):=fun m=>uL z q y d f.index.entries s.ents a1 (o.drewN m) ((a2.on Z).on (below_drewN xY m)) (a5.on (below_drewN xY m));rw[<-ak,a4];clear h a3 Y Z ah O ak a4 a0 a1 a9 a2 a5 bb;by_cases E:f.index.at_=pl
 ·have a6:(f.index.at_==pl)=true:=by rw[beq_iff_eq];exact E
  by_cases J:f.index.frames=s.frames
  ·have a7:(f.index.frames==s.frames)=true:=(by rw[beq_iff_eq];exact J);by_cases K:f.index.rows=s.rows
   ·have a8:(f.index.rows==s.rows)=true:=(by rw[beq_iff_eq];exact K);have D:Hid (I=decide (f.index.entries.map Ent.tup=s.ents.map Ent.tup)):=by
     show _=_;rw[A.out];simp[E,J,K]
    rw[<-D.out] at L;clear A D E J K;go_enter Tryz.func45,Tryz.ntmps45;go_wp2_with fail;rw[V.out];go_quiet ((go_at_call 67;exact Calls.quiet_of (L.out _)));go_wp2;go_ret;exact⟨rfl,below_drewN U.out _⟩
   ·have a8:(f.index.rows==s.rows)=false:=(by rw[beq_eq_false_iff_ne];exact K);have D:Hid (I=false):=(by show _=_;rw[A.out];exact decide_eq_false (fun R=>K R.2.2.1));clear A E J K L;go_enter Tryz.func45,Tryz.ntmps45;go_wp2_with fail;rw[V.out];go_quiet (fail);go_wp2;go_ret;rw[D.out];exact⟨rfl,below_drewN U.out _⟩
  ·have a7:(f.index.frames==s.frames)=false:=(by rw[beq_eq_false_iff_ne];exact J);have D:Hid (I=false):=(by show _=_;rw[A.out];exact decide_eq_false (fun R=>J R.2.1));clear A E J L;go_enter Tryz.func45,Tryz.ntmps45;go_wp2_with fail;rw[V.out];go_quiet (fail);go_wp2;go_ret;rw[D.out];exact⟨rfl,below_drewN U.out _⟩
 ·have a6:(f.index.at_==pl)=false:=by rw[beq_eq_false_iff_ne];exact E
  have D:Hid (I=false):=by show _=_;rw[A.out];exact decide_eq_false (fun R=>E R.1)
  clear A E L;go_enter Tryz.func45,Tryz.ntmps45;go_wp2_with fail;rw[V.out];go_quiet (fail);go_wp2;go_ret;rw[D.out];exact⟨rfl,below_drewN U.out _⟩
theorem sN(h:ax w B a M n v g s G)(f:Fr)(u:AV)(y:aP w u f)(pl:Int)(D:Fr.err f=0):
  Calls Tryz.prog 45 #[.pointer (some ⟨a,0,none⟩),.agg u,.int .i64 pl] w fun e w'=>e=.returned (.bool (Sc.follows s f pl))∧Below w.1.size w w':=by
 obtain⟨z,-,A⟩:=Sc.err_parts D;rcases A with o | o | o
 ·exact qh h f o u y pl (z o).1.1
 ·exact qg h f o u y pl
 ·exact qf h f o u y pl
end
end
section
open Go.RowKit Go.Maps
section
variable {w:World} {B a M n:Nat} {v:Value} {g:Int->Option Value} {s:Wk} {G:Nat->Prop}
theorem ax.more(h:ax w B a M n v g s G){o:Nat}(D:n<=o):ax w B a M o v g s G:=by
 obtain⟨y,z,A⟩:=h.map.out;exact⟨h.lies,⟨y,z.mono D,A⟩,h.ents,h.base,h.good,h.low,h.off,h.sch⟩
theorem cm.put{s':Wk}{i:Nat}{x:Value}{o:Value}{y:Int->Option Value}(I:ax w1 B a M n o y s G)(z:Aside (eV a M v) w w1)(K:∀i,o.ownBlock=some i->v.ownBlock=some i∨w.1.size<=i)(A:bM M s' o=(bM M s o).setIfInBounds i x)(J:s'.sch=s.sch)(D:s'.ents=s.ents)(E:Sc.Good s'):cm w (w1.setCell ⟨a,i,none⟩ x) B a M n v s' G :=
 ⟨o,y,I.put i x A J D E,z.setCell (p:=⟨a,i,none⟩) (.inl (.inl rfl)) x,K⟩
theorem wc(h:ax w B a M n v g s G)(f:Fr)(z:f.kind=1)(Y:f.wf)(u:AV)(a6:aP w u f)(pl:Int)(X:Sc.may s f pl=true)(bl:n<1000000000):
  Calls Tryz.prog 46 #[.pointer (some ⟨a,0,none⟩),.agg u,.int .i64 pl] w fun e w'=>e=.returned (.tuple #[])∧cm w w' B a M (n+1) v (Sc.take s f pl) G:=by
 obtain⟨sp,J,O,L,U,R,rfl,a9,bn,bb,-⟩:=a6.out;unfold aB;obtain⟨a8,a5,a7⟩:=Sc.may_parts X;obtain⟨a3,-,-⟩:=Sc.err_parts a5;obtain⟨a1,a2⟩:=a3 z;obtain⟨A,D⟩:∃A,A=w.alloc (.cells #[.int .i64 1,.int .i64 f.number,.slice sp f.cols.length J,.int .i64 f.seq,.int .i64 f.first,.int .i64 f.rows,.slice O f.block.length L,.int .i64 f.index.at_,.int .i64 f.index.frames,.int .i64 f.index.rows,.slice U f.index.entries.length R] 47):=⟨_,rfl⟩;have E:Below w.1.size w A:=by rw[D];exact xV
 have a0:Hid (w.alloc (.cells #[.int .i64 1,.int .i64 f.number,.slice sp f.cols.length J,.int .i64 f.seq,.int .i64 f.first,.int .i64 f.rows,.slice O f.block.length L,.int .i64 f.index.at_,.int .i64 f.index.frames,.int .i64 f.index.rows,.slice U f.index.entries.length R] 47)=A):=D.symm;have ak:=xX (wm (h.on E) f.number f.cols sp J pl a1 (Sc.follows_sch z a7) a8 a2 Y.2.2.1 a9 (bb.on E) bl);have W:=ag w (.cells #[.int .i64 1,.int .i64 f.number,.slice sp f.cols.length J,.int .i64 f.seq,.int .i64 f.first,.int .i64 f.rows,.slice O f.block.length L,.int .i64 f.index.at_,.int .i64 f.index.frames,.int .i64 f.index.rows,.slice U f.index.entries.length R] 47);rw[<-D] at W;have aj:=xX W;have ah:=xX E;have bN:=h.lt;have bj:¬eV a M v w.1.size:=fun y=>by
  rcases y with y | y | y
  ·omega
  ·have:=h.map.lt;omega
  ·have:=(h.ents.lt _ y).2;omega
 have o:Hid (Sc.take s f pl={ Sc.learn s f.number f.cols pl with closed:=false }):=by
  show _=_;unfold Sc.take;rw[if_pos z]
 have K:Hid (Sc.Good (Sc.take s f pl)):=Sc.good_take h.good Y X;obtain⟨Z,bc⟩:∃Z,Z=Sc.take s f pl:=⟨_,rfl⟩;rw[<-bc] at o K ⊢;rw[z];clear h a6 Y X a8 a5 a7 a3 a1 a2 D E W a9 bn bb bc z;go_enter Tryz.func46,Tryz.ntmps46;go_wp2_with fail;rw[a0.out];refine ak.out.mono ?_;rintro e w1 ⟨rfl,bO,bs,I,V,bd⟩;have a4:=(V.block _ (az aj.out) bj).trans aj.out;have bT:w1.cell? ⟨w.1.size,0,none⟩=some (.int .i64 1):=aa a4 0;have bp:w1.cell? ⟨a,6,none⟩=some (.bool (Sc.learn s f.number f.cols pl).closed):=I.cell 6;have bq:=I.thawed 6;have be:Hid (cm w (w1.setCell ⟨a,6,none⟩ (.bool false)) B a M (n+1) v Z G):=cm.put I ((ae ah.out _).trans V (fun _ _ h=>h)) (fun i bk=>(bd i bk).imp id (fun h=>Nat.le_trans ah.out.size h)) (by rw[o.out];rfl) (by rw[o.out]) (by rw[o.out]) K.out;clear I V bd a4 ak a0 o K;go_wp2;go_end0;exact⟨rfl,be.out⟩
theorem vY(h:ax w B a M n v g s G)(f:Fr)(z:f.kind=3)(u:AV)(y:aP w u f)(pl:Int):
  Calls Tryz.prog 46 #[.pointer (some ⟨a,0,none⟩),.agg u,.int .i64 pl] w fun e w'=>e=.returned (.tuple #[])∧cm w w' B a M (n+1) v (Sc.take s f pl) G:=by
 obtain⟨sp,V,J,I,O,L,rfl,-⟩:=y.out;unfold aB;have D:Hid (Sc.take s f pl={ s with closed:=true }):=by
  show _=_;unfold Sc.take;rw[if_neg (by omega),if_neg (by omega)]
 have A:Hid (∀o,cm w ((w.setCell ⟨a,6,none⟩ (.bool true)).alloc o) B a M (n+1) v (Sc.take s f pl) G):=fun o=>by
  rw[D.out];exact⟨v,g,(((h.put 6 (.bool true) (s':={ s with closed:=true }) rfl rfl rfl (Sc.good_closed h.good true)).more (Nat.le_succ n)).on (xY.alloc xZ o)),((Aside.refl (eV a M v) w).setCell (p:=⟨a,6,none⟩) (.inl (.inl rfl)) _).alloc o,fun i E=>.inl E⟩
 have K:w.cell? ⟨a,6,none⟩=some (.bool s.closed):=h.cell 6;have R:=h.thawed 6;have U:=h.lt;rw[z];clear h y z;go_enter Tryz.func46,Tryz.ntmps46;go_wp2;go_end0;exact⟨rfl,A.out _⟩
theorem vZ(h:ax w B a M n v g s G)(f:Fr)(I:f.kind=2)(b9:f.wf)(u:AV)(bc:aP w u f)(pl:Int)(bd:Sc.may s f pl=true)(ct:B<=w.1.size):
  Calls Tryz.prog 46 #[.pointer (some ⟨a,0,none⟩),.agg u,.int .i64 pl] w fun e w'=>e=.returned (.tuple #[])∧cm w w' B a M (n+1) v (Sc.take s f pl) G:=by
 have Y:=bc;obtain⟨sp,bj,a2,a1,a5,a4,rfl,-⟩:=bc.out;obtain⟨be,b2,b3⟩:=Sc.may_parts bd;obtain⟨-,a3,-⟩:=Sc.err_parts b2;obtain⟨ck,a0,U,bN⟩:=a3 I;obtain⟨cn,bO,bT⟩:=Sc.follows_data I b3;unfold aB at Y ⊢;rw[I] at Y;obtain⟨D,X⟩:∃D,D=w.alloc (.cells #[.int .i64 2,.int .i64 f.number,.slice sp f.cols.length bj,.int .i64 f.seq,.int .i64 f.first,.int .i64 f.rows,.slice a2 f.block.length a1,.int .i64 f.index.at_,.int .i64 f.index.frames,.int .i64 f.index.rows,.slice a5 f.index.entries.length a4] 47):=⟨_,rfl⟩;have L:Below w.1.size w D:=by rw[X];exact xV
 have ci:Hid (w.alloc (.cells #[.int .i64 2,.int .i64 f.number,.slice sp f.cols.length bj,.int .i64 f.seq,.int .i64 f.first,.int .i64 f.rows,.slice a2 f.block.length a1,.int .i64 f.index.at_,.int .i64 f.index.frames,.int .i64 f.index.rows,.slice a5 f.index.entries.length a4] 47)=D):=X.symm;have ak:=xX (wo (h.on L) f _ (Y.on L) pl be a0 U (Nat.le_trans ct L.size));have bb:=ag w (.cells #[.int .i64 2,.int .i64 f.number,.slice sp f.cols.length bj,.int .i64 f.seq,.int .i64 f.first,.int .i64 f.rows,.slice a2 f.block.length a1,.int .i64 f.index.at_,.int .i64 f.index.frames,.int .i64 f.index.rows,.slice a5 f.index.entries.length a4] 47);rw[<-X] at bb;have A:=xX bb;have bn:=xX L;have c8:=h.lt;have a9:¬eV a M v w.1.size:=fun O=>by
  rcases O with O | O | O
  ·omega
  ·have:=h.map.lt;omega
  ·have:=(h.ents.lt _ O).2;omega
 have R:Hid (Sc.take s f pl={ Sc.count (Sc.enter s f pl) f with closed:=false }):=by
  show _=_;unfold Sc.take;rw[if_neg (by omega),if_pos I]
 have bp:Hid (Sc.Good (Sc.take s f pl)):=Sc.good_take h.good b9 bd;have V:=Sc.enter_same s f pl;have W:=Sc.good_enter h.good f pl be U;obtain⟨o,b6⟩:∃o,o=Sc.enter s f pl:=⟨_,rfl⟩;rw[<-b6] at ak R V W;obtain⟨bk,b7⟩:∃bk,bk=Sc.take s f pl:=⟨_,rfl⟩;rw[<-b7] at R bp ⊢;rw[I];have b4:0<=o.frames∧o.frames<1099511627776:=by rw[V.2.2.2.1,<-bO];exact a0
 have b5:0<=o.rows∧o.rows<1099511627776:=by rw[V.2.2.2.2.1,<-bT];exact U
 have dd:0<=o.since∧o.since<1099511627776:=by have:=W.since;omega
 have y:=xX W;clear h bc Y b9 bd be b2 b3 a3 ck a0 U cn bO bT X L bb b7 b6 I V W;go_enter Tryz.func46,Tryz.ntmps46;go_wp2_with fail;rw[ci.out];refine ak.out.mono ?_;rintro e w1 ⟨rfl,cb,bX,Z,a6,b8⟩;have cw:=(a6.block _ (az A.out) a9).trans A.out;have c3:w1.cell? ⟨a,3,none⟩=some (.int .i64 o.frames):=Z.cell 3;have cp:=Z.thawed 3;have K:ax (w1.setCell ⟨a,3,none⟩ (.int .i64 (o.frames+1))) B a M n cb bX { o with frames:=o.frames+1 } G:=Z.put 3 _ rfl rfl rfl ⟨y.out.number,by have:=y.out.since;exact⟨by dsimp only;omega,by dsimp only;omega⟩,by dsimp only;omega,y.out.rows,y.out.ents,y.out.entsOk,y.out.known,y.out.has⟩;obtain⟨J,ah⟩:∃J,J=w1.setCell ⟨a,3,none⟩ (.int .i64 (o.frames+1)):=⟨_,rfl⟩;have a7:Aside (eV a M v) D J:=by rw[ah];exact a6.setCell (p:=⟨a,3,none⟩) (.inl (.inl rfl)) _
 have cj:=xX ah;rw[<-ah] at K;have b0:=(a7.block _ (az A.out) a9).trans A.out;have cy:J.cell? ⟨w.1.size,5,none⟩=some (.int .i64 f.rows):=aa b0 5;have co:J.cell? ⟨a,4,none⟩=some (.int .i64 o.rows):=K.cell 4;have cq:=K.thawed 4;have bq:=xX K;have bl:=xX a7;have bs:=xX b8;clear Z a6 b8 cw ak b0 K a7 ah;go_wp2_with fail;rw[<-cj.out]
 go_region
 obtain⟨z,aj⟩:∃z,z=(J.setCell ⟨a,4,none⟩ (.int .i64 (o.rows+f.rows))).drew:=⟨_,rfl⟩;rw[<-aj];have E:ax z B a M n cb bX { o with frames:=o.frames+1,rows:=o.rows+f.rows } G:=by
  rw[aj];refine(bq.out.put 4 (.int .i64 (o.rows+f.rows)) (s':={ o with frames:=o.frames+1,rows:=o.rows+f.rows }) rfl rfl rfl ?_).on xY.drew;exact⟨y.out.number,by have:=y.out.since;exact⟨by dsimp only;omega,by dsimp only;omega⟩,by dsimp only;omega,⟨by dsimp only;omega,by dsimp only;omega⟩,y.out.ents,y.out.entsOk,y.out.known,y.out.has⟩
 have a8:Aside (eV a M v) D z:=by rw[aj];exact(bl.out.setCell (p:=⟨a,4,none⟩) (.inl (.inl rfl)) _).drew
 have a3:z.cell? ⟨a,2,none⟩=some (.int .i64 o.since):=E.cell 2;have c6:=E.thawed 2;have c5:z.cell? ⟨a,6,none⟩=some (.bool o.closed):=E.cell 6;have c7:=E.thawed 6;have b1:=(a8.block _ (az A.out) a9).trans A.out;have df:z.cell? ⟨w.1.size,0,none⟩=some (.int .i64 2):=aa b1 0;have c9:¬w.1.size=a:=by omega
 have cc:Hid (cm w ((z.setCell ⟨a,2,none⟩ (.int .i64 (o.since+1))).setCell ⟨a,6,none⟩ (.bool false)) B a M (n+1) v bk G):=by
  have cs:=(E.put 2 (.int .i64 (o.since+1)) (s':=Sc.count o f) rfl rfl rfl (Sc.good_count y.out f b4.2 b5.2 bN)).more (Nat.le_succ n);have cv:Aside (eV a M v) w (z.setCell ⟨a,2,none⟩ (.int .i64 (o.since+1))):=((ae bn.out _).trans a8 (fun _ _ h=>h)).setCell (p:=⟨a,2,none⟩) (.inl (.inl rfl)) _;rw[R.out];exact cm.put cs cv (fun i cx=>(bs.out i cx).imp id (fun h=>Nat.le_trans bn.out.size h)) rfl rfl rfl (Sc.good_closed (Sc.good_count y.out f b4.2 b5.2 bN) false)
 clear E a8 b1 aj bq bl bs R bp cy co cq c3 cp;go_wp2;go_end0;exact⟨rfl,cc.out⟩
theorem xt(h:ax w B a M n v g s G)(f:Fr)(A:f.wf)(u:AV)(y:aP w u f)(pl:Int)(z:Sc.may s f pl=true)(I:n<1000000000)(E:B<=w.1.size):
  Calls Tryz.prog 46 #[.pointer (some ⟨a,0,none⟩),.agg u,.int .i64 pl] w fun e w'=>e=.returned (.tuple #[])∧cm w w' B a M (n+1) v (Sc.take s f pl) G:=by
 obtain⟨-,-,D⟩:=Sc.err_parts (Sc.may_parts z).2.1;rcases D with o | o | o
 ·exact wc h f o A u y pl z I
 ·exact vZ h f o A u y pl z E
 ·exact vY h f o u y pl
end
end
section
open Go.RowKit Go.Maps
section
variable {w:World} {B a M n:Nat} {v:Value} {g:Int->Option Value} {s:Wk} {G:Nat->Prop}
theorem cm.same(h:ax w B a M n v g s G)(hb:Below w.1.size w w1):cm w w1 B a M (n+1) v s G:=⟨v,g,(h.on hb).more (Nat.le_succ n),ae hb _,fun _ o=>.inl o⟩
theorem vq(h:ax w B a M n v g s G)(f:Fr)(b8:f.wf)(u:AV)(bk:aP w u f)(pl:Int)(b6:Hv w)(co:n<1000000000)(cj:B<=w.1.size):
  Calls Tryz.prog 13 #[.pointer (some ⟨a,0,none⟩),.agg u,.int .i64 pl] w fun e w'=>e=.returned (.int .i64 (if Sc.may s f pl=true then 0 else 143))∧cm w w' B a M (n+1) v (Sc.next s f pl) G:=by
 have bl:=bk;obtain⟨sp,a6,a0,ak,a2,a1,rfl,-⟩:=bk.out;unfold aB at bl ⊢;obtain⟨y,O⟩:∃y,y=(w.alloc (.cells #[.int .i64 f.kind,.int .i64 f.number,.slice sp f.cols.length a6,.int .i64 f.seq,.int .i64 f.first,.int .i64 f.rows,.slice a0 f.block.length ak,.int .i64 f.index.at_,.int .i64 f.index.frames,.int .i64 f.index.rows,.slice a2 f.index.entries.length a1] 47)).alloc (.cells #[.int .i64 pl] 2):=⟨_,rfl⟩;have bX:Below w.1.size w y:=by rw[O];exact xV.alloc (by simp) _
 have d6:y.1.size=w.1.size+2:=by rw[O];simp
 have b0:y.1[w.1.size]?=some (.cells #[.int .i64 f.kind,.int .i64 f.number,.slice sp f.cols.length a6,.int .i64 f.seq,.int .i64 f.first,.int .i64 f.rows,.slice a0 f.block.length ak,.int .i64 f.index.at_,.int .i64 f.index.frames,.int .i64 f.index.rows,.slice a2 f.index.entries.length a1] 47):=by
  rw[O,aG _ _ (by simp)];exact ag w _
 have b2:y.1[w.1.size+1]?=some (.cells #[.int .i64 pl] 2):=by
  rw[O];have:=ag (w.alloc (.cells #[.int .i64 f.kind,.int .i64 f.number,.slice sp f.cols.length a6,.int .i64 f.seq,.int .i64 f.first,.int .i64 f.rows,.slice a0 f.block.length ak,.int .i64 f.index.at_,.int .i64 f.index.frames,.int .i64 f.index.rows,.slice a2 f.index.entries.length a1] 47)) (.cells #[.int .i64 pl] 2);simpa using this
 have bN:Hid ((w.alloc (.cells #[.int .i64 f.kind,.int .i64 f.number,.slice sp f.cols.length a6,.int .i64 f.seq,.int .i64 f.first,.int .i64 f.rows,.slice a0 f.block.length ak,.int .i64 f.index.at_,.int .i64 f.index.frames,.int .i64 f.index.rows,.slice a2 f.index.entries.length a1] 47)).alloc (.cells #[.int .i64 pl] 2)=y):=O.symm;have L:=xX (vU (w.1.size+1) 1 [pl] (by simp) y (fun j cn=>by
  obtain rfl:j=0:=by simpa using cn
  exact aa b2 0))
 have U:=xX h;have z:=xX bX;have bq:=xX b0;have a7:=xX bl;have bO:=xX b8;have D:Hid (Sc.may s f pl=(Fr.within Fr.S pl&&decide (Fr.err f=0)&&Sc.follows s f pl)):=rfl;have o:Hid (Sc.next s f pl=if Sc.may s f pl=true then Sc.take s f pl else s):=rfl;obtain⟨R,b5⟩:∃R,R=Sc.next s f pl:=⟨_,rfl⟩;obtain⟨b9,bp⟩:∃b9:Int,b9=if Sc.may s f pl=true then 0 else 143:=⟨_,rfl⟩;rw[<-b5] at o ⊢;rw[<-bp];have aj:=xX bp;have cc:=xX b6;clear h bk bl b8 O bX b0 b2 b5 b6 bp;by_cases a4:Fr.within Fr.S pl=true
 ·have W:[pl].all (Fr.within Fr.S)=true:=by simp[a4]
  rw[W] at L;have Z:=xX (pf f bO.out _ y (cc.out.next z.out) (a7.out.on z.out));obtain⟨cs,ct,cw,cx,cy,c5,c6,c7,c8,c9,cv⟩:=aO bq.out;obtain⟨bb,bj⟩:∃bb,bb=Fr.err f:=⟨_,rfl⟩;rw[<-bj] at Z;have ah:=xX bj;clear W bj;go_enter Tryz.func13,Tryz.ntmps13;go_wp2_with fail;rw[bN.out];refine L.out.mono ?_;rintro e w' ⟨rfl,X⟩;rw[X];clear X w' L;go_wp2_with fail;refine Z.out.mono ?_;rintro e w1 (⟨a5,q,cap,rfl,-,J⟩ | ⟨a5,rfl,J⟩)
  ·have Y:=xX (z.out.trans (J.mono z.out.size));have be:Fr.err f=0:=(by rw[<-ah.out];exact a5);have bd:=(J.block _ (by omega)).trans bq.out;obtain⟨dd,df,dr,ds,dv,d0,d1,d2,d3,d4,dp⟩:=aO bd;have a8:=xX (sN (U.out.on Y.out) f _ (a7.out.on Y.out) pl be);obtain⟨a3,b3⟩:∃a3,a3=Sc.follows s f pl:=⟨_,rfl⟩;rw[<-b3] at a8 D;have V:Hid (Sc.may s f pl=a3):=by
    show _=_;rw[D.out,a4,decide_eq_true be];rfl
   have cb:=xX bd;have d7:=J.size;clear J bd b3 be Z D ah cs ct cw cx cy c5 c6 c7 c8 c9 cv;go_wp2_with fail;refine a8.out.mono ?_;rintro e d8 ⟨rfl,bc⟩;have K:=xX (Y.out.trans (bc.mono Y.out.size));have b1:=(bc.block _ (by omega)).trans cb.out;obtain⟨d9,ea,ec,el,em,en,ep,eq,er,eu,eb⟩:=aO b1;clear bc b1 a8 dd df dr ds dv d0 d1 d2 d3 d4 dp;cases a3 with
   |false=>
    have E:=xX (cm.same U.out K.out);have A:Hid (R=s):=(by show _=_;rw[o.out,V.out];rfl);clear o;go_wp2;go_ret;rw[A.out,aj.out,V.out];exact⟨rfl,E.out⟩
   |true=>
    have bs:=xX (xt (U.out.on K.out) f bO.out _ (a7.out.on K.out) pl V.out co (Nat.le_trans cj K.out.size));have A:Hid (R=Sc.take s f pl):=(by show _=_;rw[o.out,V.out];rfl);clear o;go_wp2_with fail;refine bs.out.mono ?_;rintro e cq ⟨rfl,cp,ci,b4,bT,b7⟩;have E:Hid (cm w cq B a M (n+1) v (Sc.take s f pl) G):=⟨cp,ci,b4,(ae K.out _).trans bT (fun _ _ h=>h),fun i ck=>(b7 i ck).imp id (fun h=>Nat.le_trans K.out.size h)⟩;clear b4 bT b7 bs;go_wp2;go_ret;rw[A.out,aj.out,V.out];exact⟨rfl,E.out⟩
  ·have E:=xX (cm.same U.out (z.out.trans (J.mono z.out.size)));have d5:((bb:Int) != 0)=true:=(by rw[bne_iff_ne];omega);have I:Sc.may s f pl=false:=by
    rw[D.out,decide_eq_false (by rw[<-ah.out];exact a5)];simp
   have A:Hid (R=s):=(by show _=_;rw[o.out,I];rfl);have a9:=xX I;clear J Z a5 o D I ah;go_wp2;go_ret;rw[A.out,aj.out,a9.out];exact⟨rfl,E.out⟩
 ·have bn:Fr.within Fr.S pl=false:=by simpa using a4
  have W:[pl].all (Fr.within Fr.S)=false:=by simp[bn]
  rw[W] at L;have E:=xX (cm.same U.out z.out);have I:Sc.may s f pl=false:=by rw[D.out,bn];rfl
  have A:Hid (R=s):=by show _=_;rw[o.out,I];rfl
  have a9:=xX I;clear W bn a4 o D I;go_enter Tryz.func13,Tryz.ntmps13;go_wp2_with fail;rw[bN.out];refine L.out.mono ?_;rintro e w' ⟨rfl,X⟩;rw[X];clear X w' L;go_wp2;go_ret;rw[A.out,aj.out,a9.out];exact⟨rfl,E.out⟩
end
end
end Go.Proofs.YtdkammppnkhhoaaGreatDoor

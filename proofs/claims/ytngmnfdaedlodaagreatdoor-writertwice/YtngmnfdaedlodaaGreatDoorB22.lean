import Derived.Test.YtngmnfdaedlodaaGreatDoorB21
import Derived.Handy
set_option maxRecDepth 100000
set_option maxHeartbeats 4000000
namespace Go.Proofs.YtngmnfdaedlodaaGreatDoor
open Go.Proofs.Tryz
open Go.Value renaming int->I,slice->O,agg->R
open Go.IntKind renaming i64->U
open Go.RowKit renaming Hid->Y,Below->F
open Go.Obj renaming cells->C
open Go.Proofs.Tryz renaming prog->AW
section
open Go.RowKit
theorem pc(n:Int)(sp:OA)(A y:Nat)(q S r:Int)(K:OA)(J E:Nat)(V X Z:Int)(Q:OA)(M L:Nat)(w:World):
  Calls AW 65 #[R #[I U 1,I U n,O sp A y,I U q,I U S,I U r,O K J E,I U V,I U X,I U Z,O Q M L]] w fun e w'=>e=.returned (.tuple #[.iface 143 (R #[I U n,O sp A y]),.bool true])∧F w.1.size w w':=by
 have D:Y (∀o,F w.1.size w (w.alloc o)):=fun o=>gQy;go_enter func65,ntmps65;go_wp2;go_ret2;exact⟨rfl,D.out _⟩
theorem o9(n:Int)(sp:OA)(Z X:Nat)(q D r:Int)(A:OA)(y o:Nat)(Q S V:Int)(M:OA)(L K:Nat)(w:World):
  Calls AW 65 #[R #[I U 2,I U n,O sp Z X,I U q,I U D,I U r,O A y o,I U Q,I U S,I U V,O M L K]] w fun e w'=>e=.returned (.tuple #[.iface 145 (R #[I U n,I U q,I U D,I U r,O A y o]),.bool true])∧F w.1.size w w':=by
 have J:Y (∀E,F w.1.size w (w.alloc E)):=fun E=>gQy;go_enter func65,ntmps65;go_wp2;go_ret2;exact⟨rfl,J.out _⟩
theorem o8(n:Int)(sp:OA)(Z X:Nat)(q V r:Int)(S:OA)(Q M:Nat)(D E J:Int)(A:OA)(y o:Nat)(w:World):
  Calls AW 65 #[R #[I U 3,I U n,O sp Z X,I U q,I U V,I U r,O S Q M,I U D,I U E,I U J,O A y o]] w fun e w'=>e=.returned (.tuple #[.iface 147 (R #[I U D,I U E,I U J,O A y o]),.bool true])∧F w.1.size w w':=by
 have L:Y (∀K,F w.1.size w (w.alloc K)):=fun K=>gQy;go_enter func65,ntmps65;go_wp2;go_ret2;exact⟨rfl,L.out _⟩
theorem pd(k:Int)(o:k≠1)(y:k≠2)(A:k≠3)(n:Int)(sp:OA)(aj ah:Nat)(q V r:Int)(L:OA)(K J:Nat)(X Z ab:Int)(S:OA)(Q M:Nat)(w:World):
  Calls AW 65 #[R #[I U k,I U n,O sp aj ah,I U q,I U V,I U r,O L K J,I U X,I U Z,I U ab,O S Q M]] w fun e w'=>e=.returned (.tuple #[.nilIface,.bool false])∧F w.1.size w w':=by
 have E:Y (∀D,F w.1.size w (w.alloc D)):=fun D=>gQy;have ak:(k==1)=false:=bf o;have aw:(k==2)=false:=bf y;have a0:(k==3)=false:=bf A;clear o y A;go_enter func65,ntmps65;go_wp2;go_ret2;exact⟨rfl,E.out _⟩
end
section
open Go.RowKit
def encErr(f:Fr):Nat:=if f.kind=1 then dF f.number f.cols else if f.kind=2 then eE f.number f.seq f.first f.rows f.block else Fr.idxErr f.index
theorem cC(l:List Int):(Fr.nums l).length<=10*l.length:=by
 induction l with
 |nil=>simp[Fr.nums_nil]
 |cons n l ih=>
  rw[Fr.nums_cons,AU,Aq];have:=Leb.put_length_le n.toNat;omega
theorem uu(es:List Ent):(es.map Fr.entB).flatten.length<=es.length*30:=Sch.flatten_le Fr.entB 30 es (fun e _=>cC [e.at_,e.row,e.sch])
theorem lg{f:Fr}(y:f.kind=2):f.block.length<(Fr.run f).length:=by
 have o:=(Cob.stuff_length (Fr.check (Fr.head f))).1;have A:f.block.length<=(Fr.head f).length:=by
  unfold Fr.head Fr.fields;rw[AJ (by omega),AK y,Aq,AU];omega
 rw[Fr.check_length] at o;unfold Fr.run;omega
theorem lE{f:Fr}(o:f.kind=1∨f.kind=2∨f.kind=3)(h:encErr f≠0):Fr.err f=encErr f:=by
 rcases o with o | o | o
 ·have e:Fr.err0 f=dF f.number f.cols:=by unfold Fr.err0;rw[AK o];rfl
  have y:encErr f=dF f.number f.cols:=by unfold encErr;rw[AK o]
  rw[y] at h ⊢;unfold Fr.err;rw[e,AK h]
 ·have e:Fr.err0 f=if (Fr.within Fr.N f.number&&Fr.within Fr.S f.seq&&Fr.within Fr.S f.first&&decide (1<=f.rows∧f.rows<=64))=false then 7 else 0:=by unfold Fr.err0;rw[AJ (by omega),AK o]
  have y:encErr f=eE f.number f.seq f.first f.rows f.block:=by unfold encErr;rw[AJ (by omega),AK o]
  rw[y] at h ⊢;unfold Fr.err;unfold eE at h ⊢;by_cases A:(Fr.within Fr.N f.number&&Fr.within Fr.S f.seq&&Fr.within Fr.S f.first&&decide (1<=f.rows∧f.rows<=64))=false
  ·rw[e,AK A,AK A,AK (by omega)]
  ·rw[AJ A] at h ⊢;by_cases D:2200<f.block.length
   ·have:=lg o;rw[e,AJ A,AJ (by omega),AK D,AK (by omega)]
   ·rw[AJ D] at h;omega
 ·have e:Fr.err0 f=Fr.idxErr f.index:=by unfold Fr.err0;rw[AJ (by omega),AJ (by omega),AK o]
  have y:encErr f=Fr.idxErr f.index:=by unfold encErr;rw[AJ (by omega),AJ (by omega)]
  rw[y] at h ⊢;unfold Fr.err;rw[e,AK h]
theorem pn{f:Fr}(o:f.kind=1∨f.kind=2∨f.kind=3)(h:encErr f=0):Fr.err f=(if 2200<(Fr.run f).length then 2 else 0)∧(Fr.fields f).length<=5000:=by
 unfold encErr at h;unfold Fr.err;rcases o with o | o | o
 ·have e:Fr.err0 f=dF f.number f.cols:=by unfold Fr.err0;rw[AK o];rfl
  rw[AK o] at h;refine⟨by rw[e,AJ (by omega)],?_⟩;unfold dF at h;split at h
  ·omega
  ·have E:=(Sch.err_open h).2.2.2;have y:=cC [f.number];unfold Fr.fields;rw[AK o,AU];simp at y;omega
 ·rw[AJ (by omega),AK o] at h;have e:Fr.err0 f=if (Fr.within Fr.N f.number&&Fr.within Fr.S f.seq&&Fr.within Fr.S f.first&&decide (1<=f.rows∧f.rows<=64))=false then 7 else 0:=by unfold Fr.err0;rw[AJ (by omega),AK o]
  unfold eE at h;by_cases D:(Fr.within Fr.N f.number&&Fr.within Fr.S f.seq&&Fr.within Fr.S f.first&&decide (1<=f.rows∧f.rows<=64))=false
  ·rw[AK D] at h;omega
  ·rw[AJ D] at h;by_cases y:2200<f.block.length
   ·rw[AK y] at h;omega
   ·refine⟨by rw[e,AJ D,AJ (by omega)],?_⟩;have A:=cC [f.number,f.seq,f.first,f.rows];unfold Fr.fields;rw[AJ (by omega),AK o,AU];simp at A;omega
 ·have e:Fr.err0 f=Fr.idxErr f.index:=by unfold Fr.err0;rw[AJ (by omega),AJ (by omega),AK o]
  rw[AJ (by omega),AJ (by omega)] at h;refine⟨by rw[e,AJ (by omega)],?_⟩;have K:f.index.entries.length<=64:=by
   unfold Fr.idxErr at h;split at h
   ·omega
   ·split at h
    ·omega
    ·omega
  have A:=cC [f.index.at_,f.index.frames,f.index.rows,(f.index.entries.length:Int)];have J:=uu f.index.entries;unfold Fr.fields;rw[AJ (by omega),AJ (by omega),AU];simp at A;omega
theorem oX{w:World}{B:Nat}{p:OA}{n c:Nat}{l:L8}(h:Has w B (O p n c) l):At w p l∧l.length<=c:=by
 obtain⟨E,D,A,o,y⟩:=h.at;injection A with e1 e2 e3;subst e1 e3;exact⟨o,y⟩
theorem si(f:Fr)(K:f.kind=1)(cn:f.wf)(u:AV)(w:World)(ck:Hv w)(h:cg w u f):
    Calls AW 45 #[R u] w (ko w (Fr.err f) (0::(Fr.run f++[0]))):=by
  obtain⟨sp,aj,a5,a4,a7,a6,rfl,b7,df,b8,d7,d8,b9,d9,ea,cb⟩:=h.out;unfold aG;obtain⟨J,bc⟩:∃J,J=Fr.err f:=⟨_,rfl⟩;obtain⟨y,bk⟩:∃y,y=Fr.run f:=⟨_,rfl⟩;rw[<-bc,<-bk];have bN:=gQq bc;have b1:=gQq bk;have bT:=gQq K;have b3:=gQq cn;have cr:=gQq b8;have d0:=gQq b9;have d1:=gQq cb;have ct:=gQq ck;have D:Y (encErr f=dF f.number f.cols):=by show _=_;unfold encErr;rw[AK K]
  have Z:Y (Fr.head f=1::(Fr.nums [f.number]++Sch.bytes f.cols)):=by
    show _=_;unfold Fr.head Fr.fields;rw[AK K];rw[K];rfl
  rw[K];obtain⟨w0,V⟩:∃w0,w0=w.alloc (C #[I U 1,I U f.number,O sp f.cols.length aj,I U f.seq,I U f.first,I U f.rows,O a5 f.block.length a4,I U f.index.at_,I U f.index.frames,I U f.index.rows,O a7 f.index.entries.length a6] 52):=⟨_,rfl⟩;have el:w0.1.size=w.1.size+1:=by rw[V];simp
  have cp:Y (F w.1.size w w0):=by rw[V];exact gQy
  have c0:w0.cell? ⟨w.1.size,0,none⟩=some (I U 1):=by rw[V];simp
  have b2:Y (w.alloc (C #[I U 1,I U f.number,O sp f.cols.length aj,I U f.seq,I U f.first,I U f.rows,O a5 f.block.length a4,I U f.index.at_,I U f.index.frames,I U f.index.rows,O a7 f.index.entries.length a6] 52)=w0):=by rw[V];exact rfl
  have bO:=gQq (pc f.number sp f.cols.length aj f.seq f.first f.rows a5 f.block.length a4 f.index.at_ f.index.frames f.index.rows a7 f.index.entries.length a6 w0);clear bc bk K cn b8 b9 cb ck h V;go_enter func45,ntmps45;go_wp2_with fail;rw[b2.out];refine bO.out.mono ?_;rintro e w1 ⟨rfl,hb⟩;have aw:=gQq (cp.out.trans (hb.mono (by omega)));have c1:=ae hb c0;have dr:=hb.size;clear hb bO b2 c0;have X:=gQq (oj f.number b3.out.2.1 f.cols sp aj w1 b7 (cr.out.on aw.out) b3.out.2.2.1);obtain⟨ab,bb⟩:∃ab,ab=dF f.number f.cols:=⟨_,rfl⟩;obtain⟨ah,bi⟩:∃ah,ah=(Fr.nums [f.number]++Sch.bytes f.cols):=⟨_,rfl⟩;rw[<-bb,<-bi] at X;rw[<-bb] at D;rw[<-bi] at Z;clear bb bi;go_wp2_with fail;refine X.out.mono ?_;rintro e A (⟨L,q,cap,rfl,o,hb⟩ | ⟨L,rfl,hb⟩)
  · have M:=gQq (aw.out.trans (hb.mono (by omega)));have c2:=ae hb c1;have bl:=M.out.size;have bp:=gQq (oX o).1;have bj:=pn (f:=f) (by have:=bT.out;omega) (D.out.trans L);have ec:ah.length<=5000:=by
      have b7:(Fr.head f).length=ah.length+1:=(by rw[Z.out];rfl);have df:(Fr.head f).length=(Fr.fields f).length+1:=rfl;have:=bj.2;omega
    have b0:=gQq bj.1;have a2:Y (Has (A.alloc (C #[I .u8 1] 5)) A.1.size (O (some ⟨A.1.size,0,none⟩) 1 1) [1]):=dB (B:=A.1.size) [1] rfl gQx (by decide);have a1:Y (F A.1.size A (A.alloc (C #[I .u8 1] 5))):=gQy;have bq:=gQq (bp.out.on a1.out);clear o hb X L bj D c1 dr
    go_wp2_with (first|(at_builtin;refine aC (xs:=[1]) a2.out bq.out (by simp;omega) (by simp) rfl rfl rfl rfl rfl ?_;intro ak dv c5 W cx o S be;have Q:=gQq (a1.out.trans (aB S a2.out (by simp)));have b4:=gQq o;clear S be o)|fail)
    have bn:ak=Fr.head f:=(by rw[cx.out,Z.out];rfl);have eg:ak.length<=5001:=(by rw[bn,Z.out,Aq];omega);have cw:Y (y=Cob.stuff (Fr.check ak)):=(by show _=_;rw[b1.out,bn];rfl);have ds:=Q.out.size;have c4:=ae Q.out c2;refine(sW A.1.size dv c5 ak (by omega) W (ct.out.next (M.out.trans (Q.out.mono bl))) b4.out ds).mono ?_;rintro e w5 ⟨d6,en,d4,rfl,a9,eb,dj,hb⟩;rw[<-cw.out] at a9 dj ⊢;have a0:=gQq ((M.out.trans (Q.out.mono bl)).trans (hb.mono bl));have cj:=a0.out.size;have cs:=gQq a9;have E:Y (J=if 2200<y.length then 2 else 0):=(by show _=_;rw[bN.out,b0.out,b1.out]);clear bn a9 hb c2 c4 b4 b0 bp bq a2 a1 Q;by_cases a8:2200<y.length
    · have b6:(2200:Int)<(y.length:Int):=(by omega);have a3:Y (J=2):=E.out.trans (AK a8);clear E a8;go_wp2;go_ret2;rw[a3.out];exact aV (by omega) a0.out
    · have b6:¬(2200:Int)<(y.length:Int):=(by omega);have a3:Y (J=0):=E.out.trans (AJ a8);clear E;have bX:Y (Has (w5.alloc (C #[I .u8 0] 5)) w5.1.size (O (some ⟨w5.1.size,0,none⟩) 1 1) [0]):=dB (B:=w5.1.size) [0] rfl gQx (by decide);have bv:Y (F w5.1.size w5 (w5.alloc (C #[I .u8 0] 5))):=gQy;have co:=gQq (cs.out.at.on bv.out)
      go_wp2_with (first|(at_builtin;refine aC (xs:=[0]) bX.out co.out (by simp;omega) (by simp) rfl rfl rfl rfl rfl ?_;intro zs ep d5 d2 b5 o S be;have bs:=gQq (bv.out.trans (aB S bX.out (by simp)));have cy:=gQq o;have du:=bs.out.size;have em:zs.length<=2300:=(by rw[b5.out,AU,AC];omega);clear S be o)|(at_builtin;refine gg cy.out 0 (by omega) du rfl rfl rfl rfl rfl rfl ?_;intro c9 c6 d3 ci cc;have cu:=gQq ci;have cq:=gQq cc;clear ci cc)|fail)
      go_ret2;have c8:0::(y++[0])=zs++[0]:=(by rw[b5.out];rfl);have c7:(zs++[0]).length=zs.length+1:=(by simp);rw[c8];refine .inl ⟨a3.out,some ⟨c9,0,none⟩,c6,by rw[c7];rfl,(bo.has cu.out).lower cj,a0.out.trans ((bs.out.trans cq.out).mono cj)⟩
  · have M:=gQq (aw.out.trans (hb.mono (by omega)));have cd:=lE (f:=f) (by have:=bT.out;omega) (by rw[D.out];exact L);have E:Y (J=ab):=(by show _=_;rw[bN.out,cd,D.out]);have b6:((ab:Int) != 0)=true:=(by rw[bne_iff_ne];omega);have cv:=gQq L;clear hb cd X D L;go_wp2;go_ret2;rw[E.out];exact aV cv.out M.out
theorem sg(f:Fr)(K:f.kind=2)(ck:f.wf)(u:AV)(w:World)(cj:Hv w)(h:cg w u f):
    Calls AW 45 #[R u] w (ko w (Fr.err f) (0::(Fr.run f++[0]))):=by
  obtain⟨sp,bp,aj,ah,a7,a6,rfl,c9,df,b7,dj,d8,b8,d9,ea,b9⟩:=h.out;unfold aG;obtain⟨J,bc⟩:∃J,J=Fr.err f:=⟨_,rfl⟩;obtain⟨y,bk⟩:∃y,y=Fr.run f:=⟨_,rfl⟩;rw[<-bc,<-bk];have bO:=gQq bc;have b2:=gQq bk;have bX:=gQq K;have ab:=gQq ck;have d1:=gQq b7;have co:=gQq b8;have d2:=gQq b9;have cs:=gQq cj;have D:Y (encErr f=eE f.number f.seq f.first f.rows f.block):=by show _=_;unfold encErr;rw[AJ (by omega),AK K]
  have Z:Y (Fr.head f=2::(Fr.nums [f.number,f.seq,f.first,f.rows]++f.block)):=by
    show _=_;unfold Fr.head Fr.fields;rw[AJ (by omega),AK K];rw[K];rfl
  rw[K];obtain⟨w0,V⟩:∃w0,w0=w.alloc (C #[I U 2,I U f.number,O sp f.cols.length bp,I U f.seq,I U f.first,I U f.rows,O aj f.block.length ah,I U f.index.at_,I U f.index.frames,I U f.index.rows,O a7 f.index.entries.length a6] 52):=⟨_,rfl⟩;have el:w0.1.size=w.1.size+1:=by rw[V];simp
  have cp:Y (F w.1.size w w0):=by rw[V];exact gQy
  have c0:w0.cell? ⟨w.1.size,0,none⟩=some (I U 2):=by rw[V];simp
  have b3:Y (w.alloc (C #[I U 2,I U f.number,O sp f.cols.length bp,I U f.seq,I U f.first,I U f.rows,O aj f.block.length ah,I U f.index.at_,I U f.index.frames,I U f.index.rows,O a7 f.index.entries.length a6] 52)=w0):=by rw[V];exact rfl
  have bT:=gQq (o9 f.number sp f.cols.length bp f.seq f.first f.rows aj f.block.length ah f.index.at_ f.index.frames f.index.rows a7 f.index.entries.length a6 w0);clear bc bk K ck b7 b8 b9 cj h V;go_enter func45,ntmps45;go_wp2_with fail;rw[b3.out];refine bT.out.mono ?_;rintro e w1 ⟨rfl,hb⟩;have a1:=gQq (cp.out.trans (hb.mono (by omega)));have c1:=ae hb c0;have ds:=hb.size;clear hb bT b3 c0;have X:=gQq (uG f.number f.seq f.first f.rows ab.out.2.1 ab.out.2.2.2.1 ab.out.2.2.2.2.1 ab.out.2.2.2.2.2.1 f.block aj ah w1 dj (co.out.on a1.out));obtain⟨ak,bb⟩:∃ak,ak=eE f.number f.seq f.first f.rows f.block:=⟨_,rfl⟩;obtain⟨aw,bi⟩:∃aw,aw=(Fr.nums [f.number,f.seq,f.first,f.rows]++f.block):=⟨_,rfl⟩;rw[<-bb,<-bi] at X;rw[<-bb] at D;rw[<-bi] at Z;clear bb bi;go_wp2_with fail;refine X.out.mono ?_;rintro e A (⟨L,q,cap,rfl,o,hb⟩ | ⟨L,rfl,hb⟩)
  · have M:=gQq (a1.out.trans (hb.mono (by omega)));have c2:=ae hb c1;have bl:=M.out.size;have bq:=gQq (oX o).1;have bj:=pn (f:=f) (by have:=bX.out;omega) (D.out.trans L);have ec:aw.length<=5000:=by
      have c9:(Fr.head f).length=aw.length+1:=(by rw[Z.out];rfl);have df:(Fr.head f).length=(Fr.fields f).length+1:=rfl;have:=bj.2;omega
    have b1:=gQq bj.1;have a4:Y (Has (A.alloc (C #[I .u8 2] 5)) A.1.size (O (some ⟨A.1.size,0,none⟩) 1 1) [2]):=dB (B:=A.1.size) [2] rfl gQx (by decide);have a3:Y (F A.1.size A (A.alloc (C #[I .u8 2] 5))):=gQy;have bs:=gQq (bq.out.on a3.out);clear o hb X L bj D c1 ds
    go_wp2_with (first|(at_builtin;refine aC (xs:=[2]) a4.out bs.out (by simp;omega) (by simp) rfl rfl rfl rfl rfl ?_;intro a0 d0 cy W cw o S be;have Q:=gQq (a3.out.trans (aB S a4.out (by simp)));have b4:=gQq o;clear S be o)|fail)
    have bn:a0=Fr.head f:=(by rw[cw.out,Z.out];rfl);have eg:a0.length<=5001:=(by rw[bn,Z.out,Aq];omega);have cv:Y (y=Cob.stuff (Fr.check a0)):=(by show _=_;rw[b2.out,bn];rfl);have du:=Q.out.size;have c4:=ae Q.out c2;refine(sW A.1.size d0 cy a0 (by omega) W (cs.out.next (M.out.trans (Q.out.mono bl))) b4.out du).mono ?_;rintro e w5 ⟨d7,en,d5,rfl,a9,eb,dr,hb⟩;rw[<-cv.out] at a9 dr ⊢;have a2:=gQq ((M.out.trans (Q.out.mono bl)).trans (hb.mono bl));have ci:=a2.out.size;have cr:=gQq a9;have E:Y (J=if 2200<y.length then 2 else 0):=(by show _=_;rw[bO.out,b1.out,b2.out]);clear bn a9 hb c2 c4 b4 b1 bq bs a4 a3 Q;by_cases a8:2200<y.length
    · have b6:(2200:Int)<(y.length:Int):=(by omega);have a5:Y (J=2):=E.out.trans (AK a8);clear E a8;go_wp2;go_ret2;rw[a5.out];exact aV (by omega) a2.out
    · have b6:¬(2200:Int)<(y.length:Int):=(by omega);have a5:Y (J=0):=E.out.trans (AJ a8);clear E;have b0:Y (Has (w5.alloc (C #[I .u8 0] 5)) w5.1.size (O (some ⟨w5.1.size,0,none⟩) 1 1) [0]):=dB (B:=w5.1.size) [0] rfl gQx (by decide);have bN:Y (F w5.1.size w5 (w5.alloc (C #[I .u8 0] 5))):=gQy;have cn:=gQq (cr.out.at.on bN.out)
      go_wp2_with (first|(at_builtin;refine aC (xs:=[0]) b0.out cn.out (by simp;omega) (by simp) rfl rfl rfl rfl rfl ?_;intro zs ep d6 d3 b5 o S be;have bv:=gQq (bN.out.trans (aB S b0.out (by simp)));have cx:=gQq o;have dv:=bv.out.size;have em:zs.length<=2300:=(by rw[b5.out,AU,AC];omega);clear S be o)|(at_builtin;refine gg cx.out 0 (by omega) dv rfl rfl rfl rfl rfl rfl ?_;intro c8 c5 d4 cd cb;have ct:=gQq cd;have cq:=gQq cb;clear cd cb)|fail)
      go_ret2;have c7:0::(y++[0])=zs++[0]:=(by rw[b5.out];rfl);have c6:(zs++[0]).length=zs.length+1:=(by simp);rw[c7];refine .inl ⟨a5.out,some ⟨c8,0,none⟩,c5,by rw[c6];rfl,(bo.has ct.out).lower ci,a2.out.trans ((bv.out.trans cq.out).mono ci)⟩
  · have M:=gQq (a1.out.trans (hb.mono (by omega)));have cc:=lE (f:=f) (by have:=bX.out;omega) (by rw[D.out];exact L);have E:Y (J=ak):=(by show _=_;rw[bO.out,cc,D.out]);have b6:((ak:Int) != 0)=true:=(by rw[bne_iff_ne];omega);have cu:=gQq L;clear hb cc X D L;go_wp2;go_ret2;rw[E.out];exact aV cu.out M.out
theorem sf(f:Fr)(aj:f.kind=3)(ck:f.wf)(u:AV)(w:World)(cj:Hv w)(h:cg w u f):
    Calls AW 45 #[R u] w (ko w (Fr.err f) (0::(Fr.run f++[0]))):=by
  obtain⟨sp,bn,a6,a5,ah,ab,rfl,c9,df,b7,d8,d9,b8,dj,ea,b9⟩:=h.out;unfold aG;obtain⟨J,bb⟩:∃J,J=Fr.err f:=⟨_,rfl⟩;obtain⟨y,bj⟩:∃y,y=Fr.run f:=⟨_,rfl⟩;rw[<-bb,<-bj];have bN:=gQq bb;have b1:=gQq bj;have bT:=gQq aj;have b3:=gQq ck;have d2:=gQq b7;have d1:=gQq b8;have cq:=gQq b9;have cs:=gQq cj;have D:Y (encErr f=Fr.idxErr f.index):=by show _=_;unfold encErr;rw[AJ (by omega),AJ (by omega)]
  have X:Y (Fr.head f=3::(Fr.nums [f.index.at_,f.index.frames,f.index.rows,(f.index.entries.length:Int)]++(f.index.entries.map Fr.entB).flatten)):=by
    show _=_;unfold Fr.head Fr.fields;rw[AJ (by omega),AJ (by omega)];rw[aj];rfl
  rw[aj];obtain⟨w0,S⟩:∃w0,w0=w.alloc (C #[I U 3,I U f.number,O sp f.cols.length bn,I U f.seq,I U f.first,I U f.rows,O a6 f.block.length a5,I U f.index.at_,I U f.index.frames,I U f.index.rows,O ah f.index.entries.length ab] 52):=⟨_,rfl⟩;have el:w0.1.size=w.1.size+1:=by rw[S];simp
  have co:Y (F w.1.size w w0):=by rw[S];exact gQy
  have c0:w0.cell? ⟨w.1.size,0,none⟩=some (I U 3):=by rw[S];simp
  have b2:Y (w.alloc (C #[I U 3,I U f.number,O sp f.cols.length bn,I U f.seq,I U f.first,I U f.rows,O a6 f.block.length a5,I U f.index.at_,I U f.index.frames,I U f.index.rows,O ah f.index.entries.length ab] 52)=w0):=by rw[S];exact rfl
  have bO:=gQq (o8 f.number sp f.cols.length bn f.seq f.first f.rows a6 f.block.length a5 f.index.at_ f.index.frames f.index.rows ah f.index.entries.length ab w0);clear bb bj aj ck b7 b8 b9 cj h S;go_enter func45,ntmps45;go_wp2_with fail;rw[b2.out];refine bO.out.mono ?_;rintro e w1 ⟨rfl,hb⟩;have a0:=gQq (co.out.trans (hb.mono (by omega)));have c1:=ae hb c0;have ds:=hb.size;clear hb bO b2 c0;have V:=gQq (rN f.index b3.out.2.2.2.2.2.2.1 b3.out.2.2.2.2.2.2.2 ah ab w1 dj (cq.out.on a0.out));obtain⟨Z,a9⟩:∃Z,Z=Fr.idxErr f.index:=⟨_,rfl⟩;obtain⟨ak,be⟩:∃ak,ak=(Fr.nums [f.index.at_,f.index.frames,f.index.rows,(f.index.entries.length:Int)]++(f.index.entries.map Fr.entB).flatten):=⟨_,rfl⟩;rw[<-a9,<-be] at V;rw[<-a9] at D;rw[<-be] at X;clear a9 be;go_wp2_with fail;refine V.out.mono ?_;rintro e A (⟨K,q,cap,rfl,o,hb⟩ | ⟨K,rfl,hb⟩)
  · have L:=gQq (a0.out.trans (hb.mono (by omega)));have c2:=ae hb c1;have bk:=L.out.size;have bp:=gQq (oX o).1;have bi:=pn (f:=f) (by have:=bT.out;omega) (D.out.trans K);have ec:ak.length<=5000:=by
      have c9:(Fr.head f).length=ak.length+1:=(by rw[X.out];rfl);have df:(Fr.head f).length=(Fr.fields f).length+1:=rfl;have:=bi.2;omega
    have b0:=gQq bi.1;have a3:Y (Has (A.alloc (C #[I .u8 3] 5)) A.1.size (O (some ⟨A.1.size,0,none⟩) 1 1) [3]):=dB (B:=A.1.size) [3] rfl gQx (by decide);have a2:Y (F A.1.size A (A.alloc (C #[I .u8 3] 5))):=gQy;have bq:=gQq (bp.out.on a2.out);clear o hb V K bi D c1 ds
    go_wp2_with (first|(at_builtin;refine aC (xs:=[3]) a3.out bq.out (by simp;omega) (by simp) rfl rfl rfl rfl rfl ?_;intro aw d0 cy W cw o Q bc;have M:=gQq (a2.out.trans (aB Q a3.out (by simp)));have b4:=gQq o;clear Q bc o)|fail)
    have bl:aw=Fr.head f:=(by rw[cw.out,X.out];rfl);have eg:aw.length<=5001:=(by rw[bl,X.out,Aq];omega);have cv:Y (y=Cob.stuff (Fr.check aw)):=(by show _=_;rw[b1.out,bl];rfl);have du:=M.out.size;have c4:=ae M.out c2;refine(sW A.1.size d0 cy aw (by omega) W (cs.out.next (L.out.trans (M.out.mono bk))) b4.out du).mono ?_;rintro e w5 ⟨d7,en,d5,rfl,a8,eb,dr,hb⟩;rw[<-cv.out] at a8 dr ⊢;have a1:=gQq ((L.out.trans (M.out.mono bk)).trans (hb.mono bk));have ci:=a1.out.size;have cr:=gQq a8;have E:Y (J=if 2200<y.length then 2 else 0):=(by show _=_;rw[bN.out,b0.out,b1.out]);clear bl a8 hb c2 c4 b4 b0 bp bq a3 a2 M;by_cases a7:2200<y.length
    · have b6:(2200:Int)<(y.length:Int):=(by omega);have a4:Y (J=2):=E.out.trans (AK a7);clear E a7;go_wp2;go_ret2;rw[a4.out];exact aV (by omega) a1.out
    · have b6:¬(2200:Int)<(y.length:Int):=(by omega);have a4:Y (J=0):=E.out.trans (AJ a7);clear E;have bX:Y (Has (w5.alloc (C #[I .u8 0] 5)) w5.1.size (O (some ⟨w5.1.size,0,none⟩) 1 1) [0]):=dB (B:=w5.1.size) [0] rfl gQx (by decide);have bv:Y (F w5.1.size w5 (w5.alloc (C #[I .u8 0] 5))):=gQy;have cn:=gQq (cr.out.at.on bv.out)
      go_wp2_with (first|(at_builtin;refine aC (xs:=[0]) bX.out cn.out (by simp;omega) (by simp) rfl rfl rfl rfl rfl ?_;intro zs ep d6 d3 b5 o Q bc;have bs:=gQq (bv.out.trans (aB Q bX.out (by simp)));have cx:=gQq o;have dv:=bs.out.size;have em:zs.length<=2300:=(by rw[b5.out,AU,AC];omega);clear Q bc o)|(at_builtin;refine gg cx.out 0 (by omega) dv rfl rfl rfl rfl rfl rfl ?_;intro c8 c5 d4 cd cb;have ct:=gQq cd;have cp:=gQq cb;clear cd cb)|fail)
      go_ret2;have c7:0::(y++[0])=zs++[0]:=(by rw[b5.out];rfl);have c6:(zs++[0]).length=zs.length+1:=(by simp);rw[c7];refine .inl ⟨a4.out,some ⟨c8,0,none⟩,c5,by rw[c6];rfl,(bo.has ct.out).lower ci,a1.out.trans ((bs.out.trans cp.out).mono ci)⟩
  · have L:=gQq (a0.out.trans (hb.mono (by omega)));have cc:=lE (f:=f) (by have:=bT.out;omega) (by rw[D.out];exact K);have E:Y (J=Z):=(by show _=_;rw[bN.out,cc,D.out]);have b6:((Z:Int) != 0)=true:=(by rw[bne_iff_ne];omega);have cu:=gQq K;clear hb cc V D K;go_wp2;go_ret2;rw[E.out];exact aV cu.out L.out
theorem sl(f:Fr)(o:f.kind≠1)(y:f.kind≠2)(A:f.kind≠3)(u:AV)(w:World)(h:cg w u f):
  Calls AW 45 #[R u] w (ko w (Fr.err f) (0::(Fr.run f++[0]))):=by
 obtain⟨sp,V,K,J,M,L,rfl,-⟩:=h.out;unfold aG;have Q:Fr.err f=60:=by
  have Z:Fr.err0 f=60:=by unfold Fr.err0;rw[AJ o,AJ y,AJ A]
  unfold Fr.err;rw[Z];rfl
 rw[Q];have D:Y (∀S,F w.1.size w (w.alloc S)):=fun S=>gQy;have E:=gQq (pd f.kind o y A f.number sp f.cols.length V f.seq f.first f.rows K f.block.length J f.index.at_ f.index.frames f.index.rows M f.index.entries.length L (w.alloc (C #[I U f.kind,I U f.number,O sp f.cols.length V,I U f.seq,I U f.first,I U f.rows,O K f.block.length J,I U f.index.at_,I U f.index.frames,I U f.index.rows,O M f.index.entries.length L] 52)));clear h o y A Q;go_enter func45,ntmps45;go_wp2_with fail;refine E.out.mono ?_;rintro e w1 ⟨rfl,hb⟩;have X:=gQq ((D.out _).trans (hb.mono (D.out _).size));clear hb E;go_wp2;go_ret2;exact aV (by omega) X.out
theorem qp(f:Fr)(y:f.wf)(u:AV)(w:World)(o:Hv w)(h:cg w u f):
  Calls AW 45 #[R u] w (ko w (Fr.err f) (0::(Fr.run f++[0]))):=by
 by_cases A:f.kind=1
 ·exact si f A y u w o h
 by_cases D:f.kind=2
 ·exact sg f D y u w o h
 by_cases E:f.kind=3
 ·exact sf f E y u w o h
 exact sl f A D E u w h
end
end Go.Proofs.YtngmnfdaedlodaaGreatDoor

import Derived.Test.YtngmnfdaedlodaaGreatDoorB21
import Derived.Handy
set_option maxRecDepth 100000
set_option maxHeartbeats 4000000
namespace Go.Proofs.YtngmnfdaedlodaaGreatDoor
open Go.Proofs.Tryz
open Go.Value renaming int->I,slice->O,agg->R
open Go.IntKind renaming i64->U
open Go.RowKit renaming Hid->Y,Below->F
open Go.Obj renaming cells->C
open Go.Proofs.Tryz renaming prog->AE
section
open Go.RowKit
theorem pq(n:Int)(sp:OA)(A y:Nat)(q S r:Int)(K:OA)(J E:Nat)(V X Z:Int)(Q:OA)(M L:Nat)(w:World):
  Calls AE 65 #[R #[I U 1,I U n,O sp A y,I U q,I U S,I U r,O K J E,I U V,I U X,I U Z,O Q M L]] w fun e w'=>e=.returned (.tuple #[.iface 143 (R #[I U n,O sp A y]),.bool true])∧F w.1.size w w':=by
 have D:Y (∀o,F w.1.size w (w.alloc o)):=fun o=>gQy;go_enter func65,ntmps65;go_wp2;go_ret2;exact⟨rfl,D.out _⟩
theorem po(n:Int)(sp:OA)(Z X:Nat)(q D r:Int)(A:OA)(y o:Nat)(Q S V:Int)(M:OA)(L K:Nat)(w:World):
  Calls AE 65 #[R #[I U 2,I U n,O sp Z X,I U q,I U D,I U r,O A y o,I U Q,I U S,I U V,O M L K]] w fun e w'=>e=.returned (.tuple #[.iface 145 (R #[I U n,I U q,I U D,I U r,O A y o]),.bool true])∧F w.1.size w w':=by
 have J:Y (∀E,F w.1.size w (w.alloc E)):=fun E=>gQy;go_enter func65,ntmps65;go_wp2;go_ret2;exact⟨rfl,J.out _⟩
theorem pn(n:Int)(sp:OA)(Z X:Nat)(q V r:Int)(S:OA)(Q M:Nat)(D E J:Int)(A:OA)(y o:Nat)(w:World):
  Calls AE 65 #[R #[I U 3,I U n,O sp Z X,I U q,I U V,I U r,O S Q M,I U D,I U E,I U J,O A y o]] w fun e w'=>e=.returned (.tuple #[.iface 147 (R #[I U D,I U E,I U J,O A y o]),.bool true])∧F w.1.size w w':=by
 have L:Y (∀K,F w.1.size w (w.alloc K)):=fun K=>gQy;go_enter func65,ntmps65;go_wp2;go_ret2;exact⟨rfl,L.out _⟩
theorem pr(k:Int)(o:k≠1)(y:k≠2)(A:k≠3)(n:Int)(sp:OA)(ai ah:Nat)(q V r:Int)(L:OA)(K J:Nat)(X Z ab:Int)(S:OA)(Q M:Nat)(w:World):
  Calls AE 65 #[R #[I U k,I U n,O sp ai ah,I U q,I U V,I U r,O L K J,I U X,I U Z,I U ab,O S Q M]] w fun e w'=>e=.returned (.tuple #[.nilIface,.bool false])∧F w.1.size w w':=by
 have E:Y (∀D,F w.1.size w (w.alloc D)):=fun D=>gQy;have aj:(k==1)=false:=bg o;have ak:(k==2)=false:=bg y;have aw:(k==3)=false:=bg A;clear o y A;go_enter func65,ntmps65;go_wp2;go_ret2;exact⟨rfl,E.out _⟩
end
section
open Go.RowKit
def encErr(f:Fr):Nat:=if f.kind=1 then dH f.number f.cols else if f.kind=2 then eG f.number f.seq f.first f.rows f.block else Fr.idxErr f.index
theorem dJ(l:List Int):(Fr.nums l).length<=10*l.length:=by
 induction l with
 |nil=>simp[Fr.nums_nil]
 |cons n l ih=>
  rw[Fr.nums_cons,AH,AI];have:=Leb.put_length_le n.toNat;omega
theorem nI(es:List Ent):(es.map Fr.entB).flatten.length<=es.length*30:=Sch.flatten_le Fr.entB 30 es (fun e _=>dJ [e.at_,e.row,e.sch])
theorem lq{f:Fr}(y:f.kind=2):f.block.length<(Fr.run f).length:=by
 have o:=(Cob.stuff_length (Fr.check (Fr.head f))).1;have A:f.block.length<=(Fr.head f).length:=by
  unfold Fr.head Fr.fields;rw[AF (by omega),AG y,AI,AH];omega
 rw[Fr.check_length] at o;unfold Fr.run;omega
theorem lM{f:Fr}(o:f.kind=1∨f.kind=2∨f.kind=3)(h:encErr f≠0):Fr.err f=encErr f:=by
 rcases o with o | o | o
 ·have e:Fr.err0 f=dH f.number f.cols:=by unfold Fr.err0;rw[AG o];rfl
  have y:encErr f=dH f.number f.cols:=by unfold encErr;rw[AG o]
  rw[y] at h ⊢;unfold Fr.err;rw[e,AG h]
 ·have e:Fr.err0 f=if (Fr.within Fr.N f.number&&Fr.within Fr.S f.seq&&Fr.within Fr.S f.first&&decide (1<=f.rows∧f.rows<=64))=false then 7 else 0:=by unfold Fr.err0;rw[AF (by omega),AG o]
  have y:encErr f=eG f.number f.seq f.first f.rows f.block:=by unfold encErr;rw[AF (by omega),AG o]
  rw[y] at h ⊢;unfold Fr.err;unfold eG at h ⊢;by_cases A:(Fr.within Fr.N f.number&&Fr.within Fr.S f.seq&&Fr.within Fr.S f.first&&decide (1<=f.rows∧f.rows<=64))=false
  ·rw[e,AG A,AG A,AG (by omega)]
  ·rw[AF A] at h ⊢;by_cases D:2200<f.block.length
   ·have:=lq o;rw[e,AF A,AF (by omega),AG D,AG (by omega)]
   ·rw[AF D] at h;omega
 ·have e:Fr.err0 f=Fr.idxErr f.index:=by unfold Fr.err0;rw[AF (by omega),AF (by omega),AG o]
  have y:encErr f=Fr.idxErr f.index:=by unfold encErr;rw[AF (by omega),AF (by omega)]
  rw[y] at h ⊢;unfold Fr.err;rw[e,AG h]
theorem pC{f:Fr}(o:f.kind=1∨f.kind=2∨f.kind=3)(h:encErr f=0):Fr.err f=(if 2200<(Fr.run f).length then 2 else 0)∧(Fr.fields f).length<=5000:=by
 unfold encErr at h;unfold Fr.err;rcases o with o | o | o
 ·have e:Fr.err0 f=dH f.number f.cols:=by unfold Fr.err0;rw[AG o];rfl
  rw[AG o] at h;refine⟨by rw[e,AF (by omega)],?_⟩;unfold dH at h;split at h
  ·omega
  ·have E:=(Sch.err_open h).2.2.2;have y:=dJ [f.number];unfold Fr.fields;rw[AG o,AH];simp at y;omega
 ·rw[AF (by omega),AG o] at h;have e:Fr.err0 f=if (Fr.within Fr.N f.number&&Fr.within Fr.S f.seq&&Fr.within Fr.S f.first&&decide (1<=f.rows∧f.rows<=64))=false then 7 else 0:=by unfold Fr.err0;rw[AF (by omega),AG o]
  unfold eG at h;by_cases D:(Fr.within Fr.N f.number&&Fr.within Fr.S f.seq&&Fr.within Fr.S f.first&&decide (1<=f.rows∧f.rows<=64))=false
  ·rw[AG D] at h;omega
  ·rw[AF D] at h;by_cases y:2200<f.block.length
   ·rw[AG y] at h;omega
   ·refine⟨by rw[e,AF D,AF (by omega)],?_⟩;have A:=dJ [f.number,f.seq,f.first,f.rows];unfold Fr.fields;rw[AF (by omega),AG o,AH];simp at A;omega
 ·have e:Fr.err0 f=Fr.idxErr f.index:=by unfold Fr.err0;rw[AF (by omega),AF (by omega),AG o]
  rw[AF (by omega),AF (by omega)] at h;refine⟨by rw[e,AF (by omega)],?_⟩;have K:f.index.entries.length<=64:=by
   unfold Fr.idxErr at h;split at h
   ·omega
   ·split at h
    ·omega
    ·omega
  have A:=dJ [f.index.at_,f.index.frames,f.index.rows,(f.index.entries.length:Int)];have J:=nI f.index.entries;unfold Fr.fields;rw[AF (by omega),AF (by omega),AH];simp at A;omega
theorem pi{w:World}{B:Nat}{p:OA}{n c:Nat}{l:L8}(h:Has w B (O p n c) l):At w p l∧l.length<=c:=by
 obtain⟨E,D,A,o,y⟩:=h.at;injection A with e1 e2 e3;subst e1 e3;exact⟨o,y⟩
theorem sA(f:Fr)(K:f.kind=1)(ck:f.wf)(u:AV)(w:World)(cj:Hv w)(h:cm w u f):
    Calls AE 45 #[R u] w (kt w (Fr.err f) (0::(Fr.run f++[0]))):=by
  obtain⟨sp,ai,a4,a3,a6,a5,rfl,b6,c9,b7,d6,d7,b8,d8,d9,b9⟩:=h.out;unfold aF;obtain⟨J,bb⟩:∃J,J=Fr.err f:=⟨_,rfl⟩;obtain⟨y,bj⟩:∃y,y=Fr.run f:=⟨_,rfl⟩;rw[<-bb,<-bj];have bv:=gQq bb;have b0:=gQq bj;have bO:=gQq K;have b2:=gQq ck;have cq:=gQq b7;have dv:=gQq b8;have d0:=gQq b9;have cs:=gQq cj;have D:Y (encErr f=dH f.number f.cols):=by show _=_;unfold encErr;rw[AG K]
  have Z:Y (Fr.head f=1::(Fr.nums [f.number]++Sch.bytes f.cols)):=by
    show _=_;unfold Fr.head Fr.fields;rw[AG K];rw[K];rfl
  rw[K];obtain⟨w0,V⟩:∃w0,w0=w.alloc (C #[I U 1,I U f.number,O sp f.cols.length ai,I U f.seq,I U f.first,I U f.rows,O a4 f.block.length a3,I U f.index.at_,I U f.index.frames,I U f.index.rows,O a6 f.index.entries.length a5] 52):=⟨_,rfl⟩;have eg:w0.1.size=w.1.size+1:=by rw[V];simp
  have co:Y (F w.1.size w w0):=by rw[V];exact gQy
  have c0:w0.cell? ⟨w.1.size,0,none⟩=some (I U 1):=by rw[V];simp
  have b1:Y (w.alloc (C #[I U 1,I U f.number,O sp f.cols.length ai,I U f.seq,I U f.first,I U f.rows,O a4 f.block.length a3,I U f.index.at_,I U f.index.frames,I U f.index.rows,O a6 f.index.entries.length a5] 52)=w0):=by rw[V];exact rfl
  have bN:=gQq (pq f.number sp f.cols.length ai f.seq f.first f.rows a4 f.block.length a3 f.index.at_ f.index.frames f.index.rows a6 f.index.entries.length a5 w0);clear bb bj K ck b7 b8 b9 cj h V;go_enter func45,ntmps45;go_wp2_with fail;rw[b1.out];refine bN.out.mono ?_;rintro e w1 ⟨rfl,hb⟩;have ak:=gQq (co.out.trans (hb.mono (by omega)));have c1:=ae hb c0;have dj:=hb.size;clear hb bN b1 c0;have X:=gQq (oC f.number b2.out.2.1 f.cols sp ai w1 b6 (cq.out.on ak.out) b2.out.2.2.1);obtain⟨ab,a9⟩:∃ab,ab=dH f.number f.cols:=⟨_,rfl⟩;obtain⟨ah,be⟩:∃ah,ah=(Fr.nums [f.number]++Sch.bytes f.cols):=⟨_,rfl⟩;rw[<-a9,<-be] at X;rw[<-a9] at D;rw[<-be] at Z;clear a9 be;go_wp2_with fail;refine X.out.mono ?_;rintro e A (⟨L,q,cap,rfl,o,hb⟩ | ⟨L,rfl,hb⟩)
  · have M:=gQq (ak.out.trans (hb.mono (by omega)));have c2:=ae hb c1;have bk:=M.out.size;have bn:=gQq (pi o).1;have bi:=pC (f:=f) (by have:=bO.out;omega) (D.out.trans L);have eb:ah.length<=5000:=by
      have b6:(Fr.head f).length=ah.length+1:=(by rw[Z.out];rfl);have c9:(Fr.head f).length=(Fr.fields f).length+1:=rfl;have:=bi.2;omega
    have bX:=gQq bi.1;have a1:Y (Has (A.alloc (C #[I .u8 1] 5)) A.1.size (O (some ⟨A.1.size,0,none⟩) 1 1) [1]):=dB (B:=A.1.size) [1] rfl gQx (by decide);have a0:Y (F A.1.size A (A.alloc (C #[I .u8 1] 5))):=gQy;have bp:=gQq (bn.out.on a0.out);clear o hb X L bi D c1 dj
    go_wp2_with (first|(at_builtin;refine aD (xs:=[1]) a1.out bp.out (by simp;omega) (by simp) rfl rfl rfl rfl rfl ?_;intro aj du cy W cw o S bc;have Q:=gQq (a0.out.trans (aC S a1.out (by simp)));have b3:=gQq o;clear S bc o)|fail)
    have bl:aj=Fr.head f:=(by rw[cw.out,Z.out];rfl);have ec:aj.length<=5001:=(by rw[bl,Z.out,AI];omega);have cv:Y (y=Cob.stuff (Fr.check aj)):=(by show _=_;rw[b0.out,bl];rfl);have dr:=Q.out.size;have c4:=ae Q.out c2;refine(tb A.1.size du cy aj (by omega) W (cs.out.next (M.out.trans (Q.out.mono bk))) b3.out dr).mono ?_;rintro e w5 ⟨d5,em,d3,rfl,a8,ea,df,hb⟩;rw[<-cv.out] at a8 df ⊢;have aw:=gQq ((M.out.trans (Q.out.mono bk)).trans (hb.mono bk));have ci:=aw.out.size;have cr:=gQq a8;have E:Y (J=if 2200<y.length then 2 else 0):=(by show _=_;rw[bv.out,bX.out,b0.out]);clear bl a8 hb c2 c4 b3 bX bn bp a1 a0 Q;by_cases a7:2200<y.length
    · have b5:(2200:Int)<(y.length:Int):=(by omega);have a2:Y (J=2):=E.out.trans (AG a7);clear E a7;go_wp2;go_ret2;rw[a2.out];exact aW (by omega) aw.out
    · have b5:¬(2200:Int)<(y.length:Int):=(by omega);have a2:Y (J=0):=E.out.trans (AF a7);clear E;have bT:Y (Has (w5.alloc (C #[I .u8 0] 5)) w5.1.size (O (some ⟨w5.1.size,0,none⟩) 1 1) [0]):=dB (B:=w5.1.size) [0] rfl gQx (by decide);have bs:Y (F w5.1.size w5 (w5.alloc (C #[I .u8 0] 5))):=gQy;have cn:=gQq (cr.out.at.on bs.out)
      go_wp2_with (first|(at_builtin;refine aD (xs:=[0]) bT.out cn.out (by simp;omega) (by simp) rfl rfl rfl rfl rfl ?_;intro zs en d4 d1 b4 o S bc;have bq:=gQq (bs.out.trans (aC S bT.out (by simp)));have cx:=gQq o;have ds:=bq.out.size;have el:zs.length<=2300:=(by rw[b4.out,AH,AO];omega);clear S bc o)|(at_builtin;refine gk cx.out 0 (by omega) ds rfl rfl rfl rfl rfl rfl ?_;intro c8 c5 d2 cd cb;have ct:=gQq cd;have cp:=gQq cb;clear cd cb)|fail)
      go_ret2;have c7:0::(y++[0])=zs++[0]:=(by rw[b4.out];rfl);have c6:(zs++[0]).length=zs.length+1:=(by simp);rw[c7];refine .inl ⟨a2.out,some ⟨c8,0,none⟩,c5,by rw[c6];rfl,(br.has ct.out).lower ci,aw.out.trans ((bq.out.trans cp.out).mono ci)⟩
  · have M:=gQq (ak.out.trans (hb.mono (by omega)));have cc:=lM (f:=f) (by have:=bO.out;omega) (by rw[D.out];exact L);have E:Y (J=ab):=(by show _=_;rw[bv.out,cc,D.out]);have b5:((ab:Int) != 0)=true:=(by rw[bne_iff_ne];omega);have cu:=gQq L;clear hb cc X D L;go_wp2;go_ret2;rw[E.out];exact aW cu.out M.out
theorem sy(f:Fr)(K:f.kind=2)(cj:f.wf)(u:AV)(w:World)(ci:Hv w)(h:cm w u f):
    Calls AE 45 #[R u] w (kt w (Fr.err f) (0::(Fr.run f++[0]))):=by
  obtain⟨sp,bn,ai,ah,a6,a5,rfl,c8,c9,b6,df,d7,b7,d8,d9,b8⟩:=h.out;unfold aF;obtain⟨J,bb⟩:∃J,J=Fr.err f:=⟨_,rfl⟩;obtain⟨y,bj⟩:∃y,y=Fr.run f:=⟨_,rfl⟩;rw[<-bb,<-bj];have bN:=gQq bb;have b1:=gQq bj;have bT:=gQq K;have ab:=gQq cj;have d0:=gQq b6;have cn:=gQq b7;have d1:=gQq b8;have cr:=gQq ci;have D:Y (encErr f=eG f.number f.seq f.first f.rows f.block):=by show _=_;unfold encErr;rw[AF (by omega),AG K]
  have Z:Y (Fr.head f=2::(Fr.nums [f.number,f.seq,f.first,f.rows]++f.block)):=by
    show _=_;unfold Fr.head Fr.fields;rw[AF (by omega),AG K];rw[K];rfl
  rw[K];obtain⟨w0,V⟩:∃w0,w0=w.alloc (C #[I U 2,I U f.number,O sp f.cols.length bn,I U f.seq,I U f.first,I U f.rows,O ai f.block.length ah,I U f.index.at_,I U f.index.frames,I U f.index.rows,O a6 f.index.entries.length a5] 52):=⟨_,rfl⟩;have eg:w0.1.size=w.1.size+1:=by rw[V];simp
  have co:Y (F w.1.size w w0):=by rw[V];exact gQy
  have c0:w0.cell? ⟨w.1.size,0,none⟩=some (I U 2):=by rw[V];simp
  have b2:Y (w.alloc (C #[I U 2,I U f.number,O sp f.cols.length bn,I U f.seq,I U f.first,I U f.rows,O ai f.block.length ah,I U f.index.at_,I U f.index.frames,I U f.index.rows,O a6 f.index.entries.length a5] 52)=w0):=by rw[V];exact rfl
  have bO:=gQq (po f.number sp f.cols.length bn f.seq f.first f.rows ai f.block.length ah f.index.at_ f.index.frames f.index.rows a6 f.index.entries.length a5 w0);clear bb bj K cj b6 b7 b8 ci h V;go_enter func45,ntmps45;go_wp2_with fail;rw[b2.out];refine bO.out.mono ?_;rintro e w1 ⟨rfl,hb⟩;have a0:=gQq (co.out.trans (hb.mono (by omega)));have c1:=ae hb c0;have dr:=hb.size;clear hb bO b2 c0;have X:=gQq (uM f.number f.seq f.first f.rows ab.out.2.1 ab.out.2.2.2.1 ab.out.2.2.2.2.1 ab.out.2.2.2.2.2.1 f.block ai ah w1 df (cn.out.on a0.out));obtain⟨aj,a9⟩:∃aj,aj=eG f.number f.seq f.first f.rows f.block:=⟨_,rfl⟩;obtain⟨ak,be⟩:∃ak,ak=(Fr.nums [f.number,f.seq,f.first,f.rows]++f.block):=⟨_,rfl⟩;rw[<-a9,<-be] at X;rw[<-a9] at D;rw[<-be] at Z;clear a9 be;go_wp2_with fail;refine X.out.mono ?_;rintro e A (⟨L,q,cap,rfl,o,hb⟩ | ⟨L,rfl,hb⟩)
  · have M:=gQq (a0.out.trans (hb.mono (by omega)));have c2:=ae hb c1;have bk:=M.out.size;have bp:=gQq (pi o).1;have bi:=pC (f:=f) (by have:=bT.out;omega) (D.out.trans L);have eb:ak.length<=5000:=by
      have c8:(Fr.head f).length=ak.length+1:=(by rw[Z.out];rfl);have c9:(Fr.head f).length=(Fr.fields f).length+1:=rfl;have:=bi.2;omega
    have b0:=gQq bi.1;have a3:Y (Has (A.alloc (C #[I .u8 2] 5)) A.1.size (O (some ⟨A.1.size,0,none⟩) 1 1) [2]):=dB (B:=A.1.size) [2] rfl gQx (by decide);have a2:Y (F A.1.size A (A.alloc (C #[I .u8 2] 5))):=gQy;have bq:=gQq (bp.out.on a2.out);clear o hb X L bi D c1 dr
    go_wp2_with (first|(at_builtin;refine aD (xs:=[2]) a3.out bq.out (by simp;omega) (by simp) rfl rfl rfl rfl rfl ?_;intro aw dv cx W cv o S bc;have Q:=gQq (a2.out.trans (aC S a3.out (by simp)));have b3:=gQq o;clear S bc o)|fail)
    have bl:aw=Fr.head f:=(by rw[cv.out,Z.out];rfl);have ec:aw.length<=5001:=(by rw[bl,Z.out,AI];omega);have cu:Y (y=Cob.stuff (Fr.check aw)):=(by show _=_;rw[b1.out,bl];rfl);have ds:=Q.out.size;have c4:=ae Q.out c2;refine(tb A.1.size dv cx aw (by omega) W (cr.out.next (M.out.trans (Q.out.mono bk))) b3.out ds).mono ?_;rintro e w5 ⟨d6,em,d4,rfl,a8,ea,dj,hb⟩;rw[<-cu.out] at a8 dj ⊢;have a1:=gQq ((M.out.trans (Q.out.mono bk)).trans (hb.mono bk));have cd:=a1.out.size;have cq:=gQq a8;have E:Y (J=if 2200<y.length then 2 else 0):=(by show _=_;rw[bN.out,b0.out,b1.out]);clear bl a8 hb c2 c4 b3 b0 bp bq a3 a2 Q;by_cases a7:2200<y.length
    · have b5:(2200:Int)<(y.length:Int):=(by omega);have a4:Y (J=2):=E.out.trans (AG a7);clear E a7;go_wp2;go_ret2;rw[a4.out];exact aW (by omega) a1.out
    · have b5:¬(2200:Int)<(y.length:Int):=(by omega);have a4:Y (J=0):=E.out.trans (AF a7);clear E;have bX:Y (Has (w5.alloc (C #[I .u8 0] 5)) w5.1.size (O (some ⟨w5.1.size,0,none⟩) 1 1) [0]):=dB (B:=w5.1.size) [0] rfl gQx (by decide);have bv:Y (F w5.1.size w5 (w5.alloc (C #[I .u8 0] 5))):=gQy;have ck:=gQq (cq.out.at.on bv.out)
      go_wp2_with (first|(at_builtin;refine aD (xs:=[0]) bX.out ck.out (by simp;omega) (by simp) rfl rfl rfl rfl rfl ?_;intro zs en d5 d2 b4 o S bc;have bs:=gQq (bv.out.trans (aC S bX.out (by simp)));have cw:=gQq o;have du:=bs.out.size;have el:zs.length<=2300:=(by rw[b4.out,AH,AO];omega);clear S bc o)|(at_builtin;refine gk cw.out 0 (by omega) du rfl rfl rfl rfl rfl rfl ?_;intro c7 cy d3 cc b9;have cs:=gQq cc;have cp:=gQq b9;clear cc b9)|fail)
      go_ret2;have c6:0::(y++[0])=zs++[0]:=(by rw[b4.out];rfl);have c5:(zs++[0]).length=zs.length+1:=(by simp);rw[c6];refine .inl ⟨a4.out,some ⟨c7,0,none⟩,cy,by rw[c5];rfl,(br.has cs.out).lower cd,a1.out.trans ((bs.out.trans cp.out).mono cd)⟩
  · have M:=gQq (a0.out.trans (hb.mono (by omega)));have cb:=lM (f:=f) (by have:=bT.out;omega) (by rw[D.out];exact L);have E:Y (J=aj):=(by show _=_;rw[bN.out,cb,D.out]);have b5:((aj:Int) != 0)=true:=(by rw[bne_iff_ne];omega);have ct:=gQq L;clear hb cb X D L;go_wp2;go_ret2;rw[E.out];exact aW ct.out M.out
theorem sx(f:Fr)(ai:f.kind=3)(cj:f.wf)(u:AV)(w:World)(ci:Hv w)(h:cm w u f):
    Calls AE 45 #[R u] w (kt w (Fr.err f) (0::(Fr.run f++[0]))):=by
  obtain⟨sp,bl,a5,a4,ah,ab,rfl,c8,c9,b6,d7,d8,b7,df,d9,b8⟩:=h.out;unfold aF;obtain⟨J,a9⟩:∃J,J=Fr.err f:=⟨_,rfl⟩;obtain⟨y,bi⟩:∃y,y=Fr.run f:=⟨_,rfl⟩;rw[<-a9,<-bi];have bv:=gQq a9;have b0:=gQq bi;have bO:=gQq ai;have b2:=gQq cj;have d1:=gQq b6;have d0:=gQq b7;have cp:=gQq b8;have cr:=gQq ci;have D:Y (encErr f=Fr.idxErr f.index):=by show _=_;unfold encErr;rw[AF (by omega),AF (by omega)]
  have X:Y (Fr.head f=3::(Fr.nums [f.index.at_,f.index.frames,f.index.rows,(f.index.entries.length:Int)]++(f.index.entries.map Fr.entB).flatten)):=by
    show _=_;unfold Fr.head Fr.fields;rw[AF (by omega),AF (by omega)];rw[ai];rfl
  rw[ai];obtain⟨w0,S⟩:∃w0,w0=w.alloc (C #[I U 3,I U f.number,O sp f.cols.length bl,I U f.seq,I U f.first,I U f.rows,O a5 f.block.length a4,I U f.index.at_,I U f.index.frames,I U f.index.rows,O ah f.index.entries.length ab] 52):=⟨_,rfl⟩;have eg:w0.1.size=w.1.size+1:=by rw[S];simp
  have cn:Y (F w.1.size w w0):=by rw[S];exact gQy
  have c0:w0.cell? ⟨w.1.size,0,none⟩=some (I U 3):=by rw[S];simp
  have b1:Y (w.alloc (C #[I U 3,I U f.number,O sp f.cols.length bl,I U f.seq,I U f.first,I U f.rows,O a5 f.block.length a4,I U f.index.at_,I U f.index.frames,I U f.index.rows,O ah f.index.entries.length ab] 52)=w0):=by rw[S];exact rfl
  have bN:=gQq (pn f.number sp f.cols.length bl f.seq f.first f.rows a5 f.block.length a4 f.index.at_ f.index.frames f.index.rows ah f.index.entries.length ab w0);clear a9 bi ai cj b6 b7 b8 ci h S;go_enter func45,ntmps45;go_wp2_with fail;rw[b1.out];refine bN.out.mono ?_;rintro e w1 ⟨rfl,hb⟩;have aw:=gQq (cn.out.trans (hb.mono (by omega)));have c1:=ae hb c0;have dr:=hb.size;clear hb bN b1 c0;have V:=gQq (rT f.index b2.out.2.2.2.2.2.2.1 b2.out.2.2.2.2.2.2.2 ah ab w1 df (cp.out.on aw.out));obtain⟨Z,a8⟩:∃Z,Z=Fr.idxErr f.index:=⟨_,rfl⟩;obtain⟨aj,bc⟩:∃aj,aj=(Fr.nums [f.index.at_,f.index.frames,f.index.rows,(f.index.entries.length:Int)]++(f.index.entries.map Fr.entB).flatten):=⟨_,rfl⟩;rw[<-a8,<-bc] at V;rw[<-a8] at D;rw[<-bc] at X;clear a8 bc;go_wp2_with fail;refine V.out.mono ?_;rintro e A (⟨K,q,cap,rfl,o,hb⟩ | ⟨K,rfl,hb⟩)
  · have L:=gQq (aw.out.trans (hb.mono (by omega)));have c2:=ae hb c1;have bj:=L.out.size;have bn:=gQq (pi o).1;have be:=pC (f:=f) (by have:=bO.out;omega) (D.out.trans K);have eb:aj.length<=5000:=by
      have c8:(Fr.head f).length=aj.length+1:=(by rw[X.out];rfl);have c9:(Fr.head f).length=(Fr.fields f).length+1:=rfl;have:=be.2;omega
    have bX:=gQq be.1;have a2:Y (Has (A.alloc (C #[I .u8 3] 5)) A.1.size (O (some ⟨A.1.size,0,none⟩) 1 1) [3]):=dB (B:=A.1.size) [3] rfl gQx (by decide);have a1:Y (F A.1.size A (A.alloc (C #[I .u8 3] 5))):=gQy;have bp:=gQq (bn.out.on a1.out);clear o hb V K be D c1 dr
    go_wp2_with (first|(at_builtin;refine aD (xs:=[3]) a2.out bp.out (by simp;omega) (by simp) rfl rfl rfl rfl rfl ?_;intro ak dv cx W cv o Q bb;have M:=gQq (a1.out.trans (aC Q a2.out (by simp)));have b3:=gQq o;clear Q bb o)|fail)
    have bk:ak=Fr.head f:=(by rw[cv.out,X.out];rfl);have ec:ak.length<=5001:=(by rw[bk,X.out,AI];omega);have cu:Y (y=Cob.stuff (Fr.check ak)):=(by show _=_;rw[b0.out,bk];rfl);have ds:=M.out.size;have c4:=ae M.out c2;refine(tb A.1.size dv cx ak (by omega) W (cr.out.next (L.out.trans (M.out.mono bj))) b3.out ds).mono ?_;rintro e w5 ⟨d6,em,d4,rfl,a7,ea,dj,hb⟩;rw[<-cu.out] at a7 dj ⊢;have a0:=gQq ((L.out.trans (M.out.mono bj)).trans (hb.mono bj));have cd:=a0.out.size;have cq:=gQq a7;have E:Y (J=if 2200<y.length then 2 else 0):=(by show _=_;rw[bv.out,bX.out,b0.out]);clear bk a7 hb c2 c4 b3 bX bn bp a2 a1 M;by_cases a6:2200<y.length
    · have b5:(2200:Int)<(y.length:Int):=(by omega);have a3:Y (J=2):=E.out.trans (AG a6);clear E a6;go_wp2;go_ret2;rw[a3.out];exact aW (by omega) a0.out
    · have b5:¬(2200:Int)<(y.length:Int):=(by omega);have a3:Y (J=0):=E.out.trans (AF a6);clear E;have bT:Y (Has (w5.alloc (C #[I .u8 0] 5)) w5.1.size (O (some ⟨w5.1.size,0,none⟩) 1 1) [0]):=dB (B:=w5.1.size) [0] rfl gQx (by decide);have bs:Y (F w5.1.size w5 (w5.alloc (C #[I .u8 0] 5))):=gQy;have ck:=gQq (cq.out.at.on bs.out)
      go_wp2_with (first|(at_builtin;refine aD (xs:=[0]) bT.out ck.out (by simp;omega) (by simp) rfl rfl rfl rfl rfl ?_;intro zs en d5 d2 b4 o Q bb;have bq:=gQq (bs.out.trans (aC Q bT.out (by simp)));have cw:=gQq o;have du:=bq.out.size;have el:zs.length<=2300:=(by rw[b4.out,AH,AO];omega);clear Q bb o)|(at_builtin;refine gk cw.out 0 (by omega) du rfl rfl rfl rfl rfl rfl ?_;intro c7 cy d3 cc b9;have cs:=gQq cc;have co:=gQq b9;clear cc b9)|fail)
      go_ret2;have c6:0::(y++[0])=zs++[0]:=(by rw[b4.out];rfl);have c5:(zs++[0]).length=zs.length+1:=(by simp);rw[c6];refine .inl ⟨a3.out,some ⟨c7,0,none⟩,cy,by rw[c5];rfl,(br.has cs.out).lower cd,a0.out.trans ((bq.out.trans co.out).mono cd)⟩
  · have L:=gQq (aw.out.trans (hb.mono (by omega)));have cb:=lM (f:=f) (by have:=bO.out;omega) (by rw[D.out];exact K);have E:Y (J=Z):=(by show _=_;rw[bv.out,cb,D.out]);have b5:((Z:Int) != 0)=true:=(by rw[bne_iff_ne];omega);have ct:=gQq K;clear hb cb V D K;go_wp2;go_ret2;rw[E.out];exact aW ct.out L.out
theorem sB(f:Fr)(o:f.kind≠1)(y:f.kind≠2)(A:f.kind≠3)(u:AV)(w:World)(h:cm w u f):
  Calls AE 45 #[R u] w (kt w (Fr.err f) (0::(Fr.run f++[0]))):=by
 obtain⟨sp,V,K,J,M,L,rfl,-⟩:=h.out;unfold aF;have Q:Fr.err f=60:=by
  have Z:Fr.err0 f=60:=by unfold Fr.err0;rw[AF o,AF y,AF A]
  unfold Fr.err;rw[Z];rfl
 rw[Q];have D:Y (∀S,F w.1.size w (w.alloc S)):=fun S=>gQy;have E:=gQq (pr f.kind o y A f.number sp f.cols.length V f.seq f.first f.rows K f.block.length J f.index.at_ f.index.frames f.index.rows M f.index.entries.length L (w.alloc (C #[I U f.kind,I U f.number,O sp f.cols.length V,I U f.seq,I U f.first,I U f.rows,O K f.block.length J,I U f.index.at_,I U f.index.frames,I U f.index.rows,O M f.index.entries.length L] 52)));clear h o y A Q;go_enter func45,ntmps45;go_wp2_with fail;refine E.out.mono ?_;rintro e w1 ⟨rfl,hb⟩;have X:=gQq ((D.out _).trans (hb.mono (D.out _).size));clear hb E;go_wp2;go_ret2;exact aW (by omega) X.out
theorem qD(f:Fr)(y:f.wf)(u:AV)(w:World)(o:Hv w)(h:cm w u f):
  Calls AE 45 #[R u] w (kt w (Fr.err f) (0::(Fr.run f++[0]))):=by
 by_cases A:f.kind=1
 ·exact sA f A y u w o h
 by_cases D:f.kind=2
 ·exact sy f D y u w o h
 by_cases E:f.kind=3
 ·exact sx f E y u w o h
 exact sB f A D E u w h
end
end Go.Proofs.YtngmnfdaedlodaaGreatDoor

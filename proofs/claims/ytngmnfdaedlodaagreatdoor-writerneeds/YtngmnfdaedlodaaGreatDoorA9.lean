import Derived.Test.YtngmnfdaedlodaaGreatDoorA7
set_option maxRecDepth 100000
set_option maxHeartbeats 4000000
namespace Go.Proofs.YtngmnfdaedlodaaGreatDoor
open Option renaming none->I
open Go.Value renaming int->U,slice->C,pointer->F
open Go.IntKind renaming i64->Y
variable{B g q qn t zb:Nat}{w1 wr:World}
section
namespace Al
structure Sure(q:Nat)(s:Dv.St):Prop where
 down:s.down=false
 bound:s.bound=false
 most:s.most=q
 len:s.b.length<=q
theorem write_sure{s:Dv.St}(h:Sure q s)(l:L8):Dv.write s l=if q<s.b.length+l.length then (52,s) else (0,{ s with b:=s.b++l,done:=s.done+l.length }):=by
 obtain⟨y,A,D,J⟩:=h;subst D;unfold Dv.write;rw[AJ (by simp[y]),lay_free l s A];by_cases o:s.most<s.b.length+l.length
 ·rw[AK ⟨fun E=>by rw[E] at o;simp at o;omega,o⟩,AK o]
 ·rw[AJ (fun h=>o h.2),AJ o];rfl
theorem write_keep{s:Dv.St}(h:Sure q s)(l:L8):Sure q (Dv.write s l).2:=by
 rw[write_sure h];split
 ·exact h
 ·exact⟨h.down,h.bound,h.most,by simp only[AU];omega⟩
theorem writes_keep{z:Wr}(h:Sure q z.s)(l:List Fr):Sure q (z.write l).2.s:=by
 have:=write_keep h (Wr.bytes l);unfold Wr.write;dsimp only;split <;> exact this
theorem sync_keep{s:Dv.St}(h:Sure q s):Sure q (Dv.sync s).2:=by
 unfold Dv.sync;split
 ·exact h
 ·exact⟨h.down,h.bound,h.most,h.len⟩
theorem cut_keep{s:Dv.St}(h:Sure q s)(n:Int):Sure q (Dv.cut s n).2:=by
 have o:Dv.may s=true:=by unfold Dv.may;rw[h.bound];rfl
 unfold Dv.cut;split
 ·exact h
 ·split
  ·exact h
  ·exact⟨h.down,h.bound,h.most,by
    have:=h.len;show(s.b.take n.toNat).length<=q;rw[AA]
    omega⟩
theorem do_keep{s:Dv.St}(h:Sure q s)(r:Except Nat Nat):Sure q (Rp.do_ s r).2.2:=by
 unfold Rp.do_;cases r with
 |error c=>exact h
 |ok K=>
  dsimp only;split
  ·exact h
  ·split <;> exact cut_keep h K
theorem opens_keep{s:Dv.St}(h:Sure q s)(c:List Col):Sure q (Wr.opens s c).2.2:=by
 unfold Wr.opens;split
 ·exact h
 ·split
  ·exact h
  ·dsimp only;split <;> exact do_keep h _
theorem does_keep(y:Op){z:Wr}(h:Sure q z.s):Sure q (does y z).2.s:=by
 unfold does;split
 ·unfold Wr.append;split
  ·exact h
  ·cases z.piece y.l with
   |error e=>exact h
   |ok p=>
    have:=writes_keep h p;dsimp only;unfold Wr.dare;dsimp only;split <;> exact this
 ·split
  ·unfold Wr.change;split
   ·exact h
   ·split <;> exact h
  ·split
   ·unfold Wr.sync;split
    ·exact h
    ·have:=sync_keep h;unfold Wr.dare;dsimp only;split <;> exact this
   ·split
    ·have o:Sure q z.index.2.2.s:=by
      unfold Wr.index;split
      ·exact h
      ·have:=writes_keep h [Wr.xFr ⟨(z.s.b.length:Nat),z.k.frames,z.k.rows,z.k.ents⟩];dsimp only;split <;> exact this
     unfold Wr.close;split
     ·exact h
     ·dsimp only;split
      ·exact o
      ·split <;> exact sync_keep o
    ·exact h
theorem step_keep(y:Op){o:Al}(A:y.kind≠7)(h:Sure q o.s):Sure q (step y o).2.s:=by
 unfold step;split
 ·exact opens_keep h y.c
 ·split
  ·have:Dv.start o.s=(6,o.s):=(by unfold Dv.start;rw[AJ (by simp[h.down])]);rw[this];exact h
  ·cases o.w with
   |none=>exact h
   |some u=>exact does_keep y (z:=⟨o.s,u.1,u.2.1,u.2.2⟩) h
theorem need_few(z:Wr)(o:List (List V)):(z.need o).1<=4404:=by
 unfold Wr.need;split
 ·exact Nat.zero_le _
 ·cases hp:z.piece o with
  |error e=>exact Nat.zero_le _
  |ok p=>
   have:=bytes_le p;have:=bytes_few z o p hp;show(Wr.bytes p).length<=_;omega
theorem need_says{z:Wr}(h:Sure q z.s)(o:List (List V)):
  ((z.need o).2≠0->(z.append o).1=(z.need o).2∧(z.need o).1=0∧(z.append o).2.s.b.length=z.s.b.length) ∧
  ((z.need o).2=0->(q<z.s.b.length+(z.need o).1->(z.append o).1=52∧(z.append o).2.s.b.length=z.s.b.length)∧(¬q<z.s.b.length+(z.need o).1->(z.append o).1=0∧(z.append o).2.s.b.length=z.s.b.length+(z.need o).1)):=by
 unfold Wr.need Wr.append;split
 ·exact⟨fun _=>⟨rfl,rfl,rfl⟩,fun h=>absurd h (by decide)⟩
 ·cases hp:z.piece o with
  |error e=>
   have:=piece_ne hp.symm;exact⟨fun _=>⟨rfl,rfl,rfl⟩,fun h=>absurd h this⟩
  |ok p=>
   refine⟨fun h=>absurd rfl h,fun _=>?_⟩;have A:=write_sure h (Wr.bytes p);dsimp only;unfold Wr.write Wr.dare;rw[A];refine⟨fun y=>?_,fun y=>?_⟩
   ·rw[AK y];exact⟨rfl,rfl⟩
   ·rw[AJ y];exact⟨rfl,by
     show(z.s.b++Wr.bytes p).length=_
     rw[AU]⟩
end Al
end
section
open Go.RowKit Go.Maps
structure lW(w1 wr:World)(B zb g t qn:Nat)(A:Al):Prop where
 out:∃O t1 nb,Sd wr B zb g (A.tl t1) O (fun _=>False) nb∧t1<=t*8000000000∧nb<=t*2097153
 fits:Dv.Fits A.s (2*t)
 sure:Al.Sure qn A.s
 below:Below B w1 wr
theorem lW.on{w':World}{o:Al}(h:lW w1 wr B zb g t qn o)(E:B<=wr.1.size)(hb:Below wr.1.size wr w'):lW w1 w' B zb g t qn o:=by
 obtain⟨y,J,nb,A,D⟩:=h.out;exact⟨⟨y,J,nb,A.on hb,D⟩,h.fits,h.sure,h.below.trans (hb.mono E)⟩
theorem lW.idle{o:Al}(h:lW w1 wr B zb g t qn o):lW w1 wr B zb g (t+1) qn o:=by
 obtain⟨y,J,nb,A,D,E⟩:=h.out;exact⟨⟨y,J,nb,A,AG D (Nat.mul_le_mul_right _ (Nat.le_succ t)),AG E (Nat.mul_le_mul_right _ (Nat.le_succ t))⟩,h.fits.up (Nat.mul_le_mul_left 2 (Nat.le_succ t)),h.sure,h.below⟩
theorem jX(ea:∀w,Hv w->He w->Calls Tryz.prog 6 #[] w fun e w'=>e=.returned (.bool true)∧Below w.1.size w w')(n:Int)(e6:Fr.i64 n)(l:List Op)(q:OA)(d:Nat)(R:List (List V))(d1:OA)(d0:Nat)(w:World)(ez:vd w q l)(hc:l.length<=2000000000000)(e0:cF w d1 d0 R)(ds:Hv w)(c6:He w):
  Calls Tryz.prog 5 #[U Y n,C q l.length d,C d1 R.length d0] w fun e w'=>e=.returned (.bool true)∧Below w.1.size w w':=by
 have d8:=gQq (ea w ds c6);have cp:=gQq ez;have cq:=gQq e0;have bN:=gQq ds;have f0:=gQq c6;have g0:=gQq e6;clear ez e0 ds c6 ea e6;go_enter Tryz.func5,Tryz.ntmps5;go_wp2_with fail;refine d8.out.mono ?_;rintro e w1 ⟨rfl,ab⟩;have a4:=gQq ab;clear d8 ab;by_cases n0:n<0
 ·go_wp2;go_ret;exact⟨rfl,a4.out⟩
 by_cases hj:1048576<n
 ·go_wp2;go_ret;exact⟨rfl,a4.out⟩
 by_cases hh:(40:Int)<(l.length:Int)
 ·go_wp2;go_ret;exact⟨rfl,a4.out⟩
 obtain⟨qn,rfl⟩:∃qn:Nat,n=(qn:Int):=⟨n.toNat,by omega⟩;have c7:qn<=1048576:=by omega
 have he:l.length<=40:=by omega
 have eb:=gQq (qd qn c7 w1);go_wp2_with fail;refine eb.out.mono ?_;rintro e L ⟨rfl,e4,e3⟩;have co:=gQq e4;have ck:=gQq e3;clear e4 e3 eb;have gq:=ck.out.size;have gd:=co.out.lt;obtain⟨a8,be⟩:∃W,W=L.alloc (.cells #[F (some ⟨w1.1.size,0,I⟩),F I,F I,F I] 32):=⟨_,rfl⟩;have c5:Below L.1.size L a8:=by rw[be];exact gQy
 have gs:a8.1.size=L.1.size+1:=by rw[be];simp
 have Q:a8.1[L.1.size]?=some (.cells #[F (some ⟨w1.1.size,0,I⟩),F I,F I,F I] 32 (0,0)):=by rw[be];exact am L _
 have cr:Hid (lW w1 a8 w1.1.size L.1.size w1.1.size 0 qn ⟨Dv.new qn,I⟩):=by
  refine⟨⟨fun i=>i=L.1.size∨i=w1.1.size,0,0,?_,gQx,gQx⟩,⟨gQx,Nat.zero_le _,c7,Nat.zero_le _⟩,⟨rfl,rfl,rfl,Nat.zero_le _⟩,ck.out.trans (c5.mono (by omega))⟩;exact⟨fun i hi=>⟨by omega,by omega⟩,.inl rfl,.inr rfl,fun i hi K=>K,fun i hi=>hi.elim,by omega,_,C I 0 0,0,0,Q,(fun i hi=>nomatch hi),co.out.below c5,rfl⟩
 have f6:=gQq be.symm;obtain⟨B,b1⟩:∃B,B=w1.1.size:=⟨_,rfl⟩;obtain⟨z1,e9⟩:∃z1,z1=L.1.size:=⟨_,rfl⟩;have bb:w.1.size<=B:=by rw[b1];exact a4.out.size
 have g8:B<=a8.1.size:=by omega
 have ew:2<B:=AF bN.out.lt bb;have gN:=gQq b1;clear Q c5 be;go_wp2_with fail;rw[f6.out];rw[<-b1,<-e9] at cr ⊢;clear gq gd gs b1 e9 co ck;go_loopw [45] (fun d2 wr=>∃(t:Nat) (X:Al),t<=l.length∧d2=U Y t∧Hid (lW w1 wr B z1 B t qn X)) (fun d2 _=>l.length-(intOf d2).toNat);case atStart=>exact⟨0,_,by omega,rfl,cr⟩
 case round=>
  obtain⟨t,X,hf,rfl,D⟩:=hrel;clear cr;have A:=a4.out.trans (D.out.below.mono bb);by_cases dr:t<l.length
  ·have f9:(t:Int)<(l.length:Int):=(by omega);obtain⟨b,a0,p,c,fi,rd,rfl,ha,ah,df,c8,b9,b8⟩:=(cp.out.on A) t dr;obtain⟨o,bk⟩:∃o,o=l[t]:=⟨_,rfl⟩;rw[<-bk] at ah df c8 b9 b8;obtain⟨aj,S⟩:∃aj,aj=o.kind:=⟨_,rfl⟩;have hs:wr.cell? ⟨b,a0+t*5,I⟩=some (U Y aj):=(by rw[S];exact ah 0 (by omega));have gz:wr.cell? ⟨b,a0+t*5+1,I⟩=some (C p o.c.length c):=ah 1 (by omega);have gL:wr.cell? ⟨b,a0+t*5+2,I⟩=some (C fi o.l.length rd):=ah 2 (by omega);have ht:wr.cell? ⟨b,a0+t*5+3,I⟩=some (U Y o.n):=ah 3 (by omega);have hu:wr.cell? ⟨b,a0+t*5+4,I⟩=some (U Y o.m):=ah 4 (by omega);obtain⟨g2,hk,bp,a9,bs,bq,bl,-,b4,cd,cc,-,-⟩:=cp.out t dr;have gm:bp=p∧a9=c∧bs=fi∧bq=rd:=by
    injection bl with bl;injection bl with an e2 _;subst an e2;have er:=b4 1 (by omega);have ev:=b4 2 (by omega);rw[<-bk] at er ev;have bX:=ae A (p:=⟨b,a0+t*5+1,I⟩) er;have b0:=ae A (p:=⟨b,a0+t*5+2,I⟩) ev;rw[gz] at bX;rw[gL] at b0;injection bX with bX;injection bX with h5 _ h6;injection b0 with b0;injection b0 with h7 _ h8;exact⟨h5.symm,h6.symm,h7.symm,h8.symm⟩
   obtain⟨rfl,rfl,rfl,rfl⟩:=gm;rw[<-bk] at cd cc;have d7:Hid (∀w',Below w.1.size w w'->ed w' bp a9 o.c∧cF w' bs bq o.l):=fun w' hb=>⟨cd.on hb,cc.on hb⟩;obtain⟨em,bc⟩:∃W,W=wr.alloc (.cells #[U Y aj,C bp o.c.length a9,C bs o.l.length bq,U Y o.n,U Y o.m] 38):=⟨_,rfl⟩;have ab:Below wr.1.size wr em:=(by rw[bc];exact gQy);have Q:em.1[wr.1.size]?=some (.cells #[U Y aj,C bp o.c.length a9,C bs o.l.length bq,U Y o.n,U Y o.m] 38 (0,0)):=(by rw[bc];exact am wr _);have b2:B<=wr.1.size:=by
    obtain⟨O,ak,nb,E,-⟩:=D.out.out;have:=E.low z1 E.ozb;omega
   have a1:=gQq (D.out.on b2 ab);have a2:=A.trans (ab.mono A.size);have ec:=gQq bc.symm;have hn:=aa Q 0;have ho:=aa Q 1;have hp:=aa Q 2;have hq:=aa Q 3;have hr:=aa Q 4;by_cases bn:aj=7
   ·have f8:(aj != 7)=false:=(by rw[bn];rfl);have f4:=gQq a1.out.idle;clear ah df c8 b9 b8 b4 cd cc bl ab Q bc a2 bk A D bn S;go_wp2;rw[ec.out];go_roundw;case rel=>exact⟨t+1,_,by omega,by go_num,f4⟩
    case measure=>simp[intOf];omega
   ·have f8:(aj != 7)=true:=(by rw[bne_iff_ne];exact bn);obtain⟨O,ak,nb,E,e8,e7⟩:=a1.out.out;have a3:Dv.Fits X.s (2*t):=a1.out.fits;have d4:=gQq (wN E o bp bs a9 bq (fun w' hb=>(d7.out w' (a2.trans (hb.mono bb))).1) (fun w' hb=>(d7.out w' (a2.trans (hb.mono bb))).2) b9 b8 (i:=2*t) ⟨a3.safe,a3.len,a3.most,a3.done⟩ (by omega) (by show ak<=_;omega) (by omega) (bN.out.next a2) (f0.out.on a2) ew);rw[<-S] at d4;have f2:=gQq E;have fs:=gQq a1.out.below;have fv:=gQq (AG b2 ab.size);have f3:=gQq (Al.step_keep o (by rw[<-S];exact bn) a1.out.sure);have fx:=gQq (Al.step_fit o X a3);clear ah df c8 b9 b8 b4 cd cc bl ab Q bc E a2 a3 bk A D a1 bn S;go_wp2_with fail;rw[ec.out];refine d4.out.mono ?_;rintro e2 L ⟨rfl,⟨gt,hg,c9⟩,e1⟩;rw[Al.step_tl2] at c9;have f5:Hid (lW w1 L B z1 B (t+1) qn (Al.step o X).2):=⟨⟨_,gt,nb+2097153,c9.other (E':=fun _=>False) (af gQz _) (fun _ hi=>hi.elim) (fun _ hi=>hi.elim),by have:(X.tl ak).s.told=ak:=rfl;omega,by omega⟩,fx.out,f3.out,fs.out.trans (e1.below fv.out (fun i hi K=>by have:=(f2.out.low i K).1;omega))⟩;clear c9 e1;go_wp2;go_roundw;case rel=>exact⟨t+1,_,by omega,by go_num,f5⟩
    case measure=>simp[intOf];omega
  ·have f9:¬(t:Int)<(l.length:Int):=(by omega);clear dr;obtain⟨O,ak,nb,E,e8,e7⟩:=D.out.out;obtain⟨wp,v,x,k,dv,cb,S,b7⟩:=E.out;have z2:=aa dv 2;obtain⟨cs,cy⟩:∃cs,cs=(X.tl ak).w:=⟨_,rfl⟩;rw[<-cy] at b7;cases cs with
   |none=>
    simp only at b7;subst b7;have bv:=gQq A;clear A E dv cb S cy D;go_wp2;go_ret;exact⟨rfl,bv.out⟩
   |some u=>
    obtain⟨a,m,M,n,e,g6,q,cap,rfl,gl,eC,haz,eL,b6⟩:=b7;obtain⟨J,bi⟩:∃J:Wr,J=⟨(X.tl ak).s,u.1,u.2.1,u.2.2⟩:=⟨_,rfl⟩;rw[<-bi] at b6;have dj:Al.Sure qn J.s:=(by rw[bi];exact⟨D.out.sure.down,D.out.sure.bound,D.out.sure.most,D.out.sure.len⟩);have b5:Dv.Fits J.s (2*t):=(by rw[bi];exact⟨D.out.fits.safe,D.out.fits.len,D.out.fits.most,D.out.fits.done⟩);have gh:J.s.b.length<=1048576:=AG dj.len c7;obtain⟨T,cw⟩:∃T,T=J.s.b.length:=⟨_,rfl⟩;have fc:(X.tl ak).s=J.s:=(by rw[bi]);rw[fc] at S;have bO:=j9 S;rw[<-cw] at bO gh;have bO:=gQq bO;obtain⟨a6,b3⟩:∃a6,a6=(J.need R).1:=⟨_,rfl⟩;obtain⟨a7,cv⟩:∃a7,a7=(J.need R).2:=⟨_,rfl⟩;obtain⟨cj,ct⟩:∃cj,cj=(J.append R).1:=⟨_,rfl⟩;obtain⟨d3,cu⟩:∃d3,d3=(J.append R).2.s.b.length:=⟨_,rfl⟩;have aw:=Al.need_says dj R;rw[<-b3,<-cv,<-ct,<-cu,<-cw] at aw;have gb:=Al.need_few J R;rw[<-b3] at gb;have a5:=qg b6 (cq.out.on A) (bN.out.next A);rw[<-b3,<-cv] at a5;have a5:=gQq a5;have d6:Hid (∀y,Below wr.1.size wr y->Calls Tryz.prog 15 #[F (some ⟨a,0,I⟩),C d1 R.length d0] y fun en w'=>en=.returned (U Y (cj:Nat))∧Apd y B a B m M n v e q cap (J.append R).2 (fun i=>False∨i=z1) w'):=fun y du=>by
     have:=ig (b6.on du) ⟨fun K=>K.elim id haz,fun K=>K.elim id E.zg,fun i hi K=>K.elim id (cb i hi).2⟩ (cq.out.on (A.trans (du.mono A.size))) (bN.out.next (A.trans (du.mono A.size))) ew (by omega) b5.safe (by omega) (by have:=b5.most;omega) (by have:=b5.done;omega);rw[<-ct] at this;exact this
    have d9:Hid (∀i,(i=a∨(i=B∨v.ownBlock=some i)∨bz m M e i)->B<=i):=fun i hi=>by
     rcases hi with hi | (hi | hi) | hi
     ·rw[hi];exact(E.low a eC).1
     ·omega
     ·exact(E.low i (cb i hi).1).1
     ·exact(E.low i (eL i hi)).1
    have bv:=gQq A;have g1:=gQq z2;have fy:=gQq cu;have b2:B<=wr.1.size:=(by have:=E.low z1 E.ozb;omega);clear A E dv cb S cy D gl eC haz eL b6 bi dj b5 fc b3 cv ct cu cw e8 e7 cp cq;go_wp2_with fail;refine bO.out.mono ?_;rintro g3 w4 ⟨rfl,rfl⟩;go_wp2_with fail;refine a5.out.mono ?_;rintro g4 w5 ⟨rfl,bj⟩;have hv:=ae bj z2;have d5:=gQq (d6.out w5 bj);have fq:=gQq (bv.out.trans (bj.mono bv.out.size));have gn:=bj.size;clear bj z2 d6 a5;go_wp2_with fail;refine d5.out.mono ?_;rintro g5 hl ⟨rfl,cx⟩;obtain⟨v',en,hm,k',g7,e5,-,-⟩:=cx.out;have Z:=j9 e5.dev;rw[<-fy.out] at Z;have Z:=gQq Z;have cn:=gQq (fq.out.trans ((cx.aside.below (AG b2 gn) (fun i hi K=>by have:=d9.out i K;omega)).mono bb));clear cx e5 d5 d9;by_cases bT:a7=0
    ·have f7:((a7:Int) != 0)=false:=(by rw[bT];rfl);by_cases c:qn<T+a6
     ·obtain⟨an,e2⟩:=(aw.2 bT).1 c;have c1:(qn:Int)<(T:Int)+(a6:Int):=(by omega);rw[e2] at Z;subst an;clear aw e2 c;go_wp2_with fail;refine Z.out.mono ?_;rintro eq fo ⟨rfl,rfl⟩;go_wp2;go_ret;exact⟨by simp,cn.out⟩
     ·obtain⟨an,e2⟩:=(aw.2 bT).2 c;have c1:¬(qn:Int)<(T:Int)+(a6:Int):=(by omega);rw[e2] at Z;subst an;clear aw e2 c;go_wp2_with fail;refine Z.out.mono ?_;rintro eq fo ⟨rfl,rfl⟩;go_wp2;go_ret;exact⟨by simp,cn.out⟩
    ·have f7:((a7:Int) != 0)=true:=(by rw[bne_iff_ne];omega);obtain⟨an,e2,ep⟩:=aw.1 bT;rw[ep] at Z;subst an e2;clear aw ep;go_wp2_with fail;refine Z.out.mono ?_;rintro eq fo ⟨rfl,rfl⟩;go_wp2;go_ret;exact⟨by simp,cn.out⟩
end
end Go.Proofs.YtngmnfdaedlodaaGreatDoor

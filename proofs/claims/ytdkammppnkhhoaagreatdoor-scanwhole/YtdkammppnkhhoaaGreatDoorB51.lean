import Derived.Test.YtdkammppnkhhoaaGreatDoorB36
import Derived.Test.YtdkammppnkhhoaaGreatDoorA11
set_option maxRecDepth 100000
set_option maxHeartbeats 8000000
namespace Go.Proofs.YtdkammppnkhhoaaGreatDoor
variable{w w1:World}{t:L8}{d0 d1 d10 d2 d3 d4 d5 d6 d7 d8 d9:Value}
section
open Go.RowKit
theorem kO{i:Nat}(A:i<t.length)(y:t[i]=0)(I:∀j (D:j<t.length),j<i->t[j]≠0):t.findIdx (·==0)=i:=by
 have e:t=t.take i++0::t.drop (i+1):=by
  rw[<-y,<-List.drop_eq_getElem_cons A,List.take_append_drop]
 have E:(t.take i).length=i:=by rw[List.length_take];omega
 have o:=Sc.findIdx_pre (t.take i) (t.drop (i+1)) (fun c z=>by
  obtain⟨j,D,rfl⟩:=List.getElem_of_mem z;rw[List.getElem_take]
  exact I j (by omega) (by omega))
 rw[<-e,E] at o;exact o
theorem kN(y:∀j (z:j<t.length),t[j]≠0):¬t.findIdx (·==0)<t.length:=by
 intro h;have o:=List.findIdx_getElem (w:=h);exact y _ h (by simpa using o)
section
variable {w:World} {B g:Nat} {v:Value} {s:Dv.St}
theorem jn(hb:w1.1[w.1.size]?=some (.cells #[d0,d1,d2,d3,d4,d5,d6,d7,d8,d9,d10] 47 (0,0)))(K:Aside (fun k=>k=g) w w1)(h:aZ w1 B g v s)(M:g<w.1.size)(c0 c1 c2 c3 c4 y z A D E o:Value):
  (cA w1 w.1.size c0 c1 c2 c3 c4 y z A D E o).1[w.1.size]?=some (.cells #[c0,c1,c2,c3,c4,y,z,A,D,E,o] 47 (0,0))∧aZ (cA w1 w.1.size c0 c1 c2 c3 c4 y z A D E o) B g v s∧Aside (fun k=>k=g) w (cA w1 w.1.size c0 c1 c2 c3 c4 y z A D E o):=by
 have J:=ay w1 w.1.size c0 c1 c2 c3 c4 y z A D E o;refine⟨aA hb _ _ _ _ _ _ _ _ _ _ _,h.aside J (by omega) (fun j L I=>?_),K.trans J (fun i O I=>by omega)⟩;have:=dk h.has hb (by decide);exact this (by rw[L,I])
theorem eM(hb:w1.1[w.1.size]?=some (.cells #[d0,d1,d2,d3,d4,d5,d6,d7,d8,d9,d10] 47 (0,0)))(J:Aside (fun k=>k=g) w w1)(h:aZ w1 B g v s)(K:g<w.1.size)(c0 c1 c2 c3 c4 z A D E I y:Value)(o:Obj):
  (cA (w1.alloc o) w.1.size c0 c1 c2 c3 c4 z A D E I y).1[w.1.size]?=some (.cells #[c0,c1,c2,c3,c4,z,A,D,E,I,y] 47 (0,0))∧aZ (cA (w1.alloc o) w.1.size c0 c1 c2 c3 c4 z A D E I y) B g v s∧Aside (fun k=>k=g) w (cA (w1.alloc o) w.1.size c0 c1 c2 c3 c4 z A D E I y):=by
 exact jn ((aG _ o (az hb)).trans hb) (J.alloc o) (h.below (xY.alloc xZ o)) K c0 c1 c2 c3 c4 z A D E I y
theorem jX(h:aZ w B g v s)(hd:s.down=false)(Y:s.b.length<=2097152)(p:Int)(o:Nat)(M:(o=7∧(p<0∨(s.b.length:Int)<p))∨(o=140∧p=(s.b.length:Int))):
  Calls Tryz.prog 31 #[.pointer (some ⟨g,0,none⟩),.int .i64 p] w fun e w'=>e=.returned (.tuple #[.agg cJ,.int .i64 0,.int .i64 (o:Nat)])∧aZ w' B g v s∧Aside (fun k=>k=g) w w':=by
 obtain⟨y,E⟩:∃y,y=w.alloc (.cells cJ 47):=⟨_,rfl⟩;have z:Below w.1.size w y:=by rw[E];exact xV
 have I:y.1[w.1.size]?=some (.cells cJ 47 (0,0)):=by rw[E];exact ag w _
 have W:Hid (w.alloc (.cells #[.int .i64 0,.int .i64 0,.slice none 0 0,.int .i64 0,.int .i64 0,.int .i64 0,.slice none 0 0,.int .i64 0,.int .i64 0,.int .i64 0,.slice none 0 0] 47)=y):=E.symm;have J:=xX (jn (w:=w) I (ae z _) (h.below z) h.lt (.int .i64 0) (.int .i64 0) (.slice none 0 0) (.int .i64 0) (.int .i64 0) (.int .i64 0) (.slice none 0 0) (.int .i64 0) (.int .i64 0) (.int .i64 0) (.slice none 0 0));have L:=xX (rE (h.below z));rw[hd] at L;have K:=xX (oO (h.below z));obtain⟨n,V⟩:∃n,n=s.b.length:=⟨_,rfl⟩;rw[<-V] at K M Y;obtain⟨ah,aj,a0,a1,a2,a3,a4,a5,a6,a7,ak⟩:=aO I;obtain⟨a8,a9,bc,bd,be,bj,bk,bl,bn,bp,bb⟩:=ef I;clear E z I h V hd;have X:(o=7∧decide (p<0)=true)∨(o=7∧decide (p<0)=false∧(n:Int)<p)∨(o=140∧decide ((n:Int)<0)=false∧p=(n:Int)):=by
  rcases M with ⟨D,R⟩ | ⟨D,R⟩
  ·by_cases U:p<0
   ·exact .inl ⟨D,decide_eq_true U⟩
   ·exact .inr (.inl ⟨D,decide_eq_false U,by omega⟩)
  ·exact .inr (.inr ⟨D,decide_eq_false (by omega),R⟩)
 clear M;go_enter Tryz.func31,Tryz.ntmps31;go_wp2_with fail;rw[W.out];refine L.out.mono ?_;rintro e w' ⟨rfl,A⟩;rw[A];clear A w' L;go_wp2_with fail;refine K.out.mono ?_;rintro e w' ⟨rfl,A⟩;rw[A];clear A w' K;rcases X with ⟨rfl,O⟩ | ⟨rfl,O,Z⟩ | ⟨rfl,O,rfl⟩
 all_goals
  go_wp2;refine bodyPost_ret (af rfl _ _ w.1.size _ _ _ _ rfl J.out.1 Tryz.underlying47 rfl (by kernel_rfl)) rfl ?_;exact⟨rfl,J.out.2.1,J.out.2.2⟩
end
end
section
open Go.RowKit
section
variable {w:World} {B g:Nat} {v:Value} {s:Dv.St}
theorem rP(h:aZ w B g v s)(hd:s.down=false)(fx:s.b.length<=2097152)(f4:s.told+s.b.length<=9223372036854775807)(p:Nat)(f2:p<s.b.length)(E:L8)(bl:E=(s.b.drop p).take 2202):
  Calls Tryz.prog 31 #[.pointer (some ⟨g,0,none⟩),.int .i64 p] w fun e w'=>AtA (match Sc.runOf E with
   |.error e=>.error e
   |.ok r=>match Fr.dec r with
    |.error e=>.error e
    |.ok f=>.ok (f,p+r.length+2)) w e w'∧aZ w' B g v { s with told:=s.told+E.length }∧Aside (fun k=>k=g) w w':=by
 obtain⟨U,W⟩:∃U,U=w.alloc (.cells cJ 47):=⟨_,rfl⟩;have M:Below w.1.size w U:=by rw[W];exact xV
 have fv:U.1[w.1.size]?=some (.cells cJ 47 (0,0)):=by rw[W];exact ag w _
 have hc:U.1.size=w.1.size+1:=by rw[W];simp
 have ec:=h.lt;have g6:=h.base;have gl:Hid (w.alloc (.cells #[.int .i64 0,.int .i64 0,.slice none 0 0,.int .i64 0,.int .i64 0,.int .i64 0,.slice none 0 0,.int .i64 0,.int .i64 0,.int .i64 0,.slice none 0 0] 47)=U):=W.symm;have c7:=xX (rE (h.below M));rw[hd] at c7;have c5:=xX (oO (h.below M));have df:=ud (h.below M) (p:Int) 2202 (by omega) (by omega) (by omega) (by omega) f4;have R:Dv.read s (p:Int) 2202=((s.b.drop p).take 2202,0,{ s with told:=s.told+((s.b.drop p).take 2202).length }):=by
  unfold Dv.read;rw[if_neg (by omega)];simp
 rw[R,<-bl] at df;have ha:(p:Int)<=2097152:=by omega
 have gs:E.length<=2202:=by rw[bl,List.length_take];omega
 have Z:E≠[]:=by
  intro ds;rw[bl] at ds;have:=congrArg List.length ds;simp only[List.length_take,List.length_drop,List.length_nil] at this;omega
 obtain⟨y,dp⟩:∃y,y=(match Sc.runOf E with
   |.error e=>.error e
   |.ok r=>match Fr.dec r with
    |.error e=>.error e
    |.ok f=>.ok (f,p+r.length+2):Except Nat (Fr×Nat)):=⟨_,rfl⟩
 rw[<-dp];obtain⟨n,f0⟩:∃n,n=s.b.length:=⟨_,rfl⟩;rw[<-f0] at c5 f2 fx;have g1:decide ((p:Int)<0)=false:=decide_eq_false (by omega);have g2:decide ((n:Int)<(p:Int))=false:=decide_eq_false (by omega);have g3:((p:Int)==(n:Int))=false:=by rw[beq_eq_false_iff_ne];omega
 have g4:decide (n<p)=false:=decide_eq_false (by omega);have g5:(p==n)=false:=by rw[beq_eq_false_iff_ne];omega
 have eU:=xX df;have eL:=xX fv;have ez:=xX M;have a0:=xX dp;clear W M fv h hd fx f4 f2 df bl dp R f0;go_enter Tryz.func31,Tryz.ntmps31;go_wp2_with fail;rw[gl.out];refine c7.out.mono ?_;rintro e w' ⟨rfl,ah⟩;rw[ah];clear ah w' c7;go_wp2_with fail;refine c5.out.mono ?_;rintro e w' ⟨rfl,ah⟩;rw[ah];clear ah w' c5;go_wp2_with fail;refine eU.out.mono ?_;rintro e w1 ⟨q,cap,rfl,bq,bs,bn⟩;obtain⟨D,rfl,fy,-⟩:=fw bq Z;have ea:bR w1 D 0 E:=fy.free.2.1;obtain⟨hi,gL,dv,-,gn⟩:=bq.at;injection dv with hq1 _ dv;subst hq1;subst dv;obtain⟨c,t,rfl⟩:∃c t,E=c::t:=by
  cases E with
  |nil=>exact absurd rfl Z
  |cons c t=>exact⟨c,t,rfl⟩
 rw[List.length_cons] at gs gn bs ⊢;have Y:w1.1[w.1.size]?=some (.cells cJ 47 (0,0)):=(bn.block _ (by omega) (by omega)).trans eL.out;have dr:Aside (fun k=>k=g) w w1:=(ae ez.out _).trans bn (fun _ _ h=>h);have he:=bn.size;have gd:Hid (D<w1.1.size):=(bq.lt D rfl).2;have eC:=xX ea;have f8:w1.cell? ⟨D,0,none⟩=some (.int .u8 (c.toNat:Nat)):=ea 0 (by simp);have HBad:=xX (jn (w:=w) Y dr bs ec (.int .i64 0) (.int .i64 0) (.slice none 0 0) (.int .i64 0) (.int .i64 0) (.int .i64 0) (.slice none 0 0) (.int .i64 0) (.int .i64 0) (.int .i64 0) (.slice none 0 0));have eS:=xX bs;have ak:=xX Y;have ew:=xX dr;obtain⟨b0,b1,b3,b4,b5,b6,b7,b8,b9,cb,b2⟩:=aO Y;obtain⟨cc,ci,ck,cn,co,cp,cq,cs,ct,cv,cj⟩:=ef Y;clear bq fy ea bs Y dr bn eU eL ez Z;by_cases X:c≠0
 ·have gN:((c.toNat:Int) != 0)=true:=by
   rw[bne_iff_ne];intro eq;exact X (UInt8.toNat_inj.1 (by simpa using eq))
  have z:Hid (y=.error 141):=by show y=_;rw[a0.out,Sc.runOf_cons,if_pos X]
  clear a0 X;go_wp2;refine bodyPost_ret (af rfl _ _ w.1.size _ _ _ _ rfl HBad.out.1 Tryz.underlying47 rfl (by kernel_rfl)) rfl ?_;rw[z.out];exact⟨rfl,HBad.out.2.1,HBad.out.2.2⟩
 obtain rfl:c=0:=by simpa using X
 have hj:w1.cell? ⟨D,0,none⟩=some (.int .u8 0):=f8
 have L:Hid (y=match Sc.runT (t.length+1) t with
   |.error e=>.error e
   |.ok r=>match Fr.dec r with
    |.error e=>.error e
    |.ok f=>.ok (f,p+r.length+2)):=by
  show y=_;rw[a0.out,Sc.runOf_cons,if_neg (by simp)]
 clear a0 X f8;go_wp2_with fail;go_loopw [11] (fun eu wr=>∃i:Nat,i<=t.length∧eu=.int .i64 ((i+1:Nat):Int)∧wr=w1∧Hid (∀j (J:j<t.length),j<i->t[j]≠0)) (fun eu _=>t.length+1-(intOf eu).toNat);case atStart=>exact⟨0,by omega,rfl,rfl,fun j J ds=>by omega⟩
 case round=>
  obtain⟨i,g7,rfl,f6,O⟩:=hrel;rw[f6];clear f6 wr;have g8:(i:Int)<=2202:=by omega
  by_cases bN:i<t.length
  case' pos=>
   have f1:(i:Int)+1<(t.length:Int)+1:=(by omega);have gm:((i+1:Nat):Int)<(t.length:Int)+1:=(by omega);obtain⟨aj,ep⟩:∃aj,aj=t[i]:=⟨_,rfl⟩;have f9:w1.cell? ⟨D,i+1,none⟩=some (.int .u8 (aj.toNat:Nat)):=by
    have:=eC.out (i+1) (by simpa using bN);rw[ep];simpa using this
   have e0:=xX ep;clear ep;by_cases bO:aj=0
   case' neg=>
    have g0:((aj.toNat:Int) != 0)=true:=by
     rw[bne_iff_ne];intro eq;exact bO (UInt8.toNat_inj.1 (by simpa using eq))
    have gf:Hid (∀j (J:j<t.length),j<i+1->t[j]≠0):=fun j J fo=>by
     by_cases gq:j=i
     ·subst gq;rw[<-e0.out];exact bO
     ·exact O.out j J (by omega)
    clear HBad b0 b1 b3 b4 b5 b6 b7 b8 b9 cb b2 cc ci ck cn co cp cq cs ct cv cj;go_wp2;go_roundw;case rel=>exact⟨i+1,by omega,by go_num,trivial,gf⟩
    case measure=>simp[intOf];omega
   case' pos=>
    have A:=kO bN (by rw[<-e0.out];exact bO) (fun j J fo=>O.out j J fo);have hk:w1.cell? ⟨D,i+1,none⟩=some (.int .u8 0):=(by rw[f9,bO];rfl);clear f9;by_cases el:i=0
    ·have z:Hid (y=.error 4):=by
      show y=_;rw[L.out];unfold Sc.runT;rw[if_pos (by rw[A];exact bN),if_pos (by rw[A];exact el)]
     subst el;clear L A O;go_wp2;refine bodyPost_ret (af rfl _ _ w.1.size _ _ _ _ rfl HBad.out.1 Tryz.underlying47 rfl (by kernel_rfl)) rfl ?_;rw[z.out];exact⟨rfl,HBad.out.2.1,HBad.out.2.2⟩
    ·obtain⟨r,R⟩:∃r,r=t.take i:=⟨_,rfl⟩;have en:r.length=i:=by rw[R,List.length_take];omega
     have z:Hid (y=match Fr.dec r with
      |.error e=>.error e
      |.ok f=>.ok (f,p+r.length+2)):=by
      show y=_;rw[L.out];unfold Sc.runT;rw[if_pos (by rw[A];exact bN),if_neg (by rw[A];exact el),A,<-R]
     have f3:bR w1 D 1 r:=fun j J=>by
      have fr:j<t.length:=(by omega);have c9:=eC.out (j+1) (Nat.succ_lt_succ fr);rw[show 1+j=0+(j+1) by omega,c9];have V:((0:UInt8)::t)[j+1]'(Nat.succ_lt_succ fr)=r[j]:=by
       show t[j]=r[j];simp[R]
      rw[V]
     have dd:=lY (some ⟨D,1,none⟩) (cap-1) r (by omega) w1 (.inr ⟨D,1,rfl,gd.out,f3⟩);rw[en] at dd;have cw:=xX dd;have gh:=xX en;have hf:((i:Int)+1==1)=false:=(by rw[beq_eq_false_iff_ne];omega);have hg:(((i+1:Nat):Int)==1)=false:=(by rw[beq_eq_false_iff_ne];omega);clear L A O dd R f3 HBad b0 b1 b3 b4 b5 b6 b7 b8 b9 cb b2 cc ci ck cn co cp cq cs ct cv cj en;go_wp2_with fail;refine cw.out.mono ?_;intro e f7 V;obtain⟨c8,bp⟩:∃c8,c8=Fr.dec r:=⟨_,rfl⟩;rw[<-bp] at V z;cases c8 with
     |error er=>
      obtain⟨rfl,I⟩:=V;have Z:=jk bp.symm;have hh:((er:Int) != 0)=true:=(by rw[bne_iff_ne];omega);have c6:Hid (y=.error er):=z.out;have K:=(I.block _ (az ak.out)).trans ak.out;have HBad:=xX (eM (w:=w) K (ew.out.trans (ae I (fun k=>k=g)) (fun _ _ h=>h)) (eS.out.below I) ec (.int .i64 0) (.int .i64 0) (.slice none 0 0) (.int .i64 0) (.int .i64 0) (.int .i64 0) (.slice none 0 0) (.int .i64 0) (.int .i64 0) (.int .i64 0) (.slice none 0 0));obtain⟨b0,b1,b3,b4,b5,b6,b7,b8,b9,cb,b2⟩:=dD K;obtain⟨cc,ci,ck,cn,co,cp,cq,cs,ct,cv,cj⟩:=dh K;clear I Z bp z K cw;go_wp2;refine bodyPost_ret (af rfl _ _ w.1.size _ _ _ _ rfl (HBad.out _).1 Tryz.underlying47 rfl (by kernel_rfl)) rfl ?_;rw[c6.out];exact⟨rfl,(HBad.out _).2.1,(HBad.out _).2.2⟩
     |ok f=>
      obtain⟨u,rfl,eb,I⟩:=V;have c6:Hid (y=.ok (f,p+r.length+2)):=z.out;obtain⟨sp,bX,be,bd,bk,bj,f5,-⟩:=eb.out;unfold aB at f5;subst f5;have cy:=xX eb;obtain⟨a1,M⟩:∃x,x=f.kind:=⟨_,rfl⟩;obtain⟨a2,e1⟩:∃x,x=f.number:=⟨_,rfl⟩;obtain⟨a4,fi⟩:∃x,x=f.cols.length:=⟨_,rfl⟩;obtain⟨a5,e3⟩:∃x,x=f.seq:=⟨_,rfl⟩;obtain⟨a6,e4⟩:∃x,x=f.first:=⟨_,rfl⟩;obtain⟨a7,e5⟩:∃x,x=f.rows:=⟨_,rfl⟩;obtain⟨a8,e6⟩:∃x,x=f.block.length:=⟨_,rfl⟩;obtain⟨a9,e7⟩:∃x,x=f.index.at_:=⟨_,rfl⟩;obtain⟨bb,e8⟩:∃x,x=f.index.frames:=⟨_,rfl⟩;obtain⟨bc,e9⟩:∃x,x=f.index.rows:=⟨_,rfl⟩;obtain⟨a3,e2⟩:∃x,x=f.index.entries.length:=⟨_,rfl⟩;rw[<-M,<-e1,<-fi,<-e3,<-e4,<-e5,<-e6,<-e7,<-e8,<-e9,<-e2] at cy ⊢;have K:=(I.block _ (az ak.out)).trans ak.out;have cx:=xX (eM (w:=w) K (ew.out.trans (ae I (fun k=>k=g)) (fun _ _ h=>h)) (eS.out.below I) ec (.int .i64 a1) (.int .i64 a2) (.slice sp a4 bX) (.int .i64 a5) (.int .i64 a6) (.int .i64 a7) (.slice be a8 bd) (.int .i64 a9) (.int .i64 bb) (.int .i64 bc) (.slice bk a3 bj));have gb:Hid (∀o,cT (cA (f7.alloc o) w.1.size (.int .i64 a1) (.int .i64 a2) (.slice sp a4 bX) (.int .i64 a5) (.int .i64 a6) (.int .i64 a7) (.slice be a8 bd) (.int .i64 a9) (.int .i64 bb) (.int .i64 bc) (.slice bk a3 bj)) w.1.size #[.int .i64 a1,.int .i64 a2,.slice sp a4 bX,.int .i64 a5,.int .i64 a6,.int .i64 a7,.slice be a8 bd,.int .i64 a9,.int .i64 bb,.int .i64 bc,.slice bk a3 bj] f):=fun o=>by
       have c9:=cy.out.beside14 (ae (xY.alloc xZ o) (fun _=>False)) (fun k fs=>fs.elim);exact(c9.beside14 (ay (f7.alloc o) w.1.size (.int .i64 a1) (.int .i64 a2) (.slice sp a4 bX) (.int .i64 a5) (.int .i64 a6) (.int .i64 a7) (.slice be a8 bd) (.int .i64 a9) (.int .i64 bb) (.int .i64 bc) (.slice bk a3 bj)) (fun k fs=>by omega)).low14 (by omega)
      obtain⟨b0,b1,b3,b4,b5,b6,b7,b8,b9,cb,b2⟩:=dD K;obtain⟨cc,ci,ck,cn,co,cp,cq,cs,ct,cv,cj⟩:=dh K;clear eb I bp z K cw M e1 fi e3 e4 e5 e6 e7 e8 e9 e2 cy;go_wp2;refine bodyPost_ret (af rfl _ _ w.1.size _ _ _ _ rfl (cx.out _).1 Tryz.underlying47 rfl (by kernel_rfl)) rfl ?_;rw[c6.out];refine⟨⟨_,?_,gb.out _⟩,(cx.out _).2.1,(cx.out _).2.2⟩;have gt:(p:Int)+((i:Int)+1)+1=((p+r.length+2:Nat):Int):=(by have:=gh.out;omega);rw[<-gt];rfl
  case' neg=>
   have f1:¬(i:Int)+1<(t.length:Int)+1:=(by omega);have gm:¬((i+1:Nat):Int)<(t.length:Int)+1:=(by omega);have A:=kN (t:=t) (fun j J=>O.out j J (by omega));by_cases em:t.length+1=2202
   ·have z:Hid (y=.error 2):=by
     show y=_;rw[L.out];unfold Sc.runT;rw[if_neg A,if_pos em]
    have gz:((t.length:Int)+1==2202)=true:=(by rw[beq_iff_eq];omega);clear em;clear L A O;go_wp2;refine bodyPost_ret (af rfl _ _ w.1.size _ _ _ _ rfl HBad.out.1 Tryz.underlying47 rfl (by kernel_rfl)) rfl ?_;rw[z.out];exact⟨rfl,HBad.out.2.1,HBad.out.2.2⟩
   ·have z:Hid (y=.error 142):=by
     show y=_;rw[L.out];unfold Sc.runT;rw[if_neg A,if_neg em]
    have gz:((t.length:Int)+1==2202)=false:=(by rw[beq_eq_false_iff_ne];omega);clear L A O;go_wp2;refine bodyPost_ret (af rfl _ _ w.1.size _ _ _ _ rfl HBad.out.1 Tryz.underlying47 rfl (by kernel_rfl)) rfl ?_;rw[z.out];exact⟨rfl,HBad.out.2.1,HBad.out.2.2⟩
theorem uh(h:aZ w B g v s)(hd:s.down=false)(y:s.b.length<=2097152)(K:s.told+s.b.length<=9223372036854775807)(p:Int):
  Calls Tryz.prog 31 #[.pointer (some ⟨g,0,none⟩),.int .i64 p] w fun e w'=>AtA (Sc.at_ s.b p) w e w'∧aZ w' B g v { s with told:=s.told+Sc.reads s.b p }∧Aside (fun k=>k=g) w w':=by
 by_cases D:p<0∨(s.b.length:Int)<=p
 ·have A:Sc.reads s.b p=0:=by unfold Sc.reads;rw[if_pos D]
  have J:{ s with told:=s.told+Sc.reads s.b p }=s:=by rw[A];rfl
  rw[J];by_cases z:p<0∨(s.b.length:Int)<p
  ·have o:Sc.at_ s.b p=.error 7:=(by unfold Sc.at_;rw[if_pos z]);rw[o];exact jX h hd y p 7 (.inl ⟨rfl,z⟩)
  ·have E:p=(s.b.length:Int):=(by omega);have o:Sc.at_ s.b p=.error 140:=(by unfold Sc.at_;rw[if_neg z,if_pos E]);rw[o];exact jX h hd y p 140 (.inr ⟨rfl,E⟩)
 ·obtain⟨q,rfl⟩:∃q:Nat,p=(q:Int):=⟨p.toNat,by omega⟩;have I:q<s.b.length:=by omega
  have A:Sc.reads s.b (q:Int)=((s.b.drop q).take 2202).length:=by unfold Sc.reads;rw[if_neg D];rfl
  have o:Sc.at_ s.b (q:Int)=(match Sc.runOf ((s.b.drop q).take 2202) with
   |.error e=>.error e
   |.ok r=>match Fr.dec r with
    |.error e=>.error e
    |.ok f=>.ok (f,q+r.length+2)):=by
   unfold Sc.at_;rw[if_neg (by omega),if_neg (by omega)];rfl
  rw[A,o];exact rP h hd y K q I _ rfl
end
end
end Go.Proofs.YtdkammppnkhhoaaGreatDoor

import Derived.Test.YtbahfgdbjgkklaaGreatDoorB09
set_option maxRecDepth 100000
set_option maxHeartbeats 4000000
namespace Go.Proofs.YtbahfgdbjgkklaaGreatDoor
variable{M n:Nat}{w:World}{l:List Col}
section
open Go.RowKit
theorem nW(k:Int)(w:World):Calls Tryz.prog 244 #[.int .i64 k] w fun e w'=>e=.returned (.int .i64 (Ty.want k:Nat))∧w'=w:=by
 by_cases o:k=6
 ·have D:(k==6)=true:=cZ o;have y:Hid (Ty.want k=1):=by show _=_;unfold Ty.want;rw[if_pos (.inl o)]
  clear o;go_enter Tryz.func244,Tryz.ntmps244;go_wp2;go_ret;exact⟨by rw[y.out];rfl,rfl⟩
 have D:(k==6)=false:=bd o;by_cases z:k=7
 ·have E:(k==7)=true:=cZ z;have y:Hid (Ty.want k=1):=by show _=_;unfold Ty.want;rw[if_pos (.inr z)]
  clear o z;go_enter Tryz.func244,Tryz.ntmps244;go_wp2;go_ret;exact⟨by rw[y.out];rfl,rfl⟩
 have E:(k==7)=false:=bd z;have y:Hid (Ty.want k=0):=by show _=_;unfold Ty.want;rw[if_neg (by omega)]
 clear o z;go_enter Tryz.func244,Tryz.ntmps244;go_wp2;go_ret;exact⟨by rw[y.out];rfl,rfl⟩
theorem mN:∀(x:Ty) (d:Nat) (w:World) (u:AV),d<=5->aH w u x->Calls Tryz.prog 212 #[.agg u,.int .i64 d] w fun e w'=>e=.returned (.int .i64 (Ty.check d x:Nat))∧Below w.1.size w w':=by
 intro x;refine Ty.ind (P:=fun x=>∀(d:Nat) (w:World) (u:AV),d<=5->aH w u x->Calls Tryz.prog 212 #[.agg u,.int .i64 d] w fun e w'=>e=.returned (.int .i64 (Ty.check d x:Nat))∧Below w.1.size w w') ?_ x;rintro k xs I d w u hd a1;obtain⟨p,c,rfl,bp,bn,E⟩:=a1.open;unfold an;have Z:Below w.1.size w (w.alloc (.cells #[.int .i64 k,.slice p xs.length c] 34)):=gQy;have HB1:=gQq Z;clear Z a1;obtain⟨R,S⟩:∃R,R=Ty.check d (.mk k xs):=⟨_,rfl⟩;have o:=gQq (S.trans (Ty.check_mk d k xs));rw[<-S];clear S;by_cases D:4<d
 ·have a6:(4:Int)<(d:Int):=by omega
  have z:Hid (R=62):=by show _=_;rw[o.out,if_pos D]
  clear I E o;go_enter Tryz.func212,Tryz.ntmps212;go_wp2;go_ret;exact⟨by rw[z.out];rfl,HB1.out⟩
 have a6:¬(4:Int)<(d:Int):=by omega
 by_cases K:k<1
 ·have z:Hid (R=60):=by show _=_;rw[o.out,if_neg D,if_pos (by omega)]
  have bb:decide (k<1)=true:=decide_eq_true K;clear I E o;go_enter Tryz.func212,Tryz.ntmps212;go_wp2_with fail;go_quiet (fail);go_wp2;go_ret;exact⟨by rw[z.out];rfl,below_drewN HB1.out _⟩
 have bb:decide (k<1)=false:=decide_eq_false K;by_cases Y:7<k
 ·have z:Hid (R=60):=by show _=_;rw[o.out,if_neg D,if_pos (by omega)]
  have bc:decide (7<k)=true:=decide_eq_true Y;clear I E o;go_enter Tryz.func212,Tryz.ntmps212;go_wp2_with fail;go_quiet (fail);go_wp2;go_ret;exact⟨by rw[z.out];rfl,below_drewN HB1.out _⟩
 have bc:decide (7<k)=false:=decide_eq_false Y;have J:Hid (∀w,Calls Tryz.prog 244 #[.int .i64 k] w fun e w'=>e=.returned (.int .i64 (Ty.want k:Nat))∧∃n,w'=w.drewN n):=fun w=>(nW k w).mono fun _ _ ⟨D,K⟩=>⟨D,0,K⟩;obtain⟨n,V⟩:∃n,n=Ty.want k:=⟨_,rfl⟩;have Q:=gQq V;rw[<-V] at J o;clear V;by_cases L:xs.length=n
 ·have a7:((xs.length:Int) != (n:Int))=false:=bo (by omega);by_cases U:xs.length=0
  ·have a8:((xs.length:Int)==0)=true:=cZ (by omega);have z:Hid (R=0):=by
    show _=_;have a9:xs=[]:=List.eq_nil_of_length_eq_zero U;subst a9;rw[o.out,if_neg D,if_neg (by omega)];rfl
   clear I E o U L;go_enter Tryz.func212,Tryz.ntmps212;go_wp2_with fail;go_quiet (first | (go_at_call 244;exact Calls.quiet_of (J.out _)));go_wp2;go_ret;exact⟨by rw[z.out];rfl,below_drewN HB1.out _⟩
  ·have a8:((xs.length:Int)==0)=false:=bd (by omega);have ak:xs.length=1:=by
    have:=Q.out;unfold Ty.want at this;split at this <;> omega
   have X:Hid (∀j (bj:j<xs.length),∃a2,aH w a2 xs[j]∧fz w p j a2):=E;have W:=gQq I;obtain⟨bO,a0,aj⟩:=X.out 0 (by omega);obtain⟨bx,bs,bq,bN,br,bi,rfl,_,rfl,a4,a5⟩:=(aj.on HB1.out).lies;rw[Nat.zero_mul,Nat.add_zero] at a4 a5;have ab:R=Ty.check (d+1) (xs[0]'(by omega)):=by
    obtain⟨y,rfl⟩:=List.length_eq_one_iff.1 ak;rw[o.out];have:=Ty.check_one d k y D (by omega) (by rw[<-Q.out];simp at L;omega);rw[Ty.check_mk,<-Q.out] at this;exact this
   have O:=gQq (fun n=>W.out _ (List.getElem_mem (by omega:0<xs.length)) (d+1) _ _ (by omega) (a0.on (below_drewN HB1.out n)));rw[<-ab] at O;unfold an at O;have bk:(0:Int)<(xs.length:Int):=(by omega);clear ab X W a0 aj o I E ak U L;go_enter Tryz.func212,Tryz.ntmps212;go_wp2_with fail;go_quiet (first | (go_at_call 244;exact Calls.quiet_of (J.out _)));go_wp2_with fail;refine(O.out nq).mono ?_;rintro e bT ⟨rfl,ah⟩;have a3:=gQq ((below_drewN HB1.out nq).trans (ah.mono (below_drewN HB1.out nq).size));clear ah;go_wp2;go_ret;exact⟨rfl,a3.out⟩
 ·have a7:((xs.length:Int) != (n:Int))=true:=aQ (by omega);have z:Hid (R=60):=by show _=_;rw[o.out,if_neg D,if_pos (by omega)]
  clear I E o L;go_enter Tryz.func212,Tryz.ntmps212;go_wp2_with fail;go_quiet (first | (go_at_call 244;exact Calls.quiet_of (J.out _)));go_wp2;go_ret;exact⟨by rw[z.out];rfl,below_drewN HB1.out _⟩
theorem kA(x:Ty)(w:World)(u:AV)(h:aH w u x):Calls Tryz.prog 175 #[.agg u] w fun e w'=>e=.returned (.int .i64 (Ty.check 1 x:Nat))∧Below w.1.size w w':=by
 obtain⟨k,xs⟩:=x;obtain⟨p,c,rfl,-⟩:=h.open;have z:Below w.1.size w (w.alloc (.cells (an k p xs.length c) 34)):=gQy;have o:=gQq z;have y:=gQq (mN _ 1 _ _ (by omega) (h.on z));clear z h;obtain⟨R,D⟩:∃R,R=Ty.check 1 (.mk k xs):=⟨_,rfl⟩;rw[<-D] at y ⊢;clear D;unfold an at y o ⊢;go_enter Tryz.func175,Tryz.ntmps175;go_wp2_with fail;refine y.out.mono ?_;rintro e J ⟨rfl,E⟩;have I:=gQq (o.out.trans (E.mono o.out.size));clear E;go_wp2;go_ret;exact⟨rfl,I.out⟩
def dig(c:UInt8):Bool:=decide (48<=c.toNat∧c.toNat<=57)
theorem xU(c:UInt8):Sch.ch c=(Sch.low c||dig c||decide (c.toNat=95)):=rfl
theorem lH(c:UInt8)(w:World):Calls Tryz.prog 210 #[.int .u8 c.toNat] w fun e w'=>e=.returned (.bool (Sch.low c))∧w'=w:=by
 by_cases y:c.toNat<97
 ·have D:¬(97:Int)<=(c.toNat:Int):=by omega
  have E:(c.toNat:Int)<97:=by omega
  have o:Hid (Sch.low c=false):=by show _=_;unfold Sch.low;rw[decide_eq_false (by omega)]
  clear y;go_enter Tryz.func210,Tryz.ntmps210;go_wp2;go_ret;exact⟨by rw[o.out];rfl,rfl⟩
 have D:(97:Int)<=(c.toNat:Int):=by omega
 have E:¬(c.toNat:Int)<97:=by omega
 by_cases z:c.toNat<=122
 ·have I:(c.toNat:Int)<=122:=by omega
  have J:¬(122:Int)<(c.toNat:Int):=by omega
  have o:Hid (Sch.low c=true):=by show _=_;unfold Sch.low;rw[decide_eq_true (by omega)]
  clear y z;go_enter Tryz.func210,Tryz.ntmps210;go_wp2;go_ret;exact⟨by rw[o.out];rfl,rfl⟩
 ·have I:¬(c.toNat:Int)<=122:=by omega
  have J:(122:Int)<(c.toNat:Int):=by omega
  have o:Hid (Sch.low c=false):=by show _=_;unfold Sch.low;rw[decide_eq_false (by omega)]
  clear y z;go_enter Tryz.func210,Tryz.ntmps210;go_wp2;go_ret;exact⟨by rw[o.out];rfl,rfl⟩
theorem uS(c:UInt8)(w:World):Calls Tryz.prog 211 #[.int .u8 c.toNat] w fun e w'=>e=.returned (.bool (dig c))∧w'=w:=by
 by_cases y:c.toNat<48
 ·have D:¬(48:Int)<=(c.toNat:Int):=by omega
  have E:(c.toNat:Int)<48:=by omega
  have o:Hid (dig c=false):=by show _=_;unfold dig;rw[decide_eq_false (by omega)]
  clear y;go_enter Tryz.func211,Tryz.ntmps211;go_wp2;go_ret;exact⟨by rw[o.out];rfl,rfl⟩
 have D:(48:Int)<=(c.toNat:Int):=by omega
 have E:¬(c.toNat:Int)<48:=by omega
 by_cases z:c.toNat<=57
 ·have I:(c.toNat:Int)<=57:=by omega
  have J:¬(57:Int)<(c.toNat:Int):=by omega
  have o:Hid (dig c=true):=by show _=_;unfold dig;rw[decide_eq_true (by omega)]
  clear y z;go_enter Tryz.func211,Tryz.ntmps211;go_wp2;go_ret;exact⟨by rw[o.out];rfl,rfl⟩
 ·have I:¬(c.toNat:Int)<=57:=by omega
  have J:(57:Int)<(c.toNat:Int):=by omega
  have o:Hid (dig c=false):=by show _=_;unfold dig;rw[decide_eq_false (by omega)]
  clear y z;go_enter Tryz.func211,Tryz.ntmps211;go_wp2;go_ret;exact⟨by rw[o.out];rfl,rfl⟩
theorem xK(t:ByteArray)(w:World):Calls Tryz.prog 174 #[.string t] w fun e w'=>e=.returned (.bool (Sch.name t))∧w'=w:=by
 by_cases S:t.size=0
 ·have aj:((t.size:Int)==0)=true:=cZ (by omega);have y:=gQq (fo (t:=t) (.inl (by omega)));clear S;go_enter Tryz.func174,Tryz.ntmps174;go_wp2;go_ret;exact⟨by rw[y.out];rfl,rfl⟩
 have aj:((t.size:Int)==0)=false:=bd (by omega);by_cases U:16<t.size
 ·have ak:(16:Int)<(t.size:Int):=by omega
  have y:=gQq (fo (t:=t) (.inr U));clear S U;go_enter Tryz.func174,Tryz.ntmps174;go_wp2;go_ret;exact⟨by rw[y.out];rfl,rfl⟩
 have ak:¬(16:Int)<(t.size:Int):=by omega
 have a0:0<t.size:=by omega
 have a9:(0:Int)<(t.size:Int):=by omega
 have D:=gQq (lH t[0]);by_cases E:Sch.low t[0]=false
 ·have y:=gQq (lD a0 E);rw[E] at D;clear E S U;go_enter Tryz.func174,Tryz.ntmps174;go_wp2_with fail;refine(D.out _).mono ?_;rintro e W ⟨rfl,rfl⟩;go_wp2;go_ret;exact⟨by rw[y.out];rfl,rfl⟩
 have L:Sch.low t[0]=true:=by simpa using E
 have X:=gQq L;rw[L] at D;have Y:Hid (Sch.ch t[0]=true):=by show _=_;rw[xU,L];rfl
 clear E L;go_enter Tryz.func174,Tryz.ntmps174;go_wp2_with fail;refine(D.out _).mono ?_;rintro e W ⟨rfl,rfl⟩;clear D;go_wp2_with fail;go_loop [3] (fun V=>∃a:Nat,1<=a∧a<=t.size∧V=.int .i64 a∧Hid (∀j (h:j<t.size),j<a->Sch.ch t[j]=true)) (fun V=>t.size-(intOf V).toNat);case atStart=>exact⟨1,by omega,by omega,rfl,fun j _ a3=>by
  have a1:j=0:=by omega
  subst a1
  exact Y.out⟩
 case round=>
  obtain⟨a,bc,bb,rfl,J⟩:=hrel;by_cases a5:a<t.size
  ·have bi:(a:Int)<(t.size:Int):=(by omega);have O:=gQq (lH t[a]);have K:=gQq (uS t[a]);have z:=gQq (xU t[a]);obtain⟨a7,Z⟩:∃r,r=Sch.low t[a]:=⟨_,rfl⟩;obtain⟨a8,ab⟩:∃r,r=dig t[a]:=⟨_,rfl⟩;rw[<-Z] at O z;rw[<-ab] at K z;clear Z ab;have Q:Hid (Sch.ch t[a]=true->∀j (h:j<t.size),j<a+1->Sch.ch t[j]=true):=fun a2 j h a3=>by
    by_cases a4:j=a
    ·subst a4;exact a2
    ·exact J.out j h (by omega)
   have ah:=gQq (nY (t:=t) a a5);clear J X Y;go_wp2_with fail;refine(O.out _).mono ?_;rintro e W ⟨rfl,rfl⟩;clear O;cases a7 with
   |true=>
    have o:Hid (Sch.ch t[a]=true):=(by show _=_;rw[z.out];rfl);clear K;go_wp2;go_round;case rel=>exact⟨a+1,by omega,by omega,by go_num,Q.out o.out⟩
    case measure=>simp[intOf];omega
   |false=>
    go_wp2_with fail;refine(K.out _).mono ?_;rintro e W ⟨rfl,rfl⟩;clear K;cases a8 with
    |true=>
     have o:Hid (Sch.ch t[a]=true):=(by show _=_;rw[z.out];rfl);go_wp2;go_round;case rel=>exact⟨a+1,by omega,by omega,by go_num,Q.out o.out⟩
     case measure=>simp[intOf];omega
    |false=>
     by_cases I:t[a].toNat=95
     ·have a6:((t[a].toNat:Int) != 95)=false:=(by rw[I];rfl);have o:Hid (Sch.ch t[a]=true):=(by show _=_;rw[z.out,decide_eq_true I];rfl);clear I;go_wp2;go_round;case rel=>exact⟨a+1,by omega,by omega,by go_num,Q.out o.out⟩
      case measure=>simp[intOf];omega
     ·have a6:((t[a].toNat:Int) != 95)=true:=(by rw[bne_iff_ne];omega);have o:Hid (Sch.ch t[a]=false):=(by show _=_;rw[z.out,decide_eq_false I];rfl);clear I;go_wp2;go_ret;exact⟨by rw[ah.out o.out];rfl,rfl⟩
  ·have y:=gQq (lE (t:=t) (by omega) (by omega) X.out (fun j h=>J.out j h (by omega)));have be:¬(a:Int)<(t.size:Int):=(by omega);clear J;go_wp2;go_ret;exact⟨by rw[y.out];rfl,rfl⟩
end
section
open Go.RowKit
theorem rQ:∀(x V:Ty) (w:World) (u v:AV),aH w u x->aH w v V->Calls Tryz.prog 171 #[.agg u,.agg v] w fun e w'=>e=.returned (.bool (Ty.same x V))∧Below w.1.size w w':=by
 intro x;refine Ty.ind (P:=fun x=>∀(V:Ty) (w:World) (u v:AV),aH w u x->aH w v V->Calls Tryz.prog 171 #[.agg u,.agg v] w fun e w'=>e=.returned (.bool (Ty.same x V))∧Below w.1.size w w') ?_ x;rintro k xs a3 ⟨k',o⟩ w u v cb cc;obtain⟨p,c,rfl,c5,cy,a1⟩:=cb.open;obtain⟨q,d,rfl,c7,c6,a2⟩:=cc.open;unfold an;obtain⟨z,aj⟩:∃z,z=(w.alloc (.cells #[.int .i64 k,.slice p xs.length c] 34)).alloc (.cells #[.int .i64 k',.slice q o.length d] 34):=⟨_,rfl⟩;have W:Hid (Below w.1.size w z):=by rw[aj];exact gQy.alloc (by simp) _
 have cg:Hid (z.cell? ⟨w.1.size,1,none⟩=some (.slice p xs.length c)∧z.cell? ⟨w.1.size+1,1,none⟩=some (.slice q o.length d)):=by rw[aj];exact⟨by simp,by simp⟩
 have ab:=gQq aj;clear aj cb cc;by_cases y:¬k=k'
 ·have cn:=aQ y;have K:Hid (Ty.same (.mk k xs) (.mk k' o)=false):=by show _=_;simp[Ty.same_mk,y]
  clear a3 a1 a2 y;go_enter Tryz.func171,Tryz.ntmps171;go_wp2;rw[<-ab.out];go_ret;exact⟨by rw[K.out];rfl,W.out⟩
 replace y:k=k':=Classical.not_not.1 y
 have cn:=bo y;by_cases O:¬xs.length=o.length
 ·have co:((xs.length:Int) != (o.length:Int))=true:=aQ (by omega);have K:Hid (Ty.same (.mk k xs) (.mk k' o)=false):=by show _=_;simp[Ty.same_mk,Ty.sameL_ne xs o O]
  clear a3 a1 a2 y O;go_enter Tryz.func171,Tryz.ntmps171;go_wp2;rw[<-ab.out];go_ret;exact⟨by rw[K.out];rfl,W.out⟩
 replace O:xs.length=o.length:=Classical.not_not.1 O
 have co:((xs.length:Int) != (o.length:Int))=false:=bo (by omega);have K:Hid (Ty.same (.mk k xs) (.mk k' o)=Ty.sameL xs o):=by show _=_;simp[Ty.same_mk,y]
 have cf:Hid (∀j (b7:j<xs.length),∃U,aH w U xs[j]∧fz w p j U):=a1;have ci:Hid (∀j (b7:j<o.length),∃U,aH w U o[j]∧fz w q j U):=a2;have cd:=gQq a3;have bq:=gQq O;clear a3 a1 a2 y O;go_enter Tryz.func171,Tryz.ntmps171;go_wp2_with fail;rw[<-ab.out];clear ab;go_loopw [24] (fun bp wr=>∃j:Nat,j<=xs.length∧bp=.int .i64 j∧Hid (Below z.1.size z wr∧∀m (y:m<xs.length) (S:m<o.length),m<j->Ty.same xs[m] o[m]=true)) (fun bp _=>xs.length-(intOf bp).toNat);case atStart=>exact⟨0,by omega,rfl,gQz,fun m _ _ h=>by omega⟩
 case round=>
  obtain⟨j,b7,rfl,E⟩:=hrel;have J:Below w.1.size w wr:=W.out.trans (E.out.1.mono W.out.size);by_cases ak:j<xs.length
  ·have b8:j<o.length:=(by have:=bq.out;omega);obtain⟨c9,b9,b5⟩:=cf.out j ak;obtain⟨da,ca,b6⟩:=ci.out j b8;obtain⟨bx,c8,a4,a6,a5,ah,rfl,_,rfl,cj,ck⟩:=(b5.on J).lies;obtain⟨L,Q,bj,bn,bk,be,rfl,_,rfl,bX,b0⟩:=(b6.on J).lies
   have Z:Hid (∀w',Below w.1.size w w'->Calls Tryz.prog 171 #[.agg #[.int .i64 a4,.slice a6 a5 ah],.agg #[.int .i64 bj,.slice bn bk be]] w' fun e cq=>e=.returned (.bool (Ty.same xs[j] o[j]))∧Below w'.1.size w' cq) :=
    fun w' hb=>cd.out _ (List.getElem_mem ak) o[j] w' _ _ (b9.on hb) (ca.on hb)
   have a7:=gQq E.out.2;have cu:(j:Int)<(xs.length:Int):=(by omega);have cv:(j:Int)<(o.length:Int):=(by omega);obtain⟨r,bi⟩:∃r,r=Ty.same xs[j] o[j]:=⟨_,rfl⟩;rw[<-bi] at Z;have bN:=gQq bi;obtain⟨D,a0⟩:∃D,D=wr.alloc (.cells #[.int .i64 a4,.slice a6 a5 ah] 34):=⟨_,rfl⟩;have Y:Hid (Below wr.1.size wr D):=(by rw[a0];exact gQy);have a9:Hid (Below w.1.size w D):=J.trans (Y.out.mono J.size);have a8:Hid (Below z.1.size z D):=E.out.1.trans (Y.out.mono E.out.1.size);have bO:=gQq a0;have bT:Hid (D.cell? ⟨w.1.size+1,1,none⟩=some (.slice (some ⟨L,Q,none⟩) o.length d)):=ae a8.out cg.out.2;have bs:Hid (D.cell? ⟨L,Q+j*2,none⟩=some (.int .i64 bj)∧D.cell? ⟨L,Q+j*2+1,none⟩=some (.slice bn bk be)):=⟨ae Y.out bX,ae Y.out b0⟩;have br:Hid (D.cell? ⟨wr.1.size,0,none⟩=some (.int .i64 a4)∧D.cell? ⟨wr.1.size,1,none⟩=some (.slice a6 a5 ah)):=(by rw[a0];exact⟨by simp,by simp⟩);clear b9 ca b5 b6 J E bi a0 bX b0;go_wp2_with fail;rw[<-bO.out];obtain⟨c0,c1⟩:=br.out;obtain⟨b1,b2⟩:=bs.out;have b3:=bT.out;clear br bs bT bO cj ck
   go_region_held3 (fun w'=>w'.cell? ⟨wr.1.size,0,none⟩=some (.int .i64 a4)∧w'.cell? ⟨wr.1.size,1,none⟩=some (.slice a6 a5 ah)∧w'.cell? ⟨L,Q+j*2,none⟩=some (.int .i64 bj)∧w'.cell? ⟨L,Q+j*2+1,none⟩=some (.slice bn bk be)∧w'.cell? ⟨w.1.size+1,1,none⟩=some (.slice (some ⟨L,Q,none⟩) o.length d)) (go_keep) (first|(go_at_call 171;refine(Z.out _ (below_drewN a9.out _)).mono ?_;rintro e w4 ⟨rfl,b4⟩;have I:=dz (w:=D) b4 (by rfl) (by rfl) (by rfl) (by rfl);have z3:=ae I c0;have z4:=ae I c1;have cr:=ae I b1;have cs:=ae I b2;have ct:=ae I b3;have X:=gQq I;clear b4 I))
   clear z3 z4 cr cs ct c0 c1 b1 b2 b3;cases r with
   |true=>
    have ce:Hid (Below z.1.size z w4∧∀m (y:m<xs.length) (S:m<o.length),m<j+1->Ty.same xs[m] o[m]=true):=by
     refine⟨a8.out.trans (X.out.mono a8.out.size),fun m y S cx=>?_⟩;by_cases cp:m=j
     ·subst cp;exact bN.out.symm
     ·exact a7.out m y S (by omega)
    clear X a7 Z;go_wp2;go_roundw;case rel=>exact⟨j+1,by omega,by go_num,ce⟩
    case measure=>simp[intOf];omega
   |false=>
    have bc:Hid (Ty.sameL xs o=false):=Ty.sameL_at xs o j ak b8 bN.out.symm;have bb:=gQq (a9.out.trans (X.out.mono a9.out.size));clear X a7 Z;go_wp2;go_ret;exact⟨by rw[K.out,bc.out];rfl,bb.out⟩
  ·have bc:Hid (Ty.sameL xs o=true):=Ty.sameL_all xs o bq.out (fun m y S=>E.out.2 m y S (by omega));have bb:=gQq J;have cw:¬(j:Int)<(xs.length:Int):=(by omega);clear E J ak;go_wp2;go_ret;exact⟨by rw[K.out,bc.out];rfl,bb.out⟩
end
section
open Go.RowKit
attribute [local go_sem] af
theorem xQ:∀(x:V) (L:Ty) (d:Nat) (w:World) (u v:AV),chk d x=0->Ty.check d L=0->aJ w u x->aH w v L->Calls Tryz.prog 214 #[.agg u,.agg v] w fun e w'=>e=.returned (.bool (Sch.of x L))∧Below w.1.size w w':=by
 intro x;refine V.ind (P:=fun x=>∀(L:Ty) (d:Nat) (w:World) (u v:AV),chk d x=0->Ty.check d L=0->aJ w u x->aH w v L->Calls Tryz.prog 214 #[.agg u,.agg v] w fun e w'=>e=.returned (.bool (Sch.of x L))∧Below w.1.size w w') ?_ x;rintro k i b t xs bN ⟨k',y⟩ d w u v bp hd ak cn;obtain⟨p,c,rfl,d2,d1,br⟩:=ak.open;obtain⟨q,e,rfl,d4,d3,bs⟩:=cn.open;unfold cells5 an;obtain⟨D,ah⟩:∃D,D=(w.alloc (.cells #[.int .i64 k,.int .i64 i,.float .f64 b,.string t,.slice p xs.length c] 38)).alloc (.cells #[.int .i64 k',.slice q y.length e] 34):=⟨_,rfl⟩;have a8:Hid (Below w.1.size w D):=by rw[ah];exact gQy.alloc (by simp) _
 have cu:Hid (D.cell? ⟨w.1.size+1,1,none⟩=some (.slice q y.length e)):=by show _=_;rw[ah];simp
 have bi:=gQq ah;clear ah ak cn;by_cases z:¬k=k'
 ·have c6:=aQ z;have Y:Hid (Sch.of (.mk k i b t xs) (.mk k' y)=false):=by show _=_;rw[Sch.of_mk,bd z,Bool.false_and]
  clear bN br bs z bp hd;go_enter Tryz.func214,Tryz.ntmps214;go_wp2;rw[<-bi.out];go_ret;exact⟨by rw[Y.out];rfl,a8.out⟩
 replace z:k=k':=Classical.not_not.1 z
 have c6:=bo z;have Y:Hid (Sch.of (.mk k i b t xs) (.mk k' y)=xs.all (fun x=>Sch.of x (Sch.inner (.mk k' y)))):=by show _=_;rw[Sch.of_mk,cZ z,Bool.true_and]
 obtain⟨dn,c8,ca⟩:=Sch.ty_open hd;obtain⟨-,ci,-,dv,-,cb⟩:=Sch.chk_open bp;obtain⟨-,-,-,-,dc,-⟩:=Sch.own_open ci;have ct:Hid (dm w p xs):=br;have cq:=gQq bN
 -- what the type is of,where there are items
 have cs:Hid (0<xs.length->∃I,y=[I]∧Ty.check (d+1) I=0∧Sch.inner (.mk k' y)=I∧∃a6,aH w a6 I∧fz w q 0 a6):=by
  intro d0;rcases ca with ⟨c7,-⟩ | ⟨c7,I,rfl,a0⟩
  ·omega
  ·obtain⟨a6,da,db⟩:=bs 0 (by simp);exact⟨I,rfl,a0,rfl,a6,da,db⟩
 have cp:=gQq cb;clear bN br bs bp hd ca c8 z cb ci dc;go_enter Tryz.func214,Tryz.ntmps214;go_wp2_with fail;rw[<-bi.out];clear bi;go_loopw [15] (fun b0 wr=>∃j:Nat,j<=xs.length∧b0=.int .i64 j∧Hid (Below D.1.size D wr∧∀m (z:m<xs.length),m<j->Sch.of xs[m] (Sch.inner (.mk k' y))=true)) (fun b0 _=>xs.length-(intOf b0).toNat);case atStart=>exact⟨0,by omega,rfl,gQz,fun m _ h=>by omega⟩
 case round=>
  obtain⟨j,dp,rfl,J⟩:=hrel;have K:Below w.1.size w wr:=a8.out.trans (J.out.1.mono a8.out.size);by_cases S:j<xs.length
  ·obtain⟨d6,cj,cd⟩:=ct.out j S;obtain⟨I,co,a0,cc,d7,ck,ce⟩:=cs.out (by omega);obtain⟨bx,d5,a2,a1,ab,a5,a4,a3,Z,rfl,_,rfl,cv,cw,cx,cy,c5⟩:=(cd.on K).lies;obtain⟨O,Q,bO,bX,bT,bn,rfl,_,rfl,bj,bk⟩:=(ce.on K).lies;rw[Nat.zero_mul,Nat.add_zero] at bj bk;have cf:y.length=1:=(by rw[co];rfl);have X:Hid (∀w',Below w.1.size w w'->Calls Tryz.prog 214 #[.agg #[.int .i64 a2,.int .i64 a1,.float .f64 ab,.string a5,.slice a4 a3 Z],.agg #[.int .i64 bO,.slice bX bT bn]] w' fun e dd=>e=.returned (.bool (Sch.of xs[j] (Sch.inner (.mk k' y))))∧Below w'.1.size w' dd):=fun w' hb=>by
    rw[cc];exact cq.out _ (List.getElem_mem S) I (d+1) w' _ _ (cp.out _ (List.getElem_mem S)) a0 (cj.on hb) (ck.on hb)
   have a7:=gQq J.out.2;have dr:(j:Int)<(xs.length:Int):=(by omega);obtain⟨r,bq⟩:∃r,r=Sch.of xs[j] (Sch.inner (.mk k' y)):=⟨_,rfl⟩;rw[<-bq] at X;have b3:=gQq bq;obtain⟨o,aj⟩:∃o,o=wr.alloc (.cells #[.int .i64 a2,.int .i64 a1,.float .f64 ab,.string a5,.slice a4 a3 Z] 38):=⟨_,rfl⟩;have W:Hid (Below wr.1.size wr o):=(by rw[aj];exact gQy);have bb:Hid (Below w.1.size w o):=K.trans (W.out.mono K.size);have a9:Hid (Below D.1.size D o):=J.out.1.trans (W.out.mono J.out.1.size);have b4:=gQq aj;have b5:Hid (o.cell? ⟨w.1.size+1,1,none⟩=some (.slice (some ⟨O,Q,none⟩) 1 e)):=(by have:=ae a9.out cu.out;rw[cf] at this;exact this);have b2:Hid (o.cell? ⟨O,Q,none⟩=some (.int .i64 bO)∧o.cell? ⟨O,Q+1,none⟩=some (.slice bX bT bn)):=⟨ae W.out bj,ae W.out bk⟩;have b1:Hid (o.cell? ⟨wr.1.size,0,none⟩=some (.int .i64 a2)∧o.cell? ⟨wr.1.size,1,none⟩=some (.int .i64 a1)∧o.cell? ⟨wr.1.size,2,none⟩=some (.float .f64 ab)∧o.cell? ⟨wr.1.size,3,none⟩=some (.string a5)∧o.cell? ⟨wr.1.size,4,none⟩=some (.slice a4 a3 Z)):=(by rw[aj];exact⟨by simp,by simp,by simp,by simp,by simp⟩);clear cj ck cd ce K J bq cc a0 co cf aj bj bk;go_wp2_with fail;rw[<-b4.out];obtain⟨c0,c1,c2,c3,c4⟩:=b1.out;obtain⟨b6,b7⟩:=b2.out;have b8:=b5.out;clear b1 b2 b5 b4 cv cw cx cy c5
   go_region_held3 (fun w'=>w'.cell? ⟨wr.1.size,0,none⟩=some (.int .i64 a2)∧w'.cell? ⟨wr.1.size,1,none⟩=some (.int .i64 a1)∧w'.cell? ⟨wr.1.size,2,none⟩=some (.float .f64 ab)∧w'.cell? ⟨wr.1.size,3,none⟩=some (.string a5)∧w'.cell? ⟨wr.1.size,4,none⟩=some (.slice a4 a3 Z)∧w'.cell? ⟨O,Q,none⟩=some (.int .i64 bO)∧w'.cell? ⟨O,Q+1,none⟩=some (.slice bX bT bn)∧w'.cell? ⟨w.1.size+1,1,none⟩=some (.slice (some ⟨O,Q,none⟩) 1 e)) (go_keep) (first|(go_at_call 214;refine(X.out _ (below_drewN bb.out _)).mono ?_;rintro e w4 ⟨rfl,b9⟩;have E:=dz (w:=o) b9 (by rfl) (by rfl) (by rfl) (by rfl);have z3:=ae E c0;have z4:=ae E c1;have df:=ae E c2;have dh:=ae E c3;have di:=ae E c4;have dj:=ae E b6;have dk:=ae E b7;have de:=ae E b8;have U:=gQq E;clear b9 E))
   clear z3 z4 df dh di dj dk de c0 c1 c2 c3 c4 b6 b7 b8;cases r with
   |true=>
    have cr:Hid (Below D.1.size D w4∧∀m (z:m<xs.length),m<j+1->Sch.of xs[m] (Sch.inner (.mk k' y))=true):=by
     refine⟨a9.out.trans (U.out.mono a9.out.size),fun m z cg=>?_⟩;by_cases c9:m=j
     ·subst c9;exact b3.out.symm
     ·exact a7.out m z (by omega)
    clear U a7 X;go_wp2;go_roundw;case rel=>exact⟨j+1,by omega,by go_num,cr⟩
    case measure=>simp[intOf];omega
   |false=>
    have be:Hid (xs.all (fun x=>Sch.of x (Sch.inner (.mk k' y)))=false):=by
     show _=_;rw[List.all_eq_false];exact⟨xs[j],List.getElem_mem S,by rw[<-b3.out];decide⟩
    have bc:=gQq (bb.out.trans (U.out.mono bb.out.size));clear U a7 X;go_wp2;go_ret;exact⟨by rw[Y.out,be.out];rfl,bc.out⟩
  ·have be:Hid (xs.all (fun x=>Sch.of x (Sch.inner (.mk k' y)))=true):=by
    show _=_;rw[List.all_eq_true];intro x ak;obtain⟨m,cg,rfl⟩:=List.getElem_of_mem ak;exact J.out.2 m cg (by omega)
   have bc:=gQq K;have ds:¬(j:Int)<(xs.length:Int):=(by omega);clear J K S;go_wp2;go_ret;exact⟨by rw[Y.out,be.out];rfl,bc.out⟩
theorem isK(x:V)(y:Ty)(w:World)(u v:AV)(a7:aJ w u x)(a8:aH w v y):Calls Tryz.prog 240 #[.agg u,.agg v] w fun e w'=>e=.returned (.bool (Sch.is x y))∧Below w.1.size w w':=by
 obtain⟨k,i,b,t,xs⟩:=x;obtain⟨k',I⟩:=y;obtain⟨p,c,rfl,-⟩:=a7.open;obtain⟨q,e,rfl,-⟩:=a8.open;obtain⟨o,ah⟩:∃o,o=(w.alloc (.cells (cells5 k i b t p xs.length c) 38)).alloc (.cells (an k' q I.length e) 34):=⟨_,rfl⟩;have L:Hid (Below w.1.size w o):=by rw[ah];exact gQy.alloc (by simp) _
 have a2:=gQq (a7.on L.out);have a1:=gQq (a8.on L.out);have bb:=gQq (fun w' (hb:Below o.1.size o w')=>kA _ w' _ (a1.out.on hb));have bc:=gQq (fun w' (hb:Below o.1.size o w')=>qm _ w' _ (a2.out.on hb));have HI:Hid (Sch.is (.mk k i b t xs) (.mk k' I)=(decide (Ty.check 1 (.mk k' I)=0)&&decide (chk 1 (.mk k i b t xs)=0)&&Sch.of (.mk k i b t xs) (.mk k' I))):=rfl;have J:=gQq (fun w' (hb:Below o.1.size o w') D K=>xQ _ _ 1 w' _ _ D K (a2.out.on hb) (a1.out.on hb));have a3:Hid (o.cell? ⟨w.1.size,0,none⟩=some (.int .i64 k)∧o.cell? ⟨w.1.size,1,none⟩=some (.int .i64 i)∧o.cell? ⟨w.1.size,2,none⟩=some (.float .f64 b)∧o.cell? ⟨w.1.size,3,none⟩=some (.string t)∧o.cell? ⟨w.1.size,4,none⟩=some (.slice p xs.length c)∧o.cell? ⟨w.1.size+1,0,none⟩=some (.int .i64 k')∧o.cell? ⟨w.1.size+1,1,none⟩=some (.slice q I.length e)):=by rw[ah];exact⟨by simp[cells5],by simp[cells5],by simp[cells5],by simp[cells5],by simp[cells5],by simp[an],by simp[an]⟩
 have be:=gQq ah;obtain⟨R,bi⟩:∃R,R=Sch.is (.mk k i b t xs) (.mk k' I):=⟨_,rfl⟩;rw[<-bi] at HI ⊢;obtain⟨Q,a5⟩:∃Q,Q=Ty.check 1 (.mk k' I):=⟨_,rfl⟩;have br:=gQq a5;rw[<-a5] at bb HI J;obtain⟨S,a6⟩:∃S,S=chk 1 (.mk k i b t xs):=⟨_,rfl⟩;have bs:=gQq a6;rw[<-a6] at bc HI J;obtain⟨a4,bn⟩:∃a4,a4=Sch.of (.mk k i b t xs) (.mk k' I):=⟨_,rfl⟩;rw[<-bn] at HI J;clear ah a7 a8 bi a5 a6 bn a2 a1;unfold cells5 an at *
 go_enter Tryz.func240,Tryz.ntmps240;go_wp2_with fail;rw[<-be.out];clear be;refine(bb.out _ gQz).mono ?_;rintro e w1 ⟨rfl,E⟩;obtain⟨U,W,X,Y,Z,aj,ak⟩:=a3.out;have c0:=ae E U;have c1:=ae E W;have c2:=ae E X;have c3:=ae E Y;have c4:=ae E Z;have ab:=gQq E;have bq:=gQq (L.out.trans (E.mono L.out.size));clear U W X Y Z aj ak E;by_cases D:Q=0
 ·have bX:((Q:Int)==0)=true:=cZ (by omega);go_wp2_with fail;refine(bc.out w1 ab.out).mono ?_;rintro e b1 ⟨rfl,bj⟩;have z:=gQq (ab.out.trans (bj.mono ab.out.size));have a0:=gQq (L.out.trans (z.out.mono L.out.size));clear bj ab c0 c1 c2 c3 c4;by_cases K:S=0
  ·have b0:((S:Int)==0)=true:=cZ (by omega);obtain⟨U,W,X,Y,Z,aj,ak⟩:=a3.out;have c0:=ae z.out U;have c1:=ae z.out W;have c2:=ae z.out X;have c3:=ae z.out Y;have c4:=ae z.out Z;have bO:=ae z.out aj;have bT:=ae z.out ak;have O:Hid (R=a4):=(by show _=_;rw[HI.out,decide_eq_true D,decide_eq_true K];rfl);have bN:=gQq (J.out b1 z.out K D);clear U W X Y Z aj ak D K HI J a3 br bs;go_wp2_with fail;refine bN.out.mono ?_;rintro e b2 ⟨rfl,bk⟩;have bp:=gQq (a0.out.trans (bk.mono a0.out.size));clear bk c0 c1 c2 c3 c4 bO bT;go_wp2;go_ret;exact⟨by rw[O.out];rfl,bp.out⟩
  ·have b0:((S:Int)==0)=false:=bd (by omega);have O:Hid (R=false):=(by show _=_;rw[HI.out,decide_eq_false K,Bool.and_false,Bool.false_and]);clear D K HI J;go_wp2;go_ret;exact⟨by rw[O.out];rfl,a0.out⟩
 ·have bX:((Q:Int)==0)=false:=bd (by omega);have O:Hid (R=false):=by show _=_;rw[HI.out,decide_eq_false D,Bool.false_and,Bool.false_and]
  clear D HI J;go_wp2;go_ret;exact⟨by rw[O.out];rfl,bq.out⟩
end
section
open Go.RowKit
attribute [local go_sem] af
theorem nD(x y:Col)(w:World)(u v:AV)(a9:iv w u x)(bb:iv w v y):Calls Tryz.prog 103 #[.agg u,.agg v] w fun e w'=>e=.returned (.bool (Sch.colSame x y))∧Below w.1.size w w':=by
 obtain⟨k,cr,cp,cn,bq,bn,be,bX,bO,bs,bj,rfl,a0,a2⟩:=a9.out;obtain⟨k',cs,cq,co,br,bp,bi,b0,bT,bN,bk,rfl,a1,a3⟩:=bb.out;obtain⟨K,X,has,S⟩:=x;obtain⟨L,Y,E,U⟩:=y;dsimp only at a0 a2 a1 a3;unfold av;obtain⟨o,ab⟩:∃o,o=(w.alloc (.cells #[.string K,.int .i64 k,.slice cr cp cn,.bool has,.int .i64 bq,.int .i64 bn,.float .f64 be,.string bX,.slice bO bs bj] 40)).alloc (.cells #[.string L,.int .i64 k',.slice cs cq co,.bool E,.int .i64 br,.int .i64 bp,.float .f64 bi,.string b0,.slice bT bN bk] 40):=⟨_,rfl⟩;have D:Hid (Below w.1.size w o):=by rw[ab];exact gQy.alloc (by simp) _
 have aj:Hid (o.cell? ⟨w.1.size,4,none⟩=some (.int .i64 bq)∧o.cell? ⟨w.1.size,5,none⟩=some (.int .i64 bn)∧o.cell? ⟨w.1.size,6,none⟩=some (.float .f64 be)∧o.cell? ⟨w.1.size,7,none⟩=some (.string bX)∧o.cell? ⟨w.1.size,8,none⟩=some (.slice bO bs bj)∧o.cell? ⟨w.1.size+1,4,none⟩=some (.int .i64 br)∧o.cell? ⟨w.1.size+1,5,none⟩=some (.int .i64 bp)∧o.cell? ⟨w.1.size+1,6,none⟩=some (.float .f64 bi)∧o.cell? ⟨w.1.size+1,7,none⟩=some (.string b0)∧o.cell? ⟨w.1.size+1,8,none⟩=some (.slice bT bN bk)):=by rw[ab];refine⟨?_,?_,?_,?_,?_,?_,?_,?_,?_,?_⟩ <;> simp
 have Q:=gQq (rQ X Y o _ _ (a0.on D.out) (a1.on D.out));have I:=gQq (fun w' (hb:Below o.1.size o w')=>xF S U w' _ _ ((a2.on D.out).on hb) ((a3.on D.out).on hb));unfold an at Q;unfold cells5 at I;have z:Hid (Sch.colSame ⟨K,X,has,S⟩ ⟨L,Y,E,U⟩=(decide (K=L)&&(has==E)&&Ty.same X Y&&V.same S U)):=rfl;obtain⟨R,a5⟩:∃R,R=Sch.colSame ⟨K,X,has,S⟩ ⟨L,Y,E,U⟩:=⟨_,rfl⟩;rw[<-a5] at z ⊢;obtain⟨bc,a7⟩:∃r,r=Ty.same X Y:=⟨_,rfl⟩;rw[<-a7] at Q z;obtain⟨ck,a8⟩:∃r,r=V.same S U:=⟨_,rfl⟩;rw[<-a8] at I z;have Z:=gQq ab;clear ab a0 a1 a2 a3 a9 bb a5 a7 a8;by_cases J:K=L
 ·have cj:(K.toList==L.toList)=true:=by rw[dA,decide_eq_true J]
  by_cases W:has=E
  ·have O:Hid (R=(bc&&ck)):=(by show _=_;rw[z.out,decide_eq_true J,W,beq_self_eq_true,Bool.true_and,Bool.true_and]);subst W;clear J z;have ct:(has==has)=true:=(by simp);go_enter Tryz.func103,Tryz.ntmps103;go_wp2_with fail;rw[<-Z.out];clear Z;refine Q.out.mono ?_;rintro e w1 ⟨rfl,ak⟩;have HB1:=gQq ak;have ah:=gQq (D.out.trans (ak.mono D.out.size));clear ak Q;cases bc with
   |true=>
    obtain⟨b1,b2,b3,b4,b5,b6,b7,b8,b9,ca⟩:=aj.out;have c0:=ae HB1.out b1;have c1:=ae HB1.out b2;have c2:=ae HB1.out b3;have c3:=ae HB1.out b4;have c4:=ae HB1.out b5;have cd:=ae HB1.out b6;have ce:=ae HB1.out b7;have cf:=ae HB1.out b8;have cg:=ae HB1.out b9;have ci:=ae HB1.out ca;have cc:=gQq (I.out w1 HB1.out);clear b1 b2 b3 b4 b5 b6 b7 b8 b9 ca aj I;go_wp2_with fail;refine cc.out.mono ?_;rintro e cu ⟨rfl,a6⟩;have cb:=gQq (ah.out.trans (a6.mono ah.out.size));clear a6 c0 c1 c2 c3 c4 cd ce cf cg ci;go_wp2;go_ret;exact⟨by rw[O.out];rfl,cb.out⟩
   |false=>
    clear I aj;go_wp2;go_ret;exact⟨by rw[O.out];rfl,ah.out⟩
  ·have O:Hid (R=false):=by
    show _=_;have hb:(has==E)=false:=by(cases has <;> cases E <;> first | rfl | exact absurd rfl W)
    rw[z.out,hb,Bool.and_false,Bool.false_and,Bool.false_and]
   clear z J I Q;cases has <;> cases E <;> try exact absurd rfl W
   all_goals
    clear W;go_enter Tryz.func103,Tryz.ntmps103;go_wp2;rw[<-Z.out];go_ret;exact⟨by rw[O.out];rfl,D.out⟩
 ·have cj:(K.toList==L.toList)=false:=by rw[dA,decide_eq_false J]
  have O:Hid (R=false):=by show _=_;rw[z.out,decide_eq_false J,Bool.false_and,Bool.false_and,Bool.false_and]
  clear z J I Q;go_enter Tryz.func103,Tryz.ntmps103;go_wp2;rw[<-Z.out];go_ret;exact⟨by rw[O.out];rfl,D.out⟩
theorem yf(s t:List Col)(p q:OA)(c d:Nat)(w:World)(el:s.length*120<=140737488351232)(O:et w p s)(a4:et w q t):
  Calls Tryz.prog 68 #[.agg #[.slice p s.length c],.agg #[.slice q t.length d]] w fun e w'=>e=.returned (.bool (Sch.same s t))∧Below w.1.size w w':=by
 obtain⟨z,a2⟩:∃z,z=(w.alloc (.cells #[.slice p s.length c] 29)).alloc (.cells #[.slice q t.length d] 29):=⟨_,rfl⟩;have a6:Hid (Below w.1.size w z):=by rw[a2];exact gQy.alloc (by simp) _
 have db:Hid (z.cell? ⟨w.1.size,0,none⟩=some (.slice p s.length c)∧z.cell? ⟨w.1.size+1,0,none⟩=some (.slice q t.length d)):=by rw[a2];exact⟨by simp,by simp⟩
 have bb:=gQq a2;have c9:=gQq O;have da:=gQq a4;clear a2 O a4;by_cases L:¬s.length=t.length
 ·have dp:((s.length:Int) != (t.length:Int))=true:=aQ (by omega);have c7:=gQq (jM s t L);clear L;go_enter Tryz.func68,Tryz.ntmps68;go_wp2;rw[<-bb.out];go_ret;exact⟨by rw[c7.out];rfl,a6.out⟩
 replace L:s.length=t.length:=Classical.not_not.1 L
 have dp:((s.length:Int) != (t.length:Int))=false:=bo (by omega);have b1:=gQq L;clear L;go_enter Tryz.func68,Tryz.ntmps68;go_wp2_with fail;rw[<-bb.out];clear bb;go_loopw [17] (fun bq wr=>∃j:Nat,j<=s.length∧bq=.int .i64 j∧Hid (Below z.1.size z wr∧∀m (Q:m<s.length) (S:m<t.length),m<j->Sch.colSame s[m] t[m]=true)) (fun bq _=>s.length-(intOf bq).toNat);case atStart=>exact⟨0,by omega,rfl,gQz,fun m _ _ h=>by omega⟩
 case round=>
  obtain⟨j,ee,rfl,K⟩:=hrel;have J:Below w.1.size w wr:=a6.out.trans (K.out.1.mono a6.out.size);by_cases bc:j<s.length
  ·have ct:j<t.length:=(by have:=b1.out;omega);obtain⟨bx,em,k,W,V,U,ab,Z,X,ak,aj,ah,Y,rfl,_,c6,cw,cy⟩:=(c9.out.on J).at j bc;obtain⟨D,E,k',bp,bn,bk,bO,bN,br,b0,bX,bT,bs,rfl,_,bi,cx,c5⟩:=(da.out.on J).at j ct
   have I:Hid (∀w',Below wr.1.size wr w'->Calls Tryz.prog 103 #[.agg (av s[j].name k W V U s[j].has ab Z X ak aj ah Y),.agg (av t[j].name k' bp bn bk t[j].has bO bN br b0 bX bT bs)] w' fun e dv=>e=.returned (.bool (Sch.colSame s[j] t[j]))∧Below w'.1.size w' dv) :=
    fun w' hb=>nD s[j] t[j] w' _ _ ⟨k,W,V,U,ab,Z,X,ak,aj,ah,Y,rfl,cw.on hb,cy.on hb⟩ ⟨k',bp,bn,bk,bO,bN,br,b0,bX,bT,bs,rfl,cx.on hb,c5.on hb⟩
   unfold av at I;have a5:=gQq K.out.2;have ef:(j:Int)<(s.length:Int):=(by omega);have eg:(j:Int)<(t.length:Int):=(by omega);obtain⟨r,be⟩:∃r,r=Sch.colSame s[j] t[j]:=⟨_,rfl⟩;rw[<-be] at I;have b6:=gQq be;clear be cw cy cx c5;have b3:=gQq K.out.1;clear K;obtain⟨bj,cu⟩:∃n,n=s[j].name:=⟨_,rfl⟩;obtain⟨O,cr⟩:∃n,n=s[j].has:=⟨_,rfl⟩;obtain⟨ds,cv⟩:∃n,n=t[j].name:=⟨_,rfl⟩;obtain⟨a4,cs⟩:∃n,n=t[j].has:=⟨_,rfl⟩;rw[<-cu,<-cr] at c6 I;rw[<-cv,<-cs] at bi I;clear cu cr cv cs;obtain⟨dc,dd,de,df,dh,di,dj,dk,dn⟩:=c6;obtain⟨y,a3⟩:∃y,y=wr.alloc (.cells #[.string bj,.int .i64 k,.slice W V U,.bool O,.int .i64 ab,.int .i64 Z,.float .f64 X,.string ak,.slice aj ah Y] 40):=⟨_,rfl⟩;have a1:Hid (Below wr.1.size wr y):=(by rw[a3];exact gQy);have b5:Hid (Below w.1.size w y):=J.trans (a1.out.mono J.size);have a7:Hid (Below z.1.size z y):=b3.out.trans (a1.out.mono b3.out.size);have b7:=gQq a3;have b8:Hid (y.cell? ⟨w.1.size+1,0,none⟩=some (.slice (some ⟨D,E,none⟩) t.length d)):=ae a7.out db.out.2;have b4:=gQq (bi.on a1.out);have b2:Hid (y.cell? ⟨wr.1.size,0,none⟩=some (.string bj)∧y.cell? ⟨wr.1.size,1,none⟩=some (.int .i64 k)∧y.cell? ⟨wr.1.size,2,none⟩=some (.slice W V U)∧y.cell? ⟨wr.1.size,3,none⟩=some (.bool O)∧y.cell? ⟨wr.1.size,4,none⟩=some (.int .i64 ab)∧y.cell? ⟨wr.1.size,5,none⟩=some (.int .i64 Z)∧y.cell? ⟨wr.1.size,6,none⟩=some (.float .f64 X)∧y.cell? ⟨wr.1.size,7,none⟩=some (.string ak)∧y.cell? ⟨wr.1.size,8,none⟩=some (.slice aj ah Y)):=(by rw[a3];refine⟨?_,?_,?_,?_,?_,?_,?_,?_,?_⟩ <;> simp);clear J a3 bi
   go_wp2_with fail;rw[<-b7.out];obtain⟨c0,c1,c2,c3,c4,b9,ca,cb,cc⟩:=b2.out;obtain⟨cd,ce,cf,cg,ci,cj,ck,cn,co⟩:=b4.out;have cp:=b8.out;clear b2 b4 b8 b7 dc dd de df dh di dj dk dn
   go_region_held3 (fun w'=>w'.cell? ⟨wr.1.size,0,none⟩=some (.string bj)∧w'.cell? ⟨wr.1.size,1,none⟩=some (.int .i64 k)∧w'.cell? ⟨wr.1.size,2,none⟩=some (.slice W V U)∧w'.cell? ⟨wr.1.size,3,none⟩=some (.bool O)∧w'.cell? ⟨wr.1.size,4,none⟩=some (.int .i64 ab)∧w'.cell? ⟨wr.1.size,5,none⟩=some (.int .i64 Z)∧w'.cell? ⟨wr.1.size,6,none⟩=some (.float .f64 X)∧w'.cell? ⟨wr.1.size,7,none⟩=some (.string ak)∧w'.cell? ⟨wr.1.size,8,none⟩=some (.slice aj ah Y)∧w'.cell? ⟨D,E+j*9,none⟩=some (.string ds)∧w'.cell? ⟨D,E+j*9+1,none⟩=some (.int .i64 k')∧w'.cell? ⟨D,E+j*9+2,none⟩=some (.slice bp bn bk)∧w'.cell? ⟨D,E+j*9+3,none⟩=some (.bool a4)∧w'.cell? ⟨D,E+j*9+4,none⟩=some (.int .i64 bO)∧w'.cell? ⟨D,E+j*9+5,none⟩=some (.int .i64 bN)∧w'.cell? ⟨D,E+j*9+6,none⟩=some (.float .f64 br)∧w'.cell? ⟨D,E+j*9+7,none⟩=some (.string b0)∧w'.cell? ⟨D,E+j*9+8,none⟩=some (.slice bX bT bs)∧w'.cell? ⟨w.1.size+1,0,none⟩=some (.slice (some ⟨D,E,none⟩) t.length d)) (go_keep) (first|(go_at_call 103;refine(I.out _ (below_drewN a1.out _)).mono ?_;rintro e w4 ⟨rfl,cq⟩;have o:=dz (w:=y) cq (by rfl) (by rfl) (by rfl) (by rfl);have z0:=ae o c0;have z1:=ae o c1;have z2:=ae o c2;have z3:=ae o c3;have z4:=ae o c4;have ea:=ae o b9;have eb:=ae o ca;have ec:=ae o cb;have ed:=ae o cc;have d0:=ae o cd;have d1:=ae o ce;have d2:=ae o cf;have d3:=ae o cg;have d4:=ae o ci;have d5:=ae o cj;have d6:=ae o ck;have d7:=ae o cn;have d8:=ae o co;have d9:=ae o cp;have a0:=gQq o;clear cq o))
   clear z0 z1 z2 z3 z4 ea eb ec ed d0 d1 d2 d3 d4 d5 d6 d7 d8 d9 c0 c1 c2 c3 c4 b9 ca cb cc cd ce cf cg ci cj ck cn co cp;cases r with
   |true=>
    have c8:Hid (Below z.1.size z w4∧∀m (Q:m<s.length) (S:m<t.length),m<j+1->Sch.colSame s[m] t[m]=true):=by
     refine⟨a7.out.trans (a0.out.mono a7.out.size),fun m Q S ei=>?_⟩;by_cases dr:m=j
     ·subst dr;exact b6.out.symm
     ·exact a5.out m Q S (by omega)
    clear a0 a5 I;go_wp2;go_roundw;case rel=>exact⟨j+1,by omega,by go_num,c8⟩
    case measure=>simp[intOf];omega
   |false=>
    have a9:Hid (Sch.same s t=false):=jN s t j bc ct b6.out.symm;have a8:=gQq (b5.out.trans (a0.out.mono b5.out.size));clear a0 a5 I;go_wp2;go_ret;exact⟨by rw[a9.out];rfl,a8.out⟩
  ·have a9:Hid (Sch.same s t=true):=iC s t b1.out (fun m Q S=>K.out.2 m Q S (by omega));have a8:=gQq J;have eh:¬(j:Int)<(s.length:Int):=(by omega);clear K J bc;go_wp2;go_ret;exact⟨by rw[a9.out];rfl,a8.out⟩
end
section
open Go.RowKit Go.Maps
theorem sA:Keyed Tryz.prog 9:=string_keyed Tryz.underlying9
theorem qC(w:World):(zeroValue 3).run Tryz.prog w=.ok (.int .i64 0) w:=by kernel_rfl
def oi(t:ByteArray):Lit:=.string t.data.toList
theorem uN{a b:ByteArray}(h:oi a=oi b):a=b:=by
 unfold oi at h;injection h with h;obtain⟨⟨a⟩⟩:=a;obtain⟨⟨b⟩⟩:=b
 simp_all
theorem qX{t:ByteArray}(h:t.size<=140737488351232):keyOf Tryz.prog 9 (.string t)=some (oi t):=Go.WideMaps.keyOf_string_mk Tryz.underlying9 (by unfold maxLen;omega)
structure cW(w:World)(M n:Nat)(l:List Col):Prop where
 out:∃D:DataW Unit,w.ownsMap Tryz.prog 9 (plainElem Tryz.prog 3) M n D∧∀t:ByteArray,has D (oi t)=l.any (fun x=>decide (x.name=t))
theorem j6(w:World):cW (w.alloc (.map #[] 0)) w.1.size 0 []:=⟨.map [],World.ownsMap_made _ _ _ _,fun _=>rfl⟩
theorem cW.lt(h:cW w M n l):M<w.1.size:=by
 obtain⟨y,o,_⟩:=h.out;exact o.lt
theorem cW.keep{w':World}(h:cW w M n l)(hb:w'.1[M]?=w.1[M]?):cW w' M n l:=by
 obtain⟨o,⟨es,clock,y,z⟩,D⟩:=h.out;exact⟨o,⟨es,clock,hb.trans y,z⟩,D⟩
theorem qY{o:DataW Unit}{P:Program}{k:TypeId}{R:Value->Option (DataW Unit×List MemPlace)}{w:World}{M n:Nat}{l:List Col}(z:w.ownsMap P k R M n o)(h:∀t:ByteArray,has o (oi t)=l.any (fun x=>decide (x.name=t)))(c:Col)(d:DataW Unit)(t:ByteArray):
  has (o.put (oi c.name) d) (oi t)=(l++[c]).any (fun x=>decide (x.name=t)):=by
 rw[List.any_append];by_cases y:c.name=t
 ·subst y;rw[has_put_same z.isMap (by trivial)];simp
 ·rw[has_put_other (fun e=>y (uN e).symm),h t];simp[y]
end
section
open Go.RowKit Go.Maps
attribute [local go_sem] af
def ks(c:Col):Nat:=if c.has=false then (if V.same c.dflt V0 then 0 else 80) else if chk 1 c.dflt≠0 then chk 1 c.dflt else if Sch.is c.dflt c.ty then 0 else 80
theorem s9(l:List Col)(c:Col):Sch.colErr l c=if Sch.name c.name=false then 70 else if l.any (fun x=>decide (x.name=c.name)) then 71 else if Ty.check 1 c.ty≠0 then Ty.check 1 c.ty else ks c:=rfl
theorem oY(w:World):aJ w (cells5 0 0 0 ⟨#[]⟩ none 0 0) V0:=aJ.mk (xs:=[]) (fun _=>#[]) (by simp) (by simp) (fun o=>absurd rfl o) (fun j y=>by simp at y)
theorem kV(x:Col)(w:World)(u:AV)(bb:iv w u x)(ak:Ty.check 1 x.ty=0):Calls Tryz.prog 176 #[.agg u] w fun e w'=>e=.returned (.int .i64 (ks x:Nat))∧Below w.1.size w w':=by
 obtain⟨k,bj,bi,be,bq,bp,bk,bN,bs,br,bn,rfl,a1,Z⟩:=bb.out;obtain⟨a2,z,has,o⟩:=x;dsimp only at a1 Z ak;unfold av;obtain⟨y,aj⟩:∃y,y=w.alloc (.cells #[.string a2,.int .i64 k,.slice bj bi be,.bool has,.int .i64 bq,.int .i64 bp,.float .f64 bk,.string bN,.slice bs br bn] 40):=⟨_,rfl⟩;have D:Hid (Below w.1.size w y):=by rw[aj];exact gQy
 have ah:Hid (y.cell? ⟨w.1.size,1,none⟩=some (.int .i64 k)∧y.cell? ⟨w.1.size,2,none⟩=some (.slice bj bi be)∧y.cell? ⟨w.1.size,4,none⟩=some (.int .i64 bq)∧y.cell? ⟨w.1.size,5,none⟩=some (.int .i64 bp)∧y.cell? ⟨w.1.size,6,none⟩=some (.float .f64 bk)∧y.cell? ⟨w.1.size,7,none⟩=some (.string bN)∧y.cell? ⟨w.1.size,8,none⟩=some (.slice bs br bn)):=by rw[aj];refine⟨?_,?_,?_,?_,?_,?_,?_⟩ <;> simp
 have X:=gQq (xF o V0 y _ _ (Z.on D.out) (oY y));have U:=gQq (qm o y _ (Z.on D.out));have K:=gQq (fun w' (hb:Below y.1.size y w') b7=>xQ o z 1 w' _ _ b7 ak ((Z.on D.out).on hb) ((a1.on D.out).on hb));have O:Hid (chk 1 o=0->Sch.is o z=Sch.of o z):=fun h=>by
  unfold Sch.is;rw[decide_eq_true ak,decide_eq_true h];rfl
 have I:Hid (ks ⟨a2,z,has,o⟩=if has=false then (if V.same o V0 then 0 else 80) else if chk 1 o≠0 then chk 1 o else if Sch.is o z then 0 else 80):=rfl;obtain⟨R,a4⟩:∃R,R=ks ⟨a2,z,has,o⟩:=⟨_,rfl⟩;rw[<-a4] at I ⊢;obtain⟨bc,a6⟩:∃r,r=V.same o V0:=⟨_,rfl⟩;rw[<-a6] at X I;obtain⟨S,a7⟩:∃r,r=chk 1 o:=⟨_,rfl⟩;rw[<-a7] at U I K O;obtain⟨b8,a8⟩:∃r,r=Sch.is o z:=⟨_,rfl⟩;rw[<-a8] at I O;have ab:=gQq aj;unfold cells5 at X U K;unfold an at K;clear aj a1 Z bb ak a4 a6 a7 a8;cases has with
 |false=>
  have J:Hid (R=if bc then 0 else 80):=by show _=_;rw[I.out,if_pos rfl]
  clear I U K O ah;go_enter Tryz.func176,Tryz.ntmps176;go_wp2_with fail;rw[<-ab.out];clear ab;refine X.out.mono ?_;rintro e w1 ⟨rfl,Q⟩;have L:=gQq (D.out.trans (Q.mono D.out.size));clear Q X;cases bc with
  |true=>
   go_wp2;go_ret;exact⟨by rw[J.out];rfl,L.out⟩
  |false=>
   go_wp2;go_ret;exact⟨by rw[J.out];rfl,L.out⟩
 |true=>
  have J:Hid (R=if S≠0 then S else if b8 then 0 else 80):=by show _=_;rw[I.out,if_neg (by decide)]
  clear I X;go_enter Tryz.func176,Tryz.ntmps176;go_wp2_with fail;rw[<-ab.out];clear ab;refine U.out.mono ?_;rintro e w1 ⟨rfl,Q⟩;have E:=gQq Q;have L:=gQq (D.out.trans (Q.mono D.out.size));clear Q U;by_cases Y:S=0
  ·have b6:((S:Int) != 0)=false:=bo (by omega);obtain⟨bO,bT,bX,b0,b1,b2,b3⟩:=ah.out;have c0:=ae E.out bO;have c1:=ae E.out bT;have c2:=ae E.out bX;have c3:=ae E.out b0;have c4:=ae E.out b1;have b4:=ae E.out b2;have b5:=ae E.out b3;have a0:=gQq (K.out w1 E.out Y);have W:Hid (R=if Sch.of o z then 0 else 80):=by
    show _=_;rw[J.out,if_neg (by omega),O.out Y]
   obtain⟨b9,a9⟩:∃r,r=Sch.of o z:=⟨_,rfl⟩;rw[<-a9] at a0 W;clear bO bT bX b0 b1 b2 b3 ah K O J a9 Y;go_wp2_with fail;refine a0.out.mono ?_;rintro e ca ⟨rfl,a5⟩;have a3:=gQq (L.out.trans (a5.mono L.out.size));clear a5 c0 c1 c2 c3 c4 b4 b5 a0;cases b9 with
   |true=>
    go_wp2;go_ret;exact⟨by rw[W.out];rfl,a3.out⟩
   |false=>
    go_wp2;go_ret;exact⟨by rw[W.out];rfl,a3.out⟩
  ·have b6:((S:Int) != 0)=true:=aQ (by omega);have W:Hid (R=S):=(by show _=_;rw[J.out,if_pos Y]);clear K O J Y ah;go_wp2;go_ret;exact⟨by rw[W.out];rfl,L.out⟩
def jb(s:List Col):Nat:=if s.length=0 then 4 else if 16<s.length then 3 else Sch.colsErr [] s
theorem mJ(s:List Col)(j:Nat)(o:j<s.length):Sch.colsErr (s.take j) (s.drop j)=if Sch.colErr (s.take j) s[j]=0 then Sch.colsErr (s.take (j+1)) (s.drop (j+1)) else Sch.colErr (s.take j) s[j]:=by
 rw[List.drop_eq_getElem_cons o,Sch.colsErr,List.take_succ_eq_append_getElem o]
theorem kW(s:List Col)(p:OA)(c:Nat)(w:World)(da:et w p s)(c9:∀x∈s,x.wf):
    Calls Tryz.prog 106 #[.slice p s.length c] w fun e w'=>e=.returned (.int .i64 (jb s:Nat))∧Below w.1.size w w':=by
  have e3:=@run_makeMap Tryz.prog;obtain⟨R,b0⟩:∃R,R=jb s:=⟨_,rfl⟩;have K:Hid (R=if s.length=0 then 4 else if 16<s.length then 3 else Sch.colsErr [] s):=b0;rw[<-b0];clear b0;have d5:=gQq da;have d4:=gQq c9;clear da c9;by_cases L:s.length=0
  · have ef:((s.length:Int)==0)=true:=cZ (by omega);have S:Hid (R=4):=(by show _=_;rw[K.out,if_pos L]);clear K L;go_enter Tryz.func106,Tryz.ntmps106;go_wp2;go_ret;exact⟨by rw[S.out];rfl,gQz⟩
  have ef:((s.length:Int)==0)=false:=bd (by omega);by_cases a6:16<s.length
  · have eg:(16:Int)<(s.length:Int):=(by omega);have S:Hid (R=3):=(by show _=_;rw[K.out,if_neg L,if_pos a6]);clear K L a6;go_enter Tryz.func106,Tryz.ntmps106;go_wp2;go_ret;exact⟨by rw[S.out];rfl,gQz⟩
  have eg:¬(16:Int)<(s.length:Int):=by omega
  have S:Hid (R=Sch.colsErr (s.take 0) (s.drop 0)):=by show _=_;rw[K.out,if_neg L,if_neg a6];simp
  have e4:s.length<=16:=by omega
  clear K L a6;obtain⟨a5,a7⟩:∃a5,a5=w.alloc (.map #[] 0):=⟨_,rfl⟩;have dr:Hid (Below w.1.size w a5):=by rw[a7];exact gQy
  have d2:Hid (cW a5 w.1.size 0 (s.take 0)):=by rw[a7];exact j6 w
  have cg:=gQq a7;clear a7;go_enter Tryz.func106,Tryz.ntmps106;go_wp2_with fail;rw[<-cg.out];clear cg;go_loopw [19] (fun b8 wr=>∃j:Nat,j<=s.length∧b8=.int .i64 j∧Hid (Below w.1.size w wr∧cW wr w.1.size j (s.take j)∧R=Sch.colsErr (s.take j) (s.drop j))) (fun b8 _=>s.length-(intOf b8).toNat);case atStart=>exact⟨0,by omega,rfl,dr.out,d2.out,S.out⟩
  case round=>
    obtain⟨j,e0,rfl,I⟩:=hrel;by_cases X:j<s.length
    · obtain⟨bx,e5,k,be,bc,bb,bn,bk,bi,br,bq,bp,bj,rfl,_,cr,b6,c7⟩:=d5.out.at j X;obtain⟨cj,d6,d7,ck,d8,d9,ea,eb,ec⟩:=cr.on I.out.1;clear cr;have e1:(j:Int)<(s.length:Int):=(by omega);have z:=gQq ((s9 (s.take j) s[j]));have J:=gQq (I.out.2.2.trans (mJ s j X));have em:s[j].name.size<=140737488351232:=(d4.out _ (List.getElem_mem X)).1;have V:=gQq (qX em);have a3:=gQq (xK s[j].name);have cf:=gQq (s.take_succ_eq_append_getElem X);obtain⟨D,a9,b4⟩:=I.out.2.1.out;have ce:=gQq a9;have U:=gQq (b4 s[j].name);have bX:=gQq (fun d t=>qY a9 b4 s[j] d t);have d1:=gQq a9.lt;have ca:=gQq I.out.1
      -- the copy of the column
      have a0:=gQq (fun w' (hb:Below w.1.size w w')=>kA s[j].ty w' _ (b6.on hb));have E:=gQq (fun w' (hb:Below w.1.size w w') (h:Ty.check 1 s[j].ty=0)=>kV s[j] w' _ ⟨k,be,bc,bb,bn,bk,bi,br,bq,bp,bj,rfl,b6.on hb,c7.on hb⟩ h);unfold av at E;unfold an at a0;obtain⟨Y,cu⟩:∃n,n=s[j].name:=⟨_,rfl⟩;obtain⟨b5,cs⟩:∃n,n=s[j].has:=⟨_,rfl⟩;rw[<-cu] at cj z V a3 U bX E;rw[<-cs] at ck E;obtain⟨er,c5⟩:∃r,r=Sch.name Y:=⟨_,rfl⟩;rw[<-c5] at a3 z;obtain⟨Z,c6⟩:∃r,r=Ty.check 1 s[j].ty:=⟨_,rfl⟩;rw[<-c6] at a0 z E;obtain⟨rd,cy⟩:∃r,r=ks s[j]:=⟨_,rfl⟩;rw[<-cy] at E z;obtain⟨ep,cx⟩:∃r,r=(s.take j).any (fun x=>decide (x.name=Y)):=⟨_,rfl⟩;rw[<-cx] at U z;obtain⟨o,Q⟩:∃o,o=wr.alloc (.cells #[.string Y,.int .i64 k,.slice be bc bb,.bool b5,.int .i64 bn,.int .i64 bk,.float .f64 bi,.string br,.slice bq bp bj] 40):=⟨_,rfl⟩;have ds:Hid (Below wr.1.size wr o):=(by rw[Q];exact gQy);have dp:Hid (o.cell? ⟨wr.1.size,0,none⟩=some (.string Y)∧o.cell? ⟨wr.1.size,1,none⟩=some (.int .i64 k)∧o.cell? ⟨wr.1.size,2,none⟩=some (.slice be bc bb)∧o.cell? ⟨wr.1.size,3,none⟩=some (.bool b5)∧o.cell? ⟨wr.1.size,4,none⟩=some (.int .i64 bn)∧o.cell? ⟨wr.1.size,5,none⟩=some (.int .i64 bk)∧o.cell? ⟨wr.1.size,6,none⟩=some (.float .f64 bi)∧o.cell? ⟨wr.1.size,7,none⟩=some (.string br)∧o.cell? ⟨wr.1.size,8,none⟩=some (.slice bq bp bj)):=(by rw[Q];refine⟨?_,?_,?_,?_,?_,?_,?_,?_,?_⟩ <;> simp);have ak:Hid (Below w.1.size w o):=ca.out.trans (ds.out.mono ca.out.size)
      have a4:Hid (o.ownsMap Tryz.prog 9 (plainElem Tryz.prog 3) w.1.size j D):=(by rw[Q];exact ce.out.alloc _);have en:wr.1.size<o.1.size:=(by rw[Q];simp);have ci:=gQq Q;clear cu cs c5 c6 cy cx b6 c7 a9 b4 Q I ce;go_wp2_with fail;rw[<-ci.out];clear ci cj d6 d7 ck d8 d9 ea eb ec;refine(a3.out _).mono ?_;rintro e ab ⟨rfl,c8⟩;rw[c8];clear c8 ab a3;cases er with
      |false=>
        have bO:Hid (R=70):=(by show _=_;rw[J.out,z.out];rfl);go_wp2;go_ret;exact⟨by rw[bO.out];rfl,ak.out⟩
      |true=>
        obtain⟨c0,c1,c2,c3,c4,cn,co,cp,cq⟩:=dp.out;cases ep with
        |true=>
          have bO:Hid (R=71):=(by show _=_;rw[J.out,z.out];rfl);go_wp2_with (first | (at_lookup;refine wpList_lookup_own_ok_int _ rfl _ _ 249 rfl 9 3 .i64 sA Tryz.underlying249 Tryz.underlying3 (qC _) w.1.size j D rfl a4.out _ _ rfl V.out ?_;intro ed b1 b7;rw[U.out];clear b1 b7));go_ret;exact⟨by rw[bO.out];rfl,ak.out⟩
        |false=>
          go_wp2_with (first
            | (at_lookup;refine wpList_lookup_own_ok_int _ rfl _ _ 249 rfl 9 3 .i64 sA Tryz.underlying249 Tryz.underlying3 (qC _) w.1.size j D rfl a4.out _ _ rfl V.out ?_;intro ed b1 b7;rw[U.out];clear b1 b7)
            | (at_mapUpdate;refine wpList_mapUpdate_own _ rfl _ _ _ 249 rfl 9 3 sA Tryz.underlying249 _ w.1.size j D rfl a4.out (by unfold maxLen;omega) _ _ _ rfl rfl V.out _ [] (plainElem_int Tryz.underlying3 (WalkArith.wf_i64 (by omega))) ?_;intro w1 cw b3
               have cd:=gQq cw;have cc:=gQq b3;have cv:¬wr.1.size=w.1.size:=(by have:=d1.out;omega);have hblk:w1.1[wr.1.size]?=o.1[wr.1.size]?:=b3.block _ en (fun el=>cv (by injection el));have db:w1.cell? ⟨wr.1.size,0,none⟩=some (.string Y):=(World.cell?_of_block (w:=o) hblk).trans c0;have dc:w1.cell? ⟨wr.1.size,1,none⟩=some (.int .i64 k):=(World.cell?_of_block (w:=o) hblk).trans c1;have dd:w1.cell? ⟨wr.1.size,2,none⟩=some (.slice be bc bb):=(World.cell?_of_block (w:=o) hblk).trans c2;have de:w1.cell? ⟨wr.1.size,3,none⟩=some (.bool b5):=(World.cell?_of_block (w:=o) hblk).trans c3;have df:w1.cell? ⟨wr.1.size,4,none⟩=some (.int .i64 bn):=(World.cell?_of_block (w:=o) hblk).trans c4;have dh:w1.cell? ⟨wr.1.size,5,none⟩=some (.int .i64 bk):=(World.cell?_of_block (w:=o) hblk).trans cn;have di:w1.cell? ⟨wr.1.size,6,none⟩=some (.float .f64 bi):=(World.cell?_of_block (w:=o) hblk).trans co;have dj:w1.cell? ⟨wr.1.size,7,none⟩=some (.string br):=(World.cell?_of_block (w:=o) hblk).trans cp;have dk:w1.cell? ⟨wr.1.size,8,none⟩=some (.slice bq bp bj):=(World.cell?_of_block (w:=o) hblk).trans cq;clear c0 c1 c2 c3 c4 cn co cp cq cw b3 hblk cv))
          have bs:Hid (Below w.1.size w w1):=ak.out.grown cc.out ak.out.size (fun k ct=>by injection ct with ct;omega);have a2:Hid (cW w1 w.1.size (j+1) (s.take (j+1))):=by
            rw[cf.out];exact⟨_,cd.out,bX.out _⟩
          have bN:=gQq (a0.out w1 bs.out);clear a0 cd bX a4 U V cf cc;go_wp2_with fail;refine bN.out.mono ?_;rintro e ab ⟨rfl,y⟩;have aj:Hid (Below w.1.size w ab):=bs.out.trans (y.mono bs.out.size);have bT:Hid (cW ab w.1.size (j+1) (s.take (j+1))):=a2.out.keep (y.block _ a2.out.lt);by_cases O:Z=0
          · have ei:((Z:Int) != 0)=false:=bo (by omega);have z0:=ae y db;have z1:=ae y dc;have z2:=ae y dd;have z3:=ae y de;have z4:=ae y df;have eu:=ae y dh;have ew:=ae y di;have ez:=ae y dj;have eC:=ae y dk;have cb:=gQq (E.out ab aj.out O);clear db dc dd de df dh di dj dk y bN E a2;have a1:Hid (Sch.colErr (s.take j) s[j]=rd):=by
              show _=_;rw[z.out,O];rfl
            clear z O;go_wp2_with fail;refine cb.out.mono ?_;rintro e dn ⟨rfl,b2⟩;have b9:Hid (Below w.1.size w dn):=aj.out.trans (b2.mono aj.out.size);have d3:Hid (cW dn w.1.size (j+1) (s.take (j+1))):=bT.out.keep (b2.block _ bT.out.lt);clear b2 z0 z1 z2 z3 z4 eu ew ez eC cb bT;by_cases a8:rd=0
            · have eh:((rd:Int) != 0)=false:=bo (by omega);have W:Hid (R=Sch.colsErr (s.take (j+1)) (s.drop (j+1))):=(by show _=_;rw[J.out,a1.out,if_pos a8]);clear a8 J a1;go_wp2;go_roundw;case rel=>exact⟨j+1,by omega,by go_num,b9.out,d3.out,W.out⟩
              case measure=>simp[intOf];omega
            · have eh:((rd:Int) != 0)=true:=aQ (by omega);have W:Hid (R=rd):=(by show _=_;rw[J.out,a1.out,if_neg a8]);clear a8 J a1;go_wp2;go_ret;exact⟨by rw[W.out];rfl,b9.out⟩
          · have ei:((Z:Int) != 0)=true:=aQ (by omega);have W:Hid (R=Z):=by
              show _=_;have ee:Sch.colErr (s.take j) s[j]=Z:=(by rw[z.out,if_neg (by decide),if_neg (by decide),if_pos O]);rw[J.out,ee,if_neg O]
            clear O y bN E a2 z J;go_wp2;go_ret;exact⟨by rw[W.out];rfl,aj.out⟩
    · have dv:=gQq I.out.1;have d0:Hid (R=0):=(by show _=_;rw[I.out.2.2,List.drop_eq_nil_of_le (by omega)];rfl);have e2:¬(j:Int)<(s.length:Int):=(by omega);clear I X;go_wp2;go_ret;exact⟨by rw[d0.out];rfl,dv.out⟩
end
end Go.Proofs.YtbahfgdbjgkklaaGreatDoor

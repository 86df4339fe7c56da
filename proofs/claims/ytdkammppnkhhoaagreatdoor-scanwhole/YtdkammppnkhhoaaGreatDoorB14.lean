import Derived.Test.YtdkammppnkhhoaaGreatDoorB09
set_option maxRecDepth 100000
set_option maxHeartbeats 4000000
namespace Go.Proofs.YtdkammppnkhhoaaGreatDoor
variable{M n:Nat}{w:World}{l:List Col}
section
open Go.RowKit
theorem me(k:Int)(w:World):Calls Tryz.prog 177 #[.int .i64 k] w fun e w'=>e=.returned (.int .i64 (Ty.want k:Nat))∧w'=w:=by
 by_cases o:k=6
 ·have A:(k==6)=true:=bQ o;have y:Hid (Ty.want k=1):=by show _=_;unfold Ty.want;rw[if_pos (.inl o)]
  clear o;go_enter Tryz.func177,Tryz.ntmps177;go_wp2;go_ret;exact⟨by rw[y.out];rfl,rfl⟩
 have A:(k==6)=false:=aK o;by_cases z:k=7
 ·have D:(k==7)=true:=bQ z;have y:Hid (Ty.want k=1):=by show _=_;unfold Ty.want;rw[if_pos (.inr z)]
  clear o z;go_enter Tryz.func177,Tryz.ntmps177;go_wp2;go_ret;exact⟨by rw[y.out];rfl,rfl⟩
 have D:(k==7)=false:=aK z;have y:Hid (Ty.want k=0):=by show _=_;unfold Ty.want;rw[if_neg (by omega)]
 clear o z;go_enter Tryz.func177,Tryz.ntmps177;go_wp2;go_ret;exact⟨by rw[y.out];rfl,rfl⟩
theorem kZ:∀(x:Ty) (d:Nat) (w:World) (u:AV),d<=5->aD w u x->Calls Tryz.prog 155 #[.agg u,.int .i64 d] w fun e w'=>e=.returned (.int .i64 (Ty.check d x:Nat))∧Below w.1.size w w':=by
 intro x;refine Ty.ind (P:=fun x=>∀(d:Nat) (w:World) (u:AV),d<=5->aD w u x->Calls Tryz.prog 155 #[.agg u,.int .i64 d] w fun e w'=>e=.returned (.int .i64 (Ty.check d x:Nat))∧Below w.1.size w w') ?_ x;rintro k xs I d w u hd a3;obtain⟨p,c,rfl,bq,bp,E⟩:=a3.open;unfold al;have ah:Below w.1.size w (w.alloc (.cells #[.int .i64 k,.slice p xs.length c] 73)):=xV;have HB1:=xX ah;clear ah a3;obtain⟨A,U⟩:∃A,A=Ty.check d (.mk k xs):=⟨_,rfl⟩;have o:=xX (U.trans (Ty.check_mk d k xs));rw[<-U];clear U;by_cases D:4<d
 ·have a8:(4:Int)<(d:Int):=by omega
  have z:Hid (A=62):=by show _=_;rw[o.out,if_pos D]
  clear I E o;go_enter Tryz.func155,Tryz.ntmps155;go_wp2;go_ret;exact⟨by rw[z.out];rfl,HB1.out⟩
 have a8:¬(4:Int)<(d:Int):=by omega
 by_cases K:k<1
 ·have z:Hid (A=60):=by show _=_;rw[o.out,if_neg D,if_pos (by omega)]
  have bd:decide (k<1)=true:=decide_eq_true K;clear I E o;go_enter Tryz.func155,Tryz.ntmps155;go_wp2_with fail;go_quiet (fail);go_wp2;go_ret;exact⟨by rw[z.out];rfl,below_drewN HB1.out _⟩
 have bd:decide (k<1)=false:=decide_eq_false K;by_cases Z:7<k
 ·have z:Hid (A=60):=by show _=_;rw[o.out,if_neg D,if_pos (by omega)]
  have be:decide (7<k)=true:=decide_eq_true Z;clear I E o;go_enter Tryz.func155,Tryz.ntmps155;go_wp2_with fail;go_quiet (fail);go_wp2;go_ret;exact⟨by rw[z.out];rfl,below_drewN HB1.out _⟩
 have be:decide (7<k)=false:=decide_eq_false Z;have J:Hid (∀w,Calls Tryz.prog 177 #[.int .i64 k] w fun e w'=>e=.returned (.int .i64 (Ty.want k:Nat))∧∃n,w'=w.drewN n):=fun w=>(me k w).mono fun _ _ ⟨D,K⟩=>⟨D,0,K⟩;obtain⟨n,W⟩:∃n,n=Ty.want k:=⟨_,rfl⟩;have R:=xX W;rw[<-W] at J o;clear W;by_cases L:xs.length=n
 ·have a9:((xs.length:Int) != (n:Int))=false:=cd (by omega);by_cases V:xs.length=0
  ·have bb:((xs.length:Int)==0)=true:=bQ (by omega);have z:Hid (A=0):=by
    show _=_;have bc:xs=[]:=List.eq_nil_of_length_eq_zero V;subst bc;rw[o.out,if_neg D,if_neg (by omega)];rfl
   clear I E o V L;go_enter Tryz.func155,Tryz.ntmps155;go_wp2_with fail;go_quiet (first | (go_at_call 177;exact Calls.quiet_of (J.out _)));go_wp2;go_ret;exact⟨by rw[z.out];rfl,below_drewN HB1.out _⟩
  ·have bb:((xs.length:Int)==0)=false:=aK (by omega);have a1:xs.length=1:=by
    have:=R.out;unfold Ty.want at this;split at this <;> omega
   have Y:Hid (∀j (bl:j<xs.length),∃a4,aD w a4 xs[j]∧dH w p j a4):=E;have X:=xX I;obtain⟨bX,a2,a0⟩:=Y.out 0 (by omega);obtain⟨bx,bO,bs,bT,bN,bk,rfl,_,rfl,a6,a7⟩:=(a0.on HB1.out).lies;rw[Nat.zero_mul,Nat.add_zero] at a6 a7;have aj:A=Ty.check (d+1) (xs[0]'(by omega)):=by
    obtain⟨y,rfl⟩:=List.length_eq_one_iff.1 a1;rw[o.out];have:=Ty.check_one d k y D (by omega) (by rw[<-R.out];simp at L;omega);rw[Ty.check_mk,<-R.out] at this;exact this
   have O:=xX (fun n=>X.out _ (List.getElem_mem (by omega:0<xs.length)) (d+1) _ _ (by omega) (a2.on (below_drewN HB1.out n)));rw[<-aj] at O;unfold al at O;have bn:(0:Int)<(xs.length:Int):=(by omega);clear aj Y X a2 a0 o I E a1 V L;go_enter Tryz.func155,Tryz.ntmps155;go_wp2_with fail;go_quiet (first | (go_at_call 177;exact Calls.quiet_of (J.out _)));go_wp2_with fail;refine(O.out nq).mono ?_;rintro e b0 ⟨rfl,ak⟩;have a5:=xX ((below_drewN HB1.out nq).trans (ak.mono (below_drewN HB1.out nq).size));clear ak;go_wp2;go_ret;exact⟨rfl,a5.out⟩
 ·have a9:((xs.length:Int) != (n:Int))=true:=bz (by omega);have z:Hid (A=60):=by show _=_;rw[o.out,if_neg D,if_pos (by omega)]
  clear I E o L;go_enter Tryz.func155,Tryz.ntmps155;go_wp2_with fail;go_quiet (first | (go_at_call 177;exact Calls.quiet_of (J.out _)));go_wp2;go_ret;exact⟨by rw[z.out];rfl,below_drewN HB1.out _⟩
theorem oz(x:Ty)(w:World)(u:AV)(h:aD w u x):Calls Tryz.prog 124 #[.agg u] w fun e w'=>e=.returned (.int .i64 (Ty.check 1 x:Nat))∧Below w.1.size w w':=by
 obtain⟨k,xs⟩:=x;obtain⟨p,c,rfl,-⟩:=h.open;have z:Below w.1.size w (w.alloc (.cells (al k p xs.length c) 73)):=xV;have o:=xX z;have y:=xX (kZ _ 1 _ _ (by omega) (h.on z));clear z h;obtain⟨A,D⟩:∃A,A=Ty.check 1 (.mk k xs):=⟨_,rfl⟩;rw[<-D] at y ⊢;clear D;unfold al at y o ⊢;go_enter Tryz.func124,Tryz.ntmps124;go_wp2_with fail;refine y.out.mono ?_;rintro e J ⟨rfl,E⟩;have I:=xX (o.out.trans (E.mono o.out.size));clear E;go_wp2;go_ret;exact⟨rfl,I.out⟩
def dig(c:UInt8):Bool:=decide (48<=c.toNat∧c.toNat<=57)
theorem vC(c:UInt8):Sch.ch c=(Sch.low c||dig c||decide (c.toNat=95)):=rfl
theorem j8(c:UInt8)(w:World):Calls Tryz.prog 153 #[.int .u8 c.toNat] w fun e w'=>e=.returned (.bool (Sch.low c))∧w'=w:=by
 by_cases y:c.toNat<97
 ·have A:¬(97:Int)<=(c.toNat:Int):=by omega
  have D:(c.toNat:Int)<97:=by omega
  have o:Hid (Sch.low c=false):=by show _=_;unfold Sch.low;rw[decide_eq_false (by omega)]
  clear y;go_enter Tryz.func153,Tryz.ntmps153;go_wp2;go_ret;exact⟨by rw[o.out];rfl,rfl⟩
 have A:(97:Int)<=(c.toNat:Int):=by omega
 have D:¬(c.toNat:Int)<97:=by omega
 by_cases z:c.toNat<=122
 ·have E:(c.toNat:Int)<=122:=by omega
  have I:¬(122:Int)<(c.toNat:Int):=by omega
  have o:Hid (Sch.low c=true):=by show _=_;unfold Sch.low;rw[decide_eq_true (by omega)]
  clear y z;go_enter Tryz.func153,Tryz.ntmps153;go_wp2;go_ret;exact⟨by rw[o.out];rfl,rfl⟩
 ·have E:¬(c.toNat:Int)<=122:=by omega
  have I:(122:Int)<(c.toNat:Int):=by omega
  have o:Hid (Sch.low c=false):=by show _=_;unfold Sch.low;rw[decide_eq_false (by omega)]
  clear y z;go_enter Tryz.func153,Tryz.ntmps153;go_wp2;go_ret;exact⟨by rw[o.out];rfl,rfl⟩
theorem sS(c:UInt8)(w:World):Calls Tryz.prog 154 #[.int .u8 c.toNat] w fun e w'=>e=.returned (.bool (dig c))∧w'=w:=by
 by_cases y:c.toNat<48
 ·have A:¬(48:Int)<=(c.toNat:Int):=by omega
  have D:(c.toNat:Int)<48:=by omega
  have o:Hid (dig c=false):=by show _=_;unfold dig;rw[decide_eq_false (by omega)]
  clear y;go_enter Tryz.func154,Tryz.ntmps154;go_wp2;go_ret;exact⟨by rw[o.out];rfl,rfl⟩
 have A:(48:Int)<=(c.toNat:Int):=by omega
 have D:¬(c.toNat:Int)<48:=by omega
 by_cases z:c.toNat<=57
 ·have E:(c.toNat:Int)<=57:=by omega
  have I:¬(57:Int)<(c.toNat:Int):=by omega
  have o:Hid (dig c=true):=by show _=_;unfold dig;rw[decide_eq_true (by omega)]
  clear y z;go_enter Tryz.func154,Tryz.ntmps154;go_wp2;go_ret;exact⟨by rw[o.out];rfl,rfl⟩
 ·have E:¬(c.toNat:Int)<=57:=by omega
  have I:(57:Int)<(c.toNat:Int):=by omega
  have o:Hid (dig c=false):=by show _=_;unfold dig;rw[decide_eq_false (by omega)]
  clear y z;go_enter Tryz.func154,Tryz.ntmps154;go_wp2;go_ret;exact⟨by rw[o.out];rfl,rfl⟩
theorem vd(t:ByteArray)(w:World):Calls Tryz.prog 123 #[.string t] w fun e w'=>e=.returned (.bool (Sch.name t))∧w'=w:=by
 by_cases R:t.size=0
 ·have ak:((t.size:Int)==0)=true:=bQ (by omega);have y:=xX (dV (t:=t) (.inl (by omega)));clear R;go_enter Tryz.func123,Tryz.ntmps123;go_wp2;go_ret;exact⟨by rw[y.out];rfl,rfl⟩
 have ak:((t.size:Int)==0)=false:=aK (by omega);by_cases U:16<t.size
 ·have a0:(16:Int)<(t.size:Int):=by omega
  have y:=xX (dV (t:=t) (.inr U));clear R U;go_enter Tryz.func123,Tryz.ntmps123;go_wp2;go_ret;exact⟨by rw[y.out];rfl,rfl⟩
 have a0:¬(16:Int)<(t.size:Int):=by omega
 have a1:0<t.size:=by omega
 have bb:(0:Int)<(t.size:Int):=by omega
 have A:=xX (j8 t[0]);by_cases D:Sch.low t[0]=false
 ·have y:=xX (j5 a1 D);rw[D] at A;clear D R U;go_enter Tryz.func123,Tryz.ntmps123;go_wp2_with fail;refine(A.out _).mono ?_;rintro e W ⟨rfl,rfl⟩;go_wp2;go_ret;exact⟨by rw[y.out];rfl,rfl⟩
 have K:Sch.low t[0]=true:=by simpa using D
 have X:=xX K;rw[K] at A;have Y:Hid (Sch.ch t[0]=true):=by show _=_;rw[vC,K];rfl
 clear D K;go_enter Tryz.func123,Tryz.ntmps123;go_wp2_with fail;refine(A.out _).mono ?_;rintro e W ⟨rfl,rfl⟩;clear A;go_wp2_with fail;go_loop [3] (fun V=>∃a:Nat,1<=a∧a<=t.size∧V=.int .i64 a∧Hid (∀j (h:j<t.size),j<a->Sch.ch t[j]=true)) (fun V=>t.size-(intOf V).toNat);case atStart=>exact⟨1,by omega,by omega,rfl,fun j _ a4=>by
  have a2:j=0:=by omega
  subst a2
  exact Y.out⟩
 case round=>
  obtain⟨a,bd,bc,rfl,I⟩:=hrel;by_cases a6:a<t.size
  ·have bj:(a:Int)<(t.size:Int):=(by omega);have L:=xX (j8 t[a]);have J:=xX (sS t[a]);have z:=xX (vC t[a]);obtain⟨a8,Z⟩:∃r,r=Sch.low t[a]:=⟨_,rfl⟩;obtain⟨a9,ah⟩:∃r,r=dig t[a]:=⟨_,rfl⟩;rw[<-Z] at L z;rw[<-ah] at J z;clear Z ah;have O:Hid (Sch.ch t[a]=true->∀j (h:j<t.size),j<a+1->Sch.ch t[j]=true):=fun a3 j h a4=>by
    by_cases a5:j=a
    ·subst a5;exact a3
    ·exact I.out j h (by omega)
   have aj:=xX (mg (t:=t) a a6);clear I X Y;go_wp2_with fail;refine(L.out _).mono ?_;rintro e W ⟨rfl,rfl⟩;clear L;cases a8 with
   |true=>
    have o:Hid (Sch.ch t[a]=true):=(by show _=_;rw[z.out];rfl);clear J;go_wp2;go_round;case rel=>exact⟨a+1,by omega,by omega,by go_num,O.out o.out⟩
    case measure=>simp[intOf];omega
   |false=>
    go_wp2_with fail;refine(J.out _).mono ?_;rintro e W ⟨rfl,rfl⟩;clear J;cases a9 with
    |true=>
     have o:Hid (Sch.ch t[a]=true):=(by show _=_;rw[z.out];rfl);go_wp2;go_round;case rel=>exact⟨a+1,by omega,by omega,by go_num,O.out o.out⟩
     case measure=>simp[intOf];omega
    |false=>
     by_cases E:t[a].toNat=95
     ·have a7:((t[a].toNat:Int) != 95)=false:=(by rw[E];rfl);have o:Hid (Sch.ch t[a]=true):=(by show _=_;rw[z.out,decide_eq_true E];rfl);clear E;go_wp2;go_round;case rel=>exact⟨a+1,by omega,by omega,by go_num,O.out o.out⟩
      case measure=>simp[intOf];omega
     ·have a7:((t[a].toNat:Int) != 95)=true:=(by rw[bne_iff_ne];omega);have o:Hid (Sch.ch t[a]=false):=(by show _=_;rw[z.out,decide_eq_false E];rfl);clear E;go_wp2;go_ret;exact⟨by rw[aj.out o.out];rfl,rfl⟩
  ·have y:=xX (j6 (t:=t) (by omega) (by omega) X.out (fun j h=>I.out j h (by omega)));have be:¬(a:Int)<(t.size:Int):=(by omega);clear I;go_wp2;go_ret;exact⟨by rw[y.out];rfl,rfl⟩
end
section
open Go.RowKit
theorem pC:∀(x W:Ty) (w:World) (u v:AV),aD w u x->aD w v W->Calls Tryz.prog 121 #[.agg u,.agg v] w fun e w'=>e=.returned (.bool (Ty.same x W))∧Below w.1.size w w':=by
 intro x;refine Ty.ind (P:=fun x=>∀(W:Ty) (w:World) (u v:AV),aD w u x->aD w v W->Calls Tryz.prog 121 #[.agg u,.agg v] w fun e w'=>e=.returned (.bool (Ty.same x W))∧Below w.1.size w w') ?_ x;rintro k xs a5 ⟨O,o⟩ w u v cj ck;obtain⟨p,c,rfl,d0,dv,a3⟩:=cj.open;obtain⟨q,d,rfl,d2,d1,a4⟩:=ck.open;unfold al;obtain⟨z,a0⟩:∃z,z=(w.alloc (.cells #[.int .i64 k,.slice p xs.length c] 73)).alloc (.cells #[.int .i64 O,.slice q o.length d] 73):=⟨_,rfl⟩;have X:Hid (Below w.1.size w z):=by rw[a0];exact xV.alloc (by simp) _
 have cq:Hid (z.cell? ⟨w.1.size,1,none⟩=some (.slice p xs.length c)∧z.cell? ⟨w.1.size+1,1,none⟩=some (.slice q o.length d)):=by rw[a0];exact⟨by simp,by simp⟩
 have aj:=xX a0;clear a0 cj ck;by_cases y:¬k=O
 ·have cw:=bz y;have J:Hid (Ty.same (.mk k xs) (.mk O o)=false):=by show _=_;simp[Ty.same_mk,y]
  clear a5 a3 a4 y;go_enter Tryz.func121,Tryz.ntmps121;go_wp2;rw[<-aj.out];go_ret;exact⟨by rw[J.out];rfl,X.out⟩
 replace y:k=O:=Classical.not_not.1 y
 have cw:=cd y;by_cases L:¬xs.length=o.length
 ·have cx:((xs.length:Int) != (o.length:Int))=true:=bz (by omega);have J:Hid (Ty.same (.mk k xs) (.mk O o)=false):=by show _=_;simp[Ty.same_mk,Ty.sameL_ne xs o L]
  clear a5 a3 a4 y L;go_enter Tryz.func121,Tryz.ntmps121;go_wp2;rw[<-aj.out];go_ret;exact⟨by rw[J.out];rfl,X.out⟩
 replace L:xs.length=o.length:=Classical.not_not.1 L
 have cx:((xs.length:Int) != (o.length:Int))=false:=cd (by omega);have J:Hid (Ty.same (.mk k xs) (.mk O o)=Ty.sameL xs o):=by show _=_;simp[Ty.same_mk,y]
 have cp:Hid (∀j (b9:j<xs.length),∃V,aD w V xs[j]∧dH w p j V):=a3;have cs:Hid (∀j (b9:j<o.length),∃V,aD w V o[j]∧dH w q j V):=a4;have cn:=xX a5;have bs:=xX L;clear a5 a3 a4 y L;go_enter Tryz.func121,Tryz.ntmps121;go_wp2_with fail;rw[<-aj.out];clear aj;go_loopw [24] (fun bq wr=>∃j:Nat,j<=xs.length∧bq=.int .i64 j∧Hid (Below z.1.size z wr∧∀m (y:m<xs.length) (U:m<o.length),m<j->Ty.same xs[m] o[m]=true)) (fun bq _=>xs.length-(intOf bq).toNat);case atStart=>exact⟨0,by omega,rfl,xY,fun m _ _ h=>by omega⟩
 case round=>
  obtain⟨j,b9,rfl,D⟩:=hrel;have I:Below w.1.size w wr:=X.out.trans (D.out.1.mono X.out.size);by_cases a1:j<xs.length
  ·have cb:j<o.length:=(by have:=bs.out;omega);obtain⟨d4,cc,b7⟩:=cp.out j a1;obtain⟨d5,ci,b8⟩:=cs.out j cb;obtain⟨bx,d3,a6,a8,a7,ak,rfl,_,rfl,ct,cv⟩:=(b7.on I).lies;obtain⟨K,R,bl,bp,bn,bj,rfl,_,rfl,b1,b2⟩:=(b8.on I).lies
   have ah:Hid (∀w',Below w.1.size w w'->Calls Tryz.prog 121 #[.agg #[.int .i64 a6,.slice a8 a7 ak],.agg #[.int .i64 bl,.slice bp bn bj]] w' fun e c5=>e=.returned (.bool (Ty.same xs[j] o[j]))∧Below w'.1.size w' c5) :=
    fun w' hb=>cn.out _ (List.getElem_mem a1) o[j] w' _ _ (cc.on hb) (ci.on hb)
   have a9:=xX D.out.2;have df:(j:Int)<(xs.length:Int):=(by omega);have dp:(j:Int)<(o.length:Int):=(by omega);obtain⟨r,bk⟩:∃r,r=Ty.same xs[j] o[j]:=⟨_,rfl⟩;rw[<-bk] at ah;have bT:=xX bk;obtain⟨A,a2⟩:∃A,A=wr.alloc (.cells #[.int .i64 a6,.slice a8 a7 ak] 73):=⟨_,rfl⟩;have Z:Hid (Below wr.1.size wr A):=(by rw[a2];exact xV);have bc:Hid (Below w.1.size w A):=I.trans (Z.out.mono I.size);have bb:Hid (Below z.1.size z A):=D.out.1.trans (Z.out.mono D.out.1.size);have bX:=xX a2;have b0:Hid (A.cell? ⟨w.1.size+1,1,none⟩=some (.slice (some ⟨K,R,none⟩) o.length d)):=ac bb.out cq.out.2;have bO:Hid (A.cell? ⟨K,R+j*2,none⟩=some (.int .i64 bl)∧A.cell? ⟨K,R+j*2+1,none⟩=some (.slice bp bn bj)):=⟨ac Z.out b1,ac Z.out b2⟩;have bN:Hid (A.cell? ⟨wr.1.size,0,none⟩=some (.int .i64 a6)∧A.cell? ⟨wr.1.size,1,none⟩=some (.slice a8 a7 ak)):=(by rw[a2];exact⟨by simp,by simp⟩);clear cc ci b7 b8 I D bk a2 b1 b2;go_wp2_with fail;rw[<-bX.out];obtain⟨c0,c1⟩:=bN.out;obtain⟨b3,b4⟩:=bO.out;have b5:=b0.out;clear bN bO b0 bX ct cv
   go_region_held3 (fun w'=>w'.cell? ⟨wr.1.size,0,none⟩=some (.int .i64 a6)∧w'.cell? ⟨wr.1.size,1,none⟩=some (.slice a8 a7 ak)∧w'.cell? ⟨K,R+j*2,none⟩=some (.int .i64 bl)∧w'.cell? ⟨K,R+j*2+1,none⟩=some (.slice bp bn bj)∧w'.cell? ⟨w.1.size+1,1,none⟩=some (.slice (some ⟨K,R,none⟩) o.length d)) (go_keep) (first|(go_at_call 121;refine(ah.out _ (below_drewN bc.out _)).mono ?_;rintro e w4 ⟨rfl,b6⟩;have E:=cF (w:=A) b6 (by rfl) (by rfl) (by rfl) (by rfl);have c6:=ac E c0;have c7:=ac E c1;have c8:=ac E b3;have c9:=ac E b4;have dd:=ac E b5;have Y:=xX E;clear b6 E))
   clear c6 c7 c8 c9 dd c0 c1 b3 b4 b5;cases r with
   |true=>
    have co:Hid (Below z.1.size z w4∧∀m (y:m<xs.length) (U:m<o.length),m<j+1->Ty.same xs[m] o[m]=true):=by
     refine⟨bb.out.trans (Y.out.mono bb.out.size),fun m y U ds=>?_⟩;by_cases cy:m=j
     ·subst cy;exact bT.out.symm
     ·exact a9.out m y U (by omega)
    clear Y a9 ah;go_wp2;go_roundw;case rel=>exact⟨j+1,by omega,by go_num,co⟩
    case measure=>simp[intOf];omega
   |false=>
    have be:Hid (Ty.sameL xs o=false):=Ty.sameL_at xs o j a1 cb bT.out.symm;have bd:=xX (bc.out.trans (Y.out.mono bc.out.size));clear Y a9 ah;go_wp2;go_ret;exact⟨by rw[J.out,be.out];rfl,bd.out⟩
  ·have be:Hid (Ty.sameL xs o=true):=Ty.sameL_all xs o bs.out (fun m y U=>D.out.2 m y U (by omega));have bd:=xX I;have dr:¬(j:Int)<(xs.length:Int):=(by omega);clear D I a1;go_wp2;go_ret;exact⟨by rw[J.out,be.out];rfl,bd.out⟩
end
section
open Go.RowKit
attribute [local go_sem] am
theorem xx:∀(x:V) (L:Ty) (d:Nat) (w:World) (u v:AV),chk d x=0->Ty.check d L=0->aC w u x->aD w v L->Calls Tryz.prog 157 #[.agg u,.agg v] w fun e w'=>e=.returned (.bool (Sch.of x L))∧Below w.1.size w w':=by
 intro x;refine V.ind (P:=fun x=>∀(L:Ty) (d:Nat) (w:World) (u v:AV),chk d x=0->Ty.check d L=0->aC w u x->aD w v L->Calls Tryz.prog 157 #[.agg u,.agg v] w fun e w'=>e=.returned (.bool (Sch.of x L))∧Below w.1.size w w') ?_ x;rintro k i b t xs bT ⟨z,y⟩ d w u v bq hd a1 cw;obtain⟨p,c,rfl,eC,ez,bN⟩:=a1.open;obtain⟨q,e,rfl,eS,eL,bO⟩:=cw.open;unfold cells5 al;obtain⟨D,ak⟩:∃D,D=(w.alloc (.cells #[.int .i64 k,.int .i64 i,.float .f64 b,.string t,.slice p xs.length c] 77)).alloc (.cells #[.int .i64 z,.slice q y.length e] 73):=⟨_,rfl⟩;have bb:Hid (Below w.1.size w D):=by rw[ak];exact xV.alloc (by simp) _
 have c9:Hid (D.cell? ⟨w.1.size+1,1,none⟩=some (.slice q y.length e)):=by show _=_;rw[ak];simp
 have bk:=xX ak;clear ak a1 cw;by_cases A:¬k=z
 ·have dv:=bz A;have Z:Hid (Sch.of (.mk k i b t xs) (.mk z y)=false):=by show _=_;rw[Sch.of_mk,aK A,Bool.false_and]
  clear bT bN bO A bq hd;go_enter Tryz.func157,Tryz.ntmps157;go_wp2;rw[<-bk.out];go_ret;exact⟨by rw[Z.out];rfl,bb.out⟩
 replace A:k=z:=Classical.not_not.1 A
 have dv:=cd A;have Z:Hid (Sch.of (.mk k i b t xs) (.mk z y)=xs.all (fun x=>Sch.of x (Sch.inner (.mk z y)))):=by show _=_;rw[Sch.of_mk,bQ A,Bool.true_and]
 obtain⟨en,d1,ci⟩:=Sch.ty_open hd;obtain⟨-,cs,-,eu,-,cj⟩:=Sch.chk_open bq;obtain⟨-,-,-,-,d5,-⟩:=Sch.own_open cs;have c8:Hid (dG w p xs):=bN;have c5:=xX bT
 -- what the type is of,where there are items
 have c7:Hid (0<xs.length->∃I,y=[I]∧Ty.check (d+1) I=0∧Sch.inner (.mk z y)=I∧∃a8,aD w a8 I∧dH w q 0 a8):=by
  intro ew;rcases ci with ⟨d0,-⟩ | ⟨d0,I,rfl,a2⟩
  ·omega
  ·obtain⟨a8,d3,d4⟩:=bO 0 (by simp);exact⟨I,rfl,a2,rfl,a8,d3,d4⟩
 have cy:=xX cj;clear bT bN bO bq hd ci d1 A cj cs d5;go_enter Tryz.func157,Tryz.ntmps157;go_wp2_with fail;rw[<-bk.out];clear bk;go_loopw [15] (fun b2 wr=>∃j:Nat,j<=xs.length∧b2=.int .i64 j∧Hid (Below D.1.size D wr∧∀m (A:m<xs.length),m<j->Sch.of xs[m] (Sch.inner (.mk z y))=true)) (fun b2 _=>xs.length-(intOf b2).toNat);case atStart=>exact⟨0,by omega,rfl,xY,fun m _ h=>by omega⟩
 case round=>
  obtain⟨j,ep,rfl,J⟩:=hrel;have K:Below w.1.size w wr:=bb.out.trans (J.out.1.mono bb.out.size);by_cases U:j<xs.length
  ·obtain⟨e0,ct,cn⟩:=c8.out j U;obtain⟨I,cx,a2,ck,e1,cv,co⟩:=c7.out (by omega);obtain⟨bx,eU,a4,a3,aj,a7,a6,a5,ah,rfl,_,rfl,dd,df,dp,dr,ds⟩:=(cn.on K).lies;obtain⟨O,R,bX,b1,b0,bp,rfl,_,rfl,bl,bn⟩:=(co.on K).lies;rw[Nat.zero_mul,Nat.add_zero] at bl bn;have cp:y.length=1:=(by rw[cx];rfl);have Y:Hid (∀w',Below w.1.size w w'->Calls Tryz.prog 157 #[.agg #[.int .i64 a4,.int .i64 a3,.float .f64 aj,.string a7,.slice a6 a5 ah],.agg #[.int .i64 bX,.slice b1 b0 bp]] w' fun e d6=>e=.returned (.bool (Sch.of xs[j] (Sch.inner (.mk z y))))∧Below w'.1.size w' d6):=fun w' hb=>by
    rw[ck];exact c5.out _ (List.getElem_mem U) I (d+1) w' _ _ (cy.out _ (List.getElem_mem U)) a2 (ct.on hb) (cv.on hb)
   have a9:=xX J.out.2;have eq:(j:Int)<(xs.length:Int):=(by omega);obtain⟨r,bs⟩:∃r,r=Sch.of xs[j] (Sch.inner (.mk z y)):=⟨_,rfl⟩;rw[<-bs] at Y;have b5:=xX bs;obtain⟨o,a0⟩:∃o,o=wr.alloc (.cells #[.int .i64 a4,.int .i64 a3,.float .f64 aj,.string a7,.slice a6 a5 ah] 77):=⟨_,rfl⟩;have X:Hid (Below wr.1.size wr o):=(by rw[a0];exact xV);have bd:Hid (Below w.1.size w o):=K.trans (X.out.mono K.size);have bc:Hid (Below D.1.size D o):=J.out.1.trans (X.out.mono J.out.1.size);have b6:=xX a0;have b7:Hid (o.cell? ⟨w.1.size+1,1,none⟩=some (.slice (some ⟨O,R,none⟩) 1 e)):=(by have:=ac bc.out c9.out;rw[cp] at this;exact this);have b4:Hid (o.cell? ⟨O,R,none⟩=some (.int .i64 bX)∧o.cell? ⟨O,R+1,none⟩=some (.slice b1 b0 bp)):=⟨ac X.out bl,ac X.out bn⟩;have b3:Hid (o.cell? ⟨wr.1.size,0,none⟩=some (.int .i64 a4)∧o.cell? ⟨wr.1.size,1,none⟩=some (.int .i64 a3)∧o.cell? ⟨wr.1.size,2,none⟩=some (.float .f64 aj)∧o.cell? ⟨wr.1.size,3,none⟩=some (.string a7)∧o.cell? ⟨wr.1.size,4,none⟩=some (.slice a6 a5 ah)):=(by rw[a0];exact⟨by simp,by simp,by simp,by simp,by simp⟩);clear ct cv cn co K J bs ck a2 cx cp a0 bl bn;go_wp2_with fail;rw[<-b6.out];obtain⟨c0,c1,c2,c3,c4⟩:=b3.out;obtain⟨b8,b9⟩:=b4.out;have cb:=b7.out;clear b3 b4 b7 b6 dd df dp dr ds
   go_region_held3 (fun w'=>w'.cell? ⟨wr.1.size,0,none⟩=some (.int .i64 a4)∧w'.cell? ⟨wr.1.size,1,none⟩=some (.int .i64 a3)∧w'.cell? ⟨wr.1.size,2,none⟩=some (.float .f64 aj)∧w'.cell? ⟨wr.1.size,3,none⟩=some (.string a7)∧w'.cell? ⟨wr.1.size,4,none⟩=some (.slice a6 a5 ah)∧w'.cell? ⟨O,R,none⟩=some (.int .i64 bX)∧w'.cell? ⟨O,R+1,none⟩=some (.slice b1 b0 bp)∧w'.cell? ⟨w.1.size+1,1,none⟩=some (.slice (some ⟨O,R,none⟩) 1 e)) (go_keep) (first|(go_at_call 157;refine(Y.out _ (below_drewN bd.out _)).mono ?_;rintro e w4 ⟨rfl,cc⟩;have E:=cF (w:=o) cc (by rfl) (by rfl) (by rfl) (by rfl);have d8:=ac E c0;have d9:=ac E c1;have ea:=ac E c2;have eb:=ac E c3;have ec:=ac E c4;have el:=ac E b8;have em:=ac E b9;have d7:=ac E cb;have W:=xX E;clear cc E))
   clear d8 d9 ea eb ec el em d7 c0 c1 c2 c3 c4 b8 b9 cb;cases r with
   |true=>
    have c6:Hid (Below D.1.size D w4∧∀m (A:m<xs.length),m<j+1->Sch.of xs[m] (Sch.inner (.mk z y))=true):=by
     refine⟨bc.out.trans (W.out.mono bc.out.size),fun m A cq=>?_⟩;by_cases d2:m=j
     ·subst d2;exact b5.out.symm
     ·exact a9.out m A (by omega)
    clear W a9 Y;go_wp2;go_roundw;case rel=>exact⟨j+1,by omega,by go_num,c6⟩
    case measure=>simp[intOf];omega
   |false=>
    have bj:Hid (xs.all (fun x=>Sch.of x (Sch.inner (.mk z y)))=false):=by
     show _=_;rw[List.all_eq_false];exact⟨xs[j],List.getElem_mem U,by rw[<-b5.out];decide⟩
    have be:=xX (bd.out.trans (W.out.mono bd.out.size));clear W a9 Y;go_wp2;go_ret;exact⟨by rw[Z.out,bj.out];rfl,be.out⟩
  ·have bj:Hid (xs.all (fun x=>Sch.of x (Sch.inner (.mk z y)))=true):=by
    show _=_;rw[List.all_eq_true];intro x a1;obtain⟨m,cq,rfl⟩:=List.getElem_of_mem a1;exact J.out.2 m cq (by omega)
   have be:=xX K;have er:¬(j:Int)<(xs.length:Int):=(by omega);clear J K U;go_wp2;go_ret;exact⟨by rw[Z.out,bj.out];rfl,be.out⟩
end
section
open Go.RowKit
attribute [local go_sem] am
theorem lO(x y:Col)(w:World)(u v:AV)(bc:fl w u x)(bd:fl w v y):Calls Tryz.prog 92 #[.agg u,.agg v] w fun e w'=>e=.returned (.bool (Sch.colSame x y))∧Below w.1.size w w':=by
 obtain⟨k,c7,c5,cx,bs,bp,bj,b1,bX,bO,bl,rfl,a2,a4⟩:=bc.out;obtain⟨cv,c8,c6,cy,bN,bq,bk,b2,b0,bT,bn,rfl,a3,a5⟩:=bd.out;obtain⟨J,Y,has,U⟩:=x;obtain⟨K,Z,D,W⟩:=y;dsimp only at a2 a4 a3 a5;unfold av;obtain⟨o,aj⟩:∃o,o=(w.alloc (.cells #[.string J,.int .i64 k,.slice c7 c5 cx,.bool has,.int .i64 bs,.int .i64 bp,.float .f64 bj,.string b1,.slice bX bO bl] 79)).alloc (.cells #[.string K,.int .i64 cv,.slice c8 c6 cy,.bool D,.int .i64 bN,.int .i64 bq,.float .f64 bk,.string b2,.slice b0 bT bn] 79):=⟨_,rfl⟩;have A:Hid (Below w.1.size w o):=by rw[aj];exact xV.alloc (by simp) _
 have a0:Hid (o.cell? ⟨w.1.size,4,none⟩=some (.int .i64 bs)∧o.cell? ⟨w.1.size,5,none⟩=some (.int .i64 bp)∧o.cell? ⟨w.1.size,6,none⟩=some (.float .f64 bj)∧o.cell? ⟨w.1.size,7,none⟩=some (.string b1)∧o.cell? ⟨w.1.size,8,none⟩=some (.slice bX bO bl)∧o.cell? ⟨w.1.size+1,4,none⟩=some (.int .i64 bN)∧o.cell? ⟨w.1.size+1,5,none⟩=some (.int .i64 bq)∧o.cell? ⟨w.1.size+1,6,none⟩=some (.float .f64 bk)∧o.cell? ⟨w.1.size+1,7,none⟩=some (.string b2)∧o.cell? ⟨w.1.size+1,8,none⟩=some (.slice b0 bT bn)):=by rw[aj];refine⟨?_,?_,?_,?_,?_,?_,?_,?_,?_,?_⟩ <;> simp
 have O:=xX (pC Y Z o _ _ (a2.on A.out) (a3.on A.out));have E:=xX (fun w' (hb:Below o.1.size o w')=>uX U W w' _ _ ((a4.on A.out).on hb) ((a5.on A.out).on hb));unfold al at O;unfold cells5 at E;have z:Hid (Sch.colSame ⟨J,Y,has,U⟩ ⟨K,Z,D,W⟩=(decide (J=K)&&(has==D)&&Ty.same Y Z&&V.same U W)):=rfl;obtain⟨R,a7⟩:∃R,R=Sch.colSame ⟨J,Y,has,U⟩ ⟨K,Z,D,W⟩:=⟨_,rfl⟩;rw[<-a7] at z ⊢;obtain⟨be,a9⟩:∃r,r=Ty.same Y Z:=⟨_,rfl⟩;rw[<-a9] at O z;obtain⟨cw,bb⟩:∃r,r=V.same U W:=⟨_,rfl⟩;rw[<-bb] at E z;have ah:=xX aj;clear aj a2 a3 a4 a5 bc bd a7 a9 bb;by_cases I:J=K
 ·have ct:(J.toList==K.toList)=true:=by rw[cr,decide_eq_true I]
  by_cases X:has=D
  ·have L:Hid (R=(be&&cw)):=(by show _=_;rw[z.out,decide_eq_true I,X,beq_self_eq_true,Bool.true_and,Bool.true_and]);subst X;clear I z;have c9:(has==has)=true:=(by simp);go_enter Tryz.func92,Tryz.ntmps92;go_wp2_with fail;rw[<-ah.out];clear ah;refine O.out.mono ?_;rintro e w1 ⟨rfl,a1⟩;have HB1:=xX a1;have ak:=xX (A.out.trans (a1.mono A.out.size));clear a1 O;cases be with
   |true=>
    obtain⟨b3,b4,b5,b6,b7,b8,b9,cb,cc,ci⟩:=a0.out;have c0:=ac HB1.out b3;have c1:=ac HB1.out b4;have c2:=ac HB1.out b5;have c3:=ac HB1.out b6;have c4:=ac HB1.out b7;have cn:=ac HB1.out b8;have co:=ac HB1.out b9;have cp:=ac HB1.out cb;have cq:=ac HB1.out cc;have cs:=ac HB1.out ci;have ck:=xX (E.out w1 HB1.out);clear b3 b4 b5 b6 b7 b8 b9 cb cc ci a0 E;go_wp2_with fail;refine ck.out.mono ?_;rintro e dd ⟨rfl,a8⟩;have cj:=xX (ak.out.trans (a8.mono ak.out.size));clear a8 c0 c1 c2 c3 c4 cn co cp cq cs;go_wp2;go_ret;exact⟨by rw[L.out];rfl,cj.out⟩
   |false=>
    clear E a0;go_wp2;go_ret;exact⟨by rw[L.out];rfl,ak.out⟩
  ·have L:Hid (R=false):=by
    show _=_;have hb:(has==D)=false:=by(cases has <;> cases D <;> first | rfl | exact absurd rfl X)
    rw[z.out,hb,Bool.and_false,Bool.false_and,Bool.false_and]
   clear z I E O;cases has <;> cases D <;> try exact absurd rfl X
   all_goals
    clear X;go_enter Tryz.func92,Tryz.ntmps92;go_wp2;rw[<-ah.out];go_ret;exact⟨by rw[L.out];rfl,A.out⟩
 ·have ct:(J.toList==K.toList)=false:=by rw[cr,decide_eq_false I]
  have L:Hid (R=false):=by show _=_;rw[z.out,decide_eq_false I,Bool.false_and,Bool.false_and,Bool.false_and]
  clear z I E O;go_enter Tryz.func92,Tryz.ntmps92;go_wp2;rw[<-ah.out];go_ret;exact⟨by rw[L.out];rfl,A.out⟩
theorem vG(s t:List Col)(p q:OA)(c d:Nat)(w:World)(fy:s.length*120<=140737488351232)(L:bw w p s)(a5:bw w q t):
  Calls Tryz.prog 66 #[.agg #[.slice p s.length c],.agg #[.slice q t.length d]] w fun e w'=>e=.returned (.bool (Sch.same s t))∧Below w.1.size w w':=by
 obtain⟨z,a3⟩:∃z,z=(w.alloc (.cells #[.slice p s.length c] 41)).alloc (.cells #[.slice q t.length d] 41):=⟨_,rfl⟩;have a7:Hid (Below w.1.size w z):=by rw[a3];exact xV.alloc (by simp) _
 have d4:Hid (z.cell? ⟨w.1.size,0,none⟩=some (.slice p s.length c)∧z.cell? ⟨w.1.size+1,0,none⟩=some (.slice q t.length d)):=by rw[a3];exact⟨by simp,by simp⟩
 have bc:=xX a3;have d2:=xX L;have d3:=xX a5;clear a3 L a5;by_cases K:¬s.length=t.length
 ·have em:((s.length:Int) != (t.length:Int))=true:=bz (by omega);have d0:=xX (iO s t K);clear K;go_enter Tryz.func66,Tryz.ntmps66;go_wp2;rw[<-bc.out];go_ret;exact⟨by rw[d0.out];rfl,a7.out⟩
 replace K:s.length=t.length:=Classical.not_not.1 K
 have em:((s.length:Int) != (t.length:Int))=false:=cd (by omega);have b3:=xX K;clear K;go_enter Tryz.func66,Tryz.ntmps66;go_wp2_with fail;rw[<-bc.out];clear bc;go_loopw [17] (fun bs wr=>∃j:Nat,j<=s.length∧bs=.int .i64 j∧Hid (Below z.1.size z wr∧∀m (O:m<s.length) (R:m<t.length),m<j->Sch.colSame s[m] t[m]=true)) (fun bs _=>s.length-(intOf bs).toNat);case atStart=>exact⟨0,by omega,rfl,xY,fun m _ _ h=>by omega⟩
 case round=>
  obtain⟨j,fo,rfl,J⟩:=hrel;have I:Below w.1.size w wr:=a7.out.trans (J.out.1.mono a7.out.size);by_cases bd:j<s.length
  ·have c8:j<t.length:=(by have:=b3.out;omega);obtain⟨bx,f0,k,W,V,U,ah,Z,X,a0,ak,aj,Y,rfl,_,dv,df,dr⟩:=(d2.out.on I).at j bd;obtain⟨A,D,bk,bq,bp,bn,bX,bT,bN,b2,b1,b0,bO,rfl,_,bj,dp,ds⟩:=(d3.out.on I).at j c8
   have E:Hid (∀w',Below wr.1.size wr w'->Calls Tryz.prog 92 #[.agg (av s[j].name k W V U s[j].has ah Z X a0 ak aj Y),.agg (av t[j].name bk bq bp bn t[j].has bX bT bN b2 b1 b0 bO)] w' fun e eq=>e=.returned (.bool (Sch.colSame s[j] t[j]))∧Below w'.1.size w' eq) :=
    fun w' hb=>lO s[j] t[j] w' _ _ ⟨k,W,V,U,ah,Z,X,a0,ak,aj,Y,rfl,df.on hb,dr.on hb⟩ ⟨bk,bq,bp,bn,bX,bT,bN,b2,b1,b0,bO,rfl,dp.on hb,ds.on hb⟩
   unfold av at E;have a6:=xX J.out.2;have fr:(j:Int)<(s.length:Int):=(by omega);have fs:(j:Int)<(t.length:Int):=(by omega);obtain⟨r,be⟩:∃r,r=Sch.colSame s[j] t[j]:=⟨_,rfl⟩;rw[<-be] at E;have b8:=xX be;clear be df dr dp ds;have b5:=xX J.out.1;clear J;obtain⟨bl,c9⟩:∃n,n=s[j].name:=⟨_,rfl⟩;obtain⟨L,c6⟩:∃n,n=s[j].has:=⟨_,rfl⟩;obtain⟨ep,dd⟩:∃n,n=t[j].name:=⟨_,rfl⟩;obtain⟨a5,c7⟩:∃n,n=t[j].has:=⟨_,rfl⟩;rw[<-c9,<-c6] at dv E;rw[<-dd,<-c7] at bj E;clear c9 c6 dd c7;obtain⟨d5,d6,d7,d8,d9,ea,eb,ec,el⟩:=dv;obtain⟨y,a4⟩:∃y,y=wr.alloc (.cells #[.string bl,.int .i64 k,.slice W V U,.bool L,.int .i64 ah,.int .i64 Z,.float .f64 X,.string a0,.slice ak aj Y] 79):=⟨_,rfl⟩;have a2:Hid (Below wr.1.size wr y):=(by rw[a4];exact xV);have b7:Hid (Below w.1.size w y):=I.trans (a2.out.mono I.size);have a8:Hid (Below z.1.size z y):=b5.out.trans (a2.out.mono b5.out.size);have b9:=xX a4;have cb:Hid (y.cell? ⟨w.1.size+1,0,none⟩=some (.slice (some ⟨A,D,none⟩) t.length d)):=ac a8.out d4.out.2;have b6:=xX (bj.on a2.out);have b4:Hid (y.cell? ⟨wr.1.size,0,none⟩=some (.string bl)∧y.cell? ⟨wr.1.size,1,none⟩=some (.int .i64 k)∧y.cell? ⟨wr.1.size,2,none⟩=some (.slice W V U)∧y.cell? ⟨wr.1.size,3,none⟩=some (.bool L)∧y.cell? ⟨wr.1.size,4,none⟩=some (.int .i64 ah)∧y.cell? ⟨wr.1.size,5,none⟩=some (.int .i64 Z)∧y.cell? ⟨wr.1.size,6,none⟩=some (.float .f64 X)∧y.cell? ⟨wr.1.size,7,none⟩=some (.string a0)∧y.cell? ⟨wr.1.size,8,none⟩=some (.slice ak aj Y)):=(by rw[a4];refine⟨?_,?_,?_,?_,?_,?_,?_,?_,?_⟩ <;> simp);clear I a4 bj
   go_wp2_with fail;rw[<-b9.out];obtain⟨c0,c1,c2,c3,c4,cc,ci,cj,ck⟩:=b4.out;obtain⟨cn,co,cp,cq,cs,ct,cv,cw,cx⟩:=b6.out;have cy:=cb.out;clear b4 b6 cb b9 d5 d6 d7 d8 d9 ea eb ec el
   go_region_held3 (fun w'=>w'.cell? ⟨wr.1.size,0,none⟩=some (.string bl)∧w'.cell? ⟨wr.1.size,1,none⟩=some (.int .i64 k)∧w'.cell? ⟨wr.1.size,2,none⟩=some (.slice W V U)∧w'.cell? ⟨wr.1.size,3,none⟩=some (.bool L)∧w'.cell? ⟨wr.1.size,4,none⟩=some (.int .i64 ah)∧w'.cell? ⟨wr.1.size,5,none⟩=some (.int .i64 Z)∧w'.cell? ⟨wr.1.size,6,none⟩=some (.float .f64 X)∧w'.cell? ⟨wr.1.size,7,none⟩=some (.string a0)∧w'.cell? ⟨wr.1.size,8,none⟩=some (.slice ak aj Y)∧w'.cell? ⟨A,D+j*9,none⟩=some (.string ep)∧w'.cell? ⟨A,D+j*9+1,none⟩=some (.int .i64 bk)∧w'.cell? ⟨A,D+j*9+2,none⟩=some (.slice bq bp bn)∧w'.cell? ⟨A,D+j*9+3,none⟩=some (.bool a5)∧w'.cell? ⟨A,D+j*9+4,none⟩=some (.int .i64 bX)∧w'.cell? ⟨A,D+j*9+5,none⟩=some (.int .i64 bT)∧w'.cell? ⟨A,D+j*9+6,none⟩=some (.float .f64 bN)∧w'.cell? ⟨A,D+j*9+7,none⟩=some (.string b2)∧w'.cell? ⟨A,D+j*9+8,none⟩=some (.slice b1 b0 bO)∧w'.cell? ⟨w.1.size+1,0,none⟩=some (.slice (some ⟨A,D,none⟩) t.length d)) (go_keep) (first|(go_at_call 92;refine(E.out _ (below_drewN a2.out _)).mono ?_;rintro e w4 ⟨rfl,c5⟩;have o:=cF (w:=y) c5 (by rfl) (by rfl) (by rfl) (by rfl);have e2:=ac o c0;have e3:=ac o c1;have e4:=ac o c2;have e5:=ac o c3;have e6:=ac o c4;have e7:=ac o cc;have e8:=ac o ci;have e9:=ac o cj;have fi:=ac o ck;have er:=ac o cn;have eu:=ac o co;have ew:=ac o cp;have ez:=ac o cq;have eC:=ac o cs;have eL:=ac o ct;have eS:=ac o cv;have eU:=ac o cw;have e0:=ac o cx;have e1:=ac o cy;have a1:=xX o;clear c5 o))
   clear e2 e3 e4 e5 e6 e7 e8 e9 fi er eu ew ez eC eL eS eU e0 e1 c0 c1 c2 c3 c4 cc ci cj ck cn co cp cq cs ct cv cw cx cy;cases r with
   |true=>
    have d1:Hid (Below z.1.size z w4∧∀m (O:m<s.length) (R:m<t.length),m<j+1->Sch.colSame s[m] t[m]=true):=by
     refine⟨a8.out.trans (a1.out.mono a8.out.size),fun m O R fx=>?_⟩;by_cases en:m=j
     ·subst en;exact b8.out.symm
     ·exact a6.out m O R (by omega)
    clear a1 a6 E;go_wp2;go_roundw;case rel=>exact⟨j+1,by omega,by go_num,d1⟩
    case measure=>simp[intOf];omega
   |false=>
    have bb:Hid (Sch.same s t=false):=iP s t j bd c8 b8.out.symm;have a9:=xX (b7.out.trans (a1.out.mono b7.out.size));clear a1 a6 E;go_wp2;go_ret;exact⟨by rw[bb.out];rfl,a9.out⟩
  ·have bb:Hid (Sch.same s t=true):=gA s t b3.out (fun m O R=>J.out.2 m O R (by omega));have a9:=xX I;have fv:¬(j:Int)<(s.length:Int):=(by omega);clear J I bd;go_wp2;go_ret;exact⟨by rw[bb.out];rfl,a9.out⟩
end
section
open Go.RowKit Go.Maps
theorem qc:Keyed Tryz.prog 9:=string_keyed Tryz.underlying9
theorem oG(w:World):(zeroValue 3).run Tryz.prog w=.ok (.int .i64 0) w:=by kernel_rfl
def mq(t:ByteArray):Lit:=.string t.data.toList
theorem sK{a b:ByteArray}(h:mq a=mq b):a=b:=by
 unfold mq at h;injection h with h;obtain⟨⟨a⟩⟩:=a;obtain⟨⟨b⟩⟩:=b
 simp_all
theorem oW{t:ByteArray}(h:t.size<=140737488351232):keyOf Tryz.prog 9 (.string t)=some (mq t):=Go.WideMaps.keyOf_string_mk Tryz.underlying9 (by unfold maxLen;omega)
structure cI(w:World)(M n:Nat)(l:List Col):Prop where
 out:∃D:DataW Unit,w.ownsMap Tryz.prog 9 (plainElem Tryz.prog 3) M n D∧∀t:ByteArray,has D (mq t)=l.any (fun x=>decide (x.name=t))
theorem ja(w:World):cI (w.alloc (.map #[] 0)) w.1.size 0 []:=⟨.map [],World.ownsMap_made _ _ _ _,fun _=>rfl⟩
theorem cI.lt(h:cI w M n l):M<w.1.size:=by
 obtain⟨y,o,_⟩:=h.out;exact o.lt
theorem cI.keep{w':World}(h:cI w M n l)(hb:w'.1[M]?=w.1[M]?):cI w' M n l:=by
 obtain⟨o,⟨es,clock,y,z⟩,A⟩:=h.out;exact⟨o,⟨es,clock,hb.trans y,z⟩,A⟩
theorem pc{o:DataW Unit}{P:Program}{k:TypeId}{z:Value->Option (DataW Unit×List MemPlace)}{w:World}{M n:Nat}{l:List Col}(A:w.ownsMap P k z M n o)(h:∀t:ByteArray,has o (mq t)=l.any (fun x=>decide (x.name=t)))(c:Col)(d:DataW Unit)(t:ByteArray):
  has (o.put (mq c.name) d) (mq t)=(l++[c]).any (fun x=>decide (x.name=t)):=by
 rw[List.any_append];by_cases y:c.name=t
 ·subst y;rw[has_put_same A.isMap (by trivial)];simp
 ·rw[has_put_other (fun e=>y (sK e).symm),h t];simp[y]
end
section
open Go.RowKit Go.Maps
attribute [local go_sem] am
def ji(c:Col):Nat:=if c.has=false then (if V.same c.dflt V0 then 0 else 80) else if chk 1 c.dflt≠0 then chk 1 c.dflt else if Sch.is c.dflt c.ty then 0 else 80
theorem qN(l:List Col)(c:Col):Sch.colErr l c=if Sch.name c.name=false then 70 else if l.any (fun x=>decide (x.name=c.name)) then 71 else if Ty.check 1 c.ty≠0 then Ty.check 1 c.ty else ji c:=rfl
theorem mO(w:World):aC w (cells5 0 0 0 ⟨#[]⟩ none 0 0) V0:=aC.mk (xs:=[]) (fun _=>#[]) (by simp) (by simp) (fun o=>absurd rfl o) (fun j y=>by simp at y)
theorem jF(x:Col)(w:World)(u:AV)(bd:fl w u x)(a1:Ty.check 1 x.ty=0):Calls Tryz.prog 125 #[.agg u] w fun e w'=>e=.returned (.int .i64 (ji x:Nat))∧Below w.1.size w w':=by
 obtain⟨k,bl,bk,bj,bs,bq,bn,bT,bO,bN,bp,rfl,a3,ah⟩:=bd.out;obtain⟨a4,z,has,o⟩:=x;dsimp only at a3 ah a1;unfold av;obtain⟨y,a0⟩:∃y,y=w.alloc (.cells #[.string a4,.int .i64 k,.slice bl bk bj,.bool has,.int .i64 bs,.int .i64 bq,.float .f64 bn,.string bT,.slice bO bN bp] 79):=⟨_,rfl⟩;have A:Hid (Below w.1.size w y):=by rw[a0];exact xV
 have ak:Hid (y.cell? ⟨w.1.size,1,none⟩=some (.int .i64 k)∧y.cell? ⟨w.1.size,2,none⟩=some (.slice bl bk bj)∧y.cell? ⟨w.1.size,4,none⟩=some (.int .i64 bs)∧y.cell? ⟨w.1.size,5,none⟩=some (.int .i64 bq)∧y.cell? ⟨w.1.size,6,none⟩=some (.float .f64 bn)∧y.cell? ⟨w.1.size,7,none⟩=some (.string bT)∧y.cell? ⟨w.1.size,8,none⟩=some (.slice bO bN bp)):=by rw[a0];refine⟨?_,?_,?_,?_,?_,?_,?_⟩ <;> simp
 have Y:=xX (uX o V0 y _ _ (ah.on A.out) (mO y));have W:=xX (wN o y _ (ah.on A.out));have J:=xX (fun w' (hb:Below y.1.size y w') b9=>xx o z 1 w' _ _ b9 a1 ((ah.on A.out).on hb) ((a3.on A.out).on hb));have L:Hid (chk 1 o=0->Sch.is o z=Sch.of o z):=fun h=>by
  unfold Sch.is;rw[decide_eq_true a1,decide_eq_true h];rfl
 have E:Hid (ji ⟨a4,z,has,o⟩=if has=false then (if V.same o V0 then 0 else 80) else if chk 1 o≠0 then chk 1 o else if Sch.is o z then 0 else 80):=rfl;obtain⟨O,a6⟩:∃O,O=ji ⟨a4,z,has,o⟩:=⟨_,rfl⟩;rw[<-a6] at E ⊢;obtain⟨be,a8⟩:∃r,r=V.same o V0:=⟨_,rfl⟩;rw[<-a8] at Y E;obtain⟨U,a9⟩:∃r,r=chk 1 o:=⟨_,rfl⟩;rw[<-a9] at W E J L;obtain⟨cb,bb⟩:∃r,r=Sch.is o z:=⟨_,rfl⟩;rw[<-bb] at E L;have aj:=xX a0;unfold cells5 at Y W J;unfold al at J;clear a0 a3 ah bd a1 a6 a8 a9 bb;cases has with
 |false=>
  have I:Hid (O=if be then 0 else 80):=by show _=_;rw[E.out,if_pos rfl]
  clear E W J L ak;go_enter Tryz.func125,Tryz.ntmps125;go_wp2_with fail;rw[<-aj.out];clear aj;refine Y.out.mono ?_;rintro e w1 ⟨rfl,R⟩;have K:=xX (A.out.trans (R.mono A.out.size));clear R Y;cases be with
  |true=>
   go_wp2;go_ret;exact⟨by rw[I.out];rfl,K.out⟩
  |false=>
   go_wp2;go_ret;exact⟨by rw[I.out];rfl,K.out⟩
 |true=>
  have I:Hid (O=if U≠0 then U else if cb then 0 else 80):=by show _=_;rw[E.out,if_neg (by decide)]
  clear E Y;go_enter Tryz.func125,Tryz.ntmps125;go_wp2_with fail;rw[<-aj.out];clear aj;refine W.out.mono ?_;rintro e w1 ⟨rfl,R⟩;have D:=xX R;have K:=xX (A.out.trans (R.mono A.out.size));clear R W;by_cases Z:U=0
  ·have b8:((U:Int) != 0)=false:=cd (by omega);obtain⟨bX,b0,b1,b2,b3,b4,b5⟩:=ak.out;have c0:=ac D.out bX;have c1:=ac D.out b0;have c2:=ac D.out b1;have c3:=ac D.out b2;have c4:=ac D.out b3;have b6:=ac D.out b4;have b7:=ac D.out b5;have a2:=xX (J.out w1 D.out Z);have X:Hid (O=if Sch.of o z then 0 else 80):=by
    show _=_;rw[I.out,if_neg (by omega),L.out Z]
   obtain⟨cc,bc⟩:∃r,r=Sch.of o z:=⟨_,rfl⟩;rw[<-bc] at a2 X;clear bX b0 b1 b2 b3 b4 b5 ak J L I bc Z;go_wp2_with fail;refine a2.out.mono ?_;rintro e ci ⟨rfl,a7⟩;have a5:=xX (K.out.trans (a7.mono K.out.size));clear a7 c0 c1 c2 c3 c4 b6 b7 a2;cases cc with
   |true=>
    go_wp2;go_ret;exact⟨by rw[X.out];rfl,a5.out⟩
   |false=>
    go_wp2;go_ret;exact⟨by rw[X.out];rfl,a5.out⟩
  ·have b8:((U:Int) != 0)=true:=bz (by omega);have X:Hid (O=U):=(by show _=_;rw[I.out,if_pos Z]);clear J L I Z ak;go_wp2;go_ret;exact⟨by rw[X.out];rfl,K.out⟩
def gV(s:List Col):Nat:=if s.length=0 then 4 else if 16<s.length then 3 else Sch.colsErr [] s
theorem kW(s:List Col)(j:Nat)(o:j<s.length):Sch.colsErr (s.take j) (s.drop j)=if Sch.colErr (s.take j) s[j]=0 then Sch.colsErr (s.take (j+1)) (s.drop (j+1)) else Sch.colErr (s.take j) s[j]:=by
 rw[List.drop_eq_getElem_cons o,Sch.colsErr,List.take_succ_eq_append_getElem o]
theorem jG(s:List Col)(p:OA)(c:Nat)(w:World)(d3:bw w p s)(d2:∀x∈s,x.wf):
    Calls Tryz.prog 93 #[.slice p s.length c] w fun e w'=>e=.returned (.int .i64 (gV s:Nat))∧Below w.1.size w w':=by
  have gf:=@run_makeMap Tryz.prog;obtain⟨y,b2⟩:∃y,y=gV s:=⟨_,rfl⟩;have K:Hid (y=if s.length=0 then 4 else if 16<s.length then 3 else Sch.colsErr [] s):=b2;rw[<-b2];clear b2;have eL:=xX d3;have eC:=xX d2;clear d3 d2;by_cases L:s.length=0
  · have e7:((s.length:Int)==0)=true:=bQ (by omega);have U:Hid (y=4):=(by show _=_;rw[K.out,if_pos L]);clear K L;go_enter Tryz.func93,Tryz.ntmps93;go_wp2;go_ret;exact⟨by rw[U.out];rfl,xY⟩
  have e7:((s.length:Int)==0)=false:=aK (by omega);by_cases a8:16<s.length
  · have e8:(16:Int)<(s.length:Int):=(by omega);have U:Hid (y=3):=(by show _=_;rw[K.out,if_neg L,if_pos a8]);clear K L a8;go_enter Tryz.func93,Tryz.ntmps93;go_wp2;go_ret;exact⟨by rw[U.out];rfl,xY⟩
  have e8:¬(16:Int)<(s.length:Int):=by omega
  have U:Hid (y=Sch.colsErr (s.take 0) (s.drop 0)):=by show _=_;rw[K.out,if_neg L,if_neg a8];simp
  have gh:s.length<=16:=by omega
  clear K L a8;obtain⟨a7,a9⟩:∃a7,a7=w.alloc (.map #[] 0):=⟨_,rfl⟩;have en:Hid (Below w.1.size w a7):=by rw[a9];exact xV
  have ew:Hid (cI a7 w.1.size 0 (s.take 0)):=by rw[a9];exact ja w
  have cq:=xX a9;clear a9;go_enter Tryz.func93,Tryz.ntmps93;go_wp2_with fail;rw[<-cq.out];clear cq;go_loopw [19] (fun cb wr=>∃j:Nat,j<=s.length∧cb=.int .i64 j∧Hid (Below w.1.size w wr∧cI wr w.1.size j (s.take j)∧y=Sch.colsErr (s.take j) (s.drop j))) (fun cb _=>s.length-(intOf cb).toNat);case atStart=>exact⟨0,by omega,rfl,en.out,ew.out,U.out⟩
  case round=>
    obtain⟨j,f9,rfl,I⟩:=hrel;by_cases Y:j<s.length
    · obtain⟨bx,gl,k,bj,be,bd,bp,bn,bk,bN,bs,bq,bl,rfl,_,c6,b8,d0⟩:=eL.out.at j Y;obtain⟨ct,eS,eU,cv,e0,e1,e2,e3,e4⟩:=c6.on I.out.1;clear c6;have gb:(j:Int)<(s.length:Int):=(by omega);have A:=xX ((qN (s.take j) s[j]));have J:=xX (I.out.2.2.trans (kW s j Y));have fr:s[j].name.size<=140737488351232:=(eC.out _ (List.getElem_mem Y)).1;have W:=xX (oW fr);have a5:=xX (vd s[j].name);have cp:=xX (s.take_succ_eq_append_getElem Y);obtain⟨D,bc,b6⟩:=I.out.2.1.out;have co:=xX bc;have V:=xX (b6 s[j].name);have b1:=xX (fun d t=>pc bc b6 s[j] d t);have eu:=xX bc.lt;have ci:=xX I.out.1
      -- the copy of the column
      have a2:=xX (fun w' (hb:Below w.1.size w w')=>oz s[j].ty w' _ (b8.on hb));have E:=xX (fun w' (hb:Below w.1.size w w') (h:Ty.check 1 s[j].ty=0)=>jF s[j] w' _ ⟨k,bj,be,bd,bp,bn,bk,bN,bs,bq,bl,rfl,b8.on hb,d0.on hb⟩ h);unfold av at E;unfold al at a2;obtain⟨Z,c9⟩:∃n,n=s[j].name:=⟨_,rfl⟩;obtain⟨b7,c7⟩:∃n,n=s[j].has:=⟨_,rfl⟩;rw[<-c9] at ct A W a5 V b1 E;rw[<-c7] at cv E;obtain⟨fx,ds⟩:∃r,r=Sch.name Z:=⟨_,rfl⟩;rw[<-ds] at a5 A;obtain⟨ah,dv⟩:∃r,r=Ty.check 1 s[j].ty:=⟨_,rfl⟩;rw[<-dv] at a2 A E;obtain⟨rd,dr⟩:∃r,r=ji s[j]:=⟨_,rfl⟩;rw[<-dr] at E A;obtain⟨fv,dp⟩:∃r,r=(s.take j).any (fun x=>decide (x.name=Z)):=⟨_,rfl⟩;rw[<-dp] at V A;obtain⟨o,R⟩:∃o,o=wr.alloc (.cells #[.string Z,.int .i64 k,.slice bj be bd,.bool b7,.int .i64 bp,.int .i64 bn,.float .f64 bk,.string bN,.slice bs bq bl] 79):=⟨_,rfl⟩;have ep:Hid (Below wr.1.size wr o):=(by rw[R];exact xV);have em:Hid (o.cell? ⟨wr.1.size,0,none⟩=some (.string Z)∧o.cell? ⟨wr.1.size,1,none⟩=some (.int .i64 k)∧o.cell? ⟨wr.1.size,2,none⟩=some (.slice bj be bd)∧o.cell? ⟨wr.1.size,3,none⟩=some (.bool b7)∧o.cell? ⟨wr.1.size,4,none⟩=some (.int .i64 bp)∧o.cell? ⟨wr.1.size,5,none⟩=some (.int .i64 bn)∧o.cell? ⟨wr.1.size,6,none⟩=some (.float .f64 bk)∧o.cell? ⟨wr.1.size,7,none⟩=some (.string bN)∧o.cell? ⟨wr.1.size,8,none⟩=some (.slice bs bq bl)):=(by rw[R];refine⟨?_,?_,?_,?_,?_,?_,?_,?_,?_⟩ <;> simp);have a1:Hid (Below w.1.size w o):=ci.out.trans (ep.out.mono ci.out.size)
      have a6:Hid (o.ownsMap Tryz.prog 9 (plainElem Tryz.prog 3) w.1.size j D):=(by rw[R];exact co.out.alloc _);have fs:wr.1.size<o.1.size:=(by rw[R];simp);have cs:=xX R;clear c9 c7 ds dv dr dp b8 d0 bc b6 R I co;go_wp2_with fail;rw[<-cs.out];clear cs ct eS eU cv e0 e1 e2 e3 e4;refine(a5.out _).mono ?_;rintro e aj ⟨rfl,d1⟩;rw[d1];clear d1 aj a5;cases fx with
      |false=>
        have bX:Hid (y=70):=(by show _=_;rw[J.out,A.out];rfl);go_wp2;go_ret;exact⟨by rw[bX.out];rfl,a1.out⟩
      |true=>
        obtain⟨c0,c1,c2,c3,c4,cw,cx,cy,c5⟩:=em.out;cases fv with
        |true=>
          have bX:Hid (y=71):=(by show _=_;rw[J.out,A.out];rfl);go_wp2_with (first | (at_lookup;refine wpList_lookup_own_ok_int _ rfl _ _ 168 rfl 9 3 .i64 qc Tryz.underlying168 Tryz.underlying3 (oG _) w.1.size j D rfl a6.out _ _ rfl W.out ?_;intro e5 b3 b9;rw[V.out];clear b3 b9));go_ret;exact⟨by rw[bX.out];rfl,a1.out⟩
        |false=>
          go_wp2_with (first
            | (at_lookup;refine wpList_lookup_own_ok_int _ rfl _ _ 168 rfl 9 3 .i64 qc Tryz.underlying168 Tryz.underlying3 (oG _) w.1.size j D rfl a6.out _ _ rfl W.out ?_;intro e5 b3 b9;rw[V.out];clear b3 b9)
            | (at_mapUpdate;refine wpList_mapUpdate_own _ rfl _ _ _ 168 rfl 9 3 qc Tryz.underlying168 _ w.1.size j D rfl a6.out (by unfold maxLen;omega) _ _ _ rfl rfl W.out _ [] (plainElem_int Tryz.underlying3 (WalkArith.wf_i64 (by omega))) ?_;intro w1 df b5
               have cn:=xX df;have ck:=xX b5;have dd:¬wr.1.size=w.1.size:=(by have:=eu.out;omega);have hblk:w1.1[wr.1.size]?=o.1[wr.1.size]?:=b5.block _ fs (fun fo=>dd (by injection fo));have d4:w1.cell? ⟨wr.1.size,0,none⟩=some (.string Z):=(World.cell?_of_block (w:=o) hblk).trans c0;have d5:w1.cell? ⟨wr.1.size,1,none⟩=some (.int .i64 k):=(World.cell?_of_block (w:=o) hblk).trans c1;have d6:w1.cell? ⟨wr.1.size,2,none⟩=some (.slice bj be bd):=(World.cell?_of_block (w:=o) hblk).trans c2;have d7:w1.cell? ⟨wr.1.size,3,none⟩=some (.bool b7):=(World.cell?_of_block (w:=o) hblk).trans c3;have d8:w1.cell? ⟨wr.1.size,4,none⟩=some (.int .i64 bp):=(World.cell?_of_block (w:=o) hblk).trans c4;have d9:w1.cell? ⟨wr.1.size,5,none⟩=some (.int .i64 bn):=(World.cell?_of_block (w:=o) hblk).trans cw;have ea:w1.cell? ⟨wr.1.size,6,none⟩=some (.float .f64 bk):=(World.cell?_of_block (w:=o) hblk).trans cx;have eb:w1.cell? ⟨wr.1.size,7,none⟩=some (.string bN):=(World.cell?_of_block (w:=o) hblk).trans cy;have ec:w1.cell? ⟨wr.1.size,8,none⟩=some (.slice bs bq bl):=(World.cell?_of_block (w:=o) hblk).trans c5;clear c0 c1 c2 c3 c4 cw cx cy c5 df b5 hblk dd))
          have bO:Hid (Below w.1.size w w1):=a1.out.grown ck.out a1.out.size (fun k c8=>by injection c8 with c8;omega);have a4:Hid (cI w1 w.1.size (j+1) (s.take (j+1))):=by
            rw[cp.out];exact⟨_,cn.out,b1.out _⟩
          have bT:=xX (a2.out w1 bO.out);clear a2 cn b1 a6 V W cp ck;go_wp2_with fail;refine bT.out.mono ?_;rintro e aj ⟨rfl,z⟩;have a0:Hid (Below w.1.size w aj):=bO.out.trans (z.mono bO.out.size);have b0:Hid (cI aj w.1.size (j+1) (s.take (j+1))):=a4.out.keep (z.block _ a4.out.lt);by_cases O:ah=0
          · have fi:((ah:Int) != 0)=false:=cd (by omega);have fy:=ac z d4;have f0:=ac z d5;have f2:=ac z d6;have f3:=ac z d7;have f4:=ac z d8;have f5:=ac z d9;have f6:=ac z ea;have f7:=ac z eb;have f8:=ac z ec;have cj:=xX (E.out aj a0.out O);clear d4 d5 d6 d7 d8 d9 ea eb ec z bT E a4;have a3:Hid (Sch.colErr (s.take j) s[j]=rd):=by
              show _=_;rw[A.out,O];rfl
            clear A O;go_wp2_with fail;refine cj.out.mono ?_;rintro e el ⟨rfl,b4⟩;have cc:Hid (Below w.1.size w el):=a0.out.trans (b4.mono a0.out.size);have ez:Hid (cI el w.1.size (j+1) (s.take (j+1))):=b0.out.keep (b4.block _ b0.out.lt);clear b4 fy f0 f2 f3 f4 f5 f6 f7 f8 cj b0;by_cases bb:rd=0
            · have e9:((rd:Int) != 0)=false:=cd (by omega);have X:Hid (y=Sch.colsErr (s.take (j+1)) (s.drop (j+1))):=(by show _=_;rw[J.out,a3.out,if_pos bb]);clear bb J a3;go_wp2;go_roundw;case rel=>exact⟨j+1,by omega,by go_num,cc.out,ez.out,X.out⟩
              case measure=>simp[intOf];omega
            · have e9:((rd:Int) != 0)=true:=bz (by omega);have X:Hid (y=rd):=(by show _=_;rw[J.out,a3.out,if_neg bb]);clear bb J a3;go_wp2;go_ret;exact⟨by rw[X.out];rfl,cc.out⟩
          · have fi:((ah:Int) != 0)=true:=bz (by omega);have X:Hid (y=ah):=by
              show _=_;have e6:Sch.colErr (s.take j) s[j]=ah:=(by rw[A.out,if_neg (by decide),if_neg (by decide),if_pos O]);rw[J.out,e6,if_neg O]
            clear O z bT E a4 A J;go_wp2;go_ret;exact⟨by rw[X.out];rfl,a0.out⟩
    · have eq:=xX I.out.1;have er:Hid (y=0):=(by show _=_;rw[I.out.2.2,List.drop_eq_nil_of_le (by omega)];rfl);have gd:¬(j:Int)<(s.length:Int):=(by omega);clear I Y;go_wp2;go_ret;exact⟨by rw[er.out];rfl,eq.out⟩
end
end Go.Proofs.YtdkammppnkhhoaaGreatDoor

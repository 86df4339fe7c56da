import Derived.Test.YtngmnfdaedlodaaGreatDoorB09
set_option maxRecDepth 100000
set_option maxHeartbeats 4000000
namespace Go.Proofs.YtngmnfdaedlodaaGreatDoor
open Go.Proofs.Tryz
open Go.RowKit renaming Hid->I,Below->N
open Option renaming none->U,some->Y
open Go.Value renaming int->O,slice->F,string->qj,agg->qx,bool->qz,float->sq
open Go.IntKind renaming i64->C
open Go.Proofs.Tryz renaming prog->AE
open Go renaming World->AU,Calls->AB
open Go.Ending renaming returned->wv
open Go.FloatKind renaming f64->ux
open Bool renaming false->AK,true->AJ
open Go.Obj renaming cells->wx
variable{M n:Nat}{w:AU}{l:List Col}
section
open Go.RowKit
theorem m8(k:Int)(w:AU):AB AE 173 #[O C k] w fun e w'=>e=wv (O C (Ty.want k:Nat))∧w'=w:=by
 by_cases o:k=6
 ·have D:(k==6)=true:=dq o;have y:I (Ty.want k=1):=by show _=_;unfold Ty.want;rw[AG (.inl o)]
  clear o;go_enter func173,ntmps173;go_wp2;go_ret;exact⟨by rw[y.out];rfl,rfl⟩
 have D:(k==6)=false:=bg o;by_cases A:k=7
 ·have E:(k==7)=true:=dq A;have y:I (Ty.want k=1):=by show _=_;unfold Ty.want;rw[AG (.inr A)]
  clear o A;go_enter func173,ntmps173;go_wp2;go_ret;exact⟨by rw[y.out];rfl,rfl⟩
 have E:(k==7)=false:=bg A;have y:I (Ty.want k=0):=by show _=_;unfold Ty.want;rw[AF (by omega)]
 clear o A;go_enter func173,ntmps173;go_wp2;go_ret;exact⟨by rw[y.out];rfl,rfl⟩
theorem lW:∀(x:Ty) (d:Nat) (w:AU) (u:AV),d<=5->aN w u x->AB AE 145 #[qx u,O C d] w fun e w'=>e=wv (O C (Ty.check d x:Nat))∧N w.1.size w w':=by
 intro x;refine Ty.ind (P:=fun x=>∀(d:Nat) (w:AU) (u:AV),d<=5->aN w u x->AB AE 145 #[qx u,O C d] w fun e w'=>e=wv (O C (Ty.check d x:Nat))∧N w.1.size w w') ?_ x;rintro k xs J d w u hd a4;obtain⟨p,c,rfl,bs,bq,E⟩:=a4.open;unfold au;have ak:N w.1.size w (w.alloc (wx #[O C k,F p xs.length c] 99)):=gQy;have HB1:=gQq ak;clear ak a4;obtain⟨R,X⟩:∃R,R=Ty.check d (.mk k xs):=⟨_,rfl⟩;have o:=gQq (X.trans (Ty.check_mk d k xs));rw[<-X];clear X;by_cases D:4<d
 ·have a9:(4:Int)<(d:Int):=by omega
  have A:I (R=62):=by show _=_;rw[o.out,AG D]
  clear J E o;go_enter func145,ntmps145;go_wp2;go_ret;exact⟨by rw[A.out];rfl,HB1.out⟩
 have a9:¬(4:Int)<(d:Int):=by omega
 by_cases L:k<1
 ·have A:I (R=60):=by show _=_;rw[o.out,AF D,AG (by omega)]
  have bi:decide (k<1)=true:=AR L;clear J E o;go_enter func145,ntmps145;go_wp2_with fail;go_quiet (fail);go_wp2;go_ret;exact⟨by rw[A.out];rfl,below_drewN HB1.out _⟩
 have bi:decide (k<1)=false:=AP L;by_cases aj:7<k
 ·have A:I (R=60):=by show _=_;rw[o.out,AF D,AG (by omega)]
  have bj:decide (7<k)=true:=AR aj;clear J E o;go_enter func145,ntmps145;go_wp2_with fail;go_quiet (fail);go_wp2;go_ret;exact⟨by rw[A.out];rfl,below_drewN HB1.out _⟩
 have bj:decide (7<k)=false:=AP aj;have K:I (∀w,AB AE 173 #[O C k] w fun e w'=>e=wv (O C (Ty.want k:Nat))∧∃n,w'=w.drewN n):=fun w=>(m8 k w).mono fun _ _ ⟨D,L⟩=>⟨D,0,L⟩;obtain⟨n,ab⟩:∃n,n=Ty.want k:=⟨_,rfl⟩;have V:=gQq ab;rw[<-ab] at K o;clear ab;by_cases Q:xs.length=n
 ·have bb:((xs.length:Int) != (n:Int))=false:=ca (by omega);by_cases Z:xs.length=0
  ·have bc:((xs.length:Int)==0)=true:=dq (by omega);have A:I (R=0):=by
    show _=_;have be:xs=[]:=List.eq_nil_of_length_eq_zero Z;subst be;rw[o.out,AF D,AF (by omega)];rfl
   clear J E o Z Q;go_enter func145,ntmps145;go_wp2_with fail;go_quiet (first | (go_at_call 173;exact Calls.quiet_of (K.out _)));go_wp2;go_ret;exact⟨by rw[A.out];rfl,below_drewN HB1.out _⟩
  ·have bc:((xs.length:Int)==0)=false:=bg (by omega);have a2:xs.length=1:=by
    have:=V.out;unfold Ty.want at this;split at this <;> omega
   have ai:I (∀j (bn:j<xs.length),∃a5,aN w a5 xs[j]∧gT w p j a5):=E;have ah:=gQq J;obtain⟨bX,a3,a1⟩:=ai.out 0 (by omega);obtain⟨bx,bO,bv,bT,bN,bl,rfl,_,rfl,a7,a8⟩:=(a1.on HB1.out).lies;rw[Nat.zero_mul,Nat.add_zero] at a7 a8;have aw:R=Ty.check (d+1) (xs[0]'(by omega)):=by
    obtain⟨y,rfl⟩:=List.length_eq_one_iff.1 a2;rw[o.out];have:=Ty.check_one d k y D (by omega) (by rw[<-V.out];simp at Q;omega);rw[Ty.check_mk,<-V.out] at this;exact this
   have S:=gQq (fun n=>ah.out _ (Aw (by omega:0<xs.length)) (d+1) _ _ (by omega) (a3.on (below_drewN HB1.out n)));rw[<-aw] at S;unfold au at S;have bp:(0:Int)<(xs.length:Int):=(by omega);clear aw ai ah a3 a1 o J E a2 Z Q;go_enter func145,ntmps145;go_wp2_with fail;go_quiet (first | (go_at_call 173;exact Calls.quiet_of (K.out _)));go_wp2_with fail;refine(S.out nq).mono ?_;rintro e b0 ⟨rfl,a0⟩;have a6:=gQq ((below_drewN HB1.out nq).trans (a0.mono (below_drewN HB1.out nq).size));clear a0;go_wp2;go_ret;exact⟨rfl,a6.out⟩
 ·have bb:((xs.length:Int) != (n:Int))=true:=cE (by omega);have A:I (R=60):=by show _=_;rw[o.out,AF D,AG (by omega)]
  clear J E o Q;go_enter func145,ntmps145;go_wp2_with fail;go_quiet (first | (go_at_call 173;exact Calls.quiet_of (K.out _)));go_wp2;go_ret;exact⟨by rw[A.out];rfl,below_drewN HB1.out _⟩
theorem jM(x:Ty)(w:AU)(u:AV)(h:aN w u x):AB AE 112 #[qx u] w fun e w'=>e=wv (O C (Ty.check 1 x:Nat))∧N w.1.size w w':=by
 obtain⟨k,xs⟩:=x;obtain⟨p,c,rfl,-⟩:=h.open;have A:N w.1.size w (w.alloc (wx (au k p xs.length c) 99)):=gQy;have o:=gQq A;have y:=gQq (lW _ 1 _ _ (by omega) (h.on A));clear A h;obtain⟨R,D⟩:∃R,R=Ty.check 1 (.mk k xs):=⟨_,rfl⟩;rw[<-D] at y ⊢;clear D;unfold au at y o ⊢;go_enter func112,ntmps112;go_wp2_with fail;refine y.out.mono ?_;rintro e K ⟨rfl,E⟩;have J:=gQq (o.out.trans (E.mono o.out.size));clear E;go_wp2;go_ret;exact⟨rfl,J.out⟩
def dig(c:UInt8):Bool:=decide (48<=c.toNat∧c.toNat<=57)
theorem xI(c:UInt8):Sch.ch c=(Sch.low c||dig c||decide (c.toNat=95)):=rfl
theorem kL(c:UInt8)(w:AU):AB AE 143 #[O .u8 c.toNat] w fun e w'=>e=wv (qz (Sch.low c))∧w'=w:=by
 by_cases y:c.toNat<97
 ·have D:¬(97:Int)<=(c.toNat:Int):=by omega
  have E:(c.toNat:Int)<97:=by omega
  have o:I (Sch.low c=AK):=by show _=_;unfold Sch.low;rw[AP (by omega)]
  clear y;go_enter func143,ntmps143;go_wp2;go_ret;exact⟨by rw[o.out];rfl,rfl⟩
 have D:(97:Int)<=(c.toNat:Int):=by omega
 have E:¬(c.toNat:Int)<97:=by omega
 by_cases A:c.toNat<=122
 ·have J:(c.toNat:Int)<=122:=by omega
  have K:¬(122:Int)<(c.toNat:Int):=by omega
  have o:I (Sch.low c=AJ):=by show _=_;unfold Sch.low;rw[AR (by omega)]
  clear y A;go_enter func143,ntmps143;go_wp2;go_ret;exact⟨by rw[o.out];rfl,rfl⟩
 ·have J:¬(c.toNat:Int)<=122:=by omega
  have K:(122:Int)<(c.toNat:Int):=by omega
  have o:I (Sch.low c=AK):=by show _=_;unfold Sch.low;rw[AP (by omega)]
  clear y A;go_enter func143,ntmps143;go_wp2;go_ret;exact⟨by rw[o.out];rfl,rfl⟩
theorem ul(c:UInt8)(w:AU):AB AE 144 #[O .u8 c.toNat] w fun e w'=>e=wv (qz (dig c))∧w'=w:=by
 by_cases y:c.toNat<48
 ·have D:¬(48:Int)<=(c.toNat:Int):=by omega
  have E:(c.toNat:Int)<48:=by omega
  have o:I (dig c=AK):=by show _=_;unfold dig;rw[AP (by omega)]
  clear y;go_enter func144,ntmps144;go_wp2;go_ret;exact⟨by rw[o.out];rfl,rfl⟩
 have D:(48:Int)<=(c.toNat:Int):=by omega
 have E:¬(c.toNat:Int)<48:=by omega
 by_cases A:c.toNat<=57
 ·have J:(c.toNat:Int)<=57:=by omega
  have K:¬(57:Int)<(c.toNat:Int):=by omega
  have o:I (dig c=AJ):=by show _=_;unfold dig;rw[AR (by omega)]
  clear y A;go_enter func144,ntmps144;go_wp2;go_ret;exact⟨by rw[o.out];rfl,rfl⟩
 ·have J:¬(c.toNat:Int)<=57:=by omega
  have K:(57:Int)<(c.toNat:Int):=by omega
  have o:I (dig c=AK):=by show _=_;unfold dig;rw[AP (by omega)]
  clear y A;go_enter func144,ntmps144;go_wp2;go_ret;exact⟨by rw[o.out];rfl,rfl⟩
theorem xv(t:ByteArray)(w:AU):AB AE 111 #[qj t] w fun e w'=>e=wv (qz (Sch.name t))∧w'=w:=by
 by_cases X:t.size=0
 ·have a1:((t.size:Int)==0)=true:=dq (by omega);have y:=gQq (jv (t:=t) (.inl (by omega)));clear X;go_enter func111,ntmps111;go_wp2;go_ret;exact⟨by rw[y.out];rfl,rfl⟩
 have a1:((t.size:Int)==0)=false:=bg (by omega);by_cases Z:16<t.size
 ·have a2:(16:Int)<(t.size:Int):=by omega
  have y:=gQq (jv (t:=t) (.inr Z));clear X Z;go_enter func111,ntmps111;go_wp2;go_ret;exact⟨by rw[y.out];rfl,rfl⟩
 have a2:¬(16:Int)<(t.size:Int):=by omega
 have a3:0<t.size:=by omega
 have be:(0:Int)<(t.size:Int):=by omega
 have D:=gQq (kL t[0]);by_cases E:Sch.low t[0]=AK
 ·have y:=gQq (ry a3 E);rw[E] at D;clear E X Z;go_enter func111,ntmps111;go_wp2_with fail;refine(D.out _).mono ?_;rintro e ah ⟨rfl,rfl⟩;go_wp2;go_ret;exact⟨by rw[y.out];rfl,rfl⟩
 have Q:Sch.low t[0]=true:=by simpa using E
 have ai:=gQq Q;rw[Q] at D;have aj:I (Sch.ch t[0]=AJ):=by show _=_;rw[xI,Q];rfl
 clear E Q;go_enter func111,ntmps111;go_wp2_with fail;refine(D.out _).mono ?_;rintro e ah ⟨rfl,rfl⟩;clear D;go_wp2_with fail;go_loop [3] (fun ab=>∃a:Nat,1<=a∧a<=t.size∧ab=O C a∧I (∀j (h:j<t.size),j<a->Sch.ch t[j]=AJ)) (fun ab=>t.size-(intOf ab).toNat);case atStart=>exact⟨1,by omega,by omega,rfl,fun j _ a6=>by
  have a4:j=0:=by omega
  subst a4
  exact aj.out⟩
 case round=>
  obtain⟨a,bj,bi,rfl,K⟩:=hrel;by_cases a8:a<t.size
  ·have bl:(a:Int)<(t.size:Int):=(by omega);have S:=gQq (kL t[a]);have L:=gQq (ul t[a]);have A:=gQq (xI t[a]);obtain⟨bb,ak⟩:∃r,r=Sch.low t[a]:=⟨_,rfl⟩;obtain⟨bc,aw⟩:∃r,r=dig t[a]:=⟨_,rfl⟩;rw[<-ak] at S A;rw[<-aw] at L A;clear ak aw;have V:I (Sch.ch t[a]=AJ->∀j (h:j<t.size),j<a+1->Sch.ch t[j]=AJ):=fun a5 j h a6=>by
    by_cases a7:j=a
    ·subst a7;exact a5
    ·exact K.out j h (by omega)
   have a0:=gQq (tN (t:=t) a a8);clear K ai aj;go_wp2_with fail;refine(S.out _).mono ?_;rintro e ah ⟨rfl,rfl⟩;clear S;cases bb with
   |true=>
    have o:I (Sch.ch t[a]=AJ):=(by show _=_;rw[A.out];rfl);clear L;go_wp2;go_round;case rel=>exact⟨a+1,by omega,by omega,by go_num,V.out o.out⟩
    case measure=>simp[intOf];omega
   |false=>
    go_wp2_with fail;refine(L.out _).mono ?_;rintro e ah ⟨rfl,rfl⟩;clear L;cases bc with
    |true=>
     have o:I (Sch.ch t[a]=AJ):=(by show _=_;rw[A.out];rfl);go_wp2;go_round;case rel=>exact⟨a+1,by omega,by omega,by go_num,V.out o.out⟩
     case measure=>simp[intOf];omega
    |false=>
     by_cases J:t[a].toNat=95
     ·have a9:((t[a].toNat:Int) != 95)=false:=(by rw[J];rfl);have o:I (Sch.ch t[a]=AJ):=(by show _=_;rw[A.out,AR J];rfl);clear J;go_wp2;go_round;case rel=>exact⟨a+1,by omega,by omega,by go_num,V.out o.out⟩
      case measure=>simp[intOf];omega
     ·have a9:((t[a].toNat:Int) != 95)=true:=(by rw[bne_iff_ne];omega);have o:I (Sch.ch t[a]=AK):=(by show _=_;rw[A.out,AP J];rfl);clear J;go_wp2;go_ret;exact⟨by rw[a0.out o.out];rfl,rfl⟩
  ·have y:=gQq (rz (t:=t) (by omega) (by omega) ai.out (fun j h=>K.out j h (by omega)));have bk:¬(a:Int)<(t.size:Int):=(by omega);clear K;go_wp2;go_ret;exact⟨by rw[y.out];rfl,rfl⟩
end
section
open Go.RowKit
theorem qS:∀(x y:Ty) (w:AU) (u v:AV),aN w u x->aN w v y->AB AE 131 #[qx u,qx v] w fun e w'=>e=wv (qz (Ty.same x y))∧N w.1.size w w':=by
 intro x;refine Ty.ind (P:=fun x=>∀(y:Ty) (w:AU) (u v:AV),aN w u x->aN w v y->AB AE 131 #[qx u,qx v] w fun e w'=>e=wv (qz (Ty.same x y))∧N w.1.size w w') ?_ x;rintro k xs a6 ⟨k',o⟩ w u v ci cj;obtain⟨p,c,rfl,dj,df,a4⟩:=ci.open;obtain⟨q,d,rfl,ds,dr,a5⟩:=cj.open;unfold au;obtain⟨A,a1⟩:∃A,A=(w.alloc (wx #[O C k,F p xs.length c] 99)).alloc (wx #[O C k',F q o.length d] 99):=⟨_,rfl⟩;have ah:I (N w.1.size w A):=by rw[a1];exact gQy.alloc (by simp) _
 have cp:I (A.cell? ⟨w.1.size,1,U⟩=Y (F p xs.length c)∧A.cell? ⟨w.1.size+1,1,U⟩=Y (F q o.length d)):=by rw[a1];exact⟨by simp,by simp⟩
 have aw:=gQq a1;clear a1 ci cj;by_cases h1:¬k=k'
 ·have ct:=cE h1;have L:I (Ty.same (.mk k xs) (.mk k' o)=AK):=by show _=_;simp[Ty.same_mk,h1]
  clear a6 a4 a5 h1;go_enter func131,ntmps131;go_wp2;rw[<-aw.out];go_ret;exact⟨by rw[L.out];rfl,ah.out⟩
 replace h1:k=k':=Classical.not_not.1 h1
 have ct:=ca h1;by_cases S:¬xs.length=o.length
 ·have cu:((xs.length:Int) != (o.length:Int))=true:=cE (by omega);have L:I (Ty.same (.mk k xs) (.mk k' o)=AK):=by show _=_;simp[Ty.same_mk,Ty.sameL_ne xs o S]
  clear a6 a4 a5 h1 S;go_enter func131,ntmps131;go_wp2;rw[<-aw.out];go_ret;exact⟨by rw[L.out];rfl,ah.out⟩
 replace S:xs.length=o.length:=Classical.not_not.1 S
 have cu:((xs.length:Int) != (o.length:Int))=false:=ca (by omega);have L:I (Ty.same (.mk k xs) (.mk k' o)=Ty.sameL xs o):=by show _=_;simp[Ty.same_mk,h1]
 have co:I (∀j (b9:j<xs.length),∃Z,aN w Z xs[j]∧gT w p j Z):=a4;have cq:I (∀j (b9:j<o.length),∃Z,aN w Z o[j]∧gT w q j Z):=a5;have ck:=gQq a6;have bv:=gQq S;clear a6 a4 a5 h1 S;go_enter func131,ntmps131;go_wp2_with fail;rw[<-aw.out];clear aw;go_loopw [24] (fun bs wr=>∃j:Nat,j<=xs.length∧bs=O C j∧I (N A.1.size A wr∧∀m (h1:m<xs.length) (X:m<o.length),m<j->Ty.same xs[m] o[m]=AJ)) (fun bs _=>xs.length-(intOf bs).toNat);case atStart=>exact⟨0,by omega,rfl,gQz,fun m _ _ h=>by omega⟩
 case round=>
  obtain⟨j,b9,rfl,E⟩:=hrel;have K:N w.1.size w wr:=ah.out.trans (E.out.1.mono ah.out.size);by_cases a2:j<xs.length
  ·have cb:j<o.length:=(by have:=bv.out;omega);obtain⟨dv,cc,b7⟩:=co.out j a2;obtain⟨d0,cd,b8⟩:=cq.out j cb;obtain⟨bx,du,a7,a9,a8,a0,rfl,_,rfl,cr,cs⟩:=(b7.on K).lies;obtain⟨Q,V,bn,bq,bp,bk,rfl,_,rfl,b1,b2⟩:=(b8.on K).lies
   have ak:I (∀w',N w.1.size w w'->AB AE 131 #[qx #[O C a7,F a9 a8 a0],qx #[O C bn,F bq bp bk]] w' fun e cw=>e=wv (qz (Ty.same xs[j] o[j]))∧N w'.1.size w' cw) :=
    fun w' hb=>ck.out _ (Aw a2) o[j] w' _ _ (cc.on hb) (cd.on hb)
   have bb:=gQq E.out.2;have c6:(j:Int)<(xs.length:Int):=(by omega);have c7:(j:Int)<(o.length:Int):=(by omega);obtain⟨r,bl⟩:∃r,r=Ty.same xs[j] o[j]:=⟨_,rfl⟩;rw[<-bl] at ak;have bT:=gQq bl;obtain⟨D,a3⟩:∃D,D=wr.alloc (wx #[O C a7,F a9 a8 a0] 99):=⟨_,rfl⟩;have aj:I (N wr.1.size wr D):=(by rw[a3];exact gQy);have be:I (N w.1.size w D):=K.trans (aj.out.mono K.size);have bc:I (N A.1.size A D):=E.out.1.trans (aj.out.mono E.out.1.size);have bX:=gQq a3;have b0:I (D.cell? ⟨w.1.size+1,1,U⟩=Y (F (Y ⟨Q,V,U⟩) o.length d)):=ae bc.out cp.out.2;have bO:I (D.cell? ⟨Q,V+j*2,U⟩=Y (O C bn)∧D.cell? ⟨Q,V+j*2+1,U⟩=Y (F bq bp bk)):=⟨ae aj.out b1,ae aj.out b2⟩;have bN:I (D.cell? ⟨wr.1.size,0,U⟩=Y (O C a7)∧D.cell? ⟨wr.1.size,1,U⟩=Y (F a9 a8 a0)):=(by rw[a3];exact⟨by simp,by simp⟩);clear cc cd b7 b8 K E bl a3 b1 b2;go_wp2_with fail;rw[<-bX.out];obtain⟨c0,c1⟩:=bN.out;obtain⟨b3,b4⟩:=bO.out;have b5:=b0.out;clear bN bO b0 bX cr cs
   go_region_held3 (fun w'=>w'.cell? ⟨wr.1.size,0,U⟩=Y (O C a7)∧w'.cell? ⟨wr.1.size,1,U⟩=Y (F a9 a8 a0)∧w'.cell? ⟨Q,V+j*2,U⟩=Y (O C bn)∧w'.cell? ⟨Q,V+j*2+1,U⟩=Y (F bq bp bk)∧w'.cell? ⟨w.1.size+1,1,U⟩=Y (F (Y ⟨Q,V,U⟩) o.length d)) (go_keep) (first|(go_at_call 131;refine(ak.out _ (below_drewN be.out _)).mono ?_;rintro e w4 ⟨rfl,b6⟩;have J:=ee (w:=D) b6 (by rfl) (by rfl) (by rfl) (by rfl);have z3:=ae J c0;have z4:=ae J c1;have cx:=ae J b3;have cy:=ae J b4;have c5:=ae J b5;have ai:=gQq J;clear b6 J))
   clear z3 z4 cx cy c5 c0 c1 b3 b4 b5;cases r with
   |true=>
    have cn:I (N A.1.size A w4∧∀m (h1:m<xs.length) (X:m<o.length),m<j+1->Ty.same xs[m] o[m]=AJ):=by
     refine⟨bc.out.trans (ai.out.mono bc.out.size),fun m h1 X c9=>?_⟩;by_cases cv:m=j
     ·subst cv;exact bT.out.symm
     ·exact bb.out m h1 X (by omega)
    clear ai bb ak;go_wp2;go_roundw;case rel=>exact⟨j+1,by omega,by go_num,cn⟩
    case measure=>simp[intOf];omega
   |false=>
    have bj:I (Ty.sameL xs o=AK):=Ty.sameL_at xs o j a2 cb bT.out.symm;have bi:=gQq (be.out.trans (ai.out.mono be.out.size));clear ai bb ak;go_wp2;go_ret;exact⟨by rw[L.out,bj.out];rfl,bi.out⟩
  ·have bj:I (Ty.sameL xs o=AJ):=Ty.sameL_all xs o bv.out (fun m h1 X=>E.out.2 m h1 X (by omega));have bi:=gQq K;have c8:¬(j:Int)<(xs.length:Int):=(by omega);clear E K a2;go_wp2;go_ret;exact⟨by rw[L.out,bj.out];rfl,bi.out⟩
end
section
open Go.RowKit
attribute [local go_sem] al
theorem xD:∀(x:V) (L:Ty) (d:Nat) (w:AU) (u v:AV),chk d x=0->Ty.check d L=0->aK w u x->aN w v L->AB AE 147 #[qx u,qx v] w fun e w'=>e=wv (qz (Sch.of x L))∧N w.1.size w w':=by
 intro x;refine V.ind (P:=fun x=>∀(L:Ty) (d:Nat) (w:AU) (u v:AV),chk d x=0->Ty.check d L=0->aK w u x->aN w v L->AB AE 147 #[qx u,qx v] w fun e w'=>e=wv (qz (Sch.of x L))∧N w.1.size w w') ?_ x;rintro k i b t xs bO ⟨k',y⟩ d w u v bq hd a1 cs;obtain⟨p,c,rfl,en,em,bv⟩:=a1.open;obtain⟨q,e,rfl,eq,ep,bN⟩:=cs.open;unfold cells5 au;obtain⟨D,aw⟩:∃D,D=(w.alloc (wx #[O C k,O C i,sq ux b,qj t,F p xs.length c] 102)).alloc (wx #[O C k',F q y.length e] 99):=⟨_,rfl⟩;have bb:I (N w.1.size w D):=by rw[aw];exact gQy.alloc (by simp) _
 have c5:I (D.cell? ⟨w.1.size+1,1,U⟩=Y (F q y.length e)):=by show _=_;rw[aw];simp
 have bk:=gQq aw;clear aw a1 cs;by_cases A:¬k=k'
 ·have dj:=cE A;have ai:I (Sch.of (.mk k i b t xs) (.mk k' y)=AK):=by show _=_;rw[Sch.of_mk,bg A,Bool.false_and]
  clear bO bv bN A bq hd;go_enter func147,ntmps147;go_wp2;rw[<-bk.out];go_ret;exact⟨by rw[ai.out];rfl,bb.out⟩
 replace A:k=k':=Classical.not_not.1 A
 have dj:=ca A;have ai:I (Sch.of (.mk k i b t xs) (.mk k' y)=xs.all (fun x=>Sch.of x (Sch.inner (.mk k' y)))):=by show _=_;rw[Sch.of_mk,dq A,Bool.true_and]
 obtain⟨d9,ds,cc⟩:=Sch.ty_open hd;obtain⟨-,cp,-,eg,-,cd⟩:=Sch.chk_open bq;obtain⟨-,-,-,-,d1,-⟩:=Sch.own_open cp;have cy:I (fN w p xs):=bv;have cv:=gQq bO
 -- what the type is of,where there are items
 have cx:I (0<xs.length->∃z,y=[z]∧Ty.check (d+1) z=0∧Sch.inner (.mk k' y)=z∧∃a8,aN w a8 z∧gT w q 0 a8):=by
  intro el;rcases cc with ⟨dr,-⟩ | ⟨dr,z,rfl,a2⟩
  ·omega
  ·obtain⟨a8,dv,d0⟩:=bN 0 (by simp);exact⟨z,rfl,a2,rfl,a8,dv,d0⟩
 have cu:=gQq cd;clear bO bv bN bq hd cc ds A cd cp d1;go_enter func147,ntmps147;go_wp2_with fail;rw[<-bk.out];clear bk;go_loopw [15] (fun b1 wr=>∃j:Nat,j<=xs.length∧b1=O C j∧I (N D.1.size D wr∧∀m (A:m<xs.length),m<j->Sch.of xs[m] (Sch.inner (.mk k' y))=AJ)) (fun b1 _=>xs.length-(intOf b1).toNat);case atStart=>exact⟨0,by omega,rfl,gQz,fun m _ h=>by omega⟩
 case round=>
  obtain⟨j,ea,rfl,J⟩:=hrel;have K:N w.1.size w wr:=bb.out.trans (J.out.1.mono bb.out.size);by_cases X:j<xs.length
  ·obtain⟨ev,cq,cj⟩:=cy.out j X;obtain⟨z,ct,a2,ci,ew,cr,ck⟩:=cx.out (by omega);obtain⟨bx,er,a4,a3,ak,a7,a6,a5,aj,rfl,_,rfl,c6,c7,c8,c9,df⟩:=(cj.on K).lies;obtain⟨Q,S,bT,b0,bX,bp,rfl,_,rfl,bl,bn⟩:=(ck.on K).lies;rw[Nat.zero_mul,Nat.add_zero] at bl bn;have cn:y.length=1:=(by rw[ct];rfl);have ah:I (∀w',N w.1.size w w'->AB AE 147 #[qx #[O C a4,O C a3,sq ux ak,qj a7,F a6 a5 aj],qx #[O C bT,F b0 bX bp]] w' fun e d2=>e=wv (qz (Sch.of xs[j] (Sch.inner (.mk k' y))))∧N w'.1.size w' d2):=fun w' hb=>by
    rw[ci];exact cv.out _ (Aw X) z (d+1) w' _ _ (cu.out _ (Aw X)) a2 (cq.on hb) (cr.on hb)
   have a9:=gQq J.out.2;have eb:(j:Int)<(xs.length:Int):=(by omega);obtain⟨r,bs⟩:∃r,r=Sch.of xs[j] (Sch.inner (.mk k' y)):=⟨_,rfl⟩;rw[<-bs] at ah;have b4:=gQq bs;obtain⟨o,a0⟩:∃o,o=wr.alloc (wx #[O C a4,O C a3,sq ux ak,qj a7,F a6 a5 aj] 102):=⟨_,rfl⟩;have ab:I (N wr.1.size wr o):=(by rw[a0];exact gQy);have be:I (N w.1.size w o):=K.trans (ab.out.mono K.size);have bc:I (N D.1.size D o):=J.out.1.trans (ab.out.mono J.out.1.size);have b5:=gQq a0;have b6:I (o.cell? ⟨w.1.size+1,1,U⟩=Y (F (Y ⟨Q,S,U⟩) 1 e)):=(by have:=ae bc.out c5.out;rw[cn] at this;exact this);have b3:I (o.cell? ⟨Q,S,U⟩=Y (O C bT)∧o.cell? ⟨Q,S+1,U⟩=Y (F b0 bX bp)):=⟨ae ab.out bl,ae ab.out bn⟩;have b2:I (o.cell? ⟨wr.1.size,0,U⟩=Y (O C a4)∧o.cell? ⟨wr.1.size,1,U⟩=Y (O C a3)∧o.cell? ⟨wr.1.size,2,U⟩=Y (sq ux ak)∧o.cell? ⟨wr.1.size,3,U⟩=Y (qj a7)∧o.cell? ⟨wr.1.size,4,U⟩=Y (F a6 a5 aj)):=(by rw[a0];exact⟨by simp,by simp,by simp,by simp,by simp⟩);clear cq cr cj ck K J bs ci a2 ct cn a0 bl bn;go_wp2_with fail;rw[<-b5.out];obtain⟨c0,c1,c2,c3,c4⟩:=b2.out;obtain⟨b7,b8⟩:=b3.out;have b9:=b6.out;clear b2 b3 b6 b5 c6 c7 c8 c9 df
   go_region_held3 (fun w'=>w'.cell? ⟨wr.1.size,0,U⟩=Y (O C a4)∧w'.cell? ⟨wr.1.size,1,U⟩=Y (O C a3)∧w'.cell? ⟨wr.1.size,2,U⟩=Y (sq ux ak)∧w'.cell? ⟨wr.1.size,3,U⟩=Y (qj a7)∧w'.cell? ⟨wr.1.size,4,U⟩=Y (F a6 a5 aj)∧w'.cell? ⟨Q,S,U⟩=Y (O C bT)∧w'.cell? ⟨Q,S+1,U⟩=Y (F b0 bX bp)∧w'.cell? ⟨w.1.size+1,1,U⟩=Y (F (Y ⟨Q,S,U⟩) 1 e)) (go_keep) (first|(go_at_call 147;refine(ah.out _ (below_drewN be.out _)).mono ?_;rintro e w4 ⟨rfl,cb⟩;have E:=ee (w:=o) cb (by rfl) (by rfl) (by rfl) (by rfl);have z3:=ae E c0;have z4:=ae E c1;have d4:=ae E c2;have d5:=ae E c3;have d6:=ae E c4;have d7:=ae E b7;have d8:=ae E b8;have d3:=ae E b9;have Z:=gQq E;clear cb E))
   clear z3 z4 d4 d5 d6 d7 d8 d3 c0 c1 c2 c3 c4 b7 b8 b9;cases r with
   |true=>
    have cw:I (N D.1.size D w4∧∀m (A:m<xs.length),m<j+1->Sch.of xs[m] (Sch.inner (.mk k' y))=AJ):=by
     refine⟨bc.out.trans (Z.out.mono bc.out.size),fun m A co=>?_⟩;by_cases du:m=j
     ·subst du;exact b4.out.symm
     ·exact a9.out m A (by omega)
    clear Z a9 ah;go_wp2;go_roundw;case rel=>exact⟨j+1,by omega,by go_num,cw⟩
    case measure=>simp[intOf];omega
   |false=>
    have bj:I (xs.all (fun x=>Sch.of x (Sch.inner (.mk k' y)))=AK):=by
     show _=_;rw[List.all_eq_false];exact⟨xs[j],Aw X,by rw[<-b4.out];decide⟩
    have bi:=gQq (be.out.trans (Z.out.mono be.out.size));clear Z a9 ah;go_wp2;go_ret;exact⟨by rw[ai.out,bj.out];rfl,bi.out⟩
  ·have bj:I (xs.all (fun x=>Sch.of x (Sch.inner (.mk k' y)))=AJ):=by
    show _=_;rw[List.all_eq_true];intro x a1;obtain⟨m,co,rfl⟩:=List.getElem_of_mem a1;exact J.out.2 m co (by omega)
   have bi:=gQq K;have ec:¬(j:Int)<(xs.length:Int):=(by omega);clear J K X;go_wp2;go_ret;exact⟨by rw[ai.out,bj.out];rfl,bi.out⟩
theorem isK(x:V)(y:Ty)(w:AU)(u v:AV)(bb:aK w u x)(bc:aN w v y):AB AE 193 #[qx u,qx v] w fun e w'=>e=wv (qz (Sch.is x y))∧N w.1.size w w':=by
 obtain⟨k,i,b,t,xs⟩:=x;obtain⟨k',J⟩:=y;obtain⟨p,c,rfl,-⟩:=bb.open;obtain⟨q,e,rfl,-⟩:=bc.open;obtain⟨o,a0⟩:∃o,o=(w.alloc (wx (cells5 k i b t p xs.length c) 102)).alloc (wx (au k' q J.length e) 99):=⟨_,rfl⟩;have Q:I (N w.1.size w o):=by rw[a0];exact gQy.alloc (by simp) _
 have a5:=gQq (bb.on Q.out);have a4:=gQq (bc.on Q.out);have bi:=gQq (fun w' (hb:N o.1.size o w')=>jM _ w' _ (a4.out.on hb));have bj:=gQq (fun w' (hb:N o.1.size o w')=>pI _ w' _ (a5.out.on hb));have HI:I (Sch.is (.mk k i b t xs) (.mk k' J)=(decide (Ty.check 1 (.mk k' J)=0)&&decide (chk 1 (.mk k i b t xs)=0)&&Sch.of (.mk k i b t xs) (.mk k' J))):=rfl;have K:=gQq (fun w' (hb:N o.1.size o w') D L=>xD _ _ 1 w' _ _ D L (a5.out.on hb) (a4.out.on hb));have a6:I (o.cell? ⟨w.1.size,0,U⟩=Y (O C k)∧o.cell? ⟨w.1.size,1,U⟩=Y (O C i)∧o.cell? ⟨w.1.size,2,U⟩=Y (sq ux b)∧o.cell? ⟨w.1.size,3,U⟩=Y (qj t)∧o.cell? ⟨w.1.size,4,U⟩=Y (F p xs.length c)∧o.cell? ⟨w.1.size+1,0,U⟩=Y (O C k')∧o.cell? ⟨w.1.size+1,1,U⟩=Y (F q J.length e)):=by rw[a0];exact⟨by simp[cells5],by simp[cells5],by simp[cells5],by simp[cells5],by simp[cells5],by simp[au],by simp[au]⟩
 have bk:=gQq a0;obtain⟨R,bl⟩:∃R,R=Sch.is (.mk k i b t xs) (.mk k' J):=⟨_,rfl⟩;rw[<-bl] at HI ⊢;obtain⟨X,a8⟩:∃X,X=Ty.check 1 (.mk k' J):=⟨_,rfl⟩;have bN:=gQq a8;rw[<-a8] at bi HI K;obtain⟨Z,a9⟩:∃Z,Z=chk 1 (.mk k i b t xs):=⟨_,rfl⟩;have bO:=gQq a9;rw[<-a9] at bj HI K;obtain⟨a7,bq⟩:∃a7,a7=Sch.of (.mk k i b t xs) (.mk k' J):=⟨_,rfl⟩;rw[<-bq] at HI K;clear a0 bb bc bl a8 a9 bq a5 a4;unfold cells5 au at *
 go_enter func193,ntmps193;go_wp2_with fail;rw[<-bk.out];clear bk;refine(bi.out _ gQz).mono ?_;rintro e w1 ⟨rfl,E⟩;obtain⟨ab,ah,ai,aj,ak,a1,a2⟩:=a6.out;have c0:=ae E ab;have c1:=ae E ah;have c2:=ae E ai;have c3:=ae E aj;have c4:=ae E ak;have aw:=gQq E;have bv:=gQq (Q.out.trans (E.mono Q.out.size));clear ab ah ai aj ak a1 a2 E;by_cases D:X=0
 ·have b1:((X:Int)==0)=true:=dq (by omega);go_wp2_with fail;refine(bj.out w1 aw.out).mono ?_;rintro e b3 ⟨rfl,bn⟩;have A:=gQq (aw.out.trans (bn.mono aw.out.size));have a3:=gQq (Q.out.trans (A.out.mono Q.out.size));clear bn aw c0 c1 c2 c3 c4;by_cases L:Z=0
  ·have b2:((Z:Int)==0)=true:=dq (by omega);obtain⟨ab,ah,ai,aj,ak,a1,a2⟩:=a6.out;have c0:=ae A.out ab;have c1:=ae A.out ah;have c2:=ae A.out ai;have c3:=ae A.out aj;have c4:=ae A.out ak;have bX:=ae A.out a1;have b0:=ae A.out a2;have S:I (R=a7):=(by show _=_;rw[HI.out,AR D,AR L];rfl);have bT:=gQq (K.out b3 A.out L D);clear ab ah ai aj ak a1 a2 D L HI K a6 bN bO;go_wp2_with fail;refine bT.out.mono ?_;rintro e b4 ⟨rfl,bp⟩;have bs:=gQq (a3.out.trans (bp.mono a3.out.size));clear bp c0 c1 c2 c3 c4 bX b0;go_wp2;go_ret;exact⟨by rw[S.out];rfl,bs.out⟩
  ·have b2:((Z:Int)==0)=false:=bg (by omega);have S:I (R=AK):=(by show _=_;rw[HI.out,AP L,Bool.and_false,Bool.false_and]);clear D L HI K;go_wp2;go_ret;exact⟨by rw[S.out];rfl,a3.out⟩
 ·have b1:((X:Int)==0)=false:=bg (by omega);have S:I (R=AK):=by show _=_;rw[HI.out,AP D,Bool.false_and,Bool.false_and]
  clear D HI K;go_wp2;go_ret;exact⟨by rw[S.out];rfl,bv.out⟩
end
section
open Go.RowKit
attribute [local go_sem] al
theorem mQ(x y:Col)(w:AU)(u v:AV)(be:fk w u x)(bi:fk w v y):AB AE 96 #[qx u,qx v] w fun e w'=>e=wv (qz (Sch.colSame x y))∧N w.1.size w w':=by
 obtain⟨k,cx,cv,ct,bv,bq,bk,b1,bX,bO,bn,rfl,a3,a5⟩:=be.out;obtain⟨k',cy,cw,cu,bN,bs,bl,b2,b0,bT,bp,rfl,a4,a6⟩:=bi.out;obtain⟨L,ai,has,Z⟩:=x;obtain⟨Q,aj,E,ab⟩:=y;dsimp only at a3 a5 a4 a6;unfold aB;obtain⟨o,aw⟩:∃o,o=(w.alloc (wx #[qj L,O C k,F cx cv ct,qz has,O C bv,O C bq,sq ux bk,qj b1,F bX bO bn] 104)).alloc (wx #[qj Q,O C k',F cy cw cu,qz E,O C bN,O C bs,sq ux bl,qj b2,F b0 bT bp] 104):=⟨_,rfl⟩;have D:I (N w.1.size w o):=by rw[aw];exact gQy.alloc (by simp) _
 have a1:I (o.cell? ⟨w.1.size,4,U⟩=Y (O C bv)∧o.cell? ⟨w.1.size,5,U⟩=Y (O C bq)∧o.cell? ⟨w.1.size,6,U⟩=Y (sq ux bk)∧o.cell? ⟨w.1.size,7,U⟩=Y (qj b1)∧o.cell? ⟨w.1.size,8,U⟩=Y (F bX bO bn)∧o.cell? ⟨w.1.size+1,4,U⟩=Y (O C bN)∧o.cell? ⟨w.1.size+1,5,U⟩=Y (O C bs)∧o.cell? ⟨w.1.size+1,6,U⟩=Y (sq ux bl)∧o.cell? ⟨w.1.size+1,7,U⟩=Y (qj b2)∧o.cell? ⟨w.1.size+1,8,U⟩=Y (F b0 bT bp)):=by rw[aw];refine⟨?_,?_,?_,?_,?_,?_,?_,?_,?_,?_⟩ <;> simp
 have X:=gQq (qS ai aj o _ _ (a3.on D.out) (a4.on D.out));have J:=gQq (fun w' (hb:N o.1.size o w')=>xo Z ab w' _ _ ((a5.on D.out).on hb) ((a6.on D.out).on hb));unfold au at X;unfold cells5 at J;have A:I (Sch.colSame ⟨L,ai,has,Z⟩ ⟨Q,aj,E,ab⟩=(decide (L=Q)&&(has==E)&&Ty.same ai aj&&V.same Z ab)):=rfl;obtain⟨R,a8⟩:∃R,R=Sch.colSame ⟨L,ai,has,Z⟩ ⟨Q,aj,E,ab⟩:=⟨_,rfl⟩;rw[<-a8] at A ⊢;obtain⟨bj,bb⟩:∃r,r=Ty.same ai aj:=⟨_,rfl⟩;rw[<-bb] at X A;obtain⟨cs,bc⟩:∃r,r=V.same Z ab:=⟨_,rfl⟩;rw[<-bc] at J A;have ak:=gQq aw;clear aw a3 a4 a5 a6 be bi a8 bb bc;by_cases K:L=Q
 ·have cr:(L.toList==Q.toList)=true:=by rw[iW,AR K]
  by_cases ah:has=E
  ·have S:I (R=(bj&&cs)):=(by show _=_;rw[A.out,AR K,ah,beq_self_eq_true,Bool.true_and,Bool.true_and]);subst ah;clear K A;have c5:(has==has)=true:=(by simp);go_enter func96,ntmps96;go_wp2_with fail;rw[<-ak.out];clear ak;refine X.out.mono ?_;rintro e w1 ⟨rfl,a2⟩;have HB1:=gQq a2;have a0:=gQq (D.out.trans (a2.mono D.out.size));clear a2 X;cases bj with
   |true=>
    obtain⟨b3,b4,b5,b6,b7,b8,b9,cb,cc,cd⟩:=a1.out;have c0:=ae HB1.out b3;have c1:=ae HB1.out b4;have c2:=ae HB1.out b5;have c3:=ae HB1.out b6;have c4:=ae HB1.out b7;have ck:=ae HB1.out b8;have cn:=ae HB1.out b9;have co:=ae HB1.out cb;have cp:=ae HB1.out cc;have cq:=ae HB1.out cd;have cj:=gQq (J.out w1 HB1.out);clear b3 b4 b5 b6 b7 b8 b9 cb cc cd a1 J;go_wp2_with fail;refine cj.out.mono ?_;rintro e c6 ⟨rfl,a9⟩;have ci:=gQq (a0.out.trans (a9.mono a0.out.size));clear a9 c0 c1 c2 c3 c4 ck cn co cp cq;go_wp2;go_ret;exact⟨by rw[S.out];rfl,ci.out⟩
   |false=>
    clear J a1;go_wp2;go_ret;exact⟨by rw[S.out];rfl,a0.out⟩
  ·have S:I (R=AK):=by
    show _=_;have hb:(has==E)=false:=by(cases has <;> cases E <;> first | rfl | exact absurd rfl ah)
    rw[A.out,hb,Bool.and_false,Bool.false_and,Bool.false_and]
   clear A K J X;cases has <;> cases E <;> try exact absurd rfl ah
   all_goals
    clear ah;go_enter func96,ntmps96;go_wp2;rw[<-ak.out];go_ret;exact⟨by rw[S.out];rfl,D.out⟩
 ·have cr:(L.toList==Q.toList)=false:=by rw[iW,AP K]
  have S:I (R=AK):=by show _=_;rw[A.out,AP K,Bool.false_and,Bool.false_and,Bool.false_and]
  clear A K J X;go_enter func96,ntmps96;go_wp2;rw[<-ak.out];go_ret;exact⟨by rw[S.out];rfl,D.out⟩
theorem td(s t:List Col)(p q:OA)(c d:Nat)(w:AU)(e9:s.length*120<=140737488351232)(S:cU w p s)(a7:cU w q t):
  AB AE 67 #[qx #[F p s.length c],qx #[F q t.length d]] w fun e w'=>e=wv (qz (Sch.same s t))∧N w.1.size w w':=by
 obtain⟨A,a5⟩:∃A,A=(w.alloc (wx #[F p s.length c] 35)).alloc (wx #[F q t.length d] 35):=⟨_,rfl⟩;have a9:I (N w.1.size w A):=by rw[a5];exact gQy.alloc (by simp) _
 have d1:I (A.cell? ⟨w.1.size,0,U⟩=Y (F p s.length c)∧A.cell? ⟨w.1.size+1,0,U⟩=Y (F q t.length d)):=by rw[a5];exact⟨by simp,by simp⟩
 have bi:=gQq a5;have dv:=gQq S;have d0:=gQq a7;clear a5 S a7;by_cases Q:¬s.length=t.length
 ·have eb:((s.length:Int) != (t.length:Int))=true:=cE (by omega);have ds:=gQq (mO s t Q);clear Q;go_enter func67,ntmps67;go_wp2;rw[<-bi.out];go_ret;exact⟨by rw[ds.out];rfl,a9.out⟩
 replace Q:s.length=t.length:=Classical.not_not.1 Q
 have eb:((s.length:Int) != (t.length:Int))=false:=ca (by omega);have b3:=gQq Q;clear Q;go_enter func67,ntmps67;go_wp2_with fail;rw[<-bi.out];clear bi;go_loopw [17] (fun bv wr=>∃j:Nat,j<=s.length∧bv=O C j∧I (N A.1.size A wr∧∀m (V:m<s.length) (X:m<t.length),m<j->Sch.colSame s[m] t[m]=AJ)) (fun bv _=>s.length-(intOf bv).toNat);case atStart=>exact⟨0,by omega,rfl,gQz,fun m _ _ h=>by omega⟩
 case round=>
  obtain⟨j,e4,rfl,L⟩:=hrel;have K:N w.1.size w wr:=a9.out.trans (L.out.1.mono a9.out.size);by_cases bj:j<s.length
  ·have c5:j<t.length:=(by have:=b3.out;omega);obtain⟨bx,fc,k,ah,ab,Z,aw,ak,ai,a2,a1,a0,aj,rfl,_,dr,c8,df⟩:=(dv.out.on K).at j bj;obtain⟨D,E,k',bs,bq,bp,bX,bT,bN,b2,b1,b0,bO,rfl,_,bl,c9,dj⟩:=(d0.out.on K).at j c5
   have J:I (∀w',N wr.1.size wr w'->AB AE 96 #[qx (aB s[j].name k ah ab Z s[j].has aw ak ai a2 a1 a0 aj),qx (aB t[j].name k' bs bq bp t[j].has bX bT bN b2 b1 b0 bO)] w' fun e el=>e=wv (qz (Sch.colSame s[j] t[j]))∧N w'.1.size w' el) :=
    fun w' hb=>mQ s[j] t[j] w' _ _ ⟨k,ah,ab,Z,aw,ak,ai,a2,a1,a0,aj,rfl,c8.on hb,df.on hb⟩ ⟨k',bs,bq,bp,bX,bT,bN,b2,b1,b0,bO,rfl,c9.on hb,dj.on hb⟩
   unfold aB at J;have a8:=gQq L.out.2;have e5:(j:Int)<(s.length:Int):=(by omega);have e6:(j:Int)<(t.length:Int):=(by omega);obtain⟨r,bk⟩:∃r,r=Sch.colSame s[j] t[j]:=⟨_,rfl⟩;rw[<-bk] at J;have b8:=gQq bk;clear bk c8 df c9 dj;have b5:=gQq L.out.1;clear L;obtain⟨bn,c6⟩:∃n,n=s[j].name:=⟨_,rfl⟩;obtain⟨S,cx⟩:∃n,n=s[j].has:=⟨_,rfl⟩;obtain⟨eg,c7⟩:∃n,n=t[j].name:=⟨_,rfl⟩;obtain⟨a7,cy⟩:∃n,n=t[j].has:=⟨_,rfl⟩;rw[<-c6,<-cx] at dr J;rw[<-c7,<-cy] at bl J;clear c6 cx c7 cy;obtain⟨d2,d3,d4,d5,d6,d7,d8,d9,ea⟩:=dr;obtain⟨y,a6⟩:∃y,y=wr.alloc (wx #[qj bn,O C k,F ah ab Z,qz S,O C aw,O C ak,sq ux ai,qj a2,F a1 a0 aj] 104):=⟨_,rfl⟩;have a4:I (N wr.1.size wr y):=(by rw[a6];exact gQy);have b7:I (N w.1.size w y):=K.trans (a4.out.mono K.size);have bb:I (N A.1.size A y):=b5.out.trans (a4.out.mono b5.out.size);have b9:=gQq a6;have cb:I (y.cell? ⟨w.1.size+1,0,U⟩=Y (F (Y ⟨D,E,U⟩) t.length d)):=ae bb.out d1.out.2;have b6:=gQq (bl.on a4.out);have b4:I (y.cell? ⟨wr.1.size,0,U⟩=Y (qj bn)∧y.cell? ⟨wr.1.size,1,U⟩=Y (O C k)∧y.cell? ⟨wr.1.size,2,U⟩=Y (F ah ab Z)∧y.cell? ⟨wr.1.size,3,U⟩=Y (qz S)∧y.cell? ⟨wr.1.size,4,U⟩=Y (O C aw)∧y.cell? ⟨wr.1.size,5,U⟩=Y (O C ak)∧y.cell? ⟨wr.1.size,6,U⟩=Y (sq ux ai)∧y.cell? ⟨wr.1.size,7,U⟩=Y (qj a2)∧y.cell? ⟨wr.1.size,8,U⟩=Y (F a1 a0 aj)):=(by rw[a6];refine⟨?_,?_,?_,?_,?_,?_,?_,?_,?_⟩ <;> simp);clear K a6 bl
   go_wp2_with fail;rw[<-b9.out];obtain⟨c0,c1,c2,c3,c4,cc,cd,ci,cj⟩:=b4.out;obtain⟨ck,cn,co,cp,cq,cr,cs,ct,cu⟩:=b6.out;have cv:=cb.out;clear b4 b6 cb b9 d2 d3 d4 d5 d6 d7 d8 d9 ea
   go_region_held3 (fun w'=>w'.cell? ⟨wr.1.size,0,U⟩=Y (qj bn)∧w'.cell? ⟨wr.1.size,1,U⟩=Y (O C k)∧w'.cell? ⟨wr.1.size,2,U⟩=Y (F ah ab Z)∧w'.cell? ⟨wr.1.size,3,U⟩=Y (qz S)∧w'.cell? ⟨wr.1.size,4,U⟩=Y (O C aw)∧w'.cell? ⟨wr.1.size,5,U⟩=Y (O C ak)∧w'.cell? ⟨wr.1.size,6,U⟩=Y (sq ux ai)∧w'.cell? ⟨wr.1.size,7,U⟩=Y (qj a2)∧w'.cell? ⟨wr.1.size,8,U⟩=Y (F a1 a0 aj)∧w'.cell? ⟨D,E+j*9,U⟩=Y (qj eg)∧w'.cell? ⟨D,E+j*9+1,U⟩=Y (O C k')∧w'.cell? ⟨D,E+j*9+2,U⟩=Y (F bs bq bp)∧w'.cell? ⟨D,E+j*9+3,U⟩=Y (qz a7)∧w'.cell? ⟨D,E+j*9+4,U⟩=Y (O C bX)∧w'.cell? ⟨D,E+j*9+5,U⟩=Y (O C bT)∧w'.cell? ⟨D,E+j*9+6,U⟩=Y (sq ux bN)∧w'.cell? ⟨D,E+j*9+7,U⟩=Y (qj b2)∧w'.cell? ⟨D,E+j*9+8,U⟩=Y (F b1 b0 bO)∧w'.cell? ⟨w.1.size+1,0,U⟩=Y (F (Y ⟨D,E,U⟩) t.length d)) (go_keep) (first|(go_at_call 96;refine(J.out _ (below_drewN a4.out _)).mono ?_;rintro e w4 ⟨rfl,cw⟩;have o:=ee (w:=y) cw (by rfl) (by rfl) (by rfl) (by rfl);have z0:=ae o c0;have z1:=ae o c1;have z2:=ae o c2;have z3:=ae o c3;have z4:=ae o c4;have e0:=ae o cc;have e1:=ae o cd;have e2:=ae o ci;have e3:=ae o cj;have em:=ae o ck;have en:=ae o cn;have ep:=ae o co;have eq:=ae o cp;have er:=ae o cq;have ev:=ae o cr;have ew:=ae o cs;have ez:=ae o ct;have eC:=ae o cu;have eL:=ae o cv;have a3:=gQq o;clear cw o))
   clear z0 z1 z2 z3 z4 e0 e1 e2 e3 em en ep eq er ev ew ez eC eL c0 c1 c2 c3 c4 cc cd ci cj ck cn co cp cq cr cs ct cu cv;cases r with
   |true=>
    have du:I (N A.1.size A w4∧∀m (V:m<s.length) (X:m<t.length),m<j+1->Sch.colSame s[m] t[m]=AJ):=by
     refine⟨bb.out.trans (a3.out.mono bb.out.size),fun m V X e8=>?_⟩;by_cases ec:m=j
     ·subst ec;exact b8.out.symm
     ·exact a8.out m V X (by omega)
    clear a3 a8 J;go_wp2;go_roundw;case rel=>exact⟨j+1,by omega,by go_num,du⟩
    case measure=>simp[intOf];omega
   |false=>
    have be:I (Sch.same s t=AK):=mP s t j bj c5 b8.out.symm;have bc:=gQq (b7.out.trans (a3.out.mono b7.out.size));clear a3 a8 J;go_wp2;go_ret;exact⟨by rw[be.out];rfl,bc.out⟩
  ·have be:I (Sch.same s t=AJ):=kz s t b3.out (fun m V X=>L.out.2 m V X (by omega));have bc:=gQq K;have e7:¬(j:Int)<(s.length:Int):=(by omega);clear L K bj;go_wp2;go_ret;exact⟨by rw[be.out];rfl,bc.out⟩
end
section
open Go.RowKit Go.Maps
theorem rG:Keyed AE 9:=string_keyed underlying9
theorem pV(w:AU):(zeroValue 3).run AE w=.ok (O C 0) w:=by kernel_rfl
def np(t:ByteArray):Lit:=.string t.data.toList
theorem tX{a b:ByteArray}(h:np a=np b):a=b:=by
 unfold np at h;injection h with h;obtain⟨⟨a⟩⟩:=a;obtain⟨⟨b⟩⟩:=b
 simp_all
theorem qp{t:ByteArray}(h:t.size<=140737488351232):keyOf AE 9 (qj t)=Y (np t):=Go.WideMaps.keyOf_string_mk underlying9 (by unfold maxLen;omega)
structure cR(w:AU)(M n:Nat)(l:List Col):Prop where
 out:∃D:DataW Unit,w.ownsMap AE 9 (plainElem AE 3) M n D∧∀t:ByteArray,has D (np t)=l.any (fun x=>decide (x.name=t))
theorem ju(w:AU):cR (w.alloc (.map #[] 0)) w.1.size 0 []:=⟨.map [],World.ownsMap_made _ _ _ _,fun _=>rfl⟩
theorem cR.lt(h:cR w M n l):M<w.1.size:=by
 obtain⟨y,o,_⟩:=h.out;exact o.lt
theorem cR.keep{w':AU}(h:cR w M n l)(hb:w'.1[M]?=w.1[M]?):cR w' M n l:=by
 obtain⟨o,⟨es,clock,y,A⟩,D⟩:=h.out;exact⟨o,⟨es,clock,hb.trans y,A⟩,D⟩
theorem qA{o:DataW Unit}{P:Program}{k:TypeId}{R:Value->Option (DataW Unit×List MemPlace)}{w:AU}{M n:Nat}{l:List Col}(A:w.ownsMap P k R M n o)(h:∀t:ByteArray,has o (np t)=l.any (fun x=>decide (x.name=t)))(c:Col)(d:DataW Unit)(t:ByteArray):
  has (o.put (np c.name) d) (np t)=(l++[c]).any (fun x=>decide (x.name=t)):=by
 rw[List.any_append];by_cases y:c.name=t
 ·subst y;rw[has_put_same A.isMap (by trivial)];simp
 ·rw[has_put_other (fun e=>y (tX e).symm),h t];simp[y]
end
section
open Go.RowKit Go.Maps
attribute [local go_sem] al
def jG(c:Col):Nat:=if c.has=AK then (if V.same c.dflt V0 then 0 else 80) else if chk 1 c.dflt≠0 then chk 1 c.dflt else if Sch.is c.dflt c.ty then 0 else 80
theorem sE(l:List Col)(c:Col):Sch.colErr l c=if Sch.name c.name=AK then 70 else if l.any (fun x=>decide (x.name=c.name)) then 71 else if Ty.check 1 c.ty≠0 then Ty.check 1 c.ty else jG c:=rfl
theorem oe(w:AU):aK w (cells5 0 0 0 ⟨#[]⟩ U 0 0) V0:=aK.mk (xs:=[]) (fun _=>#[]) (by simp) (by simp) (fun o=>absurd rfl o) (fun j y=>by simp at y)
theorem ki(x:Col)(w:AU)(u:AV)(bi:fk w u x)(a2:Ty.check 1 x.ty=0):AB AE 113 #[qx u] w fun e w'=>e=wv (O C (jG x:Nat))∧N w.1.size w w':=by
 obtain⟨k,bn,bl,bk,bv,bs,bp,bT,bO,bN,bq,rfl,a4,ak⟩:=bi.out;obtain⟨a5,A,has,o⟩:=x;dsimp only at a4 ak a2;unfold aB;obtain⟨y,a1⟩:∃y,y=w.alloc (wx #[qj a5,O C k,F bn bl bk,qz has,O C bv,O C bs,sq ux bp,qj bT,F bO bN bq] 104):=⟨_,rfl⟩;have D:I (N w.1.size w y):=by rw[a1];exact gQy
 have a0:I (y.cell? ⟨w.1.size,1,U⟩=Y (O C k)∧y.cell? ⟨w.1.size,2,U⟩=Y (F bn bl bk)∧y.cell? ⟨w.1.size,4,U⟩=Y (O C bv)∧y.cell? ⟨w.1.size,5,U⟩=Y (O C bs)∧y.cell? ⟨w.1.size,6,U⟩=Y (sq ux bp)∧y.cell? ⟨w.1.size,7,U⟩=Y (qj bT)∧y.cell? ⟨w.1.size,8,U⟩=Y (F bO bN bq)):=by rw[a1];refine⟨?_,?_,?_,?_,?_,?_,?_⟩ <;> simp
 have ai:=gQq (xo o V0 y _ _ (ak.on D.out) (oe y));have ab:=gQq (pI o y _ (ak.on D.out));have L:=gQq (fun w' (hb:N y.1.size y w') b9=>xD o A 1 w' _ _ b9 a2 ((ak.on D.out).on hb) ((a4.on D.out).on hb));have S:I (chk 1 o=0->Sch.is o A=Sch.of o A):=fun h=>by
  unfold Sch.is;rw[AR a2,AR h];rfl
 have J:I (jG ⟨a5,A,has,o⟩=if has=AK then (if V.same o V0 then 0 else 80) else if chk 1 o≠0 then chk 1 o else if Sch.is o A then 0 else 80):=rfl;obtain⟨R,a7⟩:∃R,R=jG ⟨a5,A,has,o⟩:=⟨_,rfl⟩;rw[<-a7] at J ⊢;obtain⟨bj,a9⟩:∃r,r=V.same o V0:=⟨_,rfl⟩;rw[<-a9] at ai J;obtain⟨Z,bb⟩:∃r,r=chk 1 o:=⟨_,rfl⟩;rw[<-bb] at ab J L S;obtain⟨cb,bc⟩:∃r,r=Sch.is o A:=⟨_,rfl⟩;rw[<-bc] at J S;have aw:=gQq a1;unfold cells5 at ai ab L;unfold au at L;clear a1 a4 ak bi a2 a7 a9 bb bc;cases has with
 |false=>
  have K:I (R=if bj then 0 else 80):=by show _=_;rw[J.out,AG rfl]
  clear J ab L S a0;go_enter func113,ntmps113;go_wp2_with fail;rw[<-aw.out];clear aw;refine ai.out.mono ?_;rintro e w1 ⟨rfl,X⟩;have Q:=gQq (D.out.trans (X.mono D.out.size));clear X ai;cases bj with
  |true=>
   go_wp2;go_ret;exact⟨by rw[K.out];rfl,Q.out⟩
  |false=>
   go_wp2;go_ret;exact⟨by rw[K.out];rfl,Q.out⟩
 |true=>
  have K:I (R=if Z≠0 then Z else if cb then 0 else 80):=by show _=_;rw[J.out,AF (by decide)]
  clear J ai;go_enter func113,ntmps113;go_wp2_with fail;rw[<-aw.out];clear aw;refine ab.out.mono ?_;rintro e w1 ⟨rfl,X⟩;have E:=gQq X;have Q:=gQq (D.out.trans (X.mono D.out.size));clear X ab;by_cases aj:Z=0
  ·have b8:((Z:Int) != 0)=false:=ca (by omega);obtain⟨bX,b0,b1,b2,b3,b4,b5⟩:=a0.out;have c0:=ae E.out bX;have c1:=ae E.out b0;have c2:=ae E.out b1;have c3:=ae E.out b2;have c4:=ae E.out b3;have b6:=ae E.out b4;have b7:=ae E.out b5;have a3:=gQq (L.out w1 E.out aj);have ah:I (R=if Sch.of o A then 0 else 80):=by
    show _=_;rw[K.out,AF (by omega),S.out aj]
   obtain⟨cc,be⟩:∃r,r=Sch.of o A:=⟨_,rfl⟩;rw[<-be] at a3 ah;clear bX b0 b1 b2 b3 b4 b5 a0 L S K be aj;go_wp2_with fail;refine a3.out.mono ?_;rintro e cd ⟨rfl,a8⟩;have a6:=gQq (Q.out.trans (a8.mono Q.out.size));clear a8 c0 c1 c2 c3 c4 b6 b7 a3;cases cc with
   |true=>
    go_wp2;go_ret;exact⟨by rw[ah.out];rfl,a6.out⟩
   |false=>
    go_wp2;go_ret;exact⟨by rw[ah.out];rfl,a6.out⟩
  ·have b8:((Z:Int) != 0)=true:=cE (by omega);have ah:I (R=Z):=(by show _=_;rw[K.out,AG aj]);clear L S K aj a0;go_wp2;go_ret;exact⟨by rw[ah.out];rfl,Q.out⟩
def iL(s:List Col):Nat:=if s.length=0 then 4 else if 16<s.length then 3 else Sch.colsErr [] s
theorem lS(s:List Col)(j:Nat)(o:j<s.length):Sch.colsErr (s.take j) (s.drop j)=if Sch.colErr (s.take j) s[j]=0 then Sch.colsErr (s.take (j+1)) (s.drop (j+1)) else Sch.colErr (s.take j) s[j]:=by
 rw[List.drop_eq_getElem_cons o,Sch.colsErr,List.take_succ_eq_append_getElem o]
theorem kj(s:List Col)(p:OA)(c:Nat)(w:AU)(d0:cU w p s)(dv:∀x∈s,x.wf):
    AB AE 85 #[F p s.length c] w fun e w'=>e=wv (O C (iL s:Nat))∧N w.1.size w w':=by
  have f4:=@run_makeMap AE;obtain⟨R,b2⟩:∃R,R=iL s:=⟨_,rfl⟩;have L:I (R=if s.length=0 then 4 else if 16<s.length then 3 else Sch.colsErr [] s):=b2;rw[<-b2];clear b2;have ev:=gQq d0;have er:=gQq dv;clear d0 dv;by_cases Q:s.length=0
  · have e5:((s.length:Int)==0)=true:=dq (by omega);have X:I (R=4):=(by show _=_;rw[L.out,AG Q]);clear L Q;go_enter func85,ntmps85;go_wp2;go_ret;exact⟨by rw[X.out];rfl,gQz⟩
  have e5:((s.length:Int)==0)=false:=bg (by omega);by_cases a9:16<s.length
  · have e6:(16:Int)<(s.length:Int):=(by omega);have X:I (R=3):=(by show _=_;rw[L.out,AF Q,AG a9]);clear L Q a9;go_enter func85,ntmps85;go_wp2;go_ret;exact⟨by rw[X.out];rfl,gQz⟩
  have e6:¬(16:Int)<(s.length:Int):=by omega
  have X:I (R=Sch.colsErr (s.take 0) (s.drop 0)):=by show _=_;rw[L.out,AF Q,AF a9];simp
  have f5:s.length<=16:=by omega
  clear L Q a9;obtain⟨a8,bb⟩:∃a8,a8=w.alloc (.map #[] 0):=⟨_,rfl⟩;have ec:I (N w.1.size w a8):=by rw[bb];exact gQy
  have ep:I (cR a8 w.1.size 0 (s.take 0)):=by rw[bb];exact ju w
  have cp:=gQq bb;clear bb;go_enter func85,ntmps85;go_wp2_with fail;rw[<-cp.out];clear cp;go_loopw [19] (fun cb wr=>∃j:Nat,j<=s.length∧cb=O C j∧I (N w.1.size w wr∧cR wr w.1.size j (s.take j)∧R=Sch.colsErr (s.take j) (s.drop j))) (fun cb _=>s.length-(intOf cb).toNat);case atStart=>exact⟨0,by omega,rfl,ec.out,ep.out,X.out⟩
  case round=>
    obtain⟨j,f0,rfl,J⟩:=hrel;by_cases ai:j<s.length
    · obtain⟨bx,f6,k,bk,bj,bi,bq,bp,bl,bN,bv,bs,bn,rfl,_,cx,b8,ds⟩:=ev.out.at j ai;obtain⟨cr,ew,ez,cs,eC,eL,e0,e1,e2⟩:=cx.on J.out.1;clear cx;have f2:(j:Int)<(s.length:Int):=(by omega);have A:=gQq ((sE (s.take j) s[j]));have K:=gQq (J.out.2.2.trans (lS s j ai));have fc:s[j].name.size<=140737488351232:=(er.out _ (Aw ai)).1;have ab:=gQq (qp fc);have a6:=gQq (xv s[j].name);have co:=gQq (s.take_succ_eq_append_getElem ai);obtain⟨D,be,b6⟩:=J.out.2.1.out;have cn:=gQq be;have Z:=gQq (b6 s[j].name);have b1:=gQq (fun d t=>qA be b6 s[j] d t);have en:=gQq be.lt;have cd:=gQq J.out.1
      -- the copy of the column
      have a3:=gQq (fun w' (hb:N w.1.size w w')=>jM s[j].ty w' _ (b8.on hb));have E:=gQq (fun w' (hb:N w.1.size w w') (h:Ty.check 1 s[j].ty=0)=>ki s[j] w' _ ⟨k,bk,bj,bi,bq,bp,bl,bN,bv,bs,bn,rfl,b8.on hb,ds.on hb⟩ h);unfold aB at E;unfold au at a3;obtain⟨aj,c6⟩:∃n,n=s[j].name:=⟨_,rfl⟩;obtain⟨b7,cy⟩:∃n,n=s[j].has:=⟨_,rfl⟩;rw[<-c6] at cr A ab a6 Z b1 E;rw[<-cy] at cs E;obtain⟨fq,dj⟩:∃r,r=Sch.name aj:=⟨_,rfl⟩;rw[<-dj] at a6 A;obtain⟨ak,dr⟩:∃r,r=Ty.check 1 s[j].ty:=⟨_,rfl⟩;rw[<-dr] at a3 A E;obtain⟨rd,df⟩:∃r,r=jG s[j]:=⟨_,rfl⟩;rw[<-df] at E A;obtain⟨fo,c9⟩:∃r,r=(s.take j).any (fun x=>decide (x.name=aj)):=⟨_,rfl⟩;rw[<-c9] at Z A;obtain⟨o,V⟩:∃o,o=wr.alloc (wx #[qj aj,O C k,F bk bj bi,qz b7,O C bq,O C bp,sq ux bl,qj bN,F bv bs bn] 104):=⟨_,rfl⟩;have eg:I (N wr.1.size wr o):=(by rw[V];exact gQy);have eb:I (o.cell? ⟨wr.1.size,0,U⟩=Y (qj aj)∧o.cell? ⟨wr.1.size,1,U⟩=Y (O C k)∧o.cell? ⟨wr.1.size,2,U⟩=Y (F bk bj bi)∧o.cell? ⟨wr.1.size,3,U⟩=Y (qz b7)∧o.cell? ⟨wr.1.size,4,U⟩=Y (O C bq)∧o.cell? ⟨wr.1.size,5,U⟩=Y (O C bp)∧o.cell? ⟨wr.1.size,6,U⟩=Y (sq ux bl)∧o.cell? ⟨wr.1.size,7,U⟩=Y (qj bN)∧o.cell? ⟨wr.1.size,8,U⟩=Y (F bv bs bn)):=(by rw[V];refine⟨?_,?_,?_,?_,?_,?_,?_,?_,?_⟩ <;> simp);have a2:I (N w.1.size w o):=cd.out.trans (eg.out.mono cd.out.size)
      have a7:I (o.ownsMap AE 9 (plainElem AE 3) w.1.size j D):=(by rw[V];exact cn.out.alloc _);have fi:wr.1.size<o.1.size:=(by rw[V];simp);have cq:=gQq V;clear c6 cy dj dr df c9 b8 ds be b6 V J cn;go_wp2_with fail;rw[<-cq.out];clear cq cr ew ez cs eC eL e0 e1 e2;refine(a6.out _).mono ?_;rintro e aw ⟨rfl,du⟩;rw[du];clear du aw a6;cases fq with
      |false=>
        have bX:I (R=70):=(by show _=_;rw[K.out,A.out];rfl);go_wp2;go_ret;exact⟨by rw[bX.out];rfl,a2.out⟩
      |true=>
        obtain⟨c0,c1,c2,c3,c4,ct,cu,cv,cw⟩:=eb.out;cases fo with
        |true=>
          have bX:I (R=71):=(by show _=_;rw[K.out,A.out];rfl);go_wp2_with (first | (at_lookup;refine wpList_lookup_own_ok_int _ rfl _ _ 188 rfl 9 3 C rG underlying188 underlying3 (pV _) w.1.size j D rfl a7.out _ _ rfl ab.out ?_;intro e3 b3 b9;rw[Z.out];clear b3 b9));go_ret;exact⟨by rw[bX.out];rfl,a2.out⟩
        |false=>
          go_wp2_with (first
            | (at_lookup;refine wpList_lookup_own_ok_int _ rfl _ _ 188 rfl 9 3 C rG underlying188 underlying3 (pV _) w.1.size j D rfl a7.out _ _ rfl ab.out ?_;intro e3 b3 b9;rw[Z.out];clear b3 b9)
            | (at_mapUpdate;refine wpList_mapUpdate_own _ rfl _ _ _ 188 rfl 9 3 rG underlying188 _ w.1.size j D rfl a7.out (by unfold maxLen;omega) _ _ _ rfl rfl ab.out _ [] (plainElem_int underlying3 (WalkArith.wf_i64 (by omega))) ?_;intro w1 c8 b5
               have ck:=gQq c8;have cj:=gQq b5;have c7:¬wr.1.size=w.1.size:=(by have:=en.out;omega);have hblk:w1.1[wr.1.size]?=o.1[wr.1.size]?:=b5.block _ fi (fun e9=>c7 (by injection e9));have d1:w1.cell? ⟨wr.1.size,0,U⟩=Y (qj aj):=(World.cell?_of_block (w:=o) hblk).trans c0;have d2:w1.cell? ⟨wr.1.size,1,U⟩=Y (O C k):=(World.cell?_of_block (w:=o) hblk).trans c1;have d3:w1.cell? ⟨wr.1.size,2,U⟩=Y (F bk bj bi):=(World.cell?_of_block (w:=o) hblk).trans c2;have d4:w1.cell? ⟨wr.1.size,3,U⟩=Y (qz b7):=(World.cell?_of_block (w:=o) hblk).trans c3;have d5:w1.cell? ⟨wr.1.size,4,U⟩=Y (O C bq):=(World.cell?_of_block (w:=o) hblk).trans c4;have d6:w1.cell? ⟨wr.1.size,5,U⟩=Y (O C bp):=(World.cell?_of_block (w:=o) hblk).trans ct;have d7:w1.cell? ⟨wr.1.size,6,U⟩=Y (sq ux bl):=(World.cell?_of_block (w:=o) hblk).trans cu;have d8:w1.cell? ⟨wr.1.size,7,U⟩=Y (qj bN):=(World.cell?_of_block (w:=o) hblk).trans cv;have d9:w1.cell? ⟨wr.1.size,8,U⟩=Y (F bv bs bn):=(World.cell?_of_block (w:=o) hblk).trans cw;clear c0 c1 c2 c3 c4 ct cu cv cw c8 b5 hblk c7))
          have bO:I (N w.1.size w w1):=a2.out.grown cj.out a2.out.size (fun k c5=>by injection c5 with c5;omega);have a5:I (cR w1 w.1.size (j+1) (s.take (j+1))):=by
            rw[co.out];exact⟨_,ck.out,b1.out _⟩
          have bT:=gQq (a3.out w1 bO.out);clear a3 ck b1 a7 Z ab co cj;go_wp2_with fail;refine bT.out.mono ?_;rintro e aw ⟨rfl,y⟩;have a1:I (N w.1.size w aw):=bO.out.trans (y.mono bO.out.size);have b0:I (cR aw w.1.size (j+1) (s.take (j+1))):=a5.out.keep (y.block _ a5.out.lt);by_cases S:ak=0
          · have e8:((ak:Int) != 0)=false:=ca (by omega);have z0:=ae y d1;have z1:=ae y d2;have z2:=ae y d3;have z3:=ae y d4;have z4:=ae y d5;have fs:=ae y d6;have fv:=ae y d7;have fx:=ae y d8;have fy:=ae y d9;have ci:=gQq (E.out aw a1.out S);clear d1 d2 d3 d4 d5 d6 d7 d8 d9 y bT E a5;have a4:I (Sch.colErr (s.take j) s[j]=rd):=by
              show _=_;rw[A.out,S];rfl
            clear A S;go_wp2_with fail;refine ci.out.mono ?_;rintro e ea ⟨rfl,b4⟩;have cc:I (N w.1.size w ea):=a1.out.trans (b4.mono a1.out.size);have eq:I (cR ea w.1.size (j+1) (s.take (j+1))):=b0.out.keep (b4.block _ b0.out.lt);clear b4 z0 z1 z2 z3 z4 fs fv fx fy ci b0;by_cases bc:rd=0
            · have e7:((rd:Int) != 0)=false:=ca (by omega);have ah:I (R=Sch.colsErr (s.take (j+1)) (s.drop (j+1))):=(by show _=_;rw[K.out,a4.out,AG bc]);clear bc K a4;go_wp2;go_roundw;case rel=>exact⟨j+1,by omega,by go_num,cc.out,eq.out,ah.out⟩
              case measure=>simp[intOf];omega
            · have e7:((rd:Int) != 0)=true:=cE (by omega);have ah:I (R=rd):=(by show _=_;rw[K.out,a4.out,AF bc]);clear bc K a4;go_wp2;go_ret;exact⟨by rw[ah.out];rfl,cc.out⟩
          · have e8:((ak:Int) != 0)=true:=cE (by omega);have ah:I (R=ak):=by
              show _=_;have e4:Sch.colErr (s.take j) s[j]=ak:=(by rw[A.out,AF (by decide),AF (by decide),AG S]);rw[K.out,e4,AF S]
            clear S y bT E a5 A K;go_wp2;go_ret;exact⟨by rw[ah.out];rfl,a1.out⟩
    · have el:=gQq J.out.1;have em:I (R=0):=(by show _=_;rw[J.out.2.2,List.drop_eq_nil_of_le (by omega)];rfl);have f3:¬(j:Int)<(s.length:Int):=(by omega);clear J ai;go_wp2;go_ret;exact⟨by rw[em.out];rfl,el.out⟩
end
end Go.Proofs.YtngmnfdaedlodaaGreatDoor

import Derived.Test.YtngmnfdaedlodaaGreatDoorB09
set_option maxRecDepth 100000
set_option maxHeartbeats 4000000
namespace Go.Proofs.YtngmnfdaedlodaaGreatDoor
open Go.Proofs.Tryz
open Go.RowKit renaming Hid->I,Below->N
open Option renaming none->U,some->Y
open Go.Value renaming int->O,slice->F,string->mI,agg->nx,bool->mx,float->ox
open Go.IntKind renaming i64->C
open Go.Proofs.Tryz renaming prog->AW
open Go renaming World->wv,Calls->AZ
open Go.Ending renaming returned->qz
open Go.FloatKind renaming f64->qq
open Bool renaming false->wx,true->ux
open Go.Obj renaming cells->qj
variable{M n:Nat}{w:wv}{l:List Col}
section
open Go.RowKit
theorem mS(k:Int)(w:wv):AZ AW 173 #[O C k] w fun e w'=>e=qz (O C (Ty.want k:Nat))∧w'=w:=by
 by_cases o:k=6
 ·have D:(k==6)=true:=dq o;have y:I (Ty.want k=1):=by show _=_;unfold Ty.want;rw[AK (.inl o)]
  clear o;go_enter func173,ntmps173;go_wp2;go_ret;exact⟨by rw[y.out];rfl,rfl⟩
 have D:(k==6)=false:=bf o;by_cases A:k=7
 ·have E:(k==7)=true:=dq A;have y:I (Ty.want k=1):=by show _=_;unfold Ty.want;rw[AK (.inr A)]
  clear o A;go_enter func173,ntmps173;go_wp2;go_ret;exact⟨by rw[y.out];rfl,rfl⟩
 have E:(k==7)=false:=bf A;have y:I (Ty.want k=0):=by show _=_;unfold Ty.want;rw[AJ (by omega)]
 clear o A;go_enter func173,ntmps173;go_wp2;go_ret;exact⟨by rw[y.out];rfl,rfl⟩
theorem lO:∀(x:Ty) (d:Nat) (w:wv) (u:AV),d<=5->aL w u x->AZ AW 145 #[nx u,O C d] w fun e w'=>e=qz (O C (Ty.check d x:Nat))∧N w.1.size w w':=by
 intro x;refine Ty.ind (P:=fun x=>∀(d:Nat) (w:wv) (u:AV),d<=5->aL w u x->AZ AW 145 #[nx u,O C d] w fun e w'=>e=qz (O C (Ty.check d x:Nat))∧N w.1.size w w') ?_ x;rintro k xs J d w u hd a5;obtain⟨p,c,rfl,bv,bs,E⟩:=a5.open;unfold ar;have aw:N w.1.size w (w.alloc (qj #[O C k,F p xs.length c] 99)):=gQy;have HB1:=gQq aw;clear aw a5;obtain⟨R,X⟩:∃R,R=Ty.check d (.mk k xs):=⟨_,rfl⟩;have o:=gQq (X.trans (Ty.check_mk d k xs));rw[<-X];clear X;by_cases D:4<d
 ·have bb:(4:Int)<(d:Int):=by omega
  have A:I (R=62):=by show _=_;rw[o.out,AK D]
  clear J E o;go_enter func145,ntmps145;go_wp2;go_ret;exact⟨by rw[A.out];rfl,HB1.out⟩
 have bb:¬(4:Int)<(d:Int):=by omega
 by_cases L:k<1
 ·have A:I (R=60):=by show _=_;rw[o.out,AJ D,AK (by omega)]
  have bj:decide (k<1)=true:=AE L;clear J E o;go_enter func145,ntmps145;go_wp2_with fail;go_quiet (fail);go_wp2;go_ret;exact⟨by rw[A.out];rfl,below_drewN HB1.out _⟩
 have bj:decide (k<1)=false:=AD L;by_cases ak:7<k
 ·have A:I (R=60):=by show _=_;rw[o.out,AJ D,AK (by omega)]
  have bk:decide (7<k)=true:=AE ak;clear J E o;go_enter func145,ntmps145;go_wp2_with fail;go_quiet (fail);go_wp2;go_ret;exact⟨by rw[A.out];rfl,below_drewN HB1.out _⟩
 have bk:decide (7<k)=false:=AD ak;have K:I (∀w,AZ AW 173 #[O C k] w fun e w'=>e=qz (O C (Ty.want k:Nat))∧∃n,w'=w.drewN n):=fun w=>(mS k w).mono fun _ _ ⟨D,L⟩=>⟨D,0,L⟩;obtain⟨n,ab⟩:∃n,n=Ty.want k:=⟨_,rfl⟩;have V:=gQq ab;rw[<-ab] at K o;clear ab;by_cases Q:xs.length=n
 ·have bc:((xs.length:Int) != (n:Int))=false:=bZ (by omega);by_cases Z:xs.length=0
  ·have be:((xs.length:Int)==0)=true:=dq (by omega);have A:I (R=0):=by
    show _=_;have bi:xs=[]:=List.eq_nil_of_length_eq_zero Z;subst bi;rw[o.out,AJ D,AJ (by omega)];rfl
   clear J E o Z Q;go_enter func145,ntmps145;go_wp2_with fail;go_quiet (first | (go_at_call 173;exact Calls.quiet_of (K.out _)));go_wp2;go_ret;exact⟨by rw[A.out];rfl,below_drewN HB1.out _⟩
  ·have be:((xs.length:Int)==0)=false:=bf (by omega);have a3:xs.length=1:=by
    have:=V.out;unfold Ty.want at this;split at this <;> omega
   have aj:I (∀j (bp:j<xs.length),∃a6,aL w a6 xs[j]∧gQ w p j a6):=E;have ah:=gQq J;obtain⟨b0,a4,a2⟩:=aj.out 0 (by omega);obtain⟨bx,bT,bN,bX,bO,bn,rfl,_,rfl,a8,a9⟩:=(a2.on HB1.out).lies;rw[Nat.zero_mul,Nat.add_zero] at a8 a9;have a0:R=Ty.check (d+1) (xs[0]'(by omega)):=by
    obtain⟨y,rfl⟩:=List.length_eq_one_iff.1 a3;rw[o.out];have:=Ty.check_one d k y D (by omega) (by rw[<-V.out];simp at Q;omega);rw[Ty.check_mk,<-V.out] at this;exact this
   have S:=gQq (fun n=>ah.out _ (AL (by omega:0<xs.length)) (d+1) _ _ (by omega) (a4.on (below_drewN HB1.out n)));rw[<-a0] at S;unfold ar at S;have bq:(0:Int)<(xs.length:Int):=(by omega);clear a0 aj ah a4 a2 o J E a3 Z Q;go_enter func145,ntmps145;go_wp2_with fail;go_quiet (first | (go_at_call 173;exact Calls.quiet_of (K.out _)));go_wp2_with fail;refine(S.out nq).mono ?_;rintro e b1 ⟨rfl,a1⟩;have a7:=gQq ((below_drewN HB1.out nq).trans (a1.mono (below_drewN HB1.out nq).size));clear a1;go_wp2;go_ret;exact⟨rfl,a7.out⟩
 ·have bc:((xs.length:Int) != (n:Int))=true:=cE (by omega);have A:I (R=60):=by show _=_;rw[o.out,AJ D,AK (by omega)]
  clear J E o Q;go_enter func145,ntmps145;go_wp2_with fail;go_quiet (first | (go_at_call 173;exact Calls.quiet_of (K.out _)));go_wp2;go_ret;exact⟨by rw[A.out];rfl,below_drewN HB1.out _⟩
theorem jI(x:Ty)(w:wv)(u:AV)(h:aL w u x):AZ AW 112 #[nx u] w fun e w'=>e=qz (O C (Ty.check 1 x:Nat))∧N w.1.size w w':=by
 obtain⟨k,xs⟩:=x;obtain⟨p,c,rfl,-⟩:=h.open;have A:N w.1.size w (w.alloc (qj (ar k p xs.length c) 99)):=gQy;have o:=gQq A;have y:=gQq (lO _ 1 _ _ (by omega) (h.on A));clear A h;obtain⟨R,D⟩:∃R,R=Ty.check 1 (.mk k xs):=⟨_,rfl⟩;rw[<-D] at y ⊢;clear D;unfold ar at y o ⊢;go_enter func112,ntmps112;go_wp2_with fail;refine y.out.mono ?_;rintro e K ⟨rfl,E⟩;have J:=gQq (o.out.trans (E.mono o.out.size));clear E;go_wp2;go_ret;exact⟨rfl,J.out⟩
def dig(c:UInt8):Bool:=decide (48<=c.toNat∧c.toNat<=57)
theorem xw(c:UInt8):Sch.ch c=(Sch.low c||dig c||decide (c.toNat=95)):=rfl
theorem kG(c:UInt8)(w:wv):AZ AW 143 #[O .u8 c.toNat] w fun e w'=>e=qz (mx (Sch.low c))∧w'=w:=by
 by_cases y:c.toNat<97
 ·have D:¬(97:Int)<=(c.toNat:Int):=by omega
  have E:(c.toNat:Int)<97:=by omega
  have o:I (Sch.low c=wx):=by show _=_;unfold Sch.low;rw[AD (by omega)]
  clear y;go_enter func143,ntmps143;go_wp2;go_ret;exact⟨by rw[o.out];rfl,rfl⟩
 have D:(97:Int)<=(c.toNat:Int):=by omega
 have E:¬(c.toNat:Int)<97:=by omega
 by_cases A:c.toNat<=122
 ·have J:(c.toNat:Int)<=122:=by omega
  have K:¬(122:Int)<(c.toNat:Int):=by omega
  have o:I (Sch.low c=ux):=by show _=_;unfold Sch.low;rw[AE (by omega)]
  clear y A;go_enter func143,ntmps143;go_wp2;go_ret;exact⟨by rw[o.out];rfl,rfl⟩
 ·have J:¬(c.toNat:Int)<=122:=by omega
  have K:(122:Int)<(c.toNat:Int):=by omega
  have o:I (Sch.low c=wx):=by show _=_;unfold Sch.low;rw[AD (by omega)]
  clear y A;go_enter func143,ntmps143;go_wp2;go_ret;exact⟨by rw[o.out];rfl,rfl⟩
theorem ud(c:UInt8)(w:wv):AZ AW 144 #[O .u8 c.toNat] w fun e w'=>e=qz (mx (dig c))∧w'=w:=by
 by_cases y:c.toNat<48
 ·have D:¬(48:Int)<=(c.toNat:Int):=by omega
  have E:(c.toNat:Int)<48:=by omega
  have o:I (dig c=wx):=by show _=_;unfold dig;rw[AD (by omega)]
  clear y;go_enter func144,ntmps144;go_wp2;go_ret;exact⟨by rw[o.out];rfl,rfl⟩
 have D:(48:Int)<=(c.toNat:Int):=by omega
 have E:¬(c.toNat:Int)<48:=by omega
 by_cases A:c.toNat<=57
 ·have J:(c.toNat:Int)<=57:=by omega
  have K:¬(57:Int)<(c.toNat:Int):=by omega
  have o:I (dig c=ux):=by show _=_;unfold dig;rw[AE (by omega)]
  clear y A;go_enter func144,ntmps144;go_wp2;go_ret;exact⟨by rw[o.out];rfl,rfl⟩
 ·have J:¬(c.toNat:Int)<=57:=by omega
  have K:(57:Int)<(c.toNat:Int):=by omega
  have o:I (dig c=wx):=by show _=_;unfold dig;rw[AD (by omega)]
  clear y A;go_enter func144,ntmps144;go_wp2;go_ret;exact⟨by rw[o.out];rfl,rfl⟩
theorem xh(t:ByteArray)(w:wv):AZ AW 111 #[mI t] w fun e w'=>e=qz (mx (Sch.name t))∧w'=w:=by
 by_cases X:t.size=0
 ·have a2:((t.size:Int)==0)=true:=dq (by omega);have y:=gQq (jr (t:=t) (.inl (by omega)));clear X;go_enter func111,ntmps111;go_wp2;go_ret;exact⟨by rw[y.out];rfl,rfl⟩
 have a2:((t.size:Int)==0)=false:=bf (by omega);by_cases Z:16<t.size
 ·have a3:(16:Int)<(t.size:Int):=by omega
  have y:=gQq (jr (t:=t) (.inr Z));clear X Z;go_enter func111,ntmps111;go_wp2;go_ret;exact⟨by rw[y.out];rfl,rfl⟩
 have a3:¬(16:Int)<(t.size:Int):=by omega
 have a4:0<t.size:=by omega
 have bi:(0:Int)<(t.size:Int):=by omega
 have D:=gQq (kG t[0]);by_cases E:Sch.low t[0]=wx
 ·have y:=gQq (rj a4 E);rw[E] at D;clear E X Z;go_enter func111,ntmps111;go_wp2_with fail;refine(D.out _).mono ?_;rintro e ah ⟨rfl,rfl⟩;go_wp2;go_ret;exact⟨by rw[y.out];rfl,rfl⟩
 have Q:Sch.low t[0]=true:=by simpa using E
 have aj:=gQq Q;rw[Q] at D;have ak:I (Sch.ch t[0]=ux):=by show _=_;rw[xw,Q];rfl
 clear E Q;go_enter func111,ntmps111;go_wp2_with fail;refine(D.out _).mono ?_;rintro e ah ⟨rfl,rfl⟩;clear D;go_wp2_with fail;go_loop [3] (fun ab=>∃a:Nat,1<=a∧a<=t.size∧ab=O C a∧I (∀j (h:j<t.size),j<a->Sch.ch t[j]=ux)) (fun ab=>t.size-(intOf ab).toNat);case atStart=>exact⟨1,by omega,by omega,rfl,fun j _ a7=>by
  have a5:j=0:=by omega
  subst a5
  exact ak.out⟩
 case round=>
  obtain⟨a,bk,bj,rfl,K⟩:=hrel;by_cases a9:a<t.size
  ·have bn:(a:Int)<(t.size:Int):=(by omega);have S:=gQq (kG t[a]);have L:=gQq (ud t[a]);have A:=gQq (xw t[a]);obtain⟨bc,aw⟩:∃r,r=Sch.low t[a]:=⟨_,rfl⟩;obtain⟨be,a0⟩:∃r,r=dig t[a]:=⟨_,rfl⟩;rw[<-aw] at S A;rw[<-a0] at L A;clear aw a0;have V:I (Sch.ch t[a]=ux->∀j (h:j<t.size),j<a+1->Sch.ch t[j]=ux):=fun a6 j h a7=>by
    by_cases a8:j=a
    ·subst a8;exact a6
    ·exact K.out j h (by omega)
   have a1:=gQq (tG (t:=t) a a9);clear K aj ak;go_wp2_with fail;refine(S.out _).mono ?_;rintro e ah ⟨rfl,rfl⟩;clear S;cases bc with
   |true=>
    have o:I (Sch.ch t[a]=ux):=(by show _=_;rw[A.out];rfl);clear L;go_wp2;go_round;case rel=>exact⟨a+1,by omega,by omega,by go_num,V.out o.out⟩
    case measure=>simp[intOf];omega
   |false=>
    go_wp2_with fail;refine(L.out _).mono ?_;rintro e ah ⟨rfl,rfl⟩;clear L;cases be with
    |true=>
     have o:I (Sch.ch t[a]=ux):=(by show _=_;rw[A.out];rfl);go_wp2;go_round;case rel=>exact⟨a+1,by omega,by omega,by go_num,V.out o.out⟩
     case measure=>simp[intOf];omega
    |false=>
     by_cases J:t[a].toNat=95
     ·have bb:((t[a].toNat:Int) != 95)=false:=(by rw[J];rfl);have o:I (Sch.ch t[a]=ux):=(by show _=_;rw[A.out,AE J];rfl);clear J;go_wp2;go_round;case rel=>exact⟨a+1,by omega,by omega,by go_num,V.out o.out⟩
      case measure=>simp[intOf];omega
     ·have bb:((t[a].toNat:Int) != 95)=true:=(by rw[bne_iff_ne];omega);have o:I (Sch.ch t[a]=wx):=(by show _=_;rw[A.out,AD J];rfl);clear J;go_wp2;go_ret;exact⟨by rw[a1.out o.out];rfl,rfl⟩
  ·have y:=gQq (rk (t:=t) (by omega) (by omega) aj.out (fun j h=>K.out j h (by omega)));have bl:¬(a:Int)<(t.size:Int):=(by omega);clear K;go_wp2;go_ret;exact⟨by rw[y.out];rfl,rfl⟩
end
section
open Go.RowKit
theorem qM:∀(x y:Ty) (w:wv) (u v:AV),aL w u x->aL w v y->AZ AW 131 #[nx u,nx v] w fun e w'=>e=qz (mx (Ty.same x y))∧N w.1.size w w':=by
 intro x;refine Ty.ind (P:=fun x=>∀(y:Ty) (w:wv) (u v:AV),aL w u x->aL w v y->AZ AW 131 #[nx u,nx v] w fun e w'=>e=qz (mx (Ty.same x y))∧N w.1.size w w') ?_ x;rintro k xs a7 ⟨k',o⟩ w u v cj ck;obtain⟨p,c,rfl,dr,dj,a5⟩:=cj.open;obtain⟨q,d,rfl,du,ds,a6⟩:=ck.open;unfold ar;obtain⟨A,a2⟩:∃A,A=(w.alloc (qj #[O C k,F p xs.length c] 99)).alloc (qj #[O C k',F q o.length d] 99):=⟨_,rfl⟩;have ah:I (N w.1.size w A):=by rw[a2];exact gQy.alloc (by simp) _
 have cq:I (A.cell? ⟨w.1.size,1,U⟩=Y (F p xs.length c)∧A.cell? ⟨w.1.size+1,1,U⟩=Y (F q o.length d)):=by rw[a2];exact⟨by simp,by simp⟩
 have a0:=gQq a2;clear a2 cj ck;by_cases h1:¬k=k'
 ·have cu:=cE h1;have L:I (Ty.same (.mk k xs) (.mk k' o)=wx):=by show _=_;simp[Ty.same_mk,h1]
  clear a7 a5 a6 h1;go_enter func131,ntmps131;go_wp2;rw[<-a0.out];go_ret;exact⟨by rw[L.out];rfl,ah.out⟩
 replace h1:k=k':=Classical.not_not.1 h1
 have cu:=bZ h1;by_cases S:¬xs.length=o.length
 ·have cv:((xs.length:Int) != (o.length:Int))=true:=cE (by omega);have L:I (Ty.same (.mk k xs) (.mk k' o)=wx):=by show _=_;simp[Ty.same_mk,Ty.sameL_ne xs o S]
  clear a7 a5 a6 h1 S;go_enter func131,ntmps131;go_wp2;rw[<-a0.out];go_ret;exact⟨by rw[L.out];rfl,ah.out⟩
 replace S:xs.length=o.length:=Classical.not_not.1 S
 have cv:((xs.length:Int) != (o.length:Int))=false:=bZ (by omega);have L:I (Ty.same (.mk k xs) (.mk k' o)=Ty.sameL xs o):=by show _=_;simp[Ty.same_mk,h1]
 have cp:I (∀j (cb:j<xs.length),∃Z,aL w Z xs[j]∧gQ w p j Z):=a5;have cr:I (∀j (cb:j<o.length),∃Z,aL w Z o[j]∧gQ w q j Z):=a6;have cn:=gQq a7;have bN:=gQq S;clear a7 a5 a6 h1 S;go_enter func131,ntmps131;go_wp2_with fail;rw[<-a0.out];clear a0;go_loopw [24] (fun bv wr=>∃j:Nat,j<=xs.length∧bv=O C j∧I (N A.1.size A wr∧∀m (h1:m<xs.length) (X:m<o.length),m<j->Ty.same xs[m] o[m]=ux)) (fun bv _=>xs.length-(intOf bv).toNat);case atStart=>exact⟨0,by omega,rfl,gQz,fun m _ _ h=>by omega⟩
 case round=>
  obtain⟨j,cb,rfl,E⟩:=hrel;have K:N w.1.size w wr:=ah.out.trans (E.out.1.mono ah.out.size);by_cases a3:j<xs.length
  ·have cc:j<o.length:=(by have:=bN.out;omega);obtain⟨d0,cd,b8⟩:=cp.out j a3;obtain⟨d1,ci,b9⟩:=cr.out j cc;obtain⟨bx,dv,a8,bb,a9,a1,rfl,_,rfl,cs,ct⟩:=(b8.on K).lies;obtain⟨Q,V,bp,bs,bq,bl,rfl,_,rfl,b2,b3⟩:=(b9.on K).lies
   have aw:I (∀w',N w.1.size w w'->AZ AW 131 #[nx #[O C a8,F bb a9 a1],nx #[O C bp,F bs bq bl]] w' fun e cx=>e=qz (mx (Ty.same xs[j] o[j]))∧N w'.1.size w' cx) :=
    fun w' hb=>cn.out _ (AL a3) o[j] w' _ _ (cd.on hb) (ci.on hb)
   have bc:=gQq E.out.2;have c7:(j:Int)<(xs.length:Int):=(by omega);have c8:(j:Int)<(o.length:Int):=(by omega);obtain⟨r,bn⟩:∃r,r=Ty.same xs[j] o[j]:=⟨_,rfl⟩;rw[<-bn] at aw;have bX:=gQq bn;obtain⟨D,a4⟩:∃D,D=wr.alloc (qj #[O C a8,F bb a9 a1] 99):=⟨_,rfl⟩;have ak:I (N wr.1.size wr D):=(by rw[a4];exact gQy);have bi:I (N w.1.size w D):=K.trans (ak.out.mono K.size);have be:I (N A.1.size A D):=E.out.1.trans (ak.out.mono E.out.1.size);have b0:=gQq a4;have b1:I (D.cell? ⟨w.1.size+1,1,U⟩=Y (F (Y ⟨Q,V,U⟩) o.length d)):=ae be.out cq.out.2;have bT:I (D.cell? ⟨Q,V+j*2,U⟩=Y (O C bp)∧D.cell? ⟨Q,V+j*2+1,U⟩=Y (F bs bq bl)):=⟨ae ak.out b2,ae ak.out b3⟩;have bO:I (D.cell? ⟨wr.1.size,0,U⟩=Y (O C a8)∧D.cell? ⟨wr.1.size,1,U⟩=Y (F bb a9 a1)):=(by rw[a4];exact⟨by simp,by simp⟩);clear cd ci b8 b9 K E bn a4 b2 b3;go_wp2_with fail;rw[<-b0.out];obtain⟨c0,c1⟩:=bO.out;obtain⟨b4,b5⟩:=bT.out;have b6:=b1.out;clear bO bT b1 b0 cs ct
   go_region_held3 (fun w'=>w'.cell? ⟨wr.1.size,0,U⟩=Y (O C a8)∧w'.cell? ⟨wr.1.size,1,U⟩=Y (F bb a9 a1)∧w'.cell? ⟨Q,V+j*2,U⟩=Y (O C bp)∧w'.cell? ⟨Q,V+j*2+1,U⟩=Y (F bs bq bl)∧w'.cell? ⟨w.1.size+1,1,U⟩=Y (F (Y ⟨Q,V,U⟩) o.length d)) (go_keep) (first|(go_at_call 131;refine(aw.out _ (below_drewN bi.out _)).mono ?_;rintro e w4 ⟨rfl,b7⟩;have J:=dY (w:=D) b7 (by rfl) (by rfl) (by rfl) (by rfl);have z3:=ae J c0;have z4:=ae J c1;have cy:=ae J b4;have c5:=ae J b5;have c6:=ae J b6;have aj:=gQq J;clear b7 J))
   clear z3 z4 cy c5 c6 c0 c1 b4 b5 b6;cases r with
   |true=>
    have co:I (N A.1.size A w4∧∀m (h1:m<xs.length) (X:m<o.length),m<j+1->Ty.same xs[m] o[m]=ux):=by
     refine⟨be.out.trans (aj.out.mono be.out.size),fun m h1 X df=>?_⟩;by_cases cw:m=j
     ·subst cw;exact bX.out.symm
     ·exact bc.out m h1 X (by omega)
    clear aj bc aw;go_wp2;go_roundw;case rel=>exact⟨j+1,by omega,by go_num,co⟩
    case measure=>simp[intOf];omega
   |false=>
    have bk:I (Ty.sameL xs o=wx):=Ty.sameL_at xs o j a3 cc bX.out.symm;have bj:=gQq (bi.out.trans (aj.out.mono bi.out.size));clear aj bc aw;go_wp2;go_ret;exact⟨by rw[L.out,bk.out];rfl,bj.out⟩
  ·have bk:I (Ty.sameL xs o=ux):=Ty.sameL_all xs o bN.out (fun m h1 X=>E.out.2 m h1 X (by omega));have bj:=gQq K;have c9:¬(j:Int)<(xs.length:Int):=(by omega);clear E K a3;go_wp2;go_ret;exact⟨by rw[L.out,bk.out];rfl,bj.out⟩
end
section
open Go.RowKit
attribute [local go_sem] ai
theorem xq:∀(x:V) (L:Ty) (d:Nat) (w:wv) (u v:AV),chk d x=0->Ty.check d L=0->aJ w u x->aL w v L->AZ AW 147 #[nx u,nx v] w fun e w'=>e=qz (mx (Sch.of x L))∧N w.1.size w w':=by
 intro x;refine V.ind (P:=fun x=>∀(L:Ty) (d:Nat) (w:wv) (u v:AV),chk d x=0->Ty.check d L=0->aJ w u x->aL w v L->AZ AW 147 #[nx u,nx v] w fun e w'=>e=qz (mx (Sch.of x L))∧N w.1.size w w') ?_ x;rintro k i b t xs bT ⟨k',y⟩ d w u v bs hd a2 ct;obtain⟨p,c,rfl,ep,en,bN⟩:=a2.open;obtain⟨q,e,rfl,er,eq,bO⟩:=ct.open;unfold cells5 ar;obtain⟨D,a0⟩:∃D,D=(w.alloc (qj #[O C k,O C i,ox qq b,mI t,F p xs.length c] 102)).alloc (qj #[O C k',F q y.length e] 99):=⟨_,rfl⟩;have bc:I (N w.1.size w D):=by rw[a0];exact gQy.alloc (by simp) _
 have c6:I (D.cell? ⟨w.1.size+1,1,U⟩=Y (F q y.length e)):=by show _=_;rw[a0];simp
 have bl:=gQq a0;clear a0 a2 ct;by_cases A:¬k=k'
 ·have dr:=cE A;have aj:I (Sch.of (.mk k i b t xs) (.mk k' y)=wx):=by show _=_;rw[Sch.of_mk,bf A,Bool.false_and]
  clear bT bN bO A bs hd;go_enter func147,ntmps147;go_wp2;rw[<-bl.out];go_ret;exact⟨by rw[aj.out];rfl,bc.out⟩
 replace A:k=k':=Classical.not_not.1 A
 have dr:=bZ A;have aj:I (Sch.of (.mk k i b t xs) (.mk k' y)=xs.all (fun x=>Sch.of x (Sch.inner (.mk k' y)))):=by show _=_;rw[Sch.of_mk,dq A,Bool.true_and]
 obtain⟨ea,du,cd⟩:=Sch.ty_open hd;obtain⟨-,cq,-,el,-,ci⟩:=Sch.chk_open bs;obtain⟨-,-,-,-,d2,-⟩:=Sch.own_open cq;have c5:I (fK w p xs):=bN;have cw:=gQq bT
 -- what the type is of,where there are items
 have cy:I (0<xs.length->∃z,y=[z]∧Ty.check (d+1) z=0∧Sch.inner (.mk k' y)=z∧∃a9,aL w a9 z∧gQ w q 0 a9):=by
  intro em;rcases cd with ⟨ds,-⟩ | ⟨ds,z,rfl,a3⟩
  ·omega
  ·obtain⟨a9,d0,d1⟩:=bO 0 (by simp);exact⟨z,rfl,a3,rfl,a9,d0,d1⟩
 have cv:=gQq ci;clear bT bN bO bs hd cd du A ci cq d2;go_enter func147,ntmps147;go_wp2_with fail;rw[<-bl.out];clear bl;go_loopw [15] (fun b2 wr=>∃j:Nat,j<=xs.length∧b2=O C j∧I (N D.1.size D wr∧∀m (A:m<xs.length),m<j->Sch.of xs[m] (Sch.inner (.mk k' y))=ux)) (fun b2 _=>xs.length-(intOf b2).toNat);case atStart=>exact⟨0,by omega,rfl,gQz,fun m _ h=>by omega⟩
 case round=>
  obtain⟨j,eb,rfl,J⟩:=hrel;have K:N w.1.size w wr:=bc.out.trans (J.out.1.mono bc.out.size);by_cases X:j<xs.length
  ·obtain⟨ew,cr,ck⟩:=c5.out j X;obtain⟨z,cu,a3,cj,ez,cs,cn⟩:=cy.out (by omega);obtain⟨bx,ev,a5,a4,aw,a8,a7,a6,ak,rfl,_,rfl,c7,c8,c9,df,dj⟩:=(ck.on K).lies;obtain⟨Q,S,bX,b1,b0,bq,rfl,_,rfl,bn,bp⟩:=(cn.on K).lies;rw[Nat.zero_mul,Nat.add_zero] at bn bp;have co:y.length=1:=(by rw[cu];rfl);have ah:I (∀w',N w.1.size w w'->AZ AW 147 #[nx #[O C a5,O C a4,ox qq aw,mI a8,F a7 a6 ak],nx #[O C bX,F b1 b0 bq]] w' fun e d3=>e=qz (mx (Sch.of xs[j] (Sch.inner (.mk k' y))))∧N w'.1.size w' d3):=fun w' hb=>by
    rw[cj];exact cw.out _ (AL X) z (d+1) w' _ _ (cv.out _ (AL X)) a3 (cr.on hb) (cs.on hb)
   have bb:=gQq J.out.2;have ec:(j:Int)<(xs.length:Int):=(by omega);obtain⟨r,bv⟩:∃r,r=Sch.of xs[j] (Sch.inner (.mk k' y)):=⟨_,rfl⟩;rw[<-bv] at ah;have b5:=gQq bv;obtain⟨o,a1⟩:∃o,o=wr.alloc (qj #[O C a5,O C a4,ox qq aw,mI a8,F a7 a6 ak] 102):=⟨_,rfl⟩;have ab:I (N wr.1.size wr o):=(by rw[a1];exact gQy);have bi:I (N w.1.size w o):=K.trans (ab.out.mono K.size);have be:I (N D.1.size D o):=J.out.1.trans (ab.out.mono J.out.1.size);have b6:=gQq a1;have b7:I (o.cell? ⟨w.1.size+1,1,U⟩=Y (F (Y ⟨Q,S,U⟩) 1 e)):=(by have:=ae be.out c6.out;rw[co] at this;exact this);have b4:I (o.cell? ⟨Q,S,U⟩=Y (O C bX)∧o.cell? ⟨Q,S+1,U⟩=Y (F b1 b0 bq)):=⟨ae ab.out bn,ae ab.out bp⟩;have b3:I (o.cell? ⟨wr.1.size,0,U⟩=Y (O C a5)∧o.cell? ⟨wr.1.size,1,U⟩=Y (O C a4)∧o.cell? ⟨wr.1.size,2,U⟩=Y (ox qq aw)∧o.cell? ⟨wr.1.size,3,U⟩=Y (mI a8)∧o.cell? ⟨wr.1.size,4,U⟩=Y (F a7 a6 ak)):=(by rw[a1];exact⟨by simp,by simp,by simp,by simp,by simp⟩);clear cr cs ck cn K J bv cj a3 cu co a1 bn bp;go_wp2_with fail;rw[<-b6.out];obtain⟨c0,c1,c2,c3,c4⟩:=b3.out;obtain⟨b8,b9⟩:=b4.out;have cb:=b7.out;clear b3 b4 b7 b6 c7 c8 c9 df dj
   go_region_held3 (fun w'=>w'.cell? ⟨wr.1.size,0,U⟩=Y (O C a5)∧w'.cell? ⟨wr.1.size,1,U⟩=Y (O C a4)∧w'.cell? ⟨wr.1.size,2,U⟩=Y (ox qq aw)∧w'.cell? ⟨wr.1.size,3,U⟩=Y (mI a8)∧w'.cell? ⟨wr.1.size,4,U⟩=Y (F a7 a6 ak)∧w'.cell? ⟨Q,S,U⟩=Y (O C bX)∧w'.cell? ⟨Q,S+1,U⟩=Y (F b1 b0 bq)∧w'.cell? ⟨w.1.size+1,1,U⟩=Y (F (Y ⟨Q,S,U⟩) 1 e)) (go_keep) (first|(go_at_call 147;refine(ah.out _ (below_drewN bi.out _)).mono ?_;rintro e w4 ⟨rfl,cc⟩;have E:=dY (w:=o) cc (by rfl) (by rfl) (by rfl) (by rfl);have z3:=ae E c0;have z4:=ae E c1;have d5:=ae E c2;have d6:=ae E c3;have d7:=ae E c4;have d8:=ae E b8;have d9:=ae E b9;have d4:=ae E cb;have Z:=gQq E;clear cc E))
   clear z3 z4 d5 d6 d7 d8 d9 d4 c0 c1 c2 c3 c4 b8 b9 cb;cases r with
   |true=>
    have cx:I (N D.1.size D w4∧∀m (A:m<xs.length),m<j+1->Sch.of xs[m] (Sch.inner (.mk k' y))=ux):=by
     refine⟨be.out.trans (Z.out.mono be.out.size),fun m A cp=>?_⟩;by_cases dv:m=j
     ·subst dv;exact b5.out.symm
     ·exact bb.out m A (by omega)
    clear Z bb ah;go_wp2;go_roundw;case rel=>exact⟨j+1,by omega,by go_num,cx⟩
    case measure=>simp[intOf];omega
   |false=>
    have bk:I (xs.all (fun x=>Sch.of x (Sch.inner (.mk k' y)))=wx):=by
     show _=_;rw[List.all_eq_false];exact⟨xs[j],AL X,by rw[<-b5.out];decide⟩
    have bj:=gQq (bi.out.trans (Z.out.mono bi.out.size));clear Z bb ah;go_wp2;go_ret;exact⟨by rw[aj.out,bk.out];rfl,bj.out⟩
  ·have bk:I (xs.all (fun x=>Sch.of x (Sch.inner (.mk k' y)))=ux):=by
    show _=_;rw[List.all_eq_true];intro x a2;obtain⟨m,cp,rfl⟩:=List.getElem_of_mem a2;exact J.out.2 m cp (by omega)
   have bj:=gQq K;have eg:¬(j:Int)<(xs.length:Int):=(by omega);clear J K X;go_wp2;go_ret;exact⟨by rw[aj.out,bk.out];rfl,bj.out⟩
theorem isK(x:V)(y:Ty)(w:wv)(u v:AV)(bc:aJ w u x)(be:aL w v y):AZ AW 193 #[nx u,nx v] w fun e w'=>e=qz (mx (Sch.is x y))∧N w.1.size w w':=by
 obtain⟨k,i,b,t,xs⟩:=x;obtain⟨k',J⟩:=y;obtain⟨p,c,rfl,-⟩:=bc.open;obtain⟨q,e,rfl,-⟩:=be.open;obtain⟨o,a1⟩:∃o,o=(w.alloc (qj (cells5 k i b t p xs.length c) 102)).alloc (qj (ar k' q J.length e) 99):=⟨_,rfl⟩;have Q:I (N w.1.size w o):=by rw[a1];exact gQy.alloc (by simp) _
 have a6:=gQq (bc.on Q.out);have a5:=gQq (be.on Q.out);have bj:=gQq (fun w' (hb:N o.1.size o w')=>jI _ w' _ (a5.out.on hb));have bk:=gQq (fun w' (hb:N o.1.size o w')=>pz _ w' _ (a6.out.on hb));have HI:I (Sch.is (.mk k i b t xs) (.mk k' J)=(decide (Ty.check 1 (.mk k' J)=0)&&decide (chk 1 (.mk k i b t xs)=0)&&Sch.of (.mk k i b t xs) (.mk k' J))):=rfl;have K:=gQq (fun w' (hb:N o.1.size o w') D L=>xq _ _ 1 w' _ _ D L (a6.out.on hb) (a5.out.on hb));have a7:I (o.cell? ⟨w.1.size,0,U⟩=Y (O C k)∧o.cell? ⟨w.1.size,1,U⟩=Y (O C i)∧o.cell? ⟨w.1.size,2,U⟩=Y (ox qq b)∧o.cell? ⟨w.1.size,3,U⟩=Y (mI t)∧o.cell? ⟨w.1.size,4,U⟩=Y (F p xs.length c)∧o.cell? ⟨w.1.size+1,0,U⟩=Y (O C k')∧o.cell? ⟨w.1.size+1,1,U⟩=Y (F q J.length e)):=by rw[a1];exact⟨by simp[cells5],by simp[cells5],by simp[cells5],by simp[cells5],by simp[cells5],by simp[ar],by simp[ar]⟩
 have bl:=gQq a1;obtain⟨R,bn⟩:∃R,R=Sch.is (.mk k i b t xs) (.mk k' J):=⟨_,rfl⟩;rw[<-bn] at HI ⊢;obtain⟨X,a9⟩:∃X,X=Ty.check 1 (.mk k' J):=⟨_,rfl⟩;have bO:=gQq a9;rw[<-a9] at bj HI K;obtain⟨Z,bb⟩:∃Z,Z=chk 1 (.mk k i b t xs):=⟨_,rfl⟩;have bT:=gQq bb;rw[<-bb] at bk HI K;obtain⟨a8,bs⟩:∃a8,a8=Sch.of (.mk k i b t xs) (.mk k' J):=⟨_,rfl⟩;rw[<-bs] at HI K;clear a1 bc be bn a9 bb bs a6 a5;unfold cells5 ar at *
 go_enter func193,ntmps193;go_wp2_with fail;rw[<-bl.out];clear bl;refine(bj.out _ gQz).mono ?_;rintro e w1 ⟨rfl,E⟩;obtain⟨ab,ah,aj,ak,aw,a2,a3⟩:=a7.out;have c0:=ae E ab;have c1:=ae E ah;have c2:=ae E aj;have c3:=ae E ak;have c4:=ae E aw;have a0:=gQq E;have bN:=gQq (Q.out.trans (E.mono Q.out.size));clear ab ah aj ak aw a2 a3 E;by_cases D:X=0
 ·have b2:((X:Int)==0)=true:=dq (by omega);go_wp2_with fail;refine(bk.out w1 a0.out).mono ?_;rintro e b4 ⟨rfl,bp⟩;have A:=gQq (a0.out.trans (bp.mono a0.out.size));have a4:=gQq (Q.out.trans (A.out.mono Q.out.size));clear bp a0 c0 c1 c2 c3 c4;by_cases L:Z=0
  ·have b3:((Z:Int)==0)=true:=dq (by omega);obtain⟨ab,ah,aj,ak,aw,a2,a3⟩:=a7.out;have c0:=ae A.out ab;have c1:=ae A.out ah;have c2:=ae A.out aj;have c3:=ae A.out ak;have c4:=ae A.out aw;have b0:=ae A.out a2;have b1:=ae A.out a3;have S:I (R=a8):=(by show _=_;rw[HI.out,AE D,AE L];rfl);have bX:=gQq (K.out b4 A.out L D);clear ab ah aj ak aw a2 a3 D L HI K a7 bO bT;go_wp2_with fail;refine bX.out.mono ?_;rintro e b5 ⟨rfl,bq⟩;have bv:=gQq (a4.out.trans (bq.mono a4.out.size));clear bq c0 c1 c2 c3 c4 b0 b1;go_wp2;go_ret;exact⟨by rw[S.out];rfl,bv.out⟩
  ·have b3:((Z:Int)==0)=false:=bf (by omega);have S:I (R=wx):=(by show _=_;rw[HI.out,AD L,Bool.and_false,Bool.false_and]);clear D L HI K;go_wp2;go_ret;exact⟨by rw[S.out];rfl,a4.out⟩
 ·have b2:((X:Int)==0)=false:=bf (by omega);have S:I (R=wx):=by show _=_;rw[HI.out,AD D,Bool.false_and,Bool.false_and]
  clear D HI K;go_wp2;go_ret;exact⟨by rw[S.out];rfl,bN.out⟩
end
section
open Go.RowKit
attribute [local go_sem] ai
theorem mG(x y:Col)(w:wv)(u v:AV)(bi:fg w u x)(bj:fg w v y):AZ AW 96 #[nx u,nx v] w fun e w'=>e=qz (mx (Sch.colSame x y))∧N w.1.size w w':=by
 obtain⟨k,cy,cw,cu,bN,bs,bl,b2,b0,bT,bp,rfl,a4,a6⟩:=bi.out;obtain⟨k',c5,cx,cv,bO,bv,bn,b3,b1,bX,bq,rfl,a5,a7⟩:=bj.out;obtain⟨L,aj,has,Z⟩:=x;obtain⟨Q,ak,E,ab⟩:=y;dsimp only at a4 a6 a5 a7;unfold aA;obtain⟨o,a0⟩:∃o,o=(w.alloc (qj #[mI L,O C k,F cy cw cu,mx has,O C bN,O C bs,ox qq bl,mI b2,F b0 bT bp] 104)).alloc (qj #[mI Q,O C k',F c5 cx cv,mx E,O C bO,O C bv,ox qq bn,mI b3,F b1 bX bq] 104):=⟨_,rfl⟩;have D:I (N w.1.size w o):=by rw[a0];exact gQy.alloc (by simp) _
 have a2:I (o.cell? ⟨w.1.size,4,U⟩=Y (O C bN)∧o.cell? ⟨w.1.size,5,U⟩=Y (O C bs)∧o.cell? ⟨w.1.size,6,U⟩=Y (ox qq bl)∧o.cell? ⟨w.1.size,7,U⟩=Y (mI b2)∧o.cell? ⟨w.1.size,8,U⟩=Y (F b0 bT bp)∧o.cell? ⟨w.1.size+1,4,U⟩=Y (O C bO)∧o.cell? ⟨w.1.size+1,5,U⟩=Y (O C bv)∧o.cell? ⟨w.1.size+1,6,U⟩=Y (ox qq bn)∧o.cell? ⟨w.1.size+1,7,U⟩=Y (mI b3)∧o.cell? ⟨w.1.size+1,8,U⟩=Y (F b1 bX bq)):=by rw[a0];refine⟨?_,?_,?_,?_,?_,?_,?_,?_,?_,?_⟩ <;> simp
 have X:=gQq (qM aj ak o _ _ (a4.on D.out) (a5.on D.out));have J:=gQq (fun w' (hb:N o.1.size o w')=>wY Z ab w' _ _ ((a6.on D.out).on hb) ((a7.on D.out).on hb));unfold ar at X;unfold cells5 at J;have A:I (Sch.colSame ⟨L,aj,has,Z⟩ ⟨Q,ak,E,ab⟩=(decide (L=Q)&&(has==E)&&Ty.same aj ak&&V.same Z ab)):=rfl;obtain⟨R,a9⟩:∃R,R=Sch.colSame ⟨L,aj,has,Z⟩ ⟨Q,ak,E,ab⟩:=⟨_,rfl⟩;rw[<-a9] at A ⊢;obtain⟨bk,bc⟩:∃r,r=Ty.same aj ak:=⟨_,rfl⟩;rw[<-bc] at X A;obtain⟨ct,be⟩:∃r,r=V.same Z ab:=⟨_,rfl⟩;rw[<-be] at J A;have aw:=gQq a0;clear a0 a4 a5 a6 a7 bi bj a9 bc be;by_cases K:L=Q
 ·have cs:(L.toList==Q.toList)=true:=by rw[iR,AE K]
  by_cases ah:has=E
  ·have S:I (R=(bk&&ct)):=(by show _=_;rw[A.out,AE K,ah,beq_self_eq_true,Bool.true_and,Bool.true_and]);subst ah;clear K A;have c6:(has==has)=true:=(by simp);go_enter func96,ntmps96;go_wp2_with fail;rw[<-aw.out];clear aw;refine X.out.mono ?_;rintro e w1 ⟨rfl,a3⟩;have HB1:=gQq a3;have a1:=gQq (D.out.trans (a3.mono D.out.size));clear a3 X;cases bk with
   |true=>
    obtain⟨b4,b5,b6,b7,b8,b9,cb,cc,cd,ci⟩:=a2.out;have c0:=ae HB1.out b4;have c1:=ae HB1.out b5;have c2:=ae HB1.out b6;have c3:=ae HB1.out b7;have c4:=ae HB1.out b8;have cn:=ae HB1.out b9;have co:=ae HB1.out cb;have cp:=ae HB1.out cc;have cq:=ae HB1.out cd;have cr:=ae HB1.out ci;have ck:=gQq (J.out w1 HB1.out);clear b4 b5 b6 b7 b8 b9 cb cc cd ci a2 J;go_wp2_with fail;refine ck.out.mono ?_;rintro e c7 ⟨rfl,bb⟩;have cj:=gQq (a1.out.trans (bb.mono a1.out.size));clear bb c0 c1 c2 c3 c4 cn co cp cq cr;go_wp2;go_ret;exact⟨by rw[S.out];rfl,cj.out⟩
   |false=>
    clear J a2;go_wp2;go_ret;exact⟨by rw[S.out];rfl,a1.out⟩
  ·have S:I (R=wx):=by
    show _=_;have hb:(has==E)=false:=by(cases has <;> cases E <;> first | rfl | exact absurd rfl ah)
    rw[A.out,hb,Bool.and_false,Bool.false_and,Bool.false_and]
   clear A K J X;cases has <;> cases E <;> try exact absurd rfl ah
   all_goals
    clear ah;go_enter func96,ntmps96;go_wp2;rw[<-aw.out];go_ret;exact⟨by rw[S.out];rfl,D.out⟩
 ·have cs:(L.toList==Q.toList)=false:=by rw[iR,AD K]
  have S:I (R=wx):=by show _=_;rw[A.out,AD K,Bool.false_and,Bool.false_and,Bool.false_and]
  clear A K J X;go_enter func96,ntmps96;go_wp2;rw[<-aw.out];go_ret;exact⟨by rw[S.out];rfl,D.out⟩
theorem sX(s t:List Col)(p q:OA)(c d:Nat)(w:wv)(fc:s.length*120<=140737488351232)(S:cT w p s)(a8:cT w q t):
  AZ AW 67 #[nx #[F p s.length c],nx #[F q t.length d]] w fun e w'=>e=qz (mx (Sch.same s t))∧N w.1.size w w':=by
 obtain⟨A,a6⟩:∃A,A=(w.alloc (qj #[F p s.length c] 35)).alloc (qj #[F q t.length d] 35):=⟨_,rfl⟩;have bb:I (N w.1.size w A):=by rw[a6];exact gQy.alloc (by simp) _
 have d2:I (A.cell? ⟨w.1.size,0,U⟩=Y (F p s.length c)∧A.cell? ⟨w.1.size+1,0,U⟩=Y (F q t.length d)):=by rw[a6];exact⟨by simp,by simp⟩
 have bj:=gQq a6;have d0:=gQq S;have d1:=gQq a8;clear a6 S a8;by_cases Q:¬s.length=t.length
 ·have ec:((s.length:Int) != (t.length:Int))=true:=cE (by omega);have du:=gQq (mD s t Q);clear Q;go_enter func67,ntmps67;go_wp2;rw[<-bj.out];go_ret;exact⟨by rw[du.out];rfl,bb.out⟩
 replace Q:s.length=t.length:=Classical.not_not.1 Q
 have ec:((s.length:Int) != (t.length:Int))=false:=bZ (by omega);have b4:=gQq Q;clear Q;go_enter func67,ntmps67;go_wp2_with fail;rw[<-bj.out];clear bj;go_loopw [17] (fun bN wr=>∃j:Nat,j<=s.length∧bN=O C j∧I (N A.1.size A wr∧∀m (V:m<s.length) (X:m<t.length),m<j->Sch.colSame s[m] t[m]=ux)) (fun bN _=>s.length-(intOf bN).toNat);case atStart=>exact⟨0,by omega,rfl,gQz,fun m _ _ h=>by omega⟩
 case round=>
  obtain⟨j,e5,rfl,L⟩:=hrel;have K:N w.1.size w wr:=bb.out.trans (L.out.1.mono bb.out.size);by_cases bk:j<s.length
  ·have c6:j<t.length:=(by have:=b4.out;omega);obtain⟨bx,fi,k,ah,ab,Z,a0,aw,aj,a3,a2,a1,ak,rfl,_,ds,c9,dj⟩:=(d0.out.on K).at j bk;obtain⟨D,E,k',bv,bs,bq,b0,bX,bO,b3,b2,b1,bT,rfl,_,bn,df,dr⟩:=(d1.out.on K).at j c6
   have J:I (∀w',N wr.1.size wr w'->AZ AW 96 #[nx (aA s[j].name k ah ab Z s[j].has a0 aw aj a3 a2 a1 ak),nx (aA t[j].name k' bv bs bq t[j].has b0 bX bO b3 b2 b1 bT)] w' fun e em=>e=qz (mx (Sch.colSame s[j] t[j]))∧N w'.1.size w' em) :=
    fun w' hb=>mG s[j] t[j] w' _ _ ⟨k,ah,ab,Z,a0,aw,aj,a3,a2,a1,ak,rfl,c9.on hb,dj.on hb⟩ ⟨k',bv,bs,bq,b0,bX,bO,b3,b2,b1,bT,rfl,df.on hb,dr.on hb⟩
   unfold aA at J;have a9:=gQq L.out.2;have e6:(j:Int)<(s.length:Int):=(by omega);have e7:(j:Int)<(t.length:Int):=(by omega);obtain⟨r,bl⟩:∃r,r=Sch.colSame s[j] t[j]:=⟨_,rfl⟩;rw[<-bl] at J;have b9:=gQq bl;clear bl c9 dj df dr;have b6:=gQq L.out.1;clear L;obtain⟨bp,c7⟩:∃n,n=s[j].name:=⟨_,rfl⟩;obtain⟨S,cy⟩:∃n,n=s[j].has:=⟨_,rfl⟩;obtain⟨el,c8⟩:∃n,n=t[j].name:=⟨_,rfl⟩;obtain⟨a8,c5⟩:∃n,n=t[j].has:=⟨_,rfl⟩;rw[<-c7,<-cy] at ds J;rw[<-c8,<-c5] at bn J;clear c7 cy c8 c5;obtain⟨d3,d4,d5,d6,d7,d8,d9,ea,eb⟩:=ds;obtain⟨y,a7⟩:∃y,y=wr.alloc (qj #[mI bp,O C k,F ah ab Z,mx S,O C a0,O C aw,ox qq aj,mI a3,F a2 a1 ak] 104):=⟨_,rfl⟩;have a5:I (N wr.1.size wr y):=(by rw[a7];exact gQy);have b8:I (N w.1.size w y):=K.trans (a5.out.mono K.size);have bc:I (N A.1.size A y):=b6.out.trans (a5.out.mono b6.out.size);have cb:=gQq a7;have cc:I (y.cell? ⟨w.1.size+1,0,U⟩=Y (F (Y ⟨D,E,U⟩) t.length d)):=ae bc.out d2.out.2;have b7:=gQq (bn.on a5.out);have b5:I (y.cell? ⟨wr.1.size,0,U⟩=Y (mI bp)∧y.cell? ⟨wr.1.size,1,U⟩=Y (O C k)∧y.cell? ⟨wr.1.size,2,U⟩=Y (F ah ab Z)∧y.cell? ⟨wr.1.size,3,U⟩=Y (mx S)∧y.cell? ⟨wr.1.size,4,U⟩=Y (O C a0)∧y.cell? ⟨wr.1.size,5,U⟩=Y (O C aw)∧y.cell? ⟨wr.1.size,6,U⟩=Y (ox qq aj)∧y.cell? ⟨wr.1.size,7,U⟩=Y (mI a3)∧y.cell? ⟨wr.1.size,8,U⟩=Y (F a2 a1 ak)):=(by rw[a7];refine⟨?_,?_,?_,?_,?_,?_,?_,?_,?_⟩ <;> simp);clear K a7 bn
   go_wp2_with fail;rw[<-cb.out];obtain⟨c0,c1,c2,c3,c4,cd,ci,cj,ck⟩:=b5.out;obtain⟨cn,co,cp,cq,cr,cs,ct,cu,cv⟩:=b7.out;have cw:=cc.out;clear b5 b7 cc cb d3 d4 d5 d6 d7 d8 d9 ea eb
   go_region_held3 (fun w'=>w'.cell? ⟨wr.1.size,0,U⟩=Y (mI bp)∧w'.cell? ⟨wr.1.size,1,U⟩=Y (O C k)∧w'.cell? ⟨wr.1.size,2,U⟩=Y (F ah ab Z)∧w'.cell? ⟨wr.1.size,3,U⟩=Y (mx S)∧w'.cell? ⟨wr.1.size,4,U⟩=Y (O C a0)∧w'.cell? ⟨wr.1.size,5,U⟩=Y (O C aw)∧w'.cell? ⟨wr.1.size,6,U⟩=Y (ox qq aj)∧w'.cell? ⟨wr.1.size,7,U⟩=Y (mI a3)∧w'.cell? ⟨wr.1.size,8,U⟩=Y (F a2 a1 ak)∧w'.cell? ⟨D,E+j*9,U⟩=Y (mI el)∧w'.cell? ⟨D,E+j*9+1,U⟩=Y (O C k')∧w'.cell? ⟨D,E+j*9+2,U⟩=Y (F bv bs bq)∧w'.cell? ⟨D,E+j*9+3,U⟩=Y (mx a8)∧w'.cell? ⟨D,E+j*9+4,U⟩=Y (O C b0)∧w'.cell? ⟨D,E+j*9+5,U⟩=Y (O C bX)∧w'.cell? ⟨D,E+j*9+6,U⟩=Y (ox qq bO)∧w'.cell? ⟨D,E+j*9+7,U⟩=Y (mI b3)∧w'.cell? ⟨D,E+j*9+8,U⟩=Y (F b2 b1 bT)∧w'.cell? ⟨w.1.size+1,0,U⟩=Y (F (Y ⟨D,E,U⟩) t.length d)) (go_keep) (first|(go_at_call 96;refine(J.out _ (below_drewN a5.out _)).mono ?_;rintro e w4 ⟨rfl,cx⟩;have o:=dY (w:=y) cx (by rfl) (by rfl) (by rfl) (by rfl);have z0:=ae o c0;have z1:=ae o c1;have z2:=ae o c2;have z3:=ae o c3;have z4:=ae o c4;have e1:=ae o cd;have e2:=ae o ci;have e3:=ae o cj;have e4:=ae o ck;have en:=ae o cn;have ep:=ae o co;have eq:=ae o cp;have er:=ae o cq;have ev:=ae o cr;have ew:=ae o cs;have ez:=ae o ct;have eC:=ae o cu;have eL:=ae o cv;have e0:=ae o cw;have a4:=gQq o;clear cx o))
   clear z0 z1 z2 z3 z4 e1 e2 e3 e4 en ep eq er ev ew ez eC eL e0 c0 c1 c2 c3 c4 cd ci cj ck cn co cp cq cr cs ct cu cv cw;cases r with
   |true=>
    have dv:I (N A.1.size A w4∧∀m (V:m<s.length) (X:m<t.length),m<j+1->Sch.colSame s[m] t[m]=ux):=by
     refine⟨bc.out.trans (a4.out.mono bc.out.size),fun m V X e9=>?_⟩;by_cases eg:m=j
     ·subst eg;exact b9.out.symm
     ·exact a9.out m V X (by omega)
    clear a4 a9 J;go_wp2;go_roundw;case rel=>exact⟨j+1,by omega,by go_num,dv⟩
    case measure=>simp[intOf];omega
   |false=>
    have bi:I (Sch.same s t=wx):=mF s t j bk c6 b9.out.symm;have be:=gQq (b8.out.trans (a4.out.mono b8.out.size));clear a4 a9 J;go_wp2;go_ret;exact⟨by rw[bi.out];rfl,be.out⟩
  ·have bi:I (Sch.same s t=ux):=kr s t b4.out (fun m V X=>L.out.2 m V X (by omega));have be:=gQq K;have e8:¬(j:Int)<(s.length:Int):=(by omega);clear L K bk;go_wp2;go_ret;exact⟨by rw[bi.out];rfl,be.out⟩
end
section
open Go.RowKit Go.Maps
theorem rA:Keyed AW 9:=string_keyed underlying9
theorem pL(w:wv):(zeroValue 3).run AW w=.ok (O C 0) w:=by kernel_rfl
def m7(t:ByteArray):Lit:=.string t.data.toList
theorem tQ{a b:ByteArray}(h:m7 a=m7 b):a=b:=by
 unfold m7 at h;injection h with h;obtain⟨⟨a⟩⟩:=a;obtain⟨⟨b⟩⟩:=b
 simp_all
theorem qa{t:ByteArray}(h:t.size<=140737488351232):keyOf AW 9 (mI t)=Y (m7 t):=Go.WideMaps.keyOf_string_mk underlying9 (by unfold maxLen;omega)
structure cQ(w:wv)(M n:Nat)(l:List Col):Prop where
 out:∃D:DataW Unit,w.ownsMap AW 9 (plainElem AW 3) M n D∧∀t:ByteArray,has D (m7 t)=l.any (fun x=>decide (x.name=t))
theorem jq(w:wv):cQ (w.alloc (.map #[] 0)) w.1.size 0 []:=⟨.map [],World.ownsMap_made _ _ _ _,fun _=>rfl⟩
theorem cQ.lt(h:cQ w M n l):M<w.1.size:=by
 obtain⟨y,o,_⟩:=h.out;exact o.lt
theorem cQ.keep{w':wv}(h:cQ w M n l)(hb:w'.1[M]?=w.1[M]?):cQ w' M n l:=by
 obtain⟨o,⟨es,clock,y,A⟩,D⟩:=h.out;exact⟨o,⟨es,clock,hb.trans y,A⟩,D⟩
theorem ql{o:DataW Unit}{P:Program}{k:TypeId}{R:Value->Option (DataW Unit×List MemPlace)}{w:wv}{M n:Nat}{l:List Col}(A:w.ownsMap P k R M n o)(h:∀t:ByteArray,has o (m7 t)=l.any (fun x=>decide (x.name=t)))(c:Col)(d:DataW Unit)(t:ByteArray):
  has (o.put (m7 c.name) d) (m7 t)=(l++[c]).any (fun x=>decide (x.name=t)):=by
 rw[List.any_append];by_cases y:c.name=t
 ·subst y;rw[has_put_same A.isMap (by trivial)];simp
 ·rw[has_put_other (fun e=>y (tQ e).symm),h t];simp[y]
end
section
open Go.RowKit Go.Maps
attribute [local go_sem] ai
def jC(c:Col):Nat:=if c.has=wx then (if V.same c.dflt V0 then 0 else 80) else if chk 1 c.dflt≠0 then chk 1 c.dflt else if Sch.is c.dflt c.ty then 0 else 80
theorem sx(l:List Col)(c:Col):Sch.colErr l c=if Sch.name c.name=wx then 70 else if l.any (fun x=>decide (x.name=c.name)) then 71 else if Ty.check 1 c.ty≠0 then Ty.check 1 c.ty else jC c:=rfl
theorem nT(w:wv):aJ w (cells5 0 0 0 ⟨#[]⟩ U 0 0) V0:=aJ.mk (xs:=[]) (fun _=>#[]) (by simp) (by simp) (fun o=>absurd rfl o) (fun j y=>by simp at y)
theorem kf(x:Col)(w:wv)(u:AV)(bj:fg w u x)(a3:Ty.check 1 x.ty=0):AZ AW 113 #[nx u] w fun e w'=>e=qz (O C (jC x:Nat))∧N w.1.size w w':=by
 obtain⟨k,bp,bn,bl,bN,bv,bq,bX,bT,bO,bs,rfl,a5,aw⟩:=bj.out;obtain⟨a6,A,has,o⟩:=x;dsimp only at a5 aw a3;unfold aA;obtain⟨y,a2⟩:∃y,y=w.alloc (qj #[mI a6,O C k,F bp bn bl,mx has,O C bN,O C bv,ox qq bq,mI bX,F bT bO bs] 104):=⟨_,rfl⟩;have D:I (N w.1.size w y):=by rw[a2];exact gQy
 have a1:I (y.cell? ⟨w.1.size,1,U⟩=Y (O C k)∧y.cell? ⟨w.1.size,2,U⟩=Y (F bp bn bl)∧y.cell? ⟨w.1.size,4,U⟩=Y (O C bN)∧y.cell? ⟨w.1.size,5,U⟩=Y (O C bv)∧y.cell? ⟨w.1.size,6,U⟩=Y (ox qq bq)∧y.cell? ⟨w.1.size,7,U⟩=Y (mI bX)∧y.cell? ⟨w.1.size,8,U⟩=Y (F bT bO bs)):=by rw[a2];refine⟨?_,?_,?_,?_,?_,?_,?_⟩ <;> simp
 have aj:=gQq (wY o V0 y _ _ (aw.on D.out) (nT y));have ab:=gQq (pz o y _ (aw.on D.out));have L:=gQq (fun w' (hb:N y.1.size y w') cb=>xq o A 1 w' _ _ cb a3 ((aw.on D.out).on hb) ((a5.on D.out).on hb));have S:I (chk 1 o=0->Sch.is o A=Sch.of o A):=fun h=>by
  unfold Sch.is;rw[AE a3,AE h];rfl
 have J:I (jC ⟨a6,A,has,o⟩=if has=wx then (if V.same o V0 then 0 else 80) else if chk 1 o≠0 then chk 1 o else if Sch.is o A then 0 else 80):=rfl;obtain⟨R,a8⟩:∃R,R=jC ⟨a6,A,has,o⟩:=⟨_,rfl⟩;rw[<-a8] at J ⊢;obtain⟨bk,bb⟩:∃r,r=V.same o V0:=⟨_,rfl⟩;rw[<-bb] at aj J;obtain⟨Z,bc⟩:∃r,r=chk 1 o:=⟨_,rfl⟩;rw[<-bc] at ab J L S;obtain⟨cc,be⟩:∃r,r=Sch.is o A:=⟨_,rfl⟩;rw[<-be] at J S;have a0:=gQq a2;unfold cells5 at aj ab L;unfold ar at L;clear a2 a5 aw bj a3 a8 bb bc be;cases has with
 |false=>
  have K:I (R=if bk then 0 else 80):=by show _=_;rw[J.out,AK rfl]
  clear J ab L S a1;go_enter func113,ntmps113;go_wp2_with fail;rw[<-a0.out];clear a0;refine aj.out.mono ?_;rintro e w1 ⟨rfl,X⟩;have Q:=gQq (D.out.trans (X.mono D.out.size));clear X aj;cases bk with
  |true=>
   go_wp2;go_ret;exact⟨by rw[K.out];rfl,Q.out⟩
  |false=>
   go_wp2;go_ret;exact⟨by rw[K.out];rfl,Q.out⟩
 |true=>
  have K:I (R=if Z≠0 then Z else if cc then 0 else 80):=by show _=_;rw[J.out,AJ (by decide)]
  clear J aj;go_enter func113,ntmps113;go_wp2_with fail;rw[<-a0.out];clear a0;refine ab.out.mono ?_;rintro e w1 ⟨rfl,X⟩;have E:=gQq X;have Q:=gQq (D.out.trans (X.mono D.out.size));clear X ab;by_cases ak:Z=0
  ·have b9:((Z:Int) != 0)=false:=bZ (by omega);obtain⟨b0,b1,b2,b3,b4,b5,b6⟩:=a1.out;have c0:=ae E.out b0;have c1:=ae E.out b1;have c2:=ae E.out b2;have c3:=ae E.out b3;have c4:=ae E.out b4;have b7:=ae E.out b5;have b8:=ae E.out b6;have a4:=gQq (L.out w1 E.out ak);have ah:I (R=if Sch.of o A then 0 else 80):=by
    show _=_;rw[K.out,AJ (by omega),S.out ak]
   obtain⟨cd,bi⟩:∃r,r=Sch.of o A:=⟨_,rfl⟩;rw[<-bi] at a4 ah;clear b0 b1 b2 b3 b4 b5 b6 a1 L S K bi ak;go_wp2_with fail;refine a4.out.mono ?_;rintro e ci ⟨rfl,a9⟩;have a7:=gQq (Q.out.trans (a9.mono Q.out.size));clear a9 c0 c1 c2 c3 c4 b7 b8 a4;cases cd with
   |true=>
    go_wp2;go_ret;exact⟨by rw[ah.out];rfl,a7.out⟩
   |false=>
    go_wp2;go_ret;exact⟨by rw[ah.out];rfl,a7.out⟩
  ·have b9:((Z:Int) != 0)=true:=cE (by omega);have ah:I (R=Z):=(by show _=_;rw[K.out,AK ak]);clear L S K ak a1;go_wp2;go_ret;exact⟨by rw[ah.out];rfl,Q.out⟩
def iH(s:List Col):Nat:=if s.length=0 then 4 else if 16<s.length then 3 else Sch.colsErr [] s
theorem lK(s:List Col)(j:Nat)(o:j<s.length):Sch.colsErr (s.take j) (s.drop j)=if Sch.colErr (s.take j) s[j]=0 then Sch.colsErr (s.take (j+1)) (s.drop (j+1)) else Sch.colErr (s.take j) s[j]:=by
 rw[List.drop_eq_getElem_cons o,Sch.colsErr,List.take_succ_eq_append_getElem o]
theorem kg(s:List Col)(p:OA)(c:Nat)(w:wv)(d1:cT w p s)(d0:∀x∈s,x.wf):
    AZ AW 85 #[F p s.length c] w fun e w'=>e=qz (O C (iH s:Nat))∧N w.1.size w w':=by
  have f5:=@run_makeMap AW;obtain⟨R,b3⟩:∃R,R=iH s:=⟨_,rfl⟩;have L:I (R=if s.length=0 then 4 else if 16<s.length then 3 else Sch.colsErr [] s):=b3;rw[<-b3];clear b3;have ew:=gQq d1;have ev:=gQq d0;clear d1 d0;by_cases Q:s.length=0
  · have e6:((s.length:Int)==0)=true:=dq (by omega);have X:I (R=4):=(by show _=_;rw[L.out,AK Q]);clear L Q;go_enter func85,ntmps85;go_wp2;go_ret;exact⟨by rw[X.out];rfl,gQz⟩
  have e6:((s.length:Int)==0)=false:=bf (by omega);by_cases bb:16<s.length
  · have e7:(16:Int)<(s.length:Int):=(by omega);have X:I (R=3):=(by show _=_;rw[L.out,AJ Q,AK bb]);clear L Q bb;go_enter func85,ntmps85;go_wp2;go_ret;exact⟨by rw[X.out];rfl,gQz⟩
  have e7:¬(16:Int)<(s.length:Int):=by omega
  have X:I (R=Sch.colsErr (s.take 0) (s.drop 0)):=by show _=_;rw[L.out,AJ Q,AJ bb];simp
  have f6:s.length<=16:=by omega
  clear L Q bb;obtain⟨a9,bc⟩:∃a9,a9=w.alloc (.map #[] 0):=⟨_,rfl⟩;have eg:I (N w.1.size w a9):=by rw[bc];exact gQy
  have eq:I (cQ a9 w.1.size 0 (s.take 0)):=by rw[bc];exact jq w
  have cq:=gQq bc;clear bc;go_enter func85,ntmps85;go_wp2_with fail;rw[<-cq.out];clear cq;go_loopw [19] (fun cc wr=>∃j:Nat,j<=s.length∧cc=O C j∧I (N w.1.size w wr∧cQ wr w.1.size j (s.take j)∧R=Sch.colsErr (s.take j) (s.drop j))) (fun cc _=>s.length-(intOf cc).toNat);case atStart=>exact⟨0,by omega,rfl,eg.out,eq.out,X.out⟩
  case round=>
    obtain⟨j,f2,rfl,J⟩:=hrel;by_cases aj:j<s.length
    · obtain⟨bx,f7,k,bl,bk,bj,bs,bq,bn,bO,bN,bv,bp,rfl,_,cy,b9,du⟩:=ew.out.at j aj;obtain⟨cs,ez,eC,ct,eL,e0,e1,e2,e3⟩:=cy.on J.out.1;clear cy;have f3:(j:Int)<(s.length:Int):=(by omega);have A:=gQq ((sx (s.take j) s[j]));have K:=gQq (J.out.2.2.trans (lK s j aj));have fi:s[j].name.size<=140737488351232:=(ev.out _ (AL aj)).1;have ab:=gQq (qa fi);have a7:=gQq (xh s[j].name);have cp:=gQq (s.take_succ_eq_append_getElem aj);obtain⟨D,bi,b7⟩:=J.out.2.1.out;have co:=gQq bi;have Z:=gQq (b7 s[j].name);have b2:=gQq (fun d t=>ql bi b7 s[j] d t);have ep:=gQq bi.lt;have ci:=gQq J.out.1
      -- the copy of the column
      have a4:=gQq (fun w' (hb:N w.1.size w w')=>jI s[j].ty w' _ (b9.on hb));have E:=gQq (fun w' (hb:N w.1.size w w') (h:Ty.check 1 s[j].ty=0)=>kf s[j] w' _ ⟨k,bl,bk,bj,bs,bq,bn,bO,bN,bv,bp,rfl,b9.on hb,du.on hb⟩ h);unfold aA at E;unfold ar at a4;obtain⟨ak,c7⟩:∃n,n=s[j].name:=⟨_,rfl⟩;obtain⟨b8,c5⟩:∃n,n=s[j].has:=⟨_,rfl⟩;rw[<-c7] at cs A ab a7 Z b2 E;rw[<-c5] at ct E;obtain⟨fs,dr⟩:∃r,r=Sch.name ak:=⟨_,rfl⟩;rw[<-dr] at a7 A;obtain⟨aw,ds⟩:∃r,r=Ty.check 1 s[j].ty:=⟨_,rfl⟩;rw[<-ds] at a4 A E;obtain⟨rd,dj⟩:∃r,r=jC s[j]:=⟨_,rfl⟩;rw[<-dj] at E A;obtain⟨fq,df⟩:∃r,r=(s.take j).any (fun x=>decide (x.name=ak)):=⟨_,rfl⟩;rw[<-df] at Z A;obtain⟨o,V⟩:∃o,o=wr.alloc (qj #[mI ak,O C k,F bl bk bj,mx b8,O C bs,O C bq,ox qq bn,mI bO,F bN bv bp] 104):=⟨_,rfl⟩;have el:I (N wr.1.size wr o):=(by rw[V];exact gQy);have ec:I (o.cell? ⟨wr.1.size,0,U⟩=Y (mI ak)∧o.cell? ⟨wr.1.size,1,U⟩=Y (O C k)∧o.cell? ⟨wr.1.size,2,U⟩=Y (F bl bk bj)∧o.cell? ⟨wr.1.size,3,U⟩=Y (mx b8)∧o.cell? ⟨wr.1.size,4,U⟩=Y (O C bs)∧o.cell? ⟨wr.1.size,5,U⟩=Y (O C bq)∧o.cell? ⟨wr.1.size,6,U⟩=Y (ox qq bn)∧o.cell? ⟨wr.1.size,7,U⟩=Y (mI bO)∧o.cell? ⟨wr.1.size,8,U⟩=Y (F bN bv bp)):=(by rw[V];refine⟨?_,?_,?_,?_,?_,?_,?_,?_,?_⟩ <;> simp);have a3:I (N w.1.size w o):=ci.out.trans (el.out.mono ci.out.size)
      have a8:I (o.ownsMap AW 9 (plainElem AW 3) w.1.size j D):=(by rw[V];exact co.out.alloc _);have fo:wr.1.size<o.1.size:=(by rw[V];simp);have cr:=gQq V;clear c7 c5 dr ds dj df b9 du bi b7 V J co;go_wp2_with fail;rw[<-cr.out];clear cr cs ez eC ct eL e0 e1 e2 e3;refine(a7.out _).mono ?_;rintro e a0 ⟨rfl,dv⟩;rw[dv];clear dv a0 a7;cases fs with
      |false=>
        have b0:I (R=70):=(by show _=_;rw[K.out,A.out];rfl);go_wp2;go_ret;exact⟨by rw[b0.out];rfl,a3.out⟩
      |true=>
        obtain⟨c0,c1,c2,c3,c4,cu,cv,cw,cx⟩:=ec.out;cases fq with
        |true=>
          have b0:I (R=71):=(by show _=_;rw[K.out,A.out];rfl);go_wp2_with (first | (at_lookup;refine wpList_lookup_own_ok_int _ rfl _ _ 188 rfl 9 3 C rA underlying188 underlying3 (pL _) w.1.size j D rfl a8.out _ _ rfl ab.out ?_;intro e4 b4 cb;rw[Z.out];clear b4 cb));go_ret;exact⟨by rw[b0.out];rfl,a3.out⟩
        |false=>
          go_wp2_with (first
            | (at_lookup;refine wpList_lookup_own_ok_int _ rfl _ _ 188 rfl 9 3 C rA underlying188 underlying3 (pL _) w.1.size j D rfl a8.out _ _ rfl ab.out ?_;intro e4 b4 cb;rw[Z.out];clear b4 cb)
            | (at_mapUpdate;refine wpList_mapUpdate_own _ rfl _ _ _ 188 rfl 9 3 rA underlying188 _ w.1.size j D rfl a8.out (by unfold maxLen;omega) _ _ _ rfl rfl ab.out _ [] (plainElem_int underlying3 (WalkArith.wf_i64 (by omega))) ?_;intro w1 c9 b6
               have cn:=gQq c9;have ck:=gQq b6;have c8:¬wr.1.size=w.1.size:=(by have:=ep.out;omega);have hblk:w1.1[wr.1.size]?=o.1[wr.1.size]?:=b6.block _ fo (fun fc=>c8 (by injection fc));have d2:w1.cell? ⟨wr.1.size,0,U⟩=Y (mI ak):=(World.cell?_of_block (w:=o) hblk).trans c0;have d3:w1.cell? ⟨wr.1.size,1,U⟩=Y (O C k):=(World.cell?_of_block (w:=o) hblk).trans c1;have d4:w1.cell? ⟨wr.1.size,2,U⟩=Y (F bl bk bj):=(World.cell?_of_block (w:=o) hblk).trans c2;have d5:w1.cell? ⟨wr.1.size,3,U⟩=Y (mx b8):=(World.cell?_of_block (w:=o) hblk).trans c3;have d6:w1.cell? ⟨wr.1.size,4,U⟩=Y (O C bs):=(World.cell?_of_block (w:=o) hblk).trans c4;have d7:w1.cell? ⟨wr.1.size,5,U⟩=Y (O C bq):=(World.cell?_of_block (w:=o) hblk).trans cu;have d8:w1.cell? ⟨wr.1.size,6,U⟩=Y (ox qq bn):=(World.cell?_of_block (w:=o) hblk).trans cv;have d9:w1.cell? ⟨wr.1.size,7,U⟩=Y (mI bO):=(World.cell?_of_block (w:=o) hblk).trans cw;have ea:w1.cell? ⟨wr.1.size,8,U⟩=Y (F bN bv bp):=(World.cell?_of_block (w:=o) hblk).trans cx;clear c0 c1 c2 c3 c4 cu cv cw cx c9 b6 hblk c8))
          have bT:I (N w.1.size w w1):=a3.out.grown ck.out a3.out.size (fun k c6=>by injection c6 with c6;omega);have a6:I (cQ w1 w.1.size (j+1) (s.take (j+1))):=by
            rw[cp.out];exact⟨_,cn.out,b2.out _⟩
          have bX:=gQq (a4.out w1 bT.out);clear a4 cn b2 a8 Z ab cp ck;go_wp2_with fail;refine bX.out.mono ?_;rintro e a0 ⟨rfl,y⟩;have a2:I (N w.1.size w a0):=bT.out.trans (y.mono bT.out.size);have b1:I (cQ a0 w.1.size (j+1) (s.take (j+1))):=a6.out.keep (y.block _ a6.out.lt);by_cases S:aw=0
          · have e9:((aw:Int) != 0)=false:=bZ (by omega);have z0:=ae y d2;have z1:=ae y d3;have z2:=ae y d4;have z3:=ae y d5;have z4:=ae y d6;have fv:=ae y d7;have fx:=ae y d8;have fy:=ae y d9;have f0:=ae y ea;have cj:=gQq (E.out a0 a2.out S);clear d2 d3 d4 d5 d6 d7 d8 d9 ea y bX E a6;have a5:I (Sch.colErr (s.take j) s[j]=rd):=by
              show _=_;rw[A.out,S];rfl
            clear A S;go_wp2_with fail;refine cj.out.mono ?_;rintro e eb ⟨rfl,b5⟩;have cd:I (N w.1.size w eb):=a2.out.trans (b5.mono a2.out.size);have er:I (cQ eb w.1.size (j+1) (s.take (j+1))):=b1.out.keep (b5.block _ b1.out.lt);clear b5 z0 z1 z2 z3 z4 fv fx fy f0 cj b1;by_cases be:rd=0
            · have e8:((rd:Int) != 0)=false:=bZ (by omega);have ah:I (R=Sch.colsErr (s.take (j+1)) (s.drop (j+1))):=(by show _=_;rw[K.out,a5.out,AK be]);clear be K a5;go_wp2;go_roundw;case rel=>exact⟨j+1,by omega,by go_num,cd.out,er.out,ah.out⟩
              case measure=>simp[intOf];omega
            · have e8:((rd:Int) != 0)=true:=cE (by omega);have ah:I (R=rd):=(by show _=_;rw[K.out,a5.out,AJ be]);clear be K a5;go_wp2;go_ret;exact⟨by rw[ah.out];rfl,cd.out⟩
          · have e9:((aw:Int) != 0)=true:=cE (by omega);have ah:I (R=aw):=by
              show _=_;have e5:Sch.colErr (s.take j) s[j]=aw:=(by rw[A.out,AJ (by decide),AJ (by decide),AK S]);rw[K.out,e5,AJ S]
            clear S y bX E a6 A K;go_wp2;go_ret;exact⟨by rw[ah.out];rfl,a2.out⟩
    · have em:=gQq J.out.1;have en:I (R=0):=(by show _=_;rw[J.out.2.2,List.drop_eq_nil_of_le (by omega)];rfl);have f4:¬(j:Int)<(s.length:Int):=(by omega);clear J aj;go_wp2;go_ret;exact⟨by rw[en.out];rfl,em.out⟩
end
end Go.Proofs.YtngmnfdaedlodaaGreatDoor

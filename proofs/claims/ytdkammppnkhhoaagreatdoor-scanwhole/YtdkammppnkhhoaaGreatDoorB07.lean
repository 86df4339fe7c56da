import Derived.Test.YtdkammppnkhhoaaGreatDoorB06
set_option maxRecDepth 100000
set_option maxHeartbeats 1000000
namespace Go.Proofs.YtdkammppnkhhoaaGreatDoor
variable{t:ByteArray}
section
open Go.RowKit
theorem nr:∀(x:Ty) (d:Nat) (w:World) (u:AV),d<=5->aD w u x->Calls Tryz.prog 188 #[.agg u,.int .i64 d] w fun e w'=>e=.returned (.int .i64 (Ty.check d x:Nat))∧Below w.1.size w w':=by
  intro x;refine Ty.ind (P:=fun x=>∀(d:Nat) (w:World) (u:AV),d<=5->aD w u x->Calls Tryz.prog 188 #[.agg u,.int .i64 d] w fun e w'=>e=.returned (.int .i64 (Ty.check d x:Nat))∧Below w.1.size w w') ?_ x;rintro k xs J d w u hd a3;obtain⟨p,c,rfl,bl,bk,I⟩:=a3.open;unfold al;have ah:Below w.1.size w (w.alloc (.cells #[.int .i64 k,.slice p xs.length c] 73)):=xV;have HB1:=xX ah;clear ah a3;obtain⟨D,X⟩:∃D,D=Ty.check d (.mk k xs):=⟨_,rfl⟩;have o:=xX (X.trans (Ty.check_mk d k xs));rw[<-X];clear X;by_cases K:4<d
  · have a8:(4:Int)<(d:Int):=(by omega);have z:Hid (D=62):=(by show _=_;rw[o.out,if_pos K]);clear J I o;go_enter Tryz.func188,Tryz.ntmps188;go_wp2;go_ret;exact⟨by rw[z.out];rfl,HB1.out⟩
  have a8:¬(4:Int)<(d:Int):=by omega
  by_cases W:k<1∨7<k
  · have L:(k==6)=false:=(by simp;omega);have U:(k==7)=false:=(by simp;omega);have z:Hid (D=60):=(by show _=_;rw[o.out,if_neg K,if_pos (by omega)]);clear J I o;rcases W with W | W
    · go_enter Tryz.func188,Tryz.ntmps188;go_wp2;go_ret;exact⟨by rw[z.out];rfl,HB1.out⟩
    · have a9:¬k<1:=(by omega);go_enter Tryz.func188,Tryz.ntmps188;go_wp2;go_ret;exact⟨by rw[z.out];rfl,HB1.out⟩
  have a9:¬k<1:=by omega
  have be:¬7<k:=by omega
  by_cases M:k=6∨k=7
  · have E:Ty.want k=1:=(by unfold Ty.want;rw[if_pos M]);by_cases a1:xs.length=1
    · have V:((xs.length:Int) != 1)=false:=cd (by omega);have Z:Hid (∀j (bj:j<xs.length),∃a4,aD w a4 xs[j]∧dH w p j a4):=I;have Y:=xX J;obtain⟨bN,a2,a0⟩:=Z.out 0 (by omega);obtain⟨bx,bq,bn,bs,bp,bd,rfl,_,rfl,a6,a7⟩:=(a0.on HB1.out).lies;rw[Nat.zero_mul,Nat.add_zero] at a6 a7;have aj:D=Ty.check (d+1) (xs[0]'(by omega)):=by
        obtain⟨y,rfl⟩:=List.length_eq_one_iff.1 a1;rw[o.out];have:=Ty.check_one d k y K (by omega) E;rw[Ty.check_mk] at this;exact this
      have R:=xX (Y.out _ (List.getElem_mem (by omega:0<xs.length)) (d+1) _ _ (by omega) (a2.on HB1.out));rw[<-aj] at R;unfold al at R;have O:(0:Int)<(xs.length:Int):=(by omega);clear aj Z Y a2 a0 o J I E a1;rcases M with A | A
      all_goals
        first
          |have L:(k==6)=true:=bQ A
          | (have L:(k==6)=false:=aK (by omega);have U:(k==7)=true:=bQ A)
        clear A;go_enter Tryz.func188,Tryz.ntmps188;go_wp2_with fail;refine R.out.mono ?_;rintro e bO ⟨rfl,ak⟩;have a5:=xX (HB1.out.trans (ak.mono HB1.out.size));clear ak;go_wp2;go_ret;exact⟨rfl,a5.out⟩
    · have V:((xs.length:Int) != 1)=true:=bz (by omega);have z:Hid (D=60):=(by show _=_;rw[o.out,if_neg K,if_pos (by omega)]);clear J I o E;rcases M with A | A
      all_goals
        first
          |have L:(k==6)=true:=bQ A
          | (have L:(k==6)=false:=aK (by omega);have U:(k==7)=true:=bQ A)
        clear A;go_enter Tryz.func188,Tryz.ntmps188;go_wp2;go_ret;exact⟨by rw[z.out];rfl,HB1.out⟩
  · have E:Ty.want k=0:=(by unfold Ty.want;rw[if_neg M]);have L:(k==6)=false:=aK (by omega);have U:(k==7)=false:=aK (by omega);by_cases O:xs.length=0
    · have V:((xs.length:Int) != 0)=false:=cd (by omega);have z:Hid (D=0):=by
        show _=_;have bb:xs=[]:=List.eq_nil_of_length_eq_zero O;subst bb;rw[o.out];have:=Ty.check_leaf d k K (by omega) E;rw[Ty.check_mk] at this;exact this
      clear J I o E O;go_enter Tryz.func188,Tryz.ntmps188;go_wp2;go_ret;exact⟨by rw[z.out];rfl,HB1.out⟩
    · have V:((xs.length:Int) != 0)=true:=bz (by omega);have z:Hid (D=60):=(by show _=_;rw[o.out,if_neg K,if_pos (by omega)]);clear J I o E O;go_enter Tryz.func188,Tryz.ntmps188;go_wp2;go_ret;exact⟨by rw[z.out];rfl,HB1.out⟩
theorem fe(x:Ty)(w:World)(u:AV)(h:aD w u x):Calls Tryz.prog 170 #[.agg u] w fun e w'=>e=.returned (.int .i64 (Ty.check 1 x:Nat))∧Below w.1.size w w':=by
 obtain⟨k,xs⟩:=x;obtain⟨p,c,rfl,-⟩:=h.open;have z:Below w.1.size w (w.alloc (.cells (al k p xs.length c) 73)):=xV;have o:=xX z;have y:=xX (nr _ 1 _ _ (by omega) (h.on z));clear z h;obtain⟨A,D⟩:∃A,A=Ty.check 1 (.mk k xs):=⟨_,rfl⟩;rw[<-D] at y ⊢;clear D;unfold al at y o ⊢;go_enter Tryz.func170,Tryz.ntmps170;go_wp2_with fail;refine y.out.mono ?_;rintro e J ⟨rfl,E⟩;have I:=xX (o.out.trans (E.mono o.out.size));clear E;go_wp2;go_ret;exact⟨rfl,I.out⟩
theorem kC:∀(x O:Ty) (w:World) (u v:AV),aD w u x->aD w v O->Calls Tryz.prog 56 #[.agg u,.agg v] w fun e w'=>e=.returned (.bool (Ty.same x O))∧Below w.1.size w w':=by
 intro x;refine Ty.ind (P:=fun x=>∀(O:Ty) (w:World) (u v:AV),aD w u x->aD w v O->Calls Tryz.prog 56 #[.agg u,.agg v] w fun e w'=>e=.returned (.bool (Ty.same x O))∧Below w.1.size w w') ?_ x;rintro k xs aj ⟨K,o⟩ w u v b0 b1;obtain⟨p,c,rfl,c9,c8,Z⟩:=b0.open;obtain⟨q,d,rfl,df,dd,ah⟩:=b1.open;unfold al;obtain⟨z,X⟩:∃z,z=(w.alloc (.cells #[.int .i64 k,.slice p xs.length c] 73)).alloc (.cells #[.int .i64 K,.slice q o.length d] 73):=⟨_,rfl⟩;have R:Hid (Below w.1.size w z):=by rw[X];exact xV.alloc (by simp) _
 have bc:Hid (z.cell? ⟨w.1.size,1,none⟩=some (.slice p xs.length c)∧z.cell? ⟨w.1.size+1,1,none⟩=some (.slice q o.length d)):=by rw[X];exact⟨by simp,by simp⟩
 have W:=xX X;clear X b0 b1;by_cases y:¬k=K
 ·have ck:=bz y;have E:Hid (Ty.same (.mk k xs) (.mk K o)=false):=by show _=_;simp[Ty.same_mk,y]
  clear aj Z ah y;go_enter Tryz.func56,Tryz.ntmps56;go_wp2;rw[<-W.out];go_ret;exact⟨by rw[E.out];rfl,R.out⟩
 replace y:k=K:=Classical.not_not.1 y
 have ck:=cd y;by_cases I:¬xs.length=o.length
 ·have cn:((xs.length:Int) != (o.length:Int))=true:=bz (by omega);have E:Hid (Ty.same (.mk k xs) (.mk K o)=false):=by show _=_;simp[Ty.same_mk,Ty.sameL_ne xs o I]
  clear aj Z ah y I;go_enter Tryz.func56,Tryz.ntmps56;go_wp2;rw[<-W.out];go_ret;exact⟨by rw[E.out];rfl,R.out⟩
 replace I:xs.length=o.length:=Classical.not_not.1 I
 have cn:((xs.length:Int) != (o.length:Int))=false:=cd (by omega);have E:Hid (Ty.same (.mk k xs) (.mk K o)=Ty.sameL xs o):=by show _=_;simp[Ty.same_mk,y]
 have ci:Hid (∀j (bN:j<xs.length),∃M,aD w M xs[j]∧dH w p j M):=Z;have cj:Hid (∀j (bN:j<o.length),∃M,aD w M o[j]∧dH w q j M):=ah;have cb:=xX aj;have a8:=xX I;clear aj Z ah y I;go_enter Tryz.func56,Tryz.ntmps56;go_wp2_with fail;rw[<-W.out];clear W;go_loopw [5,6] (fun a7 _ wr=>∃j:Nat,j<=xs.length∧a7=.int .i64 j∧Hid (Below z.1.size z wr∧∀m (y:m<xs.length) (L:m<o.length),m<j->Ty.same xs[m] o[m]=true)) (fun a7 _ _=>xs.length-(intOf a7).toNat);case atStart=>exact⟨0,by omega,rfl,xY,fun m _ _ h=>by omega⟩
 case round=>
  obtain⟨j,bN,rfl,A⟩:=hrel;have J:Below w.1.size w wr:=R.out.trans (A.out.1.mono R.out.size);have b8:wr.cell? ⟨w.1.size,1,none⟩=some (.slice p xs.length c):=ac A.out.1 bc.out.1;have b9:wr.cell? ⟨w.1.size+1,1,none⟩=some (.slice q o.length d):=ac A.out.1 bc.out.2;by_cases Y:j<xs.length
  ·have bO:j<o.length:=(by have:=a8.out;omega);obtain⟨dp,bT,bq⟩:=ci.out j Y;obtain⟨dr,bX,bs⟩:=cj.out j bO;obtain⟨bx,a5,b2,b6,b4,bl,rfl,_,rfl,bd,be⟩:=(bq.on J).lies;obtain⟨a3,a6,b3,b7,b5,bn,rfl,_,rfl,bj,bk⟩:=(bs.on J).lies
   have V:Hid (∀w',Below w.1.size w w'->Calls Tryz.prog 56 #[.agg #[.int .i64 b2,.slice b6 b4 bl],.agg #[.int .i64 b3,.slice b7 b5 bn]] w' fun e cp=>e=.returned (.bool (Ty.same xs[j] o[j]))∧Below w'.1.size w' cp) :=
    fun w' hb=>cb.out _ (List.getElem_mem Y) o[j] w' _ _ (bT.on hb) (bX.on hb)
   have a0:=xX J;have a9:=xX A.out.1;have ak:=xX A.out.2;have cy:(j:Int)<(xs.length:Int):=(by omega);have c5:(j:Int)<(o.length:Int):=(by omega);obtain⟨r,a4⟩:∃r,r=Ty.same xs[j] o[j]:=⟨_,rfl⟩;rw[<-a4] at V;have bb:=xX a4;clear bT bX bq bs J A a4;go_wp2_with fail
   go_region_held3 (fun w'=>w'.cell? ⟨bx,a5+j*2,none⟩=some (.int .i64 b2)∧w'.cell? ⟨bx,a5+j*2+1,none⟩=some (.slice b6 b4 bl)∧w'.cell? ⟨a3,a6+j*2,none⟩=some (.int .i64 b3)∧w'.cell? ⟨a3,a6+j*2+1,none⟩=some (.slice b7 b5 bn)∧w'.cell? ⟨w.1.size,1,none⟩=some (.slice (some ⟨bx,a5,none⟩) xs.length c)∧w'.cell? ⟨w.1.size+1,1,none⟩=some (.slice (some ⟨a3,a6,none⟩) o.length d)) (go_keep) (first|(go_at_call 56;refine(V.out _ (below_drewN a0.out _)).mono ?_;rintro e w4 ⟨rfl,bp⟩;have D:=cF (w:=wr) bp (by rfl) (by rfl) (by rfl) (by rfl);have cq:=ac D bd;have cs:=ac D be;have ct:=ac D bj;have cv:=ac D bk;have cw:=ac D b8;have cx:=ac D b9;have U:=xX D;clear bp D))
   clear cq cs ct cv cw cx bd be bj bk b8 b9;cases r with
   |true=>
    have cc:Hid (Below z.1.size z w4∧∀m (y:m<xs.length) (L:m<o.length),m<j+1->Ty.same xs[m] o[m]=true):=by
     refine⟨a9.out.trans (U.out.mono a9.out.size),fun m y L c7=>?_⟩;by_cases co:m=j
     ·subst co;exact bb.out.symm
     ·exact ak.out m y L (by omega)
    clear U ak V;go_wp2;go_roundw;case rel=>exact⟨j+1,by omega,by go_num,cc⟩
    case measure=>simp[intOf];omega
   |false=>
    have a2:Hid (Ty.sameL xs o=false):=Ty.sameL_at xs o j Y bO bb.out.symm;have a1:=xX (a0.out.trans (U.out.mono a0.out.size));clear U ak V;go_wp2;go_ret;exact⟨by rw[E.out,a2.out];rfl,a1.out⟩
  ·have a2:Hid (Ty.sameL xs o=true):=Ty.sameL_all xs o a8.out (fun m y L=>A.out.2 m y L (by omega));have a1:=xX J;have c6:¬(j:Int)<(xs.length:Int):=(by omega);clear A J Y;go_wp2;go_ret;exact⟨by rw[E.out,a2.out];rfl,a1.out⟩
end
section
open Go.RowKit
theorem j9{l:L8}(h:0<l.length):l.headD 0=l[0]:=by
 cases l with
 |nil=>simp at h
 |cons a r=>rfl
theorem dV(h:t.size<1∨16<t.size):Sch.name t=false:=by
 have o:t.data.toList.length=t.size:=by rw[Array.length_toList];rfl
 unfold Sch.name Sch.nameL;rw[decide_eq_false (by omega)];rfl
theorem j5(h:0<t.size)(o:Sch.low t[0]=false):Sch.name t=false:=by
 have y:t.data.toList.length=t.size:=by rw[Array.length_toList];rfl
 unfold Sch.name Sch.nameL;have e:t.data.toList.headD 0=t[0]:=by
  rw[<-bK t 0 h];exact j9 (by omega)
 rw[e,o,Bool.and_false,Bool.false_and]
theorem mg(j:Nat)(h:j<t.size)(o:Sch.ch t[j]=false):Sch.name t=false:=by
 have y:t.data.toList.length=t.size:=by rw[Array.length_toList];rfl
 unfold Sch.name Sch.nameL;have:t.data.toList.all Sch.ch=false:=by
  rw[List.all_eq_false];refine⟨t[j],?_,by simp[o]⟩;rw[<-bK t j h];exact List.getElem_mem _
 rw[this,Bool.and_false]
theorem j6(A:1<=t.size)(D:t.size<=16)(o:Sch.low (t[0]'(by omega))=true)(y:∀j (h:j<t.size),Sch.ch t[j]=true):Sch.name t=true:=by
 have I:t.data.toList.length=t.size:=by rw[Array.length_toList];rfl
 unfold Sch.name Sch.nameL;have e:t.data.toList.headD 0=t[0]'(by omega):=by
  rw[<-bK t 0 (by omega)];exact j9 (by omega)
 have:t.data.toList.all Sch.ch=true:=by
  rw[List.all_eq_true];intro x z;obtain⟨j,E,rfl⟩:=List.getElem_of_mem z;rw[bK t j (by omega)];exact y j (by omega)
 rw[e,o,this,decide_eq_true (by omega)];rfl
theorem lW(t:ByteArray)(w:World):Calls Tryz.prog 144 #[.string t] w fun e w'=>e=.returned (.bool (Sch.name t))∧w'=w:=by
 by_cases M:t.size<1
 ·have Z:(t.size:Int)<1:=by omega
  have y:=xX (dV (t:=t) (.inl M));clear M;go_enter Tryz.func144,Tryz.ntmps144;go_wp2;go_ret;exact⟨by rw[y.out];rfl,rfl⟩
 have Z:¬(t.size:Int)<1:=by omega
 by_cases V:16<t.size
 ·have ah:(16:Int)<(t.size:Int):=by omega
  have y:=xX (dV (t:=t) (.inr V));clear M V;go_enter Tryz.func144,Tryz.ntmps144;go_wp2;go_ret;exact⟨by rw[y.out];rfl,rfl⟩
 have ah:¬(16:Int)<(t.size:Int):=by omega
 have aj:0<t.size:=by omega
 have a1:(0:Int)<(t.size:Int):=by omega
 by_cases A:Sch.low t[0]=false
 ·have y:=xX (j5 aj A);have I:t[0].toNat<97∨122<t[0].toNat:=by
   unfold Sch.low at A;rw[decide_eq_false_iff_not] at A;omega
  clear A M V;rcases I with I | I
  ·have L:(t[0].toNat:Int)<97:=(by omega);go_enter Tryz.func144,Tryz.ntmps144;go_wp2;go_ret;exact⟨by rw[y.out];rfl,rfl⟩
  ·have L:¬(t[0].toNat:Int)<97:=(by omega);have U:(122:Int)<(t[0].toNat:Int):=(by omega);go_enter Tryz.func144,Tryz.ntmps144;go_wp2;go_ret;exact⟨by rw[y.out];rfl,rfl⟩
 have E:Sch.low t[0]=true:=by simpa using A
 have O:=xX E;have I:97<=t[0].toNat∧t[0].toNat<=122:=by
  unfold Sch.low at E;rw[decide_eq_true_eq] at E;exact E
 have L:¬(t[0].toNat:Int)<97:=by omega
 have U:¬(122:Int)<(t[0].toNat:Int):=by omega
 clear A E I;go_enter Tryz.func144,Tryz.ntmps144;go_wp2;go_loop [3,4] (fun Y _=>∃a:Nat,a<=t.size∧Y=.int .i64 a∧Hid (∀j (h:j<t.size),j<a->Sch.ch t[j]=true)) (fun Y _=>t.size-(intOf Y).toNat);case atStart=>exact⟨0,by omega,rfl,fun j _ h=>by omega⟩
 case round=>
  obtain⟨a,a2,rfl,D⟩:=hrel;by_cases a0:a<t.size
  ·have a6:(a:Int)<(t.size:Int):=(by omega);have a3:=t[a].toNat_lt;by_cases z:Sch.ch t[a]=true
   ·have R:Hid (∀j (h:j<t.size),j<a+1->Sch.ch t[j]=true):=fun j h a4=>by
     by_cases ak:j=a
     ·subst ak;exact z
     ·exact D.out j h (by omega)
    have o:(97<=t[a].toNat∧t[a].toNat<=122)∨(48<=t[a].toNat∧t[a].toNat<=57)∨t[a].toNat=95:=by
     unfold Sch.ch Sch.low at z;simp only[Bool.or_eq_true,decide_eq_true_eq] at z;omega
    clear D z L U O;rcases o with o | o | o
    ·have J:¬(t[a].toNat:Int)<97:=(by omega);have K:¬(122:Int)<(t[a].toNat:Int):=(by omega);clear o;go_wp2;go_round;case rel=>exact⟨a+1,by omega,by go_num,R⟩
     case measure=>simp[intOf];omega
    ·have J:(t[a].toNat:Int)<97:=(by omega);have K:¬(t[a].toNat:Int)<48:=(by omega);have W:¬(57:Int)<(t[a].toNat:Int):=(by omega);clear o;go_wp2;go_round;case rel=>exact⟨a+1,by omega,by go_num,R⟩
     case measure=>simp[intOf];omega
    ·have J:(t[a].toNat:Int)<97:=(by omega);have K:¬(t[a].toNat:Int)<48:=(by omega);have W:(57:Int)<(t[a].toNat:Int):=(by omega);have X:((t[a].toNat:Int) != 95)=false:=(by rw[o];rfl);clear o;go_wp2;go_round;case rel=>exact⟨a+1,by omega,by go_num,R⟩
     case measure=>simp[intOf];omega
   ·have y:=xX (mg a a0 (by simpa using z));have o:t[a].toNat<48∨(57<t[a].toNat∧t[a].toNat<97∧t[a].toNat≠95)∨122<t[a].toNat:=by
     unfold Sch.ch Sch.low at z;simp only[Bool.or_eq_true,decide_eq_true_eq] at z;omega
    clear D z L U O;rcases o with o | o | o
    ·have J:(t[a].toNat:Int)<97:=(by omega);have K:(t[a].toNat:Int)<48:=(by omega);have X:((t[a].toNat:Int) != 95)=true:=(by rw[bne_iff_ne];omega);clear o;go_wp2;go_ret;exact⟨by rw[y.out];rfl,rfl⟩
    ·have J:(t[a].toNat:Int)<97:=(by omega);have K:¬(t[a].toNat:Int)<48:=(by omega);have W:(57:Int)<(t[a].toNat:Int):=(by omega);have X:((t[a].toNat:Int) != 95)=true:=(by rw[bne_iff_ne];omega);clear o;go_wp2;go_ret;exact⟨by rw[y.out];rfl,rfl⟩
    ·have J:¬(t[a].toNat:Int)<97:=(by omega);have a7:(122:Int)<(t[a].toNat:Int):=(by omega);have K:¬(t[a].toNat:Int)<48:=(by omega);have W:(57:Int)<(t[a].toNat:Int):=(by omega);have X:((t[a].toNat:Int) != 95)=true:=(by rw[bne_iff_ne];omega);clear o;go_wp2;go_ret;exact⟨by rw[y.out];rfl,rfl⟩
  ·have y:=xX (j6 (t:=t) (by omega) (by omega) O.out (fun j h=>D.out j h (by omega)));have a5:¬(a:Int)<(t.size:Int):=(by omega);clear D;go_wp2;go_ret;exact⟨by rw[y.out];rfl,rfl⟩
end
section
open Go.RowKit
def jd(r:Option Nat):Value:=match r with
 |some k=>.tuple #[.int .i64 k,.bool true]
 |none=>.tuple #[.int .i64 0,.bool false]
theorem qz(n:ByteArray)(s:List Col)(j:Nat)(o:j<s.length):Sch.find n (s.drop j) j=if s[j].name=n then some j else Sch.find n (s.drop (j+1)) (j+1):=by
 rw[List.drop_eq_getElem_cons o,Sch.find]
theorem rO(s:List Col)(t:ByteArray)(p:OA)(c:Nat)(w:World)(ak:s.length*120<=140737488351232)(R:bw w p s):Calls Tryz.prog 145 #[.agg #[.slice p s.length c],.string t] w fun e w'=>e=.returned (jd (Sch.find t s 0))∧Below w.1.size w w':=by
 have W:=xX R;clear R;obtain⟨D,I⟩:∃D,D=w.alloc (.cells #[.slice p s.length c] 41):=⟨_,rfl⟩;have J:Hid (Below w.1.size w D):=by rw[I];exact xV
 have bc:D.cell? ⟨w.1.size,0,none⟩=some (.slice p s.length c):=by rw[I];simp
 have V:=xX I;obtain⟨o,L⟩:∃o,o=Sch.find t s 0:=⟨_,rfl⟩;have U:=xX L;rw[<-L];clear I L;go_enter Tryz.func145,Tryz.ntmps145;go_wp2_with fail;rw[<-V.out];go_loopw [6] (fun M wr=>∃j:Nat,j<=s.length∧M=.int .i64 j∧wr=D∧Hid (o=Sch.find t (s.drop j) j)) (fun M _=>s.length-(intOf M).toNat);case atStart=>exact⟨0,by omega,rfl,rfl,U.out⟩
 case round=>
  obtain⟨j,Z,rfl,rfl,A⟩:=hrel;by_cases O:j<s.length
  ·obtain⟨bx,a0,k,a3,a2,a1,a7,a6,a4,bb,a9,a8,a5,rfl,_,K,-⟩:=(W.out.on J.out).at j O;have Y:=K.1;have ah:(j:Int)<(s.length:Int):=(by omega);have E:=xX (A.out.trans (qz t s j O));by_cases y:s[j].name=t
   ·have g:(s[j].name.toList==t.toList)=true:=(by rw[cr,decide_eq_true y]);have z:Hid (jd o=.tuple #[.int .i64 j,.bool true]):=(by show _=_;rw[E.out,if_pos y];rfl);generalize s[j].name=X at *
    clear A E K y;go_wp2;go_ret2;exact⟨by rw[z.out];rfl,J.out⟩
   ·have g:(s[j].name.toList==t.toList)=false:=(by rw[cr,decide_eq_false y]);have z:Hid (o=Sch.find t (s.drop (j+1)) (j+1)):=(by show _=_;rw[E.out,if_neg y]);generalize s[j].name=X at *
    clear A E K y;go_wp2;go_roundw;case rel=>exact⟨j+1,by omega,by go_num,trivial,z⟩
    case measure=>simp[intOf];omega
  ·have aj:¬(j:Int)<(s.length:Int):=(by omega);have z:Hid (jd o=.tuple #[.int .i64 0,.bool false]):=(by show _=_;rw[A.out,List.drop_eq_nil_of_le (by omega)];rfl);clear A;go_wp2;go_ret2;exact⟨by rw[z.out];rfl,J.out⟩
end
section
open Go.RowKit
theorem vI:∀(x:V) (J:Ty) (d:Nat) (w:World) (u v:AV),chk d x=0->Ty.check d J=0->aC w u x->aD w v J->Calls Tryz.prog 190 #[.agg u,.agg v] w fun e w'=>e=.returned (.bool (Sch.of x J))∧Below w.1.size w w':=by
 intro x;refine V.ind (P:=fun x=>∀(J:Ty) (d:Nat) (w:World) (u v:AV),chk d x=0->Ty.check d J=0->aC w u x->aD w v J->Calls Tryz.prog 190 #[.agg u,.agg v] w fun e w'=>e=.returned (.bool (Sch.of x J))∧Below w.1.size w w') ?_ x;rintro k i b t xs bb ⟨y,o⟩ d w u v a6 hd X cc;obtain⟨p,c,rfl,en,em,a8⟩:=X.open;obtain⟨q,e,rfl,eq,ep,a9⟩:=cc.open;unfold cells5 al;obtain⟨D,W⟩:∃D,D=(w.alloc (.cells #[.int .i64 k,.int .i64 i,.float .f64 b,.string t,.slice p xs.length c] 77)).alloc (.cells #[.int .i64 y,.slice q o.length e] 73):=⟨_,rfl⟩;have aj:Hid (Below w.1.size w D):=by rw[W];exact xV.alloc (by simp) _
 have bl:Hid (D.cell? ⟨w.1.size,4,none⟩=some (.slice p xs.length c)∧D.cell? ⟨w.1.size+1,1,none⟩=some (.slice q o.length e)):=by rw[W];exact⟨by simp,by simp⟩
 have a2:=xX W;clear W X cc;by_cases z:¬k=y
 ·have c7:=bz z;have U:Hid (Sch.of (.mk k i b t xs) (.mk y o)=false):=by show _=_;rw[Sch.of_mk,aK z,Bool.false_and]
  clear bb a8 a9 z a6 hd;go_enter Tryz.func190,Tryz.ntmps190;go_wp2;rw[<-a2.out];go_ret;exact⟨by rw[U.out];rfl,aj.out⟩
 replace z:k=y:=Classical.not_not.1 z
 have c7:=cd z;have U:Hid (Sch.of (.mk k i b t xs) (.mk y o)=xs.all (fun x=>Sch.of x (Sch.inner (.mk y o)))):=by show _=_;rw[Sch.of_mk,bQ z,Bool.true_and]
 obtain⟨d8,c9,b1⟩:=Sch.ty_open hd;obtain⟨-,b8,-,ec,-,b2⟩:=Sch.chk_open a6;obtain⟨-,-,-,-,dr,-⟩:=Sch.own_open b8;have c6:Hid (dG w p xs):=a8;have cx:=xX bb
 -- what the type is of,where there are items
 have c5:Hid (0<xs.length->∃I,o=[I]∧Ty.check (d+1) I=0∧Sch.inner (.mk y o)=I∧∃Z,aD w Z I∧dH w q 0 Z):=by
  intro el;rcases b1 with ⟨c8,-⟩ | ⟨c8,I,rfl,Y⟩
  ·omega
  ·obtain⟨Z,df,dp⟩:=a9 0 (by simp);exact⟨I,rfl,Y,rfl,Z,df,dp⟩
 have cw:=xX b2;clear bb a8 a9 a6 hd b1 c9 z b2 b8 dr;go_enter Tryz.func190,Tryz.ntmps190;go_wp2_with fail;rw[<-a2.out];clear a2;go_loopw [5,6] (fun bd _ wr=>∃j:Nat,j<=xs.length∧bd=.int .i64 j∧Hid (Below D.1.size D wr∧∀m (z:m<xs.length),m<j->Sch.of xs[m] (Sch.inner (.mk y o))=true)) (fun bd _ _=>xs.length-(intOf bd).toNat);case atStart=>exact⟨0,by omega,rfl,xY,fun m _ h=>by omega⟩
 case round=>
  obtain⟨j,d9,rfl,E⟩:=hrel;have K:Below w.1.size w wr:=aj.out.trans (E.out.1.mono aj.out.size);have cv:wr.cell? ⟨w.1.size,4,none⟩=some (.slice p xs.length c):=ac E.out.1 bl.out.1;have be:wr.cell? ⟨w.1.size+1,1,none⟩=some (.slice q o.length e):=ac E.out.1 bl.out.2;by_cases M:j<xs.length
  ·obtain⟨er,b9,b4⟩:=c6.out j M;obtain⟨I,ci,Y,b3,eu,cb,b5⟩:=c5.out (by omega);obtain⟨bx,L,ck,cj,bX,ct,cq,co,bO,rfl,_,rfl,bn,bp,bq,bs,bN⟩:=(b4.on K).lies;obtain⟨a5,bc,cn,cs,cp,bT,rfl,_,rfl,a3,a4⟩:=(b5.on K).lies;rw[Nat.zero_mul,Nat.add_zero] at a3 a4;have b6:o.length=1:=(by rw[ci];rfl);rw[b6] at be;have R:Hid (∀w',Below w.1.size w w'->Calls Tryz.prog 190 #[.agg #[.int .i64 ck,.int .i64 cj,.float .f64 bX,.string ct,.slice cq co bO],.agg #[.int .i64 cn,.slice cs cp bT]] w' fun e ds=>e=.returned (.bool (Sch.of xs[j] (Sch.inner (.mk y o))))∧Below w'.1.size w' ds):=fun w' hb=>by
    rw[b3];exact cx.out _ (List.getElem_mem M) I (d+1) w' _ _ (cw.out _ (List.getElem_mem M)) Y (b9.on hb) (cb.on hb)
   have ak:=xX K;have bj:=xX E.out.1;have ah:=xX E.out.2;have ea:(j:Int)<(xs.length:Int):=(by omega);obtain⟨r,a7⟩:∃r,r=Sch.of xs[j] (Sch.inner (.mk y o)):=⟨_,rfl⟩;rw[<-a7] at R;have bk:=xX a7;clear b9 cb b4 b5 K E a7 b3 Y ci b6;go_wp2_with fail
   go_region_held3 (fun w'=>w'.cell? ⟨bx,L+j*5,none⟩=some (.int .i64 ck)∧w'.cell? ⟨bx,L+j*5+1,none⟩=some (.int .i64 cj)∧w'.cell? ⟨bx,L+j*5+2,none⟩=some (.float .f64 bX)∧w'.cell? ⟨bx,L+j*5+3,none⟩=some (.string ct)∧w'.cell? ⟨bx,L+j*5+4,none⟩=some (.slice cq co bO)∧w'.cell? ⟨a5,bc,none⟩=some (.int .i64 cn)∧w'.cell? ⟨a5,bc+1,none⟩=some (.slice cs cp bT)∧w'.cell? ⟨w.1.size,4,none⟩=some (.slice (some ⟨bx,L,none⟩) xs.length c)∧w'.cell? ⟨w.1.size+1,1,none⟩=some (.slice (some ⟨a5,bc,none⟩) 1 e)) (go_keep) (first|(go_at_call 190;refine(R.out _ (below_drewN ak.out _)).mono ?_;rintro e w4 ⟨rfl,b0⟩;have A:=cF (w:=wr) b0 (by rfl) (by rfl) (by rfl) (by rfl);have d1:=ac A bn;have d2:=ac A bp;have d3:=ac A bq;have d4:=ac A bs;have d5:=ac A bN;have d6:=ac A a3;have d7:=ac A a4;have dv:=ac A cv;have d0:=ac A be;have O:=xX A;clear b0 A))
   clear d1 d2 d3 d4 d5 d6 d7 dv d0 bn bp bq bs bN a3 a4 cv be;cases r with
   |true=>
    have cy:Hid (Below D.1.size D w4∧∀m (z:m<xs.length),m<j+1->Sch.of xs[m] (Sch.inner (.mk y o))=true):=by
     refine⟨bj.out.trans (O.out.mono bj.out.size),fun m z b7=>?_⟩;by_cases dd:m=j
     ·subst dd;exact bk.out.symm
     ·exact ah.out m z (by omega)
    clear O ah R;go_wp2;go_roundw;case rel=>exact⟨j+1,by omega,by go_num,cy⟩
    case measure=>simp[intOf];omega
   |false=>
    have a1:Hid (xs.all (fun x=>Sch.of x (Sch.inner (.mk y o)))=false):=by
     show _=_;rw[List.all_eq_false];exact⟨xs[j],List.getElem_mem M,by rw[<-bk.out];decide⟩
    have a0:=xX (ak.out.trans (O.out.mono ak.out.size));clear O ah R;go_wp2;go_ret;exact⟨by rw[U.out,a1.out];rfl,a0.out⟩
  ·have a1:Hid (xs.all (fun x=>Sch.of x (Sch.inner (.mk y o)))=true):=by
    show _=_;rw[List.all_eq_true];intro x X;obtain⟨m,b7,rfl⟩:=List.getElem_of_mem X;exact E.out.2 m b7 (by omega)
   have a0:=xX K;have eb:¬(j:Int)<(xs.length:Int):=(by omega);clear E K M;go_wp2;go_ret;exact⟨by rw[U.out,a1.out];rfl,a0.out⟩
theorem vJ(x:V)(y:Ty)(w:World)(u v:AV)(a9:aC w u x)(bb:aD w v y):Calls Tryz.prog 172 #[.agg u,.agg v] w fun e w'=>e=.returned (.bool (Sch.is x y))∧Below w.1.size w w':=by
 obtain⟨k,i,b,t,xs⟩:=x;obtain⟨D,E⟩:=y;obtain⟨p,c,rfl,-⟩:=a9.open;obtain⟨q,e,rfl,-⟩:=bb.open;obtain⟨o,a0⟩:∃o,o=(w.alloc (.cells (cells5 k i b t p xs.length c) 77)).alloc (.cells (al D q E.length e) 73):=⟨_,rfl⟩;have ah:Hid (Below w.1.size w o):=by rw[a0];exact xV.alloc (by simp) _
 have a4:=xX (a9.on ah.out);have a3:=xX (bb.on ah.out);have bd:=xX (fun w' (hb:Below o.1.size o w')=>fe _ w' _ (a3.out.on hb));have be:=xX (fun w' (hb:Below o.1.size o w')=>jW _ w' _ (a4.out.on hb));have HI:Hid (Sch.is (.mk k i b t xs) (.mk D E)=(decide (Ty.check 1 (.mk D E)=0)&&decide (chk 1 (.mk k i b t xs)=0)&&Sch.of (.mk k i b t xs) (.mk D E))):=rfl;have I:=xX (fun w' (hb:Below o.1.size o w') A J=>vI _ _ 1 w' _ _ A J (a4.out.on hb) (a3.out.on hb));have a5:Hid (o.cell? ⟨w.1.size,0,none⟩=some (.int .i64 k)∧o.cell? ⟨w.1.size,1,none⟩=some (.int .i64 i)∧o.cell? ⟨w.1.size,2,none⟩=some (.float .f64 b)∧o.cell? ⟨w.1.size,3,none⟩=some (.string t)∧o.cell? ⟨w.1.size,4,none⟩=some (.slice p xs.length c)∧o.cell? ⟨w.1.size+1,0,none⟩=some (.int .i64 D)∧o.cell? ⟨w.1.size+1,1,none⟩=some (.slice q E.length e)):=by rw[a0];exact⟨by simp[cells5],by simp[cells5],by simp[cells5],by simp[cells5],by simp[cells5],by simp[al],by simp[al]⟩
 have bj:=xX a0;obtain⟨M,bk⟩:∃M,M=Sch.is (.mk k i b t xs) (.mk D E):=⟨_,rfl⟩;rw[<-bk] at HI ⊢;obtain⟨O,a7⟩:∃O,O=Ty.check 1 (.mk D E):=⟨_,rfl⟩;have bs:=xX a7;rw[<-a7] at bd HI I;obtain⟨R,a8⟩:∃R,R=chk 1 (.mk k i b t xs):=⟨_,rfl⟩;have bN:=xX a8;rw[<-a8] at be HI I;obtain⟨a6,bp⟩:∃a6,a6=Sch.of (.mk k i b t xs) (.mk D E):=⟨_,rfl⟩;rw[<-bp] at HI I;clear a0 a9 bb bk a7 a8 bp a4 a3;unfold cells5 al at *
 go_enter Tryz.func172,Tryz.ntmps172;go_wp2_with fail;rw[<-bj.out];clear bj;refine(bd.out _ xY).mono ?_;rintro e w1 ⟨rfl,K⟩;obtain⟨U,W,X,Y,Z,a1,a2⟩:=a5.out;have c0:=ac K U;have c1:=ac K W;have c2:=ac K X;have c3:=ac K Y;have c4:=ac K Z;have aj:=xX K;clear U W X Y Z a1 a2 K;go_wp2_with fail;refine(be.out w1 aj.out).mono ?_;rintro e b2 ⟨rfl,bl⟩;have z:=xX (aj.out.trans (bl.mono aj.out.size));have ak:=xX (ah.out.trans (z.out.mono ah.out.size));clear bl aj c0 c1 c2 c3 c4;by_cases A:O=0
 ·have b0:((O:Int)==0)=true:=bQ (by omega);by_cases J:R=0
  ·have b1:((R:Int)==0)=true:=bQ (by omega);obtain⟨U,W,X,Y,Z,a1,a2⟩:=a5.out;have c0:=ac z.out U;have c1:=ac z.out W;have c2:=ac z.out X;have c3:=ac z.out Y;have c4:=ac z.out Z;have bT:=ac z.out a1;have bX:=ac z.out a2;have L:Hid (M=a6):=(by show _=_;rw[HI.out,decide_eq_true A,decide_eq_true J];rfl);have bO:=xX (I.out b2 z.out J A);clear U W X Y Z a1 a2 A J HI I a5 bs bN;go_wp2_with fail;refine bO.out.mono ?_;rintro e b3 ⟨rfl,bn⟩;have bq:=xX (ak.out.trans (bn.mono ak.out.size));clear bn c0 c1 c2 c3 c4 bT bX;go_wp2;go_ret;exact⟨by rw[L.out];rfl,bq.out⟩
  ·have b1:((R:Int)==0)=false:=aK (by omega);have L:Hid (M=false):=(by show _=_;rw[HI.out,decide_eq_false J,Bool.and_false,Bool.false_and]);clear A J HI I;go_wp2;go_ret;exact⟨by rw[L.out];rfl,ak.out⟩
 ·have b0:((O:Int)==0)=false:=aK (by omega);have L:Hid (M=false):=by show _=_;rw[HI.out,decide_eq_false A,Bool.false_and,Bool.false_and]
  clear A HI I;go_wp2;go_ret;exact⟨by rw[L.out];rfl,ak.out⟩
end
section
theorem iO:∀(s t:List Col),s.length≠t.length->Sch.same s t=false
 | [],[],h=>absurd rfl h
 | [],_::_,_=>rfl
 |_::_,[],_=>rfl
 |c::s,d::t,h=>by rw[Sch.same,iO s t (by simpa using h),Bool.and_false]
theorem iP:∀(s t:List Col) (j:Nat) (o:j<s.length) (y:j<t.length),Sch.colSame s[j] t[j]=false->Sch.same s t=false
 |c::s,d::t,0,_,_,h=>by rw[Sch.same];simp at h;rw[h,Bool.false_and]
 |c::s,d::t,j+1,o,y,h=>by rw[Sch.same,iP s t j (by simpa using o) (by simpa using y) (by simpa using h),Bool.and_false]
theorem gA:∀(s t:List Col),s.length=t.length->(∀j (o:j<s.length) (y:j<t.length),Sch.colSame s[j] t[j]=true)->Sch.same s t=true
 | [],[],_,_=>rfl
 | [],_::_,h,_=>by simp at h
 |_::_,[],h,_=>by simp at h
 |c::s,d::t,h,ha=>by
  rw[Sch.same,gA s t (by simpa using h) (fun j o y=>by have:=ha (j+1) (by simpa using o) (by simpa using y);simpa using this)];have:=ha 0 (by simp) (by simp);simp at this;rw[this];rfl
end
end Go.Proofs.YtdkammppnkhhoaaGreatDoor

import Derived.Test.YtdkammppnkhhoaaGreatDoorB04
set_option maxRecDepth 100000
set_option maxHeartbeats 2000000
namespace Go.Proofs.YtdkammppnkhhoaaGreatDoor
variable{m n:Nat}{xs:L8}
section
open Go.RowKit
def Leb.Putting(n:Nat)(xs:L8)(m:Nat):Prop:=xs.length<=9∧m<2*128 ^ (9-xs.length)∧Leb.put n=xs++Leb.putF (10-xs.length) m
theorem Leb.putting_start(h:n<18446744073709551616):Leb.Putting n [] n:=by
 have e:2*128 ^ 9=18446744073709551616:=by decide
 exact⟨by simp,by simpa[e] using h,rfl⟩
theorem Leb.putting_next(h:Leb.Putting n xs m)(E:127<m):Leb.Putting n (xs++[UInt8.ofNat (m % 128+128)]) (m / 128):=by
 obtain⟨A,o,z⟩:=h;have D:xs.length<=8:=by
  rcases Nat.lt_or_ge 8 xs.length with y | y
  ·have:9-xs.length=0:=(by omega);rw[this] at o;simp at o;omega
  ·exact y
 refine⟨by simp;omega,?_,?_⟩
 ·have e:9-xs.length=(9-(xs++[UInt8.ofNat (m % 128+128)]).length)+1:=by simp;omega
  rw[e,Nat.pow_succ] at o;rw[Nat.div_lt_iff_lt_mul (by omega)];omega
 ·have e:10-xs.length=(10-(xs++[UInt8.ofNat (m % 128+128)]).length)+1:=by simp;omega
  rw[z,e,Leb.putF,if_neg (by omega),List.append_assoc];rfl
theorem Leb.putting_last(h:Leb.Putting n xs m)(A:m<=127):xs++[UInt8.ofNat m]=Leb.put n:=by
 obtain⟨y,z,o⟩:=h;have e:10-xs.length=(9-xs.length)+1:=by omega
 rw[o,e,Leb.putF,if_pos (by omega)]
theorem cN(n:Nat)(J:n<18446744073709551616)(w:World):
  Calls Tryz.prog 151 #[.int .u64 n] w fun e w'=>∃g cap,e=.returned (.slice (some ⟨g,0,none⟩) (Leb.put n).length cap)∧bA w' w.1.size g cap (Leb.put n)∧Below w.1.size w w':=by
 have K:=xX (Leb.putting_start J);go_enter Tryz.func151,Tryz.ntmps151;go_wp2;go_loopw [0,3] (fun D M wr=>∃(m:Nat) (xs:L8),D=.int .u64 m∧m<18446744073709551616∧xs.length<=9∧Hid (Leb.Putting n xs m∧Has wr w.1.size M xs∧Below w.1.size w wr)) (fun D _ _=>(intOf D).toNat);case atStart=>exact⟨n,[],rfl,J,by simp,K.out,aI _ _,xY⟩
 case round=>
  obtain⟨m,xs,rfl,O,R,y⟩:=hrel;have I:=y.out.2.2.size;have E:=xX y.out.2.1;by_cases L:127<m
  ·have z:=Leb.byte_high m;have o:=xX (Leb.putting_next y.out.1 L);generalize UInt8.ofNat (m % 128+128)=c at z o;go_wp2_with (at_builtin;refine aW E.out c (by omega) I (by omega) rfl rfl rfl rfl rfl ?_;intro g cap W A hb);go_roundw;case rel=>exact⟨m / 128,xs++[c],by go_num,by omega,by have:=o.out.1;exact this,o.out,by have:=A.has;simpa using this,y.out.2.2.trans hb⟩
   case measure=>simp[intOf];omega
  ·have z:=Leb.byte_low m (by omega);have o:=xX (Leb.putting_last y.out.1 (by omega));generalize UInt8.ofNat m=c at z o;go_wp2_with (at_builtin;refine aW E.out c (by omega) I (by omega) rfl rfl rfl rfl rfl ?_;intro g cap W A hb);go_ret;refine⟨g,cap,?_,?_,y.out.2.2.trans hb⟩
   ·rw[<-o.out];simp
   ·rw[<-o.out];exact A
theorem nd(n:Int)(z:-9223372036854775808<=n)(A:n<=9223372036854775807)(w:World):
  Calls Tryz.prog 191 #[.int .i64 n] w fun e w'=>e=.returned (.int .u64 (Leb.zig n:Nat))∧w'=w:=by
 by_cases y:0<=n
 ·have o:Hid (((Leb.zig n:Nat):Int)=2*n):=by
   show _=_;unfold Leb.zig;rw[if_pos y];omega
  go_enter Tryz.func191,Tryz.ntmps191;go_wp2;go_ret;exact⟨by rw[o.out];rfl,rfl⟩
 ·have o:Hid (((Leb.zig n:Nat):Int)=2*(-(n+1))+1):=by
   show _=_;unfold Leb.zig;rw[if_neg y];omega
  go_enter Tryz.func191,Tryz.ntmps191;go_wp2;go_ret;exact⟨by rw[o.out];go_num,rfl⟩
theorem iQ(u:Nat)(h:u<18446744073709551616)(w:World):
  Calls Tryz.prog 185 #[.int .u64 u] w fun e w'=>e=.returned (.int .i64 (Leb.zag u))∧w'=w:=by
 by_cases o:u % 2=0
 ·have y:Hid (Leb.zag u=((u / 2:Nat):Int)):=by
   show _=_;unfold Leb.zag;rw[if_pos o]
  have hb:((u:Int) % 2==0)=true:=by rw[beq_iff_eq];omega
  clear o;go_enter Tryz.func185,Tryz.ntmps185;go_wp2;go_ret;exact⟨by rw[y.out];go_num,rfl⟩
 ·have y:Hid (Leb.zag u=-((u / 2:Nat):Int)-1):=by
   show _=_;unfold Leb.zag;rw[if_neg o]
  have hb:((u:Int) % 2==0)=false:=by rw[beq_eq_false_iff_ne];omega
  clear o;go_enter Tryz.func185,Tryz.ntmps185;go_wp2;go_ret;exact⟨by rw[y.out];go_num,rfl⟩
end
section
open Go.RowKit
def eF(l:L8)(a:Int):Value:=.tuple #[.int .u64 ((Leb.getAt l a).n:Nat),.int .i64 (Leb.nextAt l a),.int .i64 ((Leb.getAt l a).err:Nat)]
theorem fU(l:L8)(a:Int)(h:a<0∨(l.length:Int)<=a):eF l a=.tuple #[.int .u64 0,.int .i64 0,.int .i64 30]:=by
 have e:Leb.getAt l a=⟨30,0,0⟩:=by
  unfold Leb.getAt;by_cases o:a<0
  ·rw[if_pos o]
  ·rw[if_neg o,List.drop_eq_nil_of_le (by omega)];rfl
 unfold eF Leb.nextAt;rw[e];rfl
theorem cY(l:L8)(a:Nat)(c:Nat)(o:c≠0)(h:Leb.get (l.drop a)=⟨c,0,0⟩):eF l a=.tuple #[.int .u64 0,.int .i64 0,.int .i64 c]:=by
 have e:Leb.getAt l a=⟨c,0,0⟩:=by
  unfold Leb.getAt;rw[if_neg (by omega)];exact h
 unfold eF Leb.nextAt;rw[e,if_neg o];rfl
theorem iz(l:L8)(a n k:Nat)(h:Leb.get (l.drop a)=⟨0,n,k⟩):eF l a=.tuple #[.int .u64 n,.int .i64 ((a:Int)+k),.int .i64 0]:=by
 have e:Leb.getAt l a=⟨0,n,k⟩:=by
  unfold Leb.getAt;rw[if_neg (by omega)];exact h
 unfold eF Leb.nextAt;rw[e,if_pos rfl];rfl
theorem nB(p:OA)(c n:Nat)(a:Int)(h:a<0∨(n:Int)<=a)(w:World):
  Calls Tryz.prog 113 #[.slice p n c,.int .i64 a] w fun e w'=>e=.returned (.tuple #[.int .u64 0,.int .i64 0,.int .i64 30])∧w'=w:=by
 by_cases o:a<0
 ·go_enter Tryz.func113,Tryz.ntmps113;go_wp2
  go_ret3
  exact⟨rfl,rfl⟩
 ·have y:(n:Int)<=a:=by omega
  have z:decide (a<0)=false:=decide_eq_false o;go_enter Tryz.func113,Tryz.ntmps113;go_wp2
  go_ret3
  exact⟨rfl,rfl⟩
theorem pM(b o c a:Nat)(l:L8)(b5:l.length<=140737488351232)(b2:a<l.length)(w:World)(J:bR w b o l):
  Calls Tryz.prog 113 #[.slice (some ⟨b,o,none⟩) l.length c,.int .i64 a] w fun e w'=>e=.returned (eF l a)∧w'=w:=by
 obtain⟨r,aj⟩:∃r,r=l.drop a:=⟨_,rfl⟩;have b6:r.length=l.length-a:=by rw[aj,List.length_drop]
 have a1:Hid (∀j (h:j<r.length),w.cell? ⟨b,o+(a+j),none⟩=some (.int .u8 (r[j].toNat:Int))):=by
  intro j h;have:=J (a+j) (by omega);rw[this];subst aj;rw[List.getElem_drop]
 have R:Hid (∀e n k,Leb.get r=⟨e,n,k⟩->Leb.get (l.drop a)=⟨e,n,k⟩):=by
  intro e n k h;rw[<-aj];exact h
 clear J aj;go_enter Tryz.func113,Tryz.ntmps113;go_wp2;go_loop [7] (fun bb=>∃k:Nat,k<=10∧k<=r.length∧bb=.int .i64 k∧Hid (∀j (h:j<r.length),j<k->127<r[j].toNat)) (fun bb=>10-(intOf bb).toNat);case atStart=>exact⟨0,by omega,by omega,rfl,fun j h b1=>by omega⟩
 case round=>
  obtain⟨k,b3,be,rfl,E⟩:=hrel;by_cases bl:k=10
  ·subst bl;have y:=xX (cY l a 5 (by omega) (R.out _ _ _ ((Leb.getF_high 10 true r).1 (Leb.high_eq 10 r 10 (by omega) be E.out (.inl rfl)))));have bn:decide ((10:Int)<10)=false:=(by decide);clear E;go_wp2
   go_ret3
   exact⟨by rw[y.out];rfl,rfl⟩
  ·have bn:(k:Int)<10:=(by omega);by_cases bO:k=r.length
   ·subst bO;have O:=Leb.high_eq 10 r r.length (by omega) (by omega) E.out (.inr (.inl rfl));have y:=xX (cY l a 30 (by omega) (R.out _ _ _ ((Leb.getF_high 10 true r).2.1 O (by omega))));have bp:decide ((r.length:Int)<(l.length:Int)-(a:Int))=false:=decide_eq_false (by omega);have bq:((r.length:Int)==10)=false:=(by rw[beq_eq_false_iff_ne];omega);have bs:((r.length:Int)==(l.length:Int)-(a:Int))=true:=(by rw[beq_iff_eq];omega);clear E O;go_wp2
    go_ret3
    exact⟨by rw[y.out];rfl,rfl⟩
   ·have bj:k<r.length:=(by omega);have a7:=a1.out k bj;have bp:(k:Int)<(l.length:Int)-(a:Int):=(by omega);by_cases W:127<r[k].toNat
    ·have D:Hid (∀j (h:j<r.length),j<k+1->127<r[j].toNat):=by
      intro j h a8;by_cases e:j=k
      ·subst e;exact W
      ·exact E.out j h (by omega)
     clear E;generalize r[k].toNat=v at a7 W;go_wp2;go_round;case rel=>exact⟨k+1,by omega,by omega,by go_num,D⟩
     case measure=>simp[intOf];omega
    ·have O:=Leb.high_eq 10 r k (by omega) be E.out (.inr (.inr ⟨bj,W⟩));have I:=(Leb.getF_high 10 true r).2.2 (by omega) (by omega);simp only[O] at I;have bq:((k:Int)==10)=false:=(by rw[beq_eq_false_iff_ne];omega);have bs:((k:Int)==(l.length:Int)-(a:Int))=false:=(by rw[beq_eq_false_iff_ne];omega);by_cases L:(k+1=10∧1<r[k].toNat)∨((true=false∨0<k)∧r[k].toNat=0)
     ·rw[if_pos L] at I;have a6:(k=9∧1<r[k].toNat)∨(0<k∧r[k].toNat=0):=by
       rcases L with ⟨x,M⟩ | ⟨x | x,M⟩
       ·exact .inl ⟨by omega,M⟩
       ·cases x
       ·exact .inr ⟨x,M⟩
      clear L;have y:=xX (cY l a 5 (by omega) (R.out _ _ _ I));clear I E O;generalize r[k].toNat=v at a7 W a6;by_cases a5:k=9
      ·subst a5;by_cases b0:1<v
       ·go_wp2
        go_ret3
        exact⟨by rw[y.out];rfl,rfl⟩
       ·have Z:v=0:=(by omega);subst Z;go_wp2
        go_ret3
        exact⟨by rw[y.out];rfl,rfl⟩
      ·have bN:((k:Int)==9)=false:=(by rw[beq_eq_false_iff_ne];omega);have Z:v=0:=(by omega);have bc:(0:Int)<(k:Int):=(by omega);subst Z;go_wp2
       go_ret3
       exact⟨by rw[y.out];rfl,rfl⟩
     ·rw[if_neg L] at I;have a6:¬((k=9∧1<r[k].toNat)∨(0<k∧r[k].toNat=0)):=by
       rintro(⟨x,M⟩ | ⟨x,M⟩)
       ·exact L (.inl ⟨by omega,M⟩)
       ·exact L (.inr ⟨.inr x,M⟩)
      clear L;have a9:=Leb.get_ok r (by rw[show Leb.get r=_ from I]);rw[show Leb.get r=_ from I] at a9;have bT:Leb.val (r.take (k+1))<18446744073709551616:=a9.1;have y:=xX (iz l a _ _ (R.out _ _ _ I));clear I E O a9;obtain⟨t,ak⟩:∃t,t=r.take (k+1):=⟨_,rfl⟩;have bX:t.length=k+1:=(by rw[ak,List.length_take];omega);have a4:Hid (∀j (h:j<t.length),w.cell? ⟨b,o+(a+j),none⟩=some (.int .u8 (t[j].toNat:Int))):=by
       intro j h;rw[a1.out j (by omega)];subst ak;rw[List.getElem_take]
      rw[<-ak] at y bT;clear ak;have a2:Hid (Leb.val (t.drop (k+1))=0):=by
       show _=_;rw[<-bX,List.drop_length];rfl
      have a3:Hid (∀j,Leb.val (t.drop j)<=Leb.val t):=fun j=>Leb.val_drop_le t j;generalize r[k].toNat=v at a7 W a6;clear a1 R;by_cases a5:k=9
      ·subst a5;have b0:¬(1:Int)<(v:Int):=(by omega);have Z:((v:Int)==0)=false:=(by rw[beq_eq_false_iff_ne];omega);go_wp2;go_loop [8,9] (fun ah A=>∃(j m:Nat),j<=9+1∧A=.int .i64 ((j:Int)-1)∧ah=.int .u64 m∧m<18446744073709551616∧Hid (m=Leb.val (t.drop j))) (fun _ A=>(intOf A+1).toNat);case atStart=>exact⟨9+1,0,by omega,by go_num,rfl,by omega,a2.out.symm⟩
       case round=>
        obtain⟨j,m,a8,rfl,rfl,bk,HM⟩:=hrel;by_cases X:j=0
        ·subst X;have U:Hid (m=Leb.val t):=HM;clear HM;go_wp2
         go_ret3
         exact⟨by rw[y.out,U.out] <;> rfl,rfl⟩
        ·obtain⟨i,rfl⟩:∃i,j=i+1:=⟨j-1,by omega⟩;have J:=a4.out i (by omega);have z:=Leb.val_drop t i (by omega);rw[<-HM.out] at z;have Y:=a3.out i;have V:t[i].toNat<256:=t[i].toNat_lt;have D:Hid (m*128+t[i].toNat % 128=Leb.val (t.drop i)):=z.symm;have K:m*128+t[i].toNat % 128<18446744073709551616:=(by omega);clear z HM Y;generalize t[i].toNat=c at J V D K;go_wp2;go_round;case rel=>exact⟨i,m*128+c % 128,by omega,by go_num,by go_num,K,D⟩
         case measure=>simp[intOf] <;> omega
      ·have bN:((k:Int)==9)=false:=(by rw[beq_eq_false_iff_ne];omega);by_cases bc:k=0
       ·have bd:decide ((0:Int)<(k:Int))=false:=decide_eq_false (by omega);have b4:(k:Int)<=0:=(by omega);clear bc bd;go_wp2;go_loop [8,9] (fun ah A=>∃(j m:Nat),j<=k+1∧A=.int .i64 ((j:Int)-1)∧ah=.int .u64 m∧m<18446744073709551616∧Hid (m=Leb.val (t.drop j))) (fun _ A=>(intOf A+1).toNat);case atStart=>exact⟨k+1,0,by omega,by go_num,rfl,by omega,a2.out.symm⟩
        case round=>
         obtain⟨j,m,a8,rfl,rfl,bk,HM⟩:=hrel;by_cases X:j=0
         ·subst X;have U:Hid (m=Leb.val t):=HM;clear HM;go_wp2
          go_ret3
          exact⟨by rw[y.out,U.out] <;> rfl,rfl⟩
         ·obtain⟨i,rfl⟩:∃i,j=i+1:=⟨j-1,by omega⟩;have J:=a4.out i (by omega);have z:=Leb.val_drop t i (by omega);rw[<-HM.out] at z;have Y:=a3.out i;have V:t[i].toNat<256:=t[i].toNat_lt;have D:Hid (m*128+t[i].toNat % 128=Leb.val (t.drop i)):=z.symm;have K:m*128+t[i].toNat % 128<18446744073709551616:=(by omega);clear z HM Y;generalize t[i].toNat=c at J V D K;go_wp2;go_round;case rel=>exact⟨i,m*128+c % 128,by omega,by go_num,by go_num,K,D⟩
          case measure=>simp[intOf] <;> omega
       ·have bd:(0:Int)<(k:Int):=(by omega);have Z:((v:Int)==0)=false:=(by rw[beq_eq_false_iff_ne];omega);go_wp2;go_loop [8,9] (fun ah A=>∃(j m:Nat),j<=k+1∧A=.int .i64 ((j:Int)-1)∧ah=.int .u64 m∧m<18446744073709551616∧Hid (m=Leb.val (t.drop j))) (fun _ A=>(intOf A+1).toNat);case atStart=>exact⟨k+1,0,by omega,by go_num,rfl,by omega,a2.out.symm⟩
        case round=>
         obtain⟨j,m,a8,rfl,rfl,bk,HM⟩:=hrel;by_cases X:j=0
         ·subst X;have U:Hid (m=Leb.val t):=HM;clear HM;go_wp2
          go_ret3
          exact⟨by rw[y.out,U.out] <;> rfl,rfl⟩
         ·obtain⟨i,rfl⟩:∃i,j=i+1:=⟨j-1,by omega⟩;have J:=a4.out i (by omega);have z:=Leb.val_drop t i (by omega);rw[<-HM.out] at z;have Y:=a3.out i;have V:t[i].toNat<256:=t[i].toNat_lt;have D:Hid (m*128+t[i].toNat % 128=Leb.val (t.drop i)):=z.symm;have K:m*128+t[i].toNat % 128<18446744073709551616:=(by omega);clear z HM Y;generalize t[i].toNat=c at J V D K;go_wp2;go_round;case rel=>exact⟨i,m*128+c % 128,by omega,by go_num,by go_num,K,D⟩
          case measure=>simp[intOf] <;> omega
theorem iX(p:OA)(c:Nat)(l:L8)(a:Int)(z:l.length<=140737488351232)(w:World)(h:At w p l):
  Calls Tryz.prog 113 #[.slice p l.length c,.int .i64 a] w fun e w'=>e=.returned (eF l a)∧w'=w:=by
 by_cases o:a<0∨(l.length:Int)<=a
 ·rw[fU l a o];exact nB p c l.length a o w
 ·obtain⟨n,rfl⟩:∃n:Nat,a=(n:Int):=⟨a.toNat,by omega⟩;obtain⟨b,A,rfl,_,y⟩:=aL h (by omega);exact pM b A c n l z (by omega) w y
end
section
open Go.RowKit
theorem bK(t:ByteArray)(i:Nat)(h:i<t.size):t.data.toList[i]'(by simpa using h)=t[i]:=by rw[Array.getElem_toList];rfl
theorem kA(t:ByteArray)(b8:t.size<=281474976702464)(w:World):Calls Tryz.prog 187 #[.string t] w fun e w'=>e=.returned (.bool (U8.utf t.data.toList))∧w'=w:=by
 go_enter Tryz.func187,Tryz.ntmps187;go_wp2;go_loop [3,4,5,6,7,16,19,28,37] (fun bj _ _ _ _ _ _ _ _=>∃a:Nat,a<=t.size∧bj=.int .i64 a∧Hid (U8.utf t.data.toList=U8.utf (t.data.toList.drop a))) (fun bj _ _ _ _ _ _ _ _=>t.size-(intOf bj).toNat);case atStart=>exact⟨0,by omega,rfl,rfl⟩
 case round=>
  obtain⟨a,b5,rfl,z⟩:=hrel;by_cases a4:a<t.size
  ·have b7:(a:Int)<(t.size:Int):=(by omega);have b6:=t[a].toNat_lt;have Z:t.data.toList.length=t.size:=(by simp);have J:a<t.data.toList.length:=(by omega);have L:t.data.toList.drop a≠[]:=by
    intro bT;have:=congrArg List.length bT;rw[List.length_drop] at this;simp at this;omega
   by_cases b9:t[a].toNat<128
   ·have bX:(t[a].toNat:Int)<128:=(by omega);have y:Hid (U8.kind t.data.toList[a].toNat=some (1,t[a].toNat-0,0)):=by
     show _=_;rw[bK t a a4];unfold U8.kind;rw[if_pos (by omega),Nat.sub_zero]
    have a9:((t[a].toNat:Int)-0)=((t[a].toNat-0:Nat):Int):=(by omega);have U:=xX (U8.in_start t.data.toList a 1 (t[a].toNat-0) (by omega));go_wp2;go_loop [4,7] (fun a0 R=>∃i v:Nat,1<=i∧i<=1∧a0=.int .i64 v∧R=.int .i64 i∧Hid (U8.Inner t.data.toList a 1 (t[a].toNat-0) i v)) (fun _ R=>1-(intOf R).toNat);case atStart=>exact⟨1,t[a].toNat-0,by omega,by omega,rfl,rfl,U.out⟩
    case round=>
     obtain⟨i,v,a1,a8,rfl,rfl,A⟩:=hrel;clear U;have W:i=1:=(by omega);subst W;have D:=xX (U8.in_end A.out);have bb:=A.out.2.2.2.2;by_cases bc:1114111<v
     ·have ah:(1114111:Int)<(v:Int):=(by omega);have E:Hid (U8.utf t.data.toList=false):=by
       show _=_;have I:U8.may 0 v=false:=(by simp[U8.may];omega);have o:=U8.one_may J y.out D.out;rw[I] at o;rw[z.out];exact U8.utf_bad L o
      clear A D y z;go_wp2;go_ret;exact⟨by rw[E.out];rfl,rfl⟩
     have ah:¬(1114111:Int)<(v:Int):=(by omega);by_cases bd:55296<=v
     ·have aj:(55296:Int)<=(v:Int):=(by omega);by_cases be:v<=57343
      ·have ak:(v:Int)<=57343:=(by omega);have E:Hid (U8.utf t.data.toList=false):=by
        show _=_;have I:U8.may 0 v=false:=(by simp[U8.may];omega);have o:=U8.one_may J y.out D.out;rw[I] at o;rw[z.out];exact U8.utf_bad L o
       clear A D y z;go_wp2;go_ret;exact⟨by rw[E.out];rfl,rfl⟩
      have ak:¬(v:Int)<=57343:=(by omega);have K:Hid (U8.utf t.data.toList=U8.utf (t.data.toList.drop (a+1))∧a+1<=t.size):=by
       have I:U8.may 0 v=true:=(by simp[U8.may];omega);have o:=U8.one_may J y.out D.out;rw[I,if_pos rfl] at o;have O:=(U8.one_len o).2;rw[List.length_drop,Z] at O;refine⟨?_,by omega⟩;rw[z.out,U8.utf_step o,List.drop_drop]
      clear A D y z;go_wp2;go_round;case rel=>exact⟨a+1,K.out.2,by go_num,K.out.1⟩
      case measure=>simp[intOf];omega
     have aj:¬(55296:Int)<=(v:Int):=(by omega);have K:Hid (U8.utf t.data.toList=U8.utf (t.data.toList.drop (a+1))∧a+1<=t.size):=by
      have I:U8.may 0 v=true:=(by simp[U8.may];omega);have o:=U8.one_may J y.out D.out;rw[I,if_pos rfl] at o;have O:=(U8.one_len o).2;rw[List.length_drop,Z] at O;refine⟨?_,by omega⟩;rw[z.out,U8.utf_step o,List.drop_drop]
     clear A D y z;go_wp2;go_round;case rel=>exact⟨a+1,K.out.2,by go_num,K.out.1⟩
     case measure=>simp[intOf];omega
   have bX:¬(t[a].toNat:Int)<128:=(by omega);by_cases b0:192<=t[a].toNat∧t[a].toNat<224
   ·obtain⟨cb,cc⟩:=b0;have bs:(192:Int)<=(t[a].toNat:Int):=(by omega);have bN:(t[a].toNat:Int)<224:=(by omega);have y:Hid (U8.kind t.data.toList[a].toNat=some (2,t[a].toNat-192,128)):=by
     show _=_;rw[bK t a a4];unfold U8.kind;rw[if_neg (by omega),if_pos (by omega)]
    have a9:((t[a].toNat:Int)-192)=((t[a].toNat-192:Nat):Int):=(by omega);have U:=xX (U8.in_start t.data.toList a 2 (t[a].toNat-192) (by omega));go_wp2;go_loop [4,7] (fun a0 R=>∃i v:Nat,1<=i∧i<=2∧a0=.int .i64 v∧R=.int .i64 i∧Hid (U8.Inner t.data.toList a 2 (t[a].toNat-192) i v)) (fun _ R=>2-(intOf R).toNat);case atStart=>exact⟨1,t[a].toNat-192,by omega,by omega,by go_num,rfl,U.out⟩
    case round=>
     obtain⟨i,v,a1,a8,rfl,rfl,A⟩:=hrel;clear U;by_cases V:i<2
     ·have bl:(i:Int)<2:=(by omega);have bq:=A.out.2.2.2.1 (by omega);by_cases bn:t.size<=a+i
      ·have a5:(t.size:Int)<=(a:Int)+(i:Int):=(by omega);have E:Hid (U8.utf t.data.toList=false):=by
        show _=_;rw[z.out];exact U8.utf_bad L (U8.one_none J y.out (U8.in_short A.out V (by omega)))
       clear A y z;go_wp2;go_ret;exact⟨by rw[E.out];rfl,rfl⟩
      have a5:¬(t.size:Int)<=(a:Int)+(i:Int):=(by omega);have a6:a+i<t.size:=(by omega);have bp:(a:Int)+(i:Int)<(t.size:Int):=(by omega);have M:=bK t (a+i) a6;by_cases hb:128<=t[a+i].toNat∧t[a+i].toNat<192
      ·have X:=xX (U8.in_next A.out a1 V (by omega) (by omega) (by rw[M];exact hb));rw[M] at X;obtain⟨a2,bk⟩:=hb;have Y:¬(t[a+i].toNat:Int)<128:=(by omega);have a3:¬(192:Int)<=(t[a+i].toNat:Int):=(by omega);clear A y z M;go_wp2;go_round;case rel=>exact⟨i+1,_,by omega,by omega,by go_num,by go_num,X⟩
       case measure=>simp[intOf];omega
      ·have E:Hid (U8.utf t.data.toList=false):=by
        show _=_;rw[z.out];exact U8.utf_bad L (U8.one_none J y.out (U8.in_bad A.out V (by omega) (by rw[M];exact hb)))
       clear A y z M;by_cases a2:t[a+i].toNat<128
       ·have Y:(t[a+i].toNat:Int)<128:=(by omega);go_wp2;go_ret;exact⟨by rw[E.out];rfl,rfl⟩
       ·have Y:¬(t[a+i].toNat:Int)<128:=(by omega);have a3:(192:Int)<=(t[a+i].toNat:Int):=(by omega);go_wp2;go_ret;exact⟨by rw[E.out];rfl,rfl⟩
     have W:i=2:=(by omega);subst W;have D:=xX (U8.in_end A.out);have bb:=A.out.2.2.2.2;by_cases bO:v<128
     ·have a7:(v:Int)<128:=(by omega);have E:Hid (U8.utf t.data.toList=false):=by
       show _=_;have I:U8.may 128 v=false:=(by simp[U8.may];omega);have o:=U8.one_may J y.out D.out;rw[I] at o;rw[z.out];exact U8.utf_bad L o
      clear A D y z;go_wp2;go_ret;exact⟨by rw[E.out];rfl,rfl⟩
     have a7:¬(v:Int)<128:=(by omega);by_cases bc:1114111<v
     ·have ah:(1114111:Int)<(v:Int):=(by omega);have E:Hid (U8.utf t.data.toList=false):=by
       show _=_;have I:U8.may 128 v=false:=(by simp[U8.may];omega);have o:=U8.one_may J y.out D.out;rw[I] at o;rw[z.out];exact U8.utf_bad L o
      clear A D y z;go_wp2;go_ret;exact⟨by rw[E.out];rfl,rfl⟩
     have ah:¬(1114111:Int)<(v:Int):=(by omega);by_cases bd:55296<=v
     ·have aj:(55296:Int)<=(v:Int):=(by omega);by_cases be:v<=57343
      ·have ak:(v:Int)<=57343:=(by omega);have E:Hid (U8.utf t.data.toList=false):=by
        show _=_;have I:U8.may 128 v=false:=(by simp[U8.may];omega);have o:=U8.one_may J y.out D.out;rw[I] at o;rw[z.out];exact U8.utf_bad L o
       clear A D y z;go_wp2;go_ret;exact⟨by rw[E.out];rfl,rfl⟩
      have ak:¬(v:Int)<=57343:=(by omega);have K:Hid (U8.utf t.data.toList=U8.utf (t.data.toList.drop (a+2))∧a+2<=t.size):=by
       have I:U8.may 128 v=true:=(by simp[U8.may];omega);have o:=U8.one_may J y.out D.out;rw[I,if_pos rfl] at o;have O:=(U8.one_len o).2;rw[List.length_drop,Z] at O;refine⟨?_,by omega⟩;rw[z.out,U8.utf_step o,List.drop_drop]
      clear A D y z;go_wp2;go_round;case rel=>exact⟨a+2,K.out.2,by go_num,K.out.1⟩
      case measure=>simp[intOf];omega
     have aj:¬(55296:Int)<=(v:Int):=(by omega);have K:Hid (U8.utf t.data.toList=U8.utf (t.data.toList.drop (a+2))∧a+2<=t.size):=by
      have I:U8.may 128 v=true:=(by simp[U8.may];omega);have o:=U8.one_may J y.out D.out;rw[I,if_pos rfl] at o;have O:=(U8.one_len o).2;rw[List.length_drop,Z] at O;refine⟨?_,by omega⟩;rw[z.out,U8.utf_step o,List.drop_drop]
     clear A D y z;go_wp2;go_round;case rel=>exact⟨a+2,K.out.2,by go_num,K.out.1⟩
     case measure=>simp[intOf];omega
   by_cases b1:224<=t[a].toNat∧t[a].toNat<240
   ·obtain⟨ci,cj⟩:=b1;have bs:(192:Int)<=(t[a].toNat:Int):=(by omega);have bN:¬(t[a].toNat:Int)<224:=(by omega);have b2:(224:Int)<=(t[a].toNat:Int):=(by omega);have b3:(t[a].toNat:Int)<240:=(by omega);have y:Hid (U8.kind t.data.toList[a].toNat=some (3,t[a].toNat-224,2048)):=by
     show _=_;rw[bK t a a4];unfold U8.kind;rw[if_neg (by omega),if_neg (by omega),if_pos (by omega)]
    have a9:((t[a].toNat:Int)-224)=((t[a].toNat-224:Nat):Int):=(by omega);have U:=xX (U8.in_start t.data.toList a 3 (t[a].toNat-224) (by omega));go_wp2;go_loop [4,7] (fun a0 R=>∃i v:Nat,1<=i∧i<=3∧a0=.int .i64 v∧R=.int .i64 i∧Hid (U8.Inner t.data.toList a 3 (t[a].toNat-224) i v)) (fun _ R=>3-(intOf R).toNat);case atStart=>exact⟨1,t[a].toNat-224,by omega,by omega,by go_num,rfl,U.out⟩
    case round=>
     obtain⟨i,v,a1,a8,rfl,rfl,A⟩:=hrel;clear U;by_cases V:i<3
     ·have bl:(i:Int)<3:=(by omega);have bq:=A.out.2.2.2.1 (by omega);by_cases bn:t.size<=a+i
      ·have a5:(t.size:Int)<=(a:Int)+(i:Int):=(by omega);have E:Hid (U8.utf t.data.toList=false):=by
        show _=_;rw[z.out];exact U8.utf_bad L (U8.one_none J y.out (U8.in_short A.out V (by omega)))
       clear A y z;go_wp2;go_ret;exact⟨by rw[E.out];rfl,rfl⟩
      have a5:¬(t.size:Int)<=(a:Int)+(i:Int):=(by omega);have a6:a+i<t.size:=(by omega);have bp:(a:Int)+(i:Int)<(t.size:Int):=(by omega);have M:=bK t (a+i) a6;by_cases hb:128<=t[a+i].toNat∧t[a+i].toNat<192
      ·have X:=xX (U8.in_next A.out a1 V (by omega) (by omega) (by rw[M];exact hb));rw[M] at X;obtain⟨a2,bk⟩:=hb;have Y:¬(t[a+i].toNat:Int)<128:=(by omega);have a3:¬(192:Int)<=(t[a+i].toNat:Int):=(by omega);clear A y z M;go_wp2;go_round;case rel=>exact⟨i+1,_,by omega,by omega,by go_num,by go_num,X⟩
       case measure=>simp[intOf];omega
      ·have E:Hid (U8.utf t.data.toList=false):=by
        show _=_;rw[z.out];exact U8.utf_bad L (U8.one_none J y.out (U8.in_bad A.out V (by omega) (by rw[M];exact hb)))
       clear A y z M;by_cases a2:t[a+i].toNat<128
       ·have Y:(t[a+i].toNat:Int)<128:=(by omega);go_wp2;go_ret;exact⟨by rw[E.out];rfl,rfl⟩
       ·have Y:¬(t[a+i].toNat:Int)<128:=(by omega);have a3:(192:Int)<=(t[a+i].toNat:Int):=(by omega);go_wp2;go_ret;exact⟨by rw[E.out];rfl,rfl⟩
     have W:i=3:=(by omega);subst W;have D:=xX (U8.in_end A.out);have bb:=A.out.2.2.2.2;by_cases bO:v<2048
     ·have a7:(v:Int)<2048:=(by omega);have E:Hid (U8.utf t.data.toList=false):=by
       show _=_;have I:U8.may 2048 v=false:=(by simp[U8.may];omega);have o:=U8.one_may J y.out D.out;rw[I] at o;rw[z.out];exact U8.utf_bad L o
      clear A D y z;go_wp2;go_ret;exact⟨by rw[E.out];rfl,rfl⟩
     have a7:¬(v:Int)<2048:=(by omega);by_cases bc:1114111<v
     ·have ah:(1114111:Int)<(v:Int):=(by omega);have E:Hid (U8.utf t.data.toList=false):=by
       show _=_;have I:U8.may 2048 v=false:=(by simp[U8.may];omega);have o:=U8.one_may J y.out D.out;rw[I] at o;rw[z.out];exact U8.utf_bad L o
      clear A D y z;go_wp2;go_ret;exact⟨by rw[E.out];rfl,rfl⟩
     have ah:¬(1114111:Int)<(v:Int):=(by omega);by_cases bd:55296<=v
     ·have aj:(55296:Int)<=(v:Int):=(by omega);by_cases be:v<=57343
      ·have ak:(v:Int)<=57343:=(by omega);have E:Hid (U8.utf t.data.toList=false):=by
        show _=_;have I:U8.may 2048 v=false:=(by simp[U8.may];omega);have o:=U8.one_may J y.out D.out;rw[I] at o;rw[z.out];exact U8.utf_bad L o
       clear A D y z;go_wp2;go_ret;exact⟨by rw[E.out];rfl,rfl⟩
      have ak:¬(v:Int)<=57343:=(by omega);have K:Hid (U8.utf t.data.toList=U8.utf (t.data.toList.drop (a+3))∧a+3<=t.size):=by
       have I:U8.may 2048 v=true:=(by simp[U8.may];omega);have o:=U8.one_may J y.out D.out;rw[I,if_pos rfl] at o;have O:=(U8.one_len o).2;rw[List.length_drop,Z] at O;refine⟨?_,by omega⟩;rw[z.out,U8.utf_step o,List.drop_drop]
      clear A D y z;go_wp2;go_round;case rel=>exact⟨a+3,K.out.2,by go_num,K.out.1⟩
      case measure=>simp[intOf];omega
     have aj:¬(55296:Int)<=(v:Int):=(by omega);have K:Hid (U8.utf t.data.toList=U8.utf (t.data.toList.drop (a+3))∧a+3<=t.size):=by
      have I:U8.may 2048 v=true:=(by simp[U8.may];omega);have o:=U8.one_may J y.out D.out;rw[I,if_pos rfl] at o;have O:=(U8.one_len o).2;rw[List.length_drop,Z] at O;refine⟨?_,by omega⟩;rw[z.out,U8.utf_step o,List.drop_drop]
     clear A D y z;go_wp2;go_round;case rel=>exact⟨a+3,K.out.2,by go_num,K.out.1⟩
     case measure=>simp[intOf];omega
   by_cases b4:240<=t[a].toNat∧t[a].toNat<248
   ·obtain⟨ck,co⟩:=b4;have bs:(192:Int)<=(t[a].toNat:Int):=(by omega);have bN:¬(t[a].toNat:Int)<224:=(by omega);have b2:(224:Int)<=(t[a].toNat:Int):=(by omega);have b3:¬(t[a].toNat:Int)<240:=(by omega);have cn:(240:Int)<=(t[a].toNat:Int):=(by omega);have cp:(t[a].toNat:Int)<248:=(by omega);have y:Hid (U8.kind t.data.toList[a].toNat=some (4,t[a].toNat-240,65536)):=by
     show _=_;rw[bK t a a4];unfold U8.kind;rw[if_neg (by omega),if_neg (by omega),if_neg (by omega),if_pos (by omega)]
    have a9:((t[a].toNat:Int)-240)=((t[a].toNat-240:Nat):Int):=(by omega);have U:=xX (U8.in_start t.data.toList a 4 (t[a].toNat-240) (by omega));go_wp2;go_loop [4,7] (fun a0 R=>∃i v:Nat,1<=i∧i<=4∧a0=.int .i64 v∧R=.int .i64 i∧Hid (U8.Inner t.data.toList a 4 (t[a].toNat-240) i v)) (fun _ R=>4-(intOf R).toNat);case atStart=>exact⟨1,t[a].toNat-240,by omega,by omega,by go_num,rfl,U.out⟩
    case round=>
     obtain⟨i,v,a1,a8,rfl,rfl,A⟩:=hrel;clear U;by_cases V:i<4
     ·have bl:(i:Int)<4:=(by omega);have bq:=A.out.2.2.2.1 (by omega);by_cases bn:t.size<=a+i
      ·have a5:(t.size:Int)<=(a:Int)+(i:Int):=(by omega);have E:Hid (U8.utf t.data.toList=false):=by
        show _=_;rw[z.out];exact U8.utf_bad L (U8.one_none J y.out (U8.in_short A.out V (by omega)))
       clear A y z;go_wp2;go_ret;exact⟨by rw[E.out];rfl,rfl⟩
      have a5:¬(t.size:Int)<=(a:Int)+(i:Int):=(by omega);have a6:a+i<t.size:=(by omega);have bp:(a:Int)+(i:Int)<(t.size:Int):=(by omega);have M:=bK t (a+i) a6;by_cases hb:128<=t[a+i].toNat∧t[a+i].toNat<192
      ·have X:=xX (U8.in_next A.out a1 V (by omega) (by omega) (by rw[M];exact hb));rw[M] at X;obtain⟨a2,bk⟩:=hb;have Y:¬(t[a+i].toNat:Int)<128:=(by omega);have a3:¬(192:Int)<=(t[a+i].toNat:Int):=(by omega);clear A y z M;go_wp2;go_round;case rel=>exact⟨i+1,_,by omega,by omega,by go_num,by go_num,X⟩
       case measure=>simp[intOf];omega
      ·have E:Hid (U8.utf t.data.toList=false):=by
        show _=_;rw[z.out];exact U8.utf_bad L (U8.one_none J y.out (U8.in_bad A.out V (by omega) (by rw[M];exact hb)))
       clear A y z M;by_cases a2:t[a+i].toNat<128
       ·have Y:(t[a+i].toNat:Int)<128:=(by omega);go_wp2;go_ret;exact⟨by rw[E.out];rfl,rfl⟩
       ·have Y:¬(t[a+i].toNat:Int)<128:=(by omega);have a3:(192:Int)<=(t[a+i].toNat:Int):=(by omega);go_wp2;go_ret;exact⟨by rw[E.out];rfl,rfl⟩
     have W:i=4:=(by omega);subst W;have D:=xX (U8.in_end A.out);have bb:=A.out.2.2.2.2;by_cases bO:v<65536
     ·have a7:(v:Int)<65536:=(by omega);have E:Hid (U8.utf t.data.toList=false):=by
       show _=_;have I:U8.may 65536 v=false:=(by simp[U8.may];omega);have o:=U8.one_may J y.out D.out;rw[I] at o;rw[z.out];exact U8.utf_bad L o
      clear A D y z;go_wp2;go_ret;exact⟨by rw[E.out];rfl,rfl⟩
     have a7:¬(v:Int)<65536:=(by omega);by_cases bc:1114111<v
     ·have ah:(1114111:Int)<(v:Int):=(by omega);have E:Hid (U8.utf t.data.toList=false):=by
       show _=_;have I:U8.may 65536 v=false:=(by simp[U8.may];omega);have o:=U8.one_may J y.out D.out;rw[I] at o;rw[z.out];exact U8.utf_bad L o
      clear A D y z;go_wp2;go_ret;exact⟨by rw[E.out];rfl,rfl⟩
     have ah:¬(1114111:Int)<(v:Int):=(by omega);by_cases bd:55296<=v
     ·have aj:(55296:Int)<=(v:Int):=(by omega);by_cases be:v<=57343
      ·have ak:(v:Int)<=57343:=(by omega);have E:Hid (U8.utf t.data.toList=false):=by
        show _=_;have I:U8.may 65536 v=false:=(by simp[U8.may];omega);have o:=U8.one_may J y.out D.out;rw[I] at o;rw[z.out];exact U8.utf_bad L o
       clear A D y z;go_wp2;go_ret;exact⟨by rw[E.out];rfl,rfl⟩
      have ak:¬(v:Int)<=57343:=(by omega);have K:Hid (U8.utf t.data.toList=U8.utf (t.data.toList.drop (a+4))∧a+4<=t.size):=by
       have I:U8.may 65536 v=true:=(by simp[U8.may];omega);have o:=U8.one_may J y.out D.out;rw[I,if_pos rfl] at o;have O:=(U8.one_len o).2;rw[List.length_drop,Z] at O;refine⟨?_,by omega⟩;rw[z.out,U8.utf_step o,List.drop_drop]
      clear A D y z;go_wp2;go_round;case rel=>exact⟨a+4,K.out.2,by go_num,K.out.1⟩
      case measure=>simp[intOf];omega
     have aj:¬(55296:Int)<=(v:Int):=(by omega);have K:Hid (U8.utf t.data.toList=U8.utf (t.data.toList.drop (a+4))∧a+4<=t.size):=by
      have I:U8.may 65536 v=true:=(by simp[U8.may];omega);have o:=U8.one_may J y.out D.out;rw[I,if_pos rfl] at o;have O:=(U8.one_len o).2;rw[List.length_drop,Z] at O;refine⟨?_,by omega⟩;rw[z.out,U8.utf_step o,List.drop_drop]
     clear A D y z;go_wp2;go_round;case rel=>exact⟨a+4,K.out.2,by go_num,K.out.1⟩
     case measure=>simp[intOf];omega
   have E:Hid (U8.utf t.data.toList=false):=by
    show _=_;rw[z.out];refine U8.utf_bad L (U8.one_kind J ?_);rw[bK t a a4];unfold U8.kind;rw[if_neg (by omega),if_neg (by omega),if_neg (by omega),if_neg (by omega)]
   clear z;by_cases cq:t[a].toNat<192
   ·have cs:¬(192:Int)<=(t[a].toNat:Int):=(by omega);have ct:¬(224:Int)<=(t[a].toNat:Int):=(by omega);have cv:¬(240:Int)<=(t[a].toNat:Int):=(by omega);go_wp2;go_ret;exact⟨by rw[E.out];rfl,rfl⟩
   have cw:(192:Int)<=(t[a].toNat:Int):=(by omega);have cx:¬(t[a].toNat:Int)<224:=(by omega);have cy:(224:Int)<=(t[a].toNat:Int):=(by omega);have c5:¬(t[a].toNat:Int)<240:=(by omega);have c6:(240:Int)<=(t[a].toNat:Int):=(by omega);have c7:¬(t[a].toNat:Int)<248:=(by omega);go_wp2;go_ret;exact⟨by rw[E.out];rfl,rfl⟩
  ·have W:a=t.size:=(by omega);subst W;go_wp2;go_ret;refine⟨?_,rfl⟩;rw[z.out,List.drop_eq_nil_of_le (by simp)];rfl
end
section
open Go.RowKit
theorem rL(i:Int)(b:Nat)(t:ByteArray)(p:OA)(n c:Nat)(w:World):
  Calls Tryz.prog 198 #[.agg #[.int .i64 1,.int .i64 i,.float .f64 b,.string t,.slice p n c]] w fun e w'=>e=.returned (.bool (V.ownB 1 i b t n))∧Below w.1.size w w':=by
 have z:Hid (∀o,Below w.1.size w (w.alloc o)):=fun o=>xY.alloc xZ o;go_enter Tryz.func198,Tryz.ntmps198;go_wp2_with (go_at_call 111;refine(aX b _).mono ?_;rintro e w1 ⟨rfl,y⟩;rw[y];clear y w1);all_goals go_ret
 all_goals refine⟨?_,z.out _⟩
 all_goals simp_all [V.ownB]
 all_goals omega
theorem rK(i:Int)(b:Nat)(t:ByteArray)(p:OA)(n c:Nat)(w:World):
  Calls Tryz.prog 198 #[.agg #[.int .i64 2,.int .i64 i,.float .f64 b,.string t,.slice p n c]] w fun e w'=>e=.returned (.bool (V.ownB 2 i b t n))∧Below w.1.size w w':=by
 have z:Hid (∀o,Below w.1.size w (w.alloc o)):=fun o=>xY.alloc xZ o;go_enter Tryz.func198,Tryz.ntmps198;go_wp2_with (go_at_call 111;refine(aX b _).mono ?_;rintro e w1 ⟨rfl,y⟩;rw[y];clear y w1);all_goals go_ret
 all_goals refine⟨?_,z.out _⟩
 all_goals simp_all [V.ownB]
 all_goals omega
theorem rJ(i:Int)(b:Nat)(t:ByteArray)(p:OA)(n c:Nat)(w:World):
  Calls Tryz.prog 198 #[.agg #[.int .i64 3,.int .i64 i,.float .f64 b,.string t,.slice p n c]] w fun e w'=>e=.returned (.bool (V.ownB 3 i b t n))∧Below w.1.size w w':=by
 have z:Hid (∀o,Below w.1.size w (w.alloc o)):=fun o=>xY.alloc xZ o;go_enter Tryz.func198,Tryz.ntmps198;go_wp2_with (go_at_call 111;refine(aX b _).mono ?_;rintro e w1 ⟨rfl,y⟩;rw[y];clear y w1);all_goals go_ret
 all_goals refine⟨?_,z.out _⟩
 all_goals simp_all [V.ownB]
 all_goals omega
theorem rI(i:Int)(b:Nat)(t:ByteArray)(p:OA)(n c:Nat)(w:World):
  Calls Tryz.prog 198 #[.agg #[.int .i64 4,.int .i64 i,.float .f64 b,.string t,.slice p n c]] w fun e w'=>e=.returned (.bool (V.ownB 4 i b t n))∧Below w.1.size w w':=by
 have z:Hid (∀o,Below w.1.size w (w.alloc o)):=fun o=>xY.alloc xZ o;go_enter Tryz.func198,Tryz.ntmps198;go_wp2_with (go_at_call 111;refine(aX b _).mono ?_;rintro e w1 ⟨rfl,y⟩;rw[y];clear y w1);all_goals go_ret
 all_goals refine⟨?_,z.out _⟩
 all_goals simp_all [V.ownB]
 all_goals omega
theorem rH(i:Int)(b:Nat)(t:ByteArray)(p:OA)(n c:Nat)(w:World):
  Calls Tryz.prog 198 #[.agg #[.int .i64 5,.int .i64 i,.float .f64 b,.string t,.slice p n c]] w fun e w'=>e=.returned (.bool (V.ownB 5 i b t n))∧Below w.1.size w w':=by
 have z:Hid (∀o,Below w.1.size w (w.alloc o)):=fun o=>xY.alloc xZ o;go_enter Tryz.func198,Tryz.ntmps198;go_wp2_with (go_at_call 111;refine(aX b _).mono ?_;rintro e w1 ⟨rfl,y⟩;rw[y];clear y w1);all_goals go_ret
 all_goals refine⟨?_,z.out _⟩
 all_goals simp_all [V.ownB]
 all_goals omega
theorem rG(i:Int)(b:Nat)(t:ByteArray)(p:OA)(n c:Nat)(w:World):
  Calls Tryz.prog 198 #[.agg #[.int .i64 6,.int .i64 i,.float .f64 b,.string t,.slice p n c]] w fun e w'=>e=.returned (.bool (V.ownB 6 i b t n))∧Below w.1.size w w':=by
 have z:Hid (∀o,Below w.1.size w (w.alloc o)):=fun o=>xY.alloc xZ o;go_enter Tryz.func198,Tryz.ntmps198;go_wp2_with (go_at_call 111;refine(aX b _).mono ?_;rintro e w1 ⟨rfl,y⟩;rw[y];clear y w1);all_goals go_ret
 all_goals refine⟨?_,z.out _⟩
 all_goals simp_all [V.ownB]
 all_goals omega
theorem rF(i:Int)(b:Nat)(t:ByteArray)(p:OA)(n c:Nat)(w:World):
  Calls Tryz.prog 198 #[.agg #[.int .i64 7,.int .i64 i,.float .f64 b,.string t,.slice p n c]] w fun e w'=>e=.returned (.bool (V.ownB 7 i b t n))∧Below w.1.size w w':=by
 have z:Hid (∀o,Below w.1.size w (w.alloc o)):=fun o=>xY.alloc xZ o;go_enter Tryz.func198,Tryz.ntmps198;go_wp2_with (go_at_call 111;refine(aX b _).mono ?_;rintro e w1 ⟨rfl,y⟩;rw[y];clear y w1);all_goals go_ret
 all_goals refine⟨?_,z.out _⟩
 all_goals simp_all [V.ownB]
 all_goals omega
theorem nA(k:Int)(L:k<1∨7<k)(i:Int)(b:Nat)(t:ByteArray)(p:OA)(n c:Nat)(w:World):
  Calls Tryz.prog 198 #[.agg #[.int .i64 k,.int .i64 i,.float .f64 b,.string t,.slice p n c]] w fun e w'=>e=.returned (.bool (V.ownB k i b t n))∧Below w.1.size w w':=by
 have z:Hid (∀o,Below w.1.size w (w.alloc o)):=fun o=>xY.alloc xZ o;have A:¬k=1:=by omega
 have D:¬k=2:=by omega
 have E:¬k=4:=by omega
 have I:¬k=5:=by omega
 have J:¬k=6:=by omega
 have K:¬k=7:=by omega
 go_enter Tryz.func198,Tryz.ntmps198;go_wp2_with (go_at_call 111;refine(aX b _).mono ?_;rintro e w1 ⟨rfl,y⟩;rw[y];clear y w1);all_goals go_ret
 all_goals refine⟨?_,z.out _⟩
 all_goals simp_all [V.ownB]
 all_goals omega
theorem uf(k i:Int)(b:Nat)(t:ByteArray)(p:OA)(n c:Nat)(w:World):
  Calls Tryz.prog 198 #[.agg #[.int .i64 k,.int .i64 i,.float .f64 b,.string t,.slice p n c]] w fun e w'=>e=.returned (.bool (V.ownB k i b t n))∧Below w.1.size w w':=by
 by_cases o:k<1∨7<k
 ·exact nA k o i b t p n c w
 ·rcases(show k=1∨k=2∨k=3∨k=4∨k=5∨k=6∨k=7 by omega) with rfl | rfl | rfl | rfl | rfl | rfl | rfl
  ·exact rL i b t p n c w
  ·exact rK i b t p n c w
  ·exact rJ i b t p n c w
  ·exact rI i b t p n c w
  ·exact rH i b t p n c w
  ·exact rG i b t p n c w
  ·exact rF i b t p n c w
end
section
open Go.RowKit
def cK(t:ByteArray):Bool:=U8.utf t.data.toList
def chk(d:Nat)(x:V):Nat:=V.check cK d x
def eJ(d:Nat)(xs:List V):Nat:=V.checkL cK d xs
theorem kY(d:Nat)(k i:Int)(b:Nat)(t:ByteArray)(xs:List V):chk d (.mk k i b t xs)=if 4<d then 62 else if V.ownB k i b t xs.length=false then 60 else if 1024<t.size then 2 else if 256<xs.length then 3 else if k=4∧cK t=false then 61 else eJ (d+1) xs:=by
 unfold chk eJ;rw[V.check_mk];rfl
theorem eI(d:Nat):∀xs:List V,(∀j (h:j<xs.length),chk d xs[j]=0)->eJ d xs=0
 | [],_=>by unfold eJ;rw[V.checkL_nil]
 |x::r,h=>by
  have o:=h 0 (by simp);have y:=eI d r (fun j z=>h (j+1) (by simpa using z));unfold chk at o;unfold eJ at y ⊢;simp only[List.getElem_cons_zero] at o;rw[V.checkL_cons,if_pos o,y]
theorem iA(d:Nat):∀(xs:List V) (j:Nat) (y:j<xs.length),(∀m (h:m<xs.length),m<j->chk d xs[m]=0)->chk d xs[j]≠0->eJ d xs=chk d xs[j]
 |x::r,0,_,_,hn=>by
  unfold chk at hn;unfold eJ chk;simp only[List.getElem_cons_zero] at hn ⊢;rw[V.checkL_cons,if_neg hn]
 |x::r,j+1,y,h,hn=>by
  have o:=h 0 (by simp) (by omega);have z:=iA d r j (by simpa using y) (fun m A D=>by have:=h (m+1) (by simpa using A) (by omega);simpa using this) (by simpa using hn);unfold chk at o;unfold eJ at z ⊢;simp only[List.getElem_cons_zero] at o;rw[V.checkL_cons,if_pos o,z];rfl
theorem vK:∀(x:V) (d:Nat) (w:World) (u:AV),d<=5->aC w u x->Calls Tryz.prog 189 #[.agg u,.int .i64 d] w fun e w'=>e=.returned (.int .i64 (chk d x:Nat))∧Below w.1.size w w':=by
 intro x;refine V.ind (P:=fun x=>∀(d:Nat) (w:World) (u:AV),d<=5->aC w u x->Calls Tryz.prog 189 #[.agg u,.int .i64 d] w fun e w'=>e=.returned (.int .i64 (chk d x:Nat))∧Below w.1.size w w') ?_ x;rintro k i b t xs b6 d w u hd cn;obtain⟨p,c,rfl,d4,d3,b4⟩:=cn.open;unfold cells5;have ci:Below w.1.size w (w.alloc (.cells #[.int .i64 k,.int .i64 i,.float .f64 b,.string t,.slice p xs.length c] 77)):=xV;have a8:=xX ci;clear ci cn;have I:=xX (kY d k i b t xs);obtain⟨z,cj⟩:∃z,z=chk d (.mk k i b t xs):=⟨_,rfl⟩;rw[<-cj] at I ⊢;clear cj;by_cases A:4<d
 ·have cv:(4:Int)<(d:Int):=by omega
  have y:Hid (z=62):=by show _=_;rw[I.out,if_pos A]
  clear b6 b4 I;go_enter Tryz.func189,Tryz.ntmps189;go_wp2;go_ret;exact⟨by rw[y.out];rfl,a8.out⟩
 have cv:¬(4:Int)<(d:Int):=by omega
 have bk:=xX (uf k i b t p xs.length c (w.alloc (.cells #[.int .i64 k,.int .i64 i,.float .f64 b,.string t,.slice p xs.length c] 77)));obtain⟨r,b1⟩:∃r,r=V.ownB k i b t xs.length:=⟨_,rfl⟩;rw[<-b1] at bk;have aj:=xX b1;clear b1;have c7:w.1.size<(w.alloc (.cells #[.int .i64 k,.int .i64 i,.float .f64 b,.string t,.slice p xs.length c] 77)).1.size:=by simp
 have co:(w.alloc (.cells #[.int .i64 k,.int .i64 i,.float .f64 b,.string t,.slice p xs.length c] 77)).cell? ⟨w.1.size,0,none⟩=some (.int .i64 k):=by simp
 have cp:(w.alloc (.cells #[.int .i64 k,.int .i64 i,.float .f64 b,.string t,.slice p xs.length c] 77)).cell? ⟨w.1.size,3,none⟩=some (.string t):=by simp
 have cq:(w.alloc (.cells #[.int .i64 k,.int .i64 i,.float .f64 b,.string t,.slice p xs.length c] 77)).cell? ⟨w.1.size,4,none⟩=some (.slice p xs.length c):=by simp
 have Y:=xX (And.intro co (And.intro cp cq));clear co cp cq;have b9:Hid (∀j (a5:j<xs.length),∃u',aC w u' xs[j]∧Item w p j u'):=b4;have b8:=xX b6;clear b6 b4;go_enter Tryz.func189,Tryz.ntmps189;go_wp2_with fail;refine bk.out.mono ?_;rintro e L ⟨rfl,ak⟩;have c0:=ac ak Y.out.1;have c3:=ac ak Y.out.2.1;have c4:=ac ak Y.out.2.2;have ah:=xX (a8.out.trans (ak.mono a8.out.size));have d2:w.1.size<L.1.size:=by have:=ak.size;omega
 clear ak bk Y a8 c7;cases r with
 |false=>
  have y:Hid (z=60):=by show _=_;rw[I.out,if_neg A,if_pos aj.out.symm]
  clear I aj;go_wp2;go_ret;exact⟨by rw[y.out];rfl,ah.out⟩
 |true=>
  have a0:¬V.ownB k i b t xs.length=false:=by rw[<-aj.out];simp
  by_cases bT:1024<t.size
  ·have cw:(1024:Int)<(t.size:Int):=(by omega);have y:Hid (z=2):=(by show _=_;rw[I.out,if_neg A,if_neg a0,if_pos bT]);clear I aj a0;go_wp2;go_ret;exact⟨by rw[y.out];rfl,ah.out⟩
  have cw:¬(1024:Int)<(t.size:Int):=by omega
  by_cases cc:256<xs.length
  ·have cx:(256:Int)<(xs.length:Int):=(by omega);have y:Hid (z=3):=(by show _=_;rw[I.out,if_neg A,if_neg a0,if_neg bT,if_pos cc]);clear I aj a0;go_wp2;go_ret;exact⟨by rw[y.out];rfl,ah.out⟩
  have cx:¬(256:Int)<(xs.length:Int):=by omega
  have a2:Hid (z=if k=4∧cK t=false then 61 else eJ (d+1) xs):=by show _=_;rw[I.out,if_neg A,if_neg a0,if_neg bT,if_neg cc]
  clear I aj a0
  -- the items,from any world behind
  have b7:Hid (∀j (a5:j<xs.length) w',Below w.1.size w w'->∀u',aC w u' xs[j]->Calls Tryz.prog 189 #[.agg u',.int .i64 ((d+1:Nat):Int)] w' fun e d0=>e=.returned (.int .i64 (chk (d+1) xs[j]:Nat))∧Below w'.1.size w' d0) :=
   fun j a5 w' hb u' c8=>b8.out _ (List.getElem_mem a5) (d+1) w' u' (by omega) (c8.on hb)
  clear b8;by_cases bc:k=4
  ·have be:Hid (cK t=false->z=61):=fun b3=>by rw[a2.out,if_pos ⟨bc,b3⟩]
   have bl:Hid (cK t=true->z=eJ (d+1) xs):=fun b3=>by rw[a2.out,if_neg (fun bX=>by have:=bX.2;rw[b3] at this;cases this)]
   clear a2;subst bc;have c6:((4:Int)==4)=true:=rfl;have bn:=xX (kA t (by omega) L);obtain⟨bd,b2⟩:∃bd,bd=cK t:=⟨_,rfl⟩;have a9:=xX b2;have cb:U8.utf t.data.toList=bd:=b2.symm;rw[cb] at bn;clear b2 cb;go_wp2_with fail;refine bn.out.mono ?_;rintro e d1 ⟨rfl,ck⟩;rw[ck];clear ck d1 bn;cases bd with
   |false=>
    have y:Hid (z=61):=be.out a9.out.symm;clear be bl a9;go_wp2;go_ret;exact⟨by rw[y.out];rfl,ah.out⟩
   |true=>
    have y:Hid (z=eJ (d+1) xs):=bl.out a9.out.symm;clear be bl a9;go_wp2_with fail;go_loopw [7,8] (fun Z _ wr=>∃j:Nat,j<=xs.length∧Z=.int .i64 j∧Hid (Below L.1.size L wr∧∀m (A:m<xs.length),m<j->chk (d+1) xs[m]=0)) (fun Z _ _=>xs.length-(intOf Z).toNat);case atStart=>exact⟨0,by omega,rfl,xY,fun m _ h=>by omega⟩
    case round=>
     obtain⟨j,a5,rfl,o⟩:=hrel;have n4:wr.cell? ⟨w.1.size,4,none⟩=some (.slice p xs.length c):=ac o.out.1 c4;have D:Below w.1.size w wr:=ah.out.trans (o.out.1.mono (by omega));by_cases R:j<xs.length
     ·obtain⟨dv,a7,a4⟩:=b9.out j R;obtain⟨bx,dp,dd,c9,ct,ds,dr,df,cs,rfl,_,rfl,bp,bq,bs,bN,bO⟩:=(a4.on D).lies;have O:=xX (b7.out j R wr D _ a7);have cy:(j:Int)<(xs.length:Int):=(by omega);obtain⟨E,X⟩:∃E,E=chk (d+1) xs[j]:=⟨_,rfl⟩;rw[<-X] at O;have J:=xX X;have a1:=xX D;unfold cells5 at O;clear a7 a4 X D;go_wp2_with fail;refine O.out.mono ?_;rintro e w4 ⟨rfl,a3⟩;have M:=xX a3;clear a3 bp bq bs bN bO O n4;by_cases K:E=0
      ·have b5:((E:Int) != 0)=false:=(by rw[K];rfl);have bj:Hid (Below L.1.size L w4∧∀m (A:m<xs.length),m<j+1->chk (d+1) xs[m]=0):=by
        refine⟨o.out.1.trans (M.out.mono o.out.1.size),fun m A a6=>?_⟩;by_cases b0:m=j
        ·subst b0;rw[<-J.out];exact K
        ·exact o.out.2 m A (by omega)
       clear o M J K;go_wp2;go_roundw;case rel=>exact⟨j+1,by omega,by go_num,bj⟩
       case measure=>simp[intOf];omega
      ·have b5:((E:Int) != 0)=true:=(by rw[bne_iff_ne];omega);have W:Hid (z=E):=by
        show _=_;rw[y.out,J.out];exact iA (d+1) xs j R (fun m h a6=>o.out.2 m h a6) (by rw[<-J.out];exact K)
       have U:=xX (a1.out.trans (M.out.mono a1.out.size));clear o M J K y;go_wp2;go_ret;exact⟨by rw[W.out];rfl,U.out⟩
     ·have c5:¬(j:Int)<(xs.length:Int):=(by omega);have W:Hid (z=0):=by
       show _=_;rw[y.out];exact eI (d+1) xs (fun m h=>o.out.2 m h (by omega))
      have U:=xX D;clear o D R y;go_wp2;go_ret;exact⟨by rw[W.out];rfl,U.out⟩
  ·have c6:(k==4)=false:=aK bc;have y:Hid (z=eJ (d+1) xs):=(by show _=_;rw[a2.out,if_neg (fun bX=>bc bX.1)]);clear a2;go_wp2_with fail;go_loopw [7,8] (fun Z _ wr=>∃j:Nat,j<=xs.length∧Z=.int .i64 j∧Hid (Below L.1.size L wr∧∀m (A:m<xs.length),m<j->chk (d+1) xs[m]=0)) (fun Z _ _=>xs.length-(intOf Z).toNat);case atStart=>exact⟨0,by omega,rfl,xY,fun m _ h=>by omega⟩
   case round=>
    obtain⟨j,a5,rfl,o⟩:=hrel;have n4:wr.cell? ⟨w.1.size,4,none⟩=some (.slice p xs.length c):=ac o.out.1 c4;have D:Below w.1.size w wr:=ah.out.trans (o.out.1.mono (by omega));by_cases R:j<xs.length
    ·obtain⟨dv,a7,a4⟩:=b9.out j R;obtain⟨bx,dp,dd,c9,ct,ds,dr,df,cs,rfl,_,rfl,bp,bq,bs,bN,bO⟩:=(a4.on D).lies;have O:=xX (b7.out j R wr D _ a7);have cy:(j:Int)<(xs.length:Int):=(by omega);obtain⟨E,X⟩:∃E,E=chk (d+1) xs[j]:=⟨_,rfl⟩;rw[<-X] at O;have J:=xX X;have a1:=xX D;unfold cells5 at O;clear a7 a4 X D;go_wp2_with fail;refine O.out.mono ?_;rintro e w4 ⟨rfl,a3⟩;have M:=xX a3;clear a3 bp bq bs bN bO O n4;by_cases K:E=0
     ·have b5:((E:Int) != 0)=false:=(by rw[K];rfl);have bj:Hid (Below L.1.size L w4∧∀m (A:m<xs.length),m<j+1->chk (d+1) xs[m]=0):=by
       refine⟨o.out.1.trans (M.out.mono o.out.1.size),fun m A a6=>?_⟩;by_cases b0:m=j
       ·subst b0;rw[<-J.out];exact K
       ·exact o.out.2 m A (by omega)
      clear o M J K;go_wp2;go_roundw;case rel=>exact⟨j+1,by omega,by go_num,bj⟩
      case measure=>simp[intOf];omega
     ·have b5:((E:Int) != 0)=true:=(by rw[bne_iff_ne];omega);have W:Hid (z=E):=by
       show _=_;rw[y.out,J.out];exact iA (d+1) xs j R (fun m h a6=>o.out.2 m h a6) (by rw[<-J.out];exact K)
      have U:=xX (a1.out.trans (M.out.mono a1.out.size));clear o M J K y;go_wp2;go_ret;exact⟨by rw[W.out];rfl,U.out⟩
    ·have c5:¬(j:Int)<(xs.length:Int):=(by omega);have W:Hid (z=0):=by
      show _=_;rw[y.out];exact eI (d+1) xs (fun m h=>o.out.2 m h (by omega))
     have U:=xX D;clear o D R y;go_wp2;go_ret;exact⟨by rw[W.out];rfl,U.out⟩
theorem jW(x:V)(w:World)(u:AV)(h:aC w u x):Calls Tryz.prog 171 #[.agg u] w fun e w'=>e=.returned (.int .i64 (chk 1 x:Nat))∧Below w.1.size w w':=by
 obtain⟨k,i,b,t,xs⟩:=x;obtain⟨p,c,rfl,-⟩:=h.open;have z:Below w.1.size w (w.alloc (.cells (cells5 k i b t p xs.length c) 77)):=xV;have o:=xX z;have y:=xX (vK _ 1 _ _ (by omega) (h.on z));clear z h;obtain⟨A,D⟩:∃A,A=chk 1 (.mk k i b t xs):=⟨_,rfl⟩;rw[<-D] at y ⊢;clear D;unfold cells5 at y o ⊢;go_enter Tryz.func171,Tryz.ntmps171;go_wp2_with fail;refine y.out.mono ?_;rintro e J ⟨rfl,E⟩;have I:=xX (o.out.trans (E.mono o.out.size));clear E;go_wp2;go_ret;exact⟨rfl,I.out⟩
end
section
theorem eR(b:Nat):aE (aE b)=aE b:=by
 unfold aE;by_cases h:kI b=true
 ·rw[if_pos h]
  kernel_rfl
 ·rw[if_neg h,if_neg h]
theorem pY{xs:List V}{f g:V->V}(h:∀x∈xs,f x=g x):xs.map f=xs.map g:=List.map_congr_left h
theorem s6:∀x:V,V.fix (V.fix x)=V.fix x:=by
 intro x;refine V.ind (P:=fun x=>V.fix (V.fix x)=V.fix x) ?_ x;intro k i b t xs o;rw[V.fix_mk,V.fix_mk,eR,V.fixL_eq,V.fixL_eq,List.map_map];congr 1;exact pY o
theorem same_iff:∀x o:V,V.same x o=true↔V.fix x=V.fix o:=by
 intro x;refine V.ind (P:=fun x=>∀o,V.same x o=true↔V.fix x=V.fix o) ?_ x;intro k i b t xs M o;have K:∀(xs y:List V),(∀x∈xs,∀o,V.same x o=true↔V.fix x=V.fix o)->(V.sameL xs y=true↔xs.map V.fix=y.map V.fix):=by
  intro xs;induction xs with
  |nil=>intro y _;cases y <;> simp[V.sameL_nil,V.sameL_nc]
  |cons x r ihr=>
   intro y J;cases y with
   |nil=>simp[V.sameL_cn]
   |cons o s=>
    simp only[V.sameL_cons,Bool.and_eq_true,List.map_cons,List.cons.injEq];rw[J x (by simp) o,ihr s (fun O L=>J O (by simp[L]))]
 obtain⟨W,U,R,X,y⟩:=o;rw[V.same_mk,V.fix_mk,V.fix_mk,V.fixL_eq,V.fixL_eq];simp only[Bool.and_eq_true,beq_iff_eq,decide_eq_true_eq,V.mk.injEq];rw[K xs y M];constructor
 ·rintro⟨⟨⟨⟨z,A⟩,D⟩,E⟩,I⟩;exact⟨z,A,E,D,I⟩
 ·rintro⟨z,A,D,E,I⟩;exact⟨⟨⟨⟨z,A⟩,E⟩,D⟩,I⟩
end
end Go.Proofs.YtdkammppnkhhoaaGreatDoor

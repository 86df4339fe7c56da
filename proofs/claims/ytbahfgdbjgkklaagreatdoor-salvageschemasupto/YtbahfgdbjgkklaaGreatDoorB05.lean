import Derived.Test.YtbahfgdbjgkklaaGreatDoorB04
set_option maxRecDepth 100000
set_option maxHeartbeats 2000000
namespace Go.Proofs.YtbahfgdbjgkklaaGreatDoor
variable{m n:Nat}{xs:L8}
section
open Go.RowKit
def Leb.Putting(n:Nat)(xs:L8)(m:Nat):Prop:=xs.length<=9∧m<2*128 ^ (9-xs.length)∧Leb.put n=xs++Leb.putF (10-xs.length) m
theorem Leb.putting_start(h:n<18446744073709551616):Leb.Putting n [] n:=by
 have e:2*128 ^ 9=18446744073709551616:=by decide
 exact⟨by simp,by simpa[e] using h,rfl⟩
theorem Leb.putting_next(h:Leb.Putting n xs m)(I:127<m):Leb.Putting n (xs++[UInt8.ofNat (m % 128+128)]) (m / 128):=by
 obtain⟨D,o,z⟩:=h;have E:xs.length<=8:=by
  rcases Nat.lt_or_ge 8 xs.length with y | y
  ·have:9-xs.length=0:=(by omega);rw[this] at o;simp at o;omega
  ·exact y
 refine⟨by simp;omega,?_,?_⟩
 ·have e:9-xs.length=(9-(xs++[UInt8.ofNat (m % 128+128)]).length)+1:=by simp;omega
  rw[e,Nat.pow_succ] at o;rw[Nat.div_lt_iff_lt_mul (by omega)];omega
 ·have e:10-xs.length=(10-(xs++[UInt8.ofNat (m % 128+128)]).length)+1:=by simp;omega
  rw[z,e,Leb.putF,if_neg (by omega),List.append_assoc];rfl
theorem Leb.putting_last(h:Leb.Putting n xs m)(D:m<=127):xs++[UInt8.ofNat m]=Leb.put n:=by
 obtain⟨y,z,o⟩:=h;have e:10-xs.length=(9-xs.length)+1:=by omega
 rw[o,e,Leb.putF,if_pos (by omega)]
theorem jR(u:Nat)(h:u<18446744073709551616)(w:World):
  Calls Tryz.prog 225 #[.int .u64 u] w fun e w'=>e=.returned (.int .i64 (Leb.zag u))∧w'=w:=by
 by_cases o:u % 2=0
 ·have y:Hid (Leb.zag u=((u / 2:Nat):Int)):=by
   show _=_;unfold Leb.zag;rw[if_pos o]
  have hb:((u:Int) % 2==0)=true:=by rw[beq_iff_eq];omega
  clear o;go_enter Tryz.func225,Tryz.ntmps225;go_wp2;go_ret;exact⟨by rw[y.out];go_num,rfl⟩
 ·have y:Hid (Leb.zag u=-((u / 2:Nat):Int)-1):=by
   show _=_;unfold Leb.zag;rw[if_neg o]
  have hb:((u:Int) % 2==0)=false:=by rw[beq_eq_false_iff_ne];omega
  clear o;go_enter Tryz.func225,Tryz.ntmps225;go_wp2;go_ret;exact⟨by rw[y.out];go_num,rfl⟩
end
section
open Go.RowKit
def eF(l:L8)(a:Int):Value:=.tuple #[.int .u64 ((Leb.getAt l a).n:Nat),.int .i64 (Leb.nextAt l a),.int .i64 ((Leb.getAt l a).err:Nat)]
theorem gY(l:L8)(a:Int)(h:a<0∨(l.length:Int)<=a):eF l a=.tuple #[.int .u64 0,.int .i64 0,.int .i64 30]:=by
 have e:Leb.getAt l a=⟨30,0,0⟩:=by
  unfold Leb.getAt;by_cases o:a<0
  ·rw[if_pos o]
  ·rw[if_neg o,List.drop_eq_nil_of_le (by omega)];rfl
 unfold eF Leb.nextAt;rw[e];rfl
theorem cU(l:L8)(a:Nat)(c:Nat)(o:c≠0)(h:Leb.get (l.drop a)=⟨c,0,0⟩):eF l a=.tuple #[.int .u64 0,.int .i64 0,.int .i64 c]:=by
 have e:Leb.getAt l a=⟨c,0,0⟩:=by
  unfold Leb.getAt;rw[if_neg (by omega)];exact h
 unfold eF Leb.nextAt;rw[e,if_neg o];rfl
theorem gZ(l:L8)(a n k:Nat)(h:Leb.get (l.drop a)=⟨0,n,k⟩):eF l a=.tuple #[.int .u64 n,.int .i64 ((a:Int)+k),.int .i64 0]:=by
 have e:Leb.getAt l a=⟨0,n,k⟩:=by
  unfold Leb.getAt;rw[if_neg (by omega)];exact h
 unfold eF Leb.nextAt;rw[e,if_pos rfl];rfl
theorem pH(p:OA)(c n:Nat)(a:Int)(h:a<0∨(n:Int)<=a)(w:World):
  Calls Tryz.prog 84 #[.slice p n c,.int .i64 a] w fun e w'=>e=.returned (.tuple #[.int .u64 0,.int .i64 0,.int .i64 30])∧w'=w:=by
 by_cases o:a<0
 ·go_enter Tryz.func84,Tryz.ntmps84;go_wp2
  go_ret3
  exact⟨rfl,rfl⟩
 ·have y:(n:Int)<=a:=by omega
  have z:decide (a<0)=false:=decide_eq_false o;go_enter Tryz.func84,Tryz.ntmps84;go_wp2
  go_ret3
  exact⟨rfl,rfl⟩
theorem rZ(b o c a:Nat)(l:L8)(b4:l.length<=140737488351232)(b1:a<l.length)(w:World)(K:dQ w b o l):
  Calls Tryz.prog 84 #[.slice (some ⟨b,o,none⟩) l.length c,.int .i64 a] w fun e w'=>e=.returned (eF l a)∧w'=w:=by
 obtain⟨r,ah⟩:∃r,r=l.drop a:=⟨_,rfl⟩;have b5:r.length=l.length-a:=by rw[ah,List.length_drop]
 have a0:Hid (∀j (h:j<r.length),w.cell? ⟨b,o+(a+j),none⟩=some (.int .u8 (r[j].toNat:Int))):=by
  intro j h;have:=K (a+j) (by omega);rw[this];subst ah;rw[List.getElem_drop]
 have S:Hid (∀e n k,Leb.get r=⟨e,n,k⟩->Leb.get (l.drop a)=⟨e,n,k⟩):=by
  intro e n k h;rw[<-ah];exact h
 clear K ah;go_enter Tryz.func84,Tryz.ntmps84;go_wp2;go_loop [7] (fun a9=>∃k:Nat,k<=10∧k<=r.length∧a9=.int .i64 k∧Hid (∀j (h:j<r.length),j<k->127<r[j].toNat)) (fun a9=>10-(intOf a9).toNat);case atStart=>exact⟨0,by omega,by omega,rfl,fun j h b0=>by omega⟩
 case round=>
  obtain⟨k,b2,be,rfl,I⟩:=hrel;by_cases bk:k=10
  ·subst bk;have y:=gQq (cU l a 5 (by omega) (S.out _ _ _ ((Leb.getF_high 10 true r).1 (Leb.high_eq 10 r 10 (by omega) be I.out (.inl rfl)))));have bn:decide ((10:Int)<10)=false:=(by decide);clear I;go_wp2
   go_ret3
   exact⟨by rw[y.out];rfl,rfl⟩
  ·have bn:(k:Int)<10:=(by omega);by_cases bN:k=r.length
   ·subst bN;have Q:=Leb.high_eq 10 r r.length (by omega) (by omega) I.out (.inr (.inl rfl));have y:=gQq (cU l a 30 (by omega) (S.out _ _ _ ((Leb.getF_high 10 true r).2.1 Q (by omega))));have bp:decide ((r.length:Int)<(l.length:Int)-(a:Int))=false:=decide_eq_false (by omega);have bq:((r.length:Int)==10)=false:=(by rw[beq_eq_false_iff_ne];omega);have br:((r.length:Int)==(l.length:Int)-(a:Int))=true:=(by rw[beq_iff_eq];omega);clear I Q;go_wp2
    go_ret3
    exact⟨by rw[y.out];rfl,rfl⟩
   ·have bi:k<r.length:=(by omega);have a6:=a0.out k bi;have bp:(k:Int)<(l.length:Int)-(a:Int):=(by omega);by_cases W:127<r[k].toNat
    ·have E:Hid (∀j (h:j<r.length),j<k+1->127<r[j].toNat):=by
      intro j h a7;by_cases e:j=k
      ·subst e;exact W
      ·exact I.out j h (by omega)
     clear I;generalize r[k].toNat=v at a6 W;go_wp2;go_round;case rel=>exact⟨k+1,by omega,by omega,by go_num,E⟩
     case measure=>simp[intOf];omega
    ·have Q:=Leb.high_eq 10 r k (by omega) be I.out (.inr (.inr ⟨bi,W⟩));have J:=(Leb.getF_high 10 true r).2.2 (by omega) (by omega);simp only[Q] at J;have bq:((k:Int)==10)=false:=(by rw[beq_eq_false_iff_ne];omega);have br:((k:Int)==(l.length:Int)-(a:Int))=false:=(by rw[beq_eq_false_iff_ne];omega);by_cases M:(k+1=10∧1<r[k].toNat)∨((true=false∨0<k)∧r[k].toNat=0)
     ·rw[if_pos M] at J;have a5:(k=9∧1<r[k].toNat)∨(0<k∧r[k].toNat=0):=by
       rcases M with ⟨x,O⟩ | ⟨x | x,O⟩
       ·exact .inl ⟨by omega,O⟩
       ·cases x
       ·exact .inr ⟨x,O⟩
      clear M;have y:=gQq (cU l a 5 (by omega) (S.out _ _ _ J));clear J I Q;generalize r[k].toNat=v at a6 W a5;by_cases a4:k=9
      ·subst a4;by_cases bX:1<v
       ·go_wp2
        go_ret3
        exact⟨by rw[y.out];rfl,rfl⟩
       ·have Z:v=0:=(by omega);subst Z;go_wp2
        go_ret3
        exact⟨by rw[y.out];rfl,rfl⟩
      ·have bs:((k:Int)==9)=false:=(by rw[beq_eq_false_iff_ne];omega);have Z:v=0:=(by omega);have bb:(0:Int)<(k:Int):=(by omega);subst Z;go_wp2
       go_ret3
       exact⟨by rw[y.out];rfl,rfl⟩
     ·rw[if_neg M] at J;have a5:¬((k=9∧1<r[k].toNat)∨(0<k∧r[k].toNat=0)):=by
       rintro(⟨x,O⟩ | ⟨x,O⟩)
       ·exact M (.inl ⟨by omega,O⟩)
       ·exact M (.inr ⟨.inr x,O⟩)
      clear M;have a8:=Leb.get_ok r (by rw[show Leb.get r=_ from J]);rw[show Leb.get r=_ from J] at a8;have bO:Leb.val (r.take (k+1))<18446744073709551616:=a8.1;have y:=gQq (gZ l a _ _ (S.out _ _ _ J));clear J I Q a8;obtain⟨t,aj⟩:∃t,t=r.take (k+1):=⟨_,rfl⟩;have bT:t.length=k+1:=(by rw[aj,List.length_take];omega);have a3:Hid (∀j (h:j<t.length),w.cell? ⟨b,o+(a+j),none⟩=some (.int .u8 (t[j].toNat:Int))):=by
       intro j h;rw[a0.out j (by omega)];subst aj;rw[List.getElem_take]
      rw[<-aj] at y bO;clear aj;have a1:Hid (Leb.val (t.drop (k+1))=0):=by
       show _=_;rw[<-bT,List.drop_length];rfl
      have a2:Hid (∀j,Leb.val (t.drop j)<=Leb.val t):=fun j=>Leb.val_drop_le t j;generalize r[k].toNat=v at a6 W a5;clear a0 S;by_cases a4:k=9
      ·subst a4;have bX:¬(1:Int)<(v:Int):=(by omega);have Z:((v:Int)==0)=false:=(by rw[beq_eq_false_iff_ne];omega);go_wp2;go_loop [8,9] (fun ab D=>∃(j m:Nat),j<=9+1∧D=.int .i64 ((j:Int)-1)∧ab=.int .u64 m∧m<18446744073709551616∧Hid (m=Leb.val (t.drop j))) (fun _ D=>(intOf D+1).toNat);case atStart=>exact⟨9+1,0,by omega,by go_num,rfl,by omega,a1.out.symm⟩
       case round=>
        obtain⟨j,m,a7,rfl,rfl,bj,HM⟩:=hrel;by_cases X:j=0
        ·subst X;have U:Hid (m=Leb.val t):=HM;clear HM;go_wp2
         go_ret3
         exact⟨by rw[y.out,U.out] <;> rfl,rfl⟩
        ·obtain⟨i,rfl⟩:∃i,j=i+1:=⟨j-1,by omega⟩;have K:=a3.out i (by omega);have z:=Leb.val_drop t i (by omega);rw[<-HM.out] at z;have Y:=a2.out i;have V:t[i].toNat<256:=t[i].toNat_lt;have E:Hid (m*128+t[i].toNat % 128=Leb.val (t.drop i)):=z.symm;have L:m*128+t[i].toNat % 128<18446744073709551616:=(by omega);clear z HM Y;generalize t[i].toNat=c at K V E L;go_wp2;go_round;case rel=>exact⟨i,m*128+c % 128,by omega,by go_num,by go_num,L,E⟩
         case measure=>simp[intOf] <;> omega
      ·have bs:((k:Int)==9)=false:=(by rw[beq_eq_false_iff_ne];omega);by_cases bb:k=0
       ·have bc:decide ((0:Int)<(k:Int))=false:=decide_eq_false (by omega);have b3:(k:Int)<=0:=(by omega);clear bb bc;go_wp2;go_loop [8,9] (fun ab D=>∃(j m:Nat),j<=k+1∧D=.int .i64 ((j:Int)-1)∧ab=.int .u64 m∧m<18446744073709551616∧Hid (m=Leb.val (t.drop j))) (fun _ D=>(intOf D+1).toNat);case atStart=>exact⟨k+1,0,by omega,by go_num,rfl,by omega,a1.out.symm⟩
        case round=>
         obtain⟨j,m,a7,rfl,rfl,bj,HM⟩:=hrel;by_cases X:j=0
         ·subst X;have U:Hid (m=Leb.val t):=HM;clear HM;go_wp2
          go_ret3
          exact⟨by rw[y.out,U.out] <;> rfl,rfl⟩
         ·obtain⟨i,rfl⟩:∃i,j=i+1:=⟨j-1,by omega⟩;have K:=a3.out i (by omega);have z:=Leb.val_drop t i (by omega);rw[<-HM.out] at z;have Y:=a2.out i;have V:t[i].toNat<256:=t[i].toNat_lt;have E:Hid (m*128+t[i].toNat % 128=Leb.val (t.drop i)):=z.symm;have L:m*128+t[i].toNat % 128<18446744073709551616:=(by omega);clear z HM Y;generalize t[i].toNat=c at K V E L;go_wp2;go_round;case rel=>exact⟨i,m*128+c % 128,by omega,by go_num,by go_num,L,E⟩
          case measure=>simp[intOf] <;> omega
       ·have bc:(0:Int)<(k:Int):=(by omega);have Z:((v:Int)==0)=false:=(by rw[beq_eq_false_iff_ne];omega);go_wp2;go_loop [8,9] (fun ab D=>∃(j m:Nat),j<=k+1∧D=.int .i64 ((j:Int)-1)∧ab=.int .u64 m∧m<18446744073709551616∧Hid (m=Leb.val (t.drop j))) (fun _ D=>(intOf D+1).toNat);case atStart=>exact⟨k+1,0,by omega,by go_num,rfl,by omega,a1.out.symm⟩
        case round=>
         obtain⟨j,m,a7,rfl,rfl,bj,HM⟩:=hrel;by_cases X:j=0
         ·subst X;have U:Hid (m=Leb.val t):=HM;clear HM;go_wp2
          go_ret3
          exact⟨by rw[y.out,U.out] <;> rfl,rfl⟩
         ·obtain⟨i,rfl⟩:∃i,j=i+1:=⟨j-1,by omega⟩;have K:=a3.out i (by omega);have z:=Leb.val_drop t i (by omega);rw[<-HM.out] at z;have Y:=a2.out i;have V:t[i].toNat<256:=t[i].toNat_lt;have E:Hid (m*128+t[i].toNat % 128=Leb.val (t.drop i)):=z.symm;have L:m*128+t[i].toNat % 128<18446744073709551616:=(by omega);clear z HM Y;generalize t[i].toNat=c at K V E L;go_wp2;go_round;case rel=>exact⟨i,m*128+c % 128,by omega,by go_num,by go_num,L,E⟩
          case measure=>simp[intOf] <;> omega
theorem jV(p:OA)(c:Nat)(l:L8)(a:Int)(z:l.length<=140737488351232)(w:World)(h:At w p l):
  Calls Tryz.prog 84 #[.slice p l.length c,.int .i64 a] w fun e w'=>e=.returned (eF l a)∧w'=w:=by
 by_cases o:a<0∨(l.length:Int)<=a
 ·rw[gY l a o];exact pH p c l.length a o w
 ·obtain⟨n,rfl⟩:∃n:Nat,a=(n:Int):=⟨a.toNat,by omega⟩;obtain⟨b,D,rfl,_,y⟩:=aC h (by omega);exact rZ b D c n l z (by omega) w y
end
section
open Go.RowKit
theorem bM(t:ByteArray)(i:Nat)(h:i<t.size):t.data.toList[i]'(by simpa using h)=t[i]:=by rw[Array.getElem_toList];rfl
theorem qL(t:ByteArray)(b7:t.size<=281474976702464)(w:World):Calls Tryz.prog 224 #[.string t] w fun e w'=>e=.returned (.bool (U8.utf t.data.toList))∧w'=w:=by
 go_enter Tryz.func224,Tryz.ntmps224;go_wp2;go_loop [3,4,5,6,7,16,19,28,37] (fun bi _ _ _ _ _ _ _ _=>∃a:Nat,a<=t.size∧bi=.int .i64 a∧Hid (U8.utf t.data.toList=U8.utf (t.data.toList.drop a))) (fun bi _ _ _ _ _ _ _ _=>t.size-(intOf bi).toNat);case atStart=>exact⟨0,by omega,rfl,rfl⟩
 case round=>
  obtain⟨a,b4,rfl,z⟩:=hrel;by_cases a3:a<t.size
  ·have b6:(a:Int)<(t.size:Int):=(by omega);have b5:=t[a].toNat_lt;have Z:t.data.toList.length=t.size:=(by simp);have K:a<t.data.toList.length:=(by omega);have M:t.data.toList.drop a≠[]:=by
    intro bO;have:=congrArg List.length bO;rw[List.length_drop] at this;simp at this;omega
   by_cases b8:t[a].toNat<128
   ·have bT:(t[a].toNat:Int)<128:=(by omega);have y:Hid (U8.kind t.data.toList[a].toNat=some (1,t[a].toNat-0,0)):=by
     show _=_;rw[bM t a a3];unfold U8.kind;rw[if_pos (by omega),Nat.sub_zero]
    have a8:((t[a].toNat:Int)-0)=((t[a].toNat-0:Nat):Int):=(by omega);have U:=gQq (U8.in_start t.data.toList a 1 (t[a].toNat-0) (by omega));go_wp2;go_loop [4,7] (fun ak S=>∃i v:Nat,1<=i∧i<=1∧ak=.int .i64 v∧S=.int .i64 i∧Hid (U8.Inner t.data.toList a 1 (t[a].toNat-0) i v)) (fun _ S=>1-(intOf S).toNat);case atStart=>exact⟨1,t[a].toNat-0,by omega,by omega,rfl,rfl,U.out⟩
    case round=>
     obtain⟨i,v,a0,a7,rfl,rfl,D⟩:=hrel;clear U;have W:i=1:=(by omega);subst W;have E:=gQq (U8.in_end D.out);have a9:=D.out.2.2.2.2;by_cases bb:1114111<v
     ·have ab:(1114111:Int)<(v:Int):=(by omega);have I:Hid (U8.utf t.data.toList=false):=by
       show _=_;have J:U8.may 0 v=false:=(by simp[U8.may];omega);have o:=U8.one_may K y.out E.out;rw[J] at o;rw[z.out];exact U8.utf_bad M o
      clear D E y z;go_wp2;go_ret;exact⟨by rw[I.out];rfl,rfl⟩
     have ab:¬(1114111:Int)<(v:Int):=(by omega);by_cases bc:55296<=v
     ·have ah:(55296:Int)<=(v:Int):=(by omega);by_cases be:v<=57343
      ·have aj:(v:Int)<=57343:=(by omega);have I:Hid (U8.utf t.data.toList=false):=by
        show _=_;have J:U8.may 0 v=false:=(by simp[U8.may];omega);have o:=U8.one_may K y.out E.out;rw[J] at o;rw[z.out];exact U8.utf_bad M o
       clear D E y z;go_wp2;go_ret;exact⟨by rw[I.out];rfl,rfl⟩
      have aj:¬(v:Int)<=57343:=(by omega);have L:Hid (U8.utf t.data.toList=U8.utf (t.data.toList.drop (a+1))∧a+1<=t.size):=by
       have J:U8.may 0 v=true:=(by simp[U8.may];omega);have o:=U8.one_may K y.out E.out;rw[J,if_pos rfl] at o;have Q:=(U8.one_len o).2;rw[List.length_drop,Z] at Q;refine⟨?_,by omega⟩;rw[z.out,U8.utf_step o,List.drop_drop]
      clear D E y z;go_wp2;go_round;case rel=>exact⟨a+1,L.out.2,by go_num,L.out.1⟩
      case measure=>simp[intOf];omega
     have ah:¬(55296:Int)<=(v:Int):=(by omega);have L:Hid (U8.utf t.data.toList=U8.utf (t.data.toList.drop (a+1))∧a+1<=t.size):=by
      have J:U8.may 0 v=true:=(by simp[U8.may];omega);have o:=U8.one_may K y.out E.out;rw[J,if_pos rfl] at o;have Q:=(U8.one_len o).2;rw[List.length_drop,Z] at Q;refine⟨?_,by omega⟩;rw[z.out,U8.utf_step o,List.drop_drop]
     clear D E y z;go_wp2;go_round;case rel=>exact⟨a+1,L.out.2,by go_num,L.out.1⟩
     case measure=>simp[intOf];omega
   have bT:¬(t[a].toNat:Int)<128:=(by omega);by_cases bX:192<=t[a].toNat∧t[a].toNat<224
   ·obtain⟨b9,ca⟩:=bX;have br:(192:Int)<=(t[a].toNat:Int):=(by omega);have bs:(t[a].toNat:Int)<224:=(by omega);have y:Hid (U8.kind t.data.toList[a].toNat=some (2,t[a].toNat-192,128)):=by
     show _=_;rw[bM t a a3];unfold U8.kind;rw[if_neg (by omega),if_pos (by omega)]
    have a8:((t[a].toNat:Int)-192)=((t[a].toNat-192:Nat):Int):=(by omega);have U:=gQq (U8.in_start t.data.toList a 2 (t[a].toNat-192) (by omega));go_wp2;go_loop [4,7] (fun ak S=>∃i v:Nat,1<=i∧i<=2∧ak=.int .i64 v∧S=.int .i64 i∧Hid (U8.Inner t.data.toList a 2 (t[a].toNat-192) i v)) (fun _ S=>2-(intOf S).toNat);case atStart=>exact⟨1,t[a].toNat-192,by omega,by omega,by go_num,rfl,U.out⟩
    case round=>
     obtain⟨i,v,a0,a7,rfl,rfl,D⟩:=hrel;clear U;by_cases V:i<2
     ·have bk:(i:Int)<2:=(by omega);have bq:=D.out.2.2.2.1 (by omega);by_cases bn:t.size<=a+i
      ·have a4:(t.size:Int)<=(a:Int)+(i:Int):=(by omega);have I:Hid (U8.utf t.data.toList=false):=by
        show _=_;rw[z.out];exact U8.utf_bad M (U8.one_none K y.out (U8.in_short D.out V (by omega)))
       clear D y z;go_wp2;go_ret;exact⟨by rw[I.out];rfl,rfl⟩
      have a4:¬(t.size:Int)<=(a:Int)+(i:Int):=(by omega);have a5:a+i<t.size:=(by omega);have bp:(a:Int)+(i:Int)<(t.size:Int):=(by omega);have O:=bM t (a+i) a5;by_cases hb:128<=t[a+i].toNat∧t[a+i].toNat<192
      ·have X:=gQq (U8.in_next D.out a0 V (by omega) (by omega) (by rw[O];exact hb));rw[O] at X;obtain⟨a1,bj⟩:=hb;have Y:¬(t[a+i].toNat:Int)<128:=(by omega);have a2:¬(192:Int)<=(t[a+i].toNat:Int):=(by omega);clear D y z O;go_wp2;go_round;case rel=>exact⟨i+1,_,by omega,by omega,by go_num,by go_num,X⟩
       case measure=>simp[intOf];omega
      ·have I:Hid (U8.utf t.data.toList=false):=by
        show _=_;rw[z.out];exact U8.utf_bad M (U8.one_none K y.out (U8.in_bad D.out V (by omega) (by rw[O];exact hb)))
       clear D y z O;by_cases a1:t[a+i].toNat<128
       ·have Y:(t[a+i].toNat:Int)<128:=(by omega);go_wp2;go_ret;exact⟨by rw[I.out];rfl,rfl⟩
       ·have Y:¬(t[a+i].toNat:Int)<128:=(by omega);have a2:(192:Int)<=(t[a+i].toNat:Int):=(by omega);go_wp2;go_ret;exact⟨by rw[I.out];rfl,rfl⟩
     have W:i=2:=(by omega);subst W;have E:=gQq (U8.in_end D.out);have a9:=D.out.2.2.2.2;by_cases bN:v<128
     ·have a6:(v:Int)<128:=(by omega);have I:Hid (U8.utf t.data.toList=false):=by
       show _=_;have J:U8.may 128 v=false:=(by simp[U8.may];omega);have o:=U8.one_may K y.out E.out;rw[J] at o;rw[z.out];exact U8.utf_bad M o
      clear D E y z;go_wp2;go_ret;exact⟨by rw[I.out];rfl,rfl⟩
     have a6:¬(v:Int)<128:=(by omega);by_cases bb:1114111<v
     ·have ab:(1114111:Int)<(v:Int):=(by omega);have I:Hid (U8.utf t.data.toList=false):=by
       show _=_;have J:U8.may 128 v=false:=(by simp[U8.may];omega);have o:=U8.one_may K y.out E.out;rw[J] at o;rw[z.out];exact U8.utf_bad M o
      clear D E y z;go_wp2;go_ret;exact⟨by rw[I.out];rfl,rfl⟩
     have ab:¬(1114111:Int)<(v:Int):=(by omega);by_cases bc:55296<=v
     ·have ah:(55296:Int)<=(v:Int):=(by omega);by_cases be:v<=57343
      ·have aj:(v:Int)<=57343:=(by omega);have I:Hid (U8.utf t.data.toList=false):=by
        show _=_;have J:U8.may 128 v=false:=(by simp[U8.may];omega);have o:=U8.one_may K y.out E.out;rw[J] at o;rw[z.out];exact U8.utf_bad M o
       clear D E y z;go_wp2;go_ret;exact⟨by rw[I.out];rfl,rfl⟩
      have aj:¬(v:Int)<=57343:=(by omega);have L:Hid (U8.utf t.data.toList=U8.utf (t.data.toList.drop (a+2))∧a+2<=t.size):=by
       have J:U8.may 128 v=true:=(by simp[U8.may];omega);have o:=U8.one_may K y.out E.out;rw[J,if_pos rfl] at o;have Q:=(U8.one_len o).2;rw[List.length_drop,Z] at Q;refine⟨?_,by omega⟩;rw[z.out,U8.utf_step o,List.drop_drop]
      clear D E y z;go_wp2;go_round;case rel=>exact⟨a+2,L.out.2,by go_num,L.out.1⟩
      case measure=>simp[intOf];omega
     have ah:¬(55296:Int)<=(v:Int):=(by omega);have L:Hid (U8.utf t.data.toList=U8.utf (t.data.toList.drop (a+2))∧a+2<=t.size):=by
      have J:U8.may 128 v=true:=(by simp[U8.may];omega);have o:=U8.one_may K y.out E.out;rw[J,if_pos rfl] at o;have Q:=(U8.one_len o).2;rw[List.length_drop,Z] at Q;refine⟨?_,by omega⟩;rw[z.out,U8.utf_step o,List.drop_drop]
     clear D E y z;go_wp2;go_round;case rel=>exact⟨a+2,L.out.2,by go_num,L.out.1⟩
     case measure=>simp[intOf];omega
   by_cases b0:224<=t[a].toNat∧t[a].toNat<240
   ·obtain⟨cb,cc⟩:=b0;have br:(192:Int)<=(t[a].toNat:Int):=(by omega);have bs:¬(t[a].toNat:Int)<224:=(by omega);have b1:(224:Int)<=(t[a].toNat:Int):=(by omega);have b2:(t[a].toNat:Int)<240:=(by omega);have y:Hid (U8.kind t.data.toList[a].toNat=some (3,t[a].toNat-224,2048)):=by
     show _=_;rw[bM t a a3];unfold U8.kind;rw[if_neg (by omega),if_neg (by omega),if_pos (by omega)]
    have a8:((t[a].toNat:Int)-224)=((t[a].toNat-224:Nat):Int):=(by omega);have U:=gQq (U8.in_start t.data.toList a 3 (t[a].toNat-224) (by omega));go_wp2;go_loop [4,7] (fun ak S=>∃i v:Nat,1<=i∧i<=3∧ak=.int .i64 v∧S=.int .i64 i∧Hid (U8.Inner t.data.toList a 3 (t[a].toNat-224) i v)) (fun _ S=>3-(intOf S).toNat);case atStart=>exact⟨1,t[a].toNat-224,by omega,by omega,by go_num,rfl,U.out⟩
    case round=>
     obtain⟨i,v,a0,a7,rfl,rfl,D⟩:=hrel;clear U;by_cases V:i<3
     ·have bk:(i:Int)<3:=(by omega);have bq:=D.out.2.2.2.1 (by omega);by_cases bn:t.size<=a+i
      ·have a4:(t.size:Int)<=(a:Int)+(i:Int):=(by omega);have I:Hid (U8.utf t.data.toList=false):=by
        show _=_;rw[z.out];exact U8.utf_bad M (U8.one_none K y.out (U8.in_short D.out V (by omega)))
       clear D y z;go_wp2;go_ret;exact⟨by rw[I.out];rfl,rfl⟩
      have a4:¬(t.size:Int)<=(a:Int)+(i:Int):=(by omega);have a5:a+i<t.size:=(by omega);have bp:(a:Int)+(i:Int)<(t.size:Int):=(by omega);have O:=bM t (a+i) a5;by_cases hb:128<=t[a+i].toNat∧t[a+i].toNat<192
      ·have X:=gQq (U8.in_next D.out a0 V (by omega) (by omega) (by rw[O];exact hb));rw[O] at X;obtain⟨a1,bj⟩:=hb;have Y:¬(t[a+i].toNat:Int)<128:=(by omega);have a2:¬(192:Int)<=(t[a+i].toNat:Int):=(by omega);clear D y z O;go_wp2;go_round;case rel=>exact⟨i+1,_,by omega,by omega,by go_num,by go_num,X⟩
       case measure=>simp[intOf];omega
      ·have I:Hid (U8.utf t.data.toList=false):=by
        show _=_;rw[z.out];exact U8.utf_bad M (U8.one_none K y.out (U8.in_bad D.out V (by omega) (by rw[O];exact hb)))
       clear D y z O;by_cases a1:t[a+i].toNat<128
       ·have Y:(t[a+i].toNat:Int)<128:=(by omega);go_wp2;go_ret;exact⟨by rw[I.out];rfl,rfl⟩
       ·have Y:¬(t[a+i].toNat:Int)<128:=(by omega);have a2:(192:Int)<=(t[a+i].toNat:Int):=(by omega);go_wp2;go_ret;exact⟨by rw[I.out];rfl,rfl⟩
     have W:i=3:=(by omega);subst W;have E:=gQq (U8.in_end D.out);have a9:=D.out.2.2.2.2;by_cases bN:v<2048
     ·have a6:(v:Int)<2048:=(by omega);have I:Hid (U8.utf t.data.toList=false):=by
       show _=_;have J:U8.may 2048 v=false:=(by simp[U8.may];omega);have o:=U8.one_may K y.out E.out;rw[J] at o;rw[z.out];exact U8.utf_bad M o
      clear D E y z;go_wp2;go_ret;exact⟨by rw[I.out];rfl,rfl⟩
     have a6:¬(v:Int)<2048:=(by omega);by_cases bb:1114111<v
     ·have ab:(1114111:Int)<(v:Int):=(by omega);have I:Hid (U8.utf t.data.toList=false):=by
       show _=_;have J:U8.may 2048 v=false:=(by simp[U8.may];omega);have o:=U8.one_may K y.out E.out;rw[J] at o;rw[z.out];exact U8.utf_bad M o
      clear D E y z;go_wp2;go_ret;exact⟨by rw[I.out];rfl,rfl⟩
     have ab:¬(1114111:Int)<(v:Int):=(by omega);by_cases bc:55296<=v
     ·have ah:(55296:Int)<=(v:Int):=(by omega);by_cases be:v<=57343
      ·have aj:(v:Int)<=57343:=(by omega);have I:Hid (U8.utf t.data.toList=false):=by
        show _=_;have J:U8.may 2048 v=false:=(by simp[U8.may];omega);have o:=U8.one_may K y.out E.out;rw[J] at o;rw[z.out];exact U8.utf_bad M o
       clear D E y z;go_wp2;go_ret;exact⟨by rw[I.out];rfl,rfl⟩
      have aj:¬(v:Int)<=57343:=(by omega);have L:Hid (U8.utf t.data.toList=U8.utf (t.data.toList.drop (a+3))∧a+3<=t.size):=by
       have J:U8.may 2048 v=true:=(by simp[U8.may];omega);have o:=U8.one_may K y.out E.out;rw[J,if_pos rfl] at o;have Q:=(U8.one_len o).2;rw[List.length_drop,Z] at Q;refine⟨?_,by omega⟩;rw[z.out,U8.utf_step o,List.drop_drop]
      clear D E y z;go_wp2;go_round;case rel=>exact⟨a+3,L.out.2,by go_num,L.out.1⟩
      case measure=>simp[intOf];omega
     have ah:¬(55296:Int)<=(v:Int):=(by omega);have L:Hid (U8.utf t.data.toList=U8.utf (t.data.toList.drop (a+3))∧a+3<=t.size):=by
      have J:U8.may 2048 v=true:=(by simp[U8.may];omega);have o:=U8.one_may K y.out E.out;rw[J,if_pos rfl] at o;have Q:=(U8.one_len o).2;rw[List.length_drop,Z] at Q;refine⟨?_,by omega⟩;rw[z.out,U8.utf_step o,List.drop_drop]
     clear D E y z;go_wp2;go_round;case rel=>exact⟨a+3,L.out.2,by go_num,L.out.1⟩
     case measure=>simp[intOf];omega
   by_cases b3:240<=t[a].toNat∧t[a].toNat<248
   ·obtain⟨cd,cf⟩:=b3;have br:(192:Int)<=(t[a].toNat:Int):=(by omega);have bs:¬(t[a].toNat:Int)<224:=(by omega);have b1:(224:Int)<=(t[a].toNat:Int):=(by omega);have b2:¬(t[a].toNat:Int)<240:=(by omega);have ce:(240:Int)<=(t[a].toNat:Int):=(by omega);have cg:(t[a].toNat:Int)<248:=(by omega);have y:Hid (U8.kind t.data.toList[a].toNat=some (4,t[a].toNat-240,65536)):=by
     show _=_;rw[bM t a a3];unfold U8.kind;rw[if_neg (by omega),if_neg (by omega),if_neg (by omega),if_pos (by omega)]
    have a8:((t[a].toNat:Int)-240)=((t[a].toNat-240:Nat):Int):=(by omega);have U:=gQq (U8.in_start t.data.toList a 4 (t[a].toNat-240) (by omega));go_wp2;go_loop [4,7] (fun ak S=>∃i v:Nat,1<=i∧i<=4∧ak=.int .i64 v∧S=.int .i64 i∧Hid (U8.Inner t.data.toList a 4 (t[a].toNat-240) i v)) (fun _ S=>4-(intOf S).toNat);case atStart=>exact⟨1,t[a].toNat-240,by omega,by omega,by go_num,rfl,U.out⟩
    case round=>
     obtain⟨i,v,a0,a7,rfl,rfl,D⟩:=hrel;clear U;by_cases V:i<4
     ·have bk:(i:Int)<4:=(by omega);have bq:=D.out.2.2.2.1 (by omega);by_cases bn:t.size<=a+i
      ·have a4:(t.size:Int)<=(a:Int)+(i:Int):=(by omega);have I:Hid (U8.utf t.data.toList=false):=by
        show _=_;rw[z.out];exact U8.utf_bad M (U8.one_none K y.out (U8.in_short D.out V (by omega)))
       clear D y z;go_wp2;go_ret;exact⟨by rw[I.out];rfl,rfl⟩
      have a4:¬(t.size:Int)<=(a:Int)+(i:Int):=(by omega);have a5:a+i<t.size:=(by omega);have bp:(a:Int)+(i:Int)<(t.size:Int):=(by omega);have O:=bM t (a+i) a5;by_cases hb:128<=t[a+i].toNat∧t[a+i].toNat<192
      ·have X:=gQq (U8.in_next D.out a0 V (by omega) (by omega) (by rw[O];exact hb));rw[O] at X;obtain⟨a1,bj⟩:=hb;have Y:¬(t[a+i].toNat:Int)<128:=(by omega);have a2:¬(192:Int)<=(t[a+i].toNat:Int):=(by omega);clear D y z O;go_wp2;go_round;case rel=>exact⟨i+1,_,by omega,by omega,by go_num,by go_num,X⟩
       case measure=>simp[intOf];omega
      ·have I:Hid (U8.utf t.data.toList=false):=by
        show _=_;rw[z.out];exact U8.utf_bad M (U8.one_none K y.out (U8.in_bad D.out V (by omega) (by rw[O];exact hb)))
       clear D y z O;by_cases a1:t[a+i].toNat<128
       ·have Y:(t[a+i].toNat:Int)<128:=(by omega);go_wp2;go_ret;exact⟨by rw[I.out];rfl,rfl⟩
       ·have Y:¬(t[a+i].toNat:Int)<128:=(by omega);have a2:(192:Int)<=(t[a+i].toNat:Int):=(by omega);go_wp2;go_ret;exact⟨by rw[I.out];rfl,rfl⟩
     have W:i=4:=(by omega);subst W;have E:=gQq (U8.in_end D.out);have a9:=D.out.2.2.2.2;by_cases bN:v<65536
     ·have a6:(v:Int)<65536:=(by omega);have I:Hid (U8.utf t.data.toList=false):=by
       show _=_;have J:U8.may 65536 v=false:=(by simp[U8.may];omega);have o:=U8.one_may K y.out E.out;rw[J] at o;rw[z.out];exact U8.utf_bad M o
      clear D E y z;go_wp2;go_ret;exact⟨by rw[I.out];rfl,rfl⟩
     have a6:¬(v:Int)<65536:=(by omega);by_cases bb:1114111<v
     ·have ab:(1114111:Int)<(v:Int):=(by omega);have I:Hid (U8.utf t.data.toList=false):=by
       show _=_;have J:U8.may 65536 v=false:=(by simp[U8.may];omega);have o:=U8.one_may K y.out E.out;rw[J] at o;rw[z.out];exact U8.utf_bad M o
      clear D E y z;go_wp2;go_ret;exact⟨by rw[I.out];rfl,rfl⟩
     have ab:¬(1114111:Int)<(v:Int):=(by omega);by_cases bc:55296<=v
     ·have ah:(55296:Int)<=(v:Int):=(by omega);by_cases be:v<=57343
      ·have aj:(v:Int)<=57343:=(by omega);have I:Hid (U8.utf t.data.toList=false):=by
        show _=_;have J:U8.may 65536 v=false:=(by simp[U8.may];omega);have o:=U8.one_may K y.out E.out;rw[J] at o;rw[z.out];exact U8.utf_bad M o
       clear D E y z;go_wp2;go_ret;exact⟨by rw[I.out];rfl,rfl⟩
      have aj:¬(v:Int)<=57343:=(by omega);have L:Hid (U8.utf t.data.toList=U8.utf (t.data.toList.drop (a+4))∧a+4<=t.size):=by
       have J:U8.may 65536 v=true:=(by simp[U8.may];omega);have o:=U8.one_may K y.out E.out;rw[J,if_pos rfl] at o;have Q:=(U8.one_len o).2;rw[List.length_drop,Z] at Q;refine⟨?_,by omega⟩;rw[z.out,U8.utf_step o,List.drop_drop]
      clear D E y z;go_wp2;go_round;case rel=>exact⟨a+4,L.out.2,by go_num,L.out.1⟩
      case measure=>simp[intOf];omega
     have ah:¬(55296:Int)<=(v:Int):=(by omega);have L:Hid (U8.utf t.data.toList=U8.utf (t.data.toList.drop (a+4))∧a+4<=t.size):=by
      have J:U8.may 65536 v=true:=(by simp[U8.may];omega);have o:=U8.one_may K y.out E.out;rw[J,if_pos rfl] at o;have Q:=(U8.one_len o).2;rw[List.length_drop,Z] at Q;refine⟨?_,by omega⟩;rw[z.out,U8.utf_step o,List.drop_drop]
     clear D E y z;go_wp2;go_round;case rel=>exact⟨a+4,L.out.2,by go_num,L.out.1⟩
     case measure=>simp[intOf];omega
   have I:Hid (U8.utf t.data.toList=false):=by
    show _=_;rw[z.out];refine U8.utf_bad M (U8.one_kind K ?_);rw[bM t a a3];unfold U8.kind;rw[if_neg (by omega),if_neg (by omega),if_neg (by omega),if_neg (by omega)]
   clear z;by_cases ci:t[a].toNat<192
   ·have cj:¬(192:Int)<=(t[a].toNat:Int):=(by omega);have ck:¬(224:Int)<=(t[a].toNat:Int):=(by omega);have cn:¬(240:Int)<=(t[a].toNat:Int):=(by omega);go_wp2;go_ret;exact⟨by rw[I.out];rfl,rfl⟩
   have co:(192:Int)<=(t[a].toNat:Int):=(by omega);have cp:¬(t[a].toNat:Int)<224:=(by omega);have cq:(224:Int)<=(t[a].toNat:Int):=(by omega);have cr:¬(t[a].toNat:Int)<240:=(by omega);have cs:(240:Int)<=(t[a].toNat:Int):=(by omega);have ct:¬(t[a].toNat:Int)<248:=(by omega);go_wp2;go_ret;exact⟨by rw[I.out];rfl,rfl⟩
  ·have W:a=t.size:=(by omega);subst W;go_wp2;go_ret;refine⟨?_,rfl⟩;rw[z.out,List.drop_eq_nil_of_le (by simp)];rfl
end
section
open Go.RowKit
end
section
open Go.RowKit
def dM(t:ByteArray):Bool:=U8.utf t.data.toList
def chk(d:Nat)(x:V):Nat:=V.check dM d x
def fY(d:Nat)(xs:List V):Nat:=V.checkL dM d xs
theorem mM(d:Nat)(k i:Int)(b:Nat)(t:ByteArray)(xs:List V):chk d (.mk k i b t xs)=if 4<d then 62 else if V.ownB k i b t xs.length=false then 60 else if 1024<t.size then 2 else if 256<xs.length then 3 else if k=4∧dM t=false then 61 else fY (d+1) xs:=by
 unfold chk fY;rw[V.check_mk];rfl
theorem kz(d:Nat):∀xs:List V,(∀j (h:j<xs.length),chk d xs[j]=0)->fY d xs=0
 | [],_=>by unfold fY;rw[V.checkL_nil]
 |x::r,h=>by
  have o:=h 0 (by simp);have y:=kz d r (fun j z=>h (j+1) (by simpa using z));unfold chk at o;unfold fY at y ⊢;simp only[List.getElem_cons_zero] at o;rw[V.checkL_cons,if_pos o,y]
theorem rl(d:Nat):∀(xs:List V) (j:Nat) (y:j<xs.length),(∀m (h:m<xs.length),m<j->chk d xs[m]=0)->chk d xs[j]≠0->fY d xs=chk d xs[j]
 |x::r,0,_,_,hn=>by
  unfold chk at hn;unfold fY chk;simp only[List.getElem_cons_zero] at hn ⊢;rw[V.checkL_cons,if_neg hn]
 |x::r,j+1,y,h,hn=>by
  have o:=h 0 (by simp) (by omega);have z:=rl d r j (by simpa using y) (fun m D E=>by have:=h (m+1) (by simpa using D) (by omega);simpa using this) (by simpa using hn);unfold chk at o;unfold fY at z ⊢;simp only[List.getElem_cons_zero] at o;rw[V.checkL_cons,if_pos o,z];rfl
end
section
theorem eT(b:Nat):ay (ay b)=ay b:=by
 unfold ay;by_cases h:mA b=true
 ·rw[if_pos h]
  kernel_rfl
 ·rw[if_neg h,if_neg h]
theorem same_iff:∀x o:V,V.same x o=true↔V.fix x=V.fix o:=by
 intro x;refine V.ind (P:=fun x=>∀o,V.same x o=true↔V.fix x=V.fix o) ?_ x;intro k i b t xs O o;have L:∀(xs y:List V),(∀x∈xs,∀o,V.same x o=true↔V.fix x=V.fix o)->(V.sameL xs y=true↔xs.map V.fix=y.map V.fix):=by
  intro xs;induction xs with
  |nil=>intro y _;cases y <;> simp[V.sameL_nil,V.sameL_nc]
  |cons x r ihr=>
   intro y K;cases y with
   |nil=>simp[V.sameL_cn]
   |cons o s=>
    simp only[V.sameL_cons,Bool.and_eq_true,List.map_cons,List.cons.injEq];rw[K x (by simp) o,ihr s (fun Q M=>K Q (by simp[M]))]
 obtain⟨k',U,S,W,y⟩:=o;rw[V.same_mk,V.fix_mk,V.fix_mk,V.fixL_eq,V.fixL_eq];simp only[Bool.and_eq_true,beq_iff_eq,decide_eq_true_eq,V.mk.injEq];rw[L xs y O];constructor
 ·rintro⟨⟨⟨⟨z,D⟩,E⟩,I⟩,J⟩;exact⟨z,D,I,E,J⟩
 ·rintro⟨z,D,E,I,J⟩;exact⟨⟨⟨⟨z,D⟩,I⟩,E⟩,J⟩
theorem rP(x:V):V.same x x=true:=(same_iff _ _).2 rfl
end
end Go.Proofs.YtbahfgdbjgkklaaGreatDoor

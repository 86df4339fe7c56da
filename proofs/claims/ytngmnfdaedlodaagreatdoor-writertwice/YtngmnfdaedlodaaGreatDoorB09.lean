import Derived.Test.YtngmnfdaedlodaaGreatDoorB07
import Derived.Lib.Zigzag
import Derived.Test.YtngmnfdaedlodaaGreatDoorB08
import Derived.Lib.VarintBits
set_option maxRecDepth 100000
set_option maxHeartbeats 1000000
namespace Go.Proofs.YtngmnfdaedlodaaGreatDoor
open Go.Proofs.Tryz
open Go.Value renaming int->I,slice->F,string->N,float->ox,agg->nx,bool->mx
open Go.IntKind renaming i64->U
open Go.RowKit renaming Hid->Y,Below->O
open Option renaming some->C,none->sw
open Go.Proofs.Tryz renaming prog->AW
open Go.Ending renaming returned->qz
open Go renaming Calls->AZ,World->wv
open Go.FloatKind renaming f64->qq
open Bool renaming true->ux,false->wx
open Go.Obj renaming cells->qj
variable{c pos:Nat}{l:L8}
section
open Go.RowKit
theorem fI(k:IntKind)(x o:Int):bits .xor k x o=bits .xor k o x:=by
 unfold bits;simp only[BitVec.xor_comm]
theorem nN(x:Nat)(h:x<18446744073709551616):bits .xor .u64 (x:Int) 0=x:=by
 have:=bits_xor_u64_nat x 0 (by omega) (by decide);simpa using this
theorem l7(x:Nat)(h:x<9223372036854775808):bits .xor U (x:Int) 0=x:=by
 show IntKind.i64.wrap ((BitVec.ofInt 64 (x:Int) ^^^ BitVec.ofInt 64 0).toNat:Int)=_;have o:(BitVec.ofInt 64 (x:Int)).toNat=x:=by
  rw[BitVec.ofInt_natCast,BitVec.toNat_ofNat];exact Nat.mod_eq_of_lt (by omega)
 have y:(BitVec.ofInt 64 0).toNat=0:=by decide
 rw[BitVec.toNat_xor,o,y,Nat.xor_zero,IntKind.wrap_i64];omega
theorem sF(n:Int)(D:-9223372036854775808<=n)(E:n<=9223372036854775807):
  bits .xor .u64 (IntKind.u64.wrap (IntKind.u64.wrap n*2)) (IntKind.u64.wrap (n / 9223372036854775808))=((Leb.zig n:Nat):Int):=by
 by_cases y:0<=n
 ·have A:IntKind.u64.wrap (IntKind.u64.wrap n*2)=(((2*n).toNat:Nat):Int):=by
   rw[IntKind.wrap_u64,IntKind.wrap_u64];omega
  have o:IntKind.u64.wrap (n / 9223372036854775808)=0:=by
   rw[IntKind.wrap_u64];omega
  rw[A,o,nN _ (by omega)];unfold Leb.zig;rw[AK y];omega
 ·have o:IntKind.u64.wrap (n / 9223372036854775808)=IntKind.u64.max:=by
   have:IntKind.u64.max=18446744073709551615:=(by decide);rw[IntKind.wrap_u64,this];omega
  rw[o,fI,Lib.zigzag_neg D (by omega)];unfold Leb.zig Lib.zigzag;rw[AJ y,AJ y];omega
theorem pJ(n:Int)(o:-9223372036854775808<=n)(y:n<=9223372036854775807)(w:wv):
  AZ AW 149 #[I U n] w fun e w'=>e=qz (I .u64 (Leb.zig n:Nat))∧w'=w:=by
 have H:=gQq (sF n o y);go_enter func149,ntmps149;go_wp2;go_ret;exact⟨by rw[<-H.out];rfl,rfl⟩
theorem sI(u:Nat)(h:u<18446744073709551616):
  bits .xor U ((u:Int) / 2) (wrap64 (-wrap64 (bits .and .u64 (u:Int) 1)))=Leb.zag u:=by
 have A:((u:Int) / 2)=((u / 2:Nat):Int):=by omega
 rw[Lib.u64_and1 _ (by omega) (by omega),A];by_cases y:u % 2=0
 ·have o:wrap64 (-wrap64 ((u:Int) % 2))=0:=by
   have:(u:Int) % 2=0:=(by omega);rw[this];simp[wrap64]
  rw[o,l7 _ (by omega)];unfold Leb.zag;rw[AK y]
 ·have o:wrap64 (-wrap64 ((u:Int) % 2))=-1:=by
   have:(u:Int) % 2=1:=(by omega);rw[this];simp[wrap64]
  rw[o,fI,Lib.i64_not _ (by omega)];unfold Leb.zag;rw[AJ y]
theorem pM(u:Nat)(h:u<18446744073709551616)(w:wv):
  AZ AW 179 #[I .u64 u] w fun e w'=>e=qz (I U (Leb.zag u))∧w'=w:=by
 have H:=gQq (sI u h);go_enter func179,ntmps179;go_wp2;go_ret;exact⟨by rw[<-H.out];rfl,rfl⟩
end
section
open Go.RowKit
theorem pF(x:Nat)(h:0<x)(o:x<18446744073709551616):1<=Lib.bitLen x:=by
 rw[Lib.bitLen_half x (by omega) o];omega
theorem lS(x:Nat)(h:x<128):Lib.bitLen x<=7:=Lib.bitLenAux_le 64 x 7 h
theorem pG(x:Nat)(h:0<x)(o:x<18446744073709551616):Lib.bitLen (x / 2*2+1)=Lib.bitLen x:=by
 rw[Lib.bitLen_half x (by omega) o,Lib.bitLen_half (x / 2*2+1) (by omega) (by omega)];congr 2;omega
theorem qX(f:Nat):∀n:Nat,n<2*128 ^ f->n<18446744073709551616->(Leb.putF (f+1) n).length=(Lib.bitLen (n / 2*2+1)+6) / 7:=by
 induction f with
 |zero=>
  intro n h _;have E:n<2:=by simpa using h
  have e:n / 2*2+1=1:=by omega
  rw[e,Leb.putF,AK (by omega)];rfl
 |succ f ih=>
  intro n h J;by_cases A:n<128
  ·have y:=lS (n / 2*2+1) (by omega);have E:=pF (n / 2*2+1) (by omega) (by omega);rw[Leb.putF,AK A,AC];omega
  ·have y:n / 128<2*128 ^ f:=by
    rw[Nat.pow_succ] at h;rw[Nat.div_lt_iff_lt_mul (by omega)];omega
   have o:=Lib.bitLen_shift 7 (n / 2*2+1) (by omega) (by omega);have D:(n / 2*2+1) / 2 ^ 7=n / 128:=(by omega);rw[D] at o;rw[Leb.putF,AJ A,Aq,ih (n / 128) y (by omega),pG (n / 128) (by omega) (by omega),o];omega
theorem tf(n:Nat)(o:n<18446744073709551616):(Leb.put n).length=(Lib.bitLen (n / 2*2+1)+6) / 7:=by
 have e:2*128 ^ 9=18446744073709551616:=by decide
 exact qX 9 n (by rw[e];exact o) o
theorem vO(n:Nat)(h:n<18446744073709551616):bits .or .u64 (n:Int) 1=((n / 2*2+1:Nat):Int):=by
 have o:=(bits_nat .u64 64 (by decide) wraps_u64 n 1 (by omega) (by decide)).2;have e:((1:Nat):Int)=1:=rfl;rw[e] at o;rw[o];congr 1;apply Nat.eq_of_testBit_eq;intro i;rw[Nat.testBit_or];cases i with
 |zero=>simp
 |succ i=>
  rw[Nat.testBit_succ,Nat.testBit_succ,Nat.testBit_succ];have y:(n / 2*2+1) / 2=n / 2:=by omega
  rw[y];simp
theorem vR(n:Nat)(A:n<18446744073709551616)(w:wv):
  AZ AW 114 #[I .u64 n] w fun e w'=>e=qz (I U ((Leb.put n).length:Nat))∧w'=w:=by
 have o:=gQq (ry (n / 2*2+1) (by omega) w);have y:=gQq (tf n A);have E:=gQq (vO n A);have J:Lib.bitLen (n / 2*2+1)<=64:=Lib.bitLenAux_le 64 _ 64 (by omega);generalize Lib.bitLen (n / 2*2+1)=k at o y J;go_enter func114,ntmps114;go_wp2_with fail;rw[E.out];refine o.out.mono ?_;rintro e w' ⟨rfl,D⟩;rw[D];clear D w';go_wp2;go_ret;exact⟨by rw[y.out];go_num,rfl⟩
def Leb.judge(k c:Nat):Nat:=if k<10∧128<=c then 30 else if k=10∧1<c then 5 else if 1<k∧c=0 then 5 else 0
theorem kF(k c:Nat)(S:k<=10)(Q:c<256)(w:wv):
  AZ AW 166 #[I U k,I .u8 c] w fun e w'=>e=qz (I U (Leb.judge k c:Nat))∧w'=w:=by
 have H:Y (∀j:Nat,Leb.judge k c=j->Leb.judge k c=j):=fun _ h=>h;by_cases o:k<10∧128<=c
 ·have e:Leb.judge k c=30:=by unfold Leb.judge;rw[AK o]
  rw[e];have J:decide ((k:Int)<10)=true:=AE (by omega);have D:decide ((128:Int)<=(c:Int))=true:=AE (by omega);clear e;go_enter func166,ntmps166;go_wp2;go_ret;exact⟨rfl,rfl⟩
 ·by_cases y:k=10∧1<c
  ·have e:Leb.judge k c=5:=(by unfold Leb.judge;rw[AJ o,AK y]);rw[e];obtain⟨rfl,y⟩:=y;have D:decide ((1:Int)<(c:Int))=true:=AE (by omega);clear e o;go_enter func166,ntmps166;go_wp2;go_ret;exact⟨rfl,rfl⟩
  ·by_cases A:1<k∧c=0
   ·have e:Leb.judge k c=5:=(by unfold Leb.judge;rw[AJ o,AJ y,AK A]);rw[e];obtain⟨A,rfl⟩:=A;clear e o y;by_cases E:k=10
    ·subst E;go_enter func166,ntmps166;go_wp2;go_ret;exact⟨rfl,rfl⟩
    ·have J:(k:Int)<10:=(by omega);have D:((k:Int)==10)=false:=(by rw[AM];omega);have K:(1:Int)<(k:Int):=(by omega);go_enter func166,ntmps166;go_wp2;go_ret;exact⟨rfl,rfl⟩
   ·have e:Leb.judge k c=0:=(by unfold Leb.judge;rw[AJ o,AJ y,AJ A]);rw[e];clear e;by_cases E:k=10
    ·subst E;have D:¬(1:Int)<(c:Int):=(by omega);have K:((c:Int)==0)=false:=(by rw[AM];omega);clear o y A;go_enter func166,ntmps166;go_wp2;go_ret;exact⟨rfl,rfl⟩
    ·have J:(k:Int)<10:=(by omega);have D:((k:Int)==10)=false:=(by rw[AM];omega);have K:¬(128:Int)<=(c:Int):=(by omega);by_cases V:1<k
     ·have L:(1:Int)<(k:Int):=(by omega);have M:((c:Int)==0)=false:=(by rw[AM];omega);clear o y A;go_enter func166,ntmps166;go_wp2;go_ret;exact⟨rfl,rfl⟩
     ·have L:¬(1:Int)<(k:Int):=(by omega);clear o y A;go_enter func166,ntmps166;go_wp2;go_ret;exact⟨rfl,rfl⟩
end
section
open Go.RowKit
theorem rl(w:wv)(c:Nat)(M:c<=1000000):∃w',(Instr.makeSlice 40 (I U 0) (I U (c:Int))).run AW w=.ok (F (C ⟨w.1.size,0,sw⟩) 0 c) w'∧bo w' w.1.size w.1.size c []∧O w.1.size w w':=by
 obtain⟨i,E,L,K,D⟩:=info_parts iE;obtain⟨w',o,y,A⟩:=run_make_own (P:=AW) w w.1.size 40 5 i (I .u8 0) 1 underlying40 E L K U U c (by rw[D];omega) (by unfold maxLen;omega) gQx;exact⟨w',o,y,gQz.grown A gQx (fun k J=>by cases J)⟩
theorem oz(m:Nat):bits .or .u8 ((m:Int) % 256) 128=((m % 128+128:Nat):Int):=by
 rw[Lib.u8_or128_any _ (by omega) (by omega)];omega
theorem dA(n:Nat)(J:n<18446744073709551616)(w:wv):
  AZ AW 86 #[I .u64 n] w fun e w'=>∃g cap,e=qz (F (C ⟨g,0,sw⟩) (Leb.put n).length cap)∧bo w' w.1.size g cap (Leb.put n)∧O w.1.size w w':=by
 have ah:=gQq (Leb.putting_start J);have D:=gQq (vR n J w);have ak:=Leb.put_length_le n;obtain⟨k,S⟩:∃k,k=(Leb.put n).length:=⟨_,rfl⟩;rw[<-S] at D ak;clear S;obtain⟨w1,a2,V,Q⟩:=rl w k (by omega);have ab:=gQq V;have Z:=gQq Q;clear V Q;go_enter func86,ntmps86;go_wp2_with fail;refine D.out.mono ?_;rintro e w' ⟨rfl,X⟩;rw[X];clear X w' D;go_wp2;go_loopw [0,3] (fun K a0 wr=>∃(m:Nat) (xs:L8),K=I .u64 m∧m<18446744073709551616∧xs.length<=9∧Y (Leb.Putting n xs m∧Has wr w.1.size a0 xs∧O w.1.size w wr)) (fun K _ _=>(intOf K).toNat);case atStart=>exact⟨n,[],rfl,J,by simp,ah.out,ab.out.has,Z.out⟩
 case round=>
  obtain⟨m,xs,rfl,a1,a3,y⟩:=hrel;have M:=y.out.2.2.size;have L:=gQq y.out.2.1;by_cases aj:127<m
  ·have A:=Leb.byte_high m;have o:=gQq (Leb.putting_next y.out.1 aj);generalize UInt8.ofNat (m % 128+128)=c at A o;have aw:bits .or .u8 ((m:Int) % 256) 128=(c.toNat:Int):=(by rw[oz,A]);go_wp2_with (at_builtin;refine gg L.out c (by omega) M (by first | exact aw | omega | (rw[A];omega)) rfl rfl rfl rfl rfl ?_;intro g cap W E hb);go_roundw;case rel=>exact⟨m / 128,xs++[c],by go_num,by omega,by have:=o.out.1;exact this,o.out,by have:=E.has;simpa using this,y.out.2.2.trans hb⟩
   case measure=>simp[intOf];omega
  ·have A:=Leb.byte_low m (by omega);have o:=gQq (Leb.putting_last y.out.1 (by omega));generalize UInt8.ofNat m=c at A o;go_wp2_with (at_builtin;refine gg L.out c (by omega) M (by omega) rfl rfl rfl rfl rfl ?_;intro g cap W E hb);go_ret;refine⟨g,cap,?_,?_,y.out.2.2.trans hb⟩
   ·rw[<-o.out];simp
   ·rw[<-o.out];exact E
end
section
open Go.RowKit
theorem wm(p:OA)(c n:Nat)(a:Int)(h:a<0∨(n:Int)<a)(w:wv):
  AZ AW 134 #[F p n c,I U a] w fun e w'=>e=qz (.tuple #[I .u64 0,I U 0,I U 30])∧w'=w:=by
 by_cases o:a<0
 ·go_enter func134,ntmps134;go_wp2
  go_step3
  go_wp2;try rw[Exit.noGoto_ret]
  go_ret3
  exact⟨rfl,rfl⟩
 ·have y:(n:Int)<a:=by omega
  have A:decide (a<0)=false:=AD o;go_enter func134,ntmps134;go_wp2
  go_step3
  go_wp2;try rw[Exit.noGoto_ret]
  go_ret3
  exact⟨rfl,rfl⟩
theorem wo(p:OA)(c n:Nat)(w:wv):
  AZ AW 134 #[F p n c,I U n] w fun e w'=>e=qz (.tuple #[I .u64 0,I U 0,I U 30])∧w'=w:=by
 have y:=gQq (kF 0 128 (by decide) (by decide) w);have K:Leb.judge 0 128=30:=by decide
 rw[K] at y;clear K;cases p with
 |none=>
  go_enter func134,ntmps134;go_wp2_with fail
  go_step3
  go_wp2_with fail
  go_step3
  go_wp2_with fail;go_loop [7,8,9,25] (fun D E J A=>D=I .u64 0∧E=I U 0∧J=I .u8 128∧A=I U 0) (fun _ _ _ _=>0);case atStart=>exact⟨rfl,rfl,rfl,rfl⟩
  case round=>
   obtain⟨rfl,rfl,rfl,rfl⟩:=hrel;go_wp2_with fail;refine y.out.mono ?_;rintro e w' ⟨rfl,o⟩;rw[o];clear o w';go_wp2;try rw[Exit.noGoto_ret]
   go_ret3
   exact⟨rfl,rfl⟩
 |some p=>
  by_cases h:c=n
  all_goals
   go_enter func134,ntmps134;go_wp2_with fail
   go_step3
   go_wp2_with fail
   go_step3
   go_wp2_with fail;go_loop [7,8,9,25] (fun D E J A=>D=I .u64 0∧E=I U 0∧J=I .u8 128∧A=I U 0) (fun _ _ _ _=>0);case atStart=>exact⟨rfl,rfl,rfl,rfl⟩
   case round=>
    obtain⟨rfl,rfl,rfl,rfl⟩:=hrel;go_wp2_with fail;refine y.out.mono ?_;rintro e w' ⟨rfl,o⟩;rw[o];clear o w';go_wp2;try rw[Exit.noGoto_ret]
    go_ret3
    exact⟨rfl,rfl⟩
theorem km:∀v:Fin 256,bits .andNot .u8 (v.val:Int) 128=((v.val % 128:Nat):Int):=by decide +kernel
theorem sB(v:Nat)(h:v<256):bits .andNot .u8 (v:Int) 128=((v % 128:Nat):Int):=km ⟨v,h⟩
theorem tt(m x k:Nat)(o:m<128 ^ k)(E:x*128 ^ k<18446744073709551616)(D:m<18446744073709551616):bits .or .u64 (m:Int) (IntKind.u64.wrap ((x:Int)*2 ^ (7*k)))=((m+x*128 ^ k:Nat):Int):=by
 have e:(2:Nat) ^ (7*k)=128 ^ k:=by rw[Nat.pow_mul]
 have y:((x:Int)*2 ^ (7*k))=((x*128 ^ k:Nat):Int):=by
  rw[<-e];push_cast;rfl
 have A:IntKind.u64.wrap (((x*128 ^ k:Nat):Int))=((x*128 ^ k:Nat):Int):=by
  rw[IntKind.wrap_u64];omega
 rw[y,A,bits_join_low .u64 64 (by decide) wraps_u64 (7*k) (m:Int) _ (by omega) (by rw[<-e] at o;exact_mod_cast o) (by omega) (by omega) (by rw[<-e];push_cast;exact Int.mul_emod_left _ _) (by omega)];omega
theorem kB(m v k:Nat)(o:m<128 ^ k)(y:m+v % 128*128 ^ k<18446744073709551616):bits .or .u64 (m:Int) (IntKind.u64.wrap ((v:Int) % 128*2 ^ (7*k)))=((m+v % 128*128 ^ k:Nat):Int):=by
 have e:((v:Int) % 128)=((v % 128:Nat):Int):=by omega
 rw[e];exact tt m (v % 128) k o (by omega) (by omega)
theorem fD(r:L8)(k:Nat)(h:k<r.length):Leb.val (r.take (k+1))=Leb.val (r.take k)+r[k].toNat % 128*128 ^ k:=by
 induction r generalizing k with
 |nil=>simp at h
 |cons c r ih=>
  cases k with
  |zero=>simp[Leb.val]
  |succ k=>
   have:=ih k (by simpa using h);simp only[List.take_succ_cons,Leb.val,List.getElem_cons_succ,this,Nat.pow_succ];rw[Nat.add_mul,Nat.mul_assoc];omega
theorem eQ(r:L8)(k:Nat):Leb.val (r.take k)<128 ^ k:=by
 induction k generalizing r with
 |zero=>simp[Leb.val]
 |succ k ih=>
  cases r with
  |nil=>simp only[List.take_nil,Leb.val];exact Nat.pow_pos (by omega)
  |cons c r=>
   have:=ih r;simp only[List.take_succ_cons,Leb.val,Nat.pow_succ];omega
theorem ym(b o c a:Nat)(l:L8)(b6:l.length<=140737488351232)(b7:l.length<=c)(b3:a<l.length)(w:wv)(bi:cS w b o l):
  AZ AW 134 #[F (C ⟨b,o,sw⟩) l.length c,I U a] w fun e w'=>e=qz (ie l a)∧w'=w:=by
 obtain⟨r,a0⟩:∃r,r=l.drop a:=⟨_,rfl⟩;have a7:r.length=l.length-a:=by rw[a0,Aj]
 have V:Y (∀j (h:j<r.length),w.cell? ⟨b,o+a+j,sw⟩=C (I .u8 (r[j].toNat:Int))):=by
  intro j h;have:=bi (a+j) (by omega);rw[Nat.add_assoc,this];subst a0;rw[List.getElem_drop]
 have J:Y (∀e n k,Leb.get r=⟨e,n,k⟩->Leb.get (l.drop a)=⟨e,n,k⟩):=by
  intro e n k h;rw[<-a0];exact h
 have b4:¬c=a:=by omega
 have L:Y (∀k v:Nat,k<=10->v<256->AZ AW 166 #[I U k,I .u8 v] w fun e w'=>e=qz (I U (Leb.judge k v:Nat))∧w'=w):=fun k v X Q=>kF k v X Q w;clear bi a0;go_enter func134,ntmps134;go_wp2_with fail
 go_step3
 go_wp2_with fail
 go_step3
 go_wp2_with fail;go_loop [7,8,9,25] (fun bX bb b0 bT=>∃k m v:Nat,k<=9∧k<=r.length∧bX=I .u64 m∧bb=I U k∧b0=I .u8 v∧bT=I U k∧127<v∧v<256∧m<18446744073709551616∧Y (m=Leb.val (r.take k)∧∀j (h:j<r.length),j<k->127<r[j].toNat)) (fun _ bb _ _=>10-(intOf bb).toNat);case atStart=>exact⟨0,0,128,by omega,by omega,rfl,rfl,rfl,rfl,by omega,by omega,by omega,rfl,fun j h b1=>by omega⟩
 case round=>
  obtain⟨k,m,v,b5,bj,rfl,rfl,rfl,rfl,cb,bO,b9,y⟩:=hrel;by_cases a3:k=r.length
  ·have ab:=Leb.high_eq 10 r k (by omega) (by omega) y.out.2 (.inr (.inl a3));have K:=gQq (gD l a 30 (by omega) (J.out _ _ _ ((Leb.getF_high 10 ux r).2.1 (by rw[ab];exact a3) (by omega))));have hj:Leb.judge k v=30:=(by unfold Leb.judge;rw[AK ⟨by omega,by omega⟩]);have A:=gQq (L.out k v (by omega) bO);rw[hj] at A;have bs:¬k<l.length-a:=(by omega);clear y ab hj V J L a3 a7 bj;go_wp2_with fail;refine A.out.mono ?_;rintro e w' ⟨rfl,D⟩;rw[D];clear D w';go_wp2;try rw[Exit.noGoto_ret]
   go_ret3
   exact⟨by rw[K.out];rfl,rfl⟩
  ·have aw:k<r.length:=(by omega);have bv:=V.out k aw;have ah:r[k].toNat<256:=r[k].toNat_lt;have bs:k<l.length-a:=(by omega);have bq:=sB r[k].toNat ah;obtain⟨v',a8⟩:∃v',v'=r[k].toNat:=⟨_,rfl⟩;rw[<-a8] at bv ah bq;have M:=gQq a8;have a2:=gQq a7;clear a8 a7;by_cases aj:127<v'
   ·have a1:Y (∀j (h:j<r.length),j<k+1->127<r[j].toNat):=by
     intro j h hj;by_cases e:j=k
     ·subst e;rw[<-M.out];exact aj
     ·exact y.out.2 j h (by omega)
    by_cases be:k=9
    ·have K:=gQq (gD l a 5 (by omega) (J.out _ _ _ ((Leb.getF_high 10 ux r).1 (Leb.high_eq 10 r 10 (by omega) (by omega) (fun j h hj=>a1.out j h (by omega)) (.inl rfl)))));have hj:Leb.judge 10 v'=5:=(by unfold Leb.judge;rw[AJ (by omega),AK ⟨rfl,by omega⟩]);have A:=gQq (L.out 10 v' (by omega) ah);rw[hj] at A;clear y a1 V J L M a2 hj;subst be;go_wp2_with fail;refine A.out.mono ?_;rintro e w' ⟨rfl,D⟩;rw[D];clear D w';go_wp2;try rw[Exit.noGoto_ret]
     go_ret3
     exact⟨by rw[K.out];rfl,rfl⟩
    ·have b2:((k:Int)+1==10)=false:=(by rw[AM];omega);have ak:k<=8:=(by omega);have S:=fD r k aw;rw[<-M.out,<-y.out.1] at S;have bN:(128:Nat) ^ (k+1)<=128 ^ 9:=Nat.pow_le_pow_right (by omega) (by omega);have bn:(128:Nat) ^ 9=9223372036854775808:=(by decide);have bk:=eQ r (k+1);rw[S] at bk;have a4:m+v' % 128*128 ^ k<18446744073709551616:=(by omega);have a6:=kB m v' k (by rw[y.out.1];exact eQ r k) a4;have bc:Y (m+v' % 128*128 ^ k=Leb.val (r.take (k+1))):=S.symm;clear be S bN bn bk V J L y;generalize m+v' % 128*128 ^ k=bl at a6 bc a4;go_wp2_with fail;go_round;case rel=>exact⟨k+1,bl,v',by omega,by omega,rfl,by go_num,rfl,by go_num,aj,ah,a4,bc.out,a1.out⟩
     case measure=>simp[intOf];omega
   ·have ab:=Leb.high_eq 10 r k (by omega) bj y.out.2 (.inr (.inr ⟨aw,by rw[<-M.out];exact aj⟩));have E:=(Leb.getF_high 10 ux r).2.2 (by omega) (by omega);simp only[ab] at E;rw[<-M.out] at E;have b8:v'<128:=(by omega);by_cases Z:(k+1=10∧1<v')∨((ux=wx∨0<k)∧v'=0)
    ·rw[AK Z] at E;have K:=gQq (gD l a 5 (by omega) (J.out _ _ _ E));have hj:Leb.judge (k+1) v'=5:=by
      unfold Leb.judge;rw[AJ (by omega)];by_cases X:k+1=10∧1<v'
      ·rw[AK X]
      ·rcases Z with Q | ⟨Q | Q,bp⟩
       ·exact absurd Q X
       ·cases Q
       ·rw[AJ X,AK ⟨by omega,bp⟩]
     have A:=gQq (L.out (k+1) v' (by omega) ah);rw[hj] at A;clear y V J L M a2 hj E ab Z aj;go_wp2_with fail;refine A.out.mono ?_;rintro e w' ⟨rfl,D⟩;rw[D];clear D w';go_wp2;try rw[Exit.noGoto_ret]
     go_ret3
     exact⟨by rw[K.out];rfl,rfl⟩
    ·rw[AJ Z] at E;have a5:=Leb.get_ok r (by rw[show Leb.get r=_ from E]);rw[show Leb.get r=_ from E] at a5;have ak:Leb.val (r.take (k+1))<18446744073709551616:=a5.1;have S:=fD r k aw;rw[<-M.out,<-y.out.1] at S;have K:=gQq (qm l a _ _ (J.out _ _ _ E));rw[S] at K ak;have a6:=kB m v' k (by rw[y.out.1];exact eQ r k) ak;have hj:Leb.judge (k+1) v'=0:=by
      unfold Leb.judge;rw[AJ (by omega),AJ (by omega),AJ];rintro⟨X,Q⟩;exact Z (.inr ⟨.inr (by omega),Q⟩)
     have A:=gQq (L.out (k+1) v' (by omega) ah);rw[hj] at A;clear y V J L M a2 hj E ab Z aj a5 S;generalize m+v' % 128*128 ^ k=bl at a6 K ak;go_wp2_with fail;refine A.out.mono ?_;rintro e w' ⟨rfl,D⟩;rw[D];clear D w';go_wp2;try rw[Exit.noGoto_ret]
     go_ret3
     exact⟨by rw[K.out] <;> go_num,rfl⟩
theorem lB(p:OA)(c:Nat)(l:L8)(a:Int)(D:l.length<=140737488351232)(E:l.length<=c)(w:wv)(h:At w p l):
  AZ AW 134 #[F p l.length c,I U a] w fun e w'=>e=qz (ie l a)∧w'=w:=by
 by_cases o:a<0∨(l.length:Int)<a
 ·rw[jw l a (by omega)];exact wm p c l.length a o w
 ·obtain⟨n,rfl⟩:∃n:Nat,a=(n:Int):=⟨a.toNat,by omega⟩;by_cases y:n=l.length
  ·rw[jw l n (by omega),y];exact wo p c l.length w
  ·obtain⟨b,J,rfl,_,A⟩:=aO h (by omega);exact ym b J c n l D E (by omega) w A
end
section
open Go
theorem cD{s:ByteArray}{k:Nat}(A:s.data.toList.drop pos=l)(y:k<l.length):pos+k<s.size∧s.get! (pos+k)=l[k]:=by
 subst A;have o:pos+k<s.size:=by
  rw[Aj,Array.length_toList] at y;show pos+k<s.data.size;omega
 refine⟨o,?_⟩;rw[List.getElem_drop,Array.getElem_toList];exact get_at s (pos+k) o
theorem qK{s:ByteArray}(o:s.data.toList.drop pos=l)(y:pos<=s.size):s.size=pos+l.length:=by
 subst o;rw[Aj,Array.length_toList];show s.data.size=_;have:pos<=s.data.size:=y;omega
theorem lG(s:ByteArray)(i:Nat):Utf8.decode s i=(let at' (k:Nat):Nat:=(s.get! (i+k)).toNat
 let dX (k:Nat):Bool:=i+k<s.size&&at' k / 64==2
 let b0:=at' 0
 if b0<0x80 then (b0,1)
 else if b0 / 32==6&&dX 1 then
  let c:=(b0 % 32)*64+at' 1 % 64
  if c≥0x80 then (c,2) else (Utf8.runeError,1)
 else if b0 / 16==14&&dX 1&&dX 2 then
  let c:=(b0 % 16)*4096+(at' 1 % 64)*64+at' 2 % 64
  if c≥0x800&&Utf8.valid c then (c,3) else (Utf8.runeError,1)
 else if b0 / 8==30&&dX 1&&dX 2&&dX 3 then
  let c:=(b0 % 8)*262144+(at' 1 % 64)*4096+(at' 2 % 64)*64+at' 3 % 64
  if c≥0x10000&&Utf8.valid c then (c,4) else (Utf8.runeError,1)
 else (Utf8.runeError,1)):=rfl
theorem gS(c least:Nat):(Utf8.valid c&&decide (least<=c))=U8.may least c:=by
 unfold Utf8.valid U8.may;rw[Bool.eq_iff_iff];simp only[Bool.and_eq_true,Bool.or_eq_true,decide_eq_true_eq,Bool.not_eq_true',Bool.and_eq_false_iff,decide_eq_false_iff_not];omega
def dec:L8->Nat×Nat
 | []=>(65533,1)
 |c0::r=>
  if c0.toNat<128 then (c0.toNat,1)
  else match r with
   | []=>(65533,1)
   |c1::r1=>
    if 192<=c0.toNat∧c0.toNat<224 then (if (128<=c1.toNat∧c1.toNat<192)∧128<=(c0.toNat-192)*64+c1.toNat-128 then ((c0.toNat-192)*64+c1.toNat-128,2) else (65533,1))
    else match r1 with
     | []=>(65533,1)
     |c2::r2=>
      if 224<=c0.toNat∧c0.toNat<240 then (if (128<=c1.toNat∧c1.toNat<192)∧(128<=c2.toNat∧c2.toNat<192)∧U8.may 2048 (((c0.toNat-224)*64+c1.toNat-128)*64+c2.toNat-128) then (((c0.toNat-224)*64+c1.toNat-128)*64+c2.toNat-128,3) else (65533,1))
      else match r2 with
       | []=>(65533,1)
       |c3::_=>
        if 240<=c0.toNat∧c0.toNat<248 then (if (128<=c1.toNat∧c1.toNat<192)∧(128<=c2.toNat∧c2.toNat<192)∧(128<=c3.toNat∧c3.toNat<192)∧U8.may 65536 ((((c0.toNat-240)*64+c1.toNat-128)*64+c2.toNat-128)*64+c3.toNat-128) then ((((c0.toNat-240)*64+c1.toNat-128)*64+c2.toNat-128)*64+c3.toNat-128,4) else (65533,1))
        else (65533,1)
theorem tP(c:UInt8):(c.toNat / 32==6)=decide (192<=c.toNat∧c.toNat<224):=by rw[Bool.eq_iff_iff];simp;omega
theorem xi(c:UInt8):(c.toNat / 16==14)=decide (224<=c.toNat∧c.toNat<240):=by rw[Bool.eq_iff_iff];simp;omega
theorem zh(c:UInt8):(c.toNat / 8==30)=decide (240<=c.toNat∧c.toNat<248):=by rw[Bool.eq_iff_iff];simp;omega
theorem follows(c:UInt8):(c.toNat / 64==2)=decide (128<=c.toNat∧c.toNat<192):=by rw[Bool.eq_iff_iff];simp;omega
theorem jE{s:ByteArray}(E:s.data.toList.drop pos=l)(aw:pos<s.size):Utf8.decode s pos=dec l:=by
 have J:=qK E (Nat.le_of_lt aw);have ah:Utf8.runeError=65533:=rfl;match l,E,J with
 | [],_,h=>simp at h;omega
 | [c0],E,J=>
  have L:=(cD E (k:=0) (by simp)).2;have X:decide (pos+1<s.size)=false:=AD (by simp at J;omega);have Z:decide (pos+2<s.size)=false:=AD (by simp at J;omega);have aj:decide (pos+3<s.size)=false:=AD (by simp at J;omega);simp only[List.getElem_cons_zero] at L;rw[lG];simp only[L,X,Bool.false_and,Bool.and_false,Bool.false_eq_true,if_false,ah];unfold dec;rfl
 | [c0,c1],E,J=>
  have L:=(cD E (k:=0) (by simp)).2;have Q:=(cD E (k:=1) (by simp)).2;have X:decide (pos+1<s.size)=true:=AE (by simp at J;omega);have Z:decide (pos+2<s.size)=false:=AD (by simp at J;omega);simp only[List.getElem_cons_zero,List.getElem_cons_succ] at L Q;rw[lG];simp only[L,Q,X,Z,Bool.false_and,Bool.and_false,Bool.true_and,Bool.false_eq_true,if_false,ah,tP,follows];simp only[dec];by_cases K:c0.toNat<128
  ·rw[AK K,AK K]
  ·rw[AJ K,AJ K];by_cases D:192<=c0.toNat∧c0.toNat<224
   ·by_cases y:128<=c1.toNat∧c1.toNat<192
    ·rw[AK (by simp[D,y]),AK D];have e:c0.toNat % 32*64+c1.toNat % 64=(c0.toNat-192)*64+c1.toNat-128:=(by omega);rw[e];by_cases A:128<=(c0.toNat-192)*64+c1.toNat-128
     ·rw[AK A,AK ⟨y,A⟩]
     ·rw[AJ A,AJ (fun o=>A o.2)]
    ·rw[AJ (by simp[y]),AK D,AJ (fun o=>y o.1)]
   ·rw[AJ (by simp[D]),AJ D]
 | [c0,c1,c2],E,J=>
  have L:=(cD E (k:=0) (by simp)).2;have Q:=(cD E (k:=1) (by simp)).2;have ab:=(cD E (k:=2) (by simp)).2;have X:decide (pos+1<s.size)=true:=AE (by simp at J;omega);have Z:decide (pos+2<s.size)=true:=AE (by simp at J;omega);have aj:decide (pos+3<s.size)=false:=AD (by simp at J;omega);simp only[List.getElem_cons_zero,List.getElem_cons_succ] at L Q ab;rw[lG];simp only[L,Q,ab,X,Z,aj,Bool.false_and,Bool.and_false,Bool.true_and,Bool.false_eq_true,if_false,ah,tP,xi,follows];simp only[dec];by_cases K:c0.toNat<128
  ·rw[AK K,AK K]
  ·rw[AJ K,AJ K];by_cases D:192<=c0.toNat∧c0.toNat<224
   ·by_cases y:128<=c1.toNat∧c1.toNat<192
    ·rw[AK (by simp[D,y]),AK D];have e:c0.toNat % 32*64+c1.toNat % 64=(c0.toNat-192)*64+c1.toNat-128:=(by omega);rw[e];by_cases A:128<=(c0.toNat-192)*64+c1.toNat-128
     ·rw[AK A,AK ⟨y,A⟩]
     ·rw[AJ A,AJ (fun o=>A o.2)]
    ·rw[AJ (by simp[y]),AJ (by simp[y]),AK D,AJ (fun o=>y o.1)]
   ·rw[AJ (by simp[D]),AJ D];by_cases M:224<=c0.toNat∧c0.toNat<240
    ·rw[AK M];by_cases y:(128<=c1.toNat∧c1.toNat<192)∧128<=c2.toNat∧c2.toNat<192
     ·rw[AK (by simp[M,y])];have e:c0.toNat % 16*4096+c1.toNat % 64*64+c2.toNat % 64=((c0.toNat-224)*64+c1.toNat-128)*64+c2.toNat-128:=(by omega);rw[e];have V:=gS (((c0.toNat-224)*64+c1.toNat-128)*64+c2.toNat-128) 2048;by_cases A:U8.may 2048 (((c0.toNat-224)*64+c1.toNat-128)*64+c2.toNat-128)=ux
      ·rw[AK (by rw[Bool.and_comm,<-A];exact V),AK ⟨y.1,y.2,A⟩]
      ·rw[AJ (by rw[Bool.and_comm];exact fun o=>A (V.symm.trans o)),AJ (fun o=>A o.2.2)]
     ·rw[AJ (by simp only[Bool.and_eq_true,decide_eq_true_eq];exact fun o=>y ⟨o.1.2,o.2⟩),AJ (fun o=>y ⟨o.1,o.2.1⟩)]
    ·rw[AJ (by simp[M]),AJ M]
 |c0::c1::c2::c3::t,E,J=>
  have L:=(cD E (k:=0) (by simp)).2;have Q:=(cD E (k:=1) (by simp)).2;have ab:=(cD E (k:=2) (by simp)).2;have ak:=(cD E (k:=3) (by simp)).2;have X:decide (pos+1<s.size)=true:=AE (by simp at J;omega);have Z:decide (pos+2<s.size)=true:=AE (by simp at J;omega);have aj:decide (pos+3<s.size)=true:=AE (by simp at J;omega);simp only[List.getElem_cons_zero,List.getElem_cons_succ] at L Q ab ak;rw[lG];simp only[L,Q,ab,ak,X,Z,aj,Bool.true_and,ah,tP,xi,zh,follows];simp only[dec];by_cases K:c0.toNat<128
  ·rw[AK K,AK K]
  ·rw[AJ K,AJ K];by_cases D:192<=c0.toNat∧c0.toNat<224
   ·have M:¬(224<=c0.toNat∧c0.toNat<240):=(by omega);have S:¬(240<=c0.toNat∧c0.toNat<248):=(by omega);by_cases y:128<=c1.toNat∧c1.toNat<192
    ·rw[AK (by simp[D,y]),AK D];have e:c0.toNat % 32*64+c1.toNat % 64=(c0.toNat-192)*64+c1.toNat-128:=(by omega);rw[e];by_cases A:128<=(c0.toNat-192)*64+c1.toNat-128
     ·rw[AK A,AK ⟨y,A⟩]
     ·rw[AJ A,AJ (fun o=>A o.2)]
    ·rw[AJ (by simp[y]),AJ (by simp[M]),AJ (by simp[S]),AK D,AJ (fun o=>y o.1)]
   ·rw[AJ (by simp[D]),AJ D];by_cases M:224<=c0.toNat∧c0.toNat<240
    ·have S:¬(240<=c0.toNat∧c0.toNat<248):=(by omega);rw[AK M];by_cases y:(128<=c1.toNat∧c1.toNat<192)∧128<=c2.toNat∧c2.toNat<192
     ·rw[AK (by simp[M,y])];have e:c0.toNat % 16*4096+c1.toNat % 64*64+c2.toNat % 64=((c0.toNat-224)*64+c1.toNat-128)*64+c2.toNat-128:=(by omega);rw[e];have V:=gS (((c0.toNat-224)*64+c1.toNat-128)*64+c2.toNat-128) 2048;by_cases A:U8.may 2048 (((c0.toNat-224)*64+c1.toNat-128)*64+c2.toNat-128)=ux
      ·rw[AK (by rw[Bool.and_comm,<-A];exact V),AK ⟨y.1,y.2,A⟩]
      ·rw[AJ (by rw[Bool.and_comm];exact fun o=>A (V.symm.trans o)),AJ (fun o=>A o.2.2)]
     ·rw[AJ (by simp only[Bool.and_eq_true,decide_eq_true_eq];exact fun o=>y ⟨o.1.2,o.2⟩),AJ (by simp[S]),AJ (fun o=>y ⟨o.1,o.2.1⟩)]
    ·rw[AJ (by simp[M]),AJ M];by_cases S:240<=c0.toNat∧c0.toNat<248
     ·rw[AK S];by_cases y:(128<=c1.toNat∧c1.toNat<192)∧(128<=c2.toNat∧c2.toNat<192)∧128<=c3.toNat∧c3.toNat<192
      ·rw[AK (by simp[S,y])];have e:c0.toNat % 8*262144+c1.toNat % 64*4096+c2.toNat % 64*64+c3.toNat % 64=(((c0.toNat-240)*64+c1.toNat-128)*64+c2.toNat-128)*64+c3.toNat-128:=(by omega);rw[e];have V:=gS ((((c0.toNat-240)*64+c1.toNat-128)*64+c2.toNat-128)*64+c3.toNat-128) 65536;by_cases A:U8.may 65536 ((((c0.toNat-240)*64+c1.toNat-128)*64+c2.toNat-128)*64+c3.toNat-128)=ux
       ·rw[AK (by rw[Bool.and_comm,<-A];exact V),AK ⟨y.1,y.2.1,y.2.2,A⟩]
       ·rw[AJ (by rw[Bool.and_comm];exact fun o=>A (V.symm.trans o)),AJ (fun o=>A o.2.2.2)]
      ·rw[AJ (by simp only[Bool.and_eq_true,decide_eq_true_eq];exact fun o=>y ⟨o.1.1.2,o.1.2,o.2⟩),AJ (fun o=>y ⟨o.1,o.2.1,o.2.2.1⟩)]
     ·rw[AJ (by simp[S]),AJ S]
theorem iX{v:Nat}(h:v<2048)(least:Nat):U8.may least v=decide (least<=v):=by
 unfold U8.may;rw[Bool.eq_iff_iff];simp only[Bool.and_eq_true,decide_eq_true_eq,Bool.not_eq_true',Bool.and_eq_false_iff,decide_eq_false_iff_not];omega
theorem xn(h:c<128):U8.kind c=C (1,c,0):=by unfold U8.kind;rw[AK h]
theorem xm(h:192<=c∧c<224):U8.kind c=C (2,c-192,128):=by unfold U8.kind;rw[AJ (by omega),AK h]
theorem xl(h:224<=c∧c<240):U8.kind c=C (3,c-224,2048):=by unfold U8.kind;rw[AJ (by omega),AJ (by omega),AK h]
theorem xk(h:240<=c∧c<248):U8.kind c=C (4,c-240,65536):=by unfold U8.kind;rw[AJ (by omega),AJ (by omega),AJ (by omega),AK h]
theorem zk(o:¬c<128)(y:¬(192<=c∧c<224))(A:¬(224<=c∧c<240))(D:¬(240<=c∧c<248)):U8.kind c=none:=by unfold U8.kind;rw[AJ o,AJ y,AJ A,AJ D]
theorem wG(h:U8.one l=sw):dec l=(65533,1):=by
 match l,h with
 | [],_=>rfl
 |c0::r,h=>
  simp only[U8.one] at h;by_cases y:c0.toNat<128
  ·rw[xn y] at h;simp[U8.conts,iX (show c0.toNat<2048 by omega)] at h
  ·by_cases A:192<=c0.toNat∧c0.toNat<224
   ·rw[xm A] at h;match r,h with
    | [],_=>simp[dec,y]
    |c1::r1,h=>
     simp only[dec];rw[AJ y,AK A];by_cases D:128<=c1.toNat∧c1.toNat<192
     ·simp only[U8.conts,AK D,iX (show(c0.toNat-192)*64+c1.toNat-128<2048 by omega)] at h;by_cases E:128<=(c0.toNat-192)*64+c1.toNat-128
      ·simp[E] at h
      ·rw[AJ (fun o=>E o.2)]
     ·rw[AJ (fun o=>D o.1)]
   ·by_cases J:224<=c0.toNat∧c0.toNat<240
    ·rw[xl J] at h;match r,h with
     | [],_=>simp[dec,y]
     | [c1],_=>simp[dec,y,A]
     |c1::c2::r2,h=>
      simp only[dec];rw[AJ y,AJ A,AK J];by_cases D:128<=c1.toNat∧c1.toNat<192
      ·by_cases E:128<=c2.toNat∧c2.toNat<192
       ·simp only[U8.conts,AK D,AK E] at h;by_cases K:U8.may 2048 (((c0.toNat-224)*64+c1.toNat-128)*64+c2.toNat-128)=ux
        ·simp[K] at h
        ·rw[AJ (fun o=>K o.2.2)]
       ·rw[AJ (fun o=>E o.2.1)]
      ·rw[AJ (fun o=>D o.1)]
    ·by_cases L:240<=c0.toNat∧c0.toNat<248
     ·rw[xk L] at h;match r,h with
      | [],_=>simp[dec,y]
      | [c1],_=>simp[dec,y,A]
      | [c1,c2],_=>simp[dec,y,A,J]
      |c1::c2::c3::r3,h=>
       simp only[dec];rw[AJ y,AJ A,AJ J,AK L];by_cases D:128<=c1.toNat∧c1.toNat<192
       ·by_cases E:128<=c2.toNat∧c2.toNat<192
        ·by_cases M:128<=c3.toNat∧c3.toNat<192
         ·simp only[U8.conts,AK D,AK E,AK M] at h;by_cases K:U8.may 65536 ((((c0.toNat-240)*64+c1.toNat-128)*64+c2.toNat-128)*64+c3.toNat-128)=ux
          ·simp[K] at h
          ·rw[AJ (fun o=>K o.2.2.2)]
         ·rw[AJ (fun o=>M o.2.2.1)]
        ·rw[AJ (fun o=>E o.2.1)]
       ·rw[AJ (fun o=>D o.1)]
     ·match r with
      | []=>simp[dec,y]
      | [c1]=>simp[dec,y,A]
      | [c1,c2]=>simp[dec,y,A,J]
      |c1::c2::c3::r3=>simp[dec,y,A,J,L]
theorem uF{n:Nat}(h:U8.one l=C n):(dec l).2=n∧((dec l).1=65533->n=3∧l.take 3=[239,191,189])∧(dec l).1<=1114111:=by
 match l,h with
 | [],h=>simp[U8.one] at h
 |c0::r,h=>
  simp only[U8.one] at h;by_cases D:c0.toNat<128
  ·rw[xn D] at h;have Z:U8.may 0 c0.toNat=true:=(by rw[iX (by omega)];simp);have ab:n=1:=(by simpa[U8.conts,Z] using h.symm);subst ab;have hd:dec (c0::r)=(c0.toNat,1):=(by simp[dec,D]);rw[hd];exact⟨rfl,fun E=>by simp only at E;omega,by simp only;omega⟩
  ·by_cases J:192<=c0.toNat∧c0.toNat<224
   ·rw[xm J] at h;match r,h with
    | [],h=>simp[U8.conts] at h
    |c1::r1,h=>
     simp only[dec];rw[AJ D,AK J];by_cases o:128<=c1.toNat∧c1.toNat<192
     ·simp only[U8.conts,AK o,iX (show(c0.toNat-192)*64+c1.toNat-128<2048 by omega)] at h;by_cases y:128<=(c0.toNat-192)*64+c1.toNat-128
      ·simp only[y,decide_true,if_true,Option.some.injEq] at h;rw[AK ⟨o,y⟩];exact⟨h,fun E=>by omega,by simp only;omega⟩
      ·simp[y] at h
     ·simp only[U8.conts,AJ o] at h;cases h
   ·by_cases K:224<=c0.toNat∧c0.toNat<240
    ·rw[xl K] at h;match r,h with
     | [],h=>simp[U8.conts] at h
     | [c1],h=>
      by_cases o:128<=c1.toNat∧c1.toNat<192
      ·simp only[U8.conts,AK o] at h;cases h
      ·simp only[U8.conts,AJ o] at h;cases h
     |c1::c2::r2,h=>
      simp only[dec];rw[AJ D,AJ J,AK K];by_cases o:128<=c1.toNat∧c1.toNat<192
      ·by_cases y:128<=c2.toNat∧c2.toNat<192
       ·simp only[U8.conts,AK o,AK y] at h;by_cases A:U8.may 2048 (((c0.toNat-224)*64+c1.toNat-128)*64+c2.toNat-128)=ux
        ·rw[AK A] at h;simp only[Option.some.injEq] at h;rw[AK ⟨o,y,A⟩];refine⟨h,fun E=>⟨h.symm,?_⟩,by simp only;omega⟩;simp only at E;have S:c0=239:=UInt8.toNat_inj.1 (by simp;omega);have V:c1=191:=UInt8.toNat_inj.1 (by simp;omega);have X:c2=189:=UInt8.toNat_inj.1 (by simp;omega);rw[S,V,X];rfl
        ·rw[AJ A] at h;cases h
       ·simp only[U8.conts,AK o,AJ y] at h;cases h
      ·simp only[U8.conts,AJ o] at h;cases h
    ·by_cases L:240<=c0.toNat∧c0.toNat<248
     ·rw[xk L] at h;match r,h with
      | [],h=>simp[U8.conts] at h
      | [c1],h=>
       by_cases o:128<=c1.toNat∧c1.toNat<192
       ·simp only[U8.conts,AK o] at h;cases h
       ·simp only[U8.conts,AJ o] at h;cases h
      | [c1,c2],h=>
       by_cases o:128<=c1.toNat∧c1.toNat<192
       ·by_cases y:128<=c2.toNat∧c2.toNat<192
        ·simp only[U8.conts,AK o,AK y] at h;cases h
        ·simp only[U8.conts,AK o,AJ y] at h;cases h
       ·simp only[U8.conts,AJ o] at h;cases h
      |c1::c2::c3::r3,h=>
       simp only[dec];rw[AJ D,AJ J,AJ K,AK L];by_cases o:128<=c1.toNat∧c1.toNat<192
       ·by_cases y:128<=c2.toNat∧c2.toNat<192
        ·by_cases M:128<=c3.toNat∧c3.toNat<192
         ·simp only[U8.conts,AK o,AK y,AK M] at h;by_cases A:U8.may 65536 ((((c0.toNat-240)*64+c1.toNat-128)*64+c2.toNat-128)*64+c3.toNat-128)=ux
          ·rw[AK A] at h;simp only[Option.some.injEq] at h;rw[AK ⟨o,y,M,A⟩];have Q:=A;unfold U8.may at Q;simp only[Bool.and_eq_true,decide_eq_true_eq] at Q;exact⟨h,fun E=>by simp only at E;omega,Q.1.2⟩
          ·rw[AJ A] at h;cases h
         ·simp only[U8.conts,AK o,AK y,AJ M] at h;cases h
        ·simp only[U8.conts,AK o,AJ y] at h;cases h
       ·simp only[U8.conts,AJ o] at h;cases h
     ·rw[zk D J K L] at h;cases h
end
section
open Go.RowKit
theorem tz(h:l.take 3=[239,191,189]):U8.one l=C 3:=by
 match l,h with
 | [],h=>simp at h
 | [_],h=>simp at h
 | [_,_],h=>simp at h
 |a::b::c::r,h=>
  simp only[List.take_succ_cons,List.take_zero,List.cons.injEq,and_true] at h;obtain⟨rfl,rfl,rfl⟩:=h;simp[U8.one,U8.kind,U8.conts,U8.may]
theorem zW(t:ByteArray):(t.extract 0 3).toList=t.data.toList.take 3:=by
 rw[ByteArray.toList_eq,ByteArray.data_extract,Array.toList_extract];simp
theorem yw(t:ByteArray)(pos:Nat):(t.extract pos t.size).data.toList=t.data.toList.drop pos:=by
 rw[ByteArray.data_extract,Array.toList_extract];simp;exact List.take_of_length_le (by simp[List.length_drop])
def mX(t:ByteArray):Bool:=decide (t.data.toList.take 3=[239,191,189])
theorem rp(t:ByteArray)(L:t.size<=281474976702464)(w:wv):AZ AW 207 #[N t,N ⟨#[239,191,189]⟩] w fun e w'=>e=qz (mx (mX t))∧w'=w:=by
 by_cases E:t.size<3
 ·have y:¬(3:Int)<=(t.size:Int):=by omega
  have o:Y (mX t=wx):=by
   show decide _=wx;rw[decide_eq_false_iff_not];intro A;have:=congrArg List.length A;rw[AA,Array.length_toList] at this;have K:t.data.size=t.size:=rfl;simp at this;omega
  go_enter func207,ntmps207;go_wp2;go_ret;exact⟨by rw[o.out];rfl,rfl⟩
 ·have y:(3:Int)<=(t.size:Int):=by omega
  have J:3<=t.size:=by omega
  obtain⟨r,D⟩:∃r,((t.extract 0 3).toList==[239,191,189])=r:=⟨_,rfl⟩;have o:Y (mX t=r):=by
   show decide _=r;rw[<-D,zW];rw[Bool.eq_iff_iff];simp
  go_enter func207,ntmps207;go_wp2;go_ret;exact⟨by rw[o.out];rfl,rfl⟩
theorem ui(t:ByteArray)(A:t.size<=281474976702464)(w:wv):AZ AW 200 #[N t,N ⟨#[239,191,189]⟩] w fun e w'=>e=qz (mx (mX t))∧w'=w:=by
 have y:=gQq (rp t A w);go_enter func200,ntmps200;go_wp2_with fail;refine y.out.mono ?_;rintro e w1 ⟨rfl,o⟩;rw[o];clear o w1;go_wp2;go_ret;exact⟨rfl,rfl⟩
theorem xD(t:ByteArray)(bj:t.size<=281474976702464)(w:wv):AZ AW 182 #[N t] w fun e w'=>e=qz (mx (dN t))∧O w.1.size w w':=by
 obtain⟨o,Z⟩:∃o,o=t.data.toList:=⟨_,rfl⟩;have a4:Y (dN t=U8.utf o):=by show _=_;rw[Z];rfl
 have X:=gQq Z;have Q:Y (∀k pos,((w.drewN k).iter t pos).iterPos w.1.size=pos):=fun k pos=>World.iterPos_iter (w.drewN k) t pos;have a1:Y (∀k pos,O w.1.size w ((w.drewN k).iter t pos)):=fun k pos=>(below_drewN gQz k).alloc gQx _;clear Z;have a5:Y (t.size=o.length):=by show _=_;rw[X.out,Array.length_toList];rfl
 have a9:Y (∀pos w',pos<=t.size->AZ AW 200 #[N (t.extract pos t.size),N ⟨#[239,191,189]⟩] w' fun e a0=>e=qz (mx (decide ((o.drop pos).take 3=[239,191,189])))∧a0=w'):=by
  intro pos w' a7;have h:=ui (t.extract pos t.size) (by rw[ByteArray.size_extract];omega) w';unfold mX at h;rw[yw,<-X.out] at h;exact h
 go_enter func182,ntmps182;go_wp2;go_loopw [3,4] (fun _ _ wr=>∃pos k:Nat,pos<=t.size∧wr=(w.drewN k).iter t pos∧Y (U8.utf o=U8.utf (o.drop pos))) (fun _ _ wr=>t.size-wr.iterPos w.1.size);case atStart=>exact⟨0,0,by omega,rfl,by show _=_;rw[List.drop_zero]⟩
 case round=>
  obtain⟨pos,k,a7,rfl,A⟩:=hrel;by_cases V:pos<t.size
  ·have aw:∀D,(Instr.next (.pointer (C ⟨w.1.size,0,sw⟩)) ux D).run AW ((w.drewN k).iter t pos)=.ok (.tuple #[mx ux,I U pos,I .i32 (Utf8.decode t pos).1]) ((w.drewN k).iter t (pos+(Utf8.decode t pos).2)):=fun D=>run_next_any (P:=AW) (w.drewN k) t pos D V;obtain⟨l,y⟩:∃l,l=o.drop pos:=⟨_,rfl⟩;have K:t.data.toList.drop pos=l:=(by rw[y,X.out]);have a6:l.length=t.size-pos:=(by rw[y,Aj,a5.out]);obtain⟨m,E⟩:∃m,m=decide (l.take 3=[239,191,189]):=⟨_,rfl⟩;have a2:Y (∀w',AZ AW 200 #[N (t.extract pos t.size),N ⟨#[239,191,189]⟩] w' fun e a0=>e=qz (mx m)∧a0=w'):=by
    intro w';rw[E,y];exact a9.out pos w' a7
   cases ho:U8.one l with
   |none=>
    have hd:Utf8.decode t pos=(65533,1):=(jE K V).trans (wG ho);rw[hd] at aw;have a8:Y (U8.utf o=wx):=(by show _=_;rw[A.out,<-y];exact U8.utf_bad (fun ab=>by rw[ab] at a6;simp at a6;omega) ho);have aj:m=false:=by
     rw[E,decide_eq_false_iff_not];intro ab;rw[tz ab] at ho;cases ho
    subst aj;clear hd y K ho A E;go_wp2_with fail;refine(a2.out _).mono ?_;rintro e w1 ⟨rfl,M⟩;rw[M];clear M w1;go_wp2;go_ret;exact⟨by rw[a4.out,a8.out];rfl,a1.out _ _⟩
   |some n=>
    obtain⟨J,S⟩:∃J,J=(dec l).1:=⟨_,rfl⟩;obtain⟨ah,L,bc⟩:=uF ho;have hd:Utf8.decode t pos=(J,n):=(by rw[jE K V,S,<-ah]);rw[hd] at aw;have bi:=U8.one_len ho;have a3:Y (U8.utf o=U8.utf (o.drop (pos+n))):=(by show _=_;rw[A.out,<-y,U8.utf_step ho,y,AI]);rw[<-S] at L;by_cases ak:J=65533
    ·have aj:m=true:=(by rw[E,decide_eq_true_eq];exact(L ak).2);have be:=(L ak).1;subst ak be aj;clear hd y K ho A S ah L bc E;go_wp2_with fail;refine(a2.out _).mono ?_;rintro e w1 ⟨rfl,M⟩;rw[M];clear M w1;go_wp2;go_roundw;case rel=>exact⟨pos+3,k,by omega,rfl,a3⟩
     case measure=>rw[Q.out,Q.out];omega
    ·have bk:((J:Int)==65533)=false:=(by simp;omega);clear hd y K ho A S ah L E;go_wp2;go_roundw;case rel=>exact⟨pos+n,k,by omega,rfl,a3⟩
     case measure=>rw[Q.out,Q.out];omega
  ·have aw:∀D,(Instr.next (.pointer (C ⟨w.1.size,0,sw⟩)) ux D).run AW ((w.drewN k).iter t pos)=.ok (.tuple #[mx wx]) ((w.drewN k).iter t pos):=fun D=>run_next_end (P:=AW) (w.drewN k) t pos D V;have bb:Y (U8.utf o=ux):=(by show _=_;rw[A.out,List.drop_eq_nil_of_le (by have:=a5.out;omega)];rfl);clear A;go_wp2;go_ret;exact⟨by rw[a4.out,bb.out];rfl,a1.out _ _⟩
end
section
open Go.RowKit
attribute [local go_sem] ai
theorem xt:aF 0=0:=by kernel_rfl
theorem eo(n:Nat):((n:Int)==0)=(n==0):=by rw[Bool.eq_iff_iff,beq_iff_eq,beq_iff_eq];omega
theorem cI(b:Nat)(w:wv):AZ AW 164 #[ox qq b,ox qq 0] w fun e w'=>e=qz (mx (aF b==0))∧w'=w:=by
 have h:=gx b 0 w;rw[xt] at h;have o:((aF b:Int)==((0:Nat):Int))=(aF b==0):=by
  rw[Bool.eq_iff_iff,beq_iff_eq,beq_iff_eq];omega
 rw[o] at h;exact h
theorem yv(i:Int)(b:Nat)(t:ByteArray)(p:OA)(n c:Nat)(w:wv):
  AZ AW 194 #[nx #[I U 1,I U i,ox qq b,N t,F p n c]] w fun e w'=>e=qz (mx (V.ownB 1 i b t n))∧O w.1.size w w':=by
 have A:Y (∀o,O w.1.size w (w.alloc o)):=fun o=>gQz.alloc gQx o;go_enter func194,ntmps194;go_wp2_with (go_at_call 164;refine(cI _ _).mono ?_;rintro e w1 ⟨rfl,y⟩;rw[y];clear y w1);all_goals go_ret
 all_goals refine⟨?_,A.out _⟩
 all_goals simp_all [V.ownB]
 all_goals first | exact eo n | (intros;omega)
theorem yu(i:Int)(b:Nat)(t:ByteArray)(p:OA)(n c:Nat)(w:wv):
  AZ AW 194 #[nx #[I U 2,I U i,ox qq b,N t,F p n c]] w fun e w'=>e=qz (mx (V.ownB 2 i b t n))∧O w.1.size w w':=by
 have A:Y (∀o,O w.1.size w (w.alloc o)):=fun o=>gQz.alloc gQx o;go_enter func194,ntmps194;go_wp2_with (go_at_call 164;refine(cI _ _).mono ?_;rintro e w1 ⟨rfl,y⟩;rw[y];clear y w1);all_goals go_ret
 all_goals refine⟨?_,A.out _⟩
 all_goals simp_all [V.ownB]
 all_goals first | exact eo n | (intros;omega)
theorem yt(i:Int)(b:Nat)(t:ByteArray)(p:OA)(n c:Nat)(w:wv):
  AZ AW 194 #[nx #[I U 3,I U i,ox qq b,N t,F p n c]] w fun e w'=>e=qz (mx (V.ownB 3 i b t n))∧O w.1.size w w':=by
 have A:Y (∀o,O w.1.size w (w.alloc o)):=fun o=>gQz.alloc gQx o;go_enter func194,ntmps194;go_wp2_with (go_at_call 164;refine(cI _ _).mono ?_;rintro e w1 ⟨rfl,y⟩;rw[y];clear y w1);all_goals go_ret
 all_goals refine⟨?_,A.out _⟩
 all_goals simp_all [V.ownB,xt]
 all_goals first | exact eo n | (intros;omega)
theorem yr(i:Int)(b:Nat)(t:ByteArray)(p:OA)(n c:Nat)(w:wv):
  AZ AW 194 #[nx #[I U 4,I U i,ox qq b,N t,F p n c]] w fun e w'=>e=qz (mx (V.ownB 4 i b t n))∧O w.1.size w w':=by
 have A:Y (∀o,O w.1.size w (w.alloc o)):=fun o=>gQz.alloc gQx o;go_enter func194,ntmps194;go_wp2_with (go_at_call 164;refine(cI _ _).mono ?_;rintro e w1 ⟨rfl,y⟩;rw[y];clear y w1);all_goals go_ret
 all_goals refine⟨?_,A.out _⟩
 all_goals simp_all [V.ownB]
 all_goals first | exact eo n | (intros;omega)
theorem yq(i:Int)(b:Nat)(t:ByteArray)(p:OA)(n c:Nat)(w:wv):
  AZ AW 194 #[nx #[I U 5,I U i,ox qq b,N t,F p n c]] w fun e w'=>e=qz (mx (V.ownB 5 i b t n))∧O w.1.size w w':=by
 have A:Y (∀o,O w.1.size w (w.alloc o)):=fun o=>gQz.alloc gQx o;go_enter func194,ntmps194;go_wp2_with (go_at_call 164;refine(cI _ _).mono ?_;rintro e w1 ⟨rfl,y⟩;rw[y];clear y w1);all_goals go_ret
 all_goals refine⟨?_,A.out _⟩
 all_goals simp_all [V.ownB]
 all_goals first | exact eo n | (intros;omega)
theorem yp(i:Int)(b:Nat)(t:ByteArray)(p:OA)(n c:Nat)(w:wv):
  AZ AW 194 #[nx #[I U 6,I U i,ox qq b,N t,F p n c]] w fun e w'=>e=qz (mx (V.ownB 6 i b t n))∧O w.1.size w w':=by
 have A:Y (∀o,O w.1.size w (w.alloc o)):=fun o=>gQz.alloc gQx o;go_enter func194,ntmps194;go_wp2_with (go_at_call 164;refine(cI _ _).mono ?_;rintro e w1 ⟨rfl,y⟩;rw[y];clear y w1);all_goals go_ret
 all_goals refine⟨?_,A.out _⟩
 all_goals simp_all [V.ownB]
 all_goals first | exact eo n | (intros;omega)
theorem yo(i:Int)(b:Nat)(t:ByteArray)(p:OA)(n c:Nat)(w:wv):
  AZ AW 194 #[nx #[I U 7,I U i,ox qq b,N t,F p n c]] w fun e w'=>e=qz (mx (V.ownB 7 i b t n))∧O w.1.size w w':=by
 have A:Y (∀o,O w.1.size w (w.alloc o)):=fun o=>gQz.alloc gQx o;go_enter func194,ntmps194;go_wp2_with (go_at_call 164;refine(cI _ _).mono ?_;rintro e w1 ⟨rfl,y⟩;rw[y];clear y w1);all_goals go_ret
 all_goals refine⟨?_,A.out _⟩
 all_goals simp_all [V.ownB]
theorem uq(k:Int)(S:k<1∨7<k)(i:Int)(b:Nat)(t:ByteArray)(p:OA)(n c:Nat)(w:wv):
  AZ AW 194 #[nx #[I U k,I U i,ox qq b,N t,F p n c]] w fun e w'=>e=qz (mx (V.ownB k i b t n))∧O w.1.size w w':=by
 have A:Y (∀o,O w.1.size w (w.alloc o)):=fun o=>gQz.alloc gQx o;have D:¬k=1:=by omega
 have E:¬k=2:=by omega
 have J:¬k=3:=by omega
 have K:¬k=4:=by omega
 have L:¬k=5:=by omega
 have M:¬k=6:=by omega
 have Q:¬k=7:=by omega
 go_enter func194,ntmps194;go_wp2_with (go_at_call 164;refine(cI _ _).mono ?_;rintro e w1 ⟨rfl,y⟩;rw[y];clear y w1);all_goals go_ret
 all_goals refine⟨?_,A.out _⟩
 all_goals simp_all [V.ownB]
 all_goals first | exact eo n | (intros;omega)
theorem zy(k i:Int)(b:Nat)(t:ByteArray)(p:OA)(n c:Nat)(w:wv):
  AZ AW 194 #[nx #[I U k,I U i,ox qq b,N t,F p n c]] w fun e w'=>e=qz (mx (V.ownB k i b t n))∧O w.1.size w w':=by
 by_cases o:k<1∨7<k
 ·exact uq k o i b t p n c w
 ·rcases(show k=1∨k=2∨k=3∨k=4∨k=5∨k=6∨k=7 by omega) with rfl | rfl | rfl | rfl | rfl | rfl | rfl
  ·exact yv i b t p n c w
  ·exact yu i b t p n c w
  ·exact yt i b t p n c w
  ·exact yr i b t p n c w
  ·exact yq i b t p n c w
  ·exact yp i b t p n c w
  ·exact yo i b t p n c w
def dX(k:Int)(t:ByteArray)(n:Nat):Nat:=if 1024<t.size then 2 else if 256<n then 3 else if k=4∧dN t=wx then 61 else 0
theorem zG(k i:Int)(b:Nat)(t:ByteArray)(p:OA)(n c:Nat)(w:wv):
  AZ AW 195 #[nx #[I U k,I U i,ox qq b,N t,F p n c]] w fun e w'=>e=qz (I U (dX k t n:Nat))∧O w.1.size w w':=by
 have y:Y (∀K,O w.1.size w (w.alloc K)):=fun K=>gQz.alloc gQx K;by_cases A:1024<t.size
 ·have S:(1024:Int)<(t.size:Int):=by omega
  have o:Y (dX k t n=2):=by show _=_;rw[dX,AK A]
  go_enter func195,ntmps195;go_wp2;go_ret;exact⟨by rw[o.out];rfl,y.out _⟩
 have S:¬(1024:Int)<(t.size:Int):=by omega
 by_cases E:256<n
 ·have V:(256:Int)<(n:Int):=by omega
  have o:Y (dX k t n=3):=by show _=_;rw[dX,AJ A,AK E]
  go_enter func195,ntmps195;go_wp2;go_ret;exact⟨by rw[o.out];rfl,y.out _⟩
 have V:¬(256:Int)<(n:Int):=by omega
 by_cases D:k=4
 ·have Z:(k==4)=true:=dq D;have L:=gQq (fun w=>xD t (by omega) w);obtain⟨r,J⟩:∃r,r=dN t:=⟨_,rfl⟩;rw[<-J] at L;have o:Y (dX k t n=if r=wx then 61 else 0):=by
   show _=_;rw[dX,AJ A,AJ E,<-J];simp only[D,true_and]
  clear J;go_enter func195,ntmps195;go_wp2_with fail;refine(L.out _).mono ?_;rintro e w1 ⟨rfl,M⟩;have Q:=gQq ((y.out _).trans (M.mono (y.out _).size));clear M;cases r
  all_goals
   go_wp2;go_ret;exact⟨by rw[o.out];rfl,Q.out⟩
 ·have Z:(k==4)=false:=bf D;have o:Y (dX k t n=0):=by show _=_;rw[dX,AJ A,AJ E,AJ (fun X=>D X.1)]
  go_enter func195,ntmps195;go_wp2;go_ret;exact⟨by rw[o.out];rfl,y.out _⟩
theorem uM(d:Nat)(k i:Int)(b:Nat)(t:ByteArray)(xs:List V):chk d (.mk k i b t xs)=if 4<d then 62 else if V.ownB k i b t xs.length=wx then 60 else if dX k t xs.length=0 then fz (d+1) xs else dX k t xs.length:=by
 rw[lN];unfold dX;by_cases o:4<d
 ·rw[AK o,AK o]
 rw[AJ o,AJ o];by_cases y:V.ownB k i b t xs.length=wx
 ·rw[AK y,AK y]
 rw[AJ y,AJ y];by_cases A:1024<t.size
 ·rw[AK A,AK A];rfl
 rw[AJ A,AJ A];by_cases D:256<xs.length
 ·rw[AK D,AK D];rfl
 rw[AJ D,AJ D];by_cases E:k=4∧dN t=wx
 ·rw[AK E,AK E];rfl
 rw[AJ E,AJ E,AK rfl]
theorem uN:∀(x:V) (d:Nat) (w:wv) (u:AV),d<=5->aJ w u x->AZ AW 174 #[nx u,I U d] w fun e w'=>e=qz (I U (chk d x:Nat))∧O w.1.size w w':=by
 intro x;refine V.ind (P:=fun x=>∀(d:Nat) (w:wv) (u:AV),d<=5->aJ w u x->AZ AW 174 #[nx u,I U d] w fun e w'=>e=qz (I U (chk d x:Nat))∧O w.1.size w w') ?_ x;rintro k i b t xs a9 d w u hd bT;obtain⟨p,c,rfl,c8,c7,a7⟩:=bT.open;unfold cells5;have bl:O w.1.size w (w.alloc (qj #[I U k,I U i,ox qq b,N t,F p xs.length c] 102)):=gQy;have Z:=gQq bl;clear bl bT;have y:=gQq (uM d k i b t xs);obtain⟨R,bn⟩:∃R,R=chk d (.mk k i b t xs):=⟨_,rfl⟩;rw[<-bn] at y ⊢;clear bn;by_cases E:4<d
 ·have cj:(4:Int)<(d:Int):=by omega
  have HR:Y (R=62):=by show _=_;rw[y.out,AK E]
  clear a9 a7 y;go_enter func174,ntmps174;go_wp2;go_ret;exact⟨by rw[HR.out];rfl,Z.out⟩
 have cj:¬(4:Int)<(d:Int):=by omega
 have a5:=gQq (zy k i b t p xs.length c (w.alloc (qj #[I U k,I U i,ox qq b,N t,F p xs.length c] 102)));have a3:=gQq (zG k i b t p xs.length c);obtain⟨r,bv⟩:∃r,r=V.ownB k i b t xs.length:=⟨_,rfl⟩;rw[<-bv] at a5 y;clear bv;obtain⟨s,bN⟩:∃s,s=dX k t xs.length:=⟨_,rfl⟩;rw[<-bN] at a3 y;clear bN;have co:w.1.size<(w.alloc (qj #[I U k,I U i,ox qq b,N t,F p xs.length c] 102)).1.size:=by simp
 have bX:(w.alloc (qj #[I U k,I U i,ox qq b,N t,F p xs.length c] 102)).cell? ⟨w.1.size,0,sw⟩=C (I U k):=by simp
 have b0:(w.alloc (qj #[I U k,I U i,ox qq b,N t,F p xs.length c] 102)).cell? ⟨w.1.size,1,sw⟩=C (I U i):=by simp
 have b1:(w.alloc (qj #[I U k,I U i,ox qq b,N t,F p xs.length c] 102)).cell? ⟨w.1.size,2,sw⟩=C (ox qq b):=by simp
 have b2:(w.alloc (qj #[I U k,I U i,ox qq b,N t,F p xs.length c] 102)).cell? ⟨w.1.size,3,sw⟩=C (N t):=by simp
 have b3:(w.alloc (qj #[I U k,I U i,ox qq b,N t,F p xs.length c] 102)).cell? ⟨w.1.size,4,sw⟩=C (F p xs.length c):=by simp
 have L:=gQq (And.intro bX (And.intro b0 (And.intro b1 (And.intro b2 b3))));clear bX b0 b1 b2 b3;have b6:Y (∀j (a0:j<xs.length),∃K,aJ w K xs[j]∧Item w p j K):=a7;have bk:=gQq a9;clear a9 a7;go_enter func174,ntmps174;go_wp2_with fail;refine a5.out.mono ?_;rintro e cw ⟨rfl,D⟩;have c0:=ae D L.out.1;have c1:=ae D L.out.2.1;have c2:=ae D L.out.2.2.1;have c3:=ae D L.out.2.2.2.1;have c4:=ae D L.out.2.2.2.2;have ab:=gQq (Z.out.trans (D.mono Z.out.size));have c5:w.1.size<cw.1.size:=by have:=D.size;omega
 clear D a5 L Z co;cases r with
 |false=>
  have HR:Y (R=60):=by show _=_;rw[y.out,AJ E,AK rfl]
  clear y;go_wp2;go_ret;exact⟨by rw[HR.out];rfl,ab.out⟩
 |true=>
  have ak:Y (R=if s=0 then fz (d+1) xs else s):=by show _=_;rw[y.out,AJ E,AJ (by simp)]
  clear y;go_wp2_with fail;refine(a3.out _).mono ?_;rintro e X ⟨rfl,aw⟩;have n4:=ae aw c4;have bi:=gQq (ab.out.trans (aw.mono ab.out.size));have c6:w.1.size<X.1.size:=by have:=aw.size;omega
  clear aw a3 ab c0 c1 c2 c3 c4;by_cases Q:¬s=0
  ·have cn:((s:Int) != 0)=true:=(by rw[bne_iff_ne];omega);have HR:Y (R=s):=(by show _=_;rw[ak.out,AJ Q]);clear ak;go_wp2;go_ret;exact⟨by rw[HR.out];rfl,bi.out⟩
  replace Q:s=0:=Classical.not_not.1 Q
  have cn:((s:Int) != 0)=false:=by rw[Q];rfl
  have HR:Y (R=fz (d+1) xs):=by show _=_;rw[ak.out,AK Q]
  clear ak
  -- the items,from any world behind
  have b4:Y (∀j (a0:j<xs.length) w',O w.1.size w w'->∀K,aJ w K xs[j]->AZ AW 174 #[nx K,I U ((d+1:Nat):Int)] w' fun e be=>e=qz (I U (chk (d+1) xs[j]:Nat))∧O w'.1.size w' be) :=
   fun j a0 w' hb K cp=>bk.out _ (AL a0) (d+1) w' K (by omega) (cp.on hb)
  clear bk;go_wp2_with fail;go_loopw [22] (fun bc wr=>∃j:Nat,j<=xs.length∧bc=I U j∧Y (O X.1.size X wr∧∀m (E:m<xs.length),m<j->chk (d+1) xs[m]=0)) (fun bc _=>xs.length-(intOf bc).toNat);case atStart=>exact⟨0,by omega,rfl,gQz,fun m _ h=>by omega⟩
  case round=>
   obtain⟨j,a0,rfl,A⟩:=hrel;have J:O w.1.size w wr:=bi.out.trans (A.out.1.mono (by omega));by_cases a1:j<xs.length
   ·obtain⟨df,bO,bq⟩:=b6.out j a1;obtain⟨bx,c9,cs,cr,ci,cv,cu,ct,cd,rfl,_,rfl,b7,b8,b9,cb,cc⟩:=(bq.on J).lies;have aj:Y (∀o,O wr.1.size wr (wr.alloc o)):=fun o=>gQz.alloc gQx o;have a2:Y (∀w',O wr.1.size wr w'->AZ AW 174 #[nx #[I U cs,I U cr,ox qq ci,N cv,F cu ct cd],I U ((d+1:Nat):Int)] w' fun e be=>e=qz (I U (chk (d+1) xs[j]:Nat))∧O w'.1.size w' be):=fun w' hb=>b4.out j a1 w' (J.trans (hb.mono J.size)) _ bO;have cx:(j:Int)<(xs.length:Int):=(by omega);obtain⟨z,a8⟩:∃z,z=chk (d+1) xs[j]:=⟨_,rfl⟩;rw[<-a8] at a2;have M:=gQq a8;have bj:=gQq J;clear bO bq a8 J;go_wp2_with fail;refine(a2.out _ (aj.out _)).mono ?_;rintro e w4 ⟨rfl,bp⟩;have ah:=gQq ((aj.out _).trans (bp.mono (aj.out _).size));clear bp b7 b8 b9 cb cc a2 aj;by_cases S:z=0
    ·have cq:((z:Int) != 0)=false:=(by rw[S];rfl);have b5:Y (O X.1.size X w4∧∀m (E:m<xs.length),m<j+1->chk (d+1) xs[m]=0):=by
      refine⟨A.out.1.trans (ah.out.mono A.out.1.size),fun m E bs=>?_⟩;by_cases ck:m=j
      ·subst ck;rw[<-M.out];exact S
      ·exact A.out.2 m E (by omega)
     clear A ah M S;go_wp2;go_roundw;case rel=>exact⟨j+1,by omega,by go_num,b5⟩
     case measure=>simp[intOf];omega
    ·have cq:((z:Int) != 0)=true:=(by rw[bne_iff_ne];omega);have a6:Y (R=z):=by
      show _=_;rw[HR.out,M.out];exact qu (d+1) xs j a1 (fun m h bs=>A.out.2 m h bs) (by rw[<-M.out];exact S)
     have a4:=gQq (bj.out.trans (ah.out.mono bj.out.size));clear A ah M S HR;go_wp2;go_ret;exact⟨by rw[a6.out];rfl,a4.out⟩
   ·have cy:¬(j:Int)<(xs.length:Int):=(by omega);have a6:Y (R=0):=by
     show _=_;rw[HR.out];exact jH (d+1) xs (fun m h=>A.out.2 m h (by omega))
    have a4:=gQq J;clear A J a1 HR;go_wp2;go_ret;exact⟨by rw[a6.out];rfl,a4.out⟩
theorem pz(x:V)(w:wv)(u:AV)(h:aJ w u x):AZ AW 146 #[nx u] w fun e w'=>e=qz (I U (chk 1 x:Nat))∧O w.1.size w w':=by
 obtain⟨k,i,b,t,xs⟩:=x;obtain⟨p,c,rfl,-⟩:=h.open;have A:O w.1.size w (w.alloc (qj (cells5 k i b t p xs.length c) 102)):=gQy;have o:=gQq A;have y:=gQq (uN _ 1 _ _ (by omega) (h.on A));clear A h;obtain⟨R,D⟩:∃R,R=chk 1 (.mk k i b t xs):=⟨_,rfl⟩;rw[<-D] at y ⊢;clear D;unfold cells5 at y o ⊢;go_enter func146,ntmps146;go_wp2_with fail;refine y.out.mono ?_;rintro e K ⟨rfl,E⟩;have J:=gQq (o.out.trans (E.mono o.out.size));clear E;go_wp2;go_ret;exact⟨rfl,J.out⟩
end
section
open Go.RowKit
attribute [local go_sem] ai
theorem wY:∀(x y:V) (w:wv) (u v:AV),aJ w u x->aJ w v y->AZ AW 132 #[nx u,nx v] w fun e w'=>e=qz (mx (V.same x y))∧O w.1.size w w':=by
 intro x;refine V.ind (P:=fun x=>∀(y:V) (w:wv) (u v:AV),aJ w u x->aJ w v y->AZ AW 132 #[nx u,nx v] w fun e w'=>e=qz (mx (V.same x y))∧O w.1.size w w') ?_ x;rintro k i b t xs a3 ⟨k',Z,E,Q,o⟩ w u v dj dr;obtain⟨p,c,rfl,e3,e2,a1⟩:=dj.open;obtain⟨q,d,rfl,e5,e4,a2⟩:=dr.open;unfold cells5;have cy:O w.1.size w ((w.alloc (qj #[I U k,I U i,ox qq b,N t,F p xs.length c] 102)).alloc (qj #[I U k',I U Z,ox qq E,N Q,F q o.length d] 102)):=gQy.alloc (by simp) _;have ah:=gQq cy;clear cy dj dr;by_cases h1:¬k=k'
 ·have d7:=cE h1;have K:Y (V.same (.mk k i b t xs) (.mk k' Z E Q o)=wx):=by show _=_;simp[V.same_mk,h1]
  clear a3 a1 a2 h1;go_enter func132,ntmps132;go_wp2;go_ret;exact⟨by rw[K.out];rfl,ah.out⟩
 replace h1:k=k':=Classical.not_not.1 h1
 have d7:=bZ h1;by_cases A:¬i=Z
 ·have d8:=cE A;have K:Y (V.same (.mk k i b t xs) (.mk k' Z E Q o)=wx):=by show _=_;simp[V.same_mk,A]
  clear a3 a1 a2 h1 A;go_enter func132,ntmps132;go_wp2;go_ret;exact⟨by rw[K.out];rfl,ah.out⟩
 replace A:i=Z:=Classical.not_not.1 A
 have d8:=bZ A;by_cases X:¬t=Q
 ·have d9:(t.toList==Q.toList)=false:=by rw[iR,AD X]
  have K:Y (V.same (.mk k i b t xs) (.mk k' Z E Q o)=wx):=by show _=_;simp[V.same_mk,X]
  clear a3 a1 a2 h1 A X;go_enter func132,ntmps132;go_wp2;go_ret;exact⟨by rw[K.out];rfl,ah.out⟩
 replace X:t=Q:=Classical.not_not.1 X
 have d9:(t.toList==Q.toList)=true:=by rw[iR,AE X]
 have a5:=gQq (gx b E);by_cases aw:¬aF b=aF E
 ·have b0:((aF b:Int)==(aF E:Int))=false:=bf (by omega);rw[b0] at a5;have K:Y (V.same (.mk k i b t xs) (.mk k' Z E Q o)=wx):=by show _=_;simp[V.same_mk,aw]
  clear a3 a1 a2 h1 A X aw;go_enter func132,ntmps132;go_wp2_with fail;refine(a5.out _).mono ?_;rintro e w1 ⟨rfl,ab⟩;rw[ab];clear ab w1;go_wp2;go_ret;exact⟨by rw[K.out];rfl,ah.out⟩
 replace aw:aF b=aF E:=Classical.not_not.1 aw
 have b0:((aF b:Int)==(aF E:Int))=true:=dq (by omega);rw[b0] at a5;by_cases a4:¬xs.length=o.length
 ·have ea:((xs.length:Int) != (o.length:Int))=true:=cE (by omega);have K:Y (V.same (.mk k i b t xs) (.mk k' Z E Q o)=wx):=by show _=_;simp[V.same_mk,V.sameL_ne xs o a4]
  clear a3 a1 a2 h1 A X aw a4;go_enter func132,ntmps132;go_wp2_with fail;refine(a5.out _).mono ?_;rintro e w1 ⟨rfl,ab⟩;rw[ab];clear ab w1;go_wp2;go_ret;exact⟨by rw[K.out];rfl,ah.out⟩
 replace a4:xs.length=o.length:=Classical.not_not.1 a4
 have ea:((xs.length:Int) != (o.length:Int))=false:=bZ (by omega);have K:Y (V.same (.mk k i b t xs) (.mk k' Z E Q o)=V.sameL xs o):=by show _=_;simp[V.same_mk,h1,A,X,aw]
 have dv:Y (fK w p xs):=a1;have d0:Y (fK w q o):=a2;have ds:=gQq a3;have b8:=gQq a4;clear a3 a1 a2 h1 A X aw a4;obtain⟨S,bc⟩:∃S,S=(w.alloc (qj #[I U k,I U i,ox qq b,N t,F p xs.length c] 102)).alloc (qj #[I U k',I U Z,ox qq E,N Q,F q o.length d] 102):=⟨_,rfl⟩;have d1:Y (S.cell? ⟨w.1.size+1,4,sw⟩=C (F q o.length d)):=by show _=_;rw[bc];simp
 have cb:Y (O w.1.size w S):=by rw[bc];exact ah.out
 have ci:=gQq bc;clear ah bc;go_enter func132,ntmps132;go_wp2_with fail;refine(a5.out _).mono ?_;rintro e w1 ⟨rfl,ab⟩;rw[ab];clear ab w1;go_wp2_with fail;rw[<-ci.out];clear ci;go_loopw [44] (fun b7 wr=>∃j:Nat,j<=xs.length∧b7=I U j∧Y (O S.1.size S wr∧∀m (h1:m<xs.length) (A:m<o.length),m<j->V.same xs[m] o[m]=ux)) (fun b7 _=>xs.length-(intOf b7).toNat);case atStart=>exact⟨0,by omega,rfl,gQz,fun m _ _ h=>by omega⟩
 case round=>
  obtain⟨j,ez,rfl,ak⟩:=hrel;have a0:O w.1.size w wr:=cb.out.trans (ak.out.1.mono cb.out.size);by_cases be:j<xs.length
  ·have c8:j<o.length:=(by have:=b8.out;omega);obtain⟨e7,c9,c6⟩:=dv.out j be;obtain⟨e8,df,c7⟩:=d0.out j c8;obtain⟨bx,e6,bk,bj,bb,bp,bn,bl,a9,rfl,_,rfl,d2,d3,d4,d5,d6⟩:=(c6.on a0).lies;obtain⟨L,M,b3,b2,bX,b6,b5,b4,bT,rfl,_,rfl,cn,co,cp,cq,cr⟩:=(c7.on a0).lies
   have a8:Y (∀w',O w.1.size w w'->AZ AW 132 #[nx #[I U bk,I U bj,ox qq bb,N bp,F bn bl a9],nx #[I U b3,I U b2,ox qq bX,N b6,F b5 b4 bT]] w' fun e ec=>e=qz (mx (V.same xs[j] o[j]))∧O w'.1.size w' ec) :=
    fun w' hb=>ds.out _ (AL be) o[j] w' _ _ (c9.on hb) (df.on hb)
   have bq:=gQq ak.out.2;have eC:(j:Int)<(xs.length:Int):=(by omega);have eL:(j:Int)<(o.length:Int):=(by omega);obtain⟨r,b1⟩:∃r,r=V.same xs[j] o[j]:=⟨_,rfl⟩;rw[<-b1] at a8;have cd:=gQq b1;obtain⟨D,bi⟩:∃D,D=wr.alloc (qj #[I U bk,I U bj,ox qq bb,N bp,F bn bl a9] 102):=⟨_,rfl⟩;have aj:Y (O wr.1.size wr D):=(by rw[bi];exact gQy);have bv:Y (O w.1.size w D):=a0.trans (aj.out.mono a0.size);have bs:Y (O S.1.size S D):=ak.out.1.trans (aj.out.mono ak.out.1.size);have cj:=gQq bi;have ck:Y (D.cell? ⟨w.1.size+1,4,sw⟩=C (F (C ⟨L,M,sw⟩) o.length d)):=ae bs.out d1.out
   have cc:Y (D.cell? ⟨L,M+j*5,sw⟩=C (I U b3)∧D.cell? ⟨L,M+j*5+1,sw⟩=C (I U b2)∧D.cell? ⟨L,M+j*5+2,sw⟩=C (ox qq bX)∧D.cell? ⟨L,M+j*5+3,sw⟩=C (N b6)∧D.cell? ⟨L,M+j*5+4,sw⟩=C (F b5 b4 bT)) :=
    ⟨ae aj.out cn,ae aj.out co,ae aj.out cp,ae aj.out cq,ae aj.out cr⟩
   have b9:Y (D.cell? ⟨wr.1.size,0,sw⟩=C (I U bk)∧D.cell? ⟨wr.1.size,1,sw⟩=C (I U bj)∧D.cell? ⟨wr.1.size,2,sw⟩=C (ox qq bb)∧D.cell? ⟨wr.1.size,3,sw⟩=C (N bp)∧D.cell? ⟨wr.1.size,4,sw⟩=C (F bn bl a9)):=(by rw[bi];exact⟨by simp,by simp,by simp,by simp,by simp⟩);clear c9 df c6 c7 a0 ak b1 bi cn co cp cq cr;go_wp2_with fail;rw[<-cj.out];obtain⟨c0,c1,c2,c3,c4⟩:=b9.out;obtain⟨cs,ct,cu,cv,cw⟩:=cc.out;have cx:=ck.out;clear b9 cc ck cj d2 d3 d4 d5 d6
   go_region_held3 (fun w'=>w'.cell? ⟨wr.1.size,0,sw⟩=C (I U bk)∧w'.cell? ⟨wr.1.size,1,sw⟩=C (I U bj)∧w'.cell? ⟨wr.1.size,2,sw⟩=C (ox qq bb)∧w'.cell? ⟨wr.1.size,3,sw⟩=C (N bp)∧w'.cell? ⟨wr.1.size,4,sw⟩=C (F bn bl a9)∧w'.cell? ⟨L,M+j*5,sw⟩=C (I U b3)∧w'.cell? ⟨L,M+j*5+1,sw⟩=C (I U b2)∧w'.cell? ⟨L,M+j*5+2,sw⟩=C (ox qq bX)∧w'.cell? ⟨L,M+j*5+3,sw⟩=C (N b6)∧w'.cell? ⟨L,M+j*5+4,sw⟩=C (F b5 b4 bT)∧w'.cell? ⟨w.1.size+1,4,sw⟩=C (F (C ⟨L,M,sw⟩) o.length d)) (go_keep) (first|(go_at_call 132;refine(a8.out _ (below_drewN bv.out _)).mono ?_;rintro e w4 ⟨rfl,c5⟩;have J:=dY (w:=D) c5 (by rfl) (by rfl) (by rfl) (by rfl);have z3:=ae J c0;have z4:=ae J c1;have ep:=ae J c2;have eq:=ae J c3;have er:=ae J c4;have ev:=ae J cs;have ew:=ae J ct;have eg:=ae J cu;have el:=ae J cv;have em:=ae J cw;have en:=ae J cx;have a7:=gQq J;clear c5 J))
   clear z3 z4 ep eq er ev ew eg el em en c0 c1 c2 c3 c4 cs ct cu cv cw cx;cases r with
   |true=>
    have du:Y (O S.1.size S w4∧∀m (h1:m<xs.length) (A:m<o.length),m<j+1->V.same xs[m] o[m]=ux):=by
     refine⟨bs.out.trans (a7.out.mono bs.out.size),fun m h1 A e1=>?_⟩;by_cases eb:m=j
     ·subst eb;exact cd.out.symm
     ·exact bq.out m h1 A (by omega)
    clear a7 bq a8;go_wp2;go_roundw;case rel=>exact⟨j+1,by omega,by go_num,du⟩
    case measure=>simp[intOf];omega
   |false=>
    have bO:Y (V.sameL xs o=wx):=V.sameL_at xs o j be c8 cd.out.symm;have bN:=gQq (bv.out.trans (a7.out.mono bv.out.size));clear a7 bq a8;go_wp2;go_ret;exact⟨by rw[K.out,bO.out];rfl,bN.out⟩
  ·have bO:Y (V.sameL xs o=ux):=V.sameL_all xs o b8.out (fun m h1 A=>ak.out.2 m h1 A (by omega));have bN:=gQq a0;have e0:¬(j:Int)<(xs.length:Int):=(by omega);clear ak a0 be;go_wp2;go_ret;exact⟨by rw[K.out,bO.out];rfl,bN.out⟩
end
end Go.Proofs.YtngmnfdaedlodaaGreatDoor

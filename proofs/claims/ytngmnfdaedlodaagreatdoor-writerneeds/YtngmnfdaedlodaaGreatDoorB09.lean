import Derived.Test.YtngmnfdaedlodaaGreatDoorB07
import Derived.Lib.Zigzag
import Derived.Test.YtngmnfdaedlodaaGreatDoorB08
import Derived.Lib.VarintBits
set_option maxRecDepth 100000
set_option maxHeartbeats 1000000
namespace Go.Proofs.YtngmnfdaedlodaaGreatDoor
open Go.Proofs.Tryz
open Go.Value renaming int->I,slice->F,string->N,float->ox,agg->nx,bool->mx
open Go.IntKind renaming i64->U
open Go.RowKit renaming Hid->Y,Below->O
open Option renaming some->C,none->sw
open Go.Proofs.Tryz renaming prog->AW
open Go.Ending renaming returned->qz
open Go renaming Calls->AZ,World->wv
open Go.FloatKind renaming f64->qq
open Bool renaming true->ux,false->wx
open Go.Obj renaming cells->qj
variable{c pos:Nat}{l:L8}
section
open Go.RowKit
theorem fI(k:IntKind)(x o:Int):bits .xor k x o=bits .xor k o x:=by
 unfold bits;simp only[BitVec.xor_comm]
theorem nM(x:Nat)(h:x<18446744073709551616):bits .xor .u64 (x:Int) 0=x:=by
 have:=bits_xor_u64_nat x 0 (by omega) (by decide);simpa using this
theorem lZ(x:Nat)(h:x<9223372036854775808):bits .xor U (x:Int) 0=x:=by
 show IntKind.i64.wrap ((BitVec.ofInt 64 (x:Int) ^^^ BitVec.ofInt 64 0).toNat:Int)=_;have o:(BitVec.ofInt 64 (x:Int)).toNat=x:=by
  rw[BitVec.ofInt_natCast,BitVec.toNat_ofNat];exact Nat.mod_eq_of_lt (by omega)
 have y:(BitVec.ofInt 64 0).toNat=0:=by decide
 rw[BitVec.toNat_xor,o,y,Nat.xor_zero,IntKind.wrap_i64];omega
theorem sF(n:Int)(D:-9223372036854775808<=n)(E:n<=9223372036854775807):
  bits .xor .u64 (IntKind.u64.wrap (IntKind.u64.wrap n*2)) (IntKind.u64.wrap (n / 9223372036854775808))=((Leb.zig n:Nat):Int):=by
 by_cases y:0<=n
 ·have A:IntKind.u64.wrap (IntKind.u64.wrap n*2)=(((2*n).toNat:Nat):Int):=by
   rw[IntKind.wrap_u64,IntKind.wrap_u64];omega
  have o:IntKind.u64.wrap (n / 9223372036854775808)=0:=by
   rw[IntKind.wrap_u64];omega
  rw[A,o,nM _ (by omega)];unfold Leb.zig;rw[AK y];omega
 ·have o:IntKind.u64.wrap (n / 9223372036854775808)=IntKind.u64.max:=by
   have:IntKind.u64.max=18446744073709551615:=(by decide);rw[IntKind.wrap_u64,this];omega
  rw[o,fI,Lib.zigzag_neg D (by omega)];unfold Leb.zig Lib.zigzag;rw[AJ y,AJ y];omega
theorem pI(n:Int)(o:-9223372036854775808<=n)(y:n<=9223372036854775807)(w:wv):
  AZ AW 149 #[I U n] w fun e w'=>e=qz (I .u64 (Leb.zig n:Nat))∧w'=w:=by
 have H:=gQq (sF n o y);go_enter func149,ntmps149;go_wp2;go_ret;exact⟨by rw[<-H.out];rfl,rfl⟩
theorem sI(u:Nat)(h:u<18446744073709551616):
  bits .xor U ((u:Int) / 2) (wrap64 (-wrap64 (bits .and .u64 (u:Int) 1)))=Leb.zag u:=by
 have A:((u:Int) / 2)=((u / 2:Nat):Int):=by omega
 rw[Lib.u64_and1 _ (by omega) (by omega),A];by_cases y:u % 2=0
 ·have o:wrap64 (-wrap64 ((u:Int) % 2))=0:=by
   have:(u:Int) % 2=0:=(by omega);rw[this];simp[wrap64]
  rw[o,lZ _ (by omega)];unfold Leb.zag;rw[AK y]
 ·have o:wrap64 (-wrap64 ((u:Int) % 2))=-1:=by
   have:(u:Int) % 2=1:=(by omega);rw[this];simp[wrap64]
  rw[o,fI,Lib.i64_not _ (by omega)];unfold Leb.zag;rw[AJ y]
theorem pL(u:Nat)(h:u<18446744073709551616)(w:wv):
  AZ AW 179 #[I .u64 u] w fun e w'=>e=qz (I U (Leb.zag u))∧w'=w:=by
 have H:=gQq (sI u h);go_enter func179,ntmps179;go_wp2;go_ret;exact⟨by rw[<-H.out];rfl,rfl⟩
end
section
open Go.RowKit
theorem pE(x:Nat)(h:0<x)(o:x<18446744073709551616):1<=Lib.bitLen x:=by
 rw[Lib.bitLen_half x (by omega) o];omega
theorem lQ(x:Nat)(h:x<128):Lib.bitLen x<=7:=Lib.bitLenAux_le 64 x 7 h
theorem pF(x:Nat)(h:0<x)(o:x<18446744073709551616):Lib.bitLen (x / 2*2+1)=Lib.bitLen x:=by
 rw[Lib.bitLen_half x (by omega) o,Lib.bitLen_half (x / 2*2+1) (by omega) (by omega)];congr 2;omega
theorem qX(f:Nat):∀n:Nat,n<2*128 ^ f->n<18446744073709551616->(Leb.putF (f+1) n).length=(Lib.bitLen (n / 2*2+1)+6) / 7:=by
 induction f with
 |zero=>
  intro n h _;have E:n<2:=by simpa using h
  have e:n / 2*2+1=1:=by omega
  rw[e,Leb.putF,AK (by omega)];rfl
 |succ f ih=>
  intro n h J;by_cases A:n<128
  ·have y:=lQ (n / 2*2+1) (by omega);have E:=pE (n / 2*2+1) (by omega) (by omega);rw[Leb.putF,AK A,AC];omega
  ·have y:n / 128<2*128 ^ f:=by
    rw[Nat.pow_succ] at h;rw[Nat.div_lt_iff_lt_mul (by omega)];omega
   have o:=Lib.bitLen_shift 7 (n / 2*2+1) (by omega) (by omega);have D:(n / 2*2+1) / 2 ^ 7=n / 128:=(by omega);rw[D] at o;rw[Leb.putF,AJ A,Aq,ih (n / 128) y (by omega),pF (n / 128) (by omega) (by omega),o];omega
theorem tf(n:Nat)(o:n<18446744073709551616):(Leb.put n).length=(Lib.bitLen (n / 2*2+1)+6) / 7:=by
 have e:2*128 ^ 9=18446744073709551616:=by decide
 exact qX 9 n (by rw[e];exact o) o
theorem vN(n:Nat)(h:n<18446744073709551616):bits .or .u64 (n:Int) 1=((n / 2*2+1:Nat):Int):=by
 have o:=(bits_nat .u64 64 (by decide) wraps_u64 n 1 (by omega) (by decide)).2;have e:((1:Nat):Int)=1:=rfl;rw[e] at o;rw[o];congr 1;apply Nat.eq_of_testBit_eq;intro i;rw[Nat.testBit_or];cases i with
 |zero=>simp
 |succ i=>
  rw[Nat.testBit_succ,Nat.testBit_succ,Nat.testBit_succ];have y:(n / 2*2+1) / 2=n / 2:=by omega
  rw[y];simp
theorem vQ(n:Nat)(A:n<18446744073709551616)(w:wv):
  AZ AW 114 #[I .u64 n] w fun e w'=>e=qz (I U ((Leb.put n).length:Nat))∧w'=w:=by
 have o:=gQq (ry (n / 2*2+1) (by omega) w);have y:=gQq (tf n A);have E:=gQq (vN n A);have J:Lib.bitLen (n / 2*2+1)<=64:=Lib.bitLenAux_le 64 _ 64 (by omega);generalize Lib.bitLen (n / 2*2+1)=k at o y J;go_enter func114,ntmps114;go_wp2_with fail;rw[E.out];refine o.out.mono ?_;rintro e w' ⟨rfl,D⟩;rw[D];clear D w';go_wp2;go_ret;exact⟨by rw[y.out];go_num,rfl⟩
def Leb.judge(k c:Nat):Nat:=if k<10∧128<=c then 30 else if k=10∧1<c then 5 else if 1<k∧c=0 then 5 else 0
theorem kF(k c:Nat)(S:k<=10)(Q:c<256)(w:wv):
  AZ AW 166 #[I U k,I .u8 c] w fun e w'=>e=qz (I U (Leb.judge k c:Nat))∧w'=w:=by
 have H:Y (∀j:Nat,Leb.judge k c=j->Leb.judge k c=j):=fun _ h=>h;by_cases o:k<10∧128<=c
 ·have e:Leb.judge k c=30:=by unfold Leb.judge;rw[AK o]
  rw[e];have J:decide ((k:Int)<10)=true:=AE (by omega);have D:decide ((128:Int)<=(c:Int))=true:=AE (by omega);clear e;go_enter func166,ntmps166;go_wp2;go_ret;exact⟨rfl,rfl⟩
 ·by_cases y:k=10∧1<c
  ·have e:Leb.judge k c=5:=(by unfold Leb.judge;rw[AJ o,AK y]);rw[e];obtain⟨rfl,y⟩:=y;have D:decide ((1:Int)<(c:Int))=true:=AE (by omega);clear e o;go_enter func166,ntmps166;go_wp2;go_ret;exact⟨rfl,rfl⟩
  ·by_cases A:1<k∧c=0
   ·have e:Leb.judge k c=5:=(by unfold Leb.judge;rw[AJ o,AJ y,AK A]);rw[e];obtain⟨A,rfl⟩:=A;clear e o y;by_cases E:k=10
    ·subst E;go_enter func166,ntmps166;go_wp2;go_ret;exact⟨rfl,rfl⟩
    ·have J:(k:Int)<10:=(by omega);have D:((k:Int)==10)=false:=(by rw[AM];omega);have K:(1:Int)<(k:Int):=(by omega);go_enter func166,ntmps166;go_wp2;go_ret;exact⟨rfl,rfl⟩
   ·have e:Leb.judge k c=0:=(by unfold Leb.judge;rw[AJ o,AJ y,AJ A]);rw[e];clear e;by_cases E:k=10
    ·subst E;have D:¬(1:Int)<(c:Int):=(by omega);have K:((c:Int)==0)=false:=(by rw[AM];omega);clear o y A;go_enter func166,ntmps166;go_wp2;go_ret;exact⟨rfl,rfl⟩
    ·have J:(k:Int)<10:=(by omega);have D:((k:Int)==10)=false:=(by rw[AM];omega);have K:¬(128:Int)<=(c:Int):=(by omega);by_cases V:1<k
     ·have L:(1:Int)<(k:Int):=(by omega);have M:((c:Int)==0)=false:=(by rw[AM];omega);clear o y A;go_enter func166,ntmps166;go_wp2;go_ret;exact⟨rfl,rfl⟩
     ·have L:¬(1:Int)<(k:Int):=(by omega);clear o y A;go_enter func166,ntmps166;go_wp2;go_ret;exact⟨rfl,rfl⟩
end
section
open Go.RowKit
theorem rl(w:wv)(c:Nat)(M:c<=1000000):∃w',(Instr.makeSlice 40 (I U 0) (I U (c:Int))).run AW w=.ok (F (C ⟨w.1.size,0,sw⟩) 0 c) w'∧br w' w.1.size w.1.size c []∧O w.1.size w w':=by
 obtain⟨i,E,L,K,D⟩:=info_parts iG;obtain⟨w',o,y,A⟩:=run_make_own (P:=AW) w w.1.size 40 5 i (I .u8 0) 1 underlying40 E L K U U c (by rw[D];omega) (by unfold maxLen;omega) gQx;exact⟨w',o,y,gQz.grown A gQx (fun k J=>by cases J)⟩
theorem ow(m:Nat):bits .or .u8 ((m:Int) % 256) 128=((m % 128+128:Nat):Int):=by
 rw[Lib.u8_or128_any _ (by omega) (by omega)];omega
theorem dz(n:Nat)(J:n<18446744073709551616)(w:wv):
  AZ AW 86 #[I .u64 n] w fun e w'=>∃g cap,e=qz (F (C ⟨g,0,sw⟩) (Leb.put n).length cap)∧br w' w.1.size g cap (Leb.put n)∧O w.1.size w w':=by
 have ah:=gQq (Leb.putting_start J);have D:=gQq (vQ n J w);have ak:=Leb.put_length_le n;obtain⟨k,S⟩:∃k,k=(Leb.put n).length:=⟨_,rfl⟩;rw[<-S] at D ak;clear S;obtain⟨w1,a1,V,Q⟩:=rl w k (by omega);have ab:=gQq V;have Z:=gQq Q;clear V Q;go_enter func86,ntmps86;go_wp2_with fail;refine D.out.mono ?_;rintro e w' ⟨rfl,X⟩;rw[X];clear X w' D;go_wp2;go_loopw [0,3] (fun K aw wr=>∃(m:Nat) (xs:L8),K=I .u64 m∧m<18446744073709551616∧xs.length<=9∧Y (Leb.Putting n xs m∧Has wr w.1.size aw xs∧O w.1.size w wr)) (fun K _ _=>(intOf K).toNat);case atStart=>exact⟨n,[],rfl,J,by simp,ah.out,ab.out.has,Z.out⟩
 case round=>
  obtain⟨m,xs,rfl,a0,a2,y⟩:=hrel;have M:=y.out.2.2.size;have L:=gQq y.out.2.1;by_cases aj:127<m
  ·have A:=Leb.byte_high m;have o:=gQq (Leb.putting_next y.out.1 aj);generalize UInt8.ofNat (m % 128+128)=c at A o;have an:bits .or .u8 ((m:Int) % 256) 128=(c.toNat:Int):=(by rw[ow,A]);go_wp2_with (at_builtin;refine gg L.out c (by omega) M (by first | exact an | omega | (rw[A];omega)) rfl rfl rfl rfl rfl ?_;intro g cap W E hb);go_roundw;case rel=>exact⟨m / 128,xs++[c],by go_num,by omega,by have:=o.out.1;exact this,o.out,by have:=E.has;simpa using this,y.out.2.2.trans hb⟩
   case measure=>simp[intOf];omega
  ·have A:=Leb.byte_low m (by omega);have o:=gQq (Leb.putting_last y.out.1 (by omega));generalize UInt8.ofNat m=c at A o;go_wp2_with (at_builtin;refine gg L.out c (by omega) M (by omega) rfl rfl rfl rfl rfl ?_;intro g cap W E hb);go_ret;refine⟨g,cap,?_,?_,y.out.2.2.trans hb⟩
   ·rw[<-o.out];simp
   ·rw[<-o.out];exact E
end
section
open Go.RowKit
theorem wh(p:OA)(c n:Nat)(a:Int)(h:a<0∨(n:Int)<a)(w:wv):
  AZ AW 134 #[F p n c,I U a] w fun e w'=>e=qz (.tuple #[I .u64 0,I U 0,I U 30])∧w'=w:=by
 by_cases o:a<0
 ·go_enter func134,ntmps134;go_wp2
  go_step3
  go_wp2;try rw[Exit.noGoto_ret]
  go_ret3
  exact⟨rfl,rfl⟩
 ·have y:(n:Int)<a:=by omega
  have A:decide (a<0)=false:=AD o;go_enter func134,ntmps134;go_wp2
  go_step3
  go_wp2;try rw[Exit.noGoto_ret]
  go_ret3
  exact⟨rfl,rfl⟩
theorem wj(p:OA)(c n:Nat)(w:wv):
  AZ AW 134 #[F p n c,I U n] w fun e w'=>e=qz (.tuple #[I .u64 0,I U 0,I U 30])∧w'=w:=by
 have y:=gQq (kF 0 128 (by decide) (by decide) w);have K:Leb.judge 0 128=30:=by decide
 rw[K] at y;clear K;cases p with
 |none=>
  go_enter func134,ntmps134;go_wp2_with fail
  go_step3
  go_wp2_with fail
  go_step3
  go_wp2_with fail;go_loop [7,8,9,25] (fun D E J A=>D=I .u64 0∧E=I U 0∧J=I .u8 128∧A=I U 0) (fun _ _ _ _=>0);case atStart=>exact⟨rfl,rfl,rfl,rfl⟩
  case round=>
   obtain⟨rfl,rfl,rfl,rfl⟩:=hrel;go_wp2_with fail;refine y.out.mono ?_;rintro e w' ⟨rfl,o⟩;rw[o];clear o w';go_wp2;try rw[Exit.noGoto_ret]
   go_ret3
   exact⟨rfl,rfl⟩
 |some p=>
  by_cases h:c=n
  all_goals
   go_enter func134,ntmps134;go_wp2_with fail
   go_step3
   go_wp2_with fail
   go_step3
   go_wp2_with fail;go_loop [7,8,9,25] (fun D E J A=>D=I .u64 0∧E=I U 0∧J=I .u8 128∧A=I U 0) (fun _ _ _ _=>0);case atStart=>exact⟨rfl,rfl,rfl,rfl⟩
   case round=>
    obtain⟨rfl,rfl,rfl,rfl⟩:=hrel;go_wp2_with fail;refine y.out.mono ?_;rintro e w' ⟨rfl,o⟩;rw[o];clear o w';go_wp2;try rw[Exit.noGoto_ret]
    go_ret3
    exact⟨rfl,rfl⟩
theorem kn:∀v:Fin 256,bits .andNot .u8 (v.val:Int) 128=((v.val % 128:Nat):Int):=by decide +kernel
theorem sB(v:Nat)(h:v<256):bits .andNot .u8 (v:Int) 128=((v % 128:Nat):Int):=kn ⟨v,h⟩
theorem tt(m x k:Nat)(o:m<128 ^ k)(E:x*128 ^ k<18446744073709551616)(D:m<18446744073709551616):bits .or .u64 (m:Int) (IntKind.u64.wrap ((x:Int)*2 ^ (7*k)))=((m+x*128 ^ k:Nat):Int):=by
 have e:(2:Nat) ^ (7*k)=128 ^ k:=by rw[Nat.pow_mul]
 have y:((x:Int)*2 ^ (7*k))=((x*128 ^ k:Nat):Int):=by
  rw[<-e];push_cast;rfl
 have A:IntKind.u64.wrap (((x*128 ^ k:Nat):Int))=((x*128 ^ k:Nat):Int):=by
  rw[IntKind.wrap_u64];omega
 rw[y,A,bits_join_low .u64 64 (by decide) wraps_u64 (7*k) (m:Int) _ (by omega) (by rw[<-e] at o;exact_mod_cast o) (by omega) (by omega) (by rw[<-e];push_cast;exact Int.mul_emod_left _ _) (by omega)];omega
theorem kC(m v k:Nat)(o:m<128 ^ k)(y:m+v % 128*128 ^ k<18446744073709551616):bits .or .u64 (m:Int) (IntKind.u64.wrap ((v:Int) % 128*2 ^ (7*k)))=((m+v % 128*128 ^ k:Nat):Int):=by
 have e:((v:Int) % 128)=((v % 128:Nat):Int):=by omega
 rw[e];exact tt m (v % 128) k o (by omega) (by omega)
theorem fD(r:L8)(k:Nat)(h:k<r.length):Leb.val (r.take (k+1))=Leb.val (r.take k)+r[k].toNat % 128*128 ^ k:=by
 induction r generalizing k with
 |nil=>simp at h
 |cons c r ih=>
  cases k with
  |zero=>simp[Leb.val]
  |succ k=>
   have:=ih k (by simpa using h);simp only[List.take_succ_cons,Leb.val,List.getElem_cons_succ,this,Nat.pow_succ];rw[Nat.add_mul,Nat.mul_assoc];omega
theorem eQ(r:L8)(k:Nat):Leb.val (r.take k)<128 ^ k:=by
 induction k generalizing r with
 |zero=>simp[Leb.val]
 |succ k ih=>
  cases r with
  |nil=>simp only[List.take_nil,Leb.val];exact Nat.pow_pos (by omega)
  |cons c r=>
   have:=ih r;simp only[List.take_succ_cons,Leb.val,Nat.pow_succ];omega
theorem yj(b o c a:Nat)(l:L8)(b5:l.length<=140737488351232)(b6:l.length<=c)(b2:a<l.length)(w:wv)(be:cS w b o l):
  AZ AW 134 #[F (C ⟨b,o,sw⟩) l.length c,I U a] w fun e w'=>e=qz (ii l a)∧w'=w:=by
 obtain⟨r,aw⟩:∃r,r=l.drop a:=⟨_,rfl⟩;have a6:r.length=l.length-a:=by rw[aw,Aj]
 have V:Y (∀j (h:j<r.length),w.cell? ⟨b,o+a+j,sw⟩=C (I .u8 (r[j].toNat:Int))):=by
  intro j h;have:=be (a+j) (by omega);rw[Nat.add_assoc,this];subst aw;rw[List.getElem_drop]
 have J:Y (∀e n k,Leb.get r=⟨e,n,k⟩->Leb.get (l.drop a)=⟨e,n,k⟩):=by
  intro e n k h;rw[<-aw];exact h
 have b3:¬c=a:=by omega
 have L:Y (∀k v:Nat,k<=10->v<256->AZ AW 166 #[I U k,I .u8 v] w fun e w'=>e=qz (I U (Leb.judge k v:Nat))∧w'=w):=fun k v X Q=>kF k v X Q w;clear be aw;go_enter func134,ntmps134;go_wp2_with fail
 go_step3
 go_wp2_with fail
 go_step3
 go_wp2_with fail;go_loop [7,8,9,25] (fun bT a9 bX bO=>∃k m v:Nat,k<=9∧k<=r.length∧bT=I .u64 m∧a9=I U k∧bX=I .u8 v∧bO=I U k∧127<v∧v<256∧m<18446744073709551616∧Y (m=Leb.val (r.take k)∧∀j (h:j<r.length),j<k->127<r[j].toNat)) (fun _ a9 _ _=>10-(intOf a9).toNat);case atStart=>exact⟨0,0,128,by omega,by omega,rfl,rfl,rfl,rfl,by omega,by omega,by omega,rfl,fun j h b0=>by omega⟩
 case round=>
  obtain⟨k,m,v,b4,bi,rfl,rfl,rfl,rfl,b9,bN,b8,y⟩:=hrel;by_cases a2:k=r.length
  ·have ab:=Leb.high_eq 10 r k (by omega) (by omega) y.out.2 (.inr (.inl a2));have K:=gQq (gD l a 30 (by omega) (J.out _ _ _ ((Leb.getF_high 10 ux r).2.1 (by rw[ab];exact a2) (by omega))));have hj:Leb.judge k v=30:=(by unfold Leb.judge;rw[AK ⟨by omega,by omega⟩]);have A:=gQq (L.out k v (by omega) bN);rw[hj] at A;have bq:¬k<l.length-a:=(by omega);clear y ab hj V J L a2 a6 bi;go_wp2_with fail;refine A.out.mono ?_;rintro e w' ⟨rfl,D⟩;rw[D];clear D w';go_wp2;try rw[Exit.noGoto_ret]
   go_ret3
   exact⟨by rw[K.out];rfl,rfl⟩
  ·have an:k<r.length:=(by omega);have bs:=V.out k an;have ah:r[k].toNat<256:=r[k].toNat_lt;have bq:k<l.length-a:=(by omega);have bp:=sB r[k].toNat ah;obtain⟨v',a7⟩:∃v',v'=r[k].toNat:=⟨_,rfl⟩;rw[<-a7] at bs ah bp;have M:=gQq a7;have a1:=gQq a6;clear a7 a6;by_cases aj:127<v'
   ·have a0:Y (∀j (h:j<r.length),j<k+1->127<r[j].toNat):=by
     intro j h hj;by_cases e:j=k
     ·subst e;rw[<-M.out];exact aj
     ·exact y.out.2 j h (by omega)
    by_cases bc:k=9
    ·have K:=gQq (gD l a 5 (by omega) (J.out _ _ _ ((Leb.getF_high 10 ux r).1 (Leb.high_eq 10 r 10 (by omega) (by omega) (fun j h hj=>a0.out j h (by omega)) (.inl rfl)))));have hj:Leb.judge 10 v'=5:=(by unfold Leb.judge;rw[AJ (by omega),AK ⟨rfl,by omega⟩]);have A:=gQq (L.out 10 v' (by omega) ah);rw[hj] at A;clear y a0 V J L M a1 hj;subst bc;go_wp2_with fail;refine A.out.mono ?_;rintro e w' ⟨rfl,D⟩;rw[D];clear D w';go_wp2;try rw[Exit.noGoto_ret]
     go_ret3
     exact⟨by rw[K.out];rfl,rfl⟩
    ·have b1:((k:Int)+1==10)=false:=(by rw[AM];omega);have ak:k<=8:=(by omega);have S:=fD r k an;rw[<-M.out,<-y.out.1] at S;have bv:(128:Nat) ^ (k+1)<=128 ^ 9:=Nat.pow_le_pow_right (by omega) (by omega);have bl:(128:Nat) ^ 9=9223372036854775808:=(by decide);have bj:=eQ r (k+1);rw[S] at bj;have a3:m+v' % 128*128 ^ k<18446744073709551616:=(by omega);have a5:=kC m v' k (by rw[y.out.1];exact eQ r k) a3;have bb:Y (m+v' % 128*128 ^ k=Leb.val (r.take (k+1))):=S.symm;clear bc S bv bl bj V J L y;generalize m+v' % 128*128 ^ k=bk at a5 bb a3;go_wp2_with fail;go_round;case rel=>exact⟨k+1,bk,v',by omega,by omega,rfl,by go_num,rfl,by go_num,aj,ah,a3,bb.out,a0.out⟩
     case measure=>simp[intOf];omega
   ·have ab:=Leb.high_eq 10 r k (by omega) bi y.out.2 (.inr (.inr ⟨an,by rw[<-M.out];exact aj⟩));have E:=(Leb.getF_high 10 ux r).2.2 (by omega) (by omega);simp only[ab] at E;rw[<-M.out] at E;have b7:v'<128:=(by omega);by_cases Z:(k+1=10∧1<v')∨((ux=wx∨0<k)∧v'=0)
    ·rw[AK Z] at E;have K:=gQq (gD l a 5 (by omega) (J.out _ _ _ E));have hj:Leb.judge (k+1) v'=5:=by
      unfold Leb.judge;rw[AJ (by omega)];by_cases X:k+1=10∧1<v'
      ·rw[AK X]
      ·rcases Z with Q | ⟨Q | Q,bn⟩
       ·exact absurd Q X
       ·cases Q
       ·rw[AJ X,AK ⟨by omega,bn⟩]
     have A:=gQq (L.out (k+1) v' (by omega) ah);rw[hj] at A;clear y V J L M a1 hj E ab Z aj;go_wp2_with fail;refine A.out.mono ?_;rintro e w' ⟨rfl,D⟩;rw[D];clear D w';go_wp2;try rw[Exit.noGoto_ret]
     go_ret3
     exact⟨by rw[K.out];rfl,rfl⟩
    ·rw[AJ Z] at E;have a4:=Leb.get_ok r (by rw[show Leb.get r=_ from E]);rw[show Leb.get r=_ from E] at a4;have ak:Leb.val (r.take (k+1))<18446744073709551616:=a4.1;have S:=fD r k an;rw[<-M.out,<-y.out.1] at S;have K:=gQq (qo l a _ _ (J.out _ _ _ E));rw[S] at K ak;have a5:=kC m v' k (by rw[y.out.1];exact eQ r k) ak;have hj:Leb.judge (k+1) v'=0:=by
      unfold Leb.judge;rw[AJ (by omega),AJ (by omega),AJ];rintro⟨X,Q⟩;exact Z (.inr ⟨.inr (by omega),Q⟩)
     have A:=gQq (L.out (k+1) v' (by omega) ah);rw[hj] at A;clear y V J L M a1 hj E ab Z aj a4 S;generalize m+v' % 128*128 ^ k=bk at a5 K ak;go_wp2_with fail;refine A.out.mono ?_;rintro e w' ⟨rfl,D⟩;rw[D];clear D w';go_wp2;try rw[Exit.noGoto_ret]
     go_ret3
     exact⟨by rw[K.out] <;> go_num,rfl⟩
theorem lz(p:OA)(c:Nat)(l:L8)(a:Int)(D:l.length<=140737488351232)(E:l.length<=c)(w:wv)(h:At w p l):
  AZ AW 134 #[F p l.length c,I U a] w fun e w'=>e=qz (ii l a)∧w'=w:=by
 by_cases o:a<0∨(l.length:Int)<a
 ·rw[jx l a (by omega)];exact wh p c l.length a o w
 ·obtain⟨n,rfl⟩:∃n:Nat,a=(n:Int):=⟨a.toNat,by omega⟩;by_cases y:n=l.length
  ·rw[jx l n (by omega),y];exact wj p c l.length w
  ·obtain⟨b,J,rfl,_,A⟩:=aP h (by omega);exact yj b J c n l D E (by omega) w A
end
section
open Go
theorem cD{s:ByteArray}{k:Nat}(A:s.data.toList.drop pos=l)(y:k<l.length):pos+k<s.size∧s.get! (pos+k)=l[k]:=by
 subst A;have o:pos+k<s.size:=by
  rw[Aj,Array.length_toList] at y;show pos+k<s.data.size;omega
 refine⟨o,?_⟩;rw[List.getElem_drop,Array.getElem_toList];exact get_at s (pos+k) o
theorem qK{s:ByteArray}(o:s.data.toList.drop pos=l)(y:pos<=s.size):s.size=pos+l.length:=by
 subst o;rw[Aj,Array.length_toList];show s.data.size=_;have:pos<=s.data.size:=y;omega
theorem lE(s:ByteArray)(i:Nat):Utf8.decode s i=(let at' (k:Nat):Nat:=(s.get! (i+k)).toNat
 let dY (k:Nat):Bool:=i+k<s.size&&at' k / 64==2
 let b0:=at' 0
 if b0<0x80 then (b0,1)
 else if b0 / 32==6&&dY 1 then
  let c:=(b0 % 32)*64+at' 1 % 64
  if c≥0x80 then (c,2) else (Utf8.runeError,1)
 else if b0 / 16==14&&dY 1&&dY 2 then
  let c:=(b0 % 16)*4096+(at' 1 % 64)*64+at' 2 % 64
  if c≥0x800&&Utf8.valid c then (c,3) else (Utf8.runeError,1)
 else if b0 / 8==30&&dY 1&&dY 2&&dY 3 then
  let c:=(b0 % 8)*262144+(at' 1 % 64)*4096+(at' 2 % 64)*64+at' 3 % 64
  if c≥0x10000&&Utf8.valid c then (c,4) else (Utf8.runeError,1)
 else (Utf8.runeError,1)):=rfl
theorem gS(c least:Nat):(Utf8.valid c&&decide (least<=c))=U8.may least c:=by
 unfold Utf8.valid U8.may;rw[Bool.eq_iff_iff];simp only[Bool.and_eq_true,Bool.or_eq_true,decide_eq_true_eq,Bool.not_eq_true',Bool.and_eq_false_iff,decide_eq_false_iff_not];omega
def dec:L8->Nat×Nat
 | []=>(65533,1)
 |c0::r=>
  if c0.toNat<128 then (c0.toNat,1)
  else match r with
   | []=>(65533,1)
   |c1::r1=>
    if 192<=c0.toNat∧c0.toNat<224 then (if (128<=c1.toNat∧c1.toNat<192)∧128<=(c0.toNat-192)*64+c1.toNat-128 then ((c0.toNat-192)*64+c1.toNat-128,2) else (65533,1))
    else match r1 with
     | []=>(65533,1)
     |c2::r2=>
      if 224<=c0.toNat∧c0.toNat<240 then (if (128<=c1.toNat∧c1.toNat<192)∧(128<=c2.toNat∧c2.toNat<192)∧U8.may 2048 (((c0.toNat-224)*64+c1.toNat-128)*64+c2.toNat-128) then (((c0.toNat-224)*64+c1.toNat-128)*64+c2.toNat-128,3) else (65533,1))
      else match r2 with
       | []=>(65533,1)
       |c3::_=>
        if 240<=c0.toNat∧c0.toNat<248 then (if (128<=c1.toNat∧c1.toNat<192)∧(128<=c2.toNat∧c2.toNat<192)∧(128<=c3.toNat∧c3.toNat<192)∧U8.may 65536 ((((c0.toNat-240)*64+c1.toNat-128)*64+c2.toNat-128)*64+c3.toNat-128) then ((((c0.toNat-240)*64+c1.toNat-128)*64+c2.toNat-128)*64+c3.toNat-128,4) else (65533,1))
        else (65533,1)
theorem tP(c:UInt8):(c.toNat / 32==6)=decide (192<=c.toNat∧c.toNat<224):=by rw[Bool.eq_iff_iff];simp;omega
theorem xg(c:UInt8):(c.toNat / 16==14)=decide (224<=c.toNat∧c.toNat<240):=by rw[Bool.eq_iff_iff];simp;omega
theorem ze(c:UInt8):(c.toNat / 8==30)=decide (240<=c.toNat∧c.toNat<248):=by rw[Bool.eq_iff_iff];simp;omega
theorem follows(c:UInt8):(c.toNat / 64==2)=decide (128<=c.toNat∧c.toNat<192):=by rw[Bool.eq_iff_iff];simp;omega
theorem jF{s:ByteArray}(E:s.data.toList.drop pos=l)(an:pos<s.size):Utf8.decode s pos=dec l:=by
 have J:=qK E (Nat.le_of_lt an);have ah:Utf8.runeError=65533:=rfl;match l,E,J with
 | [],_,h=>simp at h;omega
 | [c0],E,J=>
  have L:=(cD E (k:=0) (by simp)).2;have X:decide (pos+1<s.size)=false:=AD (by simp at J;omega);have Z:decide (pos+2<s.size)=false:=AD (by simp at J;omega);have aj:decide (pos+3<s.size)=false:=AD (by simp at J;omega);simp only[List.getElem_cons_zero] at L;rw[lE];simp only[L,X,Bool.false_and,Bool.and_false,Bool.false_eq_true,if_false,ah];unfold dec;rfl
 | [c0,c1],E,J=>
  have L:=(cD E (k:=0) (by simp)).2;have Q:=(cD E (k:=1) (by simp)).2;have X:decide (pos+1<s.size)=true:=AE (by simp at J;omega);have Z:decide (pos+2<s.size)=false:=AD (by simp at J;omega);simp only[List.getElem_cons_zero,List.getElem_cons_succ] at L Q;rw[lE];simp only[L,Q,X,Z,Bool.false_and,Bool.and_false,Bool.true_and,Bool.false_eq_true,if_false,ah,tP,follows];simp only[dec];by_cases K:c0.toNat<128
  ·rw[AK K,AK K]
  ·rw[AJ K,AJ K];by_cases D:192<=c0.toNat∧c0.toNat<224
   ·by_cases y:128<=c1.toNat∧c1.toNat<192
    ·rw[AK (by simp[D,y]),AK D];have e:c0.toNat % 32*64+c1.toNat % 64=(c0.toNat-192)*64+c1.toNat-128:=(by omega);rw[e];by_cases A:128<=(c0.toNat-192)*64+c1.toNat-128
     ·rw[AK A,AK ⟨y,A⟩]
     ·rw[AJ A,AJ (fun o=>A o.2)]
    ·rw[AJ (by simp[y]),AK D,AJ (fun o=>y o.1)]
   ·rw[AJ (by simp[D]),AJ D]
 | [c0,c1,c2],E,J=>
  have L:=(cD E (k:=0) (by simp)).2;have Q:=(cD E (k:=1) (by simp)).2;have ab:=(cD E (k:=2) (by simp)).2;have X:decide (pos+1<s.size)=true:=AE (by simp at J;omega);have Z:decide (pos+2<s.size)=true:=AE (by simp at J;omega);have aj:decide (pos+3<s.size)=false:=AD (by simp at J;omega);simp only[List.getElem_cons_zero,List.getElem_cons_succ] at L Q ab;rw[lE];simp only[L,Q,ab,X,Z,aj,Bool.false_and,Bool.and_false,Bool.true_and,Bool.false_eq_true,if_false,ah,tP,xg,follows];simp only[dec];by_cases K:c0.toNat<128
  ·rw[AK K,AK K]
  ·rw[AJ K,AJ K];by_cases D:192<=c0.toNat∧c0.toNat<224
   ·by_cases y:128<=c1.toNat∧c1.toNat<192
    ·rw[AK (by simp[D,y]),AK D];have e:c0.toNat % 32*64+c1.toNat % 64=(c0.toNat-192)*64+c1.toNat-128:=(by omega);rw[e];by_cases A:128<=(c0.toNat-192)*64+c1.toNat-128
     ·rw[AK A,AK ⟨y,A⟩]
     ·rw[AJ A,AJ (fun o=>A o.2)]
    ·rw[AJ (by simp[y]),AJ (by simp[y]),AK D,AJ (fun o=>y o.1)]
   ·rw[AJ (by simp[D]),AJ D];by_cases M:224<=c0.toNat∧c0.toNat<240
    ·rw[AK M];by_cases y:(128<=c1.toNat∧c1.toNat<192)∧128<=c2.toNat∧c2.toNat<192
     ·rw[AK (by simp[M,y])];have e:c0.toNat % 16*4096+c1.toNat % 64*64+c2.toNat % 64=((c0.toNat-224)*64+c1.toNat-128)*64+c2.toNat-128:=(by omega);rw[e];have V:=gS (((c0.toNat-224)*64+c1.toNat-128)*64+c2.toNat-128) 2048;by_cases A:U8.may 2048 (((c0.toNat-224)*64+c1.toNat-128)*64+c2.toNat-128)=ux
      ·rw[AK (by rw[Bool.and_comm,<-A];exact V),AK ⟨y.1,y.2,A⟩]
      ·rw[AJ (by rw[Bool.and_comm];exact fun o=>A (V.symm.trans o)),AJ (fun o=>A o.2.2)]
     ·rw[AJ (by simp only[Bool.and_eq_true,decide_eq_true_eq];exact fun o=>y ⟨o.1.2,o.2⟩),AJ (fun o=>y ⟨o.1,o.2.1⟩)]
    ·rw[AJ (by simp[M]),AJ M]
 |c0::c1::c2::c3::t,E,J=>
  have L:=(cD E (k:=0) (by simp)).2;have Q:=(cD E (k:=1) (by simp)).2;have ab:=(cD E (k:=2) (by simp)).2;have ak:=(cD E (k:=3) (by simp)).2;have X:decide (pos+1<s.size)=true:=AE (by simp at J;omega);have Z:decide (pos+2<s.size)=true:=AE (by simp at J;omega);have aj:decide (pos+3<s.size)=true:=AE (by simp at J;omega);simp only[List.getElem_cons_zero,List.getElem_cons_succ] at L Q ab ak;rw[lE];simp only[L,Q,ab,ak,X,Z,aj,Bool.true_and,ah,tP,xg,ze,follows];simp only[dec];by_cases K:c0.toNat<128
  ·rw[AK K,AK K]
  ·rw[AJ K,AJ K];by_cases D:192<=c0.toNat∧c0.toNat<224
   ·have M:¬(224<=c0.toNat∧c0.toNat<240):=(by omega);have S:¬(240<=c0.toNat∧c0.toNat<248):=(by omega);by_cases y:128<=c1.toNat∧c1.toNat<192
    ·rw[AK (by simp[D,y]),AK D];have e:c0.toNat % 32*64+c1.toNat % 64=(c0.toNat-192)*64+c1.toNat-128:=(by omega);rw[e];by_cases A:128<=(c0.toNat-192)*64+c1.toNat-128
     ·rw[AK A,AK ⟨y,A⟩]
     ·rw[AJ A,AJ (fun o=>A o.2)]
    ·rw[AJ (by simp[y]),AJ (by simp[M]),AJ (by simp[S]),AK D,AJ (fun o=>y o.1)]
   ·rw[AJ (by simp[D]),AJ D];by_cases M:224<=c0.toNat∧c0.toNat<240
    ·have S:¬(240<=c0.toNat∧c0.toNat<248):=(by omega);rw[AK M];by_cases y:(128<=c1.toNat∧c1.toNat<192)∧128<=c2.toNat∧c2.toNat<192
     ·rw[AK (by simp[M,y])];have e:c0.toNat % 16*4096+c1.toNat % 64*64+c2.toNat % 64=((c0.toNat-224)*64+c1.toNat-128)*64+c2.toNat-128:=(by omega);rw[e];have V:=gS (((c0.toNat-224)*64+c1.toNat-128)*64+c2.toNat-128) 2048;by_cases A:U8.may 2048 (((c0.toNat-224)*64+c1.toNat-128)*64+c2.toNat-128)=ux
      ·rw[AK (by rw[Bool.and_comm,<-A];exact V),AK ⟨y.1,y.2,A⟩]
      ·rw[AJ (by rw[Bool.and_comm];exact fun o=>A (V.symm.trans o)),AJ (fun o=>A o.2.2)]
     ·rw[AJ (by simp only[Bool.and_eq_true,decide_eq_true_eq];exact fun o=>y ⟨o.1.2,o.2⟩),AJ (by simp[S]),AJ (fun o=>y ⟨o.1,o.2.1⟩)]
    ·rw[AJ (by simp[M]),AJ M];by_cases S:240<=c0.toNat∧c0.toNat<248
     ·rw[AK S];by_cases y:(128<=c1.toNat∧c1.toNat<192)∧(128<=c2.toNat∧c2.toNat<192)∧128<=c3.toNat∧c3.toNat<192
      ·rw[AK (by simp[S,y])];have e:c0.toNat % 8*262144+c1.toNat % 64*4096+c2.toNat % 64*64+c3.toNat % 64=(((c0.toNat-240)*64+c1.toNat-128)*64+c2.toNat-128)*64+c3.toNat-128:=(by omega);rw[e];have V:=gS ((((c0.toNat-240)*64+c1.toNat-128)*64+c2.toNat-128)*64+c3.toNat-128) 65536;by_cases A:U8.may 65536 ((((c0.toNat-240)*64+c1.toNat-128)*64+c2.toNat-128)*64+c3.toNat-128)=ux
       ·rw[AK (by rw[Bool.and_comm,<-A];exact V),AK ⟨y.1,y.2.1,y.2.2,A⟩]
       ·rw[AJ (by rw[Bool.and_comm];exact fun o=>A (V.symm.trans o)),AJ (fun o=>A o.2.2.2)]
      ·rw[AJ (by simp only[Bool.and_eq_true,decide_eq_true_eq];exact fun o=>y ⟨o.1.1.2,o.1.2,o.2⟩),AJ (fun o=>y ⟨o.1,o.2.1,o.2.2.1⟩)]
     ·rw[AJ (by simp[S]),AJ S]
theorem iY{v:Nat}(h:v<2048)(least:Nat):U8.may least v=decide (least<=v):=by
 unfold U8.may;rw[Bool.eq_iff_iff];simp only[Bool.and_eq_true,decide_eq_true_eq,Bool.not_eq_true',Bool.and_eq_false_iff,decide_eq_false_iff_not];omega
theorem xl(h:c<128):U8.kind c=C (1,c,0):=by unfold U8.kind;rw[AK h]
theorem xk(h:192<=c∧c<224):U8.kind c=C (2,c-192,128):=by unfold U8.kind;rw[AJ (by omega),AK h]
theorem xi(h:224<=c∧c<240):U8.kind c=C (3,c-224,2048):=by unfold U8.kind;rw[AJ (by omega),AJ (by omega),AK h]
theorem xh(h:240<=c∧c<248):U8.kind c=C (4,c-240,65536):=by unfold U8.kind;rw[AJ (by omega),AJ (by omega),AJ (by omega),AK h]
theorem zi(o:¬c<128)(y:¬(192<=c∧c<224))(A:¬(224<=c∧c<240))(D:¬(240<=c∧c<248)):U8.kind c=none:=by unfold U8.kind;rw[AJ o,AJ y,AJ A,AJ D]
theorem wD(h:U8.one l=sw):dec l=(65533,1):=by
 match l,h with
 | [],_=>rfl
 |c0::r,h=>
  simp only[U8.one] at h;by_cases y:c0.toNat<128
  ·rw[xl y] at h;simp[U8.conts,iY (show c0.toNat<2048 by omega)] at h
  ·by_cases A:192<=c0.toNat∧c0.toNat<224
   ·rw[xk A] at h;match r,h with
    | [],_=>simp[dec,y]
    |c1::r1,h=>
     simp only[dec];rw[AJ y,AK A];by_cases D:128<=c1.toNat∧c1.toNat<192
     ·simp only[U8.conts,AK D,iY (show(c0.toNat-192)*64+c1.toNat-128<2048 by omega)] at h;by_cases E:128<=(c0.toNat-192)*64+c1.toNat-128
      ·simp[E] at h
      ·rw[AJ (fun o=>E o.2)]
     ·rw[AJ (fun o=>D o.1)]
   ·by_cases J:224<=c0.toNat∧c0.toNat<240
    ·rw[xi J] at h;match r,h with
     | [],_=>simp[dec,y]
     | [c1],_=>simp[dec,y,A]
     |c1::c2::r2,h=>
      simp only[dec];rw[AJ y,AJ A,AK J];by_cases D:128<=c1.toNat∧c1.toNat<192
      ·by_cases E:128<=c2.toNat∧c2.toNat<192
       ·simp only[U8.conts,AK D,AK E] at h;by_cases K:U8.may 2048 (((c0.toNat-224)*64+c1.toNat-128)*64+c2.toNat-128)=ux
        ·simp[K] at h
        ·rw[AJ (fun o=>K o.2.2)]
       ·rw[AJ (fun o=>E o.2.1)]
      ·rw[AJ (fun o=>D o.1)]
    ·by_cases L:240<=c0.toNat∧c0.toNat<248
     ·rw[xh L] at h;match r,h with
      | [],_=>simp[dec,y]
      | [c1],_=>simp[dec,y,A]
      | [c1,c2],_=>simp[dec,y,A,J]
      |c1::c2::c3::r3,h=>
       simp only[dec];rw[AJ y,AJ A,AJ J,AK L];by_cases D:128<=c1.toNat∧c1.toNat<192
       ·by_cases E:128<=c2.toNat∧c2.toNat<192
        ·by_cases M:128<=c3.toNat∧c3.toNat<192
         ·simp only[U8.conts,AK D,AK E,AK M] at h;by_cases K:U8.may 65536 ((((c0.toNat-240)*64+c1.toNat-128)*64+c2.toNat-128)*64+c3.toNat-128)=ux
          ·simp[K] at h
          ·rw[AJ (fun o=>K o.2.2.2)]
         ·rw[AJ (fun o=>M o.2.2.1)]
        ·rw[AJ (fun o=>E o.2.1)]
       ·rw[AJ (fun o=>D o.1)]
     ·match r with
      | []=>simp[dec,y]
      | [c1]=>simp[dec,y,A]
      | [c1,c2]=>simp[dec,y,A,J]
      |c1::c2::c3::r3=>simp[dec,y,A,J,L]
theorem uE{n:Nat}(h:U8.one l=C n):(dec l).2=n∧((dec l).1=65533->n=3∧l.take 3=[239,191,189])∧(dec l).1<=1114111:=by
 match l,h with
 | [],h=>simp[U8.one] at h
 |c0::r,h=>
  simp only[U8.one] at h;by_cases D:c0.toNat<128
  ·rw[xl D] at h;have Z:U8.may 0 c0.toNat=true:=(by rw[iY (by omega)];simp);have ab:n=1:=(by simpa[U8.conts,Z] using h.symm);subst ab;have hd:dec (c0::r)=(c0.toNat,1):=(by simp[dec,D]);rw[hd];exact⟨rfl,fun E=>by simp only at E;omega,by simp only;omega⟩
  ·by_cases J:192<=c0.toNat∧c0.toNat<224
   ·rw[xk J] at h;match r,h with
    | [],h=>simp[U8.conts] at h
    |c1::r1,h=>
     simp only[dec];rw[AJ D,AK J];by_cases o:128<=c1.toNat∧c1.toNat<192
     ·simp only[U8.conts,AK o,iY (show(c0.toNat-192)*64+c1.toNat-128<2048 by omega)] at h;by_cases y:128<=(c0.toNat-192)*64+c1.toNat-128
      ·simp only[y,decide_true,if_true,Option.some.injEq] at h;rw[AK ⟨o,y⟩];exact⟨h,fun E=>by omega,by simp only;omega⟩
      ·simp[y] at h
     ·simp only[U8.conts,AJ o] at h;cases h
   ·by_cases K:224<=c0.toNat∧c0.toNat<240
    ·rw[xi K] at h;match r,h with
     | [],h=>simp[U8.conts] at h
     | [c1],h=>
      by_cases o:128<=c1.toNat∧c1.toNat<192
      ·simp only[U8.conts,AK o] at h;cases h
      ·simp only[U8.conts,AJ o] at h;cases h
     |c1::c2::r2,h=>
      simp only[dec];rw[AJ D,AJ J,AK K];by_cases o:128<=c1.toNat∧c1.toNat<192
      ·by_cases y:128<=c2.toNat∧c2.toNat<192
       ·simp only[U8.conts,AK o,AK y] at h;by_cases A:U8.may 2048 (((c0.toNat-224)*64+c1.toNat-128)*64+c2.toNat-128)=ux
        ·rw[AK A] at h;simp only[Option.some.injEq] at h;rw[AK ⟨o,y,A⟩];refine⟨h,fun E=>⟨h.symm,?_⟩,by simp only;omega⟩;simp only at E;have S:c0=239:=UInt8.toNat_inj.1 (by simp;omega);have V:c1=191:=UInt8.toNat_inj.1 (by simp;omega);have X:c2=189:=UInt8.toNat_inj.1 (by simp;omega);rw[S,V,X];rfl
        ·rw[AJ A] at h;cases h
       ·simp only[U8.conts,AK o,AJ y] at h;cases h
      ·simp only[U8.conts,AJ o] at h;cases h
    ·by_cases L:240<=c0.toNat∧c0.toNat<248
     ·rw[xh L] at h;match r,h with
      | [],h=>simp[U8.conts] at h
      | [c1],h=>
       by_cases o:128<=c1.toNat∧c1.toNat<192
       ·simp only[U8.conts,AK o] at h;cases h
       ·simp only[U8.conts,AJ o] at h;cases h
      | [c1,c2],h=>
       by_cases o:128<=c1.toNat∧c1.toNat<192
       ·by_cases y:128<=c2.toNat∧c2.toNat<192
        ·simp only[U8.conts,AK o,AK y] at h;cases h
        ·simp only[U8.conts,AK o,AJ y] at h;cases h
       ·simp only[U8.conts,AJ o] at h;cases h
      |c1::c2::c3::r3,h=>
       simp only[dec];rw[AJ D,AJ J,AJ K,AK L];by_cases o:128<=c1.toNat∧c1.toNat<192
       ·by_cases y:128<=c2.toNat∧c2.toNat<192
        ·by_cases M:128<=c3.toNat∧c3.toNat<192
         ·simp only[U8.conts,AK o,AK y,AK M] at h;by_cases A:U8.may 65536 ((((c0.toNat-240)*64+c1.toNat-128)*64+c2.toNat-128)*64+c3.toNat-128)=ux
          ·rw[AK A] at h;simp only[Option.some.injEq] at h;rw[AK ⟨o,y,M,A⟩];have Q:=A;unfold U8.may at Q;simp only[Bool.and_eq_true,decide_eq_true_eq] at Q;exact⟨h,fun E=>by simp only at E;omega,Q.1.2⟩
          ·rw[AJ A] at h;cases h
         ·simp only[U8.conts,AK o,AK y,AJ M] at h;cases h
        ·simp only[U8.conts,AK o,AJ y] at h;cases h
       ·simp only[U8.conts,AJ o] at h;cases h
     ·rw[zi D J K L] at h;cases h
end
section
open Go.RowKit
theorem tz(h:l.take 3=[239,191,189]):U8.one l=C 3:=by
 match l,h with
 | [],h=>simp at h
 | [_],h=>simp at h
 | [_,_],h=>simp at h
 |a::b::c::r,h=>
  simp only[List.take_succ_cons,List.take_zero,List.cons.injEq,and_true] at h;obtain⟨rfl,rfl,rfl⟩:=h;simp[U8.one,U8.kind,U8.conts,U8.may]
theorem zT(t:ByteArray):(t.extract 0 3).toList=t.data.toList.take 3:=by
 rw[ByteArray.toList_eq,ByteArray.data_extract,Array.toList_extract];simp
theorem yu(t:ByteArray)(pos:Nat):(t.extract pos t.size).data.toList=t.data.toList.drop pos:=by
 rw[ByteArray.data_extract,Array.toList_extract];simp;exact List.take_of_length_le (by simp[List.length_drop])
def mX(t:ByteArray):Bool:=decide (t.data.toList.take 3=[239,191,189])
theorem rp(t:ByteArray)(L:t.size<=281474976702464)(w:wv):AZ AW 207 #[N t,N ⟨#[239,191,189]⟩] w fun e w'=>e=qz (mx (mX t))∧w'=w:=by
 by_cases E:t.size<3
 ·have y:¬(3:Int)<=(t.size:Int):=by omega
  have o:Y (mX t=wx):=by
   show decide _=wx;rw[decide_eq_false_iff_not];intro A;have:=congrArg List.length A;rw[AA,Array.length_toList] at this;have K:t.data.size=t.size:=rfl;simp at this;omega
  go_enter func207,ntmps207;go_wp2;go_ret;exact⟨by rw[o.out];rfl,rfl⟩
 ·have y:(3:Int)<=(t.size:Int):=by omega
  have J:3<=t.size:=by omega
  obtain⟨r,D⟩:∃r,((t.extract 0 3).toList==[239,191,189])=r:=⟨_,rfl⟩;have o:Y (mX t=r):=by
   show decide _=r;rw[<-D,zT];rw[Bool.eq_iff_iff];simp
  go_enter func207,ntmps207;go_wp2;go_ret;exact⟨by rw[o.out];rfl,rfl⟩
theorem ui(t:ByteArray)(A:t.size<=281474976702464)(w:wv):AZ AW 200 #[N t,N ⟨#[239,191,189]⟩] w fun e w'=>e=qz (mx (mX t))∧w'=w:=by
 have y:=gQq (rp t A w);go_enter func200,ntmps200;go_wp2_with fail;refine y.out.mono ?_;rintro e w1 ⟨rfl,o⟩;rw[o];clear o w1;go_wp2;go_ret;exact⟨rfl,rfl⟩
theorem xB(t:ByteArray)(bi:t.size<=281474976702464)(w:wv):AZ AW 182 #[N t] w fun e w'=>e=qz (mx (dN t))∧O w.1.size w w':=by
 obtain⟨o,Z⟩:∃o,o=t.data.toList:=⟨_,rfl⟩;have a3:Y (dN t=U8.utf o):=by show _=_;rw[Z];rfl
 have X:=gQq Z;have Q:Y (∀k pos,((w.drewN k).iter t pos).iterPos w.1.size=pos):=fun k pos=>World.iterPos_iter (w.drewN k) t pos;have a0:Y (∀k pos,O w.1.size w ((w.drewN k).iter t pos)):=fun k pos=>(below_drewN gQz k).alloc gQx _;clear Z;have a4:Y (t.size=o.length):=by show _=_;rw[X.out,Array.length_toList];rfl
 have a8:Y (∀pos w',pos<=t.size->AZ AW 200 #[N (t.extract pos t.size),N ⟨#[239,191,189]⟩] w' fun e aw=>e=qz (mx (decide ((o.drop pos).take 3=[239,191,189])))∧aw=w'):=by
  intro pos w' a6;have h:=ui (t.extract pos t.size) (by rw[ByteArray.size_extract];omega) w';unfold mX at h;rw[yu,<-X.out] at h;exact h
 go_enter func182,ntmps182;go_wp2;go_loopw [3,4] (fun _ _ wr=>∃pos k:Nat,pos<=t.size∧wr=(w.drewN k).iter t pos∧Y (U8.utf o=U8.utf (o.drop pos))) (fun _ _ wr=>t.size-wr.iterPos w.1.size);case atStart=>exact⟨0,0,by omega,rfl,by show _=_;rw[List.drop_zero]⟩
 case round=>
  obtain⟨pos,k,a6,rfl,A⟩:=hrel;by_cases V:pos<t.size
  ·have an:∀D,(Instr.next (.pointer (C ⟨w.1.size,0,sw⟩)) ux D).run AW ((w.drewN k).iter t pos)=.ok (.tuple #[mx ux,I U pos,I .i32 (Utf8.decode t pos).1]) ((w.drewN k).iter t (pos+(Utf8.decode t pos).2)):=fun D=>run_next_any (P:=AW) (w.drewN k) t pos D V;obtain⟨l,y⟩:∃l,l=o.drop pos:=⟨_,rfl⟩;have K:t.data.toList.drop pos=l:=(by rw[y,X.out]);have a5:l.length=t.size-pos:=(by rw[y,Aj,a4.out]);obtain⟨m,E⟩:∃m,m=decide (l.take 3=[239,191,189]):=⟨_,rfl⟩;have a1:Y (∀w',AZ AW 200 #[N (t.extract pos t.size),N ⟨#[239,191,189]⟩] w' fun e aw=>e=qz (mx m)∧aw=w'):=by
    intro w';rw[E,y];exact a8.out pos w' a6
   cases ho:U8.one l with
   |none=>
    have hd:Utf8.decode t pos=(65533,1):=(jF K V).trans (wD ho);rw[hd] at an;have a7:Y (U8.utf o=wx):=(by show _=_;rw[A.out,<-y];exact U8.utf_bad (fun ab=>by rw[ab] at a5;simp at a5;omega) ho);have aj:m=false:=by
     rw[E,decide_eq_false_iff_not];intro ab;rw[tz ab] at ho;cases ho
    subst aj;clear hd y K ho A E;go_wp2_with fail;refine(a1.out _).mono ?_;rintro e w1 ⟨rfl,M⟩;rw[M];clear M w1;go_wp2;go_ret;exact⟨by rw[a3.out,a7.out];rfl,a0.out _ _⟩
   |some n=>
    obtain⟨J,S⟩:∃J,J=(dec l).1:=⟨_,rfl⟩;obtain⟨ah,L,bb⟩:=uE ho;have hd:Utf8.decode t pos=(J,n):=(by rw[jF K V,S,<-ah]);rw[hd] at an;have be:=U8.one_len ho;have a2:Y (U8.utf o=U8.utf (o.drop (pos+n))):=(by show _=_;rw[A.out,<-y,U8.utf_step ho,y,AI]);rw[<-S] at L;by_cases ak:J=65533
    ·have aj:m=true:=(by rw[E,decide_eq_true_eq];exact(L ak).2);have bc:=(L ak).1;subst ak bc aj;clear hd y K ho A S ah L bb E;go_wp2_with fail;refine(a1.out _).mono ?_;rintro e w1 ⟨rfl,M⟩;rw[M];clear M w1;go_wp2;go_roundw;case rel=>exact⟨pos+3,k,by omega,rfl,a2⟩
     case measure=>rw[Q.out,Q.out];omega
    ·have bj:((J:Int)==65533)=false:=(by simp;omega);clear hd y K ho A S ah L E;go_wp2;go_roundw;case rel=>exact⟨pos+n,k,by omega,rfl,a2⟩
     case measure=>rw[Q.out,Q.out];omega
  ·have an:∀D,(Instr.next (.pointer (C ⟨w.1.size,0,sw⟩)) ux D).run AW ((w.drewN k).iter t pos)=.ok (.tuple #[mx wx]) ((w.drewN k).iter t pos):=fun D=>run_next_end (P:=AW) (w.drewN k) t pos D V;have a9:Y (U8.utf o=ux):=(by show _=_;rw[A.out,List.drop_eq_nil_of_le (by have:=a4.out;omega)];rfl);clear A;go_wp2;go_ret;exact⟨by rw[a3.out,a9.out];rfl,a0.out _ _⟩
end
section
open Go.RowKit
attribute [local go_sem] ai
theorem xq:aG 0=0:=by kernel_rfl
theorem et(n:Nat):((n:Int)==0)=(n==0):=by rw[Bool.eq_iff_iff,beq_iff_eq,beq_iff_eq];omega
theorem cJ(b:Nat)(w:wv):AZ AW 164 #[ox qq b,ox qq 0] w fun e w'=>e=qz (mx (aG b==0))∧w'=w:=by
 have h:=gx b 0 w;rw[xq] at h;have o:((aG b:Int)==((0:Nat):Int))=(aG b==0):=by
  rw[Bool.eq_iff_iff,beq_iff_eq,beq_iff_eq];omega
 rw[o] at h;exact h
theorem yt(i:Int)(b:Nat)(t:ByteArray)(p:OA)(n c:Nat)(w:wv):
  AZ AW 194 #[nx #[I U 1,I U i,ox qq b,N t,F p n c]] w fun e w'=>e=qz (mx (V.ownB 1 i b t n))∧O w.1.size w w':=by
 have A:Y (∀o,O w.1.size w (w.alloc o)):=fun o=>gQz.alloc gQx o;go_enter func194,ntmps194;go_wp2_with (go_at_call 164;refine(cJ _ _).mono ?_;rintro e w1 ⟨rfl,y⟩;rw[y];clear y w1);all_goals go_ret
 all_goals refine⟨?_,A.out _⟩
 all_goals simp_all [V.ownB]
 all_goals first | exact et n | (intros;omega)
theorem yr(i:Int)(b:Nat)(t:ByteArray)(p:OA)(n c:Nat)(w:wv):
  AZ AW 194 #[nx #[I U 2,I U i,ox qq b,N t,F p n c]] w fun e w'=>e=qz (mx (V.ownB 2 i b t n))∧O w.1.size w w':=by
 have A:Y (∀o,O w.1.size w (w.alloc o)):=fun o=>gQz.alloc gQx o;go_enter func194,ntmps194;go_wp2_with (go_at_call 164;refine(cJ _ _).mono ?_;rintro e w1 ⟨rfl,y⟩;rw[y];clear y w1);all_goals go_ret
 all_goals refine⟨?_,A.out _⟩
 all_goals simp_all [V.ownB]
 all_goals first | exact et n | (intros;omega)
theorem yq(i:Int)(b:Nat)(t:ByteArray)(p:OA)(n c:Nat)(w:wv):
  AZ AW 194 #[nx #[I U 3,I U i,ox qq b,N t,F p n c]] w fun e w'=>e=qz (mx (V.ownB 3 i b t n))∧O w.1.size w w':=by
 have A:Y (∀o,O w.1.size w (w.alloc o)):=fun o=>gQz.alloc gQx o;go_enter func194,ntmps194;go_wp2_with (go_at_call 164;refine(cJ _ _).mono ?_;rintro e w1 ⟨rfl,y⟩;rw[y];clear y w1);all_goals go_ret
 all_goals refine⟨?_,A.out _⟩
 all_goals simp_all [V.ownB,xq]
 all_goals first | exact et n | (intros;omega)
theorem yp(i:Int)(b:Nat)(t:ByteArray)(p:OA)(n c:Nat)(w:wv):
  AZ AW 194 #[nx #[I U 4,I U i,ox qq b,N t,F p n c]] w fun e w'=>e=qz (mx (V.ownB 4 i b t n))∧O w.1.size w w':=by
 have A:Y (∀o,O w.1.size w (w.alloc o)):=fun o=>gQz.alloc gQx o;go_enter func194,ntmps194;go_wp2_with (go_at_call 164;refine(cJ _ _).mono ?_;rintro e w1 ⟨rfl,y⟩;rw[y];clear y w1);all_goals go_ret
 all_goals refine⟨?_,A.out _⟩
 all_goals simp_all [V.ownB]
 all_goals first | exact et n | (intros;omega)
theorem yo(i:Int)(b:Nat)(t:ByteArray)(p:OA)(n c:Nat)(w:wv):
  AZ AW 194 #[nx #[I U 5,I U i,ox qq b,N t,F p n c]] w fun e w'=>e=qz (mx (V.ownB 5 i b t n))∧O w.1.size w w':=by
 have A:Y (∀o,O w.1.size w (w.alloc o)):=fun o=>gQz.alloc gQx o;go_enter func194,ntmps194;go_wp2_with (go_at_call 164;refine(cJ _ _).mono ?_;rintro e w1 ⟨rfl,y⟩;rw[y];clear y w1);all_goals go_ret
 all_goals refine⟨?_,A.out _⟩
 all_goals simp_all [V.ownB]
 all_goals first | exact et n | (intros;omega)
theorem yn(i:Int)(b:Nat)(t:ByteArray)(p:OA)(n c:Nat)(w:wv):
  AZ AW 194 #[nx #[I U 6,I U i,ox qq b,N t,F p n c]] w fun e w'=>e=qz (mx (V.ownB 6 i b t n))∧O w.1.size w w':=by
 have A:Y (∀o,O w.1.size w (w.alloc o)):=fun o=>gQz.alloc gQx o;go_enter func194,ntmps194;go_wp2_with (go_at_call 164;refine(cJ _ _).mono ?_;rintro e w1 ⟨rfl,y⟩;rw[y];clear y w1);all_goals go_ret
 all_goals refine⟨?_,A.out _⟩
 all_goals simp_all [V.ownB]
 all_goals first | exact et n | (intros;omega)
theorem ym(i:Int)(b:Nat)(t:ByteArray)(p:OA)(n c:Nat)(w:wv):
  AZ AW 194 #[nx #[I U 7,I U i,ox qq b,N t,F p n c]] w fun e w'=>e=qz (mx (V.ownB 7 i b t n))∧O w.1.size w w':=by
 have A:Y (∀o,O w.1.size w (w.alloc o)):=fun o=>gQz.alloc gQx o;go_enter func194,ntmps194;go_wp2_with (go_at_call 164;refine(cJ _ _).mono ?_;rintro e w1 ⟨rfl,y⟩;rw[y];clear y w1);all_goals go_ret
 all_goals refine⟨?_,A.out _⟩
 all_goals simp_all [V.ownB]
theorem uq(k:Int)(S:k<1∨7<k)(i:Int)(b:Nat)(t:ByteArray)(p:OA)(n c:Nat)(w:wv):
  AZ AW 194 #[nx #[I U k,I U i,ox qq b,N t,F p n c]] w fun e w'=>e=qz (mx (V.ownB k i b t n))∧O w.1.size w w':=by
 have A:Y (∀o,O w.1.size w (w.alloc o)):=fun o=>gQz.alloc gQx o;have D:¬k=1:=by omega
 have E:¬k=2:=by omega
 have J:¬k=3:=by omega
 have K:¬k=4:=by omega
 have L:¬k=5:=by omega
 have M:¬k=6:=by omega
 have Q:¬k=7:=by omega
 go_enter func194,ntmps194;go_wp2_with (go_at_call 164;refine(cJ _ _).mono ?_;rintro e w1 ⟨rfl,y⟩;rw[y];clear y w1);all_goals go_ret
 all_goals refine⟨?_,A.out _⟩
 all_goals simp_all [V.ownB]
 all_goals first | exact et n | (intros;omega)
theorem zw(k i:Int)(b:Nat)(t:ByteArray)(p:OA)(n c:Nat)(w:wv):
  AZ AW 194 #[nx #[I U k,I U i,ox qq b,N t,F p n c]] w fun e w'=>e=qz (mx (V.ownB k i b t n))∧O w.1.size w w':=by
 by_cases o:k<1∨7<k
 ·exact uq k o i b t p n c w
 ·rcases(show k=1∨k=2∨k=3∨k=4∨k=5∨k=6∨k=7 by omega) with rfl | rfl | rfl | rfl | rfl | rfl | rfl
  ·exact yt i b t p n c w
  ·exact yr i b t p n c w
  ·exact yq i b t p n c w
  ·exact yp i b t p n c w
  ·exact yo i b t p n c w
  ·exact yn i b t p n c w
  ·exact ym i b t p n c w
def dY(k:Int)(t:ByteArray)(n:Nat):Nat:=if 1024<t.size then 2 else if 256<n then 3 else if k=4∧dN t=wx then 61 else 0
theorem zE(k i:Int)(b:Nat)(t:ByteArray)(p:OA)(n c:Nat)(w:wv):
  AZ AW 195 #[nx #[I U k,I U i,ox qq b,N t,F p n c]] w fun e w'=>e=qz (I U (dY k t n:Nat))∧O w.1.size w w':=by
 have y:Y (∀K,O w.1.size w (w.alloc K)):=fun K=>gQz.alloc gQx K;by_cases A:1024<t.size
 ·have S:(1024:Int)<(t.size:Int):=by omega
  have o:Y (dY k t n=2):=by show _=_;rw[dY,AK A]
  go_enter func195,ntmps195;go_wp2;go_ret;exact⟨by rw[o.out];rfl,y.out _⟩
 have S:¬(1024:Int)<(t.size:Int):=by omega
 by_cases E:256<n
 ·have V:(256:Int)<(n:Int):=by omega
  have o:Y (dY k t n=3):=by show _=_;rw[dY,AJ A,AK E]
  go_enter func195,ntmps195;go_wp2;go_ret;exact⟨by rw[o.out];rfl,y.out _⟩
 have V:¬(256:Int)<(n:Int):=by omega
 by_cases D:k=4
 ·have Z:(k==4)=true:=dp D;have L:=gQq (fun w=>xB t (by omega) w);obtain⟨r,J⟩:∃r,r=dN t:=⟨_,rfl⟩;rw[<-J] at L;have o:Y (dY k t n=if r=wx then 61 else 0):=by
   show _=_;rw[dY,AJ A,AJ E,<-J];simp only[D,true_and]
  clear J;go_enter func195,ntmps195;go_wp2_with fail;refine(L.out _).mono ?_;rintro e w1 ⟨rfl,M⟩;have Q:=gQq ((y.out _).trans (M.mono (y.out _).size));clear M;cases r
  all_goals
   go_wp2;go_ret;exact⟨by rw[o.out];rfl,Q.out⟩
 ·have Z:(k==4)=false:=bg D;have o:Y (dY k t n=0):=by show _=_;rw[dY,AJ A,AJ E,AJ (fun X=>D X.1)]
  go_enter func195,ntmps195;go_wp2;go_ret;exact⟨by rw[o.out];rfl,y.out _⟩
theorem uL(d:Nat)(k i:Int)(b:Nat)(t:ByteArray)(xs:List V):chk d (.mk k i b t xs)=if 4<d then 62 else if V.ownB k i b t xs.length=wx then 60 else if dY k t xs.length=0 then fz (d+1) xs else dY k t xs.length:=by
 rw[lL];unfold dY;by_cases o:4<d
 ·rw[AK o,AK o]
 rw[AJ o,AJ o];by_cases y:V.ownB k i b t xs.length=wx
 ·rw[AK y,AK y]
 rw[AJ y,AJ y];by_cases A:1024<t.size
 ·rw[AK A,AK A];rfl
 rw[AJ A,AJ A];by_cases D:256<xs.length
 ·rw[AK D,AK D];rfl
 rw[AJ D,AJ D];by_cases E:k=4∧dN t=wx
 ·rw[AK E,AK E];rfl
 rw[AJ E,AJ E,AK rfl]
theorem uM:∀(x:V) (d:Nat) (w:wv) (u:AV),d<=5->aK w u x->AZ AW 174 #[nx u,I U d] w fun e w'=>e=qz (I U (chk d x:Nat))∧O w.1.size w w':=by
 intro x;refine V.ind (P:=fun x=>∀(d:Nat) (w:wv) (u:AV),d<=5->aK w u x->AZ AW 174 #[nx u,I U d] w fun e w'=>e=qz (I U (chk d x:Nat))∧O w.1.size w w') ?_ x;rintro k i b t xs a8 d w u hd bO;obtain⟨p,c,rfl,c7,c6,a6⟩:=bO.open;unfold cells5;have bk:O w.1.size w (w.alloc (qj #[I U k,I U i,ox qq b,N t,F p xs.length c] 102)):=gQy;have Z:=gQq bk;clear bk bO;have y:=gQq (uL d k i b t xs);obtain⟨R,bl⟩:∃R,R=chk d (.mk k i b t xs):=⟨_,rfl⟩;rw[<-bl] at y ⊢;clear bl;by_cases E:4<d
 ·have ci:(4:Int)<(d:Int):=by omega
  have HR:Y (R=62):=by show _=_;rw[y.out,AK E]
  clear a8 a6 y;go_enter func174,ntmps174;go_wp2;go_ret;exact⟨by rw[HR.out];rfl,Z.out⟩
 have ci:¬(4:Int)<(d:Int):=by omega
 have a4:=gQq (zw k i b t p xs.length c (w.alloc (qj #[I U k,I U i,ox qq b,N t,F p xs.length c] 102)));have a2:=gQq (zE k i b t p xs.length c);obtain⟨r,bs⟩:∃r,r=V.ownB k i b t xs.length:=⟨_,rfl⟩;rw[<-bs] at a4 y;clear bs;obtain⟨s,bv⟩:∃s,s=dY k t xs.length:=⟨_,rfl⟩;rw[<-bv] at a2 y;clear bv;have cn:w.1.size<(w.alloc (qj #[I U k,I U i,ox qq b,N t,F p xs.length c] 102)).1.size:=by simp
 have bT:(w.alloc (qj #[I U k,I U i,ox qq b,N t,F p xs.length c] 102)).cell? ⟨w.1.size,0,sw⟩=C (I U k):=by simp
 have bX:(w.alloc (qj #[I U k,I U i,ox qq b,N t,F p xs.length c] 102)).cell? ⟨w.1.size,1,sw⟩=C (I U i):=by simp
 have b0:(w.alloc (qj #[I U k,I U i,ox qq b,N t,F p xs.length c] 102)).cell? ⟨w.1.size,2,sw⟩=C (ox qq b):=by simp
 have b1:(w.alloc (qj #[I U k,I U i,ox qq b,N t,F p xs.length c] 102)).cell? ⟨w.1.size,3,sw⟩=C (N t):=by simp
 have b2:(w.alloc (qj #[I U k,I U i,ox qq b,N t,F p xs.length c] 102)).cell? ⟨w.1.size,4,sw⟩=C (F p xs.length c):=by simp
 have L:=gQq (And.intro bT (And.intro bX (And.intro b0 (And.intro b1 b2))));clear bT bX b0 b1 b2;have b5:Y (∀j (aw:j<xs.length),∃K,aK w K xs[j]∧Item w p j K):=a6;have bj:=gQq a8;clear a8 a6;go_enter func174,ntmps174;go_wp2_with fail;refine a4.out.mono ?_;rintro e cv ⟨rfl,D⟩;have c0:=ae D L.out.1;have c1:=ae D L.out.2.1;have c2:=ae D L.out.2.2.1;have c3:=ae D L.out.2.2.2.1;have c4:=ae D L.out.2.2.2.2;have ab:=gQq (Z.out.trans (D.mono Z.out.size));have cy:w.1.size<cv.1.size:=by have:=D.size;omega
 clear D a4 L Z cn;cases r with
 |false=>
  have HR:Y (R=60):=by show _=_;rw[y.out,AJ E,AK rfl]
  clear y;go_wp2;go_ret;exact⟨by rw[HR.out];rfl,ab.out⟩
 |true=>
  have ak:Y (R=if s=0 then fz (d+1) xs else s):=by show _=_;rw[y.out,AJ E,AJ (by simp)]
  clear y;go_wp2_with fail;refine(a2.out _).mono ?_;rintro e X ⟨rfl,an⟩;have n4:=ae an c4;have be:=gQq (ab.out.trans (an.mono ab.out.size));have c5:w.1.size<X.1.size:=by have:=an.size;omega
  clear an a2 ab c0 c1 c2 c3 c4;by_cases Q:¬s=0
  ·have ck:((s:Int) != 0)=true:=(by rw[bne_iff_ne];omega);have HR:Y (R=s):=(by show _=_;rw[ak.out,AJ Q]);clear ak;go_wp2;go_ret;exact⟨by rw[HR.out];rfl,be.out⟩
  replace Q:s=0:=Classical.not_not.1 Q
  have ck:((s:Int) != 0)=false:=by rw[Q];rfl
  have HR:Y (R=fz (d+1) xs):=by show _=_;rw[ak.out,AK Q]
  clear ak
  -- the items,from any world behind
  have b3:Y (∀j (aw:j<xs.length) w',O w.1.size w w'->∀K,aK w K xs[j]->AZ AW 174 #[nx K,I U ((d+1:Nat):Int)] w' fun e bc=>e=qz (I U (chk (d+1) xs[j]:Nat))∧O w'.1.size w' bc) :=
   fun j aw w' hb K co=>bj.out _ (AL aw) (d+1) w' K (by omega) (co.on hb)
  clear bj;go_wp2_with fail;go_loopw [22] (fun bb wr=>∃j:Nat,j<=xs.length∧bb=I U j∧Y (O X.1.size X wr∧∀m (E:m<xs.length),m<j->chk (d+1) xs[m]=0)) (fun bb _=>xs.length-(intOf bb).toNat);case atStart=>exact⟨0,by omega,rfl,gQz,fun m _ h=>by omega⟩
  case round=>
   obtain⟨j,aw,rfl,A⟩:=hrel;have J:O w.1.size w wr:=be.out.trans (A.out.1.mono (by omega));by_cases a0:j<xs.length
   ·obtain⟨c9,bN,bp⟩:=b5.out j a0;obtain⟨bx,c8,cr,cq,cd,cu,ct,cs,cc,rfl,_,rfl,b6,b7,b8,b9,cb⟩:=(bp.on J).lies;have aj:Y (∀o,O wr.1.size wr (wr.alloc o)):=fun o=>gQz.alloc gQx o;have a1:Y (∀w',O wr.1.size wr w'->AZ AW 174 #[nx #[I U cr,I U cq,ox qq cd,N cu,F ct cs cc],I U ((d+1:Nat):Int)] w' fun e bc=>e=qz (I U (chk (d+1) xs[j]:Nat))∧O w'.1.size w' bc):=fun w' hb=>b3.out j a0 w' (J.trans (hb.mono J.size)) _ bN;have cw:(j:Int)<(xs.length:Int):=(by omega);obtain⟨z,a7⟩:∃z,z=chk (d+1) xs[j]:=⟨_,rfl⟩;rw[<-a7] at a1;have M:=gQq a7;have bi:=gQq J;clear bN bp a7 J;go_wp2_with fail;refine(a1.out _ (aj.out _)).mono ?_;rintro e w4 ⟨rfl,bn⟩;have ah:=gQq ((aj.out _).trans (bn.mono (aj.out _).size));clear bn b6 b7 b8 b9 cb a1 aj;by_cases S:z=0
    ·have cp:((z:Int) != 0)=false:=(by rw[S];rfl);have b4:Y (O X.1.size X w4∧∀m (E:m<xs.length),m<j+1->chk (d+1) xs[m]=0):=by
      refine⟨A.out.1.trans (ah.out.mono A.out.1.size),fun m E bq=>?_⟩;by_cases cj:m=j
      ·subst cj;rw[<-M.out];exact S
      ·exact A.out.2 m E (by omega)
     clear A ah M S;go_wp2;go_roundw;case rel=>exact⟨j+1,by omega,by go_num,b4⟩
     case measure=>simp[intOf];omega
    ·have cp:((z:Int) != 0)=true:=(by rw[bne_iff_ne];omega);have a5:Y (R=z):=by
      show _=_;rw[HR.out,M.out];exact qw (d+1) xs j a0 (fun m h bq=>A.out.2 m h bq) (by rw[<-M.out];exact S)
     have a3:=gQq (bi.out.trans (ah.out.mono bi.out.size));clear A ah M S HR;go_wp2;go_ret;exact⟨by rw[a5.out];rfl,a3.out⟩
   ·have cx:¬(j:Int)<(xs.length:Int):=(by omega);have a5:Y (R=0):=by
     show _=_;rw[HR.out];exact jI (d+1) xs (fun m h=>A.out.2 m h (by omega))
    have a3:=gQq J;clear A J a0 HR;go_wp2;go_ret;exact⟨by rw[a5.out];rfl,a3.out⟩
theorem py(x:V)(w:wv)(u:AV)(h:aK w u x):AZ AW 146 #[nx u] w fun e w'=>e=qz (I U (chk 1 x:Nat))∧O w.1.size w w':=by
 obtain⟨k,i,b,t,xs⟩:=x;obtain⟨p,c,rfl,-⟩:=h.open;have A:O w.1.size w (w.alloc (qj (cells5 k i b t p xs.length c) 102)):=gQy;have o:=gQq A;have y:=gQq (uM _ 1 _ _ (by omega) (h.on A));clear A h;obtain⟨R,D⟩:∃R,R=chk 1 (.mk k i b t xs):=⟨_,rfl⟩;rw[<-D] at y ⊢;clear D;unfold cells5 at y o ⊢;go_enter func146,ntmps146;go_wp2_with fail;refine y.out.mono ?_;rintro e K ⟨rfl,E⟩;have J:=gQq (o.out.trans (E.mono o.out.size));clear E;go_wp2;go_ret;exact⟨rfl,J.out⟩
end
section
open Go.RowKit
attribute [local go_sem] ai
theorem wW:∀(x y:V) (w:wv) (u v:AV),aK w u x->aK w v y->AZ AW 132 #[nx u,nx v] w fun e w'=>e=qz (mx (V.same x y))∧O w.1.size w w':=by
 intro x;refine V.ind (P:=fun x=>∀(y:V) (w:wv) (u v:AV),aK w u x->aK w v y->AZ AW 132 #[nx u,nx v] w fun e w'=>e=qz (mx (V.same x y))∧O w.1.size w w') ?_ x;rintro k i b t xs a2 ⟨k',Z,E,Q,o⟩ w u v df dj;obtain⟨p,c,rfl,e2,e1,a0⟩:=df.open;obtain⟨q,d,rfl,e4,e3,a1⟩:=dj.open;unfold cells5;have cx:O w.1.size w ((w.alloc (qj #[I U k,I U i,ox qq b,N t,F p xs.length c] 102)).alloc (qj #[I U k',I U Z,ox qq E,N Q,F q o.length d] 102)):=gQy.alloc (by simp) _;have ah:=gQq cx;clear cx df dj;by_cases h1:¬k=k'
 ·have d6:=cE h1;have K:Y (V.same (.mk k i b t xs) (.mk k' Z E Q o)=wx):=by show _=_;simp[V.same_mk,h1]
  clear a2 a0 a1 h1;go_enter func132,ntmps132;go_wp2;go_ret;exact⟨by rw[K.out];rfl,ah.out⟩
 replace h1:k=k':=Classical.not_not.1 h1
 have d6:=ca h1;by_cases A:¬i=Z
 ·have d7:=cE A;have K:Y (V.same (.mk k i b t xs) (.mk k' Z E Q o)=wx):=by show _=_;simp[V.same_mk,A]
  clear a2 a0 a1 h1 A;go_enter func132,ntmps132;go_wp2;go_ret;exact⟨by rw[K.out];rfl,ah.out⟩
 replace A:i=Z:=Classical.not_not.1 A
 have d7:=ca A;by_cases X:¬t=Q
 ·have d8:(t.toList==Q.toList)=false:=by rw[iT,AD X]
  have K:Y (V.same (.mk k i b t xs) (.mk k' Z E Q o)=wx):=by show _=_;simp[V.same_mk,X]
  clear a2 a0 a1 h1 A X;go_enter func132,ntmps132;go_wp2;go_ret;exact⟨by rw[K.out];rfl,ah.out⟩
 replace X:t=Q:=Classical.not_not.1 X
 have d8:(t.toList==Q.toList)=true:=by rw[iT,AE X]
 have a4:=gQq (gx b E);by_cases an:¬aG b=aG E
 ·have bX:((aG b:Int)==(aG E:Int))=false:=bg (by omega);rw[bX] at a4;have K:Y (V.same (.mk k i b t xs) (.mk k' Z E Q o)=wx):=by show _=_;simp[V.same_mk,an]
  clear a2 a0 a1 h1 A X an;go_enter func132,ntmps132;go_wp2_with fail;refine(a4.out _).mono ?_;rintro e w1 ⟨rfl,ab⟩;rw[ab];clear ab w1;go_wp2;go_ret;exact⟨by rw[K.out];rfl,ah.out⟩
 replace an:aG b=aG E:=Classical.not_not.1 an
 have bX:((aG b:Int)==(aG E:Int))=true:=dp (by omega);rw[bX] at a4;by_cases a3:¬xs.length=o.length
 ·have d9:((xs.length:Int) != (o.length:Int))=true:=cE (by omega);have K:Y (V.same (.mk k i b t xs) (.mk k' Z E Q o)=wx):=by show _=_;simp[V.same_mk,V.sameL_ne xs o a3]
  clear a2 a0 a1 h1 A X an a3;go_enter func132,ntmps132;go_wp2_with fail;refine(a4.out _).mono ?_;rintro e w1 ⟨rfl,ab⟩;rw[ab];clear ab w1;go_wp2;go_ret;exact⟨by rw[K.out];rfl,ah.out⟩
 replace a3:xs.length=o.length:=Classical.not_not.1 a3
 have d9:((xs.length:Int) != (o.length:Int))=false:=ca (by omega);have K:Y (V.same (.mk k i b t xs) (.mk k' Z E Q o)=V.sameL xs o):=by show _=_;simp[V.same_mk,h1,A,X,an]
 have du:Y (fK w p xs):=a0;have dv:Y (fK w q o):=a1;have dr:=gQq a2;have b7:=gQq a3;clear a2 a0 a1 h1 A X an a3;obtain⟨S,bb⟩:∃S,S=(w.alloc (qj #[I U k,I U i,ox qq b,N t,F p xs.length c] 102)).alloc (qj #[I U k',I U Z,ox qq E,N Q,F q o.length d] 102):=⟨_,rfl⟩;have d0:Y (S.cell? ⟨w.1.size+1,4,sw⟩=C (F q o.length d)):=by show _=_;rw[bb];simp
 have b9:Y (O w.1.size w S):=by rw[bb];exact ah.out
 have cd:=gQq bb;clear ah bb;go_enter func132,ntmps132;go_wp2_with fail;refine(a4.out _).mono ?_;rintro e w1 ⟨rfl,ab⟩;rw[ab];clear ab w1;go_wp2_with fail;rw[<-cd.out];clear cd;go_loopw [44] (fun b6 wr=>∃j:Nat,j<=xs.length∧b6=I U j∧Y (O S.1.size S wr∧∀m (h1:m<xs.length) (A:m<o.length),m<j->V.same xs[m] o[m]=ux)) (fun b6 _=>xs.length-(intOf b6).toNat);case atStart=>exact⟨0,by omega,rfl,gQz,fun m _ _ h=>by omega⟩
 case round=>
  obtain⟨j,ew,rfl,ak⟩:=hrel;have aw:O w.1.size w wr:=b9.out.trans (ak.out.1.mono b9.out.size);by_cases bc:j<xs.length
  ·have c7:j<o.length:=(by have:=b7.out;omega);obtain⟨e6,c8,c5⟩:=du.out j bc;obtain⟨e7,c9,c6⟩:=dv.out j c7;obtain⟨bx,e5,bj,bi,a9,bn,bl,bk,a8,rfl,_,rfl,d1,d2,d3,d4,d5⟩:=(c5.on aw).lies;obtain⟨L,M,b2,b1,bT,b5,b4,b3,bO,rfl,_,rfl,ck,cn,co,cp,cq⟩:=(c6.on aw).lies
   have a7:Y (∀w',O w.1.size w w'->AZ AW 132 #[nx #[I U bj,I U bi,ox qq a9,N bn,F bl bk a8],nx #[I U b2,I U b1,ox qq bT,N b5,F b4 b3 bO]] w' fun e eb=>e=qz (mx (V.same xs[j] o[j]))∧O w'.1.size w' eb) :=
    fun w' hb=>dr.out _ (AL bc) o[j] w' _ _ (c8.on hb) (c9.on hb)
   have bp:=gQq ak.out.2;have ez:(j:Int)<(xs.length:Int):=(by omega);have eC:(j:Int)<(o.length:Int):=(by omega);obtain⟨r,b0⟩:∃r,r=V.same xs[j] o[j]:=⟨_,rfl⟩;rw[<-b0] at a7;have cc:=gQq b0;obtain⟨D,be⟩:∃D,D=wr.alloc (qj #[I U bj,I U bi,ox qq a9,N bn,F bl bk a8] 102):=⟨_,rfl⟩;have aj:Y (O wr.1.size wr D):=(by rw[be];exact gQy);have bs:Y (O w.1.size w D):=aw.trans (aj.out.mono aw.size);have bq:Y (O S.1.size S D):=ak.out.1.trans (aj.out.mono ak.out.1.size);have ci:=gQq be;have cj:Y (D.cell? ⟨w.1.size+1,4,sw⟩=C (F (C ⟨L,M,sw⟩) o.length d)):=ae bq.out d0.out
   have cb:Y (D.cell? ⟨L,M+j*5,sw⟩=C (I U b2)∧D.cell? ⟨L,M+j*5+1,sw⟩=C (I U b1)∧D.cell? ⟨L,M+j*5+2,sw⟩=C (ox qq bT)∧D.cell? ⟨L,M+j*5+3,sw⟩=C (N b5)∧D.cell? ⟨L,M+j*5+4,sw⟩=C (F b4 b3 bO)) :=
    ⟨ae aj.out ck,ae aj.out cn,ae aj.out co,ae aj.out cp,ae aj.out cq⟩
   have b8:Y (D.cell? ⟨wr.1.size,0,sw⟩=C (I U bj)∧D.cell? ⟨wr.1.size,1,sw⟩=C (I U bi)∧D.cell? ⟨wr.1.size,2,sw⟩=C (ox qq a9)∧D.cell? ⟨wr.1.size,3,sw⟩=C (N bn)∧D.cell? ⟨wr.1.size,4,sw⟩=C (F bl bk a8)):=(by rw[be];exact⟨by simp,by simp,by simp,by simp,by simp⟩);clear c8 c9 c5 c6 aw ak b0 be ck cn co cp cq;go_wp2_with fail;rw[<-ci.out];obtain⟨c0,c1,c2,c3,c4⟩:=b8.out;obtain⟨cr,cs,ct,cu,cv⟩:=cb.out;have cw:=cj.out;clear b8 cb cj ci d1 d2 d3 d4 d5
   go_region_held3 (fun w'=>w'.cell? ⟨wr.1.size,0,sw⟩=C (I U bj)∧w'.cell? ⟨wr.1.size,1,sw⟩=C (I U bi)∧w'.cell? ⟨wr.1.size,2,sw⟩=C (ox qq a9)∧w'.cell? ⟨wr.1.size,3,sw⟩=C (N bn)∧w'.cell? ⟨wr.1.size,4,sw⟩=C (F bl bk a8)∧w'.cell? ⟨L,M+j*5,sw⟩=C (I U b2)∧w'.cell? ⟨L,M+j*5+1,sw⟩=C (I U b1)∧w'.cell? ⟨L,M+j*5+2,sw⟩=C (ox qq bT)∧w'.cell? ⟨L,M+j*5+3,sw⟩=C (N b5)∧w'.cell? ⟨L,M+j*5+4,sw⟩=C (F b4 b3 bO)∧w'.cell? ⟨w.1.size+1,4,sw⟩=C (F (C ⟨L,M,sw⟩) o.length d)) (go_keep) (first|(go_at_call 132;refine(a7.out _ (below_drewN bs.out _)).mono ?_;rintro e w4 ⟨rfl,cy⟩;have J:=dZ (w:=D) cy (by rfl) (by rfl) (by rfl) (by rfl);have z3:=ae J c0;have z4:=ae J c1;have en:=ae J c2;have ep:=ae J c3;have eq:=ae J c4;have er:=ae J cr;have ev:=ae J cs;have ec:=ae J ct;have eg:=ae J cu;have el:=ae J cv;have em:=ae J cw;have a6:=gQq J;clear cy J))
   clear z3 z4 en ep eq er ev ec eg el em c0 c1 c2 c3 c4 cr cs ct cu cv cw;cases r with
   |true=>
    have ds:Y (O S.1.size S w4∧∀m (h1:m<xs.length) (A:m<o.length),m<j+1->V.same xs[m] o[m]=ux):=by
     refine⟨bq.out.trans (a6.out.mono bq.out.size),fun m h1 A e0=>?_⟩;by_cases ea:m=j
     ·subst ea;exact cc.out.symm
     ·exact bp.out m h1 A (by omega)
    clear a6 bp a7;go_wp2;go_roundw;case rel=>exact⟨j+1,by omega,by go_num,ds⟩
    case measure=>simp[intOf];omega
   |false=>
    have bN:Y (V.sameL xs o=wx):=V.sameL_at xs o j bc c7 cc.out.symm;have bv:=gQq (bs.out.trans (a6.out.mono bs.out.size));clear a6 bp a7;go_wp2;go_ret;exact⟨by rw[K.out,bN.out];rfl,bv.out⟩
  ·have bN:Y (V.sameL xs o=ux):=V.sameL_all xs o b7.out (fun m h1 A=>ak.out.2 m h1 A (by omega));have bv:=gQq aw;have eL:¬(j:Int)<(xs.length:Int):=(by omega);clear ak aw bc;go_wp2;go_ret;exact⟨by rw[K.out,bN.out];rfl,bv.out⟩
end
end Go.Proofs.YtngmnfdaedlodaaGreatDoor

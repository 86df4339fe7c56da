import Derived.Test.YtngmnfdaedlodaaGreatDoorB07
import Derived.Lib.Zigzag
import Derived.Test.YtngmnfdaedlodaaGreatDoorB08
import Derived.Lib.VarintBits
set_option maxRecDepth 100000
set_option maxHeartbeats 1000000
namespace Go.Proofs.YtngmnfdaedlodaaGreatDoor
open Go.Proofs.Tryz
open Go.Value renaming int->I,slice->F,string->N,float->sq,agg->qx,bool->qz
open Go.IntKind renaming i64->U
open Go.RowKit renaming Hid->Y,Below->O
open Option renaming some->C,none->AY
open Go.Proofs.Tryz renaming prog->AE
open Go.Ending renaming returned->wv
open Go renaming Calls->AB,World->AU
open Go.FloatKind renaming f64->ux
open Bool renaming true->AJ,false->AK
open Go.Obj renaming cells->wx
variable{c pos:Nat}{l:L8}
section
open Go.RowKit
theorem fL(k:IntKind)(x o:Int):bits .xor k x o=bits .xor k o x:=by
 unfold bits;simp only[BitVec.xor_comm]
theorem nX(x:Nat)(h:x<18446744073709551616):bits .xor .u64 (x:Int) 0=x:=by
 have:=bits_xor_u64_nat x 0 (by omega) (by decide);simpa using this
theorem mh(x:Nat)(h:x<9223372036854775808):bits .xor U (x:Int) 0=x:=by
 show IntKind.i64.wrap ((BitVec.ofInt 64 (x:Int) ^^^ BitVec.ofInt 64 0).toNat:Int)=_;have o:(BitVec.ofInt 64 (x:Int)).toNat=x:=by
  rw[BitVec.ofInt_natCast,BitVec.toNat_ofNat];exact Nat.mod_eq_of_lt (by omega)
 have y:(BitVec.ofInt 64 0).toNat=0:=by decide
 rw[BitVec.toNat_xor,o,y,Nat.xor_zero,IntKind.wrap_i64];omega
theorem sM(n:Int)(D:-9223372036854775808<=n)(E:n<=9223372036854775807):
  bits .xor .u64 (IntKind.u64.wrap (IntKind.u64.wrap n*2)) (IntKind.u64.wrap (n / 9223372036854775808))=((Leb.zig n:Nat):Int):=by
 by_cases y:0<=n
 ·have A:IntKind.u64.wrap (IntKind.u64.wrap n*2)=(((2*n).toNat:Nat):Int):=by
   rw[IntKind.wrap_u64,IntKind.wrap_u64];omega
  have o:IntKind.u64.wrap (n / 9223372036854775808)=0:=by
   rw[IntKind.wrap_u64];omega
  rw[A,o,nX _ (by omega)];unfold Leb.zig;rw[AG y];omega
 ·have o:IntKind.u64.wrap (n / 9223372036854775808)=IntKind.u64.max:=by
   have:IntKind.u64.max=18446744073709551615:=(by decide);rw[IntKind.wrap_u64,this];omega
  rw[o,fL,Lib.zigzag_neg D (by omega)];unfold Leb.zig Lib.zigzag;rw[AF y,AF y];omega
theorem pT(n:Int)(o:-9223372036854775808<=n)(y:n<=9223372036854775807)(w:AU):
  AB AE 149 #[I U n] w fun e w'=>e=wv (I .u64 (Leb.zig n:Nat))∧w'=w:=by
 have H:=gQq (sM n o y);go_enter func149,ntmps149;go_wp2;go_ret;exact⟨by rw[<-H.out];rfl,rfl⟩
theorem sP(u:Nat)(h:u<18446744073709551616):
  bits .xor U ((u:Int) / 2) (wrap64 (-wrap64 (bits .and .u64 (u:Int) 1)))=Leb.zag u:=by
 have A:((u:Int) / 2)=((u / 2:Nat):Int):=by omega
 rw[Lib.u64_and1 _ (by omega) (by omega),A];by_cases y:u % 2=0
 ·have o:wrap64 (-wrap64 ((u:Int) % 2))=0:=by
   have:(u:Int) % 2=0:=(by omega);rw[this];simp[wrap64]
  rw[o,mh _ (by omega)];unfold Leb.zag;rw[AG y]
 ·have o:wrap64 (-wrap64 ((u:Int) % 2))=-1:=by
   have:(u:Int) % 2=1:=(by omega);rw[this];simp[wrap64]
  rw[o,fL,Lib.i64_not _ (by omega)];unfold Leb.zag;rw[AF y]
theorem pW(u:Nat)(h:u<18446744073709551616)(w:AU):
  AB AE 179 #[I .u64 u] w fun e w'=>e=wv (I U (Leb.zag u))∧w'=w:=by
 have H:=gQq (sP u h);go_enter func179,ntmps179;go_wp2;go_ret;exact⟨by rw[<-H.out];rfl,rfl⟩
end
section
open Go.RowKit
theorem pO(x:Nat)(h:0<x)(o:x<18446744073709551616):1<=Lib.bitLen x:=by
 rw[Lib.bitLen_half x (by omega) o];omega
theorem l7(x:Nat)(h:x<128):Lib.bitLen x<=7:=Lib.bitLenAux_le 64 x 7 h
theorem pP(x:Nat)(h:0<x)(o:x<18446744073709551616):Lib.bitLen (x / 2*2+1)=Lib.bitLen x:=by
 rw[Lib.bitLen_half x (by omega) o,Lib.bitLen_half (x / 2*2+1) (by omega) (by omega)];congr 2;omega
theorem ri(f:Nat):∀n:Nat,n<2*128 ^ f->n<18446744073709551616->(Leb.putF (f+1) n).length=(Lib.bitLen (n / 2*2+1)+6) / 7:=by
 induction f with
 |zero=>
  intro n h _;have E:n<2:=by simpa using h
  have e:n / 2*2+1=1:=by omega
  rw[e,Leb.putF,AG (by omega)];rfl
 |succ f ih=>
  intro n h J;by_cases A:n<128
  ·have y:=l7 (n / 2*2+1) (by omega);have E:=pO (n / 2*2+1) (by omega) (by omega);rw[Leb.putF,AG A,AO];omega
  ·have y:n / 128<2*128 ^ f:=by
    rw[Nat.pow_succ] at h;rw[Nat.div_lt_iff_lt_mul (by omega)];omega
   have o:=Lib.bitLen_shift 7 (n / 2*2+1) (by omega) (by omega);have D:(n / 2*2+1) / 2 ^ 7=n / 128:=(by omega);rw[D] at o;rw[Leb.putF,AF A,AI,ih (n / 128) y (by omega),pP (n / 128) (by omega) (by omega),o];omega
theorem tu(n:Nat)(o:n<18446744073709551616):(Leb.put n).length=(Lib.bitLen (n / 2*2+1)+6) / 7:=by
 have e:2*128 ^ 9=18446744073709551616:=by decide
 exact ri 9 n (by rw[e];exact o) o
theorem vZ(n:Nat)(h:n<18446744073709551616):bits .or .u64 (n:Int) 1=((n / 2*2+1:Nat):Int):=by
 have o:=(bits_nat .u64 64 (by decide) wraps_u64 n 1 (by omega) (by decide)).2;have e:((1:Nat):Int)=1:=rfl;rw[e] at o;rw[o];congr 1;apply Nat.eq_of_testBit_eq;intro i;rw[Nat.testBit_or];cases i with
 |zero=>simp
 |succ i=>
  rw[Nat.testBit_succ,Nat.testBit_succ,Nat.testBit_succ];have y:(n / 2*2+1) / 2=n / 2:=by omega
  rw[y];simp
theorem wg(n:Nat)(A:n<18446744073709551616)(w:AU):
  AB AE 114 #[I .u64 n] w fun e w'=>e=wv (I U ((Leb.put n).length:Nat))∧w'=w:=by
 have o:=gQq (rE (n / 2*2+1) (by omega) w);have y:=gQq (tu n A);have E:=gQq (vZ n A);have J:Lib.bitLen (n / 2*2+1)<=64:=Lib.bitLenAux_le 64 _ 64 (by omega);generalize Lib.bitLen (n / 2*2+1)=k at o y J;go_enter func114,ntmps114;go_wp2_with fail;rw[E.out];refine o.out.mono ?_;rintro e w' ⟨rfl,D⟩;rw[D];clear D w';go_wp2;go_ret;exact⟨by rw[y.out];go_num,rfl⟩
def Leb.judge(k c:Nat):Nat:=if k<10∧128<=c then 30 else if k=10∧1<c then 5 else if 1<k∧c=0 then 5 else 0
theorem kK(k c:Nat)(S:k<=10)(Q:c<256)(w:AU):
  AB AE 166 #[I U k,I .u8 c] w fun e w'=>e=wv (I U (Leb.judge k c:Nat))∧w'=w:=by
 have H:Y (∀j:Nat,Leb.judge k c=j->Leb.judge k c=j):=fun _ h=>h;by_cases o:k<10∧128<=c
 ·have e:Leb.judge k c=30:=by unfold Leb.judge;rw[AG o]
  rw[e];have J:decide ((k:Int)<10)=true:=AR (by omega);have D:decide ((128:Int)<=(c:Int))=true:=AR (by omega);clear e;go_enter func166,ntmps166;go_wp2;go_ret;exact⟨rfl,rfl⟩
 ·by_cases y:k=10∧1<c
  ·have e:Leb.judge k c=5:=(by unfold Leb.judge;rw[AF o,AG y]);rw[e];obtain⟨rfl,y⟩:=y;have D:decide ((1:Int)<(c:Int))=true:=AR (by omega);clear e o;go_enter func166,ntmps166;go_wp2;go_ret;exact⟨rfl,rfl⟩
  ·by_cases A:1<k∧c=0
   ·have e:Leb.judge k c=5:=(by unfold Leb.judge;rw[AF o,AF y,AG A]);rw[e];obtain⟨A,rfl⟩:=A;clear e o y;by_cases E:k=10
    ·subst E;go_enter func166,ntmps166;go_wp2;go_ret;exact⟨rfl,rfl⟩
    ·have J:(k:Int)<10:=(by omega);have D:((k:Int)==10)=false:=(by rw[BQ];omega);have K:(1:Int)<(k:Int):=(by omega);go_enter func166,ntmps166;go_wp2;go_ret;exact⟨rfl,rfl⟩
   ·have e:Leb.judge k c=0:=(by unfold Leb.judge;rw[AF o,AF y,AF A]);rw[e];clear e;by_cases E:k=10
    ·subst E;have D:¬(1:Int)<(c:Int):=(by omega);have K:((c:Int)==0)=false:=(by rw[BQ];omega);clear o y A;go_enter func166,ntmps166;go_wp2;go_ret;exact⟨rfl,rfl⟩
    ·have J:(k:Int)<10:=(by omega);have D:((k:Int)==10)=false:=(by rw[BQ];omega);have K:¬(128:Int)<=(c:Int):=(by omega);by_cases V:1<k
     ·have L:(1:Int)<(k:Int):=(by omega);have M:((c:Int)==0)=false:=(by rw[BQ];omega);clear o y A;go_enter func166,ntmps166;go_wp2;go_ret;exact⟨rfl,rfl⟩
     ·have L:¬(1:Int)<(k:Int):=(by omega);clear o y A;go_enter func166,ntmps166;go_wp2;go_ret;exact⟨rfl,rfl⟩
end
section
open Go.RowKit
theorem rA(w:AU)(c:Nat)(M:c<=1000000):∃w',(Instr.makeSlice 40 (I U 0) (I U (c:Int))).run AE w=.ok (F (C ⟨w.1.size,0,AY⟩) 0 c) w'∧br w' w.1.size w.1.size c []∧O w.1.size w w':=by
 obtain⟨i,E,L,K,D⟩:=info_parts iI;obtain⟨w',o,y,A⟩:=run_make_own (P:=AE) w w.1.size 40 5 i (I .u8 0) 1 underlying40 E L K U U c (by rw[D];omega) (by unfold maxLen;omega) gQx;exact⟨w',o,y,gQz.grown A gQx (fun k J=>by cases J)⟩
theorem oJ(m:Nat):bits .or .u8 ((m:Int) % 256) 128=((m % 128+128:Nat):Int):=by
 rw[Lib.u8_or128_any _ (by omega) (by omega)];omega
theorem dA(n:Nat)(J:n<18446744073709551616)(w:AU):
  AB AE 86 #[I .u64 n] w fun e w'=>∃g cap,e=wv (F (C ⟨g,0,AY⟩) (Leb.put n).length cap)∧br w' w.1.size g cap (Leb.put n)∧O w.1.size w w':=by
 have ah:=gQq (Leb.putting_start J);have D:=gQq (wg n J w);have aj:=Leb.put_length_le n;obtain⟨k,S⟩:∃k,k=(Leb.put n).length:=⟨_,rfl⟩;rw[<-S] at D aj;clear S;obtain⟨w1,a1,V,Q⟩:=rA w k (by omega);have ab:=gQq V;have Z:=gQq Q;clear V Q;go_enter func86,ntmps86;go_wp2_with fail;refine D.out.mono ?_;rintro e w' ⟨rfl,X⟩;rw[X];clear X w' D;go_wp2;go_loopw [0,3] (fun K aw wr=>∃(m:Nat) (xs:L8),K=I .u64 m∧m<18446744073709551616∧xs.length<=9∧Y (Leb.Putting n xs m∧Has wr w.1.size aw xs∧O w.1.size w wr)) (fun K _ _=>(intOf K).toNat);case atStart=>exact⟨n,[],rfl,J,by simp,ah.out,ab.out.has,Z.out⟩
 case round=>
  obtain⟨m,xs,rfl,a0,a2,y⟩:=hrel;have M:=y.out.2.2.size;have L:=gQq y.out.2.1;by_cases ai:127<m
  ·have A:=Leb.byte_high m;have o:=gQq (Leb.putting_next y.out.1 ai);generalize UInt8.ofNat (m % 128+128)=c at A o;have ak:bits .or .u8 ((m:Int) % 256) 128=(c.toNat:Int):=(by rw[oJ,A]);go_wp2_with (at_builtin;refine gk L.out c (by omega) M (by first | exact ak | omega | (rw[A];omega)) rfl rfl rfl rfl rfl ?_;intro g cap W E hb);go_roundw;case rel=>exact⟨m / 128,xs++[c],by go_num,by omega,by have:=o.out.1;exact this,o.out,by have:=E.has;simpa using this,y.out.2.2.trans hb⟩
   case measure=>simp[intOf];omega
  ·have A:=Leb.byte_low m (by omega);have o:=gQq (Leb.putting_last y.out.1 (by omega));generalize UInt8.ofNat m=c at A o;go_wp2_with (at_builtin;refine gk L.out c (by omega) M (by omega) rfl rfl rfl rfl rfl ?_;intro g cap W E hb);go_ret;refine⟨g,cap,?_,?_,y.out.2.2.trans hb⟩
   ·rw[<-o.out];simp
   ·rw[<-o.out];exact E
end
section
open Go.RowKit
theorem wE(p:OA)(c n:Nat)(a:Int)(h:a<0∨(n:Int)<a)(w:AU):
  AB AE 134 #[F p n c,I U a] w fun e w'=>e=wv (.tuple #[I .u64 0,I U 0,I U 30])∧w'=w:=by
 by_cases o:a<0
 ·go_enter func134,ntmps134;go_wp2
  go_step3
  go_wp2;try rw[Exit.noGoto_ret]
  go_ret3
  exact⟨rfl,rfl⟩
 ·have y:(n:Int)<a:=by omega
  have A:decide (a<0)=false:=AP o;go_enter func134,ntmps134;go_wp2
  go_step3
  go_wp2;try rw[Exit.noGoto_ret]
  go_ret3
  exact⟨rfl,rfl⟩
theorem wF(p:OA)(c n:Nat)(w:AU):
  AB AE 134 #[F p n c,I U n] w fun e w'=>e=wv (.tuple #[I .u64 0,I U 0,I U 30])∧w'=w:=by
 have y:=gQq (kK 0 128 (by decide) (by decide) w);have K:Leb.judge 0 128=30:=by decide
 rw[K] at y;clear K;cases p with
 |none=>
  go_enter func134,ntmps134;go_wp2_with fail
  go_step3
  go_wp2_with fail
  go_step3
  go_wp2_with fail;go_loop [7,8,9,25] (fun D E J A=>D=I .u64 0∧E=I U 0∧J=I .u8 128∧A=I U 0) (fun _ _ _ _=>0);case atStart=>exact⟨rfl,rfl,rfl,rfl⟩
  case round=>
   obtain⟨rfl,rfl,rfl,rfl⟩:=hrel;go_wp2_with fail;refine y.out.mono ?_;rintro e w' ⟨rfl,o⟩;rw[o];clear o w';go_wp2;try rw[Exit.noGoto_ret]
   go_ret3
   exact⟨rfl,rfl⟩
 |some p=>
  by_cases h:c=n
  all_goals
   go_enter func134,ntmps134;go_wp2_with fail
   go_step3
   go_wp2_with fail
   go_step3
   go_wp2_with fail;go_loop [7,8,9,25] (fun D E J A=>D=I .u64 0∧E=I U 0∧J=I .u8 128∧A=I U 0) (fun _ _ _ _=>0);case atStart=>exact⟨rfl,rfl,rfl,rfl⟩
   case round=>
    obtain⟨rfl,rfl,rfl,rfl⟩:=hrel;go_wp2_with fail;refine y.out.mono ?_;rintro e w' ⟨rfl,o⟩;rw[o];clear o w';go_wp2;try rw[Exit.noGoto_ret]
    go_ret3
    exact⟨rfl,rfl⟩
theorem kq:∀v:Fin 256,bits .andNot .u8 (v.val:Int) 128=((v.val % 128:Nat):Int):=by decide +kernel
theorem sI(v:Nat)(h:v<256):bits .andNot .u8 (v:Int) 128=((v % 128:Nat):Int):=kq ⟨v,h⟩
theorem tD(m x k:Nat)(o:m<128 ^ k)(E:x*128 ^ k<18446744073709551616)(D:m<18446744073709551616):bits .or .u64 (m:Int) (IntKind.u64.wrap ((x:Int)*2 ^ (7*k)))=((m+x*128 ^ k:Nat):Int):=by
 have e:(2:Nat) ^ (7*k)=128 ^ k:=by rw[Nat.pow_mul]
 have y:((x:Int)*2 ^ (7*k))=((x*128 ^ k:Nat):Int):=by
  rw[<-e];push_cast;rfl
 have A:IntKind.u64.wrap (((x*128 ^ k:Nat):Int))=((x*128 ^ k:Nat):Int):=by
  rw[IntKind.wrap_u64];omega
 rw[y,A,bits_join_low .u64 64 (by decide) wraps_u64 (7*k) (m:Int) _ (by omega) (by rw[<-e] at o;exact_mod_cast o) (by omega) (by omega) (by rw[<-e];push_cast;exact Int.mul_emod_left _ _) (by omega)];omega
theorem kG(m v k:Nat)(o:m<128 ^ k)(y:m+v % 128*128 ^ k<18446744073709551616):bits .or .u64 (m:Int) (IntKind.u64.wrap ((v:Int) % 128*2 ^ (7*k)))=((m+v % 128*128 ^ k:Nat):Int):=by
 have e:((v:Int) % 128)=((v % 128:Nat):Int):=by omega
 rw[e];exact tD m (v % 128) k o (by omega) (by omega)
theorem fG(r:L8)(k:Nat)(h:k<r.length):Leb.val (r.take (k+1))=Leb.val (r.take k)+r[k].toNat % 128*128 ^ k:=by
 induction r generalizing k with
 |nil=>simp at h
 |cons c r ih=>
  cases k with
  |zero=>simp[Leb.val]
  |succ k=>
   have:=ih k (by simpa using h);simp only[List.take_succ_cons,Leb.val,List.getElem_cons_succ,this,Nat.pow_succ];rw[Nat.add_mul,Nat.mul_assoc];omega
theorem eS(r:L8)(k:Nat):Leb.val (r.take k)<128 ^ k:=by
 induction k generalizing r with
 |zero=>simp[Leb.val]
 |succ k ih=>
  cases r with
  |nil=>simp only[List.take_nil,Leb.val];exact Nat.pow_pos (by omega)
  |cons c r=>
   have:=ih r;simp only[List.take_succ_cons,Leb.val,Nat.pow_succ];omega
theorem yz(b o c a:Nat)(l:L8)(b5:l.length<=140737488351232)(b6:l.length<=c)(b2:a<l.length)(w:AU)(be:cT w b o l):
  AB AE 134 #[F (C ⟨b,o,AY⟩) l.length c,I U a] w fun e w'=>e=wv (ik l a)∧w'=w:=by
 obtain⟨r,aw⟩:∃r,r=l.drop a:=⟨_,rfl⟩;have a6:r.length=l.length-a:=by rw[aw,AL]
 have V:Y (∀j (h:j<r.length),w.cell? ⟨b,o+a+j,AY⟩=C (I .u8 (r[j].toNat:Int))):=by
  intro j h;have:=be (a+j) (by omega);rw[Nat.add_assoc,this];subst aw;rw[List.getElem_drop]
 have J:Y (∀e n k,Leb.get r=⟨e,n,k⟩->Leb.get (l.drop a)=⟨e,n,k⟩):=by
  intro e n k h;rw[<-aw];exact h
 have b3:¬c=a:=by omega
 have L:Y (∀k v:Nat,k<=10->v<256->AB AE 166 #[I U k,I .u8 v] w fun e w'=>e=wv (I U (Leb.judge k v:Nat))∧w'=w):=fun k v X Q=>kK k v X Q w;clear be aw;go_enter func134,ntmps134;go_wp2_with fail
 go_step3
 go_wp2_with fail
 go_step3
 go_wp2_with fail;go_loop [7,8,9,25] (fun bT a9 bX bO=>∃k m v:Nat,k<=9∧k<=r.length∧bT=I .u64 m∧a9=I U k∧bX=I .u8 v∧bO=I U k∧127<v∧v<256∧m<18446744073709551616∧Y (m=Leb.val (r.take k)∧∀j (h:j<r.length),j<k->127<r[j].toNat)) (fun _ a9 _ _=>10-(intOf a9).toNat);case atStart=>exact⟨0,0,128,by omega,by omega,rfl,rfl,rfl,rfl,by omega,by omega,by omega,rfl,fun j h b0=>by omega⟩
 case round=>
  obtain⟨k,m,v,b4,bi,rfl,rfl,rfl,rfl,b9,bN,b8,y⟩:=hrel;by_cases a2:k=r.length
  ·have ab:=Leb.high_eq 10 r k (by omega) (by omega) y.out.2 (.inr (.inl a2));have K:=gQq (gG l a 30 (by omega) (J.out _ _ _ ((Leb.getF_high 10 AJ r).2.1 (by rw[ab];exact a2) (by omega))));have hj:Leb.judge k v=30:=(by unfold Leb.judge;rw[AG ⟨by omega,by omega⟩]);have A:=gQq (L.out k v (by omega) bN);rw[hj] at A;have bq:¬k<l.length-a:=(by omega);clear y ab hj V J L a2 a6 bi;go_wp2_with fail;refine A.out.mono ?_;rintro e w' ⟨rfl,D⟩;rw[D];clear D w';go_wp2;try rw[Exit.noGoto_ret]
   go_ret3
   exact⟨by rw[K.out];rfl,rfl⟩
  ·have ak:k<r.length:=(by omega);have bs:=V.out k ak;have ah:r[k].toNat<256:=r[k].toNat_lt;have bq:k<l.length-a:=(by omega);have bp:=sI r[k].toNat ah;obtain⟨v',a7⟩:∃v',v'=r[k].toNat:=⟨_,rfl⟩;rw[<-a7] at bs ah bp;have M:=gQq a7;have a1:=gQq a6;clear a7 a6;by_cases ai:127<v'
   ·have a0:Y (∀j (h:j<r.length),j<k+1->127<r[j].toNat):=by
     intro j h hj;by_cases e:j=k
     ·subst e;rw[<-M.out];exact ai
     ·exact y.out.2 j h (by omega)
    by_cases bc:k=9
    ·have K:=gQq (gG l a 5 (by omega) (J.out _ _ _ ((Leb.getF_high 10 AJ r).1 (Leb.high_eq 10 r 10 (by omega) (by omega) (fun j h hj=>a0.out j h (by omega)) (.inl rfl)))));have hj:Leb.judge 10 v'=5:=(by unfold Leb.judge;rw[AF (by omega),AG ⟨rfl,by omega⟩]);have A:=gQq (L.out 10 v' (by omega) ah);rw[hj] at A;clear y a0 V J L M a1 hj;subst bc;go_wp2_with fail;refine A.out.mono ?_;rintro e w' ⟨rfl,D⟩;rw[D];clear D w';go_wp2;try rw[Exit.noGoto_ret]
     go_ret3
     exact⟨by rw[K.out];rfl,rfl⟩
    ·have b1:((k:Int)+1==10)=false:=(by rw[BQ];omega);have aj:k<=8:=(by omega);have S:=fG r k ak;rw[<-M.out,<-y.out.1] at S;have bv:(128:Nat) ^ (k+1)<=128 ^ 9:=Nat.pow_le_pow_right (by omega) (by omega);have bl:(128:Nat) ^ 9=9223372036854775808:=(by decide);have bj:=eS r (k+1);rw[S] at bj;have a3:m+v' % 128*128 ^ k<18446744073709551616:=(by omega);have a5:=kG m v' k (by rw[y.out.1];exact eS r k) a3;have bb:Y (m+v' % 128*128 ^ k=Leb.val (r.take (k+1))):=S.symm;clear bc S bv bl bj V J L y;generalize m+v' % 128*128 ^ k=bk at a5 bb a3;go_wp2_with fail;go_round;case rel=>exact⟨k+1,bk,v',by omega,by omega,rfl,by go_num,rfl,by go_num,ai,ah,a3,bb.out,a0.out⟩
     case measure=>simp[intOf];omega
   ·have ab:=Leb.high_eq 10 r k (by omega) bi y.out.2 (.inr (.inr ⟨ak,by rw[<-M.out];exact ai⟩));have E:=(Leb.getF_high 10 AJ r).2.2 (by omega) (by omega);simp only[ab] at E;rw[<-M.out] at E;have b7:v'<128:=(by omega);by_cases Z:(k+1=10∧1<v')∨((AJ=AK∨0<k)∧v'=0)
    ·rw[AG Z] at E;have K:=gQq (gG l a 5 (by omega) (J.out _ _ _ E));have hj:Leb.judge (k+1) v'=5:=by
      unfold Leb.judge;rw[AF (by omega)];by_cases X:k+1=10∧1<v'
      ·rw[AG X]
      ·rcases Z with Q | ⟨Q | Q,bn⟩
       ·exact absurd Q X
       ·cases Q
       ·rw[AF X,AG ⟨by omega,bn⟩]
     have A:=gQq (L.out (k+1) v' (by omega) ah);rw[hj] at A;clear y V J L M a1 hj E ab Z ai;go_wp2_with fail;refine A.out.mono ?_;rintro e w' ⟨rfl,D⟩;rw[D];clear D w';go_wp2;try rw[Exit.noGoto_ret]
     go_ret3
     exact⟨by rw[K.out];rfl,rfl⟩
    ·rw[AF Z] at E;have a4:=Leb.get_ok r (by rw[show Leb.get r=_ from E]);rw[show Leb.get r=_ from E] at a4;have aj:Leb.val (r.take (k+1))<18446744073709551616:=a4.1;have S:=fG r k ak;rw[<-M.out,<-y.out.1] at S;have K:=gQq (qB l a _ _ (J.out _ _ _ E));rw[S] at K aj;have a5:=kG m v' k (by rw[y.out.1];exact eS r k) aj;have hj:Leb.judge (k+1) v'=0:=by
      unfold Leb.judge;rw[AF (by omega),AF (by omega),AF];rintro⟨X,Q⟩;exact Z (.inr ⟨.inr (by omega),Q⟩)
     have A:=gQq (L.out (k+1) v' (by omega) ah);rw[hj] at A;clear y V J L M a1 hj E ab Z ai a4 S;generalize m+v' % 128*128 ^ k=bk at a5 K aj;go_wp2_with fail;refine A.out.mono ?_;rintro e w' ⟨rfl,D⟩;rw[D];clear D w';go_wp2;try rw[Exit.noGoto_ret]
     go_ret3
     exact⟨by rw[K.out] <;> go_num,rfl⟩
theorem lJ(p:OA)(c:Nat)(l:L8)(a:Int)(D:l.length<=140737488351232)(E:l.length<=c)(w:AU)(h:At w p l):
  AB AE 134 #[F p l.length c,I U a] w fun e w'=>e=wv (ik l a)∧w'=w:=by
 by_cases o:a<0∨(l.length:Int)<a
 ·rw[jA l a (by omega)];exact wE p c l.length a o w
 ·obtain⟨n,rfl⟩:∃n:Nat,a=(n:Int):=⟨a.toNat,by omega⟩;by_cases y:n=l.length
  ·rw[jA l n (by omega),y];exact wF p c l.length w
  ·obtain⟨b,J,rfl,_,A⟩:=aP h (by omega);exact yz b J c n l D E (by omega) w A
end
section
open Go
theorem cD{s:ByteArray}{k:Nat}(A:s.data.toList.drop pos=l)(y:k<l.length):pos+k<s.size∧s.get! (pos+k)=l[k]:=by
 subst A;have o:pos+k<s.size:=by
  rw[AL,Array.length_toList] at y;show pos+k<s.data.size;omega
 refine⟨o,?_⟩;rw[List.getElem_drop,Array.getElem_toList];exact get_at s (pos+k) o
theorem qQ{s:ByteArray}(o:s.data.toList.drop pos=l)(y:pos<=s.size):s.size=pos+l.length:=by
 subst o;rw[AL,Array.length_toList];show s.data.size=_;have:pos<=s.data.size:=y;omega
theorem lO(s:ByteArray)(i:Nat):Utf8.decode s i=(let at' (k:Nat):Nat:=(s.get! (i+k)).toNat
 let ed (k:Nat):Bool:=i+k<s.size&&at' k / 64==2
 let b0:=at' 0
 if b0<0x80 then (b0,1)
 else if b0 / 32==6&&ed 1 then
  let c:=(b0 % 32)*64+at' 1 % 64
  if c≥0x80 then (c,2) else (Utf8.runeError,1)
 else if b0 / 16==14&&ed 1&&ed 2 then
  let c:=(b0 % 16)*4096+(at' 1 % 64)*64+at' 2 % 64
  if c≥0x800&&Utf8.valid c then (c,3) else (Utf8.runeError,1)
 else if b0 / 8==30&&ed 1&&ed 2&&ed 3 then
  let c:=(b0 % 8)*262144+(at' 1 % 64)*4096+(at' 2 % 64)*64+at' 3 % 64
  if c≥0x10000&&Utf8.valid c then (c,4) else (Utf8.runeError,1)
 else (Utf8.runeError,1)):=rfl
theorem gV(c least:Nat):(Utf8.valid c&&decide (least<=c))=U8.may least c:=by
 unfold Utf8.valid U8.may;rw[Bool.eq_iff_iff];simp only[Bool.and_eq_true,Bool.or_eq_true,decide_eq_true_eq,Bool.not_eq_true',Bool.and_eq_false_iff,decide_eq_false_iff_not];omega
def dec:L8->Nat×Nat
 | []=>(65533,1)
 |c0::r=>
  if c0.toNat<128 then (c0.toNat,1)
  else match r with
   | []=>(65533,1)
   |c1::r1=>
    if 192<=c0.toNat∧c0.toNat<224 then (if (128<=c1.toNat∧c1.toNat<192)∧128<=(c0.toNat-192)*64+c1.toNat-128 then ((c0.toNat-192)*64+c1.toNat-128,2) else (65533,1))
    else match r1 with
     | []=>(65533,1)
     |c2::r2=>
      if 224<=c0.toNat∧c0.toNat<240 then (if (128<=c1.toNat∧c1.toNat<192)∧(128<=c2.toNat∧c2.toNat<192)∧U8.may 2048 (((c0.toNat-224)*64+c1.toNat-128)*64+c2.toNat-128) then (((c0.toNat-224)*64+c1.toNat-128)*64+c2.toNat-128,3) else (65533,1))
      else match r2 with
       | []=>(65533,1)
       |c3::_=>
        if 240<=c0.toNat∧c0.toNat<248 then (if (128<=c1.toNat∧c1.toNat<192)∧(128<=c2.toNat∧c2.toNat<192)∧(128<=c3.toNat∧c3.toNat<192)∧U8.may 65536 ((((c0.toNat-240)*64+c1.toNat-128)*64+c2.toNat-128)*64+c3.toNat-128) then ((((c0.toNat-240)*64+c1.toNat-128)*64+c2.toNat-128)*64+c3.toNat-128,4) else (65533,1))
        else (65533,1)
theorem tW(c:UInt8):(c.toNat / 32==6)=decide (192<=c.toNat∧c.toNat<224):=by rw[Bool.eq_iff_iff];simp;omega
theorem xw(c:UInt8):(c.toNat / 16==14)=decide (224<=c.toNat∧c.toNat<240):=by rw[Bool.eq_iff_iff];simp;omega
theorem zz(c:UInt8):(c.toNat / 8==30)=decide (240<=c.toNat∧c.toNat<248):=by rw[Bool.eq_iff_iff];simp;omega
theorem follows(c:UInt8):(c.toNat / 64==2)=decide (128<=c.toNat∧c.toNat<192):=by rw[Bool.eq_iff_iff];simp;omega
theorem jI{s:ByteArray}(E:s.data.toList.drop pos=l)(ak:pos<s.size):Utf8.decode s pos=dec l:=by
 have J:=qQ E (Nat.le_of_lt ak);have ah:Utf8.runeError=65533:=rfl;match l,E,J with
 | [],_,h=>simp at h;omega
 | [c0],E,J=>
  have L:=(cD E (k:=0) (by simp)).2;have X:decide (pos+1<s.size)=false:=AP (by simp at J;omega);have Z:decide (pos+2<s.size)=false:=AP (by simp at J;omega);have ai:decide (pos+3<s.size)=false:=AP (by simp at J;omega);simp only[List.getElem_cons_zero] at L;rw[lO];simp only[L,X,Bool.false_and,Bool.and_false,Bool.false_eq_true,if_false,ah];unfold dec;rfl
 | [c0,c1],E,J=>
  have L:=(cD E (k:=0) (by simp)).2;have Q:=(cD E (k:=1) (by simp)).2;have X:decide (pos+1<s.size)=true:=AR (by simp at J;omega);have Z:decide (pos+2<s.size)=false:=AP (by simp at J;omega);simp only[List.getElem_cons_zero,List.getElem_cons_succ] at L Q;rw[lO];simp only[L,Q,X,Z,Bool.false_and,Bool.and_false,Bool.true_and,Bool.false_eq_true,if_false,ah,tW,follows];simp only[dec];by_cases K:c0.toNat<128
  ·rw[AG K,AG K]
  ·rw[AF K,AF K];by_cases D:192<=c0.toNat∧c0.toNat<224
   ·by_cases y:128<=c1.toNat∧c1.toNat<192
    ·rw[AG (by simp[D,y]),AG D];have e:c0.toNat % 32*64+c1.toNat % 64=(c0.toNat-192)*64+c1.toNat-128:=(by omega);rw[e];by_cases A:128<=(c0.toNat-192)*64+c1.toNat-128
     ·rw[AG A,AG ⟨y,A⟩]
     ·rw[AF A,AF (fun o=>A o.2)]
    ·rw[AF (by simp[y]),AG D,AF (fun o=>y o.1)]
   ·rw[AF (by simp[D]),AF D]
 | [c0,c1,c2],E,J=>
  have L:=(cD E (k:=0) (by simp)).2;have Q:=(cD E (k:=1) (by simp)).2;have ab:=(cD E (k:=2) (by simp)).2;have X:decide (pos+1<s.size)=true:=AR (by simp at J;omega);have Z:decide (pos+2<s.size)=true:=AR (by simp at J;omega);have ai:decide (pos+3<s.size)=false:=AP (by simp at J;omega);simp only[List.getElem_cons_zero,List.getElem_cons_succ] at L Q ab;rw[lO];simp only[L,Q,ab,X,Z,ai,Bool.false_and,Bool.and_false,Bool.true_and,Bool.false_eq_true,if_false,ah,tW,xw,follows];simp only[dec];by_cases K:c0.toNat<128
  ·rw[AG K,AG K]
  ·rw[AF K,AF K];by_cases D:192<=c0.toNat∧c0.toNat<224
   ·by_cases y:128<=c1.toNat∧c1.toNat<192
    ·rw[AG (by simp[D,y]),AG D];have e:c0.toNat % 32*64+c1.toNat % 64=(c0.toNat-192)*64+c1.toNat-128:=(by omega);rw[e];by_cases A:128<=(c0.toNat-192)*64+c1.toNat-128
     ·rw[AG A,AG ⟨y,A⟩]
     ·rw[AF A,AF (fun o=>A o.2)]
    ·rw[AF (by simp[y]),AF (by simp[y]),AG D,AF (fun o=>y o.1)]
   ·rw[AF (by simp[D]),AF D];by_cases M:224<=c0.toNat∧c0.toNat<240
    ·rw[AG M];by_cases y:(128<=c1.toNat∧c1.toNat<192)∧128<=c2.toNat∧c2.toNat<192
     ·rw[AG (by simp[M,y])];have e:c0.toNat % 16*4096+c1.toNat % 64*64+c2.toNat % 64=((c0.toNat-224)*64+c1.toNat-128)*64+c2.toNat-128:=(by omega);rw[e];have V:=gV (((c0.toNat-224)*64+c1.toNat-128)*64+c2.toNat-128) 2048;by_cases A:U8.may 2048 (((c0.toNat-224)*64+c1.toNat-128)*64+c2.toNat-128)=AJ
      ·rw[AG (by rw[Bool.and_comm,<-A];exact V),AG ⟨y.1,y.2,A⟩]
      ·rw[AF (by rw[Bool.and_comm];exact fun o=>A (V.symm.trans o)),AF (fun o=>A o.2.2)]
     ·rw[AF (by simp only[Bool.and_eq_true,decide_eq_true_eq];exact fun o=>y ⟨o.1.2,o.2⟩),AF (fun o=>y ⟨o.1,o.2.1⟩)]
    ·rw[AF (by simp[M]),AF M]
 |c0::c1::c2::c3::t,E,J=>
  have L:=(cD E (k:=0) (by simp)).2;have Q:=(cD E (k:=1) (by simp)).2;have ab:=(cD E (k:=2) (by simp)).2;have aj:=(cD E (k:=3) (by simp)).2;have X:decide (pos+1<s.size)=true:=AR (by simp at J;omega);have Z:decide (pos+2<s.size)=true:=AR (by simp at J;omega);have ai:decide (pos+3<s.size)=true:=AR (by simp at J;omega);simp only[List.getElem_cons_zero,List.getElem_cons_succ] at L Q ab aj;rw[lO];simp only[L,Q,ab,aj,X,Z,ai,Bool.true_and,ah,tW,xw,zz,follows];simp only[dec];by_cases K:c0.toNat<128
  ·rw[AG K,AG K]
  ·rw[AF K,AF K];by_cases D:192<=c0.toNat∧c0.toNat<224
   ·have M:¬(224<=c0.toNat∧c0.toNat<240):=(by omega);have S:¬(240<=c0.toNat∧c0.toNat<248):=(by omega);by_cases y:128<=c1.toNat∧c1.toNat<192
    ·rw[AG (by simp[D,y]),AG D];have e:c0.toNat % 32*64+c1.toNat % 64=(c0.toNat-192)*64+c1.toNat-128:=(by omega);rw[e];by_cases A:128<=(c0.toNat-192)*64+c1.toNat-128
     ·rw[AG A,AG ⟨y,A⟩]
     ·rw[AF A,AF (fun o=>A o.2)]
    ·rw[AF (by simp[y]),AF (by simp[M]),AF (by simp[S]),AG D,AF (fun o=>y o.1)]
   ·rw[AF (by simp[D]),AF D];by_cases M:224<=c0.toNat∧c0.toNat<240
    ·have S:¬(240<=c0.toNat∧c0.toNat<248):=(by omega);rw[AG M];by_cases y:(128<=c1.toNat∧c1.toNat<192)∧128<=c2.toNat∧c2.toNat<192
     ·rw[AG (by simp[M,y])];have e:c0.toNat % 16*4096+c1.toNat % 64*64+c2.toNat % 64=((c0.toNat-224)*64+c1.toNat-128)*64+c2.toNat-128:=(by omega);rw[e];have V:=gV (((c0.toNat-224)*64+c1.toNat-128)*64+c2.toNat-128) 2048;by_cases A:U8.may 2048 (((c0.toNat-224)*64+c1.toNat-128)*64+c2.toNat-128)=AJ
      ·rw[AG (by rw[Bool.and_comm,<-A];exact V),AG ⟨y.1,y.2,A⟩]
      ·rw[AF (by rw[Bool.and_comm];exact fun o=>A (V.symm.trans o)),AF (fun o=>A o.2.2)]
     ·rw[AF (by simp only[Bool.and_eq_true,decide_eq_true_eq];exact fun o=>y ⟨o.1.2,o.2⟩),AF (by simp[S]),AF (fun o=>y ⟨o.1,o.2.1⟩)]
    ·rw[AF (by simp[M]),AF M];by_cases S:240<=c0.toNat∧c0.toNat<248
     ·rw[AG S];by_cases y:(128<=c1.toNat∧c1.toNat<192)∧(128<=c2.toNat∧c2.toNat<192)∧128<=c3.toNat∧c3.toNat<192
      ·rw[AG (by simp[S,y])];have e:c0.toNat % 8*262144+c1.toNat % 64*4096+c2.toNat % 64*64+c3.toNat % 64=(((c0.toNat-240)*64+c1.toNat-128)*64+c2.toNat-128)*64+c3.toNat-128:=(by omega);rw[e];have V:=gV ((((c0.toNat-240)*64+c1.toNat-128)*64+c2.toNat-128)*64+c3.toNat-128) 65536;by_cases A:U8.may 65536 ((((c0.toNat-240)*64+c1.toNat-128)*64+c2.toNat-128)*64+c3.toNat-128)=AJ
       ·rw[AG (by rw[Bool.and_comm,<-A];exact V),AG ⟨y.1,y.2.1,y.2.2,A⟩]
       ·rw[AF (by rw[Bool.and_comm];exact fun o=>A (V.symm.trans o)),AF (fun o=>A o.2.2.2)]
      ·rw[AF (by simp only[Bool.and_eq_true,decide_eq_true_eq];exact fun o=>y ⟨o.1.1.2,o.1.2,o.2⟩),AF (fun o=>y ⟨o.1,o.2.1,o.2.2.1⟩)]
     ·rw[AF (by simp[S]),AF S]
theorem i7{v:Nat}(h:v<2048)(least:Nat):U8.may least v=decide (least<=v):=by
 unfold U8.may;rw[Bool.eq_iff_iff];simp only[Bool.and_eq_true,decide_eq_true_eq,Bool.not_eq_true',Bool.and_eq_false_iff,decide_eq_false_iff_not];omega
theorem xA(h:c<128):U8.kind c=C (1,c,0):=by unfold U8.kind;rw[AG h]
theorem xz(h:192<=c∧c<224):U8.kind c=C (2,c-192,128):=by unfold U8.kind;rw[AF (by omega),AG h]
theorem xy(h:224<=c∧c<240):U8.kind c=C (3,c-224,2048):=by unfold U8.kind;rw[AF (by omega),AF (by omega),AG h]
theorem xx(h:240<=c∧c<248):U8.kind c=C (4,c-240,65536):=by unfold U8.kind;rw[AF (by omega),AF (by omega),AF (by omega),AG h]
theorem zC(o:¬c<128)(y:¬(192<=c∧c<224))(A:¬(224<=c∧c<240))(D:¬(240<=c∧c<248)):U8.kind c=none:=by unfold U8.kind;rw[AF o,AF y,AF A,AF D]
theorem wR(h:U8.one l=AY):dec l=(65533,1):=by
 match l,h with
 | [],_=>rfl
 |c0::r,h=>
  simp only[U8.one] at h;by_cases y:c0.toNat<128
  ·rw[xA y] at h;simp[U8.conts,i7 (show c0.toNat<2048 by omega)] at h
  ·by_cases A:192<=c0.toNat∧c0.toNat<224
   ·rw[xz A] at h;match r,h with
    | [],_=>simp[dec,y]
    |c1::r1,h=>
     simp only[dec];rw[AF y,AG A];by_cases D:128<=c1.toNat∧c1.toNat<192
     ·simp only[U8.conts,AG D,i7 (show(c0.toNat-192)*64+c1.toNat-128<2048 by omega)] at h;by_cases E:128<=(c0.toNat-192)*64+c1.toNat-128
      ·simp[E] at h
      ·rw[AF (fun o=>E o.2)]
     ·rw[AF (fun o=>D o.1)]
   ·by_cases J:224<=c0.toNat∧c0.toNat<240
    ·rw[xy J] at h;match r,h with
     | [],_=>simp[dec,y]
     | [c1],_=>simp[dec,y,A]
     |c1::c2::r2,h=>
      simp only[dec];rw[AF y,AF A,AG J];by_cases D:128<=c1.toNat∧c1.toNat<192
      ·by_cases E:128<=c2.toNat∧c2.toNat<192
       ·simp only[U8.conts,AG D,AG E] at h;by_cases K:U8.may 2048 (((c0.toNat-224)*64+c1.toNat-128)*64+c2.toNat-128)=AJ
        ·simp[K] at h
        ·rw[AF (fun o=>K o.2.2)]
       ·rw[AF (fun o=>E o.2.1)]
      ·rw[AF (fun o=>D o.1)]
    ·by_cases L:240<=c0.toNat∧c0.toNat<248
     ·rw[xx L] at h;match r,h with
      | [],_=>simp[dec,y]
      | [c1],_=>simp[dec,y,A]
      | [c1,c2],_=>simp[dec,y,A,J]
      |c1::c2::c3::r3,h=>
       simp only[dec];rw[AF y,AF A,AF J,AG L];by_cases D:128<=c1.toNat∧c1.toNat<192
       ·by_cases E:128<=c2.toNat∧c2.toNat<192
        ·by_cases M:128<=c3.toNat∧c3.toNat<192
         ·simp only[U8.conts,AG D,AG E,AG M] at h;by_cases K:U8.may 65536 ((((c0.toNat-240)*64+c1.toNat-128)*64+c2.toNat-128)*64+c3.toNat-128)=AJ
          ·simp[K] at h
          ·rw[AF (fun o=>K o.2.2.2)]
         ·rw[AF (fun o=>M o.2.2.1)]
        ·rw[AF (fun o=>E o.2.1)]
       ·rw[AF (fun o=>D o.1)]
     ·match r with
      | []=>simp[dec,y]
      | [c1]=>simp[dec,y,A]
      | [c1,c2]=>simp[dec,y,A,J]
      |c1::c2::c3::r3=>simp[dec,y,A,J,L]
theorem uL{n:Nat}(h:U8.one l=C n):(dec l).2=n∧((dec l).1=65533->n=3∧l.take 3=[239,191,189])∧(dec l).1<=1114111:=by
 match l,h with
 | [],h=>simp[U8.one] at h
 |c0::r,h=>
  simp only[U8.one] at h;by_cases D:c0.toNat<128
  ·rw[xA D] at h;have Z:U8.may 0 c0.toNat=true:=(by rw[i7 (by omega)];simp);have ab:n=1:=(by simpa[U8.conts,Z] using h.symm);subst ab;have hd:dec (c0::r)=(c0.toNat,1):=(by simp[dec,D]);rw[hd];exact⟨rfl,fun E=>by simp only at E;omega,by simp only;omega⟩
  ·by_cases J:192<=c0.toNat∧c0.toNat<224
   ·rw[xz J] at h;match r,h with
    | [],h=>simp[U8.conts] at h
    |c1::r1,h=>
     simp only[dec];rw[AF D,AG J];by_cases o:128<=c1.toNat∧c1.toNat<192
     ·simp only[U8.conts,AG o,i7 (show(c0.toNat-192)*64+c1.toNat-128<2048 by omega)] at h;by_cases y:128<=(c0.toNat-192)*64+c1.toNat-128
      ·simp only[y,decide_true,if_true,Option.some.injEq] at h;rw[AG ⟨o,y⟩];exact⟨h,fun E=>by omega,by simp only;omega⟩
      ·simp[y] at h
     ·simp only[U8.conts,AF o] at h;cases h
   ·by_cases K:224<=c0.toNat∧c0.toNat<240
    ·rw[xy K] at h;match r,h with
     | [],h=>simp[U8.conts] at h
     | [c1],h=>
      by_cases o:128<=c1.toNat∧c1.toNat<192
      ·simp only[U8.conts,AG o] at h;cases h
      ·simp only[U8.conts,AF o] at h;cases h
     |c1::c2::r2,h=>
      simp only[dec];rw[AF D,AF J,AG K];by_cases o:128<=c1.toNat∧c1.toNat<192
      ·by_cases y:128<=c2.toNat∧c2.toNat<192
       ·simp only[U8.conts,AG o,AG y] at h;by_cases A:U8.may 2048 (((c0.toNat-224)*64+c1.toNat-128)*64+c2.toNat-128)=AJ
        ·rw[AG A] at h;simp only[Option.some.injEq] at h;rw[AG ⟨o,y,A⟩];refine⟨h,fun E=>⟨h.symm,?_⟩,by simp only;omega⟩;simp only at E;have S:c0=239:=UInt8.toNat_inj.1 (by simp;omega);have V:c1=191:=UInt8.toNat_inj.1 (by simp;omega);have X:c2=189:=UInt8.toNat_inj.1 (by simp;omega);rw[S,V,X];rfl
        ·rw[AF A] at h;cases h
       ·simp only[U8.conts,AG o,AF y] at h;cases h
      ·simp only[U8.conts,AF o] at h;cases h
    ·by_cases L:240<=c0.toNat∧c0.toNat<248
     ·rw[xx L] at h;match r,h with
      | [],h=>simp[U8.conts] at h
      | [c1],h=>
       by_cases o:128<=c1.toNat∧c1.toNat<192
       ·simp only[U8.conts,AG o] at h;cases h
       ·simp only[U8.conts,AF o] at h;cases h
      | [c1,c2],h=>
       by_cases o:128<=c1.toNat∧c1.toNat<192
       ·by_cases y:128<=c2.toNat∧c2.toNat<192
        ·simp only[U8.conts,AG o,AG y] at h;cases h
        ·simp only[U8.conts,AG o,AF y] at h;cases h
       ·simp only[U8.conts,AF o] at h;cases h
      |c1::c2::c3::r3,h=>
       simp only[dec];rw[AF D,AF J,AF K,AG L];by_cases o:128<=c1.toNat∧c1.toNat<192
       ·by_cases y:128<=c2.toNat∧c2.toNat<192
        ·by_cases M:128<=c3.toNat∧c3.toNat<192
         ·simp only[U8.conts,AG o,AG y,AG M] at h;by_cases A:U8.may 65536 ((((c0.toNat-240)*64+c1.toNat-128)*64+c2.toNat-128)*64+c3.toNat-128)=AJ
          ·rw[AG A] at h;simp only[Option.some.injEq] at h;rw[AG ⟨o,y,M,A⟩];have Q:=A;unfold U8.may at Q;simp only[Bool.and_eq_true,decide_eq_true_eq] at Q;exact⟨h,fun E=>by simp only at E;omega,Q.1.2⟩
          ·rw[AF A] at h;cases h
         ·simp only[U8.conts,AG o,AG y,AF M] at h;cases h
        ·simp only[U8.conts,AG o,AF y] at h;cases h
       ·simp only[U8.conts,AF o] at h;cases h
     ·rw[zC D J K L] at h;cases h
end
section
open Go.RowKit
theorem tG(h:l.take 3=[239,191,189]):U8.one l=C 3:=by
 match l,h with
 | [],h=>simp at h
 | [_],h=>simp at h
 | [_,_],h=>simp at h
 |a::b::c::r,h=>
  simp only[List.take_succ_cons,List.take_zero,List.cons.injEq,and_true] at h;obtain⟨rfl,rfl,rfl⟩:=h;simp[U8.one,U8.kind,U8.conts,U8.may]
theorem Aj(t:ByteArray):(t.extract 0 3).toList=t.data.toList.take 3:=by
 rw[ByteArray.toList_eq,ByteArray.data_extract,Array.toList_extract];simp
theorem yJ(t:ByteArray)(pos:Nat):(t.extract pos t.size).data.toList=t.data.toList.drop pos:=by
 rw[ByteArray.data_extract,Array.toList_extract];simp;exact List.take_of_length_le (by simp[List.length_drop])
def ng(t:ByteArray):Bool:=decide (t.data.toList.take 3=[239,191,189])
theorem rC(t:ByteArray)(L:t.size<=281474976702464)(w:AU):AB AE 207 #[N t,N ⟨#[239,191,189]⟩] w fun e w'=>e=wv (qz (ng t))∧w'=w:=by
 by_cases E:t.size<3
 ·have y:¬(3:Int)<=(t.size:Int):=by omega
  have o:Y (ng t=AK):=by
   show decide _=AK;rw[decide_eq_false_iff_not];intro A;have:=congrArg List.length A;rw[AM,Array.length_toList] at this;have K:t.data.size=t.size:=rfl;simp at this;omega
  go_enter func207,ntmps207;go_wp2;go_ret;exact⟨by rw[o.out];rfl,rfl⟩
 ·have y:(3:Int)<=(t.size:Int):=by omega
  have J:3<=t.size:=by omega
  obtain⟨r,D⟩:∃r,((t.extract 0 3).toList==[239,191,189])=r:=⟨_,rfl⟩;have o:Y (ng t=r):=by
   show decide _=r;rw[<-D,Aj];rw[Bool.eq_iff_iff];simp
  go_enter func207,ntmps207;go_wp2;go_ret;exact⟨by rw[o.out];rfl,rfl⟩
theorem ut(t:ByteArray)(A:t.size<=281474976702464)(w:AU):AB AE 200 #[N t,N ⟨#[239,191,189]⟩] w fun e w'=>e=wv (qz (ng t))∧w'=w:=by
 have y:=gQq (rC t A w);go_enter func200,ntmps200;go_wp2_with fail;refine y.out.mono ?_;rintro e w1 ⟨rfl,o⟩;rw[o];clear o w1;go_wp2;go_ret;exact⟨rfl,rfl⟩
theorem xP(t:ByteArray)(bi:t.size<=281474976702464)(w:AU):AB AE 182 #[N t] w fun e w'=>e=wv (qz (dQ t))∧O w.1.size w w':=by
 obtain⟨o,Z⟩:∃o,o=t.data.toList:=⟨_,rfl⟩;have a3:Y (dQ t=U8.utf o):=by show _=_;rw[Z];rfl
 have X:=gQq Z;have Q:Y (∀k pos,((w.drewN k).iter t pos).iterPos w.1.size=pos):=fun k pos=>World.iterPos_iter (w.drewN k) t pos;have a0:Y (∀k pos,O w.1.size w ((w.drewN k).iter t pos)):=fun k pos=>(below_drewN gQz k).alloc gQx _;clear Z;have a4:Y (t.size=o.length):=by show _=_;rw[X.out,Array.length_toList];rfl
 have a8:Y (∀pos w',pos<=t.size->AB AE 200 #[N (t.extract pos t.size),N ⟨#[239,191,189]⟩] w' fun e aw=>e=wv (qz (decide ((o.drop pos).take 3=[239,191,189])))∧aw=w'):=by
  intro pos w' a6;have h:=ut (t.extract pos t.size) (by rw[ByteArray.size_extract];omega) w';unfold ng at h;rw[yJ,<-X.out] at h;exact h
 go_enter func182,ntmps182;go_wp2;go_loopw [3,4] (fun _ _ wr=>∃pos k:Nat,pos<=t.size∧wr=(w.drewN k).iter t pos∧Y (U8.utf o=U8.utf (o.drop pos))) (fun _ _ wr=>t.size-wr.iterPos w.1.size);case atStart=>exact⟨0,0,by omega,rfl,by show _=_;rw[List.drop_zero]⟩
 case round=>
  obtain⟨pos,k,a6,rfl,A⟩:=hrel;by_cases V:pos<t.size
  ·have ak:∀D,(Instr.next (.pointer (C ⟨w.1.size,0,AY⟩)) AJ D).run AE ((w.drewN k).iter t pos)=.ok (.tuple #[qz AJ,I U pos,I .i32 (Utf8.decode t pos).1]) ((w.drewN k).iter t (pos+(Utf8.decode t pos).2)):=fun D=>run_next_any (P:=AE) (w.drewN k) t pos D V;obtain⟨l,y⟩:∃l,l=o.drop pos:=⟨_,rfl⟩;have K:t.data.toList.drop pos=l:=(by rw[y,X.out]);have a5:l.length=t.size-pos:=(by rw[y,AL,a4.out]);obtain⟨m,E⟩:∃m,m=decide (l.take 3=[239,191,189]):=⟨_,rfl⟩;have a1:Y (∀w',AB AE 200 #[N (t.extract pos t.size),N ⟨#[239,191,189]⟩] w' fun e aw=>e=wv (qz m)∧aw=w'):=by
    intro w';rw[E,y];exact a8.out pos w' a6
   cases ho:U8.one l with
   |none=>
    have hd:Utf8.decode t pos=(65533,1):=(jI K V).trans (wR ho);rw[hd] at ak;have a7:Y (U8.utf o=AK):=(by show _=_;rw[A.out,<-y];exact U8.utf_bad (fun ab=>by rw[ab] at a5;simp at a5;omega) ho);have ai:m=false:=by
     rw[E,decide_eq_false_iff_not];intro ab;rw[tG ab] at ho;cases ho
    subst ai;clear hd y K ho A E;go_wp2_with fail;refine(a1.out _).mono ?_;rintro e w1 ⟨rfl,M⟩;rw[M];clear M w1;go_wp2;go_ret;exact⟨by rw[a3.out,a7.out];rfl,a0.out _ _⟩
   |some n=>
    obtain⟨J,S⟩:∃J,J=(dec l).1:=⟨_,rfl⟩;obtain⟨ah,L,bb⟩:=uL ho;have hd:Utf8.decode t pos=(J,n):=(by rw[jI K V,S,<-ah]);rw[hd] at ak;have be:=U8.one_len ho;have a2:Y (U8.utf o=U8.utf (o.drop (pos+n))):=(by show _=_;rw[A.out,<-y,U8.utf_step ho,y,Ax]);rw[<-S] at L;by_cases aj:J=65533
    ·have ai:m=true:=(by rw[E,decide_eq_true_eq];exact(L aj).2);have bc:=(L aj).1;subst aj bc ai;clear hd y K ho A S ah L bb E;go_wp2_with fail;refine(a1.out _).mono ?_;rintro e w1 ⟨rfl,M⟩;rw[M];clear M w1;go_wp2;go_roundw;case rel=>exact⟨pos+3,k,by omega,rfl,a2⟩
     case measure=>rw[Q.out,Q.out];omega
    ·have bj:((J:Int)==65533)=false:=(by simp;omega);clear hd y K ho A S ah L E;go_wp2;go_roundw;case rel=>exact⟨pos+n,k,by omega,rfl,a2⟩
     case measure=>rw[Q.out,Q.out];omega
  ·have ak:∀D,(Instr.next (.pointer (C ⟨w.1.size,0,AY⟩)) AJ D).run AE ((w.drewN k).iter t pos)=.ok (.tuple #[qz AK]) ((w.drewN k).iter t pos):=fun D=>run_next_end (P:=AE) (w.drewN k) t pos D V;have a9:Y (U8.utf o=AJ):=(by show _=_;rw[A.out,List.drop_eq_nil_of_le (by have:=a4.out;omega)];rfl);clear A;go_wp2;go_ret;exact⟨by rw[a3.out,a9.out];rfl,a0.out _ _⟩
end
section
open Go.RowKit
attribute [local go_sem] al
theorem xF:aH 0=0:=by kernel_rfl
theorem ey(n:Nat):((n:Int)==0)=(n==0):=by rw[Bool.eq_iff_iff,beq_iff_eq,beq_iff_eq];omega
theorem cI(b:Nat)(w:AU):AB AE 164 #[sq ux b,sq ux 0] w fun e w'=>e=wv (qz (aH b==0))∧w'=w:=by
 have h:=gB b 0 w;rw[xF] at h;have o:((aH b:Int)==((0:Nat):Int))=(aH b==0):=by
  rw[Bool.eq_iff_iff,beq_iff_eq,beq_iff_eq];omega
 rw[o] at h;exact h
theorem yI(i:Int)(b:Nat)(t:ByteArray)(p:OA)(n c:Nat)(w:AU):
  AB AE 194 #[qx #[I U 1,I U i,sq ux b,N t,F p n c]] w fun e w'=>e=wv (qz (V.ownB 1 i b t n))∧O w.1.size w w':=by
 have A:Y (∀o,O w.1.size w (w.alloc o)):=fun o=>gQz.alloc gQx o;go_enter func194,ntmps194;go_wp2_with (go_at_call 164;refine(cI _ _).mono ?_;rintro e w1 ⟨rfl,y⟩;rw[y];clear y w1);all_goals go_ret
 all_goals refine⟨?_,A.out _⟩
 all_goals simp_all [V.ownB]
 all_goals first | exact ey n | (intros;omega)
theorem yH(i:Int)(b:Nat)(t:ByteArray)(p:OA)(n c:Nat)(w:AU):
  AB AE 194 #[qx #[I U 2,I U i,sq ux b,N t,F p n c]] w fun e w'=>e=wv (qz (V.ownB 2 i b t n))∧O w.1.size w w':=by
 have A:Y (∀o,O w.1.size w (w.alloc o)):=fun o=>gQz.alloc gQx o;go_enter func194,ntmps194;go_wp2_with (go_at_call 164;refine(cI _ _).mono ?_;rintro e w1 ⟨rfl,y⟩;rw[y];clear y w1);all_goals go_ret
 all_goals refine⟨?_,A.out _⟩
 all_goals simp_all [V.ownB]
 all_goals first | exact ey n | (intros;omega)
theorem yG(i:Int)(b:Nat)(t:ByteArray)(p:OA)(n c:Nat)(w:AU):
  AB AE 194 #[qx #[I U 3,I U i,sq ux b,N t,F p n c]] w fun e w'=>e=wv (qz (V.ownB 3 i b t n))∧O w.1.size w w':=by
 have A:Y (∀o,O w.1.size w (w.alloc o)):=fun o=>gQz.alloc gQx o;go_enter func194,ntmps194;go_wp2_with (go_at_call 164;refine(cI _ _).mono ?_;rintro e w1 ⟨rfl,y⟩;rw[y];clear y w1);all_goals go_ret
 all_goals refine⟨?_,A.out _⟩
 all_goals simp_all [V.ownB,xF]
 all_goals first | exact ey n | (intros;omega)
theorem yF(i:Int)(b:Nat)(t:ByteArray)(p:OA)(n c:Nat)(w:AU):
  AB AE 194 #[qx #[I U 4,I U i,sq ux b,N t,F p n c]] w fun e w'=>e=wv (qz (V.ownB 4 i b t n))∧O w.1.size w w':=by
 have A:Y (∀o,O w.1.size w (w.alloc o)):=fun o=>gQz.alloc gQx o;go_enter func194,ntmps194;go_wp2_with (go_at_call 164;refine(cI _ _).mono ?_;rintro e w1 ⟨rfl,y⟩;rw[y];clear y w1);all_goals go_ret
 all_goals refine⟨?_,A.out _⟩
 all_goals simp_all [V.ownB]
 all_goals first | exact ey n | (intros;omega)
theorem yE(i:Int)(b:Nat)(t:ByteArray)(p:OA)(n c:Nat)(w:AU):
  AB AE 194 #[qx #[I U 5,I U i,sq ux b,N t,F p n c]] w fun e w'=>e=wv (qz (V.ownB 5 i b t n))∧O w.1.size w w':=by
 have A:Y (∀o,O w.1.size w (w.alloc o)):=fun o=>gQz.alloc gQx o;go_enter func194,ntmps194;go_wp2_with (go_at_call 164;refine(cI _ _).mono ?_;rintro e w1 ⟨rfl,y⟩;rw[y];clear y w1);all_goals go_ret
 all_goals refine⟨?_,A.out _⟩
 all_goals simp_all [V.ownB]
 all_goals first | exact ey n | (intros;omega)
theorem yD(i:Int)(b:Nat)(t:ByteArray)(p:OA)(n c:Nat)(w:AU):
  AB AE 194 #[qx #[I U 6,I U i,sq ux b,N t,F p n c]] w fun e w'=>e=wv (qz (V.ownB 6 i b t n))∧O w.1.size w w':=by
 have A:Y (∀o,O w.1.size w (w.alloc o)):=fun o=>gQz.alloc gQx o;go_enter func194,ntmps194;go_wp2_with (go_at_call 164;refine(cI _ _).mono ?_;rintro e w1 ⟨rfl,y⟩;rw[y];clear y w1);all_goals go_ret
 all_goals refine⟨?_,A.out _⟩
 all_goals simp_all [V.ownB]
 all_goals first | exact ey n | (intros;omega)
theorem yC(i:Int)(b:Nat)(t:ByteArray)(p:OA)(n c:Nat)(w:AU):
  AB AE 194 #[qx #[I U 7,I U i,sq ux b,N t,F p n c]] w fun e w'=>e=wv (qz (V.ownB 7 i b t n))∧O w.1.size w w':=by
 have A:Y (∀o,O w.1.size w (w.alloc o)):=fun o=>gQz.alloc gQx o;go_enter func194,ntmps194;go_wp2_with (go_at_call 164;refine(cI _ _).mono ?_;rintro e w1 ⟨rfl,y⟩;rw[y];clear y w1);all_goals go_ret
 all_goals refine⟨?_,A.out _⟩
 all_goals simp_all [V.ownB]
theorem uB(k:Int)(S:k<1∨7<k)(i:Int)(b:Nat)(t:ByteArray)(p:OA)(n c:Nat)(w:AU):
  AB AE 194 #[qx #[I U k,I U i,sq ux b,N t,F p n c]] w fun e w'=>e=wv (qz (V.ownB k i b t n))∧O w.1.size w w':=by
 have A:Y (∀o,O w.1.size w (w.alloc o)):=fun o=>gQz.alloc gQx o;have D:¬k=1:=by omega
 have E:¬k=2:=by omega
 have J:¬k=3:=by omega
 have K:¬k=4:=by omega
 have L:¬k=5:=by omega
 have M:¬k=6:=by omega
 have Q:¬k=7:=by omega
 go_enter func194,ntmps194;go_wp2_with (go_at_call 164;refine(cI _ _).mono ?_;rintro e w1 ⟨rfl,y⟩;rw[y];clear y w1);all_goals go_ret
 all_goals refine⟨?_,A.out _⟩
 all_goals simp_all [V.ownB]
 all_goals first | exact ey n | (intros;omega)
theorem zO(k i:Int)(b:Nat)(t:ByteArray)(p:OA)(n c:Nat)(w:AU):
  AB AE 194 #[qx #[I U k,I U i,sq ux b,N t,F p n c]] w fun e w'=>e=wv (qz (V.ownB k i b t n))∧O w.1.size w w':=by
 by_cases o:k<1∨7<k
 ·exact uB k o i b t p n c w
 ·rcases(show k=1∨k=2∨k=3∨k=4∨k=5∨k=6∨k=7 by omega) with rfl | rfl | rfl | rfl | rfl | rfl | rfl
  ·exact yI i b t p n c w
  ·exact yH i b t p n c w
  ·exact yG i b t p n c w
  ·exact yF i b t p n c w
  ·exact yE i b t p n c w
  ·exact yD i b t p n c w
  ·exact yC i b t p n c w
def ed(k:Int)(t:ByteArray)(n:Nat):Nat:=if 1024<t.size then 2 else if 256<n then 3 else if k=4∧dQ t=AK then 61 else 0
theorem zV(k i:Int)(b:Nat)(t:ByteArray)(p:OA)(n c:Nat)(w:AU):
  AB AE 195 #[qx #[I U k,I U i,sq ux b,N t,F p n c]] w fun e w'=>e=wv (I U (ed k t n:Nat))∧O w.1.size w w':=by
 have y:Y (∀K,O w.1.size w (w.alloc K)):=fun K=>gQz.alloc gQx K;by_cases A:1024<t.size
 ·have S:(1024:Int)<(t.size:Int):=by omega
  have o:Y (ed k t n=2):=by show _=_;rw[ed,AG A]
  go_enter func195,ntmps195;go_wp2;go_ret;exact⟨by rw[o.out];rfl,y.out _⟩
 have S:¬(1024:Int)<(t.size:Int):=by omega
 by_cases E:256<n
 ·have V:(256:Int)<(n:Int):=by omega
  have o:Y (ed k t n=3):=by show _=_;rw[ed,AF A,AG E]
  go_enter func195,ntmps195;go_wp2;go_ret;exact⟨by rw[o.out];rfl,y.out _⟩
 have V:¬(256:Int)<(n:Int):=by omega
 by_cases D:k=4
 ·have Z:(k==4)=true:=dq D;have L:=gQq (fun w=>xP t (by omega) w);obtain⟨r,J⟩:∃r,r=dQ t:=⟨_,rfl⟩;rw[<-J] at L;have o:Y (ed k t n=if r=AK then 61 else 0):=by
   show _=_;rw[ed,AF A,AF E,<-J];simp only[D,true_and]
  clear J;go_enter func195,ntmps195;go_wp2_with fail;refine(L.out _).mono ?_;rintro e w1 ⟨rfl,M⟩;have Q:=gQq ((y.out _).trans (M.mono (y.out _).size));clear M;cases r
  all_goals
   go_wp2;go_ret;exact⟨by rw[o.out];rfl,Q.out⟩
 ·have Z:(k==4)=false:=bg D;have o:Y (ed k t n=0):=by show _=_;rw[ed,AF A,AF E,AF (fun X=>D X.1)]
  go_enter func195,ntmps195;go_wp2;go_ret;exact⟨by rw[o.out];rfl,y.out _⟩
theorem uT(d:Nat)(k i:Int)(b:Nat)(t:ByteArray)(xs:List V):chk d (.mk k i b t xs)=if 4<d then 62 else if V.ownB k i b t xs.length=AK then 60 else if ed k t xs.length=0 then fC (d+1) xs else ed k t xs.length:=by
 rw[lV];unfold ed;by_cases o:4<d
 ·rw[AG o,AG o]
 rw[AF o,AF o];by_cases y:V.ownB k i b t xs.length=AK
 ·rw[AG y,AG y]
 rw[AF y,AF y];by_cases A:1024<t.size
 ·rw[AG A,AG A];rfl
 rw[AF A,AF A];by_cases D:256<xs.length
 ·rw[AG D,AG D];rfl
 rw[AF D,AF D];by_cases E:k=4∧dQ t=AK
 ·rw[AG E,AG E];rfl
 rw[AF E,AF E,AG rfl]
theorem uU:∀(x:V) (d:Nat) (w:AU) (u:AV),d<=5->aK w u x->AB AE 174 #[qx u,I U d] w fun e w'=>e=wv (I U (chk d x:Nat))∧O w.1.size w w':=by
 intro x;refine V.ind (P:=fun x=>∀(d:Nat) (w:AU) (u:AV),d<=5->aK w u x->AB AE 174 #[qx u,I U d] w fun e w'=>e=wv (I U (chk d x:Nat))∧O w.1.size w w') ?_ x;rintro k i b t xs a8 d w u hd bO;obtain⟨p,c,rfl,c7,c6,a6⟩:=bO.open;unfold cells5;have bk:O w.1.size w (w.alloc (wx #[I U k,I U i,sq ux b,N t,F p xs.length c] 102)):=gQy;have Z:=gQq bk;clear bk bO;have y:=gQq (uT d k i b t xs);obtain⟨R,bl⟩:∃R,R=chk d (.mk k i b t xs):=⟨_,rfl⟩;rw[<-bl] at y ⊢;clear bl;by_cases E:4<d
 ·have ci:(4:Int)<(d:Int):=by omega
  have HR:Y (R=62):=by show _=_;rw[y.out,AG E]
  clear a8 a6 y;go_enter func174,ntmps174;go_wp2;go_ret;exact⟨by rw[HR.out];rfl,Z.out⟩
 have ci:¬(4:Int)<(d:Int):=by omega
 have a4:=gQq (zO k i b t p xs.length c (w.alloc (wx #[I U k,I U i,sq ux b,N t,F p xs.length c] 102)));have a2:=gQq (zV k i b t p xs.length c);obtain⟨r,bs⟩:∃r,r=V.ownB k i b t xs.length:=⟨_,rfl⟩;rw[<-bs] at a4 y;clear bs;obtain⟨s,bv⟩:∃s,s=ed k t xs.length:=⟨_,rfl⟩;rw[<-bv] at a2 y;clear bv;have cn:w.1.size<(w.alloc (wx #[I U k,I U i,sq ux b,N t,F p xs.length c] 102)).1.size:=by simp
 have bT:(w.alloc (wx #[I U k,I U i,sq ux b,N t,F p xs.length c] 102)).cell? ⟨w.1.size,0,AY⟩=C (I U k):=by simp
 have bX:(w.alloc (wx #[I U k,I U i,sq ux b,N t,F p xs.length c] 102)).cell? ⟨w.1.size,1,AY⟩=C (I U i):=by simp
 have b0:(w.alloc (wx #[I U k,I U i,sq ux b,N t,F p xs.length c] 102)).cell? ⟨w.1.size,2,AY⟩=C (sq ux b):=by simp
 have b1:(w.alloc (wx #[I U k,I U i,sq ux b,N t,F p xs.length c] 102)).cell? ⟨w.1.size,3,AY⟩=C (N t):=by simp
 have b2:(w.alloc (wx #[I U k,I U i,sq ux b,N t,F p xs.length c] 102)).cell? ⟨w.1.size,4,AY⟩=C (F p xs.length c):=by simp
 have L:=gQq (And.intro bT (And.intro bX (And.intro b0 (And.intro b1 b2))));clear bT bX b0 b1 b2;have b5:Y (∀j (aw:j<xs.length),∃K,aK w K xs[j]∧Item w p j K):=a6;have bj:=gQq a8;clear a8 a6;go_enter func174,ntmps174;go_wp2_with fail;refine a4.out.mono ?_;rintro e cv ⟨rfl,D⟩;have c0:=ae D L.out.1;have c1:=ae D L.out.2.1;have c2:=ae D L.out.2.2.1;have c3:=ae D L.out.2.2.2.1;have c4:=ae D L.out.2.2.2.2;have ab:=gQq (Z.out.trans (D.mono Z.out.size));have cy:w.1.size<cv.1.size:=by have:=D.size;omega
 clear D a4 L Z cn;cases r with
 |false=>
  have HR:Y (R=60):=by show _=_;rw[y.out,AF E,AG rfl]
  clear y;go_wp2;go_ret;exact⟨by rw[HR.out];rfl,ab.out⟩
 |true=>
  have aj:Y (R=if s=0 then fC (d+1) xs else s):=by show _=_;rw[y.out,AF E,AF (by simp)]
  clear y;go_wp2_with fail;refine(a2.out _).mono ?_;rintro e X ⟨rfl,ak⟩;have n4:=ae ak c4;have be:=gQq (ab.out.trans (ak.mono ab.out.size));have c5:w.1.size<X.1.size:=by have:=ak.size;omega
  clear ak a2 ab c0 c1 c2 c3 c4;by_cases Q:¬s=0
  ·have ck:((s:Int) != 0)=true:=(by rw[bne_iff_ne];omega);have HR:Y (R=s):=(by show _=_;rw[aj.out,AF Q]);clear aj;go_wp2;go_ret;exact⟨by rw[HR.out];rfl,be.out⟩
  replace Q:s=0:=Classical.not_not.1 Q
  have ck:((s:Int) != 0)=false:=by rw[Q];rfl
  have HR:Y (R=fC (d+1) xs):=by show _=_;rw[aj.out,AG Q]
  clear aj
  -- the items,from any world behind
  have b3:Y (∀j (aw:j<xs.length) w',O w.1.size w w'->∀K,aK w K xs[j]->AB AE 174 #[qx K,I U ((d+1:Nat):Int)] w' fun e bc=>e=wv (I U (chk (d+1) xs[j]:Nat))∧O w'.1.size w' bc) :=
   fun j aw w' hb K co=>bj.out _ (Aw aw) (d+1) w' K (by omega) (co.on hb)
  clear bj;go_wp2_with fail;go_loopw [22] (fun bb wr=>∃j:Nat,j<=xs.length∧bb=I U j∧Y (O X.1.size X wr∧∀m (E:m<xs.length),m<j->chk (d+1) xs[m]=0)) (fun bb _=>xs.length-(intOf bb).toNat);case atStart=>exact⟨0,by omega,rfl,gQz,fun m _ h=>by omega⟩
  case round=>
   obtain⟨j,aw,rfl,A⟩:=hrel;have J:O w.1.size w wr:=be.out.trans (A.out.1.mono (by omega));by_cases a0:j<xs.length
   ·obtain⟨c9,bN,bp⟩:=b5.out j a0;obtain⟨bx,c8,cr,cq,cd,cu,ct,cs,cc,rfl,_,rfl,b6,b7,b8,b9,cb⟩:=(bp.on J).lies;have ai:Y (∀o,O wr.1.size wr (wr.alloc o)):=fun o=>gQz.alloc gQx o;have a1:Y (∀w',O wr.1.size wr w'->AB AE 174 #[qx #[I U cr,I U cq,sq ux cd,N cu,F ct cs cc],I U ((d+1:Nat):Int)] w' fun e bc=>e=wv (I U (chk (d+1) xs[j]:Nat))∧O w'.1.size w' bc):=fun w' hb=>b3.out j a0 w' (J.trans (hb.mono J.size)) _ bN;have cw:(j:Int)<(xs.length:Int):=(by omega);obtain⟨z,a7⟩:∃z,z=chk (d+1) xs[j]:=⟨_,rfl⟩;rw[<-a7] at a1;have M:=gQq a7;have bi:=gQq J;clear bN bp a7 J;go_wp2_with fail;refine(a1.out _ (ai.out _)).mono ?_;rintro e w4 ⟨rfl,bn⟩;have ah:=gQq ((ai.out _).trans (bn.mono (ai.out _).size));clear bn b6 b7 b8 b9 cb a1 ai;by_cases S:z=0
    ·have cp:((z:Int) != 0)=false:=(by rw[S];rfl);have b4:Y (O X.1.size X w4∧∀m (E:m<xs.length),m<j+1->chk (d+1) xs[m]=0):=by
      refine⟨A.out.1.trans (ah.out.mono A.out.1.size),fun m E bq=>?_⟩;by_cases cj:m=j
      ·subst cj;rw[<-M.out];exact S
      ·exact A.out.2 m E (by omega)
     clear A ah M S;go_wp2;go_roundw;case rel=>exact⟨j+1,by omega,by go_num,b4⟩
     case measure=>simp[intOf];omega
    ·have cp:((z:Int) != 0)=true:=(by rw[bne_iff_ne];omega);have a5:Y (R=z):=by
      show _=_;rw[HR.out,M.out];exact qG (d+1) xs j a0 (fun m h bq=>A.out.2 m h bq) (by rw[<-M.out];exact S)
     have a3:=gQq (bi.out.trans (ah.out.mono bi.out.size));clear A ah M S HR;go_wp2;go_ret;exact⟨by rw[a5.out];rfl,a3.out⟩
   ·have cx:¬(j:Int)<(xs.length:Int):=(by omega);have a5:Y (R=0):=by
     show _=_;rw[HR.out];exact jL (d+1) xs (fun m h=>A.out.2 m h (by omega))
    have a3:=gQq J;clear A J a0 HR;go_wp2;go_ret;exact⟨by rw[a5.out];rfl,a3.out⟩
theorem pI(x:V)(w:AU)(u:AV)(h:aK w u x):AB AE 146 #[qx u] w fun e w'=>e=wv (I U (chk 1 x:Nat))∧O w.1.size w w':=by
 obtain⟨k,i,b,t,xs⟩:=x;obtain⟨p,c,rfl,-⟩:=h.open;have A:O w.1.size w (w.alloc (wx (cells5 k i b t p xs.length c) 102)):=gQy;have o:=gQq A;have y:=gQq (uU _ 1 _ _ (by omega) (h.on A));clear A h;obtain⟨R,D⟩:∃R,R=chk 1 (.mk k i b t xs):=⟨_,rfl⟩;rw[<-D] at y ⊢;clear D;unfold cells5 at y o ⊢;go_enter func146,ntmps146;go_wp2_with fail;refine y.out.mono ?_;rintro e K ⟨rfl,E⟩;have J:=gQq (o.out.trans (E.mono o.out.size));clear E;go_wp2;go_ret;exact⟨rfl,J.out⟩
end
section
open Go.RowKit
attribute [local go_sem] al
theorem xo:∀(x y:V) (w:AU) (u v:AV),aK w u x->aK w v y->AB AE 132 #[qx u,qx v] w fun e w'=>e=wv (qz (V.same x y))∧O w.1.size w w':=by
 intro x;refine V.ind (P:=fun x=>∀(y:V) (w:AU) (u v:AV),aK w u x->aK w v y->AB AE 132 #[qx u,qx v] w fun e w'=>e=wv (qz (V.same x y))∧O w.1.size w w') ?_ x;rintro k i b t xs a1 ⟨k',X,E,t',o⟩ w u v c9 df;obtain⟨p,c,rfl,e1,e0,aw⟩:=c9.open;obtain⟨q,d,rfl,e3,e2,a0⟩:=df.open;unfold cells5;have cw:O w.1.size w ((w.alloc (wx #[I U k,I U i,sq ux b,N t,F p xs.length c] 102)).alloc (wx #[I U k',I U X,sq ux E,N t',F q o.length d] 102)):=gQy.alloc (by simp) _;have ab:=gQq cw;clear cw c9 df;by_cases h1:¬k=k'
 ·have d5:=cE h1;have K:Y (V.same (.mk k i b t xs) (.mk k' X E t' o)=AK):=by show _=_;simp[V.same_mk,h1]
  clear a1 aw a0 h1;go_enter func132,ntmps132;go_wp2;go_ret;exact⟨by rw[K.out];rfl,ab.out⟩
 replace h1:k=k':=Classical.not_not.1 h1
 have d5:=ca h1;by_cases A:¬i=X
 ·have d6:=cE A;have K:Y (V.same (.mk k i b t xs) (.mk k' X E t' o)=AK):=by show _=_;simp[V.same_mk,A]
  clear a1 aw a0 h1 A;go_enter func132,ntmps132;go_wp2;go_ret;exact⟨by rw[K.out];rfl,ab.out⟩
 replace A:i=X:=Classical.not_not.1 A
 have d6:=ca A;by_cases S:¬t=t'
 ·have d7:(t.toList==t'.toList)=false:=by rw[iW,AP S]
  have K:Y (V.same (.mk k i b t xs) (.mk k' X E t' o)=AK):=by show _=_;simp[V.same_mk,S]
  clear a1 aw a0 h1 A S;go_enter func132,ntmps132;go_wp2;go_ret;exact⟨by rw[K.out];rfl,ab.out⟩
 replace S:t=t':=Classical.not_not.1 S
 have d7:(t.toList==t'.toList)=true:=by rw[iW,AR S]
 have a3:=gQq (gB b E);by_cases aj:¬aH b=aH E
 ·have bT:((aH b:Int)==(aH E:Int))=false:=bg (by omega);rw[bT] at a3;have K:Y (V.same (.mk k i b t xs) (.mk k' X E t' o)=AK):=by show _=_;simp[V.same_mk,aj]
  clear a1 aw a0 h1 A S aj;go_enter func132,ntmps132;go_wp2_with fail;refine(a3.out _).mono ?_;rintro e w1 ⟨rfl,Z⟩;rw[Z];clear Z w1;go_wp2;go_ret;exact⟨by rw[K.out];rfl,ab.out⟩
 replace aj:aH b=aH E:=Classical.not_not.1 aj
 have bT:((aH b:Int)==(aH E:Int))=true:=dq (by omega);rw[bT] at a3;by_cases a2:¬xs.length=o.length
 ·have d8:((xs.length:Int) != (o.length:Int))=true:=cE (by omega);have K:Y (V.same (.mk k i b t xs) (.mk k' X E t' o)=AK):=by show _=_;simp[V.same_mk,V.sameL_ne xs o a2]
  clear a1 aw a0 h1 A S aj a2;go_enter func132,ntmps132;go_wp2_with fail;refine(a3.out _).mono ?_;rintro e w1 ⟨rfl,Z⟩;rw[Z];clear Z w1;go_wp2;go_ret;exact⟨by rw[K.out];rfl,ab.out⟩
 replace a2:xs.length=o.length:=Classical.not_not.1 a2
 have d8:((xs.length:Int) != (o.length:Int))=false:=ca (by omega);have K:Y (V.same (.mk k i b t xs) (.mk k' X E t' o)=V.sameL xs o):=by show _=_;simp[V.same_mk,h1,A,S,aj]
 have ds:Y (fN w p xs):=aw;have du:Y (fN w q o):=a0;have dj:=gQq a1;have b6:=gQq a2;clear a1 aw a0 h1 A S aj a2;obtain⟨Q,a9⟩:∃Q,Q=(w.alloc (wx #[I U k,I U i,sq ux b,N t,F p xs.length c] 102)).alloc (wx #[I U k',I U X,sq ux E,N t',F q o.length d] 102):=⟨_,rfl⟩;have dv:Y (Q.cell? ⟨w.1.size+1,4,AY⟩=C (F q o.length d)):=by show _=_;rw[a9];simp
 have b8:Y (O w.1.size w Q):=by rw[a9];exact ab.out
 have cc:=gQq a9;clear ab a9;go_enter func132,ntmps132;go_wp2_with fail;refine(a3.out _).mono ?_;rintro e w1 ⟨rfl,Z⟩;rw[Z];clear Z w1;go_wp2_with fail;rw[<-cc.out];clear cc;go_loopw [44] (fun b5 wr=>∃j:Nat,j<=xs.length∧b5=I U j∧Y (O Q.1.size Q wr∧∀m (h1:m<xs.length) (A:m<o.length),m<j->V.same xs[m] o[m]=AJ)) (fun b5 _=>xs.length-(intOf b5).toNat);case atStart=>exact⟨0,by omega,rfl,gQz,fun m _ _ h=>by omega⟩
 case round=>
  obtain⟨j,ev,rfl,ai⟩:=hrel;have ak:O w.1.size w wr:=b8.out.trans (ai.out.1.mono b8.out.size);by_cases bb:j<xs.length
  ·have c6:j<o.length:=(by have:=b6.out;omega);obtain⟨e5,c7,cy⟩:=ds.out j bb;obtain⟨e6,c8,c5⟩:=du.out j c6;obtain⟨bx,e4,bi,be,a8,bl,bk,bj,a7,rfl,_,rfl,d0,d1,d2,d3,d4⟩:=(cy.on ak).lies;obtain⟨L,M,b1,b0,bO,b4,b3,b2,bN,rfl,_,rfl,cj,ck,cn,co,cp⟩:=(c5.on ak).lies
   have a6:Y (∀w',O w.1.size w w'->AB AE 132 #[qx #[I U bi,I U be,sq ux a8,N bl,F bk bj a7],qx #[I U b1,I U b0,sq ux bO,N b4,F b3 b2 bN]] w' fun e ea=>e=wv (qz (V.same xs[j] o[j]))∧O w'.1.size w' ea) :=
    fun w' hb=>dj.out _ (Aw bb) o[j] w' _ _ (c7.on hb) (c8.on hb)
   have bn:=gQq ai.out.2;have ew:(j:Int)<(xs.length:Int):=(by omega);have ez:(j:Int)<(o.length:Int):=(by omega);obtain⟨r,bX⟩:∃r,r=V.same xs[j] o[j]:=⟨_,rfl⟩;rw[<-bX] at a6;have cb:=gQq bX;obtain⟨D,bc⟩:∃D,D=wr.alloc (wx #[I U bi,I U be,sq ux a8,N bl,F bk bj a7] 102):=⟨_,rfl⟩;have ah:Y (O wr.1.size wr D):=(by rw[bc];exact gQy);have bq:Y (O w.1.size w D):=ak.trans (ah.out.mono ak.size);have bp:Y (O Q.1.size Q D):=ai.out.1.trans (ah.out.mono ai.out.1.size);have cd:=gQq bc;have ci:Y (D.cell? ⟨w.1.size+1,4,AY⟩=C (F (C ⟨L,M,AY⟩) o.length d)):=ae bp.out dv.out
   have b9:Y (D.cell? ⟨L,M+j*5,AY⟩=C (I U b1)∧D.cell? ⟨L,M+j*5+1,AY⟩=C (I U b0)∧D.cell? ⟨L,M+j*5+2,AY⟩=C (sq ux bO)∧D.cell? ⟨L,M+j*5+3,AY⟩=C (N b4)∧D.cell? ⟨L,M+j*5+4,AY⟩=C (F b3 b2 bN)) :=
    ⟨ae ah.out cj,ae ah.out ck,ae ah.out cn,ae ah.out co,ae ah.out cp⟩
   have b7:Y (D.cell? ⟨wr.1.size,0,AY⟩=C (I U bi)∧D.cell? ⟨wr.1.size,1,AY⟩=C (I U be)∧D.cell? ⟨wr.1.size,2,AY⟩=C (sq ux a8)∧D.cell? ⟨wr.1.size,3,AY⟩=C (N bl)∧D.cell? ⟨wr.1.size,4,AY⟩=C (F bk bj a7)):=(by rw[bc];exact⟨by simp,by simp,by simp,by simp,by simp⟩);clear c7 c8 cy c5 ak ai bX bc cj ck cn co cp;go_wp2_with fail;rw[<-cd.out];obtain⟨c0,c1,c2,c3,c4⟩:=b7.out;obtain⟨cq,cr,cs,ct,cu⟩:=b9.out;have cv:=ci.out;clear b7 b9 ci cd d0 d1 d2 d3 d4
   go_region_held3 (fun w'=>w'.cell? ⟨wr.1.size,0,AY⟩=C (I U bi)∧w'.cell? ⟨wr.1.size,1,AY⟩=C (I U be)∧w'.cell? ⟨wr.1.size,2,AY⟩=C (sq ux a8)∧w'.cell? ⟨wr.1.size,3,AY⟩=C (N bl)∧w'.cell? ⟨wr.1.size,4,AY⟩=C (F bk bj a7)∧w'.cell? ⟨L,M+j*5,AY⟩=C (I U b1)∧w'.cell? ⟨L,M+j*5+1,AY⟩=C (I U b0)∧w'.cell? ⟨L,M+j*5+2,AY⟩=C (sq ux bO)∧w'.cell? ⟨L,M+j*5+3,AY⟩=C (N b4)∧w'.cell? ⟨L,M+j*5+4,AY⟩=C (F b3 b2 bN)∧w'.cell? ⟨w.1.size+1,4,AY⟩=C (F (C ⟨L,M,AY⟩) o.length d)) (go_keep) (first|(go_at_call 132;refine(a6.out _ (below_drewN bq.out _)).mono ?_;rintro e w4 ⟨rfl,cx⟩;have J:=ee (w:=D) cx (by rfl) (by rfl) (by rfl) (by rfl);have z3:=ae J c0;have z4:=ae J c1;have em:=ae J c2;have en:=ae J c3;have ep:=ae J c4;have eq:=ae J cq;have er:=ae J cr;have eb:=ae J cs;have ec:=ae J ct;have eg:=ae J cu;have el:=ae J cv;have a5:=gQq J;clear cx J))
   clear z3 z4 em en ep eq er eb ec eg el c0 c1 c2 c3 c4 cq cr cs ct cu cv;cases r with
   |true=>
    have dr:Y (O Q.1.size Q w4∧∀m (h1:m<xs.length) (A:m<o.length),m<j+1->V.same xs[m] o[m]=AJ):=by
     refine⟨bp.out.trans (a5.out.mono bp.out.size),fun m h1 A eL=>?_⟩;by_cases d9:m=j
     ·subst d9;exact cb.out.symm
     ·exact bn.out m h1 A (by omega)
    clear a5 bn a6;go_wp2;go_roundw;case rel=>exact⟨j+1,by omega,by go_num,dr⟩
    case measure=>simp[intOf];omega
   |false=>
    have bv:Y (V.sameL xs o=AK):=V.sameL_at xs o j bb c6 cb.out.symm;have bs:=gQq (bq.out.trans (a5.out.mono bq.out.size));clear a5 bn a6;go_wp2;go_ret;exact⟨by rw[K.out,bv.out];rfl,bs.out⟩
  ·have bv:Y (V.sameL xs o=AJ):=V.sameL_all xs o b6.out (fun m h1 A=>ai.out.2 m h1 A (by omega));have bs:=gQq ak;have eC:¬(j:Int)<(xs.length:Int):=(by omega);clear ai ak bb;go_wp2;go_ret;exact⟨by rw[K.out,bv.out];rfl,bs.out⟩
end
end Go.Proofs.YtngmnfdaedlodaaGreatDoor

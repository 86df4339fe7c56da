import Derived.Test.YtbahfgdbjgkklaaGreatDoorB07
import Derived.Lib.Zigzag
import Derived.Test.YtbahfgdbjgkklaaGreatDoorB08
import Derived.Lib.VarintBits
set_option maxRecDepth 100000
set_option maxHeartbeats 1000000
namespace Go.Proofs.YtbahfgdbjgkklaaGreatDoor
variable{c pos:Nat}{l:L8}{s:ByteArray}
section
open Go.RowKit
theorem gk(k:IntKind)(x o:Int):bits .xor k x o=bits .xor k o x:=by
 unfold bits;simp only[BitVec.xor_comm]
theorem oT(x:Nat)(h:x<18446744073709551616):bits .xor .u64 (x:Int) 0=x:=by
 have:=bits_xor_u64_nat x 0 (by omega) (by decide);simpa using this
theorem mZ(x:Nat)(h:x<9223372036854775808):bits .xor .i64 (x:Int) 0=x:=by
 show IntKind.i64.wrap ((BitVec.ofInt 64 (x:Int) ^^^ BitVec.ofInt 64 0).toNat:Int)=_;have o:(BitVec.ofInt 64 (x:Int)).toNat=x:=by
  rw[BitVec.ofInt_natCast,BitVec.toNat_ofNat];exact Nat.mod_eq_of_lt (by omega)
 have y:(BitVec.ofInt 64 0).toNat=0:=by decide
 rw[BitVec.toNat_xor,o,y,Nat.xor_zero,IntKind.wrap_i64];omega
theorem tr(n:Int)(D:-9223372036854775808<=n)(E:n<=9223372036854775807):
  bits .xor .u64 (IntKind.u64.wrap (IntKind.u64.wrap n*2)) (IntKind.u64.wrap (n / 9223372036854775808))=((Leb.zig n:Nat):Int):=by
 by_cases y:0<=n
 ·have z:IntKind.u64.wrap (IntKind.u64.wrap n*2)=(((2*n).toNat:Nat):Int):=by
   rw[IntKind.wrap_u64,IntKind.wrap_u64];omega
  have o:IntKind.u64.wrap (n / 9223372036854775808)=0:=by
   rw[IntKind.wrap_u64];omega
  rw[z,o,oT _ (by omega)];unfold Leb.zig;rw[if_pos y];omega
 ·have o:IntKind.u64.wrap (n / 9223372036854775808)=IntKind.u64.max:=by
   have:IntKind.u64.max=18446744073709551615:=(by decide);rw[IntKind.wrap_u64,this];omega
  rw[o,gk,Lib.zigzag_neg D (by omega)];unfold Leb.zig Lib.zigzag;rw[if_neg y,if_neg y];omega
theorem qA(n:Int)(o:-9223372036854775808<=n)(y:n<=9223372036854775807)(w:World):
  Calls Tryz.prog 215 #[.int .i64 n] w fun e w'=>e=.returned (.int .u64 (Leb.zig n:Nat))∧w'=w:=by
 have H:=gQq (tr n o y);go_enter Tryz.func215,Tryz.ntmps215;go_wp2;go_ret;exact⟨by rw[<-H.out];rfl,rfl⟩
theorem tt(u:Nat)(h:u<18446744073709551616):
  bits .xor .i64 ((u:Int) / 2) (wrap64 (-wrap64 (bits .and .u64 (u:Int) 1)))=Leb.zag u:=by
 have z:((u:Int) / 2)=((u / 2:Nat):Int):=by omega
 rw[Lib.u64_and1 _ (by omega) (by omega),z];by_cases y:u % 2=0
 ·have o:wrap64 (-wrap64 ((u:Int) % 2))=0:=by
   have:(u:Int) % 2=0:=(by omega);rw[this];simp[wrap64]
  rw[o,mZ _ (by omega)];unfold Leb.zag;rw[if_pos y]
 ·have o:wrap64 (-wrap64 ((u:Int) % 2))=-1:=by
   have:(u:Int) % 2=1:=(by omega);rw[this];simp[wrap64]
  rw[o,gk,Lib.i64_not _ (by omega)];unfold Leb.zag;rw[if_neg y]
theorem qD(u:Nat)(h:u<18446744073709551616)(w:World):
  Calls Tryz.prog 246 #[.int .u64 u] w fun e w'=>e=.returned (.int .i64 (Leb.zag u))∧w'=w:=by
 have H:=gQq (tt u h);go_enter Tryz.func246,Tryz.ntmps246;go_wp2;go_ret;exact⟨by rw[<-H.out];rfl,rfl⟩
end
section
open Go.RowKit
theorem qt(x:Nat)(h:0<x)(o:x<18446744073709551616):1<=Lib.bitLen x:=by
 rw[Lib.bitLen_half x (by omega) o];omega
theorem mR(x:Nat)(h:x<128):Lib.bitLen x<=7:=Lib.bitLenAux_le 64 x 7 h
theorem qu(x:Nat)(h:0<x)(o:x<18446744073709551616):Lib.bitLen (x / 2*2+1)=Lib.bitLen x:=by
 rw[Lib.bitLen_half x (by omega) o,Lib.bitLen_half (x / 2*2+1) (by omega) (by omega)];congr 2;omega
theorem si(f:Nat):∀n:Nat,n<2*128 ^ f->n<18446744073709551616->(Leb.putF (f+1) n).length=(Lib.bitLen (n / 2*2+1)+6) / 7:=by
 induction f with
 |zero=>
  intro n h _;have E:n<2:=by simpa using h
  have e:n / 2*2+1=1:=by omega
  rw[e,Leb.putF,if_pos (by omega)];rfl
 |succ f ih=>
  intro n h I;by_cases z:n<128
  ·have y:=mR (n / 2*2+1) (by omega);have E:=qt (n / 2*2+1) (by omega) (by omega);rw[Leb.putF,if_pos z,List.length_singleton];omega
  ·have y:n / 128<2*128 ^ f:=by
    rw[Nat.pow_succ] at h;rw[Nat.div_lt_iff_lt_mul (by omega)];omega
   have o:=Lib.bitLen_shift 7 (n / 2*2+1) (by omega) (by omega);have D:(n / 2*2+1) / 2 ^ 7=n / 128:=(by omega);rw[D] at o;rw[Leb.putF,if_neg z,List.length_cons,ih (n / 128) y (by omega),qu (n / 128) (by omega) (by omega),o];omega
theorem tX(n:Nat)(o:n<18446744073709551616):(Leb.put n).length=(Lib.bitLen (n / 2*2+1)+6) / 7:=by
 have e:2*128 ^ 9=18446744073709551616:=by decide
 exact si 9 n (by rw[e];exact o) o
theorem wQ(n:Nat)(h:n<18446744073709551616):bits .or .u64 (n:Int) 1=((n / 2*2+1:Nat):Int):=by
 have o:=(bits_nat .u64 64 (by decide) wraps_u64 n 1 (by omega) (by decide)).2;have e:((1:Nat):Int)=1:=rfl;rw[e] at o;rw[o];congr 1;apply Nat.eq_of_testBit_eq;intro i;rw[Nat.testBit_or];cases i with
 |zero=>simp
 |succ i=>
  rw[Nat.testBit_succ,Nat.testBit_succ,Nat.testBit_succ];have y:(n / 2*2+1) / 2=n / 2:=by omega
  rw[y];simp
theorem wV(n:Nat)(z:n<18446744073709551616)(w:World):
  Calls Tryz.prog 177 #[.int .u64 n] w fun e w'=>e=.returned (.int .i64 ((Leb.put n).length:Nat))∧w'=w:=by
 have o:=gQq (sx (n / 2*2+1) (by omega) w);have y:=gQq (tX n z);have E:=gQq (wQ n z);have I:Lib.bitLen (n / 2*2+1)<=64:=Lib.bitLenAux_le 64 _ 64 (by omega);generalize Lib.bitLen (n / 2*2+1)=k at o y I;go_enter Tryz.func177,Tryz.ntmps177;go_wp2_with fail;rw[E.out];refine o.out.mono ?_;rintro e w' ⟨rfl,D⟩;rw[D];clear D w';go_wp2;go_ret;exact⟨by rw[y.out];go_num,rfl⟩
def Leb.judge(k c:Nat):Nat:=if k<10∧128<=c then 30 else if k=10∧1<c then 5 else if 1<k∧c=0 then 5 else 0
theorem lG(k c:Nat)(O:k<=10)(M:c<256)(w:World):
  Calls Tryz.prog 194 #[.int .i64 k,.int .u8 c] w fun e w'=>e=.returned (.int .i64 (Leb.judge k c:Nat))∧w'=w:=by
 have H:Hid (∀j:Nat,Leb.judge k c=j->Leb.judge k c=j):=fun _ h=>h;by_cases o:k<10∧128<=c
 ·have e:Leb.judge k c=30:=by unfold Leb.judge;rw[if_pos o]
  rw[e];have I:decide ((k:Int)<10)=true:=decide_eq_true (by omega);have D:decide ((128:Int)<=(c:Int))=true:=decide_eq_true (by omega);clear e;go_enter Tryz.func194,Tryz.ntmps194;go_wp2;go_ret;exact⟨rfl,rfl⟩
 ·by_cases y:k=10∧1<c
  ·have e:Leb.judge k c=5:=(by unfold Leb.judge;rw[if_neg o,if_pos y]);rw[e];obtain⟨rfl,y⟩:=y;have D:decide ((1:Int)<(c:Int))=true:=decide_eq_true (by omega);clear e o;go_enter Tryz.func194,Tryz.ntmps194;go_wp2;go_ret;exact⟨rfl,rfl⟩
  ·by_cases z:1<k∧c=0
   ·have e:Leb.judge k c=5:=(by unfold Leb.judge;rw[if_neg o,if_neg y,if_pos z]);rw[e];obtain⟨z,rfl⟩:=z;clear e o y;by_cases E:k=10
    ·subst E;go_enter Tryz.func194,Tryz.ntmps194;go_wp2;go_ret;exact⟨rfl,rfl⟩
    ·have I:(k:Int)<10:=(by omega);have D:((k:Int)==10)=false:=(by rw[beq_eq_false_iff_ne];omega);have J:(1:Int)<(k:Int):=(by omega);go_enter Tryz.func194,Tryz.ntmps194;go_wp2;go_ret;exact⟨rfl,rfl⟩
   ·have e:Leb.judge k c=0:=(by unfold Leb.judge;rw[if_neg o,if_neg y,if_neg z]);rw[e];clear e;by_cases E:k=10
    ·subst E;have D:¬(1:Int)<(c:Int):=(by omega);have J:((c:Int)==0)=false:=(by rw[beq_eq_false_iff_ne];omega);clear o y z;go_enter Tryz.func194,Tryz.ntmps194;go_wp2;go_ret;exact⟨rfl,rfl⟩
    ·have I:(k:Int)<10:=(by omega);have D:((k:Int)==10)=false:=(by rw[beq_eq_false_iff_ne];omega);have J:¬(128:Int)<=(c:Int):=(by omega);by_cases Q:1<k
     ·have K:(1:Int)<(k:Int):=(by omega);have L:((c:Int)==0)=false:=(by rw[beq_eq_false_iff_ne];omega);clear o y z;go_enter Tryz.func194,Tryz.ntmps194;go_wp2;go_ret;exact⟨rfl,rfl⟩
     ·have K:¬(1:Int)<(k:Int):=(by omega);clear o y z;go_enter Tryz.func194,Tryz.ntmps194;go_wp2;go_ret;exact⟨rfl,rfl⟩
end
section
open Go.RowKit
theorem ss(w:World)(c:Nat)(L:c<=1000000):∃w',(Instr.makeSlice 22 (.int .i64 0) (.int .i64 (c:Int))).run Tryz.prog w=.ok (.slice (some ⟨w.1.size,0,none⟩) 0 c) w'∧bh w' w.1.size w.1.size c []∧Below w.1.size w w':=by
 obtain⟨i,E,K,J,D⟩:=info_parts kh;obtain⟨w',o,y,z⟩:=run_make_own (P:=Tryz.prog) w w.1.size 22 5 i (.int .u8 0) 1 Tryz.underlying22 E K J .i64 .i64 c (by rw[D];omega) (by unfold maxLen;omega) gQx;exact⟨w',o,y,gQz.grown z gQx (fun k I=>by cases I)⟩
theorem pQ(m:Nat):bits .or .u8 ((m:Int) % 256) 128=((m % 128+128:Nat):Int):=by
 rw[Lib.u8_or128_any _ (by omega) (by omega)];omega
theorem dT(n:Nat)(I:n<18446744073709551616)(w:World):
  Calls Tryz.prog 107 #[.int .u64 n] w fun e w'=>∃g cap,e=.returned (.slice (some ⟨g,0,none⟩) (Leb.put n).length cap)∧bh w' w.1.size g cap (Leb.put n)∧Below w.1.size w w':=by
 have X:=gQq (Leb.putting_start I);have D:=gQq (wV n I w);have Z:=Leb.put_length_le n;obtain⟨k,O⟩:∃k,k=(Leb.put n).length:=⟨_,rfl⟩;rw[<-O] at D Z;clear O;obtain⟨w1,ak,Q,M⟩:=ss w k (by omega);have V:=gQq Q;have U:=gQq M;clear Q M;go_enter Tryz.func107,Tryz.ntmps107;go_wp2_with fail;refine D.out.mono ?_;rintro e w' ⟨rfl,S⟩;rw[S];clear S w' D;go_wp2;go_loopw [0,3] (fun J ah wr=>∃(m:Nat) (xs:L8),J=.int .u64 m∧m<18446744073709551616∧xs.length<=9∧Hid (Leb.Putting n xs m∧Has wr w.1.size ah xs∧Below w.1.size w wr)) (fun J _ _=>(intOf J).toNat);case atStart=>exact⟨n,[],rfl,I,by simp,X.out,V.out.has,U.out⟩
 case round=>
  obtain⟨m,xs,rfl,aj,a0,y⟩:=hrel;have L:=y.out.2.2.size;have K:=gQq y.out.2.1;by_cases Y:127<m
  ·have z:=Leb.byte_high m;have o:=gQq (Leb.putting_next y.out.1 Y);generalize UInt8.ofNat (m % 128+128)=c at z o;have ab:bits .or .u8 ((m:Int) % 256) 128=(c.toNat:Int):=(by rw[pQ,z]);go_wp2_with (at_builtin;refine eX K.out c (by omega) L (by first | exact ab | omega | (rw[z];omega)) rfl rfl rfl rfl rfl ?_;intro g cap W E hb);go_roundw;case rel=>exact⟨m / 128,xs++[c],by go_num,by omega,by have:=o.out.1;exact this,o.out,by have:=E.has;simpa using this,y.out.2.2.trans hb⟩
   case measure=>simp[intOf];omega
  ·have z:=Leb.byte_low m (by omega);have o:=gQq (Leb.putting_last y.out.1 (by omega));generalize UInt8.ofNat m=c at z o;go_wp2_with (at_builtin;refine eX K.out c (by omega) L (by omega) rfl rfl rfl rfl rfl ?_;intro g cap W E hb);go_ret;refine⟨g,cap,?_,?_,y.out.2.2.trans hb⟩
   ·rw[<-o.out];simp
   ·rw[<-o.out];exact E
end
section
open Go.RowKit
theorem xf(p:OA)(c n:Nat)(a:Int)(h:a<0∨(n:Int)<a)(w:World):
  Calls Tryz.prog 135 #[.slice p n c,.int .i64 a] w fun e w'=>e=.returned (.tuple #[.int .u64 0,.int .i64 0,.int .i64 30])∧w'=w:=by
 by_cases o:a<0
 ·go_enter Tryz.func135,Tryz.ntmps135;go_wp2
  go_step3
  go_wp2;try rw[Exit.noGoto_ret]
  go_ret3
  exact⟨rfl,rfl⟩
 ·have y:(n:Int)<a:=by omega
  have z:decide (a<0)=false:=decide_eq_false o;go_enter Tryz.func135,Tryz.ntmps135;go_wp2
  go_step3
  go_wp2;try rw[Exit.noGoto_ret]
  go_ret3
  exact⟨rfl,rfl⟩
theorem xg(p:OA)(c n:Nat)(w:World):
  Calls Tryz.prog 135 #[.slice p n c,.int .i64 n] w fun e w'=>e=.returned (.tuple #[.int .u64 0,.int .i64 0,.int .i64 30])∧w'=w:=by
 have y:=gQq (lG 0 128 (by decide) (by decide) w);have J:Leb.judge 0 128=30:=by decide
 rw[J] at y;clear J;cases p with
 |none=>
  go_enter Tryz.func135,Tryz.ntmps135;go_wp2_with fail
  go_step3
  go_wp2_with fail
  go_step3
  go_wp2_with fail;go_loop [7,8,9,25] (fun D E I z=>D=.int .u64 0∧E=.int .i64 0∧I=.int .u8 128∧z=.int .i64 0) (fun _ _ _ _=>0);case atStart=>exact⟨rfl,rfl,rfl,rfl⟩
  case round=>
   obtain⟨rfl,rfl,rfl,rfl⟩:=hrel;go_wp2_with fail;refine y.out.mono ?_;rintro e w' ⟨rfl,o⟩;rw[o];clear o w';go_wp2;try rw[Exit.noGoto_ret]
   go_ret3
   exact⟨rfl,rfl⟩
 |some p=>
  by_cases h:c=n
  all_goals
   go_enter Tryz.func135,Tryz.ntmps135;go_wp2_with fail
   go_step3
   go_wp2_with fail
   go_step3
   go_wp2_with fail;go_loop [7,8,9,25] (fun D E I z=>D=.int .u64 0∧E=.int .i64 0∧I=.int .u8 128∧z=.int .i64 0) (fun _ _ _ _=>0);case atStart=>exact⟨rfl,rfl,rfl,rfl⟩
   case round=>
    obtain⟨rfl,rfl,rfl,rfl⟩:=hrel;go_wp2_with fail;refine y.out.mono ?_;rintro e w' ⟨rfl,o⟩;rw[o];clear o w';go_wp2;try rw[Exit.noGoto_ret]
    go_ret3
    exact⟨rfl,rfl⟩
theorem k8:∀v:Fin 256,bits .andNot .u8 (v.val:Int) 128=((v.val % 128:Nat):Int):=by decide +kernel
theorem te(v:Nat)(h:v<256):bits .andNot .u8 (v:Int) 128=((v % 128:Nat):Int):=k8 ⟨v,h⟩
theorem uf(m x k:Nat)(o:m<128 ^ k)(E:x*128 ^ k<18446744073709551616)(D:m<18446744073709551616):bits .or .u64 (m:Int) (IntKind.u64.wrap ((x:Int)*2 ^ (7*k)))=((m+x*128 ^ k:Nat):Int):=by
 have e:(2:Nat) ^ (7*k)=128 ^ k:=by rw[Nat.pow_mul]
 have y:((x:Int)*2 ^ (7*k))=((x*128 ^ k:Nat):Int):=by
  rw[<-e];push_cast;rfl
 have z:IntKind.u64.wrap (((x*128 ^ k:Nat):Int))=((x*128 ^ k:Nat):Int):=by
  rw[IntKind.wrap_u64];omega
 rw[y,z,bits_join_low .u64 64 (by decide) wraps_u64 (7*k) (m:Int) _ (by omega) (by rw[<-e] at o;exact_mod_cast o) (by omega) (by omega) (by rw[<-e];push_cast;exact Int.mul_emod_left _ _) (by omega)];omega
theorem lB(m v k:Nat)(o:m<128 ^ k)(y:m+v % 128*128 ^ k<18446744073709551616):bits .or .u64 (m:Int) (IntKind.u64.wrap ((v:Int) % 128*2 ^ (7*k)))=((m+v % 128*128 ^ k:Nat):Int):=by
 have e:((v:Int) % 128)=((v % 128:Nat):Int):=by omega
 rw[e];exact uf m (v % 128) k o (by omega) (by omega)
theorem f7(r:L8)(k:Nat)(h:k<r.length):Leb.val (r.take (k+1))=Leb.val (r.take k)+r[k].toNat % 128*128 ^ k:=by
 induction r generalizing k with
 |nil=>simp at h
 |cons c r ih=>
  cases k with
  |zero=>simp[Leb.val]
  |succ k=>
   have:=ih k (by simpa using h);simp only[List.take_succ_cons,Leb.val,List.getElem_cons_succ,this,Nat.pow_succ];rw[Nat.add_mul,Nat.mul_assoc];omega
theorem fC(r:L8)(k:Nat):Leb.val (r.take k)<128 ^ k:=by
 induction k generalizing r with
 |zero=>simp[Leb.val]
 |succ k ih=>
  cases r with
  |nil=>simp only[List.take_nil,Leb.val];exact Nat.pow_pos (by omega)
  |cons c r=>
   have:=ih r;simp only[List.take_succ_cons,Leb.val,Nat.pow_succ];omega
theorem yw(b o c a:Nat)(l:L8)(b3:l.length<=140737488351232)(b4:l.length<=c)(b0:a<l.length)(w:World)(a9:dQ w b o l):
  Calls Tryz.prog 135 #[.slice (some ⟨b,o,none⟩) l.length c,.int .i64 a] w fun e w'=>e=.returned (eF l a)∧w'=w:=by
 obtain⟨r,ab⟩:∃r,r=l.drop a:=⟨_,rfl⟩;have a3:r.length=l.length-a:=by rw[ab,List.length_drop]
 have Q:Hid (∀j (h:j<r.length),w.cell? ⟨b,o+a+j,none⟩=some (.int .u8 (r[j].toNat:Int))):=by
  intro j h;have:=a9 (a+j) (by omega);rw[Nat.add_assoc,this];subst ab;rw[List.getElem_drop]
 have I:Hid (∀e n k,Leb.get r=⟨e,n,k⟩->Leb.get (l.drop a)=⟨e,n,k⟩):=by
  intro e n k h;rw[<-ab];exact h
 have b1:¬c=a:=by omega
 have K:Hid (∀k v:Nat,k<=10->v<256->Calls Tryz.prog 194 #[.int .i64 k,.int .u8 v] w fun e w'=>e=.returned (.int .i64 (Leb.judge k v:Nat))∧w'=w):=fun k v S M=>lG k v S M w;clear a9 ab;go_enter Tryz.func135,Tryz.ntmps135;go_wp2_with fail
 go_step3
 go_wp2_with fail
 go_step3
 go_wp2_with fail;go_loop [7,8,9,25] (fun bN a6 bO bs=>∃k m v:Nat,k<=9∧k<=r.length∧bN=.int .u64 m∧a6=.int .i64 k∧bO=.int .u8 v∧bs=.int .i64 k∧127<v∧v<256∧m<18446744073709551616∧Hid (m=Leb.val (r.take k)∧∀j (h:j<r.length),j<k->127<r[j].toNat)) (fun _ a6 _ _=>10-(intOf a6).toNat);case atStart=>exact⟨0,0,128,by omega,by omega,rfl,rfl,rfl,rfl,by omega,by omega,by omega,rfl,fun j h bT=>by omega⟩
 case round=>
  obtain⟨k,m,v,b2,bb,rfl,rfl,rfl,rfl,b7,br,b6,y⟩:=hrel;by_cases ak:k=r.length
  ·have V:=Leb.high_eq 10 r k (by omega) (by omega) y.out.2 (.inr (.inl ak));have J:=gQq (cU l a 30 (by omega) (I.out _ _ _ ((Leb.getF_high 10 true r).2.1 (by rw[V];exact ak) (by omega))));have hj:Leb.judge k v=30:=(by unfold Leb.judge;rw[if_pos ⟨by omega,by omega⟩]);have z:=gQq (K.out k v (by omega) br);rw[hj] at z;have bn:¬k<l.length-a:=(by omega);clear y V hj Q I K ak a3 bb;go_wp2_with fail;refine z.out.mono ?_;rintro e w' ⟨rfl,D⟩;rw[D];clear D w';go_wp2;try rw[Exit.noGoto_ret]
   go_ret3
   exact⟨by rw[J.out];rfl,rfl⟩
  ·have Z:k<r.length:=(by omega);have bp:=Q.out k Z;have W:r[k].toNat<256:=r[k].toNat_lt;have bn:k<l.length-a:=(by omega);have bk:=te r[k].toNat W;obtain⟨v',a4⟩:∃v',v'=r[k].toNat:=⟨_,rfl⟩;rw[<-a4] at bp W bk;have L:=gQq a4;have aj:=gQq a3;clear a4 a3;by_cases X:127<v'
   ·have ah:Hid (∀j (h:j<r.length),j<k+1->127<r[j].toNat):=by
     intro j h hj;by_cases e:j=k
     ·subst e;rw[<-L.out];exact X
     ·exact y.out.2 j h (by omega)
    by_cases a8:k=9
    ·have J:=gQq (cU l a 5 (by omega) (I.out _ _ _ ((Leb.getF_high 10 true r).1 (Leb.high_eq 10 r 10 (by omega) (by omega) (fun j h hj=>ah.out j h (by omega)) (.inl rfl)))));have hj:Leb.judge 10 v'=5:=(by unfold Leb.judge;rw[if_neg (by omega),if_pos ⟨rfl,by omega⟩]);have z:=gQq (K.out 10 v' (by omega) W);rw[hj] at z;clear y ah Q I K L aj hj;subst a8;go_wp2_with fail;refine z.out.mono ?_;rintro e w' ⟨rfl,D⟩;rw[D];clear D w';go_wp2;try rw[Exit.noGoto_ret]
     go_ret3
     exact⟨by rw[J.out];rfl,rfl⟩
    ·have bX:((k:Int)+1==10)=false:=(by rw[beq_eq_false_iff_ne];omega);have Y:k<=8:=(by omega);have O:=f7 r k Z;rw[<-L.out,<-y.out.1] at O;have bq:(128:Nat) ^ (k+1)<=128 ^ 9:=Nat.pow_le_pow_right (by omega) (by omega);have bi:(128:Nat) ^ 9=9223372036854775808:=(by decide);have bc:=fC r (k+1);rw[O] at bc;have a0:m+v' % 128*128 ^ k<18446744073709551616:=(by omega);have a2:=lB m v' k (by rw[y.out.1];exact fC r k) a0;have a7:Hid (m+v' % 128*128 ^ k=Leb.val (r.take (k+1))):=O.symm;clear a8 O bq bi bc Q I K y;generalize m+v' % 128*128 ^ k=be at a2 a7 a0;go_wp2_with fail;go_round;case rel=>exact⟨k+1,be,v',by omega,by omega,rfl,by go_num,rfl,by go_num,X,W,a0,a7.out,ah.out⟩
     case measure=>simp[intOf];omega
   ·have V:=Leb.high_eq 10 r k (by omega) bb y.out.2 (.inr (.inr ⟨Z,by rw[<-L.out];exact X⟩));have E:=(Leb.getF_high 10 true r).2.2 (by omega) (by omega);simp only[V] at E;rw[<-L.out] at E;have b5:v'<128:=(by omega);by_cases U:(k+1=10∧1<v')∨((true=false∨0<k)∧v'=0)
    ·rw[if_pos U] at E;have J:=gQq (cU l a 5 (by omega) (I.out _ _ _ E));have hj:Leb.judge (k+1) v'=5:=by
      unfold Leb.judge;rw[if_neg (by omega)];by_cases S:k+1=10∧1<v'
      ·rw[if_pos S]
      ·rcases U with M | ⟨M | M,bj⟩
       ·exact absurd M S
       ·cases M
       ·rw[if_neg S,if_pos ⟨by omega,bj⟩]
     have z:=gQq (K.out (k+1) v' (by omega) W);rw[hj] at z;clear y Q I K L aj hj E V U X;go_wp2_with fail;refine z.out.mono ?_;rintro e w' ⟨rfl,D⟩;rw[D];clear D w';go_wp2;try rw[Exit.noGoto_ret]
     go_ret3
     exact⟨by rw[J.out];rfl,rfl⟩
    ·rw[if_neg U] at E;have a1:=Leb.get_ok r (by rw[show Leb.get r=_ from E]);rw[show Leb.get r=_ from E] at a1;have Y:Leb.val (r.take (k+1))<18446744073709551616:=a1.1;have O:=f7 r k Z;rw[<-L.out,<-y.out.1] at O;have J:=gQq (gZ l a _ _ (I.out _ _ _ E));rw[O] at J Y;have a2:=lB m v' k (by rw[y.out.1];exact fC r k) Y;have hj:Leb.judge (k+1) v'=0:=by
      unfold Leb.judge;rw[if_neg (by omega),if_neg (by omega),if_neg];rintro⟨S,M⟩;exact U (.inr ⟨.inr (by omega),M⟩)
     have z:=gQq (K.out (k+1) v' (by omega) W);rw[hj] at z;clear y Q I K L aj hj E V U X a1 O;generalize m+v' % 128*128 ^ k=be at a2 J Y;go_wp2_with fail;refine z.out.mono ?_;rintro e w' ⟨rfl,D⟩;rw[D];clear D w';go_wp2;try rw[Exit.noGoto_ret]
     go_ret3
     exact⟨by rw[J.out] <;> go_num,rfl⟩
theorem g9(p:OA)(c:Nat)(l:L8)(a:Int)(D:l.length<=140737488351232)(E:l.length<=c)(w:World)(h:At w p l):
  Calls Tryz.prog 135 #[.slice p l.length c,.int .i64 a] w fun e w'=>e=.returned (eF l a)∧w'=w:=by
 by_cases o:a<0∨(l.length:Int)<a
 ·rw[gY l a (by omega)];exact xf p c l.length a o w
 ·obtain⟨n,rfl⟩:∃n:Nat,a=(n:Int):=⟨a.toNat,by omega⟩;by_cases y:n=l.length
  ·rw[gY l n (by omega),y];exact xg p c l.length w
  ·obtain⟨b,I,rfl,_,z⟩:=aC h (by omega);exact yw b I c n l D E (by omega) w z
end
section
open Go
theorem cJ{k:Nat}(z:s.data.toList.drop pos=l)(y:k<l.length):pos+k<s.size∧s.get! (pos+k)=l[k]:=by
 subst z;have o:pos+k<s.size:=by
  rw[List.length_drop,Array.length_toList] at y;show pos+k<s.data.size;omega
 refine⟨o,?_⟩;rw[List.getElem_drop,Array.getElem_toList];exact get_at s (pos+k) o
theorem rN(o:s.data.toList.drop pos=l)(y:pos<=s.size):s.size=pos+l.length:=by
 subst o;rw[List.length_drop,Array.length_toList];show s.data.size=_;have:pos<=s.data.size:=y;omega
theorem mF(s:ByteArray)(i:Nat):Utf8.decode s i=(let at' (k:Nat):Nat:=(s.get! (i+k)).toNat
 let eU (k:Nat):Bool:=i+k<s.size&&at' k / 64==2
 let b0:=at' 0
 if b0<0x80 then (b0,1)
 else if b0 / 32==6&&eU 1 then
  let c:=(b0 % 32)*64+at' 1 % 64
  if c≥0x80 then (c,2) else (Utf8.runeError,1)
 else if b0 / 16==14&&eU 1&&eU 2 then
  let c:=(b0 % 16)*4096+(at' 1 % 64)*64+at' 2 % 64
  if c≥0x800&&Utf8.valid c then (c,3) else (Utf8.runeError,1)
 else if b0 / 8==30&&eU 1&&eU 2&&eU 3 then
  let c:=(b0 % 8)*262144+(at' 1 % 64)*4096+(at' 2 % 64)*64+at' 3 % 64
  if c≥0x10000&&Utf8.valid c then (c,4) else (Utf8.runeError,1)
 else (Utf8.runeError,1)):=rfl
theorem iz(c least:Nat):(Utf8.valid c&&decide (least<=c))=U8.may least c:=by
 unfold Utf8.valid U8.may;rw[Bool.eq_iff_iff];simp only[Bool.and_eq_true,Bool.or_eq_true,decide_eq_true_eq,Bool.not_eq_true',Bool.and_eq_false_iff,decide_eq_false_iff_not];omega
def dec:L8->Nat×Nat
 | []=>(65533,1)
 |c0::r=>
  if c0.toNat<128 then (c0.toNat,1)
  else match r with
   | []=>(65533,1)
   |c1::r1=>
    if 192<=c0.toNat∧c0.toNat<224 then (if (128<=c1.toNat∧c1.toNat<192)∧128<=(c0.toNat-192)*64+c1.toNat-128 then ((c0.toNat-192)*64+c1.toNat-128,2) else (65533,1))
    else match r1 with
     | []=>(65533,1)
     |c2::r2=>
      if 224<=c0.toNat∧c0.toNat<240 then (if (128<=c1.toNat∧c1.toNat<192)∧(128<=c2.toNat∧c2.toNat<192)∧U8.may 2048 (((c0.toNat-224)*64+c1.toNat-128)*64+c2.toNat-128) then (((c0.toNat-224)*64+c1.toNat-128)*64+c2.toNat-128,3) else (65533,1))
      else match r2 with
       | []=>(65533,1)
       |c3::_=>
        if 240<=c0.toNat∧c0.toNat<248 then (if (128<=c1.toNat∧c1.toNat<192)∧(128<=c2.toNat∧c2.toNat<192)∧(128<=c3.toNat∧c3.toNat<192)∧U8.may 65536 ((((c0.toNat-240)*64+c1.toNat-128)*64+c2.toNat-128)*64+c3.toNat-128) then ((((c0.toNat-240)*64+c1.toNat-128)*64+c2.toNat-128)*64+c3.toNat-128,4) else (65533,1))
        else (65533,1)
theorem uM(c:UInt8):(c.toNat / 32==6)=decide (192<=c.toNat∧c.toNat<224):=by rw[Bool.eq_iff_iff];simp;omega
theorem xL(c:UInt8):(c.toNat / 16==14)=decide (224<=c.toNat∧c.toNat<240):=by rw[Bool.eq_iff_iff];simp;omega
theorem zt(c:UInt8):(c.toNat / 8==30)=decide (240<=c.toNat∧c.toNat<248):=by rw[Bool.eq_iff_iff];simp;omega
theorem follows(c:UInt8):(c.toNat / 64==2)=decide (128<=c.toNat∧c.toNat<192):=by rw[Bool.eq_iff_iff];simp;omega
theorem ku(E:s.data.toList.drop pos=l)(Z:pos<s.size):Utf8.decode s pos=dec l:=by
 have I:=rN E (Nat.le_of_lt Z);have W:Utf8.runeError=65533:=rfl;match l,E,I with
 | [],_,h=>simp at h;omega
 | [c0],E,I=>
  have K:=(cJ E (k:=0) (by simp)).2;have S:decide (pos+1<s.size)=false:=decide_eq_false (by simp at I;omega);have U:decide (pos+2<s.size)=false:=decide_eq_false (by simp at I;omega);have X:decide (pos+3<s.size)=false:=decide_eq_false (by simp at I;omega);simp only[List.getElem_cons_zero] at K;rw[mF];simp only[K,S,Bool.false_and,Bool.and_false,Bool.false_eq_true,if_false,W];unfold dec;rfl
 | [c0,c1],E,I=>
  have K:=(cJ E (k:=0) (by simp)).2;have M:=(cJ E (k:=1) (by simp)).2;have S:decide (pos+1<s.size)=true:=decide_eq_true (by simp at I;omega);have U:decide (pos+2<s.size)=false:=decide_eq_false (by simp at I;omega);simp only[List.getElem_cons_zero,List.getElem_cons_succ] at K M;rw[mF];simp only[K,M,S,U,Bool.false_and,Bool.and_false,Bool.true_and,Bool.false_eq_true,if_false,W,uM,follows];simp only[dec];by_cases J:c0.toNat<128
  ·rw[if_pos J,if_pos J]
  ·rw[if_neg J,if_neg J];by_cases D:192<=c0.toNat∧c0.toNat<224
   ·by_cases y:128<=c1.toNat∧c1.toNat<192
    ·rw[if_pos (by simp[D,y]),if_pos D];have e:c0.toNat % 32*64+c1.toNat % 64=(c0.toNat-192)*64+c1.toNat-128:=(by omega);rw[e];by_cases z:128<=(c0.toNat-192)*64+c1.toNat-128
     ·rw[if_pos z,if_pos ⟨y,z⟩]
     ·rw[if_neg z,if_neg (fun o=>z o.2)]
    ·rw[if_neg (by simp[y]),if_pos D,if_neg (fun o=>y o.1)]
   ·rw[if_neg (by simp[D]),if_neg D]
 | [c0,c1,c2],E,I=>
  have K:=(cJ E (k:=0) (by simp)).2;have M:=(cJ E (k:=1) (by simp)).2;have V:=(cJ E (k:=2) (by simp)).2;have S:decide (pos+1<s.size)=true:=decide_eq_true (by simp at I;omega);have U:decide (pos+2<s.size)=true:=decide_eq_true (by simp at I;omega);have X:decide (pos+3<s.size)=false:=decide_eq_false (by simp at I;omega);simp only[List.getElem_cons_zero,List.getElem_cons_succ] at K M V;rw[mF];simp only[K,M,V,S,U,X,Bool.false_and,Bool.and_false,Bool.true_and,Bool.false_eq_true,if_false,W,uM,xL,follows];simp only[dec];by_cases J:c0.toNat<128
  ·rw[if_pos J,if_pos J]
  ·rw[if_neg J,if_neg J];by_cases D:192<=c0.toNat∧c0.toNat<224
   ·by_cases y:128<=c1.toNat∧c1.toNat<192
    ·rw[if_pos (by simp[D,y]),if_pos D];have e:c0.toNat % 32*64+c1.toNat % 64=(c0.toNat-192)*64+c1.toNat-128:=(by omega);rw[e];by_cases z:128<=(c0.toNat-192)*64+c1.toNat-128
     ·rw[if_pos z,if_pos ⟨y,z⟩]
     ·rw[if_neg z,if_neg (fun o=>z o.2)]
    ·rw[if_neg (by simp[y]),if_neg (by simp[y]),if_pos D,if_neg (fun o=>y o.1)]
   ·rw[if_neg (by simp[D]),if_neg D];by_cases L:224<=c0.toNat∧c0.toNat<240
    ·rw[if_pos L];by_cases y:(128<=c1.toNat∧c1.toNat<192)∧128<=c2.toNat∧c2.toNat<192
     ·rw[if_pos (by simp[L,y])];have e:c0.toNat % 16*4096+c1.toNat % 64*64+c2.toNat % 64=((c0.toNat-224)*64+c1.toNat-128)*64+c2.toNat-128:=(by omega);rw[e];have Q:=iz (((c0.toNat-224)*64+c1.toNat-128)*64+c2.toNat-128) 2048;by_cases z:U8.may 2048 (((c0.toNat-224)*64+c1.toNat-128)*64+c2.toNat-128)=true
      ·rw[if_pos (by rw[Bool.and_comm,<-z];exact Q),if_pos ⟨y.1,y.2,z⟩]
      ·rw[if_neg (by rw[Bool.and_comm];exact fun o=>z (Q.symm.trans o)),if_neg (fun o=>z o.2.2)]
     ·rw[if_neg (by simp only[Bool.and_eq_true,decide_eq_true_eq];exact fun o=>y ⟨o.1.2,o.2⟩),if_neg (fun o=>y ⟨o.1,o.2.1⟩)]
    ·rw[if_neg (by simp[L]),if_neg L]
 |c0::c1::c2::c3::t,E,I=>
  have K:=(cJ E (k:=0) (by simp)).2;have M:=(cJ E (k:=1) (by simp)).2;have V:=(cJ E (k:=2) (by simp)).2;have Y:=(cJ E (k:=3) (by simp)).2;have S:decide (pos+1<s.size)=true:=decide_eq_true (by simp at I;omega);have U:decide (pos+2<s.size)=true:=decide_eq_true (by simp at I;omega);have X:decide (pos+3<s.size)=true:=decide_eq_true (by simp at I;omega);simp only[List.getElem_cons_zero,List.getElem_cons_succ] at K M V Y;rw[mF];simp only[K,M,V,Y,S,U,X,Bool.true_and,W,uM,xL,zt,follows];simp only[dec];by_cases J:c0.toNat<128
  ·rw[if_pos J,if_pos J]
  ·rw[if_neg J,if_neg J];by_cases D:192<=c0.toNat∧c0.toNat<224
   ·have L:¬(224<=c0.toNat∧c0.toNat<240):=(by omega);have O:¬(240<=c0.toNat∧c0.toNat<248):=(by omega);by_cases y:128<=c1.toNat∧c1.toNat<192
    ·rw[if_pos (by simp[D,y]),if_pos D];have e:c0.toNat % 32*64+c1.toNat % 64=(c0.toNat-192)*64+c1.toNat-128:=(by omega);rw[e];by_cases z:128<=(c0.toNat-192)*64+c1.toNat-128
     ·rw[if_pos z,if_pos ⟨y,z⟩]
     ·rw[if_neg z,if_neg (fun o=>z o.2)]
    ·rw[if_neg (by simp[y]),if_neg (by simp[L]),if_neg (by simp[O]),if_pos D,if_neg (fun o=>y o.1)]
   ·rw[if_neg (by simp[D]),if_neg D];by_cases L:224<=c0.toNat∧c0.toNat<240
    ·have O:¬(240<=c0.toNat∧c0.toNat<248):=(by omega);rw[if_pos L];by_cases y:(128<=c1.toNat∧c1.toNat<192)∧128<=c2.toNat∧c2.toNat<192
     ·rw[if_pos (by simp[L,y])];have e:c0.toNat % 16*4096+c1.toNat % 64*64+c2.toNat % 64=((c0.toNat-224)*64+c1.toNat-128)*64+c2.toNat-128:=(by omega);rw[e];have Q:=iz (((c0.toNat-224)*64+c1.toNat-128)*64+c2.toNat-128) 2048;by_cases z:U8.may 2048 (((c0.toNat-224)*64+c1.toNat-128)*64+c2.toNat-128)=true
      ·rw[if_pos (by rw[Bool.and_comm,<-z];exact Q),if_pos ⟨y.1,y.2,z⟩]
      ·rw[if_neg (by rw[Bool.and_comm];exact fun o=>z (Q.symm.trans o)),if_neg (fun o=>z o.2.2)]
     ·rw[if_neg (by simp only[Bool.and_eq_true,decide_eq_true_eq];exact fun o=>y ⟨o.1.2,o.2⟩),if_neg (by simp[O]),if_neg (fun o=>y ⟨o.1,o.2.1⟩)]
    ·rw[if_neg (by simp[L]),if_neg L];by_cases O:240<=c0.toNat∧c0.toNat<248
     ·rw[if_pos O];by_cases y:(128<=c1.toNat∧c1.toNat<192)∧(128<=c2.toNat∧c2.toNat<192)∧128<=c3.toNat∧c3.toNat<192
      ·rw[if_pos (by simp[O,y])];have e:c0.toNat % 8*262144+c1.toNat % 64*4096+c2.toNat % 64*64+c3.toNat % 64=(((c0.toNat-240)*64+c1.toNat-128)*64+c2.toNat-128)*64+c3.toNat-128:=(by omega);rw[e];have Q:=iz ((((c0.toNat-240)*64+c1.toNat-128)*64+c2.toNat-128)*64+c3.toNat-128) 65536;by_cases z:U8.may 65536 ((((c0.toNat-240)*64+c1.toNat-128)*64+c2.toNat-128)*64+c3.toNat-128)=true
       ·rw[if_pos (by rw[Bool.and_comm,<-z];exact Q),if_pos ⟨y.1,y.2.1,y.2.2,z⟩]
       ·rw[if_neg (by rw[Bool.and_comm];exact fun o=>z (Q.symm.trans o)),if_neg (fun o=>z o.2.2.2)]
      ·rw[if_neg (by simp only[Bool.and_eq_true,decide_eq_true_eq];exact fun o=>y ⟨o.1.1.2,o.1.2,o.2⟩),if_neg (fun o=>y ⟨o.1,o.2.1,o.2.2.1⟩)]
     ·rw[if_neg (by simp[O]),if_neg O]
theorem jw{v:Nat}(h:v<2048)(least:Nat):U8.may least v=decide (least<=v):=by
 unfold U8.may;rw[Bool.eq_iff_iff];simp only[Bool.and_eq_true,decide_eq_true_eq,Bool.not_eq_true',Bool.and_eq_false_iff,decide_eq_false_iff_not];omega
theorem xP(h:c<128):U8.kind c=some (1,c,0):=by unfold U8.kind;rw[if_pos h]
theorem xO(h:192<=c∧c<224):U8.kind c=some (2,c-192,128):=by unfold U8.kind;rw[if_neg (by omega),if_pos h]
theorem xN(h:224<=c∧c<240):U8.kind c=some (3,c-224,2048):=by unfold U8.kind;rw[if_neg (by omega),if_neg (by omega),if_pos h]
theorem xM(h:240<=c∧c<248):U8.kind c=some (4,c-240,65536):=by unfold U8.kind;rw[if_neg (by omega),if_neg (by omega),if_neg (by omega),if_pos h]
theorem zu(o:¬c<128)(y:¬(192<=c∧c<224))(z:¬(224<=c∧c<240))(D:¬(240<=c∧c<248)):U8.kind c=none:=by unfold U8.kind;rw[if_neg o,if_neg y,if_neg z,if_neg D]
theorem xm(h:U8.one l=none):dec l=(65533,1):=by
 match l,h with
 | [],_=>rfl
 |c0::r,h=>
  simp only[U8.one] at h;by_cases y:c0.toNat<128
  ·rw[xP y] at h;simp[U8.conts,jw (show c0.toNat<2048 by omega)] at h
  ·by_cases z:192<=c0.toNat∧c0.toNat<224
   ·rw[xO z] at h;match r,h with
    | [],_=>simp[dec,y]
    |c1::r1,h=>
     simp only[dec];rw[if_neg y,if_pos z];by_cases D:128<=c1.toNat∧c1.toNat<192
     ·simp only[U8.conts,if_pos D,jw (show(c0.toNat-192)*64+c1.toNat-128<2048 by omega)] at h;by_cases E:128<=(c0.toNat-192)*64+c1.toNat-128
      ·simp[E] at h
      ·rw[if_neg (fun o=>E o.2)]
     ·rw[if_neg (fun o=>D o.1)]
   ·by_cases I:224<=c0.toNat∧c0.toNat<240
    ·rw[xN I] at h;match r,h with
     | [],_=>simp[dec,y]
     | [c1],_=>simp[dec,y,z]
     |c1::c2::r2,h=>
      simp only[dec];rw[if_neg y,if_neg z,if_pos I];by_cases D:128<=c1.toNat∧c1.toNat<192
      ·by_cases E:128<=c2.toNat∧c2.toNat<192
       ·simp only[U8.conts,if_pos D,if_pos E] at h;by_cases J:U8.may 2048 (((c0.toNat-224)*64+c1.toNat-128)*64+c2.toNat-128)=true
        ·simp[J] at h
        ·rw[if_neg (fun o=>J o.2.2)]
       ·rw[if_neg (fun o=>E o.2.1)]
      ·rw[if_neg (fun o=>D o.1)]
    ·by_cases K:240<=c0.toNat∧c0.toNat<248
     ·rw[xM K] at h;match r,h with
      | [],_=>simp[dec,y]
      | [c1],_=>simp[dec,y,z]
      | [c1,c2],_=>simp[dec,y,z,I]
      |c1::c2::c3::r3,h=>
       simp only[dec];rw[if_neg y,if_neg z,if_neg I,if_pos K];by_cases D:128<=c1.toNat∧c1.toNat<192
       ·by_cases E:128<=c2.toNat∧c2.toNat<192
        ·by_cases L:128<=c3.toNat∧c3.toNat<192
         ·simp only[U8.conts,if_pos D,if_pos E,if_pos L] at h;by_cases J:U8.may 65536 ((((c0.toNat-240)*64+c1.toNat-128)*64+c2.toNat-128)*64+c3.toNat-128)=true
          ·simp[J] at h
          ·rw[if_neg (fun o=>J o.2.2.2)]
         ·rw[if_neg (fun o=>L o.2.2.1)]
        ·rw[if_neg (fun o=>E o.2.1)]
       ·rw[if_neg (fun o=>D o.1)]
     ·match r with
      | []=>simp[dec,y]
      | [c1]=>simp[dec,y,z]
      | [c1,c2]=>simp[dec,y,z,I]
      |c1::c2::c3::r3=>simp[dec,y,z,I,K]
theorem dec_good{n:Nat}(h:U8.one l=some n):(dec l).2=n∧((dec l).1=65533->n=3∧l.take 3=[239,191,189])∧(dec l).1<=1114111:=by
 match l,h with
 | [],h=>simp[U8.one] at h
 |c0::r,h=>
  simp only[U8.one] at h;by_cases D:c0.toNat<128
  ·rw[xP D] at h;have U:U8.may 0 c0.toNat=true:=(by rw[jw (by omega)];simp);have V:n=1:=(by simpa[U8.conts,U] using h.symm);subst V;have hd:dec (c0::r)=(c0.toNat,1):=(by simp[dec,D]);rw[hd];exact⟨rfl,fun E=>by simp only at E;omega,by simp only;omega⟩
  ·by_cases I:192<=c0.toNat∧c0.toNat<224
   ·rw[xO I] at h;match r,h with
    | [],h=>simp[U8.conts] at h
    |c1::r1,h=>
     simp only[dec];rw[if_neg D,if_pos I];by_cases o:128<=c1.toNat∧c1.toNat<192
     ·simp only[U8.conts,if_pos o,jw (show(c0.toNat-192)*64+c1.toNat-128<2048 by omega)] at h;by_cases y:128<=(c0.toNat-192)*64+c1.toNat-128
      ·simp only[y,decide_true,if_true,Option.some.injEq] at h;rw[if_pos ⟨o,y⟩];exact⟨h,fun E=>by omega,by simp only;omega⟩
      ·simp[y] at h
     ·simp only[U8.conts,if_neg o] at h;cases h
   ·by_cases J:224<=c0.toNat∧c0.toNat<240
    ·rw[xN J] at h;match r,h with
     | [],h=>simp[U8.conts] at h
     | [c1],h=>
      by_cases o:128<=c1.toNat∧c1.toNat<192
      ·simp only[U8.conts,if_pos o] at h;cases h
      ·simp only[U8.conts,if_neg o] at h;cases h
     |c1::c2::r2,h=>
      simp only[dec];rw[if_neg D,if_neg I,if_pos J];by_cases o:128<=c1.toNat∧c1.toNat<192
      ·by_cases y:128<=c2.toNat∧c2.toNat<192
       ·simp only[U8.conts,if_pos o,if_pos y] at h;by_cases z:U8.may 2048 (((c0.toNat-224)*64+c1.toNat-128)*64+c2.toNat-128)=true
        ·rw[if_pos z] at h;simp only[Option.some.injEq] at h;rw[if_pos ⟨o,y,z⟩];refine⟨h,fun E=>⟨h.symm,?_⟩,by simp only;omega⟩;simp only at E;have O:c0=239:=UInt8.toNat_inj.1 (by simp;omega);have Q:c1=191:=UInt8.toNat_inj.1 (by simp;omega);have S:c2=189:=UInt8.toNat_inj.1 (by simp;omega);rw[O,Q,S];rfl
        ·rw[if_neg z] at h;cases h
       ·simp only[U8.conts,if_pos o,if_neg y] at h;cases h
      ·simp only[U8.conts,if_neg o] at h;cases h
    ·by_cases K:240<=c0.toNat∧c0.toNat<248
     ·rw[xM K] at h;match r,h with
      | [],h=>simp[U8.conts] at h
      | [c1],h=>
       by_cases o:128<=c1.toNat∧c1.toNat<192
       ·simp only[U8.conts,if_pos o] at h;cases h
       ·simp only[U8.conts,if_neg o] at h;cases h
      | [c1,c2],h=>
       by_cases o:128<=c1.toNat∧c1.toNat<192
       ·by_cases y:128<=c2.toNat∧c2.toNat<192
        ·simp only[U8.conts,if_pos o,if_pos y] at h;cases h
        ·simp only[U8.conts,if_pos o,if_neg y] at h;cases h
       ·simp only[U8.conts,if_neg o] at h;cases h
      |c1::c2::c3::r3,h=>
       simp only[dec];rw[if_neg D,if_neg I,if_neg J,if_pos K];by_cases o:128<=c1.toNat∧c1.toNat<192
       ·by_cases y:128<=c2.toNat∧c2.toNat<192
        ·by_cases L:128<=c3.toNat∧c3.toNat<192
         ·simp only[U8.conts,if_pos o,if_pos y,if_pos L] at h;by_cases z:U8.may 65536 ((((c0.toNat-240)*64+c1.toNat-128)*64+c2.toNat-128)*64+c3.toNat-128)=true
          ·rw[if_pos z] at h;simp only[Option.some.injEq] at h;rw[if_pos ⟨o,y,L,z⟩];have M:=z;unfold U8.may at M;simp only[Bool.and_eq_true,decide_eq_true_eq] at M;exact⟨h,fun E=>by simp only at E;omega,M.1.2⟩
          ·rw[if_neg z] at h;cases h
         ·simp only[U8.conts,if_pos o,if_pos y,if_neg L] at h;cases h
        ·simp only[U8.conts,if_pos o,if_neg y] at h;cases h
       ·simp only[U8.conts,if_neg o] at h;cases h
     ·rw[zu D I J K] at h;cases h
end
section
open Go.RowKit
theorem uh(h:l.take 3=[239,191,189]):U8.one l=some 3:=by
 match l,h with
 | [],h=>simp at h
 | [_],h=>simp at h
 | [_,_],h=>simp at h
 |a::b::c::r,h=>
  simp only[List.take_succ_cons,List.take_zero,List.cons.injEq,and_true] at h;obtain⟨rfl,rfl,rfl⟩:=h;simp[U8.one,U8.kind,U8.conts,U8.may]
theorem Aa(t:ByteArray):(t.extract 0 3).toList=t.data.toList.take 3:=by
 rw[ByteArray.toList_eq,ByteArray.data_extract,Array.toList_extract];simp
theorem yI(t:ByteArray)(pos:Nat):(t.extract pos t.size).data.toList=t.data.toList.drop pos:=by
 rw[ByteArray.data_extract,Array.toList_extract];simp;exact List.take_of_length_le (by simp[List.length_drop])
def od(t:ByteArray):Bool:=decide (t.data.toList.take 3=[239,191,189])
theorem sv(t:ByteArray)(K:t.size<=281474976702464)(w:World):Calls Tryz.prog 266 #[.string t,.string ⟨#[239,191,189]⟩] w fun e w'=>e=.returned (.bool (od t))∧w'=w:=by
 by_cases E:t.size<3
 ·have y:¬(3:Int)<=(t.size:Int):=by omega
  have o:Hid (od t=false):=by
   show decide _=false;rw[decide_eq_false_iff_not];intro z;have:=congrArg List.length z;rw[List.length_take,Array.length_toList] at this;have J:t.data.size=t.size:=rfl;simp at this;omega
  go_enter Tryz.func266,Tryz.ntmps266;go_wp2;go_ret;exact⟨by rw[o.out];rfl,rfl⟩
 ·have y:(3:Int)<=(t.size:Int):=by omega
  have I:3<=t.size:=by omega
  obtain⟨r,D⟩:∃r,((t.extract 0 3).toList==[239,191,189])=r:=⟨_,rfl⟩;have o:Hid (od t=r):=by
   show decide _=r;rw[<-D,Aa];rw[Bool.eq_iff_iff];simp
  go_enter Tryz.func266,Tryz.ntmps266;go_wp2;go_ret;exact⟨by rw[o.out];rfl,rfl⟩
theorem uW(t:ByteArray)(z:t.size<=281474976702464)(w:World):Calls Tryz.prog 262 #[.string t,.string ⟨#[239,191,189]⟩] w fun e w'=>e=.returned (.bool (od t))∧w'=w:=by
 have y:=gQq (sv t z w);go_enter Tryz.func262,Tryz.ntmps262;go_wp2_with fail;refine y.out.mono ?_;rintro e w1 ⟨rfl,o⟩;rw[o];clear o w1;go_wp2;go_ret;exact⟨rfl,rfl⟩
theorem yd(t:ByteArray)(bb:t.size<=281474976702464)(w:World):Calls Tryz.prog 249 #[.string t] w fun e w'=>e=.returned (.bool (dM t))∧Below w.1.size w w':=by
 obtain⟨o,U⟩:∃o,o=t.data.toList:=⟨_,rfl⟩;have a0:Hid (dM t=U8.utf o):=by show _=_;rw[U];rfl
 have S:=gQq U;have M:Hid (∀k pos,((w.drewN k).iter t pos).iterPos w.1.size=pos):=fun k pos=>World.iterPos_iter (w.drewN k) t pos;have ah:Hid (∀k pos,Below w.1.size w ((w.drewN k).iter t pos)):=fun k pos=>(below_drewN gQz k).alloc gQx _;clear U;have a1:Hid (t.size=o.length):=by show _=_;rw[S.out,Array.length_toList];rfl
 have a5:Hid (∀pos w',pos<=t.size->Calls Tryz.prog 262 #[.string (t.extract pos t.size),.string ⟨#[239,191,189]⟩] w' fun e ab=>e=.returned (.bool (decide ((o.drop pos).take 3=[239,191,189])))∧ab=w'):=by
  intro pos w' a3;have h:=uW (t.extract pos t.size) (by rw[ByteArray.size_extract];omega) w';unfold od at h;rw[yI,<-S.out] at h;exact h
 go_enter Tryz.func249,Tryz.ntmps249;go_wp2;go_loopw [3,4] (fun _ _ wr=>∃pos k:Nat,pos<=t.size∧wr=(w.drewN k).iter t pos∧Hid (U8.utf o=U8.utf (o.drop pos))) (fun _ _ wr=>t.size-wr.iterPos w.1.size);case atStart=>exact⟨0,0,by omega,rfl,by show _=_;rw[List.drop_zero]⟩
 case round=>
  obtain⟨pos,k,a3,rfl,z⟩:=hrel;by_cases Q:pos<t.size
  ·have Z:∀D,(Instr.next (.pointer (some ⟨w.1.size,0,none⟩)) true D).run Tryz.prog ((w.drewN k).iter t pos)=.ok (.tuple #[.bool true,.int .i64 pos,.int .i32 (Utf8.decode t pos).1]) ((w.drewN k).iter t (pos+(Utf8.decode t pos).2)):=fun D=>run_next_any (P:=Tryz.prog) (w.drewN k) t pos D Q;obtain⟨l,y⟩:∃l,l=o.drop pos:=⟨_,rfl⟩;have J:t.data.toList.drop pos=l:=(by rw[y,S.out]);have a2:l.length=t.size-pos:=(by rw[y,List.length_drop,a1.out]);obtain⟨m,E⟩:∃m,m=decide (l.take 3=[239,191,189]):=⟨_,rfl⟩;have aj:Hid (∀w',Calls Tryz.prog 262 #[.string (t.extract pos t.size),.string ⟨#[239,191,189]⟩] w' fun e ab=>e=.returned (.bool m)∧ab=w'):=by
    intro w';rw[E,y];exact a5.out pos w' a3
   cases ho:U8.one l with
   |none=>
    have hd:Utf8.decode t pos=(65533,1):=(ku J Q).trans (xm ho);rw[hd] at Z;have a4:Hid (U8.utf o=false):=(by show _=_;rw[z.out,<-y];exact U8.utf_bad (fun V=>by rw[V] at a2;simp at a2;omega) ho);have X:m=false:=by
     rw[E,decide_eq_false_iff_not];intro V;rw[uh V] at ho;cases ho
    subst X;clear hd y J ho z E;go_wp2_with fail;refine(aj.out _).mono ?_;rintro e w1 ⟨rfl,L⟩;rw[L];clear L w1;go_wp2;go_ret;exact⟨by rw[a0.out,a4.out];rfl,ah.out _ _⟩
   |some n=>
    obtain⟨I,O⟩:∃I,I=(dec l).1:=⟨_,rfl⟩;obtain⟨W,K,a7⟩:=dec_good ho;have hd:Utf8.decode t pos=(I,n):=(by rw[ku J Q,O,<-W]);rw[hd] at Z;have a9:=U8.one_len ho;have ak:Hid (U8.utf o=U8.utf (o.drop (pos+n))):=(by show _=_;rw[z.out,<-y,U8.utf_step ho,y,List.drop_drop]);rw[<-O] at K;by_cases Y:I=65533
    ·have X:m=true:=(by rw[E,decide_eq_true_eq];exact(K Y).2);have a8:=(K Y).1;subst Y a8 X;clear hd y J ho z O W K a7 E;go_wp2_with fail;refine(aj.out _).mono ?_;rintro e w1 ⟨rfl,L⟩;rw[L];clear L w1;go_wp2;go_roundw;case rel=>exact⟨pos+3,k,by omega,rfl,ak⟩
     case measure=>rw[M.out,M.out];omega
    ·have bc:((I:Int)==65533)=false:=(by simp;omega);clear hd y J ho z O W K E;go_wp2;go_roundw;case rel=>exact⟨pos+n,k,by omega,rfl,ak⟩
     case measure=>rw[M.out,M.out];omega
  ·have Z:∀D,(Instr.next (.pointer (some ⟨w.1.size,0,none⟩)) true D).run Tryz.prog ((w.drewN k).iter t pos)=.ok (.tuple #[.bool false]) ((w.drewN k).iter t pos):=fun D=>run_next_end (P:=Tryz.prog) (w.drewN k) t pos D Q;have a6:Hid (U8.utf o=true):=(by show _=_;rw[z.out,List.drop_eq_nil_of_le (by have:=a1.out;omega)];rfl);clear z;go_wp2;go_ret;exact⟨by rw[a0.out,a6.out];rfl,ah.out _ _⟩
end
section
open Go.RowKit
attribute [local go_sem] af
theorem xR:ay 0=0:=by kernel_rfl
theorem fm(n:Nat):((n:Int)==0)=(n==0):=by rw[Bool.eq_iff_iff,beq_iff_eq,beq_iff_eq];omega
theorem cN(b:Nat)(w:World):Calls Tryz.prog 209 #[.float .f64 b,.float .f64 0] w fun e w'=>e=.returned (.bool (ay b==0))∧w'=w:=by
 have h:=gS b 0 w;rw[xR] at h;have o:((ay b:Int)==((0:Nat):Int))=(ay b==0):=by
  rw[Bool.eq_iff_iff,beq_iff_eq,beq_iff_eq];omega
 rw[o] at h;exact h
theorem yH(i:Int)(b:Nat)(t:ByteArray)(p:OA)(n c:Nat)(w:World):
  Calls Tryz.prog 260 #[.agg #[.int .i64 1,.int .i64 i,.float .f64 b,.string t,.slice p n c]] w fun e w'=>e=.returned (.bool (V.ownB 1 i b t n))∧Below w.1.size w w':=by
 have z:Hid (∀o,Below w.1.size w (w.alloc o)):=fun o=>gQz.alloc gQx o;go_enter Tryz.func260,Tryz.ntmps260;go_wp2_with (go_at_call 209;refine(cN _ _).mono ?_;rintro e w1 ⟨rfl,y⟩;rw[y];clear y w1);all_goals go_ret
 all_goals refine⟨?_,z.out _⟩
 all_goals simp_all [V.ownB]
 all_goals first | exact fm n | (intros;omega)
theorem yG(i:Int)(b:Nat)(t:ByteArray)(p:OA)(n c:Nat)(w:World):
  Calls Tryz.prog 260 #[.agg #[.int .i64 2,.int .i64 i,.float .f64 b,.string t,.slice p n c]] w fun e w'=>e=.returned (.bool (V.ownB 2 i b t n))∧Below w.1.size w w':=by
 have z:Hid (∀o,Below w.1.size w (w.alloc o)):=fun o=>gQz.alloc gQx o;go_enter Tryz.func260,Tryz.ntmps260;go_wp2_with (go_at_call 209;refine(cN _ _).mono ?_;rintro e w1 ⟨rfl,y⟩;rw[y];clear y w1);all_goals go_ret
 all_goals refine⟨?_,z.out _⟩
 all_goals simp_all [V.ownB]
 all_goals first | exact fm n | (intros;omega)
theorem yF(i:Int)(b:Nat)(t:ByteArray)(p:OA)(n c:Nat)(w:World):
  Calls Tryz.prog 260 #[.agg #[.int .i64 3,.int .i64 i,.float .f64 b,.string t,.slice p n c]] w fun e w'=>e=.returned (.bool (V.ownB 3 i b t n))∧Below w.1.size w w':=by
 have z:Hid (∀o,Below w.1.size w (w.alloc o)):=fun o=>gQz.alloc gQx o;go_enter Tryz.func260,Tryz.ntmps260;go_wp2_with (go_at_call 209;refine(cN _ _).mono ?_;rintro e w1 ⟨rfl,y⟩;rw[y];clear y w1);all_goals go_ret
 all_goals refine⟨?_,z.out _⟩
 all_goals simp_all [V.ownB,xR]
 all_goals first | exact fm n | (intros;omega)
theorem yE(i:Int)(b:Nat)(t:ByteArray)(p:OA)(n c:Nat)(w:World):
  Calls Tryz.prog 260 #[.agg #[.int .i64 4,.int .i64 i,.float .f64 b,.string t,.slice p n c]] w fun e w'=>e=.returned (.bool (V.ownB 4 i b t n))∧Below w.1.size w w':=by
 have z:Hid (∀o,Below w.1.size w (w.alloc o)):=fun o=>gQz.alloc gQx o;go_enter Tryz.func260,Tryz.ntmps260;go_wp2_with (go_at_call 209;refine(cN _ _).mono ?_;rintro e w1 ⟨rfl,y⟩;rw[y];clear y w1);all_goals go_ret
 all_goals refine⟨?_,z.out _⟩
 all_goals simp_all [V.ownB]
 all_goals first | exact fm n | (intros;omega)
theorem yD(i:Int)(b:Nat)(t:ByteArray)(p:OA)(n c:Nat)(w:World):
  Calls Tryz.prog 260 #[.agg #[.int .i64 5,.int .i64 i,.float .f64 b,.string t,.slice p n c]] w fun e w'=>e=.returned (.bool (V.ownB 5 i b t n))∧Below w.1.size w w':=by
 have z:Hid (∀o,Below w.1.size w (w.alloc o)):=fun o=>gQz.alloc gQx o;go_enter Tryz.func260,Tryz.ntmps260;go_wp2_with (go_at_call 209;refine(cN _ _).mono ?_;rintro e w1 ⟨rfl,y⟩;rw[y];clear y w1);all_goals go_ret
 all_goals refine⟨?_,z.out _⟩
 all_goals simp_all [V.ownB]
 all_goals first | exact fm n | (intros;omega)
theorem yC(i:Int)(b:Nat)(t:ByteArray)(p:OA)(n c:Nat)(w:World):
  Calls Tryz.prog 260 #[.agg #[.int .i64 6,.int .i64 i,.float .f64 b,.string t,.slice p n c]] w fun e w'=>e=.returned (.bool (V.ownB 6 i b t n))∧Below w.1.size w w':=by
 have z:Hid (∀o,Below w.1.size w (w.alloc o)):=fun o=>gQz.alloc gQx o;go_enter Tryz.func260,Tryz.ntmps260;go_wp2_with (go_at_call 209;refine(cN _ _).mono ?_;rintro e w1 ⟨rfl,y⟩;rw[y];clear y w1);all_goals go_ret
 all_goals refine⟨?_,z.out _⟩
 all_goals simp_all [V.ownB]
 all_goals first | exact fm n | (intros;omega)
theorem yB(i:Int)(b:Nat)(t:ByteArray)(p:OA)(n c:Nat)(w:World):
  Calls Tryz.prog 260 #[.agg #[.int .i64 7,.int .i64 i,.float .f64 b,.string t,.slice p n c]] w fun e w'=>e=.returned (.bool (V.ownB 7 i b t n))∧Below w.1.size w w':=by
 have z:Hid (∀o,Below w.1.size w (w.alloc o)):=fun o=>gQz.alloc gQx o;go_enter Tryz.func260,Tryz.ntmps260;go_wp2_with (go_at_call 209;refine(cN _ _).mono ?_;rintro e w1 ⟨rfl,y⟩;rw[y];clear y w1);all_goals go_ret
 all_goals refine⟨?_,z.out _⟩
 all_goals simp_all [V.ownB]
theorem vg(k:Int)(O:k<1∨7<k)(i:Int)(b:Nat)(t:ByteArray)(p:OA)(n c:Nat)(w:World):
  Calls Tryz.prog 260 #[.agg #[.int .i64 k,.int .i64 i,.float .f64 b,.string t,.slice p n c]] w fun e w'=>e=.returned (.bool (V.ownB k i b t n))∧Below w.1.size w w':=by
 have z:Hid (∀o,Below w.1.size w (w.alloc o)):=fun o=>gQz.alloc gQx o;have D:¬k=1:=by omega
 have E:¬k=2:=by omega
 have I:¬k=3:=by omega
 have J:¬k=4:=by omega
 have K:¬k=5:=by omega
 have L:¬k=6:=by omega
 have M:¬k=7:=by omega
 go_enter Tryz.func260,Tryz.ntmps260;go_wp2_with (go_at_call 209;refine(cN _ _).mono ?_;rintro e w1 ⟨rfl,y⟩;rw[y];clear y w1);all_goals go_ret
 all_goals refine⟨?_,z.out _⟩
 all_goals simp_all [V.ownB]
 all_goals first | exact fm n | (intros;omega)
theorem zD(k i:Int)(b:Nat)(t:ByteArray)(p:OA)(n c:Nat)(w:World):
  Calls Tryz.prog 260 #[.agg #[.int .i64 k,.int .i64 i,.float .f64 b,.string t,.slice p n c]] w fun e w'=>e=.returned (.bool (V.ownB k i b t n))∧Below w.1.size w w':=by
 by_cases o:k<1∨7<k
 ·exact vg k o i b t p n c w
 ·rcases(show k=1∨k=2∨k=3∨k=4∨k=5∨k=6∨k=7 by omega) with rfl | rfl | rfl | rfl | rfl | rfl | rfl
  ·exact yH i b t p n c w
  ·exact yG i b t p n c w
  ·exact yF i b t p n c w
  ·exact yE i b t p n c w
  ·exact yD i b t p n c w
  ·exact yC i b t p n c w
  ·exact yB i b t p n c w
def eU(k:Int)(t:ByteArray)(n:Nat):Nat:=if 1024<t.size then 2 else if 256<n then 3 else if k=4∧dM t=false then 61 else 0
theorem zJ(k i:Int)(b:Nat)(t:ByteArray)(p:OA)(n c:Nat)(w:World):
  Calls Tryz.prog 261 #[.agg #[.int .i64 k,.int .i64 i,.float .f64 b,.string t,.slice p n c]] w fun e w'=>e=.returned (.int .i64 (eU k t n:Nat))∧Below w.1.size w w':=by
 have y:Hid (∀J,Below w.1.size w (w.alloc J)):=fun J=>gQz.alloc gQx J;by_cases z:1024<t.size
 ·have O:(1024:Int)<(t.size:Int):=by omega
  have o:Hid (eU k t n=2):=by show _=_;rw[eU,if_pos z]
  go_enter Tryz.func261,Tryz.ntmps261;go_wp2;go_ret;exact⟨by rw[o.out];rfl,y.out _⟩
 have O:¬(1024:Int)<(t.size:Int):=by omega
 by_cases E:256<n
 ·have Q:(256:Int)<(n:Int):=by omega
  have o:Hid (eU k t n=3):=by show _=_;rw[eU,if_neg z,if_pos E]
  go_enter Tryz.func261,Tryz.ntmps261;go_wp2;go_ret;exact⟨by rw[o.out];rfl,y.out _⟩
 have Q:¬(256:Int)<(n:Int):=by omega
 by_cases D:k=4
 ·have U:(k==4)=true:=cZ D;have K:=gQq (fun w=>yd t (by omega) w);obtain⟨r,I⟩:∃r,r=dM t:=⟨_,rfl⟩;rw[<-I] at K;have o:Hid (eU k t n=if r=false then 61 else 0):=by
   show _=_;rw[eU,if_neg z,if_neg E,<-I];simp only[D,true_and]
  clear I;go_enter Tryz.func261,Tryz.ntmps261;go_wp2_with fail;refine(K.out _).mono ?_;rintro e w1 ⟨rfl,L⟩;have M:=gQq ((y.out _).trans (L.mono (y.out _).size));clear L;cases r
  all_goals
   go_wp2;go_ret;exact⟨by rw[o.out];rfl,M.out⟩
 ·have U:(k==4)=false:=bd D;have o:Hid (eU k t n=0):=by show _=_;rw[eU,if_neg z,if_neg E,if_neg (fun S=>D S.1)]
  go_enter Tryz.func261,Tryz.ntmps261;go_wp2;go_ret;exact⟨by rw[o.out];rfl,y.out _⟩
theorem vF(d:Nat)(k i:Int)(b:Nat)(t:ByteArray)(xs:List V):chk d (.mk k i b t xs)=if 4<d then 62 else if V.ownB k i b t xs.length=false then 60 else if eU k t xs.length=0 then fY (d+1) xs else eU k t xs.length:=by
 rw[mM];unfold eU;by_cases o:4<d
 ·rw[if_pos o,if_pos o]
 rw[if_neg o,if_neg o];by_cases y:V.ownB k i b t xs.length=false
 ·rw[if_pos y,if_pos y]
 rw[if_neg y,if_neg y];by_cases z:1024<t.size
 ·rw[if_pos z,if_pos z];rfl
 rw[if_neg z,if_neg z];by_cases D:256<xs.length
 ·rw[if_pos D,if_pos D];rfl
 rw[if_neg D,if_neg D];by_cases E:k=4∧dM t=false
 ·rw[if_pos E,if_pos E];rfl
 rw[if_neg E,if_neg E,if_pos rfl]
theorem vG:∀(x:V) (d:Nat) (w:World) (u:AV),d<=5->aJ w u x->Calls Tryz.prog 245 #[.agg u,.int .i64 d] w fun e w'=>e=.returned (.int .i64 (chk d x:Nat))∧Below w.1.size w w':=by
 intro x;refine V.ind (P:=fun x=>∀(d:Nat) (w:World) (u:AV),d<=5->aJ w u x->Calls Tryz.prog 245 #[.agg u,.int .i64 d] w fun e w'=>e=.returned (.int .i64 (chk d x:Nat))∧Below w.1.size w w') ?_ x;rintro k i b t xs a6 d w u hd bN;obtain⟨p,c,rfl,cw,cv,a4⟩:=bN.open;unfold cells5;have bi:Below w.1.size w (w.alloc (.cells #[.int .i64 k,.int .i64 i,.float .f64 b,.string t,.slice p xs.length c] 38)):=gQy;have U:=gQq bi;clear bi bN;have y:=gQq (vF d k i b t xs);obtain⟨R,bj⟩:∃R,R=chk d (.mk k i b t xs):=⟨_,rfl⟩;rw[<-bj] at y ⊢;clear bj;by_cases E:4<d
 ·have cc:(4:Int)<(d:Int):=by omega
  have HR:Hid (R=62):=by show _=_;rw[y.out,if_pos E]
  clear a6 a4 y;go_enter Tryz.func245,Tryz.ntmps245;go_wp2;go_ret;exact⟨by rw[HR.out];rfl,U.out⟩
 have cc:¬(4:Int)<(d:Int):=by omega
 have a2:=gQq (zD k i b t p xs.length c (w.alloc (.cells #[.int .i64 k,.int .i64 i,.float .f64 b,.string t,.slice p xs.length c] 38)));have a0:=gQq (zJ k i b t p xs.length c);obtain⟨r,bq⟩:∃r,r=V.ownB k i b t xs.length:=⟨_,rfl⟩;rw[<-bq] at a2 y;clear bq;obtain⟨s,br⟩:∃s,s=eU k t xs.length:=⟨_,rfl⟩;rw[<-br] at a0 y;clear br;have cf:w.1.size<(w.alloc (.cells #[.int .i64 k,.int .i64 i,.float .f64 b,.string t,.slice p xs.length c] 38)).1.size:=by simp
 have bO:(w.alloc (.cells #[.int .i64 k,.int .i64 i,.float .f64 b,.string t,.slice p xs.length c] 38)).cell? ⟨w.1.size,0,none⟩=some (.int .i64 k):=by simp
 have bT:(w.alloc (.cells #[.int .i64 k,.int .i64 i,.float .f64 b,.string t,.slice p xs.length c] 38)).cell? ⟨w.1.size,1,none⟩=some (.int .i64 i):=by simp
 have bX:(w.alloc (.cells #[.int .i64 k,.int .i64 i,.float .f64 b,.string t,.slice p xs.length c] 38)).cell? ⟨w.1.size,2,none⟩=some (.float .f64 b):=by simp
 have b0:(w.alloc (.cells #[.int .i64 k,.int .i64 i,.float .f64 b,.string t,.slice p xs.length c] 38)).cell? ⟨w.1.size,3,none⟩=some (.string t):=by simp
 have b1:(w.alloc (.cells #[.int .i64 k,.int .i64 i,.float .f64 b,.string t,.slice p xs.length c] 38)).cell? ⟨w.1.size,4,none⟩=some (.slice p xs.length c):=by simp
 have K:=gQq (And.intro bO (And.intro bT (And.intro bX (And.intro b0 b1))));clear bO bT bX b0 b1;have b4:Hid (∀j (ah:j<xs.length),∃J,aJ w J xs[j]∧Item w p j J):=a4;have be:=gQq a6;clear a6 a4;go_enter Tryz.func245,Tryz.ntmps245;go_wp2_with fail;refine a2.out.mono ?_;rintro e cq ⟨rfl,D⟩;have c0:=ae D K.out.1;have c1:=ae D K.out.2.1;have c2:=ae D K.out.2.2.1;have c3:=ae D K.out.2.2.2.1;have c4:=ae D K.out.2.2.2.2;have W:=gQq (U.out.trans (D.mono U.out.size));have ct:w.1.size<cq.1.size:=by have:=D.size;omega
 clear D a2 K U cf;cases r with
 |false=>
  have HR:Hid (R=60):=by show _=_;rw[y.out,if_neg E,if_pos rfl]
  clear y;go_wp2;go_ret;exact⟨by rw[HR.out];rfl,W.out⟩
 |true=>
  have Z:Hid (R=if s=0 then fY (d+1) xs else s):=by show _=_;rw[y.out,if_neg E,if_neg (by simp)]
  clear y;go_wp2_with fail;refine(a0.out _).mono ?_;rintro e S ⟨rfl,ab⟩;have n4:=ae ab c4;have bb:=gQq (W.out.trans (ab.mono W.out.size));have cu:w.1.size<S.1.size:=by have:=ab.size;omega
  clear ab a0 W c0 c1 c2 c3 c4;by_cases O:¬s=0
  ·have ce:((s:Int) != 0)=true:=(by rw[bne_iff_ne];omega);have HR:Hid (R=s):=(by show _=_;rw[Z.out,if_neg O]);clear Z;go_wp2;go_ret;exact⟨by rw[HR.out];rfl,bb.out⟩
  replace O:s=0:=Classical.not_not.1 O
  have ce:((s:Int) != 0)=false:=by rw[O];rfl
  have HR:Hid (R=fY (d+1) xs):=by show _=_;rw[Z.out,if_pos O]
  clear Z
  -- the items,from any world behind
  have b2:Hid (∀j (ah:j<xs.length) w',Below w.1.size w w'->∀J,aJ w J xs[j]->Calls Tryz.prog 245 #[.agg J,.int .i64 ((d+1:Nat):Int)] w' fun e a9=>e=.returned (.int .i64 (chk (d+1) xs[j]:Nat))∧Below w'.1.size w' a9) :=
   fun j ah w' hb J cg=>be.out _ (List.getElem_mem ah) (d+1) w' J (by omega) (cg.on hb)
  clear be;go_wp2_with fail;go_loopw [22] (fun a8 wr=>∃j:Nat,j<=xs.length∧a8=.int .i64 j∧Hid (Below S.1.size S wr∧∀m (E:m<xs.length),m<j->chk (d+1) xs[m]=0)) (fun a8 _=>xs.length-(intOf a8).toNat);case atStart=>exact⟨0,by omega,rfl,gQz,fun m _ h=>by omega⟩
  case round=>
   obtain⟨j,ah,rfl,z⟩:=hrel;have I:Below w.1.size w wr:=bb.out.trans (z.out.1.mono (by omega));by_cases aj:j<xs.length
   ·obtain⟨cy,bs,bn⟩:=b4.out j aj;obtain⟨bx,cx,ck,cj,cb,cp,co,cn,ca,rfl,_,rfl,b5,b6,b7,b8,b9⟩:=(bn.on I).lies;have Y:Hid (∀o,Below wr.1.size wr (wr.alloc o)):=fun o=>gQz.alloc gQx o;have ak:Hid (∀w',Below wr.1.size wr w'->Calls Tryz.prog 245 #[.agg #[.int .i64 ck,.int .i64 cj,.float .f64 cb,.string cp,.slice co cn ca],.int .i64 ((d+1:Nat):Int)] w' fun e a9=>e=.returned (.int .i64 (chk (d+1) xs[j]:Nat))∧Below w'.1.size w' a9):=fun w' hb=>b2.out j aj w' (I.trans (hb.mono I.size)) _ bs;have cr:(j:Int)<(xs.length:Int):=(by omega);obtain⟨L,a5⟩:∃L,L=chk (d+1) xs[j]:=⟨_,rfl⟩;rw[<-a5] at ak;have M:=gQq a5;have bc:=gQq I;clear bs bn a5 I;go_wp2_with fail;refine(ak.out _ (Y.out _)).mono ?_;rintro e w4 ⟨rfl,bk⟩;have X:=gQq ((Y.out _).trans (bk.mono (Y.out _).size));clear bk b5 b6 b7 b8 b9 ak Y;by_cases Q:L=0
    ·have ci:((L:Int) != 0)=false:=(by rw[Q];rfl);have b3:Hid (Below S.1.size S w4∧∀m (E:m<xs.length),m<j+1->chk (d+1) xs[m]=0):=by
      refine⟨z.out.1.trans (X.out.mono z.out.1.size),fun m E bp=>?_⟩;by_cases cd:m=j
      ·subst cd;rw[<-M.out];exact Q
      ·exact z.out.2 m E (by omega)
     clear z X M Q;go_wp2;go_roundw;case rel=>exact⟨j+1,by omega,by go_num,b3⟩
     case measure=>simp[intOf];omega
    ·have ci:((L:Int) != 0)=true:=(by rw[bne_iff_ne];omega);have a3:Hid (R=L):=by
      show _=_;rw[HR.out,M.out];exact rl (d+1) xs j aj (fun m h bp=>z.out.2 m h bp) (by rw[<-M.out];exact Q)
     have a1:=gQq (bc.out.trans (X.out.mono bc.out.size));clear z X M Q HR;go_wp2;go_ret;exact⟨by rw[a3.out];rfl,a1.out⟩
   ·have cs:¬(j:Int)<(xs.length:Int):=(by omega);have a3:Hid (R=0):=by
     show _=_;rw[HR.out];exact kz (d+1) xs (fun m h=>z.out.2 m h (by omega))
    have a1:=gQq I;clear z I aj HR;go_wp2;go_ret;exact⟨by rw[a3.out];rfl,a1.out⟩
theorem qm(x:V)(w:World)(u:AV)(h:aJ w u x):Calls Tryz.prog 213 #[.agg u] w fun e w'=>e=.returned (.int .i64 (chk 1 x:Nat))∧Below w.1.size w w':=by
 obtain⟨k,i,b,t,xs⟩:=x;obtain⟨p,c,rfl,-⟩:=h.open;have z:Below w.1.size w (w.alloc (.cells (cells5 k i b t p xs.length c) 38)):=gQy;have o:=gQq z;have y:=gQq (vG _ 1 _ _ (by omega) (h.on z));clear z h;obtain⟨R,D⟩:∃R,R=chk 1 (.mk k i b t xs):=⟨_,rfl⟩;rw[<-D] at y ⊢;clear D;unfold cells5 at y o ⊢;go_enter Tryz.func213,Tryz.ntmps213;go_wp2_with fail;refine y.out.mono ?_;rintro e J ⟨rfl,E⟩;have I:=gQq (o.out.trans (E.mono o.out.size));clear E;go_wp2;go_ret;exact⟨rfl,I.out⟩
end
section
open Go.RowKit
attribute [local go_sem] af
theorem xF:∀(x y:V) (w:World) (u v:AV),aJ w u x->aJ w v y->Calls Tryz.prog 172 #[.agg u,.agg v] w fun e w'=>e=.returned (.bool (V.same x y))∧Below w.1.size w w':=by
 intro x;refine V.ind (P:=fun x=>∀(y:V) (w:World) (u v:AV),aJ w u x->aJ w v y->Calls Tryz.prog 172 #[.agg u,.agg v] w fun e w'=>e=.returned (.bool (V.same x y))∧Below w.1.size w w') ?_ x;rintro k i b t xs ak ⟨k',S,E,M,o⟩ w u v cy c5;obtain⟨p,c,rfl,ec,eb,ah⟩:=cy.open;obtain⟨q,d,rfl,ee,ed,aj⟩:=c5.open;unfold cells5;have cr:Below w.1.size w ((w.alloc (.cells #[.int .i64 k,.int .i64 i,.float .f64 b,.string t,.slice p xs.length c] 38)).alloc (.cells #[.int .i64 k',.int .i64 S,.float .f64 E,.string M,.slice q o.length d] 38)):=gQy.alloc (by simp) _;have W:=gQq cr;clear cr cy c5;by_cases h1:¬k=k'
 ·have dh:=aQ h1;have J:Hid (V.same (.mk k i b t xs) (.mk k' S E M o)=false):=by show _=_;simp[V.same_mk,h1]
  clear ak ah aj h1;go_enter Tryz.func172,Tryz.ntmps172;go_wp2;go_ret;exact⟨by rw[J.out];rfl,W.out⟩
 replace h1:k=k':=Classical.not_not.1 h1
 have dh:=bo h1;by_cases z:¬i=S
 ·have di:=aQ z;have J:Hid (V.same (.mk k i b t xs) (.mk k' S E M o)=false):=by show _=_;simp[V.same_mk,z]
  clear ak ah aj h1 z;go_enter Tryz.func172,Tryz.ntmps172;go_wp2;go_ret;exact⟨by rw[J.out];rfl,W.out⟩
 replace z:i=S:=Classical.not_not.1 z
 have di:=bo z;by_cases Q:¬t=M
 ·have dj:(t.toList==M.toList)=false:=by rw[dA,decide_eq_false Q]
  have J:Hid (V.same (.mk k i b t xs) (.mk k' S E M o)=false):=by show _=_;simp[V.same_mk,Q]
  clear ak ah aj h1 z Q;go_enter Tryz.func172,Tryz.ntmps172;go_wp2;go_ret;exact⟨by rw[J.out];rfl,W.out⟩
 replace Q:t=M:=Classical.not_not.1 Q
 have dj:(t.toList==M.toList)=true:=by rw[dA,decide_eq_true Q]
 have a1:=gQq (gS b E);by_cases Z:¬ay b=ay E
 ·have bO:((ay b:Int)==(ay E:Int))=false:=bd (by omega);rw[bO] at a1;have J:Hid (V.same (.mk k i b t xs) (.mk k' S E M o)=false):=by show _=_;simp[V.same_mk,Z]
  clear ak ah aj h1 z Q Z;go_enter Tryz.func172,Tryz.ntmps172;go_wp2_with fail;refine(a1.out _).mono ?_;rintro e w1 ⟨rfl,U⟩;rw[U];clear U w1;go_wp2;go_ret;exact⟨by rw[J.out];rfl,W.out⟩
 replace Z:ay b=ay E:=Classical.not_not.1 Z
 have bO:((ay b:Int)==(ay E:Int))=true:=cZ (by omega);rw[bO] at a1;by_cases a0:¬xs.length=o.length
 ·have dk:((xs.length:Int) != (o.length:Int))=true:=aQ (by omega);have J:Hid (V.same (.mk k i b t xs) (.mk k' S E M o)=false):=by show _=_;simp[V.same_mk,V.sameL_ne xs o a0]
  clear ak ah aj h1 z Q Z a0;go_enter Tryz.func172,Tryz.ntmps172;go_wp2_with fail;refine(a1.out _).mono ?_;rintro e w1 ⟨rfl,U⟩;rw[U];clear U w1;go_wp2;go_ret;exact⟨by rw[J.out];rfl,W.out⟩
 replace a0:xs.length=o.length:=Classical.not_not.1 a0
 have dk:((xs.length:Int) != (o.length:Int))=false:=bo (by omega);have J:Hid (V.same (.mk k i b t xs) (.mk k' S E M o)=V.sameL xs o):=by show _=_;simp[V.same_mk,h1,z,Q,Z]
 have c8:Hid (dm w p xs):=ah;have c9:Hid (dm w q o):=aj;have c6:=gQq ak;have b5:=gQq a0;clear ak ah aj h1 z Q Z a0;obtain⟨O,a7⟩:∃O,O=(w.alloc (.cells #[.int .i64 k,.int .i64 i,.float .f64 b,.string t,.slice p xs.length c] 38)).alloc (.cells #[.int .i64 k',.int .i64 S,.float .f64 E,.string M,.slice q o.length d] 38):=⟨_,rfl⟩;have da:Hid (O.cell? ⟨w.1.size+1,4,none⟩=some (.slice q o.length d)):=by show _=_;rw[a7];simp
 have b7:Hid (Below w.1.size w O):=by rw[a7];exact W.out
 have ca:=gQq a7;clear W a7;go_enter Tryz.func172,Tryz.ntmps172;go_wp2_with fail;refine(a1.out _).mono ?_;rintro e w1 ⟨rfl,U⟩;rw[U];clear U w1;go_wp2_with fail;rw[<-ca.out];clear ca;go_loopw [44] (fun b4 wr=>∃j:Nat,j<=xs.length∧b4=.int .i64 j∧Hid (Below O.1.size O wr∧∀m (h1:m<xs.length) (z:m<o.length),m<j->V.same xs[m] o[m]=true)) (fun b4 _=>xs.length-(intOf b4).toNat);case atStart=>exact⟨0,by omega,rfl,gQz,fun m _ _ h=>by omega⟩
 case round=>
  obtain⟨j,d6,rfl,Y⟩:=hrel;have ab:Below w.1.size w wr:=b7.out.trans (Y.out.1.mono b7.out.size);by_cases a8:j<xs.length
  ·have cv:j<o.length:=(by have:=b5.out;omega);obtain⟨eg,cw,ct⟩:=c8.out j a8;obtain⟨eh,cx,cu⟩:=c9.out j cv;obtain⟨bx,ef,bc,bb,a6,bj,bi,be,a5,rfl,_,rfl,db,dc,dd,de,df⟩:=(ct.on ab).lies;obtain⟨K,L,b0,bX,bN,b3,b2,b1,bs,rfl,_,rfl,cd,ce,cf,cg,ci⟩:=(cu.on ab).lies
   have a4:Hid (∀w',Below w.1.size w w'->Calls Tryz.prog 172 #[.agg #[.int .i64 bc,.int .i64 bb,.float .f64 a6,.string bj,.slice bi be a5],.agg #[.int .i64 b0,.int .i64 bX,.float .f64 bN,.string b3,.slice b2 b1 bs]] w' fun e dp=>e=.returned (.bool (V.same xs[j] o[j]))∧Below w'.1.size w' dp) :=
    fun w' hb=>c6.out _ (List.getElem_mem a8) o[j] w' _ _ (cw.on hb) (cx.on hb)
   have bk:=gQq Y.out.2;have d7:(j:Int)<(xs.length:Int):=(by omega);have d8:(j:Int)<(o.length:Int):=(by omega);obtain⟨r,bT⟩:∃r,r=V.same xs[j] o[j]:=⟨_,rfl⟩;rw[<-bT] at a4;have b9:=gQq bT;obtain⟨D,a9⟩:∃D,D=wr.alloc (.cells #[.int .i64 bc,.int .i64 bb,.float .f64 a6,.string bj,.slice bi be a5] 38):=⟨_,rfl⟩;have X:Hid (Below wr.1.size wr D):=(by rw[a9];exact gQy);have bp:Hid (Below w.1.size w D):=ab.trans (X.out.mono ab.size);have bn:Hid (Below O.1.size O D):=Y.out.1.trans (X.out.mono Y.out.1.size);have cb:=gQq a9;have cc:Hid (D.cell? ⟨w.1.size+1,4,none⟩=some (.slice (some ⟨K,L,none⟩) o.length d)):=ae bn.out da.out
   have b8:Hid (D.cell? ⟨K,L+j*5,none⟩=some (.int .i64 b0)∧D.cell? ⟨K,L+j*5+1,none⟩=some (.int .i64 bX)∧D.cell? ⟨K,L+j*5+2,none⟩=some (.float .f64 bN)∧D.cell? ⟨K,L+j*5+3,none⟩=some (.string b3)∧D.cell? ⟨K,L+j*5+4,none⟩=some (.slice b2 b1 bs)) :=
    ⟨ae X.out cd,ae X.out ce,ae X.out cf,ae X.out cg,ae X.out ci⟩
   have b6:Hid (D.cell? ⟨wr.1.size,0,none⟩=some (.int .i64 bc)∧D.cell? ⟨wr.1.size,1,none⟩=some (.int .i64 bb)∧D.cell? ⟨wr.1.size,2,none⟩=some (.float .f64 a6)∧D.cell? ⟨wr.1.size,3,none⟩=some (.string bj)∧D.cell? ⟨wr.1.size,4,none⟩=some (.slice bi be a5)):=(by rw[a9];exact⟨by simp,by simp,by simp,by simp,by simp⟩);clear cw cx ct cu ab Y bT a9 cd ce cf cg ci;go_wp2_with fail;rw[<-cb.out];obtain⟨c0,c1,c2,c3,c4⟩:=b6.out;obtain⟨cj,ck,cn,co,cp⟩:=b8.out;have cq:=cc.out;clear b6 b8 cc cb db dc dd de df
   go_region_held3 (fun w'=>w'.cell? ⟨wr.1.size,0,none⟩=some (.int .i64 bc)∧w'.cell? ⟨wr.1.size,1,none⟩=some (.int .i64 bb)∧w'.cell? ⟨wr.1.size,2,none⟩=some (.float .f64 a6)∧w'.cell? ⟨wr.1.size,3,none⟩=some (.string bj)∧w'.cell? ⟨wr.1.size,4,none⟩=some (.slice bi be a5)∧w'.cell? ⟨K,L+j*5,none⟩=some (.int .i64 b0)∧w'.cell? ⟨K,L+j*5+1,none⟩=some (.int .i64 bX)∧w'.cell? ⟨K,L+j*5+2,none⟩=some (.float .f64 bN)∧w'.cell? ⟨K,L+j*5+3,none⟩=some (.string b3)∧w'.cell? ⟨K,L+j*5+4,none⟩=some (.slice b2 b1 bs)∧w'.cell? ⟨w.1.size+1,4,none⟩=some (.slice (some ⟨K,L,none⟩) o.length d)) (go_keep) (first|(go_at_call 172;refine(a4.out _ (below_drewN bp.out _)).mono ?_;rintro e w4 ⟨rfl,cs⟩;have I:=dz (w:=D) cs (by rfl) (by rfl) (by rfl) (by rfl);have z3:=ae I c0;have z4:=ae I c1;have d1:=ae I c2;have d2:=ae I c3;have d3:=ae I c4;have d4:=ae I cj;have d5:=ae I ck;have dr:=ae I cn;have ds:=ae I co;have dv:=ae I cp;have d0:=ae I cq;have a3:=gQq I;clear cs I))
   clear z3 z4 d1 d2 d3 d4 d5 dr ds dv d0 c0 c1 c2 c3 c4 cj ck cn co cp cq;cases r with
   |true=>
    have c7:Hid (Below O.1.size O w4∧∀m (h1:m<xs.length) (z:m<o.length),m<j+1->V.same xs[m] o[m]=true):=by
     refine⟨bn.out.trans (a3.out.mono bn.out.size),fun m h1 z ea=>?_⟩;by_cases dn:m=j
     ·subst dn;exact b9.out.symm
     ·exact bk.out m h1 z (by omega)
    clear a3 bk a4;go_wp2;go_roundw;case rel=>exact⟨j+1,by omega,by go_num,c7⟩
    case measure=>simp[intOf];omega
   |false=>
    have br:Hid (V.sameL xs o=false):=V.sameL_at xs o j a8 cv b9.out.symm;have bq:=gQq (bp.out.trans (a3.out.mono bp.out.size));clear a3 bk a4;go_wp2;go_ret;exact⟨by rw[J.out,br.out];rfl,bq.out⟩
  ·have br:Hid (V.sameL xs o=true):=V.sameL_all xs o b5.out (fun m h1 z=>Y.out.2 m h1 z (by omega));have bq:=gQq ab;have d9:¬(j:Int)<(xs.length:Int):=(by omega);clear Y ab a8;go_wp2;go_ret;exact⟨by rw[J.out,br.out];rfl,bq.out⟩
end
end Go.Proofs.YtbahfgdbjgkklaaGreatDoor

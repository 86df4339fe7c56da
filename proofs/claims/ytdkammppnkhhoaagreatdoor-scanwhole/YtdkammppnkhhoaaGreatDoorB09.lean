import Derived.Test.YtdkammppnkhhoaaGreatDoorB07
import Derived.Lib.Zigzag
import Derived.Test.YtdkammppnkhhoaaGreatDoorB08
import Derived.Lib.VarintBits
set_option maxRecDepth 100000
set_option maxHeartbeats 1000000
namespace Go.Proofs.YtdkammppnkhhoaaGreatDoor
variable{c pos:Nat}{l:L8}{s:ByteArray}
section
open Go.RowKit
theorem fh(k:IntKind)(x o:Int):bits .xor k x o=bits .xor k o x:=by
 unfold bits;simp only[BitVec.xor_comm]
theorem mM(x:Nat)(h:x<18446744073709551616):bits .xor .u64 (x:Int) 0=x:=by
 have:=bits_xor_u64_nat x 0 (by omega) (by decide);simpa using this
theorem lu(x:Nat)(h:x<9223372036854775808):bits .xor .i64 (x:Int) 0=x:=by
 show IntKind.i64.wrap ((BitVec.ofInt 64 (x:Int) ^^^ BitVec.ofInt 64 0).toNat:Int)=_;have o:(BitVec.ofInt 64 (x:Int)).toNat=x:=by
  rw[BitVec.ofInt_natCast,BitVec.toNat_ofNat];exact Nat.mod_eq_of_lt (by omega)
 have y:(BitVec.ofInt 64 0).toNat=0:=by decide
 rw[BitVec.toNat_xor,o,y,Nat.xor_zero,IntKind.wrap_i64];omega
theorem qR(n:Int)(A:-9223372036854775808<=n)(D:n<=9223372036854775807):
  bits .xor .u64 (IntKind.u64.wrap (IntKind.u64.wrap n*2)) (IntKind.u64.wrap (n / 9223372036854775808))=((Leb.zig n:Nat):Int):=by
 by_cases y:0<=n
 ·have z:IntKind.u64.wrap (IntKind.u64.wrap n*2)=(((2*n).toNat:Nat):Int):=by
   rw[IntKind.wrap_u64,IntKind.wrap_u64];omega
  have o:IntKind.u64.wrap (n / 9223372036854775808)=0:=by
   rw[IntKind.wrap_u64];omega
  rw[z,o,mM _ (by omega)];unfold Leb.zig;rw[if_pos y];omega
 ·have o:IntKind.u64.wrap (n / 9223372036854775808)=IntKind.u64.max:=by
   have:IntKind.u64.max=18446744073709551615:=(by decide);rw[IntKind.wrap_u64,this];omega
  rw[o,fh,Lib.zigzag_neg A (by omega)];unfold Leb.zig Lib.zigzag;rw[if_neg y,if_neg y];omega
theorem tH(n:Int)(o:-9223372036854775808<=n)(y:n<=9223372036854775807)(w:World):
  Calls Tryz.prog 159 #[.int .i64 n] w fun e w'=>e=.returned (.int .u64 (Leb.zig n:Nat))∧w'=w:=by
 have H:=xX (qR n o y);go_enter Tryz.func159,Tryz.ntmps159;go_wp2;go_ret;exact⟨by rw[<-H.out];rfl,rfl⟩
theorem qU(u:Nat)(h:u<18446744073709551616):
  bits .xor .i64 ((u:Int) / 2) (wrap64 (-wrap64 (bits .and .u64 (u:Int) 1)))=Leb.zag u:=by
 have z:((u:Int) / 2)=((u / 2:Nat):Int):=by omega
 rw[Lib.u64_and1 _ (by omega) (by omega),z];by_cases y:u % 2=0
 ·have o:wrap64 (-wrap64 ((u:Int) % 2))=0:=by
   have:(u:Int) % 2=0:=(by omega);rw[this];simp[wrap64]
  rw[o,lu _ (by omega)];unfold Leb.zag;rw[if_pos y]
 ·have o:wrap64 (-wrap64 ((u:Int) % 2))=-1:=by
   have:(u:Int) % 2=1:=(by omega);rw[this];simp[wrap64]
  rw[o,fh,Lib.i64_not _ (by omega)];unfold Leb.zag;rw[if_neg y]
theorem tI(u:Nat)(h:u<18446744073709551616)(w:World):
  Calls Tryz.prog 179 #[.int .u64 u] w fun e w'=>e=.returned (.int .i64 (Leb.zag u))∧w'=w:=by
 have H:=xX (qU u h);go_enter Tryz.func179,Tryz.ntmps179;go_wp2;go_ret;exact⟨by rw[<-H.out];rfl,rfl⟩
end
section
open Go.RowKit
theorem oC(x:Nat)(h:0<x)(o:x<18446744073709551616):1<=Lib.bitLen x:=by
 rw[Lib.bitLen_half x (by omega) o];omega
theorem lh(x:Nat)(h:x<128):Lib.bitLen x<=7:=Lib.bitLenAux_le 64 x 7 h
theorem oD(x:Nat)(h:0<x)(o:x<18446744073709551616):Lib.bitLen (x / 2*2+1)=Lib.bitLen x:=by
 rw[Lib.bitLen_half x (by omega) o,Lib.bitLen_half (x / 2*2+1) (by omega) (by omega)];congr 2;omega
theorem pS(f:Nat):∀n:Nat,n<2*128 ^ f->n<18446744073709551616->(Leb.putF (f+1) n).length=(Lib.bitLen (n / 2*2+1)+6) / 7:=by
 induction f with
 |zero=>
  intro n h _;have D:n<2:=by simpa using h
  have e:n / 2*2+1=1:=by omega
  rw[e,Leb.putF,if_pos (by omega)];rfl
 |succ f ih=>
  intro n h E;by_cases z:n<128
  ·have y:=lh (n / 2*2+1) (by omega);have D:=oC (n / 2*2+1) (by omega) (by omega);rw[Leb.putF,if_pos z,List.length_singleton];omega
  ·have y:n / 128<2*128 ^ f:=by
    rw[Nat.pow_succ] at h;rw[Nat.div_lt_iff_lt_mul (by omega)];omega
   have o:=Lib.bitLen_shift 7 (n / 2*2+1) (by omega) (by omega);have A:(n / 2*2+1) / 2 ^ 7=n / 128:=(by omega);rw[A] at o;rw[Leb.putF,if_neg z,List.length_cons,ih (n / 128) y (by omega),oD (n / 128) (by omega) (by omega),o];omega
theorem rT(n:Nat)(o:n<18446744073709551616):(Leb.put n).length=(Lib.bitLen (n / 2*2+1)+6) / 7:=by
 have e:2*128 ^ 9=18446744073709551616:=by decide
 exact pS 9 n (by rw[e];exact o) o
theorem uo(n:Nat)(h:n<18446744073709551616):bits .or .u64 (n:Int) 1=((n / 2*2+1:Nat):Int):=by
 have o:=(bits_nat .u64 64 (by decide) wraps_u64 n 1 (by omega) (by decide)).2;have e:((1:Nat):Int)=1:=rfl;rw[e] at o;rw[o];congr 1;apply Nat.eq_of_testBit_eq;intro i;rw[Nat.testBit_or];cases i with
 |zero=>simp
 |succ i=>
  rw[Nat.testBit_succ,Nat.testBit_succ,Nat.testBit_succ];have y:(n / 2*2+1) / 2=n / 2:=by omega
  rw[y];simp
theorem uC(n:Nat)(z:n<18446744073709551616)(w:World):
  Calls Tryz.prog 126 #[.int .u64 n] w fun e w'=>e=.returned (.int .i64 ((Leb.put n).length:Nat))∧w'=w:=by
 have o:=xX (p9 (n / 2*2+1) (by omega) w);have y:=xX (rT n z);have D:=xX (uo n z);have E:Lib.bitLen (n / 2*2+1)<=64:=Lib.bitLenAux_le 64 _ 64 (by omega);generalize Lib.bitLen (n / 2*2+1)=k at o y E;go_enter Tryz.func126,Tryz.ntmps126;go_wp2_with fail;rw[D.out];refine o.out.mono ?_;rintro e w' ⟨rfl,A⟩;rw[A];clear A w';go_wp2;go_ret;exact⟨by rw[y.out];go_num,rfl⟩
def Leb.judge(k c:Nat):Nat:=if k<10∧128<=c then 30 else if k=10∧1<c then 5 else if 1<k∧c=0 then 5 else 0
theorem j7(k c:Nat)(M:k<=10)(L:c<256)(w:World):
  Calls Tryz.prog 184 #[.int .i64 k,.int .u8 c] w fun e w'=>e=.returned (.int .i64 (Leb.judge k c:Nat))∧w'=w:=by
 have H:Hid (∀j:Nat,Leb.judge k c=j->Leb.judge k c=j):=fun _ h=>h;by_cases o:k<10∧128<=c
 ·have e:Leb.judge k c=30:=by unfold Leb.judge;rw[if_pos o]
  rw[e];have E:decide ((k:Int)<10)=true:=decide_eq_true (by omega);have A:decide ((128:Int)<=(c:Int))=true:=decide_eq_true (by omega);clear e;go_enter Tryz.func184,Tryz.ntmps184;go_wp2;go_ret;exact⟨rfl,rfl⟩
 ·by_cases y:k=10∧1<c
  ·have e:Leb.judge k c=5:=(by unfold Leb.judge;rw[if_neg o,if_pos y]);rw[e];obtain⟨rfl,y⟩:=y;have A:decide ((1:Int)<(c:Int))=true:=decide_eq_true (by omega);clear e o;go_enter Tryz.func184,Tryz.ntmps184;go_wp2;go_ret;exact⟨rfl,rfl⟩
  ·by_cases z:1<k∧c=0
   ·have e:Leb.judge k c=5:=(by unfold Leb.judge;rw[if_neg o,if_neg y,if_pos z]);rw[e];obtain⟨z,rfl⟩:=z;clear e o y;by_cases D:k=10
    ·subst D;go_enter Tryz.func184,Tryz.ntmps184;go_wp2;go_ret;exact⟨rfl,rfl⟩
    ·have E:(k:Int)<10:=(by omega);have A:((k:Int)==10)=false:=(by rw[beq_eq_false_iff_ne];omega);have I:(1:Int)<(k:Int):=(by omega);go_enter Tryz.func184,Tryz.ntmps184;go_wp2;go_ret;exact⟨rfl,rfl⟩
   ·have e:Leb.judge k c=0:=(by unfold Leb.judge;rw[if_neg o,if_neg y,if_neg z]);rw[e];clear e;by_cases D:k=10
    ·subst D;have A:¬(1:Int)<(c:Int):=(by omega);have I:((c:Int)==0)=false:=(by rw[beq_eq_false_iff_ne];omega);clear o y z;go_enter Tryz.func184,Tryz.ntmps184;go_wp2;go_ret;exact⟨rfl,rfl⟩
    ·have E:(k:Int)<10:=(by omega);have A:((k:Int)==10)=false:=(by rw[beq_eq_false_iff_ne];omega);have I:¬(128:Int)<=(c:Int):=(by omega);by_cases O:1<k
     ·have J:(1:Int)<(k:Int):=(by omega);have K:((c:Int)==0)=false:=(by rw[beq_eq_false_iff_ne];omega);clear o y z;go_enter Tryz.func184,Tryz.ntmps184;go_wp2;go_ret;exact⟨rfl,rfl⟩
     ·have J:¬(1:Int)<(k:Int):=(by omega);clear o y z;go_enter Tryz.func184,Tryz.ntmps184;go_wp2;go_ret;exact⟨rfl,rfl⟩
end
section
open Go.RowKit
theorem pZ(w:World)(c:Nat)(K:c<=1000000):∃w',(Instr.makeSlice 22 (.int .i64 0) (.int .i64 (c:Int))).run Tryz.prog w=.ok (.slice (some ⟨w.1.size,0,none⟩) 0 c) w'∧bA w' w.1.size w.1.size c []∧Below w.1.size w w':=by
 obtain⟨i,D,J,I,A⟩:=info_parts fT;obtain⟨w',o,y,z⟩:=run_make_own (P:=Tryz.prog) w w.1.size 22 5 i (.int .u8 0) 1 Tryz.underlying22 D J I .i64 .i64 c (by rw[A];omega) (by unfold maxLen;omega) xZ;exact⟨w',o,y,xY.grown z xZ (fun k E=>by cases E)⟩
theorem nP(m:Nat):bits .or .u8 ((m:Int) % 256) 128=((m % 128+128:Nat):Int):=by
 rw[Lib.u8_or128_any _ (by omega) (by omega)];omega
theorem fN(n:Nat)(E:n<18446744073709551616)(w:World):
  Calls Tryz.prog 94 #[.int .u64 n] w fun e w'=>∃g cap,e=.returned (.slice (some ⟨g,0,none⟩) (Leb.put n).length cap)∧bA w' w.1.size g cap (Leb.put n)∧Below w.1.size w w':=by
 have X:=xX (Leb.putting_start E);have A:=xX (uC n E w);have Z:=Leb.put_length_le n;obtain⟨k,M⟩:∃k,k=(Leb.put n).length:=⟨_,rfl⟩;rw[<-M] at A Z;clear M;obtain⟨w1,a0,O,L⟩:=pZ w k (by omega);have V:=xX O;have U:=xX L;clear O L;go_enter Tryz.func94,Tryz.ntmps94;go_wp2_with fail;refine A.out.mono ?_;rintro e w' ⟨rfl,R⟩;rw[R];clear R w' A;go_wp2;go_loopw [0,3] (fun I aj wr=>∃(m:Nat) (xs:L8),I=.int .u64 m∧m<18446744073709551616∧xs.length<=9∧Hid (Leb.Putting n xs m∧Has wr w.1.size aj xs∧Below w.1.size w wr)) (fun I _ _=>(intOf I).toNat);case atStart=>exact⟨n,[],rfl,E,by simp,X.out,V.out.has,U.out⟩
 case round=>
  obtain⟨m,xs,rfl,ak,a1,y⟩:=hrel;have K:=y.out.2.2.size;have J:=xX y.out.2.1;by_cases Y:127<m
  ·have z:=Leb.byte_high m;have o:=xX (Leb.putting_next y.out.1 Y);generalize UInt8.ofNat (m % 128+128)=c at z o;have ah:bits .or .u8 ((m:Int) % 256) 128=(c.toNat:Int):=(by rw[nP,z]);go_wp2_with (at_builtin;refine aW J.out c (by omega) K (by first | exact ah | omega | (rw[z];omega)) rfl rfl rfl rfl rfl ?_;intro g cap W D hb);go_roundw;case rel=>exact⟨m / 128,xs++[c],by go_num,by omega,by have:=o.out.1;exact this,o.out,by have:=D.has;simpa using this,y.out.2.2.trans hb⟩
   case measure=>simp[intOf];omega
  ·have z:=Leb.byte_low m (by omega);have o:=xX (Leb.putting_last y.out.1 (by omega));generalize UInt8.ofNat m=c at z o;go_wp2_with (at_builtin;refine aW J.out c (by omega) K (by omega) rfl rfl rfl rfl rfl ?_;intro g cap W D hb);go_ret;refine⟨g,cap,?_,?_,y.out.2.2.trans hb⟩
   ·rw[<-o.out];simp
   ·rw[<-o.out];exact D
end
section
open Go.RowKit
theorem uG(p:OA)(c n:Nat)(a:Int)(h:a<0∨(n:Int)<a)(w:World):
  Calls Tryz.prog 168 #[.slice p n c,.int .i64 a] w fun e w'=>e=.returned (.tuple #[.int .u64 0,.int .i64 0,.int .i64 30])∧w'=w:=by
 by_cases o:a<0
 ·go_enter Tryz.func168,Tryz.ntmps168;go_wp2
  go_step3
  go_wp2;try rw[Exit.noGoto_ret]
  go_ret3
  exact⟨rfl,rfl⟩
 ·have y:(n:Int)<a:=by omega
  have z:decide (a<0)=false:=decide_eq_false o;go_enter Tryz.func168,Tryz.ntmps168;go_wp2
  go_step3
  go_wp2;try rw[Exit.noGoto_ret]
  go_ret3
  exact⟨rfl,rfl⟩
theorem uH(p:OA)(c n:Nat)(w:World):
  Calls Tryz.prog 168 #[.slice p n c,.int .i64 n] w fun e w'=>e=.returned (.tuple #[.int .u64 0,.int .i64 0,.int .i64 30])∧w'=w:=by
 have y:=xX (j7 0 128 (by decide) (by decide) w);have I:Leb.judge 0 128=30:=by decide
 rw[I] at y;clear I;cases p with
 |none=>
  go_enter Tryz.func168,Tryz.ntmps168;go_wp2_with fail
  go_step3
  go_wp2_with fail
  go_step3
  go_wp2_with fail;go_loop [7,8,9,25] (fun A D E z=>A=.int .u64 0∧D=.int .i64 0∧E=.int .u8 128∧z=.int .i64 0) (fun _ _ _ _=>0);case atStart=>exact⟨rfl,rfl,rfl,rfl⟩
  case round=>
   obtain⟨rfl,rfl,rfl,rfl⟩:=hrel;go_wp2_with fail;refine y.out.mono ?_;rintro e w' ⟨rfl,o⟩;rw[o];clear o w';go_wp2;try rw[Exit.noGoto_ret]
   go_ret3
   exact⟨rfl,rfl⟩
 |some p=>
  by_cases h:c=n
  all_goals
   go_enter Tryz.func168,Tryz.ntmps168;go_wp2_with fail
   go_step3
   go_wp2_with fail
   go_step3
   go_wp2_with fail;go_loop [7,8,9,25] (fun A D E z=>A=.int .u64 0∧D=.int .i64 0∧E=.int .u8 128∧z=.int .i64 0) (fun _ _ _ _=>0);case atStart=>exact⟨rfl,rfl,rfl,rfl⟩
   case round=>
    obtain⟨rfl,rfl,rfl,rfl⟩:=hrel;go_wp2_with fail;refine y.out.mono ?_;rintro e w' ⟨rfl,o⟩;rw[o];clear o w';go_wp2;try rw[Exit.noGoto_ret]
    go_ret3
    exact⟨rfl,rfl⟩
theorem jM:∀v:Fin 256,bits .andNot .u8 (v.val:Int) 128=((v.val % 128:Nat):Int):=by decide +kernel
theorem qO(v:Nat)(h:v<256):bits .andNot .u8 (v:Int) 128=((v % 128:Nat):Int):=jM ⟨v,h⟩
theorem rY(m x k:Nat)(o:m<128 ^ k)(D:x*128 ^ k<18446744073709551616)(A:m<18446744073709551616):bits .or .u64 (m:Int) (IntKind.u64.wrap ((x:Int)*2 ^ (7*k)))=((m+x*128 ^ k:Nat):Int):=by
 have e:(2:Nat) ^ (7*k)=128 ^ k:=by rw[Nat.pow_mul]
 have y:((x:Int)*2 ^ (7*k))=((x*128 ^ k:Nat):Int):=by
  rw[<-e];push_cast;rfl
 have z:IntKind.u64.wrap (((x*128 ^ k:Nat):Int))=((x*128 ^ k:Nat):Int):=by
  rw[IntKind.wrap_u64];omega
 rw[y,z,bits_join_low .u64 64 (by decide) wraps_u64 (7*k) (m:Int) _ (by omega) (by rw[<-e] at o;exact_mod_cast o) (by omega) (by omega) (by rw[<-e];push_cast;exact Int.mul_emod_left _ _) (by omega)];omega
theorem jZ(m v k:Nat)(o:m<128 ^ k)(y:m+v % 128*128 ^ k<18446744073709551616):bits .or .u64 (m:Int) (IntKind.u64.wrap ((v:Int) % 128*2 ^ (7*k)))=((m+v % 128*128 ^ k:Nat):Int):=by
 have e:((v:Int) % 128)=((v % 128:Nat):Int):=by omega
 rw[e];exact rY m (v % 128) k o (by omega) (by omega)
theorem eZ(r:L8)(k:Nat)(h:k<r.length):Leb.val (r.take (k+1))=Leb.val (r.take k)+r[k].toNat % 128*128 ^ k:=by
 induction r generalizing k with
 |nil=>simp at h
 |cons c r ih=>
  cases k with
  |zero=>simp[Leb.val]
  |succ k=>
   have:=ih k (by simpa using h);simp only[List.take_succ_cons,Leb.val,List.getElem_cons_succ,this,Nat.pow_succ];rw[Nat.add_mul,Nat.mul_assoc];omega
theorem eo(r:L8)(k:Nat):Leb.val (r.take k)<128 ^ k:=by
 induction k generalizing r with
 |zero=>simp[Leb.val]
 |succ k ih=>
  cases r with
  |nil=>simp only[List.take_nil,Leb.val];exact Nat.pow_pos (by omega)
  |cons c r=>
   have:=ih r;simp only[List.take_succ_cons,Leb.val,Nat.pow_succ];omega
theorem wB(b o c a:Nat)(l:L8)(b5:l.length<=140737488351232)(b6:l.length<=c)(b2:a<l.length)(w:World)(bc:bR w b o l):
  Calls Tryz.prog 168 #[.slice (some ⟨b,o,none⟩) l.length c,.int .i64 a] w fun e w'=>e=.returned (eF l a)∧w'=w:=by
 obtain⟨r,aj⟩:∃r,r=l.drop a:=⟨_,rfl⟩;have a5:r.length=l.length-a:=by rw[aj,List.length_drop]
 have R:Hid (∀j (h:j<r.length),w.cell? ⟨b,o+a+j,none⟩=some (.int .u8 (r[j].toNat:Int))):=by
  intro j h;have:=bc (a+j) (by omega);rw[Nat.add_assoc,this];subst aj;rw[List.getElem_drop]
 have I:Hid (∀e n k,Leb.get r=⟨e,n,k⟩->Leb.get (l.drop a)=⟨e,n,k⟩):=by
  intro e n k h;rw[<-aj];exact h
 have b3:¬c=a:=by omega
 have K:Hid (∀k v:Nat,k<=10->v<256->Calls Tryz.prog 184 #[.int .i64 k,.int .u8 v] w fun e w'=>e=.returned (.int .i64 (Leb.judge k v:Nat))∧w'=w):=fun k v U M=>j7 k v U M w;clear bc aj;go_enter Tryz.func168,Tryz.ntmps168;go_wp2_with fail
 go_step3
 go_wp2_with fail
 go_step3
 go_wp2_with fail;go_loop [7,8,9,25] (fun bT a8 bX bO=>∃k m v:Nat,k<=9∧k<=r.length∧bT=.int .u64 m∧a8=.int .i64 k∧bX=.int .u8 v∧bO=.int .i64 k∧127<v∧v<256∧m<18446744073709551616∧Hid (m=Leb.val (r.take k)∧∀j (h:j<r.length),j<k->127<r[j].toNat)) (fun _ a8 _ _=>10-(intOf a8).toNat);case atStart=>exact⟨0,0,128,by omega,by omega,rfl,rfl,rfl,rfl,by omega,by omega,by omega,rfl,fun j h b0=>by omega⟩
 case round=>
  obtain⟨k,m,v,b4,bd,rfl,rfl,rfl,rfl,b9,bN,b8,z⟩:=hrel;by_cases a1:k=r.length
  ·have W:=Leb.high_eq 10 r k (by omega) (by omega) z.out.2 (.inr (.inl a1));have J:=xX (cY l a 30 (by omega) (I.out _ _ _ ((Leb.getF_high 10 true r).2.1 (by rw[W];exact a1) (by omega))));have y:Leb.judge k v=30:=(by unfold Leb.judge;rw[if_pos ⟨by omega,by omega⟩]);have A:=xX (K.out k v (by omega) bN);rw[y] at A;have bp:¬k<l.length-a:=(by omega);clear z W y R I K a1 a5 bd;go_wp2_with fail;refine A.out.mono ?_;rintro e w' ⟨rfl,D⟩;rw[D];clear D w';go_wp2;try rw[Exit.noGoto_ret]
   go_ret3
   exact⟨by rw[J.out];rfl,rfl⟩
  ·have ah:k<r.length:=(by omega);have bq:=R.out k ah;have X:r[k].toNat<256:=r[k].toNat_lt;have bp:k<l.length-a:=(by omega);have bn:=qO r[k].toNat X;obtain⟨v',a6⟩:∃v',v'=r[k].toNat:=⟨_,rfl⟩;rw[<-a6] at bq X bn;have L:=xX a6;have a0:=xX a5;clear a6 a5;by_cases Y:127<v'
   ·have ak:Hid (∀j (h:j<r.length),j<k+1->127<r[j].toNat):=by
     intro j h y;by_cases e:j=k
     ·subst e;rw[<-L.out];exact Y
     ·exact z.out.2 j h (by omega)
    by_cases bb:k=9
    ·have J:=xX (cY l a 5 (by omega) (I.out _ _ _ ((Leb.getF_high 10 true r).1 (Leb.high_eq 10 r 10 (by omega) (by omega) (fun j h y=>ak.out j h (by omega)) (.inl rfl)))));have y:Leb.judge 10 v'=5:=(by unfold Leb.judge;rw[if_neg (by omega),if_pos ⟨rfl,by omega⟩]);have A:=xX (K.out 10 v' (by omega) X);rw[y] at A;clear z ak R I K L a0 y;subst bb;go_wp2_with fail;refine A.out.mono ?_;rintro e w' ⟨rfl,D⟩;rw[D];clear D w';go_wp2;try rw[Exit.noGoto_ret]
     go_ret3
     exact⟨by rw[J.out];rfl,rfl⟩
    ·have b1:((k:Int)+1==10)=false:=(by rw[beq_eq_false_iff_ne];omega);have Z:k<=8:=(by omega);have O:=eZ r k ah;rw[<-L.out,<-z.out.1] at O;have bs:(128:Nat) ^ (k+1)<=128 ^ 9:=Nat.pow_le_pow_right (by omega) (by omega);have bk:(128:Nat) ^ 9=9223372036854775808:=(by decide);have be:=eo r (k+1);rw[O] at be;have a2:m+v' % 128*128 ^ k<18446744073709551616:=(by omega);have a4:=jZ m v' k (by rw[z.out.1];exact eo r k) a2;have a9:Hid (m+v' % 128*128 ^ k=Leb.val (r.take (k+1))):=O.symm;clear bb O bs bk be R I K z;generalize m+v' % 128*128 ^ k=bj at a4 a9 a2;go_wp2_with fail;go_round;case rel=>exact⟨k+1,bj,v',by omega,by omega,rfl,by go_num,rfl,by go_num,Y,X,a2,a9.out,ak.out⟩
     case measure=>simp[intOf];omega
   ·have W:=Leb.high_eq 10 r k (by omega) bd z.out.2 (.inr (.inr ⟨ah,by rw[<-L.out];exact Y⟩));have E:=(Leb.getF_high 10 true r).2.2 (by omega) (by omega);simp only[W] at E;rw[<-L.out] at E;have b7:v'<128:=(by omega);by_cases V:(k+1=10∧1<v')∨((true=false∨0<k)∧v'=0)
    ·rw[if_pos V] at E;have J:=xX (cY l a 5 (by omega) (I.out _ _ _ E));have y:Leb.judge (k+1) v'=5:=by
      unfold Leb.judge;rw[if_neg (by omega)];by_cases U:k+1=10∧1<v'
      ·rw[if_pos U]
      ·rcases V with M | ⟨M | M,bl⟩
       ·exact absurd M U
       ·cases M
       ·rw[if_neg U,if_pos ⟨by omega,bl⟩]
     have A:=xX (K.out (k+1) v' (by omega) X);rw[y] at A;clear z R I K L a0 y E W V Y;go_wp2_with fail;refine A.out.mono ?_;rintro e w' ⟨rfl,D⟩;rw[D];clear D w';go_wp2;try rw[Exit.noGoto_ret]
     go_ret3
     exact⟨by rw[J.out];rfl,rfl⟩
    ·rw[if_neg V] at E;have a3:=Leb.get_ok r (by rw[show Leb.get r=_ from E]);rw[show Leb.get r=_ from E] at a3;have Z:Leb.val (r.take (k+1))<18446744073709551616:=a3.1;have O:=eZ r k ah;rw[<-L.out,<-z.out.1] at O;have J:=xX (iz l a _ _ (I.out _ _ _ E));rw[O] at J Z;have a4:=jZ m v' k (by rw[z.out.1];exact eo r k) Z;have y:Leb.judge (k+1) v'=0:=by
      unfold Leb.judge;rw[if_neg (by omega),if_neg (by omega),if_neg];rintro⟨U,M⟩;exact V (.inr ⟨.inr (by omega),M⟩)
     have A:=xX (K.out (k+1) v' (by omega) X);rw[y] at A;clear z R I K L a0 y E W V Y a3 O;generalize m+v' % 128*128 ^ k=bj at a4 J Z;go_wp2_with fail;refine A.out.mono ?_;rintro e w' ⟨rfl,D⟩;rw[D];clear D w';go_wp2;try rw[Exit.noGoto_ret]
     go_ret3
     exact⟨by rw[J.out] <;> go_num,rfl⟩
theorem pd(p:OA)(c:Nat)(l:L8)(a:Int)(A:l.length<=140737488351232)(D:l.length<=c)(w:World)(h:At w p l):
  Calls Tryz.prog 168 #[.slice p l.length c,.int .i64 a] w fun e w'=>e=.returned (eF l a)∧w'=w:=by
 by_cases o:a<0∨(l.length:Int)<a
 ·rw[fU l a (by omega)];exact uG p c l.length a o w
 ·obtain⟨n,rfl⟩:∃n:Nat,a=(n:Int):=⟨a.toNat,by omega⟩;by_cases y:n=l.length
  ·rw[fU l n (by omega),y];exact uH p c l.length w
  ·obtain⟨b,E,rfl,_,z⟩:=aL h (by omega);exact wB b E c n l A D (by omega) w z
end
section
open Go
theorem cg{k:Nat}(z:s.data.toList.drop pos=l)(y:k<l.length):pos+k<s.size∧s.get! (pos+k)=l[k]:=by
 subst z;have o:pos+k<s.size:=by
  rw[List.length_drop,Array.length_toList] at y;show pos+k<s.data.size;omega
 refine⟨o,?_⟩;rw[List.getElem_drop,Array.getElem_toList];exact get_at s (pos+k) o
theorem pB(o:s.data.toList.drop pos=l)(y:pos<=s.size):s.size=pos+l.length:=by
 subst o;rw[List.length_drop,Array.length_toList];show s.data.size=_;have:pos<=s.data.size:=y;omega
theorem kS(s:ByteArray)(i:Nat):Utf8.decode s i=(let at' (k:Nat):Nat:=(s.get! (i+k)).toNat
 let dP (k:Nat):Bool:=i+k<s.size&&at' k / 64==2
 let b0:=at' 0
 if b0<0x80 then (b0,1)
 else if b0 / 32==6&&dP 1 then
  let c:=(b0 % 32)*64+at' 1 % 64
  if c≥0x80 then (c,2) else (Utf8.runeError,1)
 else if b0 / 16==14&&dP 1&&dP 2 then
  let c:=(b0 % 16)*4096+(at' 1 % 64)*64+at' 2 % 64
  if c≥0x800&&Utf8.valid c then (c,3) else (Utf8.runeError,1)
 else if b0 / 8==30&&dP 1&&dP 2&&dP 3 then
  let c:=(b0 % 8)*262144+(at' 1 % 64)*4096+(at' 2 % 64)*64+at' 3 % 64
  if c≥0x10000&&Utf8.valid c then (c,4) else (Utf8.runeError,1)
 else (Utf8.runeError,1)):=rfl
theorem gj(c least:Nat):(Utf8.valid c&&decide (least<=c))=U8.may least c:=by
 unfold Utf8.valid U8.may;rw[Bool.eq_iff_iff];simp only[Bool.and_eq_true,Bool.or_eq_true,decide_eq_true_eq,Bool.not_eq_true',Bool.and_eq_false_iff,decide_eq_false_iff_not];omega
def dec:L8->Nat×Nat
 | []=>(65533,1)
 |c0::r=>
  if c0.toNat<128 then (c0.toNat,1)
  else match r with
   | []=>(65533,1)
   |c1::r1=>
    if 192<=c0.toNat∧c0.toNat<224 then (if (128<=c1.toNat∧c1.toNat<192)∧128<=(c0.toNat-192)*64+c1.toNat-128 then ((c0.toNat-192)*64+c1.toNat-128,2) else (65533,1))
    else match r1 with
     | []=>(65533,1)
     |c2::r2=>
      if 224<=c0.toNat∧c0.toNat<240 then (if (128<=c1.toNat∧c1.toNat<192)∧(128<=c2.toNat∧c2.toNat<192)∧U8.may 2048 (((c0.toNat-224)*64+c1.toNat-128)*64+c2.toNat-128) then (((c0.toNat-224)*64+c1.toNat-128)*64+c2.toNat-128,3) else (65533,1))
      else match r2 with
       | []=>(65533,1)
       |c3::_=>
        if 240<=c0.toNat∧c0.toNat<248 then (if (128<=c1.toNat∧c1.toNat<192)∧(128<=c2.toNat∧c2.toNat<192)∧(128<=c3.toNat∧c3.toNat<192)∧U8.may 65536 ((((c0.toNat-240)*64+c1.toNat-128)*64+c2.toNat-128)*64+c3.toNat-128) then ((((c0.toNat-240)*64+c1.toNat-128)*64+c2.toNat-128)*64+c3.toNat-128,4) else (65533,1))
        else (65533,1)
theorem sH(c:UInt8):(c.toNat / 32==6)=decide (192<=c.toNat∧c.toNat<224):=by rw[Bool.eq_iff_iff];simp;omega
theorem vf(c:UInt8):(c.toNat / 16==14)=decide (224<=c.toNat∧c.toNat<240):=by rw[Bool.eq_iff_iff];simp;omega
theorem xq(c:UInt8):(c.toNat / 8==30)=decide (240<=c.toNat∧c.toNat<248):=by rw[Bool.eq_iff_iff];simp;omega
theorem follows(c:UInt8):(c.toNat / 64==2)=decide (128<=c.toNat∧c.toNat<192):=by rw[Bool.eq_iff_iff];simp;omega
theorem jj(D:s.data.toList.drop pos=l)(Z:pos<s.size):Utf8.decode s pos=dec l:=by
 have E:=pB D (Nat.le_of_lt Z);have W:Utf8.runeError=65533:=rfl;match l,D,E with
 | [],_,h=>simp at h;omega
 | [c0],D,E=>
  have J:=(cg D (k:=0) (by simp)).2;have R:decide (pos+1<s.size)=false:=decide_eq_false (by simp at E;omega);have U:decide (pos+2<s.size)=false:=decide_eq_false (by simp at E;omega);have X:decide (pos+3<s.size)=false:=decide_eq_false (by simp at E;omega);simp only[List.getElem_cons_zero] at J;rw[kS];simp only[J,R,Bool.false_and,Bool.and_false,Bool.false_eq_true,if_false,W];unfold dec;rfl
 | [c0,c1],D,E=>
  have J:=(cg D (k:=0) (by simp)).2;have L:=(cg D (k:=1) (by simp)).2;have R:decide (pos+1<s.size)=true:=decide_eq_true (by simp at E;omega);have U:decide (pos+2<s.size)=false:=decide_eq_false (by simp at E;omega);simp only[List.getElem_cons_zero,List.getElem_cons_succ] at J L;rw[kS];simp only[J,L,R,U,Bool.false_and,Bool.and_false,Bool.true_and,Bool.false_eq_true,if_false,W,sH,follows];simp only[dec];by_cases I:c0.toNat<128
  ·rw[if_pos I,if_pos I]
  ·rw[if_neg I,if_neg I];by_cases A:192<=c0.toNat∧c0.toNat<224
   ·by_cases y:128<=c1.toNat∧c1.toNat<192
    ·rw[if_pos (by simp[A,y]),if_pos A];have e:c0.toNat % 32*64+c1.toNat % 64=(c0.toNat-192)*64+c1.toNat-128:=(by omega);rw[e];by_cases z:128<=(c0.toNat-192)*64+c1.toNat-128
     ·rw[if_pos z,if_pos ⟨y,z⟩]
     ·rw[if_neg z,if_neg (fun o=>z o.2)]
    ·rw[if_neg (by simp[y]),if_pos A,if_neg (fun o=>y o.1)]
   ·rw[if_neg (by simp[A]),if_neg A]
 | [c0,c1,c2],D,E=>
  have J:=(cg D (k:=0) (by simp)).2;have L:=(cg D (k:=1) (by simp)).2;have V:=(cg D (k:=2) (by simp)).2;have R:decide (pos+1<s.size)=true:=decide_eq_true (by simp at E;omega);have U:decide (pos+2<s.size)=true:=decide_eq_true (by simp at E;omega);have X:decide (pos+3<s.size)=false:=decide_eq_false (by simp at E;omega);simp only[List.getElem_cons_zero,List.getElem_cons_succ] at J L V;rw[kS];simp only[J,L,V,R,U,X,Bool.false_and,Bool.and_false,Bool.true_and,Bool.false_eq_true,if_false,W,sH,vf,follows];simp only[dec];by_cases I:c0.toNat<128
  ·rw[if_pos I,if_pos I]
  ·rw[if_neg I,if_neg I];by_cases A:192<=c0.toNat∧c0.toNat<224
   ·by_cases y:128<=c1.toNat∧c1.toNat<192
    ·rw[if_pos (by simp[A,y]),if_pos A];have e:c0.toNat % 32*64+c1.toNat % 64=(c0.toNat-192)*64+c1.toNat-128:=(by omega);rw[e];by_cases z:128<=(c0.toNat-192)*64+c1.toNat-128
     ·rw[if_pos z,if_pos ⟨y,z⟩]
     ·rw[if_neg z,if_neg (fun o=>z o.2)]
    ·rw[if_neg (by simp[y]),if_neg (by simp[y]),if_pos A,if_neg (fun o=>y o.1)]
   ·rw[if_neg (by simp[A]),if_neg A];by_cases K:224<=c0.toNat∧c0.toNat<240
    ·rw[if_pos K];by_cases y:(128<=c1.toNat∧c1.toNat<192)∧128<=c2.toNat∧c2.toNat<192
     ·rw[if_pos (by simp[K,y])];have e:c0.toNat % 16*4096+c1.toNat % 64*64+c2.toNat % 64=((c0.toNat-224)*64+c1.toNat-128)*64+c2.toNat-128:=(by omega);rw[e];have O:=gj (((c0.toNat-224)*64+c1.toNat-128)*64+c2.toNat-128) 2048;by_cases z:U8.may 2048 (((c0.toNat-224)*64+c1.toNat-128)*64+c2.toNat-128)=true
      ·rw[if_pos (by rw[Bool.and_comm,<-z];exact O),if_pos ⟨y.1,y.2,z⟩]
      ·rw[if_neg (by rw[Bool.and_comm];exact fun o=>z (O.symm.trans o)),if_neg (fun o=>z o.2.2)]
     ·rw[if_neg (by simp only[Bool.and_eq_true,decide_eq_true_eq];exact fun o=>y ⟨o.1.2,o.2⟩),if_neg (fun o=>y ⟨o.1,o.2.1⟩)]
    ·rw[if_neg (by simp[K]),if_neg K]
 |c0::c1::c2::c3::t,D,E=>
  have J:=(cg D (k:=0) (by simp)).2;have L:=(cg D (k:=1) (by simp)).2;have V:=(cg D (k:=2) (by simp)).2;have Y:=(cg D (k:=3) (by simp)).2;have R:decide (pos+1<s.size)=true:=decide_eq_true (by simp at E;omega);have U:decide (pos+2<s.size)=true:=decide_eq_true (by simp at E;omega);have X:decide (pos+3<s.size)=true:=decide_eq_true (by simp at E;omega);simp only[List.getElem_cons_zero,List.getElem_cons_succ] at J L V Y;rw[kS];simp only[J,L,V,Y,R,U,X,Bool.true_and,W,sH,vf,xq,follows];simp only[dec];by_cases I:c0.toNat<128
  ·rw[if_pos I,if_pos I]
  ·rw[if_neg I,if_neg I];by_cases A:192<=c0.toNat∧c0.toNat<224
   ·have K:¬(224<=c0.toNat∧c0.toNat<240):=(by omega);have M:¬(240<=c0.toNat∧c0.toNat<248):=(by omega);by_cases y:128<=c1.toNat∧c1.toNat<192
    ·rw[if_pos (by simp[A,y]),if_pos A];have e:c0.toNat % 32*64+c1.toNat % 64=(c0.toNat-192)*64+c1.toNat-128:=(by omega);rw[e];by_cases z:128<=(c0.toNat-192)*64+c1.toNat-128
     ·rw[if_pos z,if_pos ⟨y,z⟩]
     ·rw[if_neg z,if_neg (fun o=>z o.2)]
    ·rw[if_neg (by simp[y]),if_neg (by simp[K]),if_neg (by simp[M]),if_pos A,if_neg (fun o=>y o.1)]
   ·rw[if_neg (by simp[A]),if_neg A];by_cases K:224<=c0.toNat∧c0.toNat<240
    ·have M:¬(240<=c0.toNat∧c0.toNat<248):=(by omega);rw[if_pos K];by_cases y:(128<=c1.toNat∧c1.toNat<192)∧128<=c2.toNat∧c2.toNat<192
     ·rw[if_pos (by simp[K,y])];have e:c0.toNat % 16*4096+c1.toNat % 64*64+c2.toNat % 64=((c0.toNat-224)*64+c1.toNat-128)*64+c2.toNat-128:=(by omega);rw[e];have O:=gj (((c0.toNat-224)*64+c1.toNat-128)*64+c2.toNat-128) 2048;by_cases z:U8.may 2048 (((c0.toNat-224)*64+c1.toNat-128)*64+c2.toNat-128)=true
      ·rw[if_pos (by rw[Bool.and_comm,<-z];exact O),if_pos ⟨y.1,y.2,z⟩]
      ·rw[if_neg (by rw[Bool.and_comm];exact fun o=>z (O.symm.trans o)),if_neg (fun o=>z o.2.2)]
     ·rw[if_neg (by simp only[Bool.and_eq_true,decide_eq_true_eq];exact fun o=>y ⟨o.1.2,o.2⟩),if_neg (by simp[M]),if_neg (fun o=>y ⟨o.1,o.2.1⟩)]
    ·rw[if_neg (by simp[K]),if_neg K];by_cases M:240<=c0.toNat∧c0.toNat<248
     ·rw[if_pos M];by_cases y:(128<=c1.toNat∧c1.toNat<192)∧(128<=c2.toNat∧c2.toNat<192)∧128<=c3.toNat∧c3.toNat<192
      ·rw[if_pos (by simp[M,y])];have e:c0.toNat % 8*262144+c1.toNat % 64*4096+c2.toNat % 64*64+c3.toNat % 64=(((c0.toNat-240)*64+c1.toNat-128)*64+c2.toNat-128)*64+c3.toNat-128:=(by omega);rw[e];have O:=gj ((((c0.toNat-240)*64+c1.toNat-128)*64+c2.toNat-128)*64+c3.toNat-128) 65536;by_cases z:U8.may 65536 ((((c0.toNat-240)*64+c1.toNat-128)*64+c2.toNat-128)*64+c3.toNat-128)=true
       ·rw[if_pos (by rw[Bool.and_comm,<-z];exact O),if_pos ⟨y.1,y.2.1,y.2.2,z⟩]
       ·rw[if_neg (by rw[Bool.and_comm];exact fun o=>z (O.symm.trans o)),if_neg (fun o=>z o.2.2.2)]
      ·rw[if_neg (by simp only[Bool.and_eq_true,decide_eq_true_eq];exact fun o=>y ⟨o.1.1.2,o.1.2,o.2⟩),if_neg (fun o=>y ⟨o.1,o.2.1,o.2.2.1⟩)]
     ·rw[if_neg (by simp[M]),if_neg M]
theorem iw{v:Nat}(h:v<2048)(least:Nat):U8.may least v=decide (least<=v):=by
 unfold U8.may;rw[Bool.eq_iff_iff];simp only[Bool.and_eq_true,decide_eq_true_eq,Bool.not_eq_true',Bool.and_eq_false_iff,decide_eq_false_iff_not];omega
theorem vm(h:c<128):U8.kind c=some (1,c,0):=by unfold U8.kind;rw[if_pos h]
theorem vl(h:192<=c∧c<224):U8.kind c=some (2,c-192,128):=by unfold U8.kind;rw[if_neg (by omega),if_pos h]
theorem vh(h:224<=c∧c<240):U8.kind c=some (3,c-224,2048):=by unfold U8.kind;rw[if_neg (by omega),if_neg (by omega),if_pos h]
theorem vg(h:240<=c∧c<248):U8.kind c=some (4,c-240,65536):=by unfold U8.kind;rw[if_neg (by omega),if_neg (by omega),if_neg (by omega),if_pos h]
theorem xr(o:¬c<128)(y:¬(192<=c∧c<224))(z:¬(224<=c∧c<240))(A:¬(240<=c∧c<248)):U8.kind c=none:=by unfold U8.kind;rw[if_neg o,if_neg y,if_neg z,if_neg A]
theorem uN(h:U8.one l=none):dec l=(65533,1):=by
 match l,h with
 | [],_=>rfl
 |c0::r,h=>
  simp only[U8.one] at h;by_cases y:c0.toNat<128
  ·rw[vm y] at h;simp[U8.conts,iw (show c0.toNat<2048 by omega)] at h
  ·by_cases z:192<=c0.toNat∧c0.toNat<224
   ·rw[vl z] at h;match r,h with
    | [],_=>simp[dec,y]
    |c1::r1,h=>
     simp only[dec];rw[if_neg y,if_pos z];by_cases A:128<=c1.toNat∧c1.toNat<192
     ·simp only[U8.conts,if_pos A,iw (show(c0.toNat-192)*64+c1.toNat-128<2048 by omega)] at h;by_cases D:128<=(c0.toNat-192)*64+c1.toNat-128
      ·simp[D] at h
      ·rw[if_neg (fun o=>D o.2)]
     ·rw[if_neg (fun o=>A o.1)]
   ·by_cases E:224<=c0.toNat∧c0.toNat<240
    ·rw[vh E] at h;match r,h with
     | [],_=>simp[dec,y]
     | [c1],_=>simp[dec,y,z]
     |c1::c2::r2,h=>
      simp only[dec];rw[if_neg y,if_neg z,if_pos E];by_cases A:128<=c1.toNat∧c1.toNat<192
      ·by_cases D:128<=c2.toNat∧c2.toNat<192
       ·simp only[U8.conts,if_pos A,if_pos D] at h;by_cases I:U8.may 2048 (((c0.toNat-224)*64+c1.toNat-128)*64+c2.toNat-128)=true
        ·simp[I] at h
        ·rw[if_neg (fun o=>I o.2.2)]
       ·rw[if_neg (fun o=>D o.2.1)]
      ·rw[if_neg (fun o=>A o.1)]
    ·by_cases J:240<=c0.toNat∧c0.toNat<248
     ·rw[vg J] at h;match r,h with
      | [],_=>simp[dec,y]
      | [c1],_=>simp[dec,y,z]
      | [c1,c2],_=>simp[dec,y,z,E]
      |c1::c2::c3::r3,h=>
       simp only[dec];rw[if_neg y,if_neg z,if_neg E,if_pos J];by_cases A:128<=c1.toNat∧c1.toNat<192
       ·by_cases D:128<=c2.toNat∧c2.toNat<192
        ·by_cases K:128<=c3.toNat∧c3.toNat<192
         ·simp only[U8.conts,if_pos A,if_pos D,if_pos K] at h;by_cases I:U8.may 65536 ((((c0.toNat-240)*64+c1.toNat-128)*64+c2.toNat-128)*64+c3.toNat-128)=true
          ·simp[I] at h
          ·rw[if_neg (fun o=>I o.2.2.2)]
         ·rw[if_neg (fun o=>K o.2.2.1)]
        ·rw[if_neg (fun o=>D o.2.1)]
       ·rw[if_neg (fun o=>A o.1)]
     ·match r with
      | []=>simp[dec,y]
      | [c1]=>simp[dec,y,z]
      | [c1,c2]=>simp[dec,y,z,E]
      |c1::c2::c3::r3=>simp[dec,y,z,E,J]
theorem te{n:Nat}(h:U8.one l=some n):(dec l).2=n∧((dec l).1=65533->n=3∧l.take 3=[239,191,189])∧(dec l).1<=1114111:=by
 match l,h with
 | [],h=>simp[U8.one] at h
 |c0::r,h=>
  simp only[U8.one] at h;by_cases A:c0.toNat<128
  ·rw[vm A] at h;have U:U8.may 0 c0.toNat=true:=(by rw[iw (by omega)];simp);have V:n=1:=(by simpa[U8.conts,U] using h.symm);subst V;have hd:dec (c0::r)=(c0.toNat,1):=(by simp[dec,A]);rw[hd];exact⟨rfl,fun D=>by simp only at D;omega,by simp only;omega⟩
  ·by_cases E:192<=c0.toNat∧c0.toNat<224
   ·rw[vl E] at h;match r,h with
    | [],h=>simp[U8.conts] at h
    |c1::r1,h=>
     simp only[dec];rw[if_neg A,if_pos E];by_cases o:128<=c1.toNat∧c1.toNat<192
     ·simp only[U8.conts,if_pos o,iw (show(c0.toNat-192)*64+c1.toNat-128<2048 by omega)] at h;by_cases y:128<=(c0.toNat-192)*64+c1.toNat-128
      ·simp only[y,decide_true,if_true,Option.some.injEq] at h;rw[if_pos ⟨o,y⟩];exact⟨h,fun D=>by omega,by simp only;omega⟩
      ·simp[y] at h
     ·simp only[U8.conts,if_neg o] at h;cases h
   ·by_cases I:224<=c0.toNat∧c0.toNat<240
    ·rw[vh I] at h;match r,h with
     | [],h=>simp[U8.conts] at h
     | [c1],h=>
      by_cases o:128<=c1.toNat∧c1.toNat<192
      ·simp only[U8.conts,if_pos o] at h;cases h
      ·simp only[U8.conts,if_neg o] at h;cases h
     |c1::c2::r2,h=>
      simp only[dec];rw[if_neg A,if_neg E,if_pos I];by_cases o:128<=c1.toNat∧c1.toNat<192
      ·by_cases y:128<=c2.toNat∧c2.toNat<192
       ·simp only[U8.conts,if_pos o,if_pos y] at h;by_cases z:U8.may 2048 (((c0.toNat-224)*64+c1.toNat-128)*64+c2.toNat-128)=true
        ·rw[if_pos z] at h;simp only[Option.some.injEq] at h;rw[if_pos ⟨o,y,z⟩];refine⟨h,fun D=>⟨h.symm,?_⟩,by simp only;omega⟩;simp only at D;have M:c0=239:=UInt8.toNat_inj.1 (by simp;omega);have O:c1=191:=UInt8.toNat_inj.1 (by simp;omega);have R:c2=189:=UInt8.toNat_inj.1 (by simp;omega);rw[M,O,R];rfl
        ·rw[if_neg z] at h;cases h
       ·simp only[U8.conts,if_pos o,if_neg y] at h;cases h
      ·simp only[U8.conts,if_neg o] at h;cases h
    ·by_cases J:240<=c0.toNat∧c0.toNat<248
     ·rw[vg J] at h;match r,h with
      | [],h=>simp[U8.conts] at h
      | [c1],h=>
       by_cases o:128<=c1.toNat∧c1.toNat<192
       ·simp only[U8.conts,if_pos o] at h;cases h
       ·simp only[U8.conts,if_neg o] at h;cases h
      | [c1,c2],h=>
       by_cases o:128<=c1.toNat∧c1.toNat<192
       ·by_cases y:128<=c2.toNat∧c2.toNat<192
        ·simp only[U8.conts,if_pos o,if_pos y] at h;cases h
        ·simp only[U8.conts,if_pos o,if_neg y] at h;cases h
       ·simp only[U8.conts,if_neg o] at h;cases h
      |c1::c2::c3::r3,h=>
       simp only[dec];rw[if_neg A,if_neg E,if_neg I,if_pos J];by_cases o:128<=c1.toNat∧c1.toNat<192
       ·by_cases y:128<=c2.toNat∧c2.toNat<192
        ·by_cases K:128<=c3.toNat∧c3.toNat<192
         ·simp only[U8.conts,if_pos o,if_pos y,if_pos K] at h;by_cases z:U8.may 65536 ((((c0.toNat-240)*64+c1.toNat-128)*64+c2.toNat-128)*64+c3.toNat-128)=true
          ·rw[if_pos z] at h;simp only[Option.some.injEq] at h;rw[if_pos ⟨o,y,K,z⟩];have L:=z;unfold U8.may at L;simp only[Bool.and_eq_true,decide_eq_true_eq] at L;exact⟨h,fun D=>by simp only at D;omega,L.1.2⟩
          ·rw[if_neg z] at h;cases h
         ·simp only[U8.conts,if_pos o,if_pos y,if_neg K] at h;cases h
        ·simp only[U8.conts,if_pos o,if_neg y] at h;cases h
       ·simp only[U8.conts,if_neg o] at h;cases h
     ·rw[xr A E I J] at h;cases h
end
section
open Go.RowKit
theorem sb(h:l.take 3=[239,191,189]):U8.one l=some 3:=by
 match l,h with
 | [],h=>simp at h
 | [_],h=>simp at h
 | [_,_],h=>simp at h
 |a::b::c::r,h=>
  simp only[List.take_succ_cons,List.take_zero,List.cons.injEq,and_true] at h;obtain⟨rfl,rfl,rfl⟩:=h;simp[U8.one,U8.kind,U8.conts,U8.may]
theorem xQ(t:ByteArray):(t.extract 0 3).toList=t.data.toList.take 3:=by
 rw[ByteArray.toList_eq,ByteArray.data_extract,Array.toList_extract];simp
theorem wK(t:ByteArray)(pos:Nat):(t.extract pos t.size).data.toList=t.data.toList.drop pos:=by
 rw[ByteArray.data_extract,Array.toList_extract];simp;exact List.take_of_length_le (by simp[List.length_drop])
def ml(t:ByteArray):Bool:=decide (t.data.toList.take 3=[239,191,189])
theorem p6(t:ByteArray)(J:t.size<=281474976702464)(w:World):Calls Tryz.prog 201 #[.string t,.string ⟨#[239,191,189]⟩] w fun e w'=>e=.returned (.bool (ml t))∧w'=w:=by
 by_cases D:t.size<3
 ·have y:¬(3:Int)<=(t.size:Int):=by omega
  have o:Hid (ml t=false):=by
   show decide _=false;rw[decide_eq_false_iff_not];intro z;have:=congrArg List.length z;rw[List.length_take,Array.length_toList] at this;have I:t.data.size=t.size:=rfl;simp at this;omega
  go_enter Tryz.func201,Tryz.ntmps201;go_wp2;go_ret;exact⟨by rw[o.out];rfl,rfl⟩
 ·have y:(3:Int)<=(t.size:Int):=by omega
  have E:3<=t.size:=by omega
  obtain⟨r,A⟩:∃r,((t.extract 0 3).toList==[239,191,189])=r:=⟨_,rfl⟩;have o:Hid (ml t=r):=by
   show decide _=r;rw[<-A,xQ];rw[Bool.eq_iff_iff];simp
  go_enter Tryz.func201,Tryz.ntmps201;go_wp2;go_ret;exact⟨by rw[o.out];rfl,rfl⟩
theorem sV(t:ByteArray)(z:t.size<=281474976702464)(w:World):Calls Tryz.prog 196 #[.string t,.string ⟨#[239,191,189]⟩] w fun e w'=>e=.returned (.bool (ml t))∧w'=w:=by
 have y:=xX (p6 t z w);go_enter Tryz.func196,Tryz.ntmps196;go_wp2_with fail;refine y.out.mono ?_;rintro e w1 ⟨rfl,o⟩;rw[o];clear o w1;go_wp2;go_ret;exact⟨rfl,rfl⟩
theorem wU(t:ByteArray)(bc:t.size<=281474976702464)(w:World):Calls Tryz.prog 182 #[.string t] w fun e w'=>e=.returned (.bool (cK t))∧Below w.1.size w w':=by
 obtain⟨o,U⟩:∃o,o=t.data.toList:=⟨_,rfl⟩;have a1:Hid (cK t=U8.utf o):=by show _=_;rw[U];rfl
 have R:=xX U;have L:Hid (∀k pos,((w.drewN k).iter t pos).iterPos w.1.size=pos):=fun k pos=>World.iterPos_iter (w.drewN k) t pos;have aj:Hid (∀k pos,Below w.1.size w ((w.drewN k).iter t pos)):=fun k pos=>(below_drewN xY k).alloc xZ _;clear U;have a2:Hid (t.size=o.length):=by show _=_;rw[R.out,Array.length_toList];rfl
 have a6:Hid (∀pos w',pos<=t.size->Calls Tryz.prog 196 #[.string (t.extract pos t.size),.string ⟨#[239,191,189]⟩] w' fun e ah=>e=.returned (.bool (decide ((o.drop pos).take 3=[239,191,189])))∧ah=w'):=by
  intro pos w' a4;have h:=sV (t.extract pos t.size) (by rw[ByteArray.size_extract];omega) w';unfold ml at h;rw[wK,<-R.out] at h;exact h
 go_enter Tryz.func182,Tryz.ntmps182;go_wp2;go_loopw [3,4] (fun _ _ wr=>∃pos k:Nat,pos<=t.size∧wr=(w.drewN k).iter t pos∧Hid (U8.utf o=U8.utf (o.drop pos))) (fun _ _ wr=>t.size-wr.iterPos w.1.size);case atStart=>exact⟨0,0,by omega,rfl,by show _=_;rw[List.drop_zero]⟩
 case round=>
  obtain⟨pos,k,a4,rfl,z⟩:=hrel;by_cases O:pos<t.size
  ·have Z:∀A,(Instr.next (.pointer (some ⟨w.1.size,0,none⟩)) true A).run Tryz.prog ((w.drewN k).iter t pos)=.ok (.tuple #[.bool true,.int .i64 pos,.int .i32 (Utf8.decode t pos).1]) ((w.drewN k).iter t (pos+(Utf8.decode t pos).2)):=fun A=>run_next_any (P:=Tryz.prog) (w.drewN k) t pos A O;obtain⟨l,y⟩:∃l,l=o.drop pos:=⟨_,rfl⟩;have I:t.data.toList.drop pos=l:=(by rw[y,R.out]);have a3:l.length=t.size-pos:=(by rw[y,List.length_drop,a2.out]);obtain⟨m,D⟩:∃m,m=decide (l.take 3=[239,191,189]):=⟨_,rfl⟩;have ak:Hid (∀w',Calls Tryz.prog 196 #[.string (t.extract pos t.size),.string ⟨#[239,191,189]⟩] w' fun e ah=>e=.returned (.bool m)∧ah=w'):=by
    intro w';rw[D,y];exact a6.out pos w' a4
   cases ho:U8.one l with
   |none=>
    have hd:Utf8.decode t pos=(65533,1):=(jj I O).trans (uN ho);rw[hd] at Z;have a5:Hid (U8.utf o=false):=(by show _=_;rw[z.out,<-y];exact U8.utf_bad (fun V=>by rw[V] at a3;simp at a3;omega) ho);have X:m=false:=by
     rw[D,decide_eq_false_iff_not];intro V;rw[sb V] at ho;cases ho
    subst X;clear hd y I ho z D;go_wp2_with fail;refine(ak.out _).mono ?_;rintro e w1 ⟨rfl,K⟩;rw[K];clear K w1;go_wp2;go_ret;exact⟨by rw[a1.out,a5.out];rfl,aj.out _ _⟩
   |some n=>
    obtain⟨E,M⟩:∃E,E=(dec l).1:=⟨_,rfl⟩;obtain⟨W,J,a8⟩:=te ho;have hd:Utf8.decode t pos=(E,n):=(by rw[jj I O,M,<-W]);rw[hd] at Z;have bb:=U8.one_len ho;have a0:Hid (U8.utf o=U8.utf (o.drop (pos+n))):=(by show _=_;rw[z.out,<-y,U8.utf_step ho,y,List.drop_drop]);rw[<-M] at J;by_cases Y:E=65533
    ·have X:m=true:=(by rw[D,decide_eq_true_eq];exact(J Y).2);have a9:=(J Y).1;subst Y a9 X;clear hd y I ho z M W J a8 D;go_wp2_with fail;refine(ak.out _).mono ?_;rintro e w1 ⟨rfl,K⟩;rw[K];clear K w1;go_wp2;go_roundw;case rel=>exact⟨pos+3,k,by omega,rfl,a0⟩
     case measure=>rw[L.out,L.out];omega
    ·have bd:((E:Int)==65533)=false:=(by simp;omega);clear hd y I ho z M W J D;go_wp2;go_roundw;case rel=>exact⟨pos+n,k,by omega,rfl,a0⟩
     case measure=>rw[L.out,L.out];omega
  ·have Z:∀A,(Instr.next (.pointer (some ⟨w.1.size,0,none⟩)) true A).run Tryz.prog ((w.drewN k).iter t pos)=.ok (.tuple #[.bool false]) ((w.drewN k).iter t pos):=fun A=>run_next_end (P:=Tryz.prog) (w.drewN k) t pos A O;have a7:Hid (U8.utf o=true):=(by show _=_;rw[z.out,List.drop_eq_nil_of_le (by have:=a2.out;omega)];rfl);clear z;go_wp2;go_ret;exact⟨by rw[a1.out,a7.out];rfl,aj.out _ _⟩
end
section
open Go.RowKit
attribute [local go_sem] am
theorem vz:aE 0=0:=by kernel_rfl
theorem dU(n:Nat):((n:Int)==0)=(n==0):=by rw[Bool.eq_iff_iff,beq_iff_eq,beq_iff_eq];omega
theorem cC(b:Nat)(w:World):Calls Tryz.prog 152 #[.float .f64 b,.float .f64 0] w fun e w'=>e=.returned (.bool (aE b==0))∧w'=w:=by
 have h:=fL b 0 w;rw[vz] at h;have o:((aE b:Int)==((0:Nat):Int))=(aE b==0):=by
  rw[Bool.eq_iff_iff,beq_iff_eq,beq_iff_eq];omega
 rw[o] at h;exact h
theorem wJ(i:Int)(b:Nat)(t:ByteArray)(p:OA)(n c:Nat)(w:World):
  Calls Tryz.prog 193 #[.agg #[.int .i64 1,.int .i64 i,.float .f64 b,.string t,.slice p n c]] w fun e w'=>e=.returned (.bool (V.ownB 1 i b t n))∧Below w.1.size w w':=by
 have z:Hid (∀o,Below w.1.size w (w.alloc o)):=fun o=>xY.alloc xZ o;go_enter Tryz.func193,Tryz.ntmps193;go_wp2_with (go_at_call 152;refine(cC _ _).mono ?_;rintro e w1 ⟨rfl,y⟩;rw[y];clear y w1);all_goals go_ret
 all_goals refine⟨?_,z.out _⟩
 all_goals simp_all [V.ownB]
 all_goals first | exact dU n | (intros;omega)
theorem wI(i:Int)(b:Nat)(t:ByteArray)(p:OA)(n c:Nat)(w:World):
  Calls Tryz.prog 193 #[.agg #[.int .i64 2,.int .i64 i,.float .f64 b,.string t,.slice p n c]] w fun e w'=>e=.returned (.bool (V.ownB 2 i b t n))∧Below w.1.size w w':=by
 have z:Hid (∀o,Below w.1.size w (w.alloc o)):=fun o=>xY.alloc xZ o;go_enter Tryz.func193,Tryz.ntmps193;go_wp2_with (go_at_call 152;refine(cC _ _).mono ?_;rintro e w1 ⟨rfl,y⟩;rw[y];clear y w1);all_goals go_ret
 all_goals refine⟨?_,z.out _⟩
 all_goals simp_all [V.ownB]
 all_goals first | exact dU n | (intros;omega)
theorem wH(i:Int)(b:Nat)(t:ByteArray)(p:OA)(n c:Nat)(w:World):
  Calls Tryz.prog 193 #[.agg #[.int .i64 3,.int .i64 i,.float .f64 b,.string t,.slice p n c]] w fun e w'=>e=.returned (.bool (V.ownB 3 i b t n))∧Below w.1.size w w':=by
 have z:Hid (∀o,Below w.1.size w (w.alloc o)):=fun o=>xY.alloc xZ o;go_enter Tryz.func193,Tryz.ntmps193;go_wp2_with (go_at_call 152;refine(cC _ _).mono ?_;rintro e w1 ⟨rfl,y⟩;rw[y];clear y w1);all_goals go_ret
 all_goals refine⟨?_,z.out _⟩
 all_goals simp_all [V.ownB,vz]
 all_goals first | exact dU n | (intros;omega)
theorem wG(i:Int)(b:Nat)(t:ByteArray)(p:OA)(n c:Nat)(w:World):
  Calls Tryz.prog 193 #[.agg #[.int .i64 4,.int .i64 i,.float .f64 b,.string t,.slice p n c]] w fun e w'=>e=.returned (.bool (V.ownB 4 i b t n))∧Below w.1.size w w':=by
 have z:Hid (∀o,Below w.1.size w (w.alloc o)):=fun o=>xY.alloc xZ o;go_enter Tryz.func193,Tryz.ntmps193;go_wp2_with (go_at_call 152;refine(cC _ _).mono ?_;rintro e w1 ⟨rfl,y⟩;rw[y];clear y w1);all_goals go_ret
 all_goals refine⟨?_,z.out _⟩
 all_goals simp_all [V.ownB]
 all_goals first | exact dU n | (intros;omega)
theorem wF(i:Int)(b:Nat)(t:ByteArray)(p:OA)(n c:Nat)(w:World):
  Calls Tryz.prog 193 #[.agg #[.int .i64 5,.int .i64 i,.float .f64 b,.string t,.slice p n c]] w fun e w'=>e=.returned (.bool (V.ownB 5 i b t n))∧Below w.1.size w w':=by
 have z:Hid (∀o,Below w.1.size w (w.alloc o)):=fun o=>xY.alloc xZ o;go_enter Tryz.func193,Tryz.ntmps193;go_wp2_with (go_at_call 152;refine(cC _ _).mono ?_;rintro e w1 ⟨rfl,y⟩;rw[y];clear y w1);all_goals go_ret
 all_goals refine⟨?_,z.out _⟩
 all_goals simp_all [V.ownB]
 all_goals first | exact dU n | (intros;omega)
theorem wE(i:Int)(b:Nat)(t:ByteArray)(p:OA)(n c:Nat)(w:World):
  Calls Tryz.prog 193 #[.agg #[.int .i64 6,.int .i64 i,.float .f64 b,.string t,.slice p n c]] w fun e w'=>e=.returned (.bool (V.ownB 6 i b t n))∧Below w.1.size w w':=by
 have z:Hid (∀o,Below w.1.size w (w.alloc o)):=fun o=>xY.alloc xZ o;go_enter Tryz.func193,Tryz.ntmps193;go_wp2_with (go_at_call 152;refine(cC _ _).mono ?_;rintro e w1 ⟨rfl,y⟩;rw[y];clear y w1);all_goals go_ret
 all_goals refine⟨?_,z.out _⟩
 all_goals simp_all [V.ownB]
 all_goals first | exact dU n | (intros;omega)
theorem wD(i:Int)(b:Nat)(t:ByteArray)(p:OA)(n c:Nat)(w:World):
  Calls Tryz.prog 193 #[.agg #[.int .i64 7,.int .i64 i,.float .f64 b,.string t,.slice p n c]] w fun e w'=>e=.returned (.bool (V.ownB 7 i b t n))∧Below w.1.size w w':=by
 have z:Hid (∀o,Below w.1.size w (w.alloc o)):=fun o=>xY.alloc xZ o;go_enter Tryz.func193,Tryz.ntmps193;go_wp2_with (go_at_call 152;refine(cC _ _).mono ?_;rintro e w1 ⟨rfl,y⟩;rw[y];clear y w1);all_goals go_ret
 all_goals refine⟨?_,z.out _⟩
 all_goals simp_all [V.ownB]
theorem s8(k:Int)(M:k<1∨7<k)(i:Int)(b:Nat)(t:ByteArray)(p:OA)(n c:Nat)(w:World):
  Calls Tryz.prog 193 #[.agg #[.int .i64 k,.int .i64 i,.float .f64 b,.string t,.slice p n c]] w fun e w'=>e=.returned (.bool (V.ownB k i b t n))∧Below w.1.size w w':=by
 have z:Hid (∀o,Below w.1.size w (w.alloc o)):=fun o=>xY.alloc xZ o;have A:¬k=1:=by omega
 have D:¬k=2:=by omega
 have E:¬k=3:=by omega
 have I:¬k=4:=by omega
 have J:¬k=5:=by omega
 have K:¬k=6:=by omega
 have L:¬k=7:=by omega
 go_enter Tryz.func193,Tryz.ntmps193;go_wp2_with (go_at_call 152;refine(cC _ _).mono ?_;rintro e w1 ⟨rfl,y⟩;rw[y];clear y w1);all_goals go_ret
 all_goals refine⟨?_,z.out _⟩
 all_goals simp_all [V.ownB]
 all_goals first | exact dU n | (intros;omega)
theorem xA(k i:Int)(b:Nat)(t:ByteArray)(p:OA)(n c:Nat)(w:World):
  Calls Tryz.prog 193 #[.agg #[.int .i64 k,.int .i64 i,.float .f64 b,.string t,.slice p n c]] w fun e w'=>e=.returned (.bool (V.ownB k i b t n))∧Below w.1.size w w':=by
 by_cases o:k<1∨7<k
 ·exact s8 k o i b t p n c w
 ·rcases(show k=1∨k=2∨k=3∨k=4∨k=5∨k=6∨k=7 by omega) with rfl | rfl | rfl | rfl | rfl | rfl | rfl
  ·exact wJ i b t p n c w
  ·exact wI i b t p n c w
  ·exact wH i b t p n c w
  ·exact wG i b t p n c w
  ·exact wF i b t p n c w
  ·exact wE i b t p n c w
  ·exact wD i b t p n c w
def dP(k:Int)(t:ByteArray)(n:Nat):Nat:=if 1024<t.size then 2 else if 256<n then 3 else if k=4∧cK t=false then 61 else 0
theorem xE(k i:Int)(b:Nat)(t:ByteArray)(p:OA)(n c:Nat)(w:World):
  Calls Tryz.prog 194 #[.agg #[.int .i64 k,.int .i64 i,.float .f64 b,.string t,.slice p n c]] w fun e w'=>e=.returned (.int .i64 (dP k t n:Nat))∧Below w.1.size w w':=by
 have y:Hid (∀I,Below w.1.size w (w.alloc I)):=fun I=>xY.alloc xZ I;by_cases z:1024<t.size
 ·have M:(1024:Int)<(t.size:Int):=by omega
  have o:Hid (dP k t n=2):=by show _=_;rw[dP,if_pos z]
  go_enter Tryz.func194,Tryz.ntmps194;go_wp2;go_ret;exact⟨by rw[o.out];rfl,y.out _⟩
 have M:¬(1024:Int)<(t.size:Int):=by omega
 by_cases D:256<n
 ·have O:(256:Int)<(n:Int):=by omega
  have o:Hid (dP k t n=3):=by show _=_;rw[dP,if_neg z,if_pos D]
  go_enter Tryz.func194,Tryz.ntmps194;go_wp2;go_ret;exact⟨by rw[o.out];rfl,y.out _⟩
 have O:¬(256:Int)<(n:Int):=by omega
 by_cases A:k=4
 ·have U:(k==4)=true:=bQ A;have J:=xX (fun w=>wU t (by omega) w);obtain⟨r,E⟩:∃r,r=cK t:=⟨_,rfl⟩;rw[<-E] at J;have o:Hid (dP k t n=if r=false then 61 else 0):=by
   show _=_;rw[dP,if_neg z,if_neg D,<-E];simp only[A,true_and]
  clear E;go_enter Tryz.func194,Tryz.ntmps194;go_wp2_with fail;refine(J.out _).mono ?_;rintro e w1 ⟨rfl,K⟩;have L:=xX ((y.out _).trans (K.mono (y.out _).size));clear K;cases r
  all_goals
   go_wp2;go_ret;exact⟨by rw[o.out];rfl,L.out⟩
 ·have U:(k==4)=false:=aK A;have o:Hid (dP k t n=0):=by show _=_;rw[dP,if_neg z,if_neg D,if_neg (fun R=>A R.1)]
  go_enter Tryz.func194,Tryz.ntmps194;go_wp2;go_ret;exact⟨by rw[o.out];rfl,y.out _⟩
theorem tq(d:Nat)(k i:Int)(b:Nat)(t:ByteArray)(xs:List V):chk d (.mk k i b t xs)=if 4<d then 62 else if V.ownB k i b t xs.length=false then 60 else if dP k t xs.length=0 then eJ (d+1) xs else dP k t xs.length:=by
 rw[kY];unfold dP;by_cases o:4<d
 ·rw[if_pos o,if_pos o]
 rw[if_neg o,if_neg o];by_cases y:V.ownB k i b t xs.length=false
 ·rw[if_pos y,if_pos y]
 rw[if_neg y,if_neg y];by_cases z:1024<t.size
 ·rw[if_pos z,if_pos z];rfl
 rw[if_neg z,if_neg z];by_cases A:256<xs.length
 ·rw[if_pos A,if_pos A];rfl
 rw[if_neg A,if_neg A];by_cases D:k=4∧cK t=false
 ·rw[if_pos D,if_pos D];rfl
 rw[if_neg D,if_neg D,if_pos rfl]
theorem tr:∀(x:V) (d:Nat) (w:World) (u:AV),d<=5->aC w u x->Calls Tryz.prog 178 #[.agg u,.int .i64 d] w fun e w'=>e=.returned (.int .i64 (chk d x:Nat))∧Below w.1.size w w':=by
 intro x;refine V.ind (P:=fun x=>∀(d:Nat) (w:World) (u:AV),d<=5->aC w u x->Calls Tryz.prog 178 #[.agg u,.int .i64 d] w fun e w'=>e=.returned (.int .i64 (chk d x:Nat))∧Below w.1.size w w') ?_ x;rintro k i b t xs a8 d w u hd bT;obtain⟨p,c,rfl,df,dd,a6⟩:=bT.open;unfold cells5;have bk:Below w.1.size w (w.alloc (.cells #[.int .i64 k,.int .i64 i,.float .f64 b,.string t,.slice p xs.length c] 77)):=xV;have W:=xX bk;clear bk bT;have y:=xX (tq d k i b t xs);obtain⟨A,bl⟩:∃A,A=chk d (.mk k i b t xs):=⟨_,rfl⟩;rw[<-bl] at y ⊢;clear bl;by_cases E:4<d
 ·have ck:(4:Int)<(d:Int):=by omega
  have HR:Hid (A=62):=by show _=_;rw[y.out,if_pos E]
  clear a8 a6 y;go_enter Tryz.func178,Tryz.ntmps178;go_wp2;go_ret;exact⟨by rw[HR.out];rfl,W.out⟩
 have ck:¬(4:Int)<(d:Int):=by omega
 have a4:=xX (xA k i b t p xs.length c (w.alloc (.cells #[.int .i64 k,.int .i64 i,.float .f64 b,.string t,.slice p xs.length c] 77)));have a2:=xX (xE k i b t p xs.length c);obtain⟨r,bs⟩:∃r,r=V.ownB k i b t xs.length:=⟨_,rfl⟩;rw[<-bs] at a4 y;clear bs;obtain⟨s,bN⟩:∃s,s=dP k t xs.length:=⟨_,rfl⟩;rw[<-bN] at a2 y;clear bN;have cp:w.1.size<(w.alloc (.cells #[.int .i64 k,.int .i64 i,.float .f64 b,.string t,.slice p xs.length c] 77)).1.size:=by simp
 have bX:(w.alloc (.cells #[.int .i64 k,.int .i64 i,.float .f64 b,.string t,.slice p xs.length c] 77)).cell? ⟨w.1.size,0,none⟩=some (.int .i64 k):=by simp
 have b0:(w.alloc (.cells #[.int .i64 k,.int .i64 i,.float .f64 b,.string t,.slice p xs.length c] 77)).cell? ⟨w.1.size,1,none⟩=some (.int .i64 i):=by simp
 have b1:(w.alloc (.cells #[.int .i64 k,.int .i64 i,.float .f64 b,.string t,.slice p xs.length c] 77)).cell? ⟨w.1.size,2,none⟩=some (.float .f64 b):=by simp
 have b2:(w.alloc (.cells #[.int .i64 k,.int .i64 i,.float .f64 b,.string t,.slice p xs.length c] 77)).cell? ⟨w.1.size,3,none⟩=some (.string t):=by simp
 have b3:(w.alloc (.cells #[.int .i64 k,.int .i64 i,.float .f64 b,.string t,.slice p xs.length c] 77)).cell? ⟨w.1.size,4,none⟩=some (.slice p xs.length c):=by simp
 have K:=xX (And.intro bX (And.intro b0 (And.intro b1 (And.intro b2 b3))));clear bX b0 b1 b2 b3;have b6:Hid (∀j (ak:j<xs.length),∃J,aC w J xs[j]∧Item w p j J):=a6;have bj:=xX a8;clear a8 a6;go_enter Tryz.func178,Tryz.ntmps178;go_wp2_with fail;refine a4.out.mono ?_;rintro e c5 ⟨rfl,D⟩;have c0:=ac D K.out.1;have c1:=ac D K.out.2.1;have c2:=ac D K.out.2.2.1;have c3:=ac D K.out.2.2.2.1;have c4:=ac D K.out.2.2.2.2;have X:=xX (W.out.trans (D.mono W.out.size));have c8:w.1.size<c5.1.size:=by have:=D.size;omega
 clear D a4 K W cp;cases r with
 |false=>
  have HR:Hid (A=60):=by show _=_;rw[y.out,if_neg E,if_pos rfl]
  clear y;go_wp2;go_ret;exact⟨by rw[HR.out];rfl,X.out⟩
 |true=>
  have ah:Hid (A=if s=0 then eJ (d+1) xs else s):=by show _=_;rw[y.out,if_neg E,if_neg (by simp)]
  clear y;go_wp2_with fail;refine(a2.out _).mono ?_;rintro e U ⟨rfl,aj⟩;have n4:=ac aj c4;have bd:=xX (X.out.trans (aj.mono X.out.size));have c9:w.1.size<U.1.size:=by have:=aj.size;omega
  clear aj a2 X c0 c1 c2 c3 c4;by_cases O:¬s=0
  ·have co:((s:Int) != 0)=true:=(by rw[bne_iff_ne];omega);have HR:Hid (A=s):=(by show _=_;rw[ah.out,if_neg O]);clear ah;go_wp2;go_ret;exact⟨by rw[HR.out];rfl,bd.out⟩
  replace O:s=0:=Classical.not_not.1 O
  have co:((s:Int) != 0)=false:=by rw[O];rfl
  have HR:Hid (A=eJ (d+1) xs):=by show _=_;rw[ah.out,if_pos O]
  clear ah
  -- the items,from any world behind
  have b4:Hid (∀j (ak:j<xs.length) w',Below w.1.size w w'->∀J,aC w J xs[j]->Calls Tryz.prog 178 #[.agg J,.int .i64 ((d+1:Nat):Int)] w' fun e bc=>e=.returned (.int .i64 (chk (d+1) xs[j]:Nat))∧Below w'.1.size w' bc) :=
   fun j ak w' hb J cq=>bj.out _ (List.getElem_mem ak) (d+1) w' J (by omega) (cq.on hb)
  clear bj;go_wp2_with fail;go_loopw [22] (fun bb wr=>∃j:Nat,j<=xs.length∧bb=.int .i64 j∧Hid (Below U.1.size U wr∧∀m (E:m<xs.length),m<j->chk (d+1) xs[m]=0)) (fun bb _=>xs.length-(intOf bb).toNat);case atStart=>exact⟨0,by omega,rfl,xY,fun m _ h=>by omega⟩
  case round=>
   obtain⟨j,ak,rfl,z⟩:=hrel;have I:Below w.1.size w wr:=bd.out.trans (z.out.1.mono (by omega));by_cases a0:j<xs.length
   ·obtain⟨dr,bO,bp⟩:=b6.out j a0;obtain⟨bx,dp,cv,ct,cj,cy,cx,cw,ci,rfl,_,rfl,b7,b8,b9,cb,cc⟩:=(bp.on I).lies;have Z:Hid (∀o,Below wr.1.size wr (wr.alloc o)):=fun o=>xY.alloc xZ o;have a1:Hid (∀w',Below wr.1.size wr w'->Calls Tryz.prog 178 #[.agg #[.int .i64 cv,.int .i64 ct,.float .f64 cj,.string cy,.slice cx cw ci],.int .i64 ((d+1:Nat):Int)] w' fun e bc=>e=.returned (.int .i64 (chk (d+1) xs[j]:Nat))∧Below w'.1.size w' bc):=fun w' hb=>b4.out j a0 w' (I.trans (hb.mono I.size)) _ bO;have c6:(j:Int)<(xs.length:Int):=(by omega);obtain⟨L,a7⟩:∃L,L=chk (d+1) xs[j]:=⟨_,rfl⟩;rw[<-a7] at a1;have M:=xX a7;have be:=xX I;clear bO bp a7 I;go_wp2_with fail;refine(a1.out _ (Z.out _)).mono ?_;rintro e w4 ⟨rfl,bn⟩;have Y:=xX ((Z.out _).trans (bn.mono (Z.out _).size));clear bn b7 b8 b9 cb cc a1 Z;by_cases R:L=0
    ·have cs:((L:Int) != 0)=false:=(by rw[R];rfl);have b5:Hid (Below U.1.size U w4∧∀m (E:m<xs.length),m<j+1->chk (d+1) xs[m]=0):=by
      refine⟨z.out.1.trans (Y.out.mono z.out.1.size),fun m E bq=>?_⟩;by_cases cn:m=j
      ·subst cn;rw[<-M.out];exact R
      ·exact z.out.2 m E (by omega)
     clear z Y M R;go_wp2;go_roundw;case rel=>exact⟨j+1,by omega,by go_num,b5⟩
     case measure=>simp[intOf];omega
    ·have cs:((L:Int) != 0)=true:=(by rw[bne_iff_ne];omega);have a5:Hid (A=L):=by
      show _=_;rw[HR.out,M.out];exact iA (d+1) xs j a0 (fun m h bq=>z.out.2 m h bq) (by rw[<-M.out];exact R)
     have a3:=xX (be.out.trans (Y.out.mono be.out.size));clear z Y M R HR;go_wp2;go_ret;exact⟨by rw[a5.out];rfl,a3.out⟩
   ·have c7:¬(j:Int)<(xs.length:Int):=(by omega);have a5:Hid (A=0):=by
     show _=_;rw[HR.out];exact eI (d+1) xs (fun m h=>z.out.2 m h (by omega))
    have a3:=xX I;clear z I a0 HR;go_wp2;go_ret;exact⟨by rw[a5.out];rfl,a3.out⟩
theorem wN(x:V)(w:World)(u:AV)(h:aC w u x):Calls Tryz.prog 156 #[.agg u] w fun e w'=>e=.returned (.int .i64 (chk 1 x:Nat))∧Below w.1.size w w':=by
 obtain⟨k,i,b,t,xs⟩:=x;obtain⟨p,c,rfl,-⟩:=h.open;have z:Below w.1.size w (w.alloc (.cells (cells5 k i b t p xs.length c) 77)):=xV;have o:=xX z;have y:=xX (tr _ 1 _ _ (by omega) (h.on z));clear z h;obtain⟨A,D⟩:∃A,A=chk 1 (.mk k i b t xs):=⟨_,rfl⟩;rw[<-D] at y ⊢;clear D;unfold cells5 at y o ⊢;go_enter Tryz.func156,Tryz.ntmps156;go_wp2_with fail;refine y.out.mono ?_;rintro e J ⟨rfl,E⟩;have I:=xX (o.out.trans (E.mono o.out.size));clear E;go_wp2;go_ret;exact⟨rfl,I.out⟩
end
section
open Go.RowKit
attribute [local go_sem] am
theorem uX:∀(x y:V) (w:World) (u v:AV),aC w u x->aC w v y->Calls Tryz.prog 122 #[.agg u,.agg v] w fun e w'=>e=.returned (.bool (V.same x y))∧Below w.1.size w w':=by
 intro x;refine V.ind (P:=fun x=>∀(y:V) (w:World) (u v:AV),aC w u x->aC w v y->Calls Tryz.prog 122 #[.agg u,.agg v] w fun e w'=>e=.returned (.bool (V.same x y))∧Below w.1.size w w') ?_ x;rintro k i b t xs a1 ⟨U,R,D,L,o⟩ w u v dr ds;obtain⟨p,c,rfl,e6,e5,ak⟩:=dr.open;obtain⟨q,d,rfl,e8,e7,a0⟩:=ds.open;unfold cells5;have c6:Below w.1.size w ((w.alloc (.cells #[.int .i64 k,.int .i64 i,.float .f64 b,.string t,.slice p xs.length c] 77)).alloc (.cells #[.int .i64 U,.int .i64 R,.float .f64 D,.string L,.slice q o.length d] 77)):=xV.alloc (by simp) _;have X:=xX c6;clear c6 dr ds;by_cases h1:¬k=U
 ·have d9:=bz h1;have I:Hid (V.same (.mk k i b t xs) (.mk U R D L o)=false):=by show _=_;simp[V.same_mk,h1]
  clear a1 ak a0 h1;go_enter Tryz.func122,Tryz.ntmps122;go_wp2;go_ret;exact⟨by rw[I.out];rfl,X.out⟩
 replace h1:k=U:=Classical.not_not.1 h1
 have d9:=cd h1;by_cases z:¬i=R
 ·have ea:=bz z;have I:Hid (V.same (.mk k i b t xs) (.mk U R D L o)=false):=by show _=_;simp[V.same_mk,z]
  clear a1 ak a0 h1 z;go_enter Tryz.func122,Tryz.ntmps122;go_wp2;go_ret;exact⟨by rw[I.out];rfl,X.out⟩
 replace z:i=R:=Classical.not_not.1 z
 have ea:=cd z;by_cases O:¬t=L
 ·have eb:(t.toList==L.toList)=false:=by rw[cr,decide_eq_false O]
  have I:Hid (V.same (.mk k i b t xs) (.mk U R D L o)=false):=by show _=_;simp[V.same_mk,O]
  clear a1 ak a0 h1 z O;go_enter Tryz.func122,Tryz.ntmps122;go_wp2;go_ret;exact⟨by rw[I.out];rfl,X.out⟩
 replace O:t=L:=Classical.not_not.1 O
 have eb:(t.toList==L.toList)=true:=by rw[cr,decide_eq_true O]
 have a3:=xX (fL b D);by_cases ah:¬aE b=aE D
 ·have bX:((aE b:Int)==(aE D:Int))=false:=aK (by omega);rw[bX] at a3;have I:Hid (V.same (.mk k i b t xs) (.mk U R D L o)=false):=by show _=_;simp[V.same_mk,ah]
  clear a1 ak a0 h1 z O ah;go_enter Tryz.func122,Tryz.ntmps122;go_wp2_with fail;refine(a3.out _).mono ?_;rintro e w1 ⟨rfl,W⟩;rw[W];clear W w1;go_wp2;go_ret;exact⟨by rw[I.out];rfl,X.out⟩
 replace ah:aE b=aE D:=Classical.not_not.1 ah
 have bX:((aE b:Int)==(aE D:Int))=true:=bQ (by omega);rw[bX] at a3;by_cases a2:¬xs.length=o.length
 ·have ec:((xs.length:Int) != (o.length:Int))=true:=bz (by omega);have I:Hid (V.same (.mk k i b t xs) (.mk U R D L o)=false):=by show _=_;simp[V.same_mk,V.sameL_ne xs o a2]
  clear a1 ak a0 h1 z O ah a2;go_enter Tryz.func122,Tryz.ntmps122;go_wp2_with fail;refine(a3.out _).mono ?_;rintro e w1 ⟨rfl,W⟩;rw[W];clear W w1;go_wp2;go_ret;exact⟨by rw[I.out];rfl,X.out⟩
 replace a2:xs.length=o.length:=Classical.not_not.1 a2
 have ec:((xs.length:Int) != (o.length:Int))=false:=cd (by omega);have I:Hid (V.same (.mk k i b t xs) (.mk U R D L o)=V.sameL xs o):=by show _=_;simp[V.same_mk,h1,z,O,ah]
 have d1:Hid (dG w p xs):=ak;have d2:Hid (dG w q o):=a0;have dv:=xX a1;have b7:=xX a2;clear a1 ak a0 h1 z O ah a2;obtain⟨M,a9⟩:∃M,M=(w.alloc (.cells #[.int .i64 k,.int .i64 i,.float .f64 b,.string t,.slice p xs.length c] 77)).alloc (.cells #[.int .i64 U,.int .i64 R,.float .f64 D,.string L,.slice q o.length d] 77):=⟨_,rfl⟩;have d3:Hid (M.cell? ⟨w.1.size+1,4,none⟩=some (.slice q o.length d)):=by show _=_;rw[a9];simp
 have b9:Hid (Below w.1.size w M):=by rw[a9];exact X.out
 have ci:=xX a9;clear X a9;go_enter Tryz.func122,Tryz.ntmps122;go_wp2_with fail;refine(a3.out _).mono ?_;rintro e w1 ⟨rfl,W⟩;rw[W];clear W w1;go_wp2_with fail;rw[<-ci.out];clear ci;go_loopw [44] (fun b6 wr=>∃j:Nat,j<=xs.length∧b6=.int .i64 j∧Hid (Below M.1.size M wr∧∀m (h1:m<xs.length) (z:m<o.length),m<j->V.same xs[m] o[m]=true)) (fun b6 _=>xs.length-(intOf b6).toNat);case atStart=>exact⟨0,by omega,rfl,xY,fun m _ _ h=>by omega⟩
 case round=>
  obtain⟨j,e0,rfl,Z⟩:=hrel;have aj:Below w.1.size w wr:=b9.out.trans (Z.out.1.mono b9.out.size);by_cases bb:j<xs.length
  ·have dd:j<o.length:=(by have:=b7.out;omega);obtain⟨fi,df,c8⟩:=d1.out j bb;obtain⟨fo,dp,c9⟩:=d2.out j dd;obtain⟨bx,e9,be,bd,a8,bl,bk,bj,a7,rfl,_,rfl,d4,d5,d6,d7,d8⟩:=(c8.on aj).lies;obtain⟨J,K,b2,b1,bT,b5,b4,b3,bO,rfl,_,rfl,cn,co,cp,cq,cs⟩:=(c9.on aj).lies
   have a6:Hid (∀w',Below w.1.size w w'->Calls Tryz.prog 122 #[.agg #[.int .i64 be,.int .i64 bd,.float .f64 a8,.string bl,.slice bk bj a7],.agg #[.int .i64 b2,.int .i64 b1,.float .f64 bT,.string b5,.slice b4 b3 bO]] w' fun e em=>e=.returned (.bool (V.same xs[j] o[j]))∧Below w'.1.size w' em) :=
    fun w' hb=>dv.out _ (List.getElem_mem bb) o[j] w' _ _ (df.on hb) (dp.on hb)
   have bn:=xX Z.out.2;have e1:(j:Int)<(xs.length:Int):=(by omega);have e2:(j:Int)<(o.length:Int):=(by omega);obtain⟨r,b0⟩:∃r,r=V.same xs[j] o[j]:=⟨_,rfl⟩;rw[<-b0] at a6;have cc:=xX b0;obtain⟨A,bc⟩:∃A,A=wr.alloc (.cells #[.int .i64 be,.int .i64 bd,.float .f64 a8,.string bl,.slice bk bj a7] 77):=⟨_,rfl⟩;have Y:Hid (Below wr.1.size wr A):=(by rw[bc];exact xV);have bq:Hid (Below w.1.size w A):=aj.trans (Y.out.mono aj.size);have bp:Hid (Below M.1.size M A):=Z.out.1.trans (Y.out.mono Z.out.1.size);have cj:=xX bc;have ck:Hid (A.cell? ⟨w.1.size+1,4,none⟩=some (.slice (some ⟨J,K,none⟩) o.length d)):=ac bp.out d3.out
   have cb:Hid (A.cell? ⟨J,K+j*5,none⟩=some (.int .i64 b2)∧A.cell? ⟨J,K+j*5+1,none⟩=some (.int .i64 b1)∧A.cell? ⟨J,K+j*5+2,none⟩=some (.float .f64 bT)∧A.cell? ⟨J,K+j*5+3,none⟩=some (.string b5)∧A.cell? ⟨J,K+j*5+4,none⟩=some (.slice b4 b3 bO)) :=
    ⟨ac Y.out cn,ac Y.out co,ac Y.out cp,ac Y.out cq,ac Y.out cs⟩
   have b8:Hid (A.cell? ⟨wr.1.size,0,none⟩=some (.int .i64 be)∧A.cell? ⟨wr.1.size,1,none⟩=some (.int .i64 bd)∧A.cell? ⟨wr.1.size,2,none⟩=some (.float .f64 a8)∧A.cell? ⟨wr.1.size,3,none⟩=some (.string bl)∧A.cell? ⟨wr.1.size,4,none⟩=some (.slice bk bj a7)):=(by rw[bc];exact⟨by simp,by simp,by simp,by simp,by simp⟩);clear df dp c8 c9 aj Z b0 bc cn co cp cq cs;go_wp2_with fail;rw[<-cj.out];obtain⟨c0,c1,c2,c3,c4⟩:=b8.out;obtain⟨ct,cv,cw,cx,cy⟩:=cb.out;have c5:=ck.out;clear b8 cb ck cj d4 d5 d6 d7 d8
   go_region_held3 (fun w'=>w'.cell? ⟨wr.1.size,0,none⟩=some (.int .i64 be)∧w'.cell? ⟨wr.1.size,1,none⟩=some (.int .i64 bd)∧w'.cell? ⟨wr.1.size,2,none⟩=some (.float .f64 a8)∧w'.cell? ⟨wr.1.size,3,none⟩=some (.string bl)∧w'.cell? ⟨wr.1.size,4,none⟩=some (.slice bk bj a7)∧w'.cell? ⟨J,K+j*5,none⟩=some (.int .i64 b2)∧w'.cell? ⟨J,K+j*5+1,none⟩=some (.int .i64 b1)∧w'.cell? ⟨J,K+j*5+2,none⟩=some (.float .f64 bT)∧w'.cell? ⟨J,K+j*5+3,none⟩=some (.string b5)∧w'.cell? ⟨J,K+j*5+4,none⟩=some (.slice b4 b3 bO)∧w'.cell? ⟨w.1.size+1,4,none⟩=some (.slice (some ⟨J,K,none⟩) o.length d)) (go_keep) (first|(go_at_call 122;refine(a6.out _ (below_drewN bq.out _)).mono ?_;rintro e w4 ⟨rfl,c7⟩;have E:=cF (w:=A) c7 (by rfl) (by rfl) (by rfl) (by rfl);have eu:=ac E c0;have ew:=ac E c1;have ez:=ac E c2;have eC:=ac E c3;have eL:=ac E c4;have eS:=ac E ct;have eU:=ac E cv;have en:=ac E cw;have ep:=ac E cx;have eq:=ac E cy;have er:=ac E c5;have a5:=xX E;clear c7 E))
   clear eu ew ez eC eL eS eU en ep eq er c0 c1 c2 c3 c4 ct cv cw cx cy c5;cases r with
   |true=>
    have d0:Hid (Below M.1.size M w4∧∀m (h1:m<xs.length) (z:m<o.length),m<j+1->V.same xs[m] o[m]=true):=by
     refine⟨bp.out.trans (a5.out.mono bp.out.size),fun m h1 z e4=>?_⟩;by_cases el:m=j
     ·subst el;exact cc.out.symm
     ·exact bn.out m h1 z (by omega)
    clear a5 bn a6;go_wp2;go_roundw;case rel=>exact⟨j+1,by omega,by go_num,d0⟩
    case measure=>simp[intOf];omega
   |false=>
    have bN:Hid (V.sameL xs o=false):=V.sameL_at xs o j bb dd cc.out.symm;have bs:=xX (bq.out.trans (a5.out.mono bq.out.size));clear a5 bn a6;go_wp2;go_ret;exact⟨by rw[I.out,bN.out];rfl,bs.out⟩
  ·have bN:Hid (V.sameL xs o=true):=V.sameL_all xs o b7.out (fun m h1 z=>Z.out.2 m h1 z (by omega));have bs:=xX aj;have e3:¬(j:Int)<(xs.length:Int):=(by omega);clear Z aj bb;go_wp2;go_ret;exact⟨by rw[I.out,bN.out];rfl,bs.out⟩
end
end Go.Proofs.YtdkammppnkhhoaaGreatDoor

import Derived.Test.YtlgfdgdlaahpfaaGreatDoorB07
import Derived.Lib.Zigzag
import Derived.Test.YtlgfdgdlaahpfaaGreatDoorB08
import Derived.Lib.VarintBits
set_option maxRecDepth 100000
set_option maxHeartbeats 1000000
namespace Go.Proofs.YtlgfdgdlaahpfaaGreatDoor
section
open Go.RowKit
theorem eI(k:IntKind)(x y:Int):bits .xor k x y=bits .xor k y x:=by
 unfold bits
 simp only[BitVec.xor_comm]
theorem ly(x:Nat)(h:x<18446744073709551616):bits .xor .u64 (x:Int) 0=x:=by
 have:=bits_xor_u64_nat x 0 (by omega) (by decide)
 simpa using this
theorem j7(x:Nat)(h:x<9223372036854775808):bits .xor .i64 (x:Int) 0=x:=by
 show IntKind.i64.wrap ((BitVec.ofInt 64 (x:Int) ^^^ BitVec.ofInt 64 0).toNat:Int)=_
 have h2:(BitVec.ofInt 64 (x:Int)).toNat=x:=by
  rw[BitVec.ofInt_natCast,BitVec.toNat_ofNat];exact Nat.mod_eq_of_lt (by omega)
 have h3:(BitVec.ofInt 64 0).toNat=0:=by decide
 rw[BitVec.toNat_xor,h2,h3,Nat.xor_zero,IntKind.wrap_i64]
 omega
theorem pg(n:Int)(h1:-9223372036854775808<=n)(h2:n<=9223372036854775807):
  bits .xor .u64 (IntKind.u64.wrap (IntKind.u64.wrap n*2)) (IntKind.u64.wrap (n / 9223372036854775808))=((Leb.zig n:Nat):Int):=by
 by_cases h0:0<=n
 ·have e1:IntKind.u64.wrap (IntKind.u64.wrap n*2)=(((2*n).toNat:Nat):Int):=by
   rw[IntKind.wrap_u64,IntKind.wrap_u64];omega
  have e2:IntKind.u64.wrap (n / 9223372036854775808)=0:=by
   rw[IntKind.wrap_u64];omega
  rw[e1,e2,ly _ (by omega)]
  unfold Leb.zig
  rw[if_pos h0];omega
 ·have e2:IntKind.u64.wrap (n / 9223372036854775808)=IntKind.u64.max:=by
   have:IntKind.u64.max=18446744073709551615:=by decide
   rw[IntKind.wrap_u64,this];omega
  rw[e2,eI,Lib.zigzag_neg h1 (by omega)]
  unfold Leb.zig Lib.zigzag
  rw[if_neg h0,if_neg h0];omega
theorem rI(n:Int)(h1:-9223372036854775808<=n)(h2:n<=9223372036854775807)(w:World):
  Calls Tryz.prog 155 #[.int .i64 n] w fun e w'=>e=.returned (.int .u64 (Leb.zig n:Nat))∧w'=w:=by
 have H:=vQ (pg n h1 h2)
 go_enter Tryz.func155,Tryz.ntmps155
 go_wp2
 go_ret
 exact⟨by rw[<-H.out];rfl,rfl⟩
theorem pk(u:Nat)(h:u<18446744073709551616):
  bits .xor .i64 ((u:Int) / 2) (wrap64 (-wrap64 (bits .and .u64 (u:Int) 1)))=Leb.zag u:=by
 have e1:((u:Int) / 2)=((u / 2:Nat):Int):=by omega
 rw[Lib.u64_and1 _ (by omega) (by omega),e1]
 by_cases h0:u % 2=0
 ·have e2:wrap64 (-wrap64 ((u:Int) % 2))=0:=by
   have:(u:Int) % 2=0:=by omega
   rw[this];simp[wrap64]
  rw[e2,j7 _ (by omega)]
  unfold Leb.zag
  rw[if_pos h0]
 ·have e2:wrap64 (-wrap64 ((u:Int) % 2))=-1:=by
   have:(u:Int) % 2=1:=by omega
   rw[this];simp[wrap64]
  rw[e2,eI,Lib.i64_not _ (by omega)]
  unfold Leb.zag
  rw[if_neg h0]
theorem rJ(u:Nat)(h:u<18446744073709551616)(w:World):
  Calls Tryz.prog 170 #[.int .u64 u] w fun e w'=>e=.returned (.int .i64 (Leb.zag u))∧w'=w:=by
 have H:=vQ (pk u h)
 go_enter Tryz.func170,Tryz.ntmps170
 go_wp2
 go_ret
 exact⟨by rw[<-H.out];rfl,rfl⟩
end
section
open Go.RowKit
theorem mV(x:Nat)(h:0<x)(hx:x<18446744073709551616):1<=Lib.bitLen x:=by
 rw[Lib.bitLen_half x (by omega) hx];omega
theorem jU(x:Nat)(h:x<128):Lib.bitLen x<=7:=Lib.bitLenAux_le 64 x 7 h
theorem mW(x:Nat)(h:0<x)(hx:x<18446744073709551616):Lib.bitLen (x / 2*2+1)=Lib.bitLen x:=by
 rw[Lib.bitLen_half x (by omega) hx,Lib.bitLen_half (x / 2*2+1) (by omega) (by omega)]
 congr 2
 omega
theorem oa(f:Nat):∀n:Nat,n<2*128 ^ f->n<18446744073709551616->(Leb.putF (f+1) n).length=(Lib.bitLen (n / 2*2+1)+6) / 7:=by
 induction f with
 |zero=>
  intro n h _
  have h2:n<2:=by simpa using h
  have e:n / 2*2+1=1:=by omega
  rw[e,Leb.putF,if_pos (by omega)]
  rfl
 |succ f ih=>
  intro n h h64
  by_cases hn:n<128
  ·have h1:=jU (n / 2*2+1) (by omega)
   have h2:=mV (n / 2*2+1) (by omega) (by omega)
   rw[Leb.putF,if_pos hn,List.length_singleton]
   omega
  ·have h1:n / 128<2*128 ^ f:=by
    rw[Nat.pow_succ] at h
    rw[Nat.div_lt_iff_lt_mul (by omega)]
    omega
   have e1:=Lib.bitLen_shift 7 (n / 2*2+1) (by omega) (by omega)
   have e2:(n / 2*2+1) / 2 ^ 7=n / 128:=by omega
   rw[e2] at e1
   rw[Leb.putF,if_neg hn,List.length_cons,ih (n / 128) h1 (by omega),mW (n / 128) (by omega) (by omega),e1]
   omega
theorem pY(n:Nat)(hn:n<18446744073709551616):(Leb.put n).length=(Lib.bitLen (n / 2*2+1)+6) / 7:=by
 have e:2*128 ^ 9=18446744073709551616:=by decide
 exact oa 9 n (by rw[e];exact hn) hn
theorem r8(n:Nat)(h:n<18446744073709551616):bits .or .u64 (n:Int) 1=((n / 2*2+1:Nat):Int):=by
 have h2:=(bits_nat .u64 64 (by decide) wraps_u64 n 1 (by omega) (by decide)).2
 have e:((1:Nat):Int)=1:=rfl
 rw[e] at h2
 rw[h2]
 congr 1
 apply Nat.eq_of_testBit_eq
 intro i
 rw[Nat.testBit_or]
 cases i with
 |zero=>simp
 |succ i=>
  rw[Nat.testBit_succ,Nat.testBit_succ,Nat.testBit_succ]
  have e1:(n / 2*2+1) / 2=n / 2:=by omega
  rw[e1]
  simp
theorem sq(n:Nat)(hn:n<18446744073709551616)(w:World):
  Calls Tryz.prog 126 #[.int .u64 n] w fun e w'=>e=.returned (.int .i64 ((Leb.put n).length:Nat))∧w'=w:=by
 have H1:=vQ (oz (n / 2*2+1) (by omega) w)
 have H2:=vQ (pY n hn)
 have H3:=vQ (r8 n hn)
 have hle:Lib.bitLen (n / 2*2+1)<=64:=Lib.bitLenAux_le 64 _ 64 (by omega)
 generalize Lib.bitLen (n / 2*2+1)=k at H1 H2 hle
 go_enter Tryz.func126,Tryz.ntmps126
 go_wp2_with fail
 rw[H3.out]
 refine H1.out.mono ?_
 rintro e w' ⟨rfl,hw⟩
 rw[hw]
 clear hw w'
 go_wp2
 go_ret
 exact⟨by rw[H2.out];go_num,rfl⟩
def Leb.judge(k c:Nat):Nat:=if k<10∧128<=c then 30 else if k=10∧1<c then 5 else if 1<k∧c=0 then 5 else 0
theorem jj(k c:Nat)(hk:k<=10)(hc:c<256)(w:World):
  Calls Tryz.prog 175 #[.int .i64 k,.int .u8 c] w fun e w'=>e=.returned (.int .i64 (Leb.judge k c:Nat))∧w'=w:=by
 have H:Hid (∀j:Nat,Leb.judge k c=j->Leb.judge k c=j):=fun _ h=>h
 by_cases h1:k<10∧128<=c
 ·have e:Leb.judge k c=30:=by unfold Leb.judge;rw[if_pos h1]
  rw[e]
  have b1:decide ((k:Int)<10)=true:=decide_eq_true (by omega)
  have b2:decide ((128:Int)<=(c:Int))=true:=decide_eq_true (by omega)
  clear e
  go_enter Tryz.func175,Tryz.ntmps175
  go_wp2
  go_ret
  exact⟨rfl,rfl⟩
 ·by_cases h2:k=10∧1<c
  ·have e:Leb.judge k c=5:=by unfold Leb.judge;rw[if_neg h1,if_pos h2]
   rw[e]
   obtain⟨rfl,h2⟩:=h2
   have b2:decide ((1:Int)<(c:Int))=true:=decide_eq_true (by omega)
   clear e h1
   go_enter Tryz.func175,Tryz.ntmps175
   go_wp2
   go_ret
   exact⟨rfl,rfl⟩
  ·by_cases h3:1<k∧c=0
   ·have e:Leb.judge k c=5:=by unfold Leb.judge;rw[if_neg h1,if_neg h2,if_pos h3]
    rw[e]
    obtain⟨h3,rfl⟩:=h3
    clear e h1 h2
    by_cases h10:k=10
    ·subst h10
     go_enter Tryz.func175,Tryz.ntmps175
     go_wp2
     go_ret
     exact⟨rfl,rfl⟩
    ·have b1:(k:Int)<10:=by omega
     have b2:((k:Int)==10)=false:=by rw[beq_eq_false_iff_ne];omega
     have b3:(1:Int)<(k:Int):=by omega
     go_enter Tryz.func175,Tryz.ntmps175
     go_wp2
     go_ret
     exact⟨rfl,rfl⟩
   ·have e:Leb.judge k c=0:=by unfold Leb.judge;rw[if_neg h1,if_neg h2,if_neg h3]
    rw[e]
    clear e
    by_cases h10:k=10
    ·subst h10
     have b2:¬(1:Int)<(c:Int):=by omega
     have b3:((c:Int)==0)=false:=by rw[beq_eq_false_iff_ne];omega
     clear h1 h2 h3
     go_enter Tryz.func175,Tryz.ntmps175
     go_wp2
     go_ret
     exact⟨rfl,rfl⟩
    ·have b1:(k:Int)<10:=by omega
     have b2:((k:Int)==10)=false:=by rw[beq_eq_false_iff_ne];omega
     have b3:¬(128:Int)<=(c:Int):=by omega
     by_cases hk1:1<k
     ·have b4:(1:Int)<(k:Int):=by omega
      have b5:((c:Int)==0)=false:=by rw[beq_eq_false_iff_ne];omega
      clear h1 h2 h3
      go_enter Tryz.func175,Tryz.ntmps175
      go_wp2
      go_ret
      exact⟨rfl,rfl⟩
     ·have b4:¬(1:Int)<(k:Int):=by omega
      clear h1 h2 h3
      go_enter Tryz.func175,Tryz.ntmps175
      go_wp2
      go_ret
      exact⟨rfl,rfl⟩
end
section
open Go.RowKit
theorem ot(w:World)(c:Nat)(hc:c<=1000000):∃w',(Instr.makeSlice 31 (.int .i64 0) (.int .i64 (c:Int))).run Tryz.prog w=.ok (.slice (some ⟨w.1.size,0,none⟩) 0 c) w'∧bh w' w.1.size w.1.size c []∧Below w.1.size w w':=by
 obtain⟨i,hi,hz,hsz,hby⟩:=info_parts fZ
 obtain⟨w',h1,h2,h3⟩:=run_make_own (P:=Tryz.prog) w w.1.size 31 5 i (.int .u8 0) 1 Tryz.underlying31 hi hz hsz .i64 .i64 c (by rw[hby];omega) (by unfold maxLen;omega) vX
 exact⟨w',h1,h2,vZ.grown h3 vX (fun k hk=>by cases hk)⟩
theorem mi(m:Nat):bits .or .u8 ((m:Int) % 256) 128=((m % 128+128:Nat):Int):=by
 rw[Lib.u8_or128_any _ (by omega) (by omega)]
 omega
theorem fe(n:Nat)(hn:n<18446744073709551616)(w:World):
  Calls Tryz.prog 94 #[.int .u64 n] w fun e w'=>∃g cap,e=.returned (.slice (some ⟨g,0,none⟩) (Leb.put n).length cap)∧bh w' w.1.size g cap (Leb.put n)∧Below w.1.size w w':=by
 have HP:=vQ (Leb.putting_start hn)
 have HL:=vQ (sq n hn w)
 have hl10:=Leb.put_length_le n
 obtain⟨k,hk⟩:∃k,k=(Leb.put n).length:=⟨_,rfl⟩
 rw[<-hk] at HL hl10
 clear hk
 obtain⟨w1,hmk,hm0,hb0⟩:=ot w k (by omega)
 have HM:=vQ hm0
 have HB:=vQ hb0
 clear hm0 hb0
 go_enter Tryz.func94,Tryz.ntmps94
 go_wp2_with fail
 refine HL.out.mono ?_
 rintro e w' ⟨rfl,hw⟩
 rw[hw]
 clear hw w' HL
 go_wp2
 go_loopw [0,3] (fun v0 v3 wr=>∃(m:Nat) (xs:L8),v0=.int .u64 m∧m<18446744073709551616∧xs.length<=9∧Hid (Leb.Putting n xs m∧Has wr w.1.size v3 xs∧Below w.1.size w wr)) (fun v0 _ _=>(intOf v0).toNat)
 case atStart=>exact⟨n,[],rfl,hn,by simp,HP.out,HM.out.has,HB.out⟩
 case round=>
  obtain⟨m,xs,rfl,hm,hx,HK⟩:=hrel
  have hB:=HK.out.2.2.size
  have HO:=vQ HK.out.2.1
  by_cases hgt:127<m
  ·have hcn:=Leb.byte_high m
   have HN:=vQ (Leb.putting_next HK.out.1 hgt)
   generalize UInt8.ofNat (m % 128+128)=c at hcn HN
   have hor:bits .or .u8 ((m:Int) % 256) 128=(c.toNat:Int):=by rw[mi,hcn]
   go_wp2_with (at_builtin;refine aV HO.out c (by omega) hB (by first | exact hor | omega | (rw[hcn];omega)) rfl rfl rfl rfl rfl ?_;intro g cap W hmine hb)
   go_roundw
   case rel=>exact⟨m / 128,xs++[c],by go_num,by omega,by have:=HN.out.1;exact this,HN.out,by have:=hmine.has;simpa using this,HK.out.2.2.trans hb⟩
   case measure=>simp[intOf];omega
  ·have hcn:=Leb.byte_low m (by omega)
   have HN:=vQ (Leb.putting_last HK.out.1 (by omega))
   generalize UInt8.ofNat m=c at hcn HN
   go_wp2_with (at_builtin;refine aV HO.out c (by omega) hB (by omega) rfl rfl rfl rfl rfl ?_;intro g cap W hmine hb)
   go_ret
   refine⟨g,cap,?_,?_,HK.out.2.2.trans hb⟩
   ·rw[<-HN.out];simp
   ·rw[<-HN.out];exact hmine
end
section
open Go.RowKit
theorem sA(p:OA)(c n:Nat)(a:Int)(h:a<0∨(n:Int)<a)(w:World):
  Calls Tryz.prog 166 #[.slice p n c,.int .i64 a] w fun e w'=>e=.returned (.tuple #[.int .u64 0,.int .i64 0,.int .i64 30])∧w'=w:=by
 by_cases h0:a<0
 ·go_enter Tryz.func166,Tryz.ntmps166
  go_wp2
  go_step3
  go_wp2
  try rw[Exit.noGoto_ret]
  go_ret3
  exact⟨rfl,rfl⟩
 ·have h1:(n:Int)<a:=by omega
  have hb0:decide (a<0)=false:=decide_eq_false h0
  go_enter Tryz.func166,Tryz.ntmps166
  go_wp2
  go_step3
  go_wp2
  try rw[Exit.noGoto_ret]
  go_ret3
  exact⟨rfl,rfl⟩
theorem sB(p:OA)(c n:Nat)(w:World):
  Calls Tryz.prog 166 #[.slice p n c,.int .i64 n] w fun e w'=>e=.returned (.tuple #[.int .u64 0,.int .i64 0,.int .i64 30])∧w'=w:=by
 have HJ:=vQ (jj 0 128 (by decide) (by decide) w)
 have e0:Leb.judge 0 128=30:=by decide
 rw[e0] at HJ
 clear e0
 cases p with
 |none=>
  go_enter Tryz.func166,Tryz.ntmps166
  go_wp2_with fail
  go_step3
  go_wp2_with fail
  go_step3
  go_wp2_with fail
  go_loop [7,8,9,25] (fun v7 v8 v9 v25=>v7=.int .u64 0∧v8=.int .i64 0∧v9=.int .u8 128∧v25=.int .i64 0) (fun _ _ _ _=>0)
  case atStart=>exact⟨rfl,rfl,rfl,rfl⟩
  case round=>
   obtain⟨rfl,rfl,rfl,rfl⟩:=hrel
   go_wp2_with fail
   refine HJ.out.mono ?_
   rintro e w' ⟨rfl,hw⟩
   rw[hw]
   clear hw w'
   go_wp2
   try rw[Exit.noGoto_ret]
   go_ret3
   exact⟨rfl,rfl⟩
 |some p=>
  by_cases h:c=n
  all_goals
   go_enter Tryz.func166,Tryz.ntmps166
   go_wp2_with fail
   go_step3
   go_wp2_with fail
   go_step3
   go_wp2_with fail
   go_loop [7,8,9,25] (fun v7 v8 v9 v25=>v7=.int .u64 0∧v8=.int .i64 0∧v9=.int .u8 128∧v25=.int .i64 0) (fun _ _ _ _=>0)
   case atStart=>exact⟨rfl,rfl,rfl,rfl⟩
   case round=>
    obtain⟨rfl,rfl,rfl,rfl⟩:=hrel
    go_wp2_with fail
    refine HJ.out.mono ?_
    rintro e w' ⟨rfl,hw⟩
    rw[hw]
    clear hw w'
    go_wp2
    try rw[Exit.noGoto_ret]
    go_ret3
    exact⟨rfl,rfl⟩
theorem iW:∀v:Fin 256,bits .andNot .u8 (v.val:Int) 128=((v.val % 128:Nat):Int):=by decide +kernel
theorem pd(v:Nat)(h:v<256):bits .andNot .u8 (v:Int) 128=((v % 128:Nat):Int):=iW ⟨v,h⟩
theorem qb(m x k:Nat)(hm:m<128 ^ k)(hx:x*128 ^ k<18446744073709551616)(hm2:m<18446744073709551616):bits .or .u64 (m:Int) (IntKind.u64.wrap ((x:Int)*2 ^ (7*k)))=((m+x*128 ^ k:Nat):Int):=by
 have e:(2:Nat) ^ (7*k)=128 ^ k:=by rw[Nat.pow_mul]
 have e2:((x:Int)*2 ^ (7*k))=((x*128 ^ k:Nat):Int):=by
  rw[<-e];push_cast;rfl
 have e3:IntKind.u64.wrap (((x*128 ^ k:Nat):Int))=((x*128 ^ k:Nat):Int):=by
  rw[IntKind.wrap_u64];omega
 rw[e2,e3,bits_join_low .u64 64 (by decide) wraps_u64 (7*k) (m:Int) _ (by omega) (by rw[<-e] at hm;exact_mod_cast hm) (by omega) (by omega) (by rw[<-e];push_cast;exact Int.mul_emod_left _ _) (by omega)]
 omega
theorem jg(m v k:Nat)(hm:m<128 ^ k)(hx:m+v % 128*128 ^ k<18446744073709551616):bits .or .u64 (m:Int) (IntKind.u64.wrap ((v:Int) % 128*2 ^ (7*k)))=((m+v % 128*128 ^ k:Nat):Int):=by
 have e:((v:Int) % 128)=((v % 128:Nat):Int):=by omega
 rw[e]
 exact qb m (v % 128) k hm (by omega) (by omega)
theorem eB(r:L8)(k:Nat)(h:k<r.length):Leb.val (r.take (k+1))=Leb.val (r.take k)+r[k].toNat % 128*128 ^ k:=by
 induction r generalizing k with
 |nil=>simp at h
 |cons c r ih=>
  cases k with
  |zero=>simp[Leb.val]
  |succ k=>
   have:=ih k (by simpa using h)
   simp only[List.take_succ_cons,Leb.val,List.getElem_cons_succ,this,Nat.pow_succ]
   rw[Nat.add_mul,Nat.mul_assoc]
   omega
theorem dU(r:L8)(k:Nat):Leb.val (r.take k)<128 ^ k:=by
 induction k generalizing r with
 |zero=>simp[Leb.val]
 |succ k ih=>
  cases r with
  |nil=>simp only[List.take_nil,Leb.val];exact Nat.pow_pos (by omega)
  |cons c r=>
   have:=ih r
   simp only[List.take_succ_cons,Leb.val,Nat.pow_succ]
   omega
theorem tR(b o c a:Nat)(l:L8)(hl:l.length<=140737488351232)(hlc:l.length<=c)(ha:a<l.length)(w:World)(hc:cg w b o l):
  Calls Tryz.prog 166 #[.slice (some ⟨b,o,none⟩) l.length c,.int .i64 a] w fun e w'=>e=.returned (gw l a)∧w'=w:=by
 obtain⟨r,hr⟩:∃r,r=l.drop a:=⟨_,rfl⟩
 have hrl:r.length=l.length-a:=by rw[hr,List.length_drop]
 have HC:Hid (∀j (h:j<r.length),w.cell? ⟨b,o+a+j,none⟩=some (.int .u8 (r[j].toNat:Int))):=by
  intro j h
  have:=hc (a+j) (by omega)
  rw[Nat.add_assoc,this]
  subst hr
  rw[List.getElem_drop]
 have HB:Hid (∀e n k,Leb.get r=⟨e,n,k⟩->Leb.get (l.drop a)=⟨e,n,k⟩):=by
  intro e n k h
  rw[<-hr];exact h
 have hca:¬c=a:=by omega
 have HJ:Hid (∀k v:Nat,k<=10->v<256->Calls Tryz.prog 175 #[.int .i64 k,.int .u8 v] w fun e w'=>e=.returned (.int .i64 (Leb.judge k v:Nat))∧w'=w):=fun k v h1 h2=>jj k v h1 h2 w
 clear hc hr
 go_enter Tryz.func166,Tryz.ntmps166
 go_wp2_with fail
 go_step3
 go_wp2_with fail
 go_step3
 go_wp2_with fail
 go_loop [7,8,9,25] (fun v7 v8 v9 v25=>∃k m v:Nat,k<=9∧k<=r.length∧v7=.int .u64 m∧v8=.int .i64 k∧v9=.int .u8 v∧v25=.int .i64 k∧127<v∧v<256∧m<18446744073709551616∧Hid (m=Leb.val (r.take k)∧∀j (h:j<r.length),j<k->127<r[j].toNat)) (fun _ v8 _ _=>10-(intOf v8).toNat)
 case atStart=>exact⟨0,0,128,by omega,by omega,rfl,rfl,rfl,rfl,by omega,by omega,by omega,rfl,fun j h h'=>by omega⟩
 case round=>
  obtain⟨k,m,v,hk,hkr,rfl,rfl,rfl,rfl,hv1,hv2,hm,HK⟩:=hrel
  by_cases hend:k=r.length
  ·have hh:=Leb.high_eq 10 r k (by omega) (by omega) HK.out.2 (.inr (.inl hend))
   have HG:=vQ (im l a 30 (by omega) (HB.out _ _ _ ((Leb.getF_high 10 true r).2.1 (by rw[hh];exact hend) (by omega))))
   have hj:Leb.judge k v=30:=by unfold Leb.judge;rw[if_pos ⟨by omega,by omega⟩]
   have HJ':=vQ (HJ.out k v (by omega) hv2)
   rw[hj] at HJ'
   have hb2:¬k<l.length-a:=by omega
   clear HK hh hj HC HB HJ hend hrl hkr
   go_wp2_with fail
   refine HJ'.out.mono ?_
   rintro e w' ⟨rfl,hw⟩
   rw[hw]
   clear hw w'
   go_wp2
   try rw[Exit.noGoto_ret]
   go_ret3
   exact⟨by rw[HG.out];rfl,rfl⟩
  ·have hlt:k<r.length:=by omega
   have hcell:=HC.out k hlt
   have hv256:r[k].toNat<256:=r[k].toNat_lt
   have hb2:k<l.length-a:=by omega
   have hand:=pd r[k].toNat hv256
   obtain⟨v',hv'⟩:∃v',v'=r[k].toNat:=⟨_,rfl⟩
   rw[<-hv'] at hcell hv256 hand
   have HV:=vQ hv'
   have HR:=vQ hrl
   clear hv' hrl
   by_cases hhi:127<v'
   ·have HN:Hid (∀j (h:j<r.length),j<k+1->127<r[j].toNat):=by
     intro j h hj
     by_cases e:j=k
     ·subst e;rw[<-HV.out];exact hhi
     ·exact HK.out.2 j h (by omega)
    by_cases h9:k=9
    ·have HG:=vQ (im l a 5 (by omega) (HB.out _ _ _ ((Leb.getF_high 10 true r).1 (Leb.high_eq 10 r 10 (by omega) (by omega) (fun j h hj=>HN.out j h (by omega)) (.inl rfl)))))
     have hj:Leb.judge 10 v'=5:=by unfold Leb.judge;rw[if_neg (by omega),if_pos ⟨rfl,by omega⟩]
     have HJ':=vQ (HJ.out 10 v' (by omega) hv256)
     rw[hj] at HJ'
     clear HK HN HC HB HJ HV HR hj
     subst h9
     go_wp2_with fail
     refine HJ'.out.mono ?_
     rintro e w' ⟨rfl,hw⟩
     rw[hw]
     clear hw w'
     go_wp2
     try rw[Exit.noGoto_ret]
     go_ret3
     exact⟨by rw[HG.out];rfl,rfl⟩
    ·have h91:((k:Int)+1==10)=false:=by rw[beq_eq_false_iff_ne];omega
     have hlim:k<=8:=by omega
     have hval:=eB r k hlt
     rw[<-HV.out,<-HK.out.1] at hval
     have hp:(128:Nat) ^ (k+1)<=128 ^ 9:=Nat.pow_le_pow_right (by omega) (by omega)
     have e9:(128:Nat) ^ 9=9223372036854775808:=by decide
     have hlt2:=dU r (k+1)
     rw[hval] at hlt2
     have hlt3:m+v' % 128*128 ^ k<18446744073709551616:=by omega
     have hor:=jg m v' k (by rw[HK.out.1];exact dU r k) hlt3
     have HX:Hid (m+v' % 128*128 ^ k=Leb.val (r.take (k+1))):=hval.symm
     clear h9 hval hp e9 hlt2 HC HB HJ HK
     generalize m+v' % 128*128 ^ k=m2 at hor HX hlt3
     go_wp2_with fail
     go_round
     case rel=>exact⟨k+1,m2,v',by omega,by omega,rfl,by go_num,rfl,by go_num,hhi,hv256,hlt3,HX.out,HN.out⟩
     case measure=>simp[intOf];omega
   ·have hh:=Leb.high_eq 10 r k (by omega) hkr HK.out.2 (.inr (.inr ⟨hlt,by rw[<-HV.out];exact hhi⟩))
    have hg:=(Leb.getF_high 10 true r).2.2 (by omega) (by omega)
    simp only[hh] at hg
    rw[<-HV.out] at hg
    have hlo:v'<128:=by omega
    by_cases hbad:(k+1=10∧1<v')∨((true=false∨0<k)∧v'=0)
    ·rw[if_pos hbad] at hg
     have HG:=vQ (im l a 5 (by omega) (HB.out _ _ _ hg))
     have hj:Leb.judge (k+1) v'=5:=by
      unfold Leb.judge
      rw[if_neg (by omega)]
      by_cases h1:k+1=10∧1<v'
      ·rw[if_pos h1]
      ·rcases hbad with h2 | ⟨h2 | h2,h3⟩
       ·exact absurd h2 h1
       ·cases h2
       ·rw[if_neg h1,if_pos ⟨by omega,h3⟩]
     have HJ':=vQ (HJ.out (k+1) v' (by omega) hv256)
     rw[hj] at HJ'
     clear HK HC HB HJ HV HR hj hg hh hbad hhi
     go_wp2_with fail
     refine HJ'.out.mono ?_
     rintro e w' ⟨rfl,hw⟩
     rw[hw]
     clear hw w'
     go_wp2
     try rw[Exit.noGoto_ret]
     go_ret3
     exact⟨by rw[HG.out];rfl,rfl⟩
    ·rw[if_neg hbad] at hg
     have hok:=Leb.get_ok r (by rw[show Leb.get r=_ from hg])
     rw[show Leb.get r=_ from hg] at hok
     have hlim:Leb.val (r.take (k+1))<18446744073709551616:=hok.1
     have hval:=eB r k hlt
     rw[<-HV.out,<-HK.out.1] at hval
     have HG:=vQ (sy l a _ _ (HB.out _ _ _ hg))
     rw[hval] at HG hlim
     have hor:=jg m v' k (by rw[HK.out.1];exact dU r k) hlim
     have hj:Leb.judge (k+1) v'=0:=by
      unfold Leb.judge
      rw[if_neg (by omega),if_neg (by omega),if_neg]
      rintro⟨h1,h2⟩
      exact hbad (.inr ⟨.inr (by omega),h2⟩)
     have HJ':=vQ (HJ.out (k+1) v' (by omega) hv256)
     rw[hj] at HJ'
     clear HK HC HB HJ HV HR hj hg hh hbad hhi hok hval
     generalize m+v' % 128*128 ^ k=m2 at hor HG hlim
     go_wp2_with fail
     refine HJ'.out.mono ?_
     rintro e w' ⟨rfl,hw⟩
     rw[hw]
     clear hw w'
     go_wp2
     try rw[Exit.noGoto_ret]
     go_ret3
     exact⟨by rw[HG.out] <;> go_num,rfl⟩
theorem nz(p:OA)(c:Nat)(l:L8)(a:Int)(hl:l.length<=140737488351232)(hlc:l.length<=c)(w:World)(h:At w p l):
  Calls Tryz.prog 166 #[.slice p l.length c,.int .i64 a] w fun e w'=>e=.returned (gw l a)∧w'=w:=by
 by_cases h0:a<0∨(l.length:Int)<a
 ·rw[kX l a (by omega)]
  exact sA p c l.length a h0 w
 ·obtain⟨n,rfl⟩:∃n:Nat,a=(n:Int):=⟨a.toNat,by omega⟩
  by_cases h1:n=l.length
  ·rw[kX l n (by omega),h1]
   exact sB p c l.length w
  ·obtain⟨b,o,rfl,_,hc⟩:=bz h (by omega)
   exact tR b o c n l hl hlc (by omega) w hc
end
section
open Go
theorem bU{s:ByteArray}{pos k:Nat}{l:L8}(hl:s.data.toList.drop pos=l)(hk:k<l.length):pos+k<s.size∧s.get! (pos+k)=l[k]:=by
 subst hl
 have h0:pos+k<s.size:=by
  rw[List.length_drop,Array.length_toList] at hk
  show pos+k<s.data.size
  omega
 refine⟨h0,?_⟩
 rw[List.getElem_drop,Array.getElem_toList]
 exact get_at s (pos+k) h0
theorem nR{s:ByteArray}{pos:Nat}{l:L8}(hl:s.data.toList.drop pos=l)(hp:pos<=s.size):s.size=pos+l.length:=by
 subst hl
 rw[List.length_drop,Array.length_toList]
 show s.data.size=_
 have:pos<=s.data.size:=hp
 omega
theorem jK(s:ByteArray)(i:Nat):Utf8.decode s i=(let at' (k:Nat):Nat:=(s.get! (i+k)).toNat
 let dz (k:Nat):Bool:=i+k<s.size&&at' k / 64==2
 let b0:=at' 0
 if b0<0x80 then (b0,1)
 else if b0 / 32==6&&dz 1 then
  let c:=(b0 % 32)*64+at' 1 % 64
  if c≥0x80 then (c,2) else (Utf8.runeError,1)
 else if b0 / 16==14&&dz 1&&dz 2 then
  let c:=(b0 % 16)*4096+(at' 1 % 64)*64+at' 2 % 64
  if c≥0x800&&Utf8.valid c then (c,3) else (Utf8.runeError,1)
 else if b0 / 8==30&&dz 1&&dz 2&&dz 3 then
  let c:=(b0 % 8)*262144+(at' 1 % 64)*4096+(at' 2 % 64)*64+at' 3 % 64
  if c≥0x10000&&Utf8.valid c then (c,4) else (Utf8.runeError,1)
 else (Utf8.runeError,1)):=rfl
theorem fC(c least:Nat):(Utf8.valid c&&decide (least<=c))=U8.may least c:=by
 unfold Utf8.valid U8.may
 rw[Bool.eq_iff_iff]
 simp only[Bool.and_eq_true,Bool.or_eq_true,decide_eq_true_eq,Bool.not_eq_true',Bool.and_eq_false_iff,decide_eq_false_iff_not]
 omega
def dec:L8->Nat×Nat
 | []=>(65533,1)
 |c0::r=>
  if c0.toNat<128 then (c0.toNat,1)
  else match r with
   | []=>(65533,1)
   |c1::r1=>
    if 192<=c0.toNat∧c0.toNat<224 then (if (128<=c1.toNat∧c1.toNat<192)∧128<=(c0.toNat-192)*64+c1.toNat-128 then ((c0.toNat-192)*64+c1.toNat-128,2) else (65533,1))
    else match r1 with
     | []=>(65533,1)
     |c2::r2=>
      if 224<=c0.toNat∧c0.toNat<240 then (if (128<=c1.toNat∧c1.toNat<192)∧(128<=c2.toNat∧c2.toNat<192)∧U8.may 2048 (((c0.toNat-224)*64+c1.toNat-128)*64+c2.toNat-128) then (((c0.toNat-224)*64+c1.toNat-128)*64+c2.toNat-128,3) else (65533,1))
      else match r2 with
       | []=>(65533,1)
       |c3::_=>
        if 240<=c0.toNat∧c0.toNat<248 then (if (128<=c1.toNat∧c1.toNat<192)∧(128<=c2.toNat∧c2.toNat<192)∧(128<=c3.toNat∧c3.toNat<192)∧U8.may 65536 ((((c0.toNat-240)*64+c1.toNat-128)*64+c2.toNat-128)*64+c3.toNat-128) then ((((c0.toNat-240)*64+c1.toNat-128)*64+c2.toNat-128)*64+c3.toNat-128,4) else (65533,1))
        else (65533,1)
theorem qC(c:UInt8):(c.toNat / 32==6)=decide (192<=c.toNat∧c.toNat<224):=by rw[Bool.eq_iff_iff];simp;omega
theorem sY(c:UInt8):(c.toNat / 16==14)=decide (224<=c.toNat∧c.toNat<240):=by rw[Bool.eq_iff_iff];simp;omega
theorem uF(c:UInt8):(c.toNat / 8==30)=decide (240<=c.toNat∧c.toNat<248):=by rw[Bool.eq_iff_iff];simp;omega
theorem follows(c:UInt8):(c.toNat / 64==2)=decide (128<=c.toNat∧c.toNat<192):=by rw[Bool.eq_iff_iff];simp;omega
theorem iv{s:ByteArray}{pos:Nat}{l:L8}(hl:s.data.toList.drop pos=l)(hp:pos<s.size):Utf8.decode s pos=dec l:=by
 have hsz:=nR hl (Nat.le_of_lt hp)
 have er:Utf8.runeError=65533:=rfl
 match l,hl,hsz with
 | [],_,h=>simp at h;omega
 | [c0],hl,hsz=>
  have g0:=(bU hl (k:=0) (by simp)).2
  have n1:decide (pos+1<s.size)=false:=decide_eq_false (by simp at hsz;omega)
  have n2:decide (pos+2<s.size)=false:=decide_eq_false (by simp at hsz;omega)
  have n3:decide (pos+3<s.size)=false:=decide_eq_false (by simp at hsz;omega)
  simp only[List.getElem_cons_zero] at g0
  rw[jK]
  simp only[g0,n1,Bool.false_and,Bool.and_false,Bool.false_eq_true,if_false,er]
  unfold dec
  rfl
 | [c0,c1],hl,hsz=>
  have g0:=(bU hl (k:=0) (by simp)).2
  have g1:=(bU hl (k:=1) (by simp)).2
  have n1:decide (pos+1<s.size)=true:=decide_eq_true (by simp at hsz;omega)
  have n2:decide (pos+2<s.size)=false:=decide_eq_false (by simp at hsz;omega)
  simp only[List.getElem_cons_zero,List.getElem_cons_succ] at g0 g1
  rw[jK]
  simp only[g0,g1,n1,n2,Bool.false_and,Bool.and_false,Bool.true_and,Bool.false_eq_true,if_false,er,qC,follows]
  simp only[dec]
  by_cases h0:c0.toNat<128
  ·rw[if_pos h0,if_pos h0]
  ·rw[if_neg h0,if_neg h0]
   by_cases h1:192<=c0.toNat∧c0.toNat<224
   ·by_cases h2:128<=c1.toNat∧c1.toNat<192
    ·rw[if_pos (by simp[h1,h2]),if_pos h1]
     have e:c0.toNat % 32*64+c1.toNat % 64=(c0.toNat-192)*64+c1.toNat-128:=by omega
     rw[e]
     by_cases h3:128<=(c0.toNat-192)*64+c1.toNat-128
     ·rw[if_pos h3,if_pos ⟨h2,h3⟩]
     ·rw[if_neg h3,if_neg (fun hc=>h3 hc.2)]
    ·rw[if_neg (by simp[h2]),if_pos h1,if_neg (fun hc=>h2 hc.1)]
   ·rw[if_neg (by simp[h1]),if_neg h1]
 | [c0,c1,c2],hl,hsz=>
  have g0:=(bU hl (k:=0) (by simp)).2
  have g1:=(bU hl (k:=1) (by simp)).2
  have g2:=(bU hl (k:=2) (by simp)).2
  have n1:decide (pos+1<s.size)=true:=decide_eq_true (by simp at hsz;omega)
  have n2:decide (pos+2<s.size)=true:=decide_eq_true (by simp at hsz;omega)
  have n3:decide (pos+3<s.size)=false:=decide_eq_false (by simp at hsz;omega)
  simp only[List.getElem_cons_zero,List.getElem_cons_succ] at g0 g1 g2
  rw[jK]
  simp only[g0,g1,g2,n1,n2,n3,Bool.false_and,Bool.and_false,Bool.true_and,Bool.false_eq_true,if_false,er,qC,sY,follows]
  simp only[dec]
  by_cases h0:c0.toNat<128
  ·rw[if_pos h0,if_pos h0]
  ·rw[if_neg h0,if_neg h0]
   by_cases h1:192<=c0.toNat∧c0.toNat<224
   ·by_cases h2:128<=c1.toNat∧c1.toNat<192
    ·rw[if_pos (by simp[h1,h2]),if_pos h1]
     have e:c0.toNat % 32*64+c1.toNat % 64=(c0.toNat-192)*64+c1.toNat-128:=by omega
     rw[e]
     by_cases h3:128<=(c0.toNat-192)*64+c1.toNat-128
     ·rw[if_pos h3,if_pos ⟨h2,h3⟩]
     ·rw[if_neg h3,if_neg (fun hc=>h3 hc.2)]
    ·rw[if_neg (by simp[h2]),if_neg (by simp[h2]),if_pos h1,if_neg (fun hc=>h2 hc.1)]
   ·rw[if_neg (by simp[h1]),if_neg h1]
    by_cases h4:224<=c0.toNat∧c0.toNat<240
    ·rw[if_pos h4]
     by_cases h2:(128<=c1.toNat∧c1.toNat<192)∧128<=c2.toNat∧c2.toNat<192
     ·rw[if_pos (by simp[h4,h2])]
      have e:c0.toNat % 16*4096+c1.toNat % 64*64+c2.toNat % 64=((c0.toNat-224)*64+c1.toNat-128)*64+c2.toNat-128:=by omega
      rw[e]
      have hv:=fC (((c0.toNat-224)*64+c1.toNat-128)*64+c2.toNat-128) 2048
      by_cases h3:U8.may 2048 (((c0.toNat-224)*64+c1.toNat-128)*64+c2.toNat-128)=true
      ·rw[if_pos (by rw[Bool.and_comm,<-h3];exact hv),if_pos ⟨h2.1,h2.2,h3⟩]
      ·rw[if_neg (by rw[Bool.and_comm];exact fun hc=>h3 (hv.symm.trans hc)),if_neg (fun hc=>h3 hc.2.2)]
     ·rw[if_neg (by simp only[Bool.and_eq_true,decide_eq_true_eq];exact fun hc=>h2 ⟨hc.1.2,hc.2⟩),if_neg (fun hc=>h2 ⟨hc.1,hc.2.1⟩)]
    ·rw[if_neg (by simp[h4]),if_neg h4]
 |c0::c1::c2::c3::t,hl,hsz=>
  have g0:=(bU hl (k:=0) (by simp)).2
  have g1:=(bU hl (k:=1) (by simp)).2
  have g2:=(bU hl (k:=2) (by simp)).2
  have g3:=(bU hl (k:=3) (by simp)).2
  have n1:decide (pos+1<s.size)=true:=decide_eq_true (by simp at hsz;omega)
  have n2:decide (pos+2<s.size)=true:=decide_eq_true (by simp at hsz;omega)
  have n3:decide (pos+3<s.size)=true:=decide_eq_true (by simp at hsz;omega)
  simp only[List.getElem_cons_zero,List.getElem_cons_succ] at g0 g1 g2 g3
  rw[jK]
  simp only[g0,g1,g2,g3,n1,n2,n3,Bool.true_and,er,qC,sY,uF,follows]
  simp only[dec]
  by_cases h0:c0.toNat<128
  ·rw[if_pos h0,if_pos h0]
  ·rw[if_neg h0,if_neg h0]
   by_cases h1:192<=c0.toNat∧c0.toNat<224
   ·have h4:¬(224<=c0.toNat∧c0.toNat<240):=by omega
    have h5:¬(240<=c0.toNat∧c0.toNat<248):=by omega
    by_cases h2:128<=c1.toNat∧c1.toNat<192
    ·rw[if_pos (by simp[h1,h2]),if_pos h1]
     have e:c0.toNat % 32*64+c1.toNat % 64=(c0.toNat-192)*64+c1.toNat-128:=by omega
     rw[e]
     by_cases h3:128<=(c0.toNat-192)*64+c1.toNat-128
     ·rw[if_pos h3,if_pos ⟨h2,h3⟩]
     ·rw[if_neg h3,if_neg (fun hc=>h3 hc.2)]
    ·rw[if_neg (by simp[h2]),if_neg (by simp[h4]),if_neg (by simp[h5]),if_pos h1,if_neg (fun hc=>h2 hc.1)]
   ·rw[if_neg (by simp[h1]),if_neg h1]
    by_cases h4:224<=c0.toNat∧c0.toNat<240
    ·have h5:¬(240<=c0.toNat∧c0.toNat<248):=by omega
     rw[if_pos h4]
     by_cases h2:(128<=c1.toNat∧c1.toNat<192)∧128<=c2.toNat∧c2.toNat<192
     ·rw[if_pos (by simp[h4,h2])]
      have e:c0.toNat % 16*4096+c1.toNat % 64*64+c2.toNat % 64=((c0.toNat-224)*64+c1.toNat-128)*64+c2.toNat-128:=by omega
      rw[e]
      have hv:=fC (((c0.toNat-224)*64+c1.toNat-128)*64+c2.toNat-128) 2048
      by_cases h3:U8.may 2048 (((c0.toNat-224)*64+c1.toNat-128)*64+c2.toNat-128)=true
      ·rw[if_pos (by rw[Bool.and_comm,<-h3];exact hv),if_pos ⟨h2.1,h2.2,h3⟩]
      ·rw[if_neg (by rw[Bool.and_comm];exact fun hc=>h3 (hv.symm.trans hc)),if_neg (fun hc=>h3 hc.2.2)]
     ·rw[if_neg (by simp only[Bool.and_eq_true,decide_eq_true_eq];exact fun hc=>h2 ⟨hc.1.2,hc.2⟩),if_neg (by simp[h5]),if_neg (fun hc=>h2 ⟨hc.1,hc.2.1⟩)]
    ·rw[if_neg (by simp[h4]),if_neg h4]
     by_cases h5:240<=c0.toNat∧c0.toNat<248
     ·rw[if_pos h5]
      by_cases h2:(128<=c1.toNat∧c1.toNat<192)∧(128<=c2.toNat∧c2.toNat<192)∧128<=c3.toNat∧c3.toNat<192
      ·rw[if_pos (by simp[h5,h2])]
       have e:c0.toNat % 8*262144+c1.toNat % 64*4096+c2.toNat % 64*64+c3.toNat % 64=(((c0.toNat-240)*64+c1.toNat-128)*64+c2.toNat-128)*64+c3.toNat-128:=by omega
       rw[e]
       have hv:=fC ((((c0.toNat-240)*64+c1.toNat-128)*64+c2.toNat-128)*64+c3.toNat-128) 65536
       by_cases h3:U8.may 65536 ((((c0.toNat-240)*64+c1.toNat-128)*64+c2.toNat-128)*64+c3.toNat-128)=true
       ·rw[if_pos (by rw[Bool.and_comm,<-h3];exact hv),if_pos ⟨h2.1,h2.2.1,h2.2.2,h3⟩]
       ·rw[if_neg (by rw[Bool.and_comm];exact fun hc=>h3 (hv.symm.trans hc)),if_neg (fun hc=>h3 hc.2.2.2)]
      ·rw[if_neg (by simp only[Bool.and_eq_true,decide_eq_true_eq];exact fun hc=>h2 ⟨hc.1.1.2,hc.1.2,hc.2⟩),if_neg (fun hc=>h2 ⟨hc.1,hc.2.1,hc.2.2.1⟩)]
     ·rw[if_neg (by simp[h5]),if_neg h5]
theorem gD{v:Nat}(h:v<2048)(least:Nat):U8.may least v=decide (least<=v):=by
 unfold U8.may
 rw[Bool.eq_iff_iff]
 simp only[Bool.and_eq_true,decide_eq_true_eq,Bool.not_eq_true',Bool.and_eq_false_iff,decide_eq_false_iff_not]
 omega
theorem s7{c:Nat}(h:c<128):U8.kind c=some (1,c,0):=by unfold U8.kind;rw[if_pos h]
theorem s6{c:Nat}(h:192<=c∧c<224):U8.kind c=some (2,c-192,128):=by unfold U8.kind;rw[if_neg (by omega),if_pos h]
theorem s5{c:Nat}(h:224<=c∧c<240):U8.kind c=some (3,c-224,2048):=by unfold U8.kind;rw[if_neg (by omega),if_neg (by omega),if_pos h]
theorem sZ{c:Nat}(h:240<=c∧c<248):U8.kind c=some (4,c-240,65536):=by unfold U8.kind;rw[if_neg (by omega),if_neg (by omega),if_neg (by omega),if_pos h]
theorem uG{c:Nat}(h1:¬c<128)(h2:¬(192<=c∧c<224))(h3:¬(224<=c∧c<240))(h4:¬(240<=c∧c<248)):U8.kind c=none:=by unfold U8.kind;rw[if_neg h1,if_neg h2,if_neg h3,if_neg h4]
theorem sH{l:L8}(h:U8.one l=none):dec l=(65533,1):=by
 match l,h with
 | [],_=>rfl
 |c0::r,h=>
  simp only[U8.one] at h
  by_cases h0:c0.toNat<128
  ·rw[s7 h0] at h
   simp[U8.conts,gD (show c0.toNat<2048 by omega)] at h
  ·by_cases h1:192<=c0.toNat∧c0.toNat<224
   ·rw[s6 h1] at h
    match r,h with
    | [],_=>simp[dec,h0]
    |c1::r1,h=>
     simp only[dec]
     rw[if_neg h0,if_pos h1]
     by_cases h2:128<=c1.toNat∧c1.toNat<192
     ·simp only[U8.conts,if_pos h2,gD (show(c0.toNat-192)*64+c1.toNat-128<2048 by omega)] at h
      by_cases h3:128<=(c0.toNat-192)*64+c1.toNat-128
      ·simp[h3] at h
      ·rw[if_neg (fun hc=>h3 hc.2)]
     ·rw[if_neg (fun hc=>h2 hc.1)]
   ·by_cases h4:224<=c0.toNat∧c0.toNat<240
    ·rw[s5 h4] at h
     match r,h with
     | [],_=>simp[dec,h0]
     | [c1],_=>simp[dec,h0,h1]
     |c1::c2::r2,h=>
      simp only[dec]
      rw[if_neg h0,if_neg h1,if_pos h4]
      by_cases h2:128<=c1.toNat∧c1.toNat<192
      ·by_cases h3:128<=c2.toNat∧c2.toNat<192
       ·simp only[U8.conts,if_pos h2,if_pos h3] at h
        by_cases h5:U8.may 2048 (((c0.toNat-224)*64+c1.toNat-128)*64+c2.toNat-128)=true
        ·simp[h5] at h
        ·rw[if_neg (fun hc=>h5 hc.2.2)]
       ·rw[if_neg (fun hc=>h3 hc.2.1)]
      ·rw[if_neg (fun hc=>h2 hc.1)]
    ·by_cases h6:240<=c0.toNat∧c0.toNat<248
     ·rw[sZ h6] at h
      match r,h with
      | [],_=>simp[dec,h0]
      | [c1],_=>simp[dec,h0,h1]
      | [c1,c2],_=>simp[dec,h0,h1,h4]
      |c1::c2::c3::r3,h=>
       simp only[dec]
       rw[if_neg h0,if_neg h1,if_neg h4,if_pos h6]
       by_cases h2:128<=c1.toNat∧c1.toNat<192
       ·by_cases h3:128<=c2.toNat∧c2.toNat<192
        ·by_cases h7:128<=c3.toNat∧c3.toNat<192
         ·simp only[U8.conts,if_pos h2,if_pos h3,if_pos h7] at h
          by_cases h5:U8.may 65536 ((((c0.toNat-240)*64+c1.toNat-128)*64+c2.toNat-128)*64+c3.toNat-128)=true
          ·simp[h5] at h
          ·rw[if_neg (fun hc=>h5 hc.2.2.2)]
         ·rw[if_neg (fun hc=>h7 hc.2.2.1)]
        ·rw[if_neg (fun hc=>h3 hc.2.1)]
       ·rw[if_neg (fun hc=>h2 hc.1)]
     ·match r with
      | []=>simp[dec,h0]
      | [c1]=>simp[dec,h0,h1]
      | [c1,c2]=>simp[dec,h0,h1,h4]
      |c1::c2::c3::r3=>simp[dec,h0,h1,h4,h6]
theorem rh{l:L8}{n:Nat}(h:U8.one l=some n):(dec l).2=n∧((dec l).1=65533->n=3∧l.take 3=[239,191,189])∧(dec l).1<=1114111:=by
 match l,h with
 | [],h=>simp[U8.one] at h
 |c0::r,h=>
  simp only[U8.one] at h
  by_cases h0:c0.toNat<128
  ·rw[s7 h0] at h
   have hm:U8.may 0 c0.toNat=true:=by rw[gD (by omega)];simp
   have hn:n=1:=by simpa[U8.conts,hm] using h.symm
   subst hn
   have hd:dec (c0::r)=(c0.toNat,1):=by simp[dec,h0]
   rw[hd]
   exact⟨rfl,fun hc=>by simp only at hc;omega,by simp only;omega⟩
  ·by_cases h1:192<=c0.toNat∧c0.toNat<224
   ·rw[s6 h1] at h
    match r,h with
    | [],h=>simp[U8.conts] at h
    |c1::r1,h=>
     simp only[dec]
     rw[if_neg h0,if_pos h1]
     by_cases h2:128<=c1.toNat∧c1.toNat<192
     ·simp only[U8.conts,if_pos h2,gD (show(c0.toNat-192)*64+c1.toNat-128<2048 by omega)] at h
      by_cases h3:128<=(c0.toNat-192)*64+c1.toNat-128
      ·simp only[h3,decide_true,if_true,Option.some.injEq] at h
       rw[if_pos ⟨h2,h3⟩]
       exact⟨h,fun hc=>by omega,by simp only;omega⟩
      ·simp[h3] at h
     ·simp only[U8.conts,if_neg h2] at h
      cases h
   ·by_cases h4:224<=c0.toNat∧c0.toNat<240
    ·rw[s5 h4] at h
     match r,h with
     | [],h=>simp[U8.conts] at h
     | [c1],h=>
      by_cases h2:128<=c1.toNat∧c1.toNat<192
      ·simp only[U8.conts,if_pos h2] at h
       cases h
      ·simp only[U8.conts,if_neg h2] at h
       cases h
     |c1::c2::r2,h=>
      simp only[dec]
      rw[if_neg h0,if_neg h1,if_pos h4]
      by_cases h2:128<=c1.toNat∧c1.toNat<192
      ·by_cases h3:128<=c2.toNat∧c2.toNat<192
       ·simp only[U8.conts,if_pos h2,if_pos h3] at h
        by_cases h5:U8.may 2048 (((c0.toNat-224)*64+c1.toNat-128)*64+c2.toNat-128)=true
        ·rw[if_pos h5] at h
         simp only[Option.some.injEq] at h
         rw[if_pos ⟨h2,h3,h5⟩]
         refine⟨h,fun hc=>⟨h.symm,?_⟩,by simp only;omega⟩
         simp only at hc
         have e0:c0=239:=UInt8.toNat_inj.1 (by simp;omega)
         have e1:c1=191:=UInt8.toNat_inj.1 (by simp;omega)
         have e2:c2=189:=UInt8.toNat_inj.1 (by simp;omega)
         rw[e0,e1,e2]
         rfl
        ·rw[if_neg h5] at h
         cases h
       ·simp only[U8.conts,if_pos h2,if_neg h3] at h
        cases h
      ·simp only[U8.conts,if_neg h2] at h
       cases h
    ·by_cases h6:240<=c0.toNat∧c0.toNat<248
     ·rw[sZ h6] at h
      match r,h with
      | [],h=>simp[U8.conts] at h
      | [c1],h=>
       by_cases h2:128<=c1.toNat∧c1.toNat<192
       ·simp only[U8.conts,if_pos h2] at h
        cases h
       ·simp only[U8.conts,if_neg h2] at h
        cases h
      | [c1,c2],h=>
       by_cases h2:128<=c1.toNat∧c1.toNat<192
       ·by_cases h3:128<=c2.toNat∧c2.toNat<192
        ·simp only[U8.conts,if_pos h2,if_pos h3] at h
         cases h
        ·simp only[U8.conts,if_pos h2,if_neg h3] at h
         cases h
       ·simp only[U8.conts,if_neg h2] at h
        cases h
      |c1::c2::c3::r3,h=>
       simp only[dec]
       rw[if_neg h0,if_neg h1,if_neg h4,if_pos h6]
       by_cases h2:128<=c1.toNat∧c1.toNat<192
       ·by_cases h3:128<=c2.toNat∧c2.toNat<192
        ·by_cases h7:128<=c3.toNat∧c3.toNat<192
         ·simp only[U8.conts,if_pos h2,if_pos h3,if_pos h7] at h
          by_cases h5:U8.may 65536 ((((c0.toNat-240)*64+c1.toNat-128)*64+c2.toNat-128)*64+c3.toNat-128)=true
          ·rw[if_pos h5] at h
           simp only[Option.some.injEq] at h
           rw[if_pos ⟨h2,h3,h7,h5⟩]
           have h8:=h5
           unfold U8.may at h8
           simp only[Bool.and_eq_true,decide_eq_true_eq] at h8
           exact⟨h,fun hc=>by simp only at hc;omega,h8.1.2⟩
          ·rw[if_neg h5] at h
           cases h
         ·simp only[U8.conts,if_pos h2,if_pos h3,if_neg h7] at h
          cases h
        ·simp only[U8.conts,if_pos h2,if_neg h3] at h
         cases h
       ·simp only[U8.conts,if_neg h2] at h
        cases h
     ·rw[uG h0 h1 h4 h6] at h
      cases h
end
section
open Go.RowKit
theorem qg{l:L8}(h:l.take 3=[239,191,189]):U8.one l=some 3:=by
 match l,h with
 | [],h=>simp at h
 | [_],h=>simp at h
 | [_,_],h=>simp at h
 |a::b::c::r,h=>
  simp only[List.take_succ_cons,List.take_zero,List.cons.injEq,and_true] at h
  obtain⟨rfl,rfl,rfl⟩:=h
  simp[U8.one,U8.kind,U8.conts,U8.may]
theorem vg(t:ByteArray):(t.extract 0 3).toList=t.data.toList.take 3:=by
 rw[ByteArray.toList_eq,ByteArray.data_extract,Array.toList_extract]
 simp
theorem t6(t:ByteArray)(pos:Nat):(t.extract pos t.size).data.toList=t.data.toList.drop pos:=by
 rw[ByteArray.data_extract,Array.toList_extract]
 simp
 exact List.take_of_length_le (by simp[List.length_drop])
def kO(t:ByteArray):Bool:=decide (t.data.toList.take 3=[239,191,189])
theorem ou(t:ByteArray)(ht:t.size<=281474976702464)(w:World):Calls Tryz.prog 183 #[.string t,.string ⟨#[239,191,189]⟩] w fun e w'=>e=.returned (.bool (kO t))∧w'=w:=by
 by_cases h3:t.size<3
 ·have h3':¬(3:Int)<=(t.size:Int):=by omega
  have HM:Hid (kO t=false):=by
   show decide _=false
   rw[decide_eq_false_iff_not]
   intro hc
   have:=congrArg List.length hc
   rw[List.length_take,Array.length_toList] at this
   have h4:t.data.size=t.size:=rfl
   simp at this
   omega
  go_enter Tryz.func183,Tryz.ntmps183
  go_wp2
  go_ret
  exact⟨by rw[HM.out];rfl,rfl⟩
 ·have h3':(3:Int)<=(t.size:Int):=by omega
  have h3n:3<=t.size:=by omega
  obtain⟨r,hr⟩:∃r,((t.extract 0 3).toList==[239,191,189])=r:=⟨_,rfl⟩
  have HM:Hid (kO t=r):=by
   show decide _=r
   rw[<-hr,vg]
   rw[Bool.eq_iff_iff]
   simp
  go_enter Tryz.func183,Tryz.ntmps183
  go_wp2
  go_ret
  exact⟨by rw[HM.out];rfl,rfl⟩
theorem qQ(t:ByteArray)(ht:t.size<=281474976702464)(w:World):Calls Tryz.prog 180 #[.string t,.string ⟨#[239,191,189]⟩] w fun e w'=>e=.returned (.bool (kO t))∧w'=w:=by
 have HC:=vQ (ou t ht w)
 go_enter Tryz.func180,Tryz.ntmps180
 go_wp2_with fail
 refine HC.out.mono ?_
 rintro e w1 ⟨rfl,hw1⟩
 rw[hw1]
 clear hw1 w1
 go_wp2
 go_ret
 exact⟨rfl,rfl⟩
theorem uj(t:ByteArray)(ht:t.size<=281474976702464)(w:World):Calls Tryz.prog 173 #[.string t] w fun e w'=>e=.returned (.bool (cR t))∧Below w.1.size w w':=by
 obtain⟨L,hL⟩:∃L,L=t.data.toList:=⟨_,rfl⟩
 have HR:Hid (cR t=U8.utf L):=by show _=_;rw[hL];rfl
 have HL:=vQ hL
 have HIt:Hid (∀k pos,((w.drewN k).iter t pos).iterPos w.1.size=pos):=fun k pos=>World.iterPos_iter (w.drewN k) t pos
 have HBl:Hid (∀k pos,Below w.1.size w ((w.drewN k).iter t pos)):=fun k pos=>(below_drewN vZ k).alloc vX _
 clear hL
 have HSz:Hid (t.size=L.length):=by show _=_;rw[HL.out,Array.length_toList];rfl
 have HHas:Hid (∀pos w',pos<=t.size->Calls Tryz.prog 180 #[.string (t.extract pos t.size),.string ⟨#[239,191,189]⟩] w' fun e w''=>e=.returned (.bool (decide ((L.drop pos).take 3=[239,191,189])))∧w''=w'):=by
  intro pos w' hp
  have h:=qQ (t.extract pos t.size) (by rw[ByteArray.size_extract];omega) w'
  unfold kO at h
  rw[t6,<-HL.out] at h
  exact h
 go_enter Tryz.func173,Tryz.ntmps173
 go_wp2
 go_loopw [3,4] (fun _ _ wr=>∃pos k:Nat,pos<=t.size∧wr=(w.drewN k).iter t pos∧Hid (U8.utf L=U8.utf (L.drop pos))) (fun _ _ wr=>t.size-wr.iterPos w.1.size)
 case atStart=>exact⟨0,0,by omega,rfl,by show _=_;rw[List.drop_zero]⟩
 case round=>
  obtain⟨pos,k,hp,rfl,HU⟩:=hrel
  by_cases hlt:pos<t.size
  ·have hnx:∀ty,(Instr.next (.pointer (some ⟨w.1.size,0,none⟩)) true ty).run Tryz.prog ((w.drewN k).iter t pos)=.ok (.tuple #[.bool true,.int .i64 pos,.int .i32 (Utf8.decode t pos).1]) ((w.drewN k).iter t (pos+(Utf8.decode t pos).2)):=fun ty=>run_next_any (P:=Tryz.prog) (w.drewN k) t pos ty hlt
   obtain⟨l,hl⟩:∃l,l=L.drop pos:=⟨_,rfl⟩
   have hdl:t.data.toList.drop pos=l:=by rw[hl,HL.out]
   have hlen:l.length=t.size-pos:=by rw[hl,List.length_drop,HSz.out]
   obtain⟨m,hm⟩:∃m,m=decide (l.take 3=[239,191,189]):=⟨_,rfl⟩
   have HC:Hid (∀w',Calls Tryz.prog 180 #[.string (t.extract pos t.size),.string ⟨#[239,191,189]⟩] w' fun e w''=>e=.returned (.bool m)∧w''=w'):=by
    intro w'
    rw[hm,hl]
    exact HHas.out pos w' hp
   cases ho:U8.one l with
   |none=>
    have hd:Utf8.decode t pos=(65533,1):=(iv hdl hlt).trans (sH ho)
    rw[hd] at hnx
    have HF:Hid (U8.utf L=false):=by show _=_;rw[HU.out,<-hl];exact U8.utf_bad (fun hc=>by rw[hc] at hlen;simp at hlen;omega) ho
    have hm0:m=false:=by
     rw[hm,decide_eq_false_iff_not]
     intro hc
     rw[qg hc] at ho
     cases ho
    subst hm0
    clear hd hl hdl ho HU hm
    go_wp2_with fail
    refine(HC.out _).mono ?_
    rintro e w1 ⟨rfl,hw1⟩
    rw[hw1]
    clear hw1 w1
    go_wp2
    go_ret
    exact⟨by rw[HR.out,HF.out];rfl,HBl.out _ _⟩
   |some n=>
    obtain⟨cc,hcc⟩:∃cc,cc=(dec l).1:=⟨_,rfl⟩
    obtain⟨hg1,hg2,hg3⟩:=rh ho
    have hd:Utf8.decode t pos=(cc,n):=by rw[iv hdl hlt,hcc,<-hg1]
    rw[hd] at hnx
    have hn:=U8.one_len ho
    have HN:Hid (U8.utf L=U8.utf (L.drop (pos+n))):=by show _=_;rw[HU.out,<-hl,U8.utf_step ho,hl,List.drop_drop]
    rw[<-hcc] at hg2
    by_cases hmc:cc=65533
    ·have hm0:m=true:=by rw[hm,decide_eq_true_eq];exact(hg2 hmc).2
     have hn3:=(hg2 hmc).1
     subst hmc hn3 hm0
     clear hd hl hdl ho HU hcc hg1 hg2 hg3 hm
     go_wp2_with fail
     refine(HC.out _).mono ?_
     rintro e w1 ⟨rfl,hw1⟩
     rw[hw1]
     clear hw1 w1
     go_wp2
     go_roundw
     case rel=>exact⟨pos+3,k,by omega,rfl,HN⟩
     case measure=>rw[HIt.out,HIt.out];omega
    ·have hx:((cc:Int)==65533)=false:=by simp;omega
     clear hd hl hdl ho HU hcc hg1 hg2 hm
     go_wp2
     go_roundw
     case rel=>exact⟨pos+n,k,by omega,rfl,HN⟩
     case measure=>rw[HIt.out,HIt.out];omega
  ·have hnx:∀ty,(Instr.next (.pointer (some ⟨w.1.size,0,none⟩)) true ty).run Tryz.prog ((w.drewN k).iter t pos)=.ok (.tuple #[.bool false]) ((w.drewN k).iter t pos):=fun ty=>run_next_end (P:=Tryz.prog) (w.drewN k) t pos ty hlt
   have HT:Hid (U8.utf L=true):=by show _=_;rw[HU.out,List.drop_eq_nil_of_le (by have:=HSz.out;omega)];rfl
   clear HU
   go_wp2
   go_ret
   exact⟨by rw[HR.out,HT.out];rfl,HBl.out _ _⟩
end
section
open Go.RowKit
attribute [local go_sem] ai
theorem te:aC 0=0:=by kernel_rfl
theorem dH(n:Nat):((n:Int)==0)=(n==0):=by rw[Bool.eq_iff_iff,beq_iff_eq,beq_iff_eq];omega
theorem bZ(b:Nat)(w:World):Calls Tryz.prog 147 #[.float .f64 b,.float .f64 0] w fun e w'=>e=.returned (.bool (aC b==0))∧w'=w:=by
 have h:=fc b 0 w
 rw[te] at h
 have e1:((aC b:Int)==((0:Nat):Int))=(aC b==0):=by
  rw[Bool.eq_iff_iff,beq_iff_eq,beq_iff_eq]
  omega
 rw[e1] at h
 exact h
theorem tZ(i:Int)(b:Nat)(t:ByteArray)(p:OA)(n c:Nat)(w:World):
  Calls Tryz.prog 177 #[.agg #[.int .i64 1,.int .i64 i,.float .f64 b,.string t,.slice p n c]] w fun e w'=>e=.returned (.bool (V.ownB 1 i b t n))∧Below w.1.size w w':=by
 have HB:Hid (∀o,Below w.1.size w (w.alloc o)):=fun o=>vZ.alloc vX o
 go_enter Tryz.func177,Tryz.ntmps177
 go_wp2_with (go_at_call 147;refine(bZ _ _).mono ?_;rintro e w1 ⟨rfl,hw1⟩;rw[hw1];clear hw1 w1)
 all_goals go_ret
 all_goals refine⟨?_,HB.out _⟩
 all_goals simp_all [V.ownB]
 all_goals first | exact dH n | (intros;omega)
theorem tY(i:Int)(b:Nat)(t:ByteArray)(p:OA)(n c:Nat)(w:World):
  Calls Tryz.prog 177 #[.agg #[.int .i64 2,.int .i64 i,.float .f64 b,.string t,.slice p n c]] w fun e w'=>e=.returned (.bool (V.ownB 2 i b t n))∧Below w.1.size w w':=by
 have HB:Hid (∀o,Below w.1.size w (w.alloc o)):=fun o=>vZ.alloc vX o
 go_enter Tryz.func177,Tryz.ntmps177
 go_wp2_with (go_at_call 147;refine(bZ _ _).mono ?_;rintro e w1 ⟨rfl,hw1⟩;rw[hw1];clear hw1 w1)
 all_goals go_ret
 all_goals refine⟨?_,HB.out _⟩
 all_goals simp_all [V.ownB]
 all_goals first | exact dH n | (intros;omega)
theorem tX(i:Int)(b:Nat)(t:ByteArray)(p:OA)(n c:Nat)(w:World):
  Calls Tryz.prog 177 #[.agg #[.int .i64 3,.int .i64 i,.float .f64 b,.string t,.slice p n c]] w fun e w'=>e=.returned (.bool (V.ownB 3 i b t n))∧Below w.1.size w w':=by
 have HB:Hid (∀o,Below w.1.size w (w.alloc o)):=fun o=>vZ.alloc vX o
 go_enter Tryz.func177,Tryz.ntmps177
 go_wp2_with (go_at_call 147;refine(bZ _ _).mono ?_;rintro e w1 ⟨rfl,hw1⟩;rw[hw1];clear hw1 w1)
 all_goals go_ret
 all_goals refine⟨?_,HB.out _⟩
 all_goals simp_all [V.ownB,te]
 all_goals first | exact dH n | (intros;omega)
theorem tW(i:Int)(b:Nat)(t:ByteArray)(p:OA)(n c:Nat)(w:World):
  Calls Tryz.prog 177 #[.agg #[.int .i64 4,.int .i64 i,.float .f64 b,.string t,.slice p n c]] w fun e w'=>e=.returned (.bool (V.ownB 4 i b t n))∧Below w.1.size w w':=by
 have HB:Hid (∀o,Below w.1.size w (w.alloc o)):=fun o=>vZ.alloc vX o
 go_enter Tryz.func177,Tryz.ntmps177
 go_wp2_with (go_at_call 147;refine(bZ _ _).mono ?_;rintro e w1 ⟨rfl,hw1⟩;rw[hw1];clear hw1 w1)
 all_goals go_ret
 all_goals refine⟨?_,HB.out _⟩
 all_goals simp_all [V.ownB]
 all_goals first | exact dH n | (intros;omega)
theorem tV(i:Int)(b:Nat)(t:ByteArray)(p:OA)(n c:Nat)(w:World):
  Calls Tryz.prog 177 #[.agg #[.int .i64 5,.int .i64 i,.float .f64 b,.string t,.slice p n c]] w fun e w'=>e=.returned (.bool (V.ownB 5 i b t n))∧Below w.1.size w w':=by
 have HB:Hid (∀o,Below w.1.size w (w.alloc o)):=fun o=>vZ.alloc vX o
 go_enter Tryz.func177,Tryz.ntmps177
 go_wp2_with (go_at_call 147;refine(bZ _ _).mono ?_;rintro e w1 ⟨rfl,hw1⟩;rw[hw1];clear hw1 w1)
 all_goals go_ret
 all_goals refine⟨?_,HB.out _⟩
 all_goals simp_all [V.ownB]
 all_goals first | exact dH n | (intros;omega)
theorem tU(i:Int)(b:Nat)(t:ByteArray)(p:OA)(n c:Nat)(w:World):
  Calls Tryz.prog 177 #[.agg #[.int .i64 6,.int .i64 i,.float .f64 b,.string t,.slice p n c]] w fun e w'=>e=.returned (.bool (V.ownB 6 i b t n))∧Below w.1.size w w':=by
 have HB:Hid (∀o,Below w.1.size w (w.alloc o)):=fun o=>vZ.alloc vX o
 go_enter Tryz.func177,Tryz.ntmps177
 go_wp2_with (go_at_call 147;refine(bZ _ _).mono ?_;rintro e w1 ⟨rfl,hw1⟩;rw[hw1];clear hw1 w1)
 all_goals go_ret
 all_goals refine⟨?_,HB.out _⟩
 all_goals simp_all [V.ownB]
 all_goals first | exact dH n | (intros;omega)
theorem tT(i:Int)(b:Nat)(t:ByteArray)(p:OA)(n c:Nat)(w:World):
  Calls Tryz.prog 177 #[.agg #[.int .i64 7,.int .i64 i,.float .f64 b,.string t,.slice p n c]] w fun e w'=>e=.returned (.bool (V.ownB 7 i b t n))∧Below w.1.size w w':=by
 have HB:Hid (∀o,Below w.1.size w (w.alloc o)):=fun o=>vZ.alloc vX o
 go_enter Tryz.func177,Tryz.ntmps177
 go_wp2_with (go_at_call 147;refine(bZ _ _).mono ?_;rintro e w1 ⟨rfl,hw1⟩;rw[hw1];clear hw1 w1)
 all_goals go_ret
 all_goals refine⟨?_,HB.out _⟩
 all_goals simp_all [V.ownB]
theorem qW(k:Int)(hk:k<1∨7<k)(i:Int)(b:Nat)(t:ByteArray)(p:OA)(n c:Nat)(w:World):
  Calls Tryz.prog 177 #[.agg #[.int .i64 k,.int .i64 i,.float .f64 b,.string t,.slice p n c]] w fun e w'=>e=.returned (.bool (V.ownB k i b t n))∧Below w.1.size w w':=by
 have HB:Hid (∀o,Below w.1.size w (w.alloc o)):=fun o=>vZ.alloc vX o
 have h1:¬k=1:=by omega
 have h2:¬k=2:=by omega
 have h3:¬k=3:=by omega
 have h4:¬k=4:=by omega
 have h5:¬k=5:=by omega
 have h6:¬k=6:=by omega
 have h7:¬k=7:=by omega
 go_enter Tryz.func177,Tryz.ntmps177
 go_wp2_with (go_at_call 147;refine(bZ _ _).mono ?_;rintro e w1 ⟨rfl,hw1⟩;rw[hw1];clear hw1 w1)
 all_goals go_ret
 all_goals refine⟨?_,HB.out _⟩
 all_goals simp_all [V.ownB]
 all_goals first | exact dH n | (intros;omega)
theorem uO(k i:Int)(b:Nat)(t:ByteArray)(p:OA)(n c:Nat)(w:World):
  Calls Tryz.prog 177 #[.agg #[.int .i64 k,.int .i64 i,.float .f64 b,.string t,.slice p n c]] w fun e w'=>e=.returned (.bool (V.ownB k i b t n))∧Below w.1.size w w':=by
 by_cases hk:k<1∨7<k
 ·exact qW k hk i b t p n c w
 ·rcases(show k=1∨k=2∨k=3∨k=4∨k=5∨k=6∨k=7 by omega) with rfl | rfl | rfl | rfl | rfl | rfl | rfl
  ·exact tZ i b t p n c w
  ·exact tY i b t p n c w
  ·exact tX i b t p n c w
  ·exact tW i b t p n c w
  ·exact tV i b t p n c w
  ·exact tU i b t p n c w
  ·exact tT i b t p n c w
def dz(k:Int)(t:ByteArray)(n:Nat):Nat:=if 1024<t.size then 2 else if 256<n then 3 else if k=4∧cR t=false then 61 else 0
theorem uS(k i:Int)(b:Nat)(t:ByteArray)(p:OA)(n c:Nat)(w:World):
  Calls Tryz.prog 178 #[.agg #[.int .i64 k,.int .i64 i,.float .f64 b,.string t,.slice p n c]] w fun e w'=>e=.returned (.int .i64 (dz k t n:Nat))∧Below w.1.size w w':=by
 have HB:Hid (∀o,Below w.1.size w (w.alloc o)):=fun o=>vZ.alloc vX o
 by_cases h2:1024<t.size
 ·have g2:(1024:Int)<(t.size:Int):=by omega
  have HR:Hid (dz k t n=2):=by show _=_;rw[dz,if_pos h2]
  go_enter Tryz.func178,Tryz.ntmps178
  go_wp2
  go_ret
  exact⟨by rw[HR.out];rfl,HB.out _⟩
 have g2:¬(1024:Int)<(t.size:Int):=by omega
 by_cases h3:256<n
 ·have g3:(256:Int)<(n:Int):=by omega
  have HR:Hid (dz k t n=3):=by show _=_;rw[dz,if_neg h2,if_pos h3]
  go_enter Tryz.func178,Tryz.ntmps178
  go_wp2
  go_ret
  exact⟨by rw[HR.out];rfl,HB.out _⟩
 have g3:¬(256:Int)<(n:Int):=by omega
 by_cases h4:k=4
 ·have hk4:(k==4)=true:=bV h4
  have HU:=vQ (fun w=>uj t (by omega) w)
  obtain⟨r,hr⟩:∃r,r=cR t:=⟨_,rfl⟩
  rw[<-hr] at HU
  have HR:Hid (dz k t n=if r=false then 61 else 0):=by
   show _=_
   rw[dz,if_neg h2,if_neg h3,<-hr]
   simp only[h4,true_and]
  clear hr
  go_enter Tryz.func178,Tryz.ntmps178
  go_wp2_with fail
  refine(HU.out _).mono ?_
  rintro e w1 ⟨rfl,hb1⟩
  have HB1:=vQ ((HB.out _).trans (hb1.mono (HB.out _).size))
  clear hb1
  cases r
  all_goals
   go_wp2
   go_ret
   exact⟨by rw[HR.out];rfl,HB1.out⟩
 ·have hk4:(k==4)=false:=aH h4
  have HR:Hid (dz k t n=0):=by show _=_;rw[dz,if_neg h2,if_neg h3,if_neg (fun hc=>h4 hc.1)]
  go_enter Tryz.func178,Tryz.ntmps178
  go_wp2
  go_ret
  exact⟨by rw[HR.out];rfl,HB.out _⟩
theorem rm(d:Nat)(k i:Int)(b:Nat)(t:ByteArray)(xs:List V):chk d (.mk k i b t xs)=if 4<d then 62 else if V.ownB k i b t xs.length=false then 60 else if dz k t xs.length=0 then ei (d+1) xs else dz k t xs.length:=by
 rw[jQ]
 unfold dz
 by_cases h1:4<d
 ·rw[if_pos h1,if_pos h1]
 rw[if_neg h1,if_neg h1]
 by_cases h2:V.ownB k i b t xs.length=false
 ·rw[if_pos h2,if_pos h2]
 rw[if_neg h2,if_neg h2]
 by_cases h3:1024<t.size
 ·rw[if_pos h3,if_pos h3];rfl
 rw[if_neg h3,if_neg h3]
 by_cases h4:256<xs.length
 ·rw[if_pos h4,if_pos h4];rfl
 rw[if_neg h4,if_neg h4]
 by_cases h5:k=4∧cR t=false
 ·rw[if_pos h5,if_pos h5];rfl
 rw[if_neg h5,if_neg h5,if_pos rfl]
theorem rp:∀(x:V) (d:Nat) (w:World) (u:AV),d<=5->ax w u x->Calls Tryz.prog 169 #[.agg u,.int .i64 d] w fun e w'=>e=.returned (.int .i64 (chk d x:Nat))∧Below w.1.size w w':=by
 intro x
 refine V.ind (P:=fun x=>∀(d:Nat) (w:World) (u:AV),d<=5->ax w u x->Calls Tryz.prog 169 #[.agg u,.int .i64 d] w fun e w'=>e=.returned (.int .i64 (chk d x:Nat))∧Below w.1.size w w') ?_ x
 rintro k i b t xs ih d w u hd hx
 obtain⟨p,c,rfl,hxl,hxc,hxi⟩:=hx.open
 unfold cells5
 have hB1:Below w.1.size w (w.alloc (.cells #[.int .i64 k,.int .i64 i,.float .f64 b,.string t,.slice p xs.length c] 87)):=vY
 have HB1:=vQ hB1
 clear hB1 hx
 have HCk:=vQ (rm d k i b t xs)
 obtain⟨R,hR⟩:∃R,R=chk d (.mk k i b t xs):=⟨_,rfl⟩
 rw[<-hR] at HCk ⊢
 clear hR
 by_cases h1:4<d
 ·have g1:(4:Int)<(d:Int):=by omega
  have HR:Hid (R=62):=by show _=_;rw[HCk.out,if_pos h1]
  clear ih hxi HCk
  go_enter Tryz.func169,Tryz.ntmps169
  go_wp2
  go_ret
  exact⟨by rw[HR.out];rfl,HB1.out⟩
 have g1:¬(4:Int)<(d:Int):=by omega
 have HO:=vQ (uO k i b t p xs.length c (w.alloc (.cells #[.int .i64 k,.int .i64 i,.float .f64 b,.string t,.slice p xs.length c] 87)))
 have HCo:=vQ (uS k i b t p xs.length c)
 obtain⟨r,hr⟩:∃r,r=V.ownB k i b t xs.length:=⟨_,rfl⟩
 rw[<-hr] at HO HCk
 clear hr
 obtain⟨s,hs⟩:∃s,s=dz k t xs.length:=⟨_,rfl⟩
 rw[<-hs] at HCo HCk
 clear hs
 have hsz:w.1.size<(w.alloc (.cells #[.int .i64 k,.int .i64 i,.float .f64 b,.string t,.slice p xs.length c] 87)).1.size:=by simp
 have y0:(w.alloc (.cells #[.int .i64 k,.int .i64 i,.float .f64 b,.string t,.slice p xs.length c] 87)).cell? ⟨w.1.size,0,none⟩=some (.int .i64 k):=by simp
 have y1:(w.alloc (.cells #[.int .i64 k,.int .i64 i,.float .f64 b,.string t,.slice p xs.length c] 87)).cell? ⟨w.1.size,1,none⟩=some (.int .i64 i):=by simp
 have y2:(w.alloc (.cells #[.int .i64 k,.int .i64 i,.float .f64 b,.string t,.slice p xs.length c] 87)).cell? ⟨w.1.size,2,none⟩=some (.float .f64 b):=by simp
 have y3:(w.alloc (.cells #[.int .i64 k,.int .i64 i,.float .f64 b,.string t,.slice p xs.length c] 87)).cell? ⟨w.1.size,3,none⟩=some (.string t):=by simp
 have y4:(w.alloc (.cells #[.int .i64 k,.int .i64 i,.float .f64 b,.string t,.slice p xs.length c] 87)).cell? ⟨w.1.size,4,none⟩=some (.slice p xs.length c):=by simp
 have Y:=vQ (And.intro y0 (And.intro y1 (And.intro y2 (And.intro y3 y4))))
 clear y0 y1 y2 y3 y4
 have HX:Hid (∀j (hj:j<xs.length),∃u',ax w u' xs[j]∧Item w p j u'):=hxi
 have HIH:=vQ ih
 clear ih hxi
 go_enter Tryz.func169,Tryz.ntmps169
 go_wp2_with fail
 refine HO.out.mono ?_
 rintro e w2 ⟨rfl,hb2⟩
 have c0:=ab hb2 Y.out.1
 have c1:=ab hb2 Y.out.2.1
 have c2:=ab hb2 Y.out.2.2.1
 have c3:=ab hb2 Y.out.2.2.2.1
 have c4:=ab hb2 Y.out.2.2.2.2
 have HB2:=vQ (HB1.out.trans (hb2.mono HB1.out.size))
 have hs2:w.1.size<w2.1.size:=by have:=hb2.size;omega
 clear hb2 HO Y HB1 hsz
 cases r with
 |false=>
  have HR:Hid (R=60):=by show _=_;rw[HCk.out,if_neg h1,if_pos rfl]
  clear HCk
  go_wp2
  go_ret
  exact⟨by rw[HR.out];rfl,HB2.out⟩
 |true=>
  have HR2:Hid (R=if s=0 then ei (d+1) xs else s):=by show _=_;rw[HCk.out,if_neg h1,if_neg (by simp)]
  clear HCk
  go_wp2_with fail
  refine(HCo.out _).mono ?_
  rintro e w3 ⟨rfl,hb3⟩
  have n4:=ab hb3 c4
  have HB3:=vQ (HB2.out.trans (hb3.mono HB2.out.size))
  have hs3:w.1.size<w3.1.size:=by have:=hb3.size;omega
  clear hb3 HCo HB2 c0 c1 c2 c3 c4
  by_cases hs0:¬s=0
  ·have hsb:((s:Int) != 0)=true:=by rw[bne_iff_ne];omega
   have HR:Hid (R=s):=by show _=_;rw[HR2.out,if_neg hs0]
   clear HR2
   go_wp2
   go_ret
   exact⟨by rw[HR.out];rfl,HB3.out⟩
  replace hs0:s=0:=Classical.not_not.1 hs0
  have hsb:((s:Int) != 0)=false:=by rw[hs0];rfl
  have HR:Hid (R=ei (d+1) xs):=by show _=_;rw[HR2.out,if_pos hs0]
  clear HR2
  -- the items,from any world behind
  have HC:Hid (∀j (hj:j<xs.length) w',Below w.1.size w w'->∀u',ax w u' xs[j]->Calls Tryz.prog 169 #[.agg u',.int .i64 ((d+1:Nat):Int)] w' fun e w''=>e=.returned (.int .i64 (chk (d+1) xs[j]:Nat))∧Below w'.1.size w' w'') :=
   fun j hj w' hb u' hv=>HIH.out _ (List.getElem_mem hj) (d+1) w' u' (by omega) (hv.on hb)
  clear HIH
  go_wp2_with fail
  go_loopw [22] (fun v22 wr=>∃j:Nat,j<=xs.length∧v22=.int .i64 j∧Hid (Below w3.1.size w3 wr∧∀m (h1:m<xs.length),m<j->chk (d+1) xs[m]=0)) (fun v22 _=>xs.length-(intOf v22).toNat)
  case atStart=>exact⟨0,by omega,rfl,vZ,fun m _ h=>by omega⟩
  case round=>
   obtain⟨j,hj,rfl,HL⟩:=hrel
   have hbw:Below w.1.size w wr:=HB3.out.trans (HL.out.1.mono (by omega))
   by_cases hlt:j<xs.length
   ·obtain⟨ux,hvx,hix⟩:=HX.out j hlt
    obtain⟨bx,ox,kx,ix,fx,tx,qx,nx,cx,rfl,_,rfl,a0,a1,a2,a3,a4⟩:=(hix.on hbw).lies
    have HBa:Hid (∀o,Below wr.1.size wr (wr.alloc o)):=fun o=>vZ.alloc vX o
    have HCj:Hid (∀w',Below wr.1.size wr w'->Calls Tryz.prog 169 #[.agg #[.int .i64 kx,.int .i64 ix,.float .f64 fx,.string tx,.slice qx nx cx],.int .i64 ((d+1:Nat):Int)] w' fun e w''=>e=.returned (.int .i64 (chk (d+1) xs[j]:Nat))∧Below w'.1.size w' w''):=fun w' hb=>HC.out j hlt w' (hbw.trans (hb.mono hbw.size)) _ hvx
    have hj1:(j:Int)<(xs.length:Int):=by omega
    obtain⟨z,hz⟩:∃z,z=chk (d+1) xs[j]:=⟨_,rfl⟩
    rw[<-hz] at HCj
    have HZz:=vQ hz
    have HBw:=vQ hbw
    clear hvx hix hz hbw
    go_wp2_with fail
    refine(HCj.out _ (HBa.out _)).mono ?_
    rintro e w4 ⟨rfl,hb4⟩
    have HB4:=vQ ((HBa.out _).trans (hb4.mono (HBa.out _).size))
    clear hb4 a0 a1 a2 a3 a4 HCj HBa
    by_cases hz0:z=0
    ·have hzb:((z:Int) != 0)=false:=by rw[hz0];rfl
     have HN:Hid (Below w3.1.size w3 w4∧∀m (h1:m<xs.length),m<j+1->chk (d+1) xs[m]=0):=by
      refine⟨HL.out.1.trans (HB4.out.mono HL.out.1.size),fun m h1 hm=>?_⟩
      by_cases hmj:m=j
      ·subst hmj;rw[<-HZz.out];exact hz0
      ·exact HL.out.2 m h1 (by omega)
     clear HL HB4 HZz hz0
     go_wp2
     go_roundw
     case rel=>exact⟨j+1,by omega,by go_num,HN⟩
     case measure=>simp[intOf];omega
    ·have hzb:((z:Int) != 0)=true:=by rw[bne_iff_ne];omega
     have HRz:Hid (R=z):=by
      show _=_
      rw[HR.out,HZz.out]
      exact gE (d+1) xs j hlt (fun m h hm=>HL.out.2 m h hm) (by rw[<-HZz.out];exact hz0)
     have HF:=vQ (HBw.out.trans (HB4.out.mono HBw.out.size))
     clear HL HB4 HZz hz0 HR
     go_wp2
     go_ret
     exact⟨by rw[HRz.out];rfl,HF.out⟩
   ·have hjn:¬(j:Int)<(xs.length:Int):=by omega
    have HRz:Hid (R=0):=by
     show _=_
     rw[HR.out]
     exact eh (d+1) xs (fun m h=>HL.out.2 m h (by omega))
    have HF:=vQ hbw
    clear HL hbw hlt HR
    go_wp2
    go_ret
    exact⟨by rw[HRz.out];rfl,HF.out⟩
theorem t9(x:V)(w:World)(u:AV)(h:ax w u x):Calls Tryz.prog 152 #[.agg u] w fun e w'=>e=.returned (.int .i64 (chk 1 x:Nat))∧Below w.1.size w w':=by
 obtain⟨k,i,b,t,xs⟩:=x
 obtain⟨p,c,rfl,-⟩:=h.open
 have hB1:Below w.1.size w (w.alloc (.cells (cells5 k i b t p xs.length c) 87)):=vY
 have HB1:=vQ hB1
 have HC:=vQ (rp _ 1 _ _ (by omega) (h.on hB1))
 clear hB1 h
 obtain⟨R,hR⟩:∃R,R=chk 1 (.mk k i b t xs):=⟨_,rfl⟩
 rw[<-hR] at HC ⊢
 clear hR
 unfold cells5 at HC HB1 ⊢
 go_enter Tryz.func152,Tryz.ntmps152
 go_wp2_with fail
 refine HC.out.mono ?_
 rintro e w2 ⟨rfl,hb2⟩
 have HB2:=vQ (HB1.out.trans (hb2.mono HB1.out.size))
 clear hb2
 go_wp2
 go_ret
 exact⟨rfl,HB2.out⟩
end
section
open Go.RowKit
attribute [local go_sem] ai
theorem sR:∀(x y:V) (w:World) (u v:AV),ax w u x->ax w v y->Calls Tryz.prog 121 #[.agg u,.agg v] w fun e w'=>e=.returned (.bool (V.same x y))∧Below w.1.size w w':=by
 intro x
 refine V.ind (P:=fun x=>∀(y:V) (w:World) (u v:AV),ax w u x->ax w v y->Calls Tryz.prog 121 #[.agg u,.agg v] w fun e w'=>e=.returned (.bool (V.same x y))∧Below w.1.size w w') ?_ x
 rintro k i b t xs ih ⟨k',i',b',t',ys⟩ w u v hx hy
 obtain⟨p,c,rfl,hxl,hxc,hxi⟩:=hx.open
 obtain⟨q,d,rfl,hyl,hyc,hyi⟩:=hy.open
 unfold cells5
 have hB2:Below w.1.size w ((w.alloc (.cells #[.int .i64 k,.int .i64 i,.float .f64 b,.string t,.slice p xs.length c] 87)).alloc (.cells #[.int .i64 k',.int .i64 i',.float .f64 b',.string t',.slice q ys.length d] 87)):=vY.alloc (by simp) _
 have HB2:=vQ hB2
 clear hB2 hx hy
 by_cases h1:¬k=k'
 ·have g1:=ca h1
  have HE:Hid (V.same (.mk k i b t xs) (.mk k' i' b' t' ys)=false):=by show _=_;simp[V.same_mk,h1]
  clear ih hxi hyi h1
  go_enter Tryz.func121,Tryz.ntmps121
  go_wp2
  go_ret
  exact⟨by rw[HE.out];rfl,HB2.out⟩
 replace h1:k=k':=Classical.not_not.1 h1
 have g1:=cq h1
 by_cases h2:¬i=i'
 ·have g2:=ca h2
  have HE:Hid (V.same (.mk k i b t xs) (.mk k' i' b' t' ys)=false):=by show _=_;simp[V.same_mk,h2]
  clear ih hxi hyi h1 h2
  go_enter Tryz.func121,Tryz.ntmps121
  go_wp2
  go_ret
  exact⟨by rw[HE.out];rfl,HB2.out⟩
 replace h2:i=i':=Classical.not_not.1 h2
 have g2:=cq h2
 by_cases h3:¬t=t'
 ·have g3:(t.toList==t'.toList)=false:=by rw[cF,decide_eq_false h3]
  have HE:Hid (V.same (.mk k i b t xs) (.mk k' i' b' t' ys)=false):=by show _=_;simp[V.same_mk,h3]
  clear ih hxi hyi h1 h2 h3
  go_enter Tryz.func121,Tryz.ntmps121
  go_wp2
  go_ret
  exact⟨by rw[HE.out];rfl,HB2.out⟩
 replace h3:t=t':=Classical.not_not.1 h3
 have g3:(t.toList==t'.toList)=true:=by rw[cF,decide_eq_true h3]
 have HRS:=vQ (fc b b')
 by_cases h4:¬aC b=aC b'
 ·have g4:((aC b:Int)==(aC b':Int))=false:=aH (by omega)
  rw[g4] at HRS
  have HE:Hid (V.same (.mk k i b t xs) (.mk k' i' b' t' ys)=false):=by show _=_;simp[V.same_mk,h4]
  clear ih hxi hyi h1 h2 h3 h4
  go_enter Tryz.func121,Tryz.ntmps121
  go_wp2_with fail
  refine(HRS.out _).mono ?_
  rintro e w1 ⟨rfl,hw1⟩
  rw[hw1]
  clear hw1 w1
  go_wp2
  go_ret
  exact⟨by rw[HE.out];rfl,HB2.out⟩
 replace h4:aC b=aC b':=Classical.not_not.1 h4
 have g4:((aC b:Int)==(aC b':Int))=true:=bV (by omega)
 rw[g4] at HRS
 by_cases h5:¬xs.length=ys.length
 ·have g5:((xs.length:Int) != (ys.length:Int))=true:=ca (by omega)
  have HE:Hid (V.same (.mk k i b t xs) (.mk k' i' b' t' ys)=false):=by show _=_;simp[V.same_mk,V.sameL_ne xs ys h5]
  clear ih hxi hyi h1 h2 h3 h4 h5
  go_enter Tryz.func121,Tryz.ntmps121
  go_wp2_with fail
  refine(HRS.out _).mono ?_
  rintro e w1 ⟨rfl,hw1⟩
  rw[hw1]
  clear hw1 w1
  go_wp2
  go_ret
  exact⟨by rw[HE.out];rfl,HB2.out⟩
 replace h5:xs.length=ys.length:=Classical.not_not.1 h5
 have g5:((xs.length:Int) != (ys.length:Int))=false:=cq (by omega)
 have HE:Hid (V.same (.mk k i b t xs) (.mk k' i' b' t' ys)=V.sameL xs ys):=by show _=_;simp[V.same_mk,h1,h2,h3,h4]
 have HX:Hid (dl w p xs):=hxi
 have HY:Hid (dl w q ys):=hyi
 have HIH:=vQ ih
 have H5:=vQ h5
 clear ih hxi hyi h1 h2 h3 h4 h5
 obtain⟨W0,hW0⟩:∃W0,W0=(w.alloc (.cells #[.int .i64 k,.int .i64 i,.float .f64 b,.string t,.slice p xs.length c] 87)).alloc (.cells #[.int .i64 k',.int .i64 i',.float .f64 b',.string t',.slice q ys.length d] 87):=⟨_,rfl⟩
 have Y4:Hid (W0.cell? ⟨w.1.size+1,4,none⟩=some (.slice q ys.length d)):=by show _=_;rw[hW0];simp
 have HB0:Hid (Below w.1.size w W0):=by rw[hW0];exact HB2.out
 have HW0:=vQ hW0
 clear HB2 hW0
 go_enter Tryz.func121,Tryz.ntmps121
 go_wp2_with fail
 refine(HRS.out _).mono ?_
 rintro e w1 ⟨rfl,hw1⟩
 rw[hw1]
 clear hw1 w1
 go_wp2_with fail
 rw[<-HW0.out]
 clear HW0
 go_loopw [44] (fun v44 wr=>∃j:Nat,j<=xs.length∧v44=.int .i64 j∧Hid (Below W0.1.size W0 wr∧∀m (h1:m<xs.length) (h2:m<ys.length),m<j->V.same xs[m] ys[m]=true)) (fun v44 _=>xs.length-(intOf v44).toNat)
 case atStart=>exact⟨0,by omega,rfl,vZ,fun m _ _ h=>by omega⟩
 case round=>
  obtain⟨j,hj,rfl,HL⟩:=hrel
  have hbw:Below w.1.size w wr:=HB0.out.trans (HL.out.1.mono HB0.out.size)
  by_cases hlt:j<xs.length
  ·have hlt2:j<ys.length:=by have:=H5.out;omega
   obtain⟨ux,hvx,hix⟩:=HX.out j hlt
   obtain⟨uy,hvy,hiy⟩:=HY.out j hlt2
   obtain⟨bx,ox,kx,ix,fx,tx,qx,nx,cx,rfl,_,rfl,a0,a1,a2,a3,a4⟩:=(hix.on hbw).lies
   obtain⟨by',oy,ky,iy,fy,ty,qy,ny,cy,rfl,_,rfl,b0,b1,b2,b3,b4⟩:=(hiy.on hbw).lies
   have HC:Hid (∀w',Below w.1.size w w'->Calls Tryz.prog 121 #[.agg #[.int .i64 kx,.int .i64 ix,.float .f64 fx,.string tx,.slice qx nx cx],.agg #[.int .i64 ky,.int .i64 iy,.float .f64 fy,.string ty,.slice qy ny cy]] w' fun e w''=>e=.returned (.bool (V.same xs[j] ys[j]))∧Below w'.1.size w' w'') :=
    fun w' hb=>HIH.out _ (List.getElem_mem hlt) ys[j] w' _ _ (hvx.on hb) (hvy.on hb)
   have HAll:=vQ HL.out.2
   have hj1:(j:Int)<(xs.length:Int):=by omega
   have hj2:(j:Int)<(ys.length:Int):=by omega
   obtain⟨r,hr⟩:∃r,r=V.same xs[j] ys[j]:=⟨_,rfl⟩
   rw[<-hr] at HC
   have HRr:=vQ hr
   obtain⟨wa,hwa⟩:∃wa,wa=wr.alloc (.cells #[.int .i64 kx,.int .i64 ix,.float .f64 fx,.string tx,.slice qx nx cx] 87):=⟨_,rfl⟩
   have HBa:Hid (Below wr.1.size wr wa):=by rw[hwa];exact vY
   have HBw:Hid (Below w.1.size w wa):=hbw.trans (HBa.out.mono hbw.size)
   have HBW:Hid (Below W0.1.size W0 wa):=HL.out.1.trans (HBa.out.mono HL.out.1.size)
   have HWa:=vQ hwa
   have HY4:Hid (wa.cell? ⟨w.1.size+1,4,none⟩=some (.slice (some ⟨by',oy,none⟩) ys.length d)):=ab HBW.out Y4.out
   have HBs:Hid (wa.cell? ⟨by',oy+j*5,none⟩=some (.int .i64 ky)∧wa.cell? ⟨by',oy+j*5+1,none⟩=some (.int .i64 iy)∧wa.cell? ⟨by',oy+j*5+2,none⟩=some (.float .f64 fy)∧wa.cell? ⟨by',oy+j*5+3,none⟩=some (.string ty)∧wa.cell? ⟨by',oy+j*5+4,none⟩=some (.slice qy ny cy)) :=
    ⟨ab HBa.out b0,ab HBa.out b1,ab HBa.out b2,ab HBa.out b3,ab HBa.out b4⟩
   have HAs:Hid (wa.cell? ⟨wr.1.size,0,none⟩=some (.int .i64 kx)∧wa.cell? ⟨wr.1.size,1,none⟩=some (.int .i64 ix)∧wa.cell? ⟨wr.1.size,2,none⟩=some (.float .f64 fx)∧wa.cell? ⟨wr.1.size,3,none⟩=some (.string tx)∧wa.cell? ⟨wr.1.size,4,none⟩=some (.slice qx nx cx)):=by rw[hwa];exact⟨by simp,by simp,by simp,by simp,by simp⟩
   clear hvx hvy hix hiy hbw HL hr hwa b0 b1 b2 b3 b4
   go_wp2_with fail
   rw[<-HWa.out]
   obtain⟨c0,c1,c2,c3,c4⟩:=HAs.out
   obtain⟨d0,d1,d2,d3,d4⟩:=HBs.out
   have d5:=HY4.out
   clear HAs HBs HY4 HWa a0 a1 a2 a3 a4
   go_region_held3 (fun w'=>w'.cell? ⟨wr.1.size,0,none⟩=some (.int .i64 kx)∧w'.cell? ⟨wr.1.size,1,none⟩=some (.int .i64 ix)∧w'.cell? ⟨wr.1.size,2,none⟩=some (.float .f64 fx)∧w'.cell? ⟨wr.1.size,3,none⟩=some (.string tx)∧w'.cell? ⟨wr.1.size,4,none⟩=some (.slice qx nx cx)∧w'.cell? ⟨by',oy+j*5,none⟩=some (.int .i64 ky)∧w'.cell? ⟨by',oy+j*5+1,none⟩=some (.int .i64 iy)∧w'.cell? ⟨by',oy+j*5+2,none⟩=some (.float .f64 fy)∧w'.cell? ⟨by',oy+j*5+3,none⟩=some (.string ty)∧w'.cell? ⟨by',oy+j*5+4,none⟩=some (.slice qy ny cy)∧w'.cell? ⟨w.1.size+1,4,none⟩=some (.slice (some ⟨by',oy,none⟩) ys.length d)) (go_keep) (first
    | (go_at_call 121;refine(HC.out _ (below_drewN HBw.out _)).mono ?_;rintro e w4 ⟨rfl,hb4⟩;have hb5:=cf (w:=wa) hb4 (by rfl) (by rfl) (by rfl) (by rfl);have z3:=ab hb5 c0;have z4:=ab hb5 c1;have z5:=ab hb5 c2;have z6:=ab hb5 c3;have z7:=ab hb5 c4;have z8:=ab hb5 d0;have z9:=ab hb5 d1;have z10:=ab hb5 d2;have z11:=ab hb5 d3;have z12:=ab hb5 d4;have z13:=ab hb5 d5;have HB4:=vQ hb5;clear hb4 hb5))
   clear z3 z4 z5 z6 z7 z8 z9 z10 z11 z12 z13 c0 c1 c2 c3 c4 d0 d1 d2 d3 d4 d5
   cases r with
   |true=>
    have HN:Hid (Below W0.1.size W0 w4∧∀m (h1:m<xs.length) (h2:m<ys.length),m<j+1->V.same xs[m] ys[m]=true):=by
     refine⟨HBW.out.trans (HB4.out.mono HBW.out.size),fun m h1 h2 hm=>?_⟩
     by_cases hmj:m=j
     ·subst hmj;exact HRr.out.symm
     ·exact HAll.out m h1 h2 (by omega)
    clear HB4 HAll HC
    go_wp2
    go_roundw
    case rel=>exact⟨j+1,by omega,by go_num,HN⟩
    case measure=>simp[intOf];omega
   |false=>
    have HF0:Hid (V.sameL xs ys=false):=V.sameL_at xs ys j hlt hlt2 HRr.out.symm
    have HF:=vQ (HBw.out.trans (HB4.out.mono HBw.out.size))
    clear HB4 HAll HC
    go_wp2
    go_ret
    exact⟨by rw[HE.out,HF0.out];rfl,HF.out⟩
  ·have HF0:Hid (V.sameL xs ys=true):=V.sameL_all xs ys H5.out (fun m h1 h2=>HL.out.2 m h1 h2 (by omega))
   have HF:=vQ hbw
   have hjn:¬(j:Int)<(xs.length:Int):=by omega
   clear HL hbw hlt
   go_wp2
   go_ret
   exact⟨by rw[HE.out,HF0.out];rfl,HF.out⟩
end
end Go.Proofs.YtlgfdgdlaahpfaaGreatDoor

import Derived.Test.YtllbniljgcgbeaaGreatDoorB14
import Derived.Lib.ItoaLen
set_option maxRecDepth 100000
set_option maxHeartbeats 2000000
namespace Go.Proofs.YtllbniljgcgbeaaGreatDoor
section
open Go.RowKit
def kV:ByteArray:=⟨#[48,49,50,51,52,53,54,55,56,57,97,98,99,100,101,102]⟩
theorem ri:∀n:Fin 16,kV.extract n.val (n.val+1)=⟨#[Hex.hexd n.val]⟩:=by decide +kernel
theorem fA(n:Nat)(h:n<16)(w:World):
  (Instr.slice 9 (.string ⟨#[48,49,50,51,52,53,54,55,56,57,97,98,99,100,101,102]⟩) (some (.int .i64 (n:Int))) (some (.int .i64 ((n:Int)+1))) none).run Tryz.prog w=.ok (.string ⟨#[Hex.hexd n]⟩) w:=by
 have h1:=run_slice_string (P:=Tryz.prog) w 9 ⟨#[48,49,50,51,52,53,54,55,56,57,97,98,99,100,101,102]⟩ .i64 .i64 (n:Int) ((n:Int)+1) Tryz.underlying9 (by omega) (by omega) (by show(n:Int)+1<=16;omega)
 rw[h1]
 have h2:=ri ⟨n,h⟩
 simp only at h2
 have e1:((n:Int)).toNat=n:=by omega
 have e2:((n:Int)+1).toNat=n+1:=by omega
 rw[e1,e2]
 exact congrArg (fun b=>Result.ok (Value.string b) w) h2
theorem db(c:UInt8)(l:L8):(ByteArray.mk #[c]++ByteArray.mk l.toArray)=ByteArray.mk (c::l).toArray:=by
 rw[show(#[c]:Array UInt8)=([c]:L8).toArray from rfl,ByteArray.mk_append_mk];rfl
theorem ow(u:Nat)(hu:u<18446744073709551616)(w:World):
  Calls Tryz.prog 135 #[.int .u64 u] w fun e w'=>e=.returned (.string ⟨(120::Hex.digits u 16).toArray⟩)∧w'=w:=by
 go_enter Tryz.func135,Tryz.ntmps135
 go_wp2
 go_loop [0,3,4] (fun b s i=>∃k v:Nat,k<=16∧i=.int .i64 k∧b=.int .u64 v∧Hid (v=u / 16 ^ k)∧s=.string ⟨(Hex.digits u k).toArray⟩) (fun _ _ i=>16-(intOf i).toNat)
 case atStart=>exact⟨0,u,by omega,rfl,rfl,by show u=_;simp,rfl⟩
 case round=>
  obtain⟨k,v,hk,rfl,rfl,HV,rfl⟩:=hrel
  have hl:=Hex.digits_length u k
  have hv64:v<18446744073709551616:=by have:=HV.out;have:=Nat.div_le_self u (16 ^ k);omega
  by_cases hlt:k<16
  ·have hsl:∀w,(Instr.slice 9 (.string ⟨#[48,49,50,51,52,53,54,55,56,57,97,98,99,100,101,102]⟩) (some (.int .i64 ((v:Int) % 16))) (some (.int .i64 ((v:Int) % 16+1))) none).run Tryz.prog w=.ok (.string ⟨#[Hex.hexd (v % 16)]⟩) w:=fun w=>by
    have:=fA (v % 16) (by omega) w
    simpa using this
   go_wp2
   go_round
   case rel=>
    refine⟨k+1,v / 16,by omega,by go_num,by go_num,?_,?_⟩
    ·show v / 16=_
     rw[HV.out,Nat.pow_succ,<-Nat.div_div_eq_div_mul]
    ·rw[db]
     have e:Hex.digits u (k+1)=Hex.hexd (v % 16)::Hex.digits u k:=by
      rw[HV.out];rfl
     rw[e]
   case measure=>simp[intOf];omega
  ·have hk16:k=16:=by omega
   subst hk16
   clear hlt hk
   go_wp2
   go_ret
   exact⟨congrArg (fun b=>Ending.returned (Value.string b)) (db _ _),rfl⟩
theorem eY(n:Nat)(h:n<10):Hex.hexd n=UInt8.ofNat (48+n):=by unfold Hex.hexd;rw[if_pos h]
theorem fN(u:Nat)(hu:u<=9007199254740992)(w:World):
  Calls Tryz.prog 134 #[.int .i64 u] w fun e w'=>e=.returned (.string ⟨(Lib.decDigits u).toArray⟩)∧w'=w:=by
 go_enter Tryz.func134,Tryz.ntmps134
 go_wp2
 go_loop [0,3] (fun n s=>∃(v:Nat) (d:L8),d.length+v<=u∧n=.int .i64 v∧Hid (Lib.decDigits u=Lib.decDigits v++d)∧s=.string ⟨d.toArray⟩) (fun n _=>(intOf n).toNat)
 case atStart=>exact⟨u,[],by simp,rfl,by show _=_;simp,rfl⟩
 case round=>
  obtain⟨v,d,hd,rfl,HD,rfl⟩:=hrel
  by_cases hlt:9<v
  ·have hsl:∀w,(Instr.slice 9 (.string ⟨#[48,49,50,51,52,53,54,55,56,57,97,98,99,100,101,102]⟩) (some (.int .i64 ((v:Int) % 10))) (some (.int .i64 ((v:Int) % 10+1))) none).run Tryz.prog w=.ok (.string ⟨#[Hex.hexd (v % 10)]⟩) w:=fun w=>by
    have:=fA (v % 10) (by omega) w
    simpa using this
   go_wp2
   go_round
   case rel=>
    refine⟨v / 10,Hex.hexd (v % 10)::d,by simp;omega,by go_num,?_,?_⟩
    ·show _=_
     rw[HD.out,Lib.decDigits,dif_neg (by omega),eY _ (by omega)]
     simp
    ·rw[db]
   case measure=>simp[intOf];omega
  ·have hsl:∀w,(Instr.slice 9 (.string ⟨#[48,49,50,51,52,53,54,55,56,57,97,98,99,100,101,102]⟩) (some (.int .i64 (v:Int))) (some (.int .i64 ((v:Int)+1))) none).run Tryz.prog w=.ok (.string ⟨#[Hex.hexd v]⟩) w:=fun w=>fA v (by omega) w
   go_wp2
   go_ret
   refine⟨?_,rfl⟩
   have e:Lib.decDigits u=Hex.hexd v::d:=by
    rw[HD.out,Lib.decDigits,dif_pos (by omega),eY _ (by omega)];rfl
   rw[e]
   exact congrArg (fun b=>Ending.returned (Value.string b)) (db _ _)
end
section
open Go.RowKit
namespace Flt
open Ieee
theorem units_53:units 4845873199050653696=9007199254740992*one:=by
 have:=units_full 4503599627370496 1075 (by omega) (by omega)
 rw[show 1075*4503599627370496+4503599627370496=4845873199050653696 by omega] at this
 rw[this]
 unfold one
 rw[show(1075:Nat)=1+bias from rfl,Nat.pow_add,<-Nat.mul_assoc]
theorem sg_53:sg 4845873199050653696=9007199254740992*(one:Int):=by
 unfold sg
 rw[show neg 4845873199050653696=false by decide,show rung 4845873199050653696=4845873199050653696 by decide,units_53]
 simp
theorem sg_m53:sg 14069245235905429504=-(9007199254740992*(one:Int)):=by
 unfold sg
 rw[show neg 14069245235905429504=true by decide,show rung 14069245235905429504=4845873199050653696 by decide,units_53]
 simp
theorem in53_fin{x:Nat}(h1:(double.order x 14069245235905429504==some .gt)=true)(h2:(double.order x 4845873199050653696==some .lt)=true):rung x<9218868437227405312:=by
 rcases Nat.lt_trichotomy (rung x) 9218868437227405312 with h | h | h
 ·exact h
 ·exfalso
  unfold Format.order at h1 h2
  rw[read_inf h,read_fin (x:=14069245235905429504) (by decide)] at h1
  rw[read_inf h,read_fin (x:=4845873199050653696) (by decide)] at h2
  cases hn:neg x <;> simp[hn,Datum.order] at h1 h2
 ·exfalso
  unfold Format.order at h1
  rw[read_nan h] at h1
  simp[Datum.order] at h1
theorem in53_sg{x:Nat}(hf:rung x<9218868437227405312):((double.order x 14069245235905429504==some .gt)=true∧(double.order x 4845873199050653696==some .lt)=true)↔(-(9007199254740992*(one:Int))<sg x∧sg x<9007199254740992*(one:Int)):=by
 rw[order_fin hf (by decide),order_fin hf (by decide),sg_53,sg_m53]
 simp only[beq_iff_eq,Option.some.injEq,Int.compare_eq_gt,Int.compare_eq_lt]
theorem inR_of_sg{x:Nat}(hf:rung x<9218868437227405312)(h1:-(9007199254740992*(one:Int))<sg x)(h2:sg x<9007199254740992*(one:Int)):inR x=true:=by
 have hp:(0:Int)<(one:Int):=by have:=one_pos;omega
 unfold inR
 rw[order_fin (by decide) hf,order_fin hf (by decide),sg_63,sg_m63]
 have c1:-(9223372036854775808*(one:Int))<sg x:=by omega
 have c2:sg x<9223372036854775808*(one:Int):=by omega
 rw[Int.compare_eq_lt.2 c1,Int.compare_eq_lt.2 c2]
 rfl
theorem sg_whole{x:Nat}(hw:whole x=true):sg x=trunc x*(one:Int):=by
 have hm:units (rung x) % one=0:=by simpa[whole] using hw
 have hu:units (rung x)=units (rung x) / one*one:=by
  have:=Nat.div_add_mod (units (rung x)) one
  rw[hm,Nat.mul_comm] at this
  omega
 unfold sg trunc
 generalize units (rung x) / one=q at hu
 rw[hu]
 split <;> simp[Int.neg_mul]
theorem whole_swap{x:Nat}(hf:rung x<9218868437227405312):(double.order x (floatOfInt .f64 (trunc x))==some .eq)=whole x:=by
 rw[<-back_whole hf,order_swap (floatOfInt .f64 (trunc x)) x]
 cases double.order (floatOfInt .f64 (trunc x)) x with
 |none=>rfl
 |some o=>cases o <;> rfl
end Flt
theorem ob(x:Nat)(hn:bk x=false)(hz:x≠9223372036854775808):
  ((FloatKind.f64.format.order x 14069245235905429504==some .gt)=false∧bK x=false) ∨
  ((FloatKind.f64.format.order x 14069245235905429504==some .gt)=true∧(FloatKind.f64.format.order x 4845873199050653696==some .lt)=false∧bK x=false) ∨
  ((FloatKind.f64.format.order x 14069245235905429504==some .gt)=true∧(FloatKind.f64.format.order x 4845873199050653696==some .lt)=true∧floatToIntVal .f64 x .i64=some (Flt.trunc x)∧(FloatKind.f64.format.order x (floatOfInt .f64 (Flt.trunc x))==some .eq)=false∧bK x=false) ∨
  ((FloatKind.f64.format.order x 14069245235905429504==some .gt)=true∧(FloatKind.f64.format.order x 4845873199050653696==some .lt)=true∧floatToIntVal .f64 x .i64=some (Flt.trunc x)∧(FloatKind.f64.format.order x (floatOfInt .f64 (Flt.trunc x))==some .eq)=true∧bK x=true):=by
 have hp:(0:Int)<(Flt.one:Int):=by have:=Flt.one_pos;omega
 have hfix:ak x=x:=bX hn
 have hmz:((ak x:Int)==9223372036854775808)=false:=by rw[hfix,beq_eq_false_iff_ne];omega
 -- bK asks both bounds
 have hdec:bK x=true->(FloatKind.f64.format.order x 14069245235905429504==some .gt)=true∧(FloatKind.f64.format.order x 4845873199050653696==some .lt)=true:=by
  intro hd
  unfold bK okB at hd
  simp only[Bool.and_eq_true,Bool.not_eq_true',decide_eq_true_eq] at hd
  obtain⟨⟨⟨⟨hr,_⟩,hw⟩,h1⟩,h2⟩:=hd
  refine(Flt.in53_sg (Flt.inR_fin hr)).2 ?_
  rw[Flt.sg_whole hw,<-Int.neg_mul]
  exact⟨Int.mul_lt_mul_of_pos_right h1 hp,Int.mul_lt_mul_of_pos_right h2 hp⟩
 cases h1:(FloatKind.f64.format.order x 14069245235905429504==some .gt)
 ·refine .inl ⟨rfl,?_⟩
  cases hd:bK x
  ·rfl
  ·have:=(hdec hd).1;rw[h1] at this;cases this
 ·cases h2:(FloatKind.f64.format.order x 4845873199050653696==some .lt)
  ·refine .inr (.inl ⟨rfl,rfl,?_⟩)
   cases hd:bK x
   ·rfl
   ·have:=(hdec hd).2;rw[h2] at this;cases this
  ·have hf:=Flt.in53_fin h1 h2
   obtain⟨s1,s2⟩:=(Flt.in53_sg hf).1 ⟨h1,h2⟩
   have hr:=Flt.inR_of_sg hf s1 s2
   have hv:=Flt.toInt_val hr
   have hs:(FloatKind.f64.format.order x (floatOfInt .f64 (Flt.trunc x))==some .eq)=Flt.whole x:=Flt.whole_swap hf
   cases hw:Flt.whole x
   ·refine .inr (.inr (.inl ⟨rfl,rfl,hv,by rw[hs,hw],?_⟩))
    simp[bK,okB,hw]
   ·refine .inr (.inr (.inr ⟨rfl,rfl,hv,by rw[hs,hw],?_⟩))
    rw[Flt.sg_whole hw,<-Int.neg_mul] at s1
    rw[Flt.sg_whole hw] at s2
    have t1:=Int.lt_of_mul_lt_mul_right s1 (Int.le_of_lt hp)
    have t2:=Int.lt_of_mul_lt_mul_right s2 (Int.le_of_lt hp)
    simp[bK,okB,hw,hr,hmz,t1,t2]
theorem kG:bk 9221120237041090560=true:=by kernel_rfl
theorem fG(x:Nat)(n:Int)(w:World)(h:floatToIntVal .f64 x .i64=some n):(convert 33 3 (.float .f64 x)).run Tryz.prog w=.ok (.int .i64 n) w :=
 run_convert_float_int w 33 3 .f64 .i64 x n (by rw[Tryz.underlying33];rfl) Tryz.underlying3 h
theorem jw(w:World):
  Calls Tryz.prog 89 #[.float .f64 9218868437227405312] w fun e w'=>e=.returned (.string ⟨#[105,110,102]⟩)∧w'=w:=by
 have I1:Hid (∀w,Calls Tryz.prog 67 #[.float .f64 9218868437227405312] w fun e w'=>e=.returned (.int .u64 9218868437227405312)∧w'=w):=fun w=>by
  have:=aF 9218868437227405312 w;rwa [bX jJ] at this
 go_enter Tryz.func89,Tryz.ntmps89
 go_wp2_with fail
 refine(I1.out _).mono ?_
 rintro e w' ⟨rfl,rfl⟩
 go_wp2
 go_ret
 exact⟨rfl,rfl⟩
theorem ic(w:World):
  Calls Tryz.prog 89 #[.float .f64 18442240474082181120] w fun e w'=>e=.returned (.string ⟨#[45,105,110,102]⟩)∧w'=w:=by
 have I1:Hid (∀w,Calls Tryz.prog 67 #[.float .f64 18442240474082181120] w fun e w'=>e=.returned (.int .u64 18442240474082181120)∧w'=w):=fun w=>by
  have:=aF 18442240474082181120 w;rwa [bX gF] at this
 go_enter Tryz.func89,Tryz.ntmps89
 go_wp2_with fail
 refine(I1.out _).mono ?_
 rintro e w' ⟨rfl,rfl⟩
 go_wp2
 go_ret
 exact⟨rfl,rfl⟩
theorem km(w:World):
  Calls Tryz.prog 89 #[.float .f64 9223372036854775808] w fun e w'=>e=.returned (.string ⟨#[45,48]⟩)∧w'=w:=by
 have I1:Hid (∀w,Calls Tryz.prog 67 #[.float .f64 9223372036854775808] w fun e w'=>e=.returned (.int .u64 9223372036854775808)∧w'=w):=fun w=>by
  have:=aF 9223372036854775808 w;rwa [bX jI] at this
 go_enter Tryz.func89,Tryz.ntmps89
 go_wp2_with fail
 refine(I1.out _).mono ?_
 rintro e w' ⟨rfl,rfl⟩
 go_wp2
 go_ret
 exact⟨rfl,rfl⟩
theorem jv(x:Nat)(h:bk x=true)(w:World):
  Calls Tryz.prog 89 #[.float .f64 x] w fun e w'=>e=.returned (.string ⟨#[110,97,110]⟩)∧w'=w:=by
 have I1:Hid (∀w,Calls Tryz.prog 67 #[.float .f64 x] w fun e w'=>e=.returned (.int .u64 9221120237041090560)∧w'=w):=fun w=>by
  have:=aF x w;rwa [fL h] at this
 clear h
 go_enter Tryz.func89,Tryz.ntmps89
 go_wp2_with fail
 refine(I1.out _).mono ?_
 rintro e w' ⟨rfl,rfl⟩
 go_wp2
 go_ret
 exact⟨rfl,rfl⟩
theorem mS{x:Nat}(h:bK x=true):-9007199254740992<Flt.trunc x∧Flt.trunc x<9007199254740992:=by
 obtain⟨_,_,_,_,_,_,h7,h8⟩:=eI h
 exact⟨h7,h8⟩
theorem kW(n:Int)(h0:0<=n)(h1:n<=9007199254740992)(w:World):
  Calls Tryz.prog 134 #[.int .i64 n] w fun e w'=>e=.returned (.string ⟨(Lib.itoa n).toArray⟩)∧w'=w:=by
 obtain⟨u,rfl⟩:∃u:Nat,n=(u:Int):=⟨n.toNat,by omega⟩
 rw[Lib.itoa_nonneg]
 exact fN u (by omega) w
theorem ib(x:Nat)(hx:x<18446744073709551616)(h1:bk x=false)(h2:x≠9218868437227405312)(h3:x≠18442240474082181120)(h4:x≠9223372036854775808)(w:World):
  Calls Tryz.prog 89 #[.float .f64 x] w fun e w'=>e=.returned (.string ⟨(if bK x then Lib.itoa (Flt.trunc x) else 120::Hex.digits x 16).toArray⟩)∧w'=w:=by
 have I1:Hid (∀w,Calls Tryz.prog 67 #[.float .f64 x] w fun e w'=>e=.returned (.int .u64 (x:Int))∧w'=w):=fun w=>by
  have:=aF x w;rwa [bX h1] at this
 have h0:x≠9221120237041090560:=by
  rintro rfl
  rw[kG] at h1;cases h1
 have q0:((x:Int)==9221120237041090560)=false:=by rw[beq_eq_false_iff_ne];omega
 have q2:((x:Int)==9218868437227405312)=false:=by rw[beq_eq_false_iff_ne];omega
 have q3:((x:Int)==18442240474082181120)=false:=by rw[beq_eq_false_iff_ne];omega
 have q4:((x:Int)==9223372036854775808)=false:=by rw[beq_eq_false_iff_ne];omega
 have hc:=ob x h1 h4
 have IW:=tQ (ow x hx)
 clear h0 h1 h2 h3 h4
 rcases hc with ⟨c1,cd⟩ | ⟨c1,c2,cd⟩ | ⟨c1,c2,c3,c4,cd⟩ | ⟨c1,c2,c3,c4,cd⟩
 ·rw[if_neg (by rw[cd];simp)]
  clear cd hx
  go_enter Tryz.func89,Tryz.ntmps89
  go_wp2_with fail
  refine(I1.out _).mono ?_
  rintro e w' ⟨rfl,rfl⟩
  go_wp2_with fail
  refine(IW.out _).mono ?_
  rintro e w' ⟨rfl,rfl⟩
  go_wp2
  go_ret
  exact⟨rfl,rfl⟩
 ·rw[if_neg (by rw[cd];simp)]
  clear cd hx
  go_enter Tryz.func89,Tryz.ntmps89
  go_wp2_with fail
  refine(I1.out _).mono ?_
  rintro e w' ⟨rfl,rfl⟩
  go_wp2_with fail
  refine(IW.out _).mono ?_
  rintro e w' ⟨rfl,rfl⟩
  go_wp2
  go_ret
  exact⟨rfl,rfl⟩
 ·rw[if_neg (by rw[cd];simp)]
  have hcv:∀w,(convert 33 3 (.float .f64 x)).run Tryz.prog w=.ok (.int .i64 (Flt.trunc x)) w:=fun w=>fG x _ w c3
  clear cd hx c3
  go_enter Tryz.func89,Tryz.ntmps89
  go_wp2_with fail
  refine(I1.out _).mono ?_
  rintro e w' ⟨rfl,rfl⟩
  go_wp2_with fail
  refine(IW.out _).mono ?_
  rintro e w' ⟨rfl,rfl⟩
  go_wp2
  go_ret
  exact⟨rfl,rfl⟩
 ·rw[if_pos cd]
  obtain⟨t1,t2⟩:=mS cd
  have hcv:∀w,(convert 33 3 (.float .f64 x)).run Tryz.prog w=.ok (.int .i64 (Flt.trunc x)) w:=fun w=>fG x _ w c3
  clear cd hx c3 IW
  generalize hn:Flt.trunc x=n at *
  clear hn
  by_cases hneg:n<0
  ·obtain⟨u,rfl⟩:∃u:Nat,n=-(u:Int):=⟨n.natAbs,by omega⟩
   have hl:(Lib.decDigits u).length<=21:=by
    have:=Lib.itoa_length_le (-(u:Int)) (by omega) (by omega)
    rw[Lib.itoa_neg u (by omega)] at this
    simp at this;omega
   have hit:Lib.itoa (-(u:Int))=45::Lib.decDigits u:=Lib.itoa_neg u (by omega)
   rw[hit]
   clear hit
   go_enter Tryz.func89,Tryz.ntmps89
   go_wp2_with fail
   refine(I1.out _).mono ?_
   rintro e w' ⟨rfl,rfl⟩
   go_wp2_with fail
   refine(fN u (by omega) _).mono ?_
   rintro e w' ⟨rfl,rfl⟩
   go_wp2
   go_ret
   exact⟨congrArg (fun b=>Ending.returned (Value.string b)) (db _ _),rfl⟩
  ·have ID:=tQ (kW n (by omega) (by omega))
   clear t1 t2
   go_enter Tryz.func89,Tryz.ntmps89
   go_wp2_with fail
   refine(I1.out _).mono ?_
   rintro e w' ⟨rfl,rfl⟩
   go_wp2_with fail
   refine(ID.out _).mono ?_
   rintro e w' ⟨rfl,rfl⟩
   go_wp2
   go_ret
   exact⟨rfl,rfl⟩
theorem bJ(x:Nat)(hx:x<18446744073709551616)(w:World):
  Calls Tryz.prog 89 #[.float .f64 x] w fun e w'=>e=.returned (.string ⟨(text x).toArray⟩)∧w'=w:=by
 unfold text
 cases h1:bk x
 ·by_cases h2:x=9218868437227405312
  ·subst h2;exact jw w
  ·by_cases h3:x=18442240474082181120
   ·subst h3;exact ic w
   ·by_cases h4:x=9223372036854775808
    ·subst h4;exact km w
    ·simp only[h2,h3,h4,Bool.false_eq_true,if_false]
     exact ib x hx h1 h2 h3 h4 w
 ·exact jv x h1 w
end
end Go.Proofs.YtllbniljgcgbeaaGreatDoor

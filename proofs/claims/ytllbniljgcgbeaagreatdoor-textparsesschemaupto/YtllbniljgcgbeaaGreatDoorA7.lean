import Derived.Test.YtllbniljgcgbeaaGreatDoorA6
import Derived.Lib.IndexBytes
import Derived.Test.YtllbniljgcgbeaaGreatDoorA18
set_option maxRecDepth 100000
set_option maxHeartbeats 4000000
namespace Go.Proofs.YtllbniljgcgbeaaGreatDoor
section
open Go.RowKit
def bw(c:UInt8)(base:Nat):Option Nat:=(List.range base).find? fun i=>Hex.hexd i==c
theorem l9:∀n:Fin 16,kV.data.toList.getD n.val 0=Hex.hexd n.val:=by decide
theorem nR(n:Nat)(h:n<16)(w:World):
  (Instr.index 9 (.string ⟨#[48,49,50,51,52,53,54,55,56,57,97,98,99,100,101,102]⟩) (.int .i64 (n:Int))).run Tryz.prog w=.ok (.int .u8 ((Hex.hexd n).toNat:Int)) w:=by
 have hsz:kV.size=16:=by decide
 have h1:=run_index_string (P:=Tryz.prog) w 9 kV .i64 (n:Int) Tryz.underlying9
 rw[dif_pos ⟨by omega,by rw[hsz];omega⟩] at h1
 have e:((n:Int)).toNat=n:=by omega
 simp only[e] at h1
 rw[Lib.getD_at kV n (by rw[hsz];exact h),l9 ⟨n,h⟩] at h1
 exact h1
theorem nX(c:UInt8)(k:Nat)(h:∀i,i<k->Hex.hexd i≠c)(n:Nat)(hn:n=k)(he:Hex.hexd n=c)(base:Nat)(hb:k<base):bw c base=some k:=by
 subst hn
 unfold bw
 rw[List.find?_range_eq_some]
 refine⟨by simpa using he,by simpa using hb,fun j hj=>?_⟩
 simpa using h j hj
theorem nY(c:UInt8)(base:Nat)(h:∀i,i<base->Hex.hexd i≠c):bw c base=none:=by
 unfold bw
 rw[List.find?_eq_none]
 intro i hi
 simpa using h i (by simpa using hi)
def ep(c:UInt8)(base:Nat):Int:=match bw c base with | some n=>(n:Int) | none=>-1
theorem dG{c:UInt8}{base n:Nat}(h:bw c base=some n):ep c base=(n:Int):=by unfold ep;rw[h]
theorem dH{c:UInt8}{base:Nat}(h:bw c base=none):ep c base=-1:=by unfold ep;rw[h]
theorem iL(c:UInt8)(base:Nat)(hbase:base<=16)(w:World):
  Calls Tryz.prog 162 #[.int .u8 (c.toNat:Int),.int .i64 (base:Int)] w fun e w'=>e=.returned (.int .i64 (ep c base))∧w'=w:=by
 go_enter Tryz.func162,Tryz.ntmps162
 go_wp2
 go_loop [5] (fun vi=>∃k:Nat,k<=base∧vi=.int .i64 k∧Hid (∀i,i<k->Hex.hexd i≠c)) (fun vi=>base-(intOf vi).toNat)
 case atStart=>exact⟨0,by omega,rfl,fun i hi=>by omega⟩
 case round=>
  obtain⟨k,hk,rfl,HK⟩:=hrel
  by_cases hlt:k<base
  ·have hX:=fun w=>nR k (by omega) w
   have hc0:(c.toNat:Int)<256:=by have:=c.toNat_lt;omega
   by_cases he:Hex.hexd k=c
   ·have HF:=tQ (dG (nX c k HK.out k rfl he base hlt))
    subst he
    go_wp2
    go_ret
    exact⟨by rw[HF.out];rfl,rfl⟩
   ·have hb:(((Hex.hexd k).toNat:Int)==(c.toNat:Int))=false:=by
     rw[beq_eq_false_iff_ne]
     intro hc
     apply he
     apply UInt8.toNat_inj.1
     omega
    have HK2:Hid (∀i,i<k+1->Hex.hexd i≠c):=fun i hi=>by
     by_cases e:i=k
     ·subst e;exact he
     ·exact HK.out i (by omega)
    clear he
    go_wp2
    go_round
    case rel=>exact⟨k+1,by omega,by go_num,HK2⟩
    case measure=>simp[intOf];omega
  ·have hkb:k=base:=by omega
   subst hkb
   have HF:=tQ (dH (nY c k HK.out))
   go_wp2
   go_ret
   exact⟨by rw[HF.out];rfl,rfl⟩
def aX(base:Nat):Nat->L8->Nat
 |acc,[]=>acc
 |acc,c::r=>match bw c base with | none=>0 | some d=>aX base (acc*base+d) r
def aM(base:Nat)(l:L8):Nat:=if 16<l.length then 0 else aX base 0 l
theorem fi{c:UInt8}{base d:Nat}(h:bw c base=some d):d<base:=by
 unfold bw at h
 have:=List.mem_of_find?_eq_some h
 simpa using this
theorem jo:∀n:Fin 16,bw (Hex.hexd n.val) 16=some n.val:=by decide
theorem eL:∀n:Fin 10,bw (Hex.hexd n.val) 10=some n.val:=by decide
theorem kt(u:Nat):∀k,aX 16 (u / 16 ^ k) (Hex.digits u k)=u
 |0=>by simp[Hex.digits,aX]
 |k+1=>by
  have h:=jo ⟨u / 16 ^ k % 16,Nat.mod_lt _ (by omega)⟩
  simp only[Hex.digits,aX,Hex.at_]
  simp only at h
  rw[h]
  have e:u / 16 ^ (k+1)*16+u / 16 ^ k % 16=u / 16 ^ k:=by
   rw[Nat.pow_succ,<-Nat.div_div_eq_div_mul];omega
  simp only[e]
  exact kt u k
theorem nt(u:Nat)(hu:u<18446744073709551616):aM 16 (Hex.digits u 16)=u:=by
 unfold aM
 rw[Hex.digits_length,if_neg (by omega)]
 have:=kt u 16
 have e:(16:Nat) ^ 16=18446744073709551616:=by decide
 rw[e,Nat.div_eq_of_lt hu] at this
 exact this
theorem oV(u:Nat):∀r,aX 10 0 (Lib.decDigits u++r)=aX 10 u r:=by
 induction u using Nat.strongRecOn with
 |ind u ih=>
  intro r
  rw[Lib.decDigits]
  by_cases h:u<10
  ·have hw:=eL ⟨u,h⟩
   simp only at hw
   rw[eY u h] at hw
   rw[dif_pos h]
   simp only[List.cons_append,List.nil_append,aX,hw]
   congr 1;omega
  ·have hw:=eL ⟨u % 10,Nat.mod_lt _ (by omega)⟩
   simp only at hw
   rw[eY (u % 10) (by omega)] at hw
   rw[dif_neg h,List.append_assoc,ih (u / 10) (by omega)]
   simp only[List.cons_append,List.nil_append,aX,hw]
   congr 1;omega
theorem gG:∀(k u:Nat),1<=k->u<10 ^ k->Lib.nDigits u<=k
 |0,_,h,_=>by omega
 |k+1,u,_,h=>by
  by_cases hs:u<10
  ·rw[Lib.nDigits_small hs];omega
  ·rw[Lib.nDigits_big hs]
   have hk:1<=k:=by
    rcases k with _ | k
    ·simp at h;omega
    ·omega
   have:=gG k (u / 10) hk (by rw[Nat.pow_succ] at h;omega)
   omega
theorem rj(u:Nat)(h:u<9007199254740992):(Lib.decDigits u).length<=16:=by
 rw[Lib.decDigits_length]
 have h1:u<10 ^ 16:=by
  have e:(10:Nat) ^ 16=10000000000000000:=by decide
  omega
 exact gG 16 u (by omega) h1
theorem dZ(u:Nat)(h:u<9007199254740992):aM 10 (Lib.decDigits u)=u:=by
 unfold aM
 have hl:=rj u h
 rw[if_neg (by omega)]
 have:=oV u []
 rw[List.append_nil] at this
 exact this
theorem ov(c:UInt8)(w:World):
  Calls Tryz.prog 162 #[.int .u8 (c.toNat:Int),.int .i64 10] w fun e w'=>e=.returned (.int .i64 (ep c 10))∧w'=w:=iL c 10 (by omega) w
theorem eS(s:ByteArray)(hmax:s.size<=281474976710656)(w:World):
  Calls Tryz.prog 133 #[.string s,.int .i64 10] w fun e w'=>e=.returned (.int .u64 (aM 10 s.data.toList:Nat))∧w'=w:=by
 by_cases hlen:16<s.size
 ·have e:aM 10 s.data.toList=0:=by
   unfold aM;rw[if_pos (by rw[<-Lib.size_eq];exact hlen)]
  rw[e]
  clear e
  go_enter Tryz.func133,Tryz.ntmps133
  go_wp2
  go_ret
  exact⟨rfl,rfl⟩
 ·have e:aM 10 s.data.toList=aX 10 0 s.data.toList:=by
   unfold aM;rw[if_neg (by rw[<-Lib.size_eq];exact hlen)]
  rw[e]
  clear e
  obtain⟨R,hR⟩:∃R,R=aX 10 0 s.data.toList:=⟨_,rfl⟩
  rw[<-hR]
  have HR:=tQ hR
  clear hR
  go_enter Tryz.func133,Tryz.ntmps133
  go_wp2
  go_loop [5,6] (fun vn vi=>∃(k acc:Nat) (a:Int),k<=s.size∧vi=.int .i64 k∧vn=.int .u64 a∧Hid (a=(acc:Int)∧acc<16 ^ k∧R=aX 10 acc (s.data.toList.drop k))) (fun _ vi=>s.size-(intOf vi).toNat)
  case atStart=>exact⟨0,0,0,by omega,rfl,rfl,rfl,by simp,HR.out⟩
  case round=>
   obtain⟨k,acc,a,hk,rfl,rfl,HA⟩:=hrel
   obtain⟨ha,hacc,hrd⟩:=HA.out
   clear HA
   by_cases hlt:k<s.size
   ·have hdrop:s.data.toList.drop k=s[k]::s.data.toList.drop (k+1):=by
     have hk2:k<s.data.toList.length:=by rw[<-Lib.size_eq];exact hlt
     rw[List.drop_eq_getElem_cons hk2];rfl
    rw[hdrop] at hrd
    have hp:16 ^ k<=16 ^ 15:=Nat.pow_le_pow_right (by omega) (by omega)
    have e15:(16:Nat) ^ 15=1152921504606846976:=by decide
    have a0:0<=a:=by omega
    have a1:a<1152921504606846976:=by omega
    have IW:=tQ (ov s[k])
    cases hw:bw s[k] 10 with
    |none=>
     have hwi:=dH hw
     have HE:Hid (R=0):=by
      show R=0
      rw[hrd];simp only[aX,hw]
     clear hw hrd hdrop ha hacc hp e15
     go_wp2_with fail
     refine(IW.out _).mono ?_
     rintro e w' ⟨rfl,rfl⟩
     go_wp2
     go_ret
     exact⟨by rw[HE.out];rfl,rfl⟩
    |some d=>
     have hwi:=dG hw
     have hd:=fi hw
     have HN:Hid (a*10+(d:Int)=((acc*10+d:Nat):Int)∧acc*10+d<16 ^ (k+1)∧R=aX 10 (acc*10+d) (s.data.toList.drop (k+1))):=by
      refine⟨by omega,by rw[Nat.pow_succ];omega,?_⟩
      rw[hrd];simp only[aX,hw]
     clear hw hrd hdrop ha hacc hp e15
     go_wp2_with fail
     refine(IW.out _).mono ?_
     rintro e w' ⟨rfl,rfl⟩
     go_wp2
     go_round
     case rel=>exact⟨k+1,acc*10+d,a*10+(d:Int),by omega,by go_num,by first | rfl | (congr 1;omega),HN⟩
     case measure=>simp[intOf];omega
   ·have hkk:k=s.size:=by omega
    subst hkk
    have HE:Hid ((R:Int)=a):=by
     show(R:Int)=a
     rw[hrd,List.drop_eq_nil_of_le (by rw[<-Lib.size_eq];exact tX)]
     simp only[aX];omega
    clear hrd hacc ha
    go_wp2
    go_ret
    exact⟨by rw[HE.out];rfl,rfl⟩
theorem ou(c:UInt8)(w:World):
  Calls Tryz.prog 162 #[.int .u8 (c.toNat:Int),.int .i64 16] w fun e w'=>e=.returned (.int .i64 (ep c 16))∧w'=w:=iL c 16 (by omega) w
theorem qA(s:ByteArray)(hmax:s.size<=281474976710656)(w:World):
  Calls Tryz.prog 133 #[.string s,.int .i64 16] w fun e w'=>e=.returned (.int .u64 (aM 16 s.data.toList:Nat))∧w'=w:=by
 by_cases hlen:16<s.size
 ·have e:aM 16 s.data.toList=0:=by
   unfold aM;rw[if_pos (by rw[<-Lib.size_eq];exact hlen)]
  rw[e]
  clear e
  go_enter Tryz.func133,Tryz.ntmps133
  go_wp2
  go_ret
  exact⟨rfl,rfl⟩
 ·have e:aM 16 s.data.toList=aX 16 0 s.data.toList:=by
   unfold aM;rw[if_neg (by rw[<-Lib.size_eq];exact hlen)]
  rw[e]
  clear e
  obtain⟨R,hR⟩:∃R,R=aX 16 0 s.data.toList:=⟨_,rfl⟩
  rw[<-hR]
  have HR:=tQ hR
  clear hR
  go_enter Tryz.func133,Tryz.ntmps133
  go_wp2
  go_loop [5,6] (fun vn vi=>∃(k acc:Nat) (a:Int),k<=s.size∧vi=.int .i64 k∧vn=.int .u64 a∧Hid (a=(acc:Int)∧acc<16 ^ k∧R=aX 16 acc (s.data.toList.drop k))) (fun _ vi=>s.size-(intOf vi).toNat)
  case atStart=>exact⟨0,0,0,by omega,rfl,rfl,rfl,by simp,HR.out⟩
  case round=>
   obtain⟨k,acc,a,hk,rfl,rfl,HA⟩:=hrel
   obtain⟨ha,hacc,hrd⟩:=HA.out
   clear HA
   by_cases hlt:k<s.size
   ·have hdrop:s.data.toList.drop k=s[k]::s.data.toList.drop (k+1):=by
     have hk2:k<s.data.toList.length:=by rw[<-Lib.size_eq];exact hlt
     rw[List.drop_eq_getElem_cons hk2];rfl
    rw[hdrop] at hrd
    have hp:16 ^ k<=16 ^ 15:=Nat.pow_le_pow_right (by omega) (by omega)
    have e15:(16:Nat) ^ 15=1152921504606846976:=by decide
    have a0:0<=a:=by omega
    have a1:a<1152921504606846976:=by omega
    have IW:=tQ (ou s[k])
    cases hw:bw s[k] 16 with
    |none=>
     have hwi:=dH hw
     have HE:Hid (R=0):=by
      show R=0
      rw[hrd];simp only[aX,hw]
     clear hw hrd hdrop ha hacc hp e15
     go_wp2_with fail
     refine(IW.out _).mono ?_
     rintro e w' ⟨rfl,rfl⟩
     go_wp2
     go_ret
     exact⟨by rw[HE.out];rfl,rfl⟩
    |some d=>
     have hwi:=dG hw
     have hd:=fi hw
     have HN:Hid (a*16+(d:Int)=((acc*16+d:Nat):Int)∧acc*16+d<16 ^ (k+1)∧R=aX 16 (acc*16+d) (s.data.toList.drop (k+1))):=by
      refine⟨by omega,by rw[Nat.pow_succ];omega,?_⟩
      rw[hrd];simp only[aX,hw]
     clear hw hrd hdrop ha hacc hp e15
     go_wp2_with fail
     refine(IW.out _).mono ?_
     rintro e w' ⟨rfl,rfl⟩
     go_wp2
     go_round
     case rel=>exact⟨k+1,acc*16+d,a*16+(d:Int),by omega,by go_num,by first | rfl | (congr 1;omega),HN⟩
     case measure=>simp[intOf];omega
   ·have hkk:k=s.size:=by omega
    subst hkk
    have HE:Hid ((R:Int)=a):=by
     show(R:Int)=a
     rw[hrd,List.drop_eq_nil_of_le (by rw[<-Lib.size_eq];exact tX)]
     simp only[aX];omega
    clear hrd hacc ha
    go_wp2
    go_ret
    exact⟨by rw[HE.out];rfl,rfl⟩
end
section
open Go.RowKit
theorem oF:text 9221120237041090560=[110,97,110]:=by
 unfold text;rw[kG];rfl
theorem oH:text 9218868437227405312=[105,110,102]:=by
 unfold text;rw[jJ];rfl
theorem mU:text 18442240474082181120=[45,105,110,102]:=by
 unfold text;rw[gF];rfl
theorem qv:text 9223372036854775808=[45,48]:=by
 unfold text;rw[jI];rfl
structure Past(l:L8)(k:Nat):Prop where
 a:0<k->l≠[110,97,110]
 b:1<k->l≠[105,110,102]
 c:2<k->l≠[45,105,110,102]
 d:3<k->l≠[45,48]
theorem iS(w:World):Calls Tryz.prog 132 #[.int .u64 9221120237041090560] w fun e w'=>e=.returned (.float .f64 9221120237041090560)∧w'=w:=by
 have:=cU 9221120237041090560 w
 rwa [show ak (9221120237041090560:Int).toNat=9221120237041090560 by kernel_rfl] at this
theorem iT(w:World):Calls Tryz.prog 132 #[.int .u64 9218868437227405312] w fun e w'=>e=.returned (.float .f64 9218868437227405312)∧w'=w:=by
 have:=cU 9218868437227405312 w
 rwa [show ak (9218868437227405312:Int).toNat=9218868437227405312 by kernel_rfl] at this
theorem gB(w:World):Calls Tryz.prog 132 #[.int .u64 18442240474082181120] w fun e w'=>e=.returned (.float .f64 18442240474082181120)∧w'=w:=by
 have:=cU 18442240474082181120 w
 rwa [show ak (18442240474082181120:Int).toNat=18442240474082181120 by kernel_rfl] at this
theorem kp(w:World):Calls Tryz.prog 132 #[.int .u64 9223372036854775808] w fun e w'=>e=.returned (.float .f64 9223372036854775808)∧w'=w:=by
 have:=cU 9223372036854775808 w
 rwa [show ak (9223372036854775808:Int).toNat=9223372036854775808 by kernel_rfl] at this
theorem dt{s:ByteArray}{l:L8}(h:s.data.toList=l):(s.toList==l)=true:=by
 rw[Lib.toList_data,beq_iff_eq];exact h
theorem ku(base:Nat)(hb:base<=16):∀(l:L8) (acc k:Nat),acc<16 ^ k->aX base acc l<16 ^ (k+l.length)
 | [],acc,k,h=>by simpa[aX] using h
 |c::r,acc,k,h=>by
  simp only[aX]
  cases hw:bw c base with
  |none=>exact Nat.pow_pos (by omega)
  |some d=>
   have hd:=fi hw
   have h2:acc*base+d<16 ^ (k+1):=by
    rw[Nat.pow_succ]
    have h3:acc*base<=acc*16:=Nat.mul_le_mul_left _ hb
    omega
   have:=ku base hb r (acc*base+d) (k+1) h2
   rw[show k+(c::r).length=k+1+r.length by simp;omega]
   exact this
theorem oW(base:Nat)(hb:base<=16)(l:L8):aM base l<18446744073709551616:=by
 unfold aM
 by_cases h:16<l.length
 ·rw[if_pos h];omega
 ·rw[if_neg h]
  have h1:=ku base hb l 0 0 (by decide)
  have h2:16 ^ (0+l.length)<=16 ^ 16:=Nat.pow_le_pow_right (by omega) (by omega)
  have e:(16:Nat) ^ 16=18446744073709551616:=by decide
  omega
namespace Flt
open Ieee
theorem word_true(R:Nat):double.word true R=9223372036854775808+R:=by
 unfold Format.word
 rw[if_pos rfl,sw]
theorem word_false(R:Nat):double.word false R=R:=by
 unfold Format.word
 rw[if_neg (by decide)]
theorem cut_even(n d:Nat):Toward.even.cut true n d=Toward.even.cut false n d:=by
 unfold Toward.cut
 rfl
theorem nearest_rung(m:Nat):∃R,R<9223372036854775808∧double.nearest true m 0=double.word true R∧double.nearest false m 0=double.word false R:=by
 by_cases h:m=0
 ·refine⟨0,by omega,?_,?_⟩ <;> (unfold Format.nearest;rw[if_pos h])
 ·refine⟨min ((max ((0:Int)+m.log2-double.fractionBits) double.leastPlace-double.leastPlace).toNat*double.binade+Toward.even.cut false (m <<< ((0:Int)-max ((0:Int)+m.log2-double.fractionBits) double.leastPlace).toNat) (max ((0:Int)+m.log2-double.fractionBits) double.leastPlace-0).toNat) double.infRung,?_,?_,?_⟩
  ·have h2:double.infRung<9223372036854775808:=by rw[inf];omega
   exact Nat.lt_of_le_of_lt (Nat.min_le_right _ _) h2
  ·unfold Format.nearest;rw[if_neg h];simp only[cut_even]
  ·unfold Format.nearest;rw[if_neg h]
theorem nearest_neg(m:Nat):double.nearest true m 0=9223372036854775808+double.nearest false m 0∧double.nearest false m 0<9223372036854775808:=by
 obtain⟨R,h1,h2,h3⟩:=nearest_rung m
 rw[h2,h3,word_true,word_false]
 exact⟨rfl,h1⟩
theorem neg_ofInt(u:Nat)(h:1<=u):Op.negFloat .f64 (floatOfInt .f64 (u:Int))=floatOfInt .f64 (-(u:Int)):=by
 obtain⟨h1,h2⟩:=nearest_neg u
 have e1:floatOfInt .f64 (u:Int)=double.nearest false u 0:=by
  rw[ofInt_eq,show decide ((u:Int)<0)=false by simp];rfl
 have e2:floatOfInt .f64 (-(u:Int))=double.nearest true u 0:=by
  rw[ofInt_eq,show decide (-(u:Int)<0)=true by simp;omega,show(-(u:Int)).natAbs=u by omega]
 rw[e1,e2,h1,neg_eq (by omega),if_pos h2]
end Flt
theorem pt(n:Int):Op.negFloat .f64 (floatOfInt .f64 n)<18446744073709551616:=by
 have h:=dL n
 rw[Flt.neg_eq h]
 split <;> omega
theorem gp(s:ByteArray)(c:UInt8)(r:L8)(h:s.data.toList=c::r):(s.extract 1 s.size).data.toList=r∧(s.extract 1 s.size).size<=s.size:=by
 have h1:=Lib.extract_to_end s 1
 refine⟨?_,?_⟩
 ·rw[h1,h];rfl
 ·rw[Lib.size_eq,h1,Lib.size_eq,h];simp
theorem ed(s:ByteArray)(c:UInt8)(r:L8)(h:s.data.toList=c::r)(h0:0<s.size):s[0]=c:=by
 rw[Lib.getD_at s 0 h0,h];rfl
theorem jT{c d:UInt8}(h:c≠d):((c.toNat:Int)==(d.toNat:Int))=false:=by
 rw[beq_eq_false_iff_ne]
 intro hc
 exact h (UInt8.toNat_inj.1 (by omega))
theorem eW{n:Int}{r:L8}(h:Lib.itoa n=45::r)(hb:-9007199254740992<n∧n<9007199254740992):∃u:Nat,(1<=u∧n=-(u:Int))∧u<9007199254740992∧r=Lib.decDigits u:=by
 by_cases hn:n<0
 ·obtain⟨u,rfl⟩:∃u:Nat,n=-(u:Int):=⟨n.natAbs,by omega⟩
  rw[Lib.itoa_neg u (by omega)] at h
  simp at h
  exact⟨u,⟨by omega,rfl⟩,by omega,h.symm⟩
 ·exfalso
  obtain⟨u,rfl⟩:∃u:Nat,n=(u:Int):=⟨n.toNat,by omega⟩
  rw[Lib.itoa_nonneg] at h
  obtain⟨c,q,e,c1,_⟩:=Txt.dec_cons u
  rw[e] at h
  simp at h
  have:=h.1;subst this;revert c1;decide
theorem gM{n:Int}{c:UInt8}{r:L8}(h:Lib.itoa n=c::r)(hc:c≠45)(hb:-9007199254740992<n∧n<9007199254740992):∃u:Nat,n=(u:Int)∧u<9007199254740992∧Lib.itoa n=Lib.decDigits u:=by
 by_cases hn:n<0
 ·exfalso
  obtain⟨u,rfl⟩:∃u:Nat,n=-(u:Int):=⟨n.natAbs,by omega⟩
  rw[Lib.itoa_neg u (by omega)] at h
  simp at h
  exact hc h.1.symm
 ·obtain⟨u,rfl⟩:∃u:Nat,n=(u:Int):=⟨n.toNat,by omega⟩
  exact⟨u,rfl,by omega,Lib.itoa_nonneg u⟩
attribute [local go_sem] dy
theorem jz(s:ByteArray)(hmax:s.size<=281474976710656)(w:World):
  Calls Tryz.prog 88 #[.string s] w fun e w'=>∃x:Nat,e=.returned (.float .f64 x)∧x<18446744073709551616∧(∀z,z<18446744073709551616->s.data.toList=text z->x=ak z)∧Below w.1.size w w':=by
 have P0:Hid (∀w,Calls Tryz.prog 89 #[.float .f64 9221120237041090560] w fun e w'=>e=.returned (.string ⟨#[110,97,110]⟩)∧w'=w):=fun w=>by
  have:=bJ 9221120237041090560 (by omega) w;rwa [oF] at this
 have P1:Hid (∀w,Calls Tryz.prog 89 #[.float .f64 9218868437227405312] w fun e w'=>e=.returned (.string ⟨#[105,110,102]⟩)∧w'=w):=fun w=>by
  have:=bJ 9218868437227405312 (by omega) w;rwa [oH] at this
 have P2:Hid (∀w,Calls Tryz.prog 89 #[.float .f64 18442240474082181120] w fun e w'=>e=.returned (.string ⟨#[45,105,110,102]⟩)∧w'=w):=fun w=>by
  have:=bJ 18442240474082181120 (by omega) w;rwa [mU] at this
 have P3:Hid (∀w,Calls Tryz.prog 89 #[.float .f64 9223372036854775808] w fun e w'=>e=.returned (.string ⟨#[45,48]⟩)∧w'=w):=fun w=>by
  have:=bJ 9223372036854775808 (by omega) w;rwa [qv] at this
 have HBe:Hid (Below w.1.size w (w.alloc (Obj.cells #[Value.int IntKind.u64 9221120237041090560,Value.int IntKind.u64 9218868437227405312,Value.int IntKind.u64 18442240474082181120,Value.int IntKind.u64 9223372036854775808] 107))):=tY
 go_enter Tryz.func88,Tryz.ntmps88
 go_wp2
 go_loop [12] (fun vi=>∃k:Nat,k<=4∧vi=.int .i64 k∧Hid (Past s.data.toList k)) (fun vi=>4-(intOf vi).toNat)
 case atStart=>exact⟨0,by omega,rfl,⟨fun h=>by omega,fun h=>by omega,fun h=>by omega,fun h=>by omega⟩⟩
 case round=>
  obtain⟨k,hk,rfl,HP⟩:=hrel
  have hk5:k=0∨k=1∨k=2∨k=3∨k=4:=by omega
  rcases hk5 with rfl | rfl | rfl | rfl | rfl
  ·by_cases he:s.data.toList=[110,97,110]
   ·have hb:=dt he
    have HF:Hid (∀z,z<18446744073709551616->s.data.toList=text z->9221120237041090560=ak z):=fun z _ ht=>(gi (ht.symm.trans he)).symm
    clear he
    go_wp2_with fail
    refine(iS _).mono ?_
    rintro e w' ⟨rfl,rfl⟩
    go_wp2_with fail
    refine(P0.out _).mono ?_
    rintro e w' ⟨rfl,rfl⟩
    go_wp2
    go_ret
    exact⟨_,rfl,by omega,HF.out,HBe.out⟩
   ·have hb:=aU he
    have HP2:Hid (Past s.data.toList 1):=⟨fun _=>he,fun h=>by omega,fun h=>by omega,fun h=>by omega⟩
    clear he HP
    go_wp2_with fail
    refine(iS _).mono ?_
    rintro e w' ⟨rfl,rfl⟩
    go_wp2_with fail
    refine(P0.out _).mono ?_
    rintro e w' ⟨rfl,rfl⟩
    go_wp2
    go_round
    case rel=>exact⟨1,by omega,rfl,HP2⟩
    case measure=>simp[intOf]
  ·by_cases he:s.data.toList=[105,110,102]
   ·have hb:=dt he
    have HF:Hid (∀z,z<18446744073709551616->s.data.toList=text z->9218868437227405312=ak z):=fun z _ ht=>(gj (ht.symm.trans he)).symm
    clear he
    go_wp2_with fail
    refine(iT _).mono ?_
    rintro e w' ⟨rfl,rfl⟩
    go_wp2_with fail
    refine(P1.out _).mono ?_
    rintro e w' ⟨rfl,rfl⟩
    go_wp2
    go_ret
    exact⟨_,rfl,by omega,HF.out,HBe.out⟩
   ·have hb:=aU he
    have HP2:Hid (Past s.data.toList 2):=⟨fun _=>HP.out.a (by omega),fun _=>he,fun h=>by omega,fun h=>by omega⟩
    clear he HP
    go_wp2_with fail
    refine(iT _).mono ?_
    rintro e w' ⟨rfl,rfl⟩
    go_wp2_with fail
    refine(P1.out _).mono ?_
    rintro e w' ⟨rfl,rfl⟩
    go_wp2
    go_round
    case rel=>exact⟨2,by omega,rfl,HP2⟩
    case measure=>simp[intOf]
  ·by_cases he:s.data.toList=[45,105,110,102]
   ·have hb:=dt he
    have HF:Hid (∀z,z<18446744073709551616->s.data.toList=text z->18442240474082181120=ak z):=fun z _ ht=>(fj (ht.symm.trans he)).symm
    clear he
    go_wp2_with fail
    refine(gB _).mono ?_
    rintro e w' ⟨rfl,rfl⟩
    go_wp2_with fail
    refine(P2.out _).mono ?_
    rintro e w' ⟨rfl,rfl⟩
    go_wp2
    go_ret
    exact⟨_,rfl,by omega,HF.out,HBe.out⟩
   ·have hb:=aU he
    have HP2:Hid (Past s.data.toList 3):=⟨fun _=>HP.out.a (by omega),fun _=>HP.out.b (by omega),fun _=>he,fun h=>by omega⟩
    clear he HP
    go_wp2_with fail
    refine(gB _).mono ?_
    rintro e w' ⟨rfl,rfl⟩
    go_wp2_with fail
    refine(P2.out _).mono ?_
    rintro e w' ⟨rfl,rfl⟩
    go_wp2
    go_round
    case rel=>exact⟨3,by omega,rfl,HP2⟩
    case measure=>simp[intOf]
  ·by_cases he:s.data.toList=[45,48]
   ·have hb:=dt he
    have HF:Hid (∀z,z<18446744073709551616->s.data.toList=text z->9223372036854775808=ak z):=fun z _ ht=>(jp (ht.symm.trans he)).symm
    clear he
    go_wp2_with fail
    refine(kp _).mono ?_
    rintro e w' ⟨rfl,rfl⟩
    go_wp2_with fail
    refine(P3.out _).mono ?_
    rintro e w' ⟨rfl,rfl⟩
    go_wp2
    go_ret
    exact⟨_,rfl,by omega,HF.out,HBe.out⟩
   ·have hb:=aU he
    have HP2:Hid (Past s.data.toList 4):=⟨fun _=>HP.out.a (by omega),fun _=>HP.out.b (by omega),fun _=>HP.out.c (by omega),fun _=>he⟩
    clear he HP
    go_wp2_with fail
    refine(kp _).mono ?_
    rintro e w' ⟨rfl,rfl⟩
    go_wp2_with fail
    refine(P3.out _).mono ?_
    rintro e w' ⟨rfl,rfl⟩
    go_wp2
    go_round
    case rel=>exact⟨4,by omega,rfl,HP2⟩
    case measure=>simp[intOf]
  ·obtain⟨p1,p2,p3,p4⟩:=HP.out
   have n1:=p1 (by omega)
   have n2:=p2 (by omega)
   have n3:=p3 (by omega)
   have n4:=p4 (by omega)
   clear p1 p2 p3 p4 HP
   by_cases hx:∃r,s.data.toList=120::r∧r.length=16
   ·obtain⟨r,hr,hl⟩:=hx
    have hsz:s.size=17:=by rw[Lib.size_eq,hr];simp[hl]
    have hz17:((s.size:Int)==17)=true:=by rw[hsz];rfl
    have h0:0<s.size:=by omega
    have hb0:s[0]=120:=ed s 120 r hr h0
    obtain⟨t1,t2⟩:=gp s 120 r hr
    rw[hsz] at t1 t2
    have IR:=tQ (qA (s.extract 1 17) (by omega))
    have HF:Hid (∀z,z<18446744073709551616->s.data.toList=text z->ak (aM 16 (s.extract 1 17).data.toList)=ak z):=fun z hz ht=>by
     obtain⟨e1,e2⟩:=gh (z:=z) (r:=r) (ht.symm.trans hr)
     rw[t1,e1,nt z hz]
    have HL:=tQ (pO (oW 16 (by omega) (s.extract 1 17).data.toList))
    clear n1 n2 n3 n4 hr hl t1 t2
    generalize aM 16 (s.extract 1 17).data.toList=v at IR HF HL
    go_wp2_with fail
    refine(IR.out _).mono ?_
    rintro e w' ⟨rfl,rfl⟩
    go_wp2_with fail
    refine(cU _ _).mono ?_
    rintro e w' ⟨rfl,rfl⟩
    go_wp2
    go_ret
    exact⟨_,rfl,HL.out,HF.out,HBe.out⟩
   ·-- it is no text in base sixteen
    have hnx:∀z,z<18446744073709551616->s.data.toList=text z->s.data.toList=Lib.itoa (Flt.trunc z)∧bK z=true∧ak z=z:=fun z hz ht=>by
     refine gk ht n1 n2 n3 n4 (fun r hr=>?_)
     obtain⟨e1,_⟩:=gh (z:=z) (r:=r) (ht.symm.trans hr)
     exact hx ⟨r,hr,by rw[e1,Hex.digits_length]⟩
    cases hl:s.data.toList with
    |nil=>
     have hsz:s.size=0:=by rw[Lib.size_eq,hl];rfl
     have IR:=tQ (eS s (by omega))
     have HF:Hid (∀z,z<18446744073709551616->s.data.toList=text z->floatOfInt .f64 (aM 10 s.data.toList:Nat)=ak z):=fun z hz ht=>by
      obtain⟨e1,_,_⟩:=hnx z hz ht
      rw[hl] at e1
      rcases Txt.itoa_head (Flt.trunc z) with ⟨c,r,e,_,_⟩ | ⟨c,r,e,_,_⟩ <;> rw[e] at e1 <;> simp at e1
     have HL:=tQ (dL (aM 10 s.data.toList:Nat))
     clear n1 n2 n3 n4 hl hnx hx
     generalize aM 10 s.data.toList=v at IR HF HL
     go_wp2_with fail
     refine(IR.out _).mono ?_
     rintro e w' ⟨rfl,rfl⟩
     go_wp2
     go_ret
     exact⟨_,rfl,HL.out,HF.out,HBe.out⟩
    |cons c r=>
     have h0:0<s.size:=by rw[Lib.size_eq,hl];simp
     by_cases hc45:c=45
     ·subst hc45
      have hb0:s[0]=45:=ed s 45 r hl h0
      obtain⟨t1,t2⟩:=gp s 45 r hl
      by_cases hsz:s.size=17
      ·rw[hsz] at t1 t2
       have IR:=tQ (eS (s.extract 1 17) (by omega))
       have HF:Hid (∀z,z<18446744073709551616->s.data.toList=text z->Op.negFloat .f64 (floatOfInt .f64 (aM 10 (s.extract 1 17).data.toList:Nat))=ak z):=fun z hz ht=>by
        obtain⟨e1,e2,e3⟩:=hnx z hz ht
        obtain⟨u,hu1,hu2,hu3⟩:=eW (e1.symm.trans hl) (bz e2)
        rw[t1,hu3,dZ u hu2,Flt.neg_ofInt u hu1.1,<-hu1.2,cI hz e2,e3]
       have HL:=tQ (pt (aM 10 (s.extract 1 17).data.toList:Nat))
       clear n1 n2 n3 n4 hl hnx hx t1 t2
       generalize aM 10 (s.extract 1 17).data.toList=v at IR HF HL
       go_wp2_with fail
       refine(IR.out _).mono ?_
       rintro e w' ⟨rfl,rfl⟩
       go_wp2
       go_ret
       exact⟨_,rfl,HL.out,HF.out,HBe.out⟩
      ·have hz17:((s.size:Int)==17)=false:=by rw[beq_eq_false_iff_ne];omega
       have IR:=tQ (eS (s.extract 1 s.size) (by omega))
       have HF:Hid (∀z,z<18446744073709551616->s.data.toList=text z->Op.negFloat .f64 (floatOfInt .f64 (aM 10 (s.extract 1 s.size).data.toList:Nat))=ak z):=fun z hz ht=>by
        obtain⟨e1,e2,e3⟩:=hnx z hz ht
        obtain⟨u,hu1,hu2,hu3⟩:=eW (e1.symm.trans hl) (bz e2)
        rw[t1,hu3,dZ u hu2,Flt.neg_ofInt u hu1.1,<-hu1.2,cI hz e2,e3]
       have HL:=tQ (pt (aM 10 (s.extract 1 s.size).data.toList:Nat))
       clear n1 n2 n3 n4 hl hnx hx t1 t2
       generalize aM 10 (s.extract 1 s.size).data.toList=v at IR HF HL
       go_wp2_with fail
       refine(IR.out _).mono ?_
       rintro e w' ⟨rfl,rfl⟩
       go_wp2
       go_ret
       exact⟨_,rfl,HL.out,HF.out,HBe.out⟩
     ·by_cases hsz:s.size=17
      ·have hc120:c≠120:=by
        rintro rfl
        exact hx ⟨r,hl,by rw[Lib.size_eq,hl] at hsz;simpa using hsz⟩
       have hb0:s[0]=c:=ed s c r hl h0
       have q1:((c.toNat:Int)==120)=false:=jT hc120
       have q2:((c.toNat:Int)==45)=false:=jT hc45
       clear hc120
       have IR:=tQ (eS s (by omega))
       have HF:Hid (∀z,z<18446744073709551616->s.data.toList=text z->floatOfInt .f64 (aM 10 s.data.toList:Nat)=ak z):=fun z hz ht=>by
        obtain⟨e1,e2,e3⟩:=hnx z hz ht
        obtain⟨u,hu1,hu2,hu3⟩:=gM (e1.symm.trans hl) hc45 (bz e2)
        rw[e1,hu3,dZ u hu2,<-hu1,cI hz e2,e3]
       have HL:=tQ (dL (aM 10 s.data.toList:Nat))
       clear n1 n2 n3 n4 hl hnx hx hc45
       generalize aM 10 s.data.toList=v at IR HF HL
       go_wp2_with fail
       refine(IR.out _).mono ?_
       rintro e w' ⟨rfl,rfl⟩
       go_wp2
       go_ret
       exact⟨_,rfl,HL.out,HF.out,HBe.out⟩
      ·have hz17:((s.size:Int)==17)=false:=by rw[beq_eq_false_iff_ne];omega
       have hb0:s[0]=c:=ed s c r hl h0
       have q2:((c.toNat:Int)==45)=false:=jT hc45
       have IR:=tQ (eS s (by omega))
       have HF:Hid (∀z,z<18446744073709551616->s.data.toList=text z->floatOfInt .f64 (aM 10 s.data.toList:Nat)=ak z):=fun z hz ht=>by
        obtain⟨e1,e2,e3⟩:=hnx z hz ht
        obtain⟨u,hu1,hu2,hu3⟩:=gM (e1.symm.trans hl) hc45 (bz e2)
        rw[e1,hu3,dZ u hu2,<-hu1,cI hz e2,e3]
       have HL:=tQ (dL (aM 10 s.data.toList:Nat))
       clear n1 n2 n3 n4 hl hnx hx hc45
       generalize aM 10 s.data.toList=v at IR HF HL
       go_wp2_with fail
       refine(IR.out _).mono ?_
       rintro e w' ⟨rfl,rfl⟩
       go_wp2
       go_ret
       exact⟨_,rfl,HL.out,HF.out,HBe.out⟩
end
section
open Go.RowKit
theorem jx(s:ByteArray)(hlim:s.size<=281474976710656)(w:World):
    Calls Tryz.prog 58 #[.string s] w fun e w'=>
      ((∃z,z<18446744073709551616∧s.data.toList=text z∧e=.returned (.tuple #[.float .f64 (ak z),.int .i64 0])) ∨
       ((∀z,z<18446744073709551616->s.data.toList≠text z)∧e=.returned (.tuple #[.float .f64 0,.int .i64 11])))∧Below w.1.size w w':=by
  have IG:=tQ (jz s hlim)
  clear hlim
  go_enter Tryz.func58,Tryz.ntmps58
  go_wp2_with fail
  refine(IG.out _).mono ?_
  rintro e w1 ⟨x,rfl,hx,hq,hb⟩
  have HB:=tQ hb
  clear hb
  have IP:=tQ (bJ x hx)
  by_cases he:s.data.toList=text x
  · have hb:((s.toList==text x))=true:=by rw[Lib.toList_data,beq_iff_eq];exact he
    have HE:Hid (∃z,z<18446744073709551616∧s.data.toList=text z∧x=ak z):=⟨x,hx,he,hq x hx he⟩
    clear he hq hx
    go_wp2_with fail
    refine(IP.out _).mono ?_
    rintro e w2 ⟨rfl,rfl⟩
    go_wp2
    go_ret2
    obtain⟨z,z1,z2,z3⟩:=HE.out
    refine⟨.inl ⟨z,z1,z2,?_⟩,HB.out⟩
    rw[<-z3];rfl
  · have hb:((s.toList==text x))=false:=by rw[Lib.toList_data,beq_eq_false_iff_ne];exact he
    have HN:Hid (∀z,z<18446744073709551616->s.data.toList≠text z):=fun z hz ht=>by
      have e1:=hq z hz ht
      apply he
      rw[e1,eN];exact ht
    clear he hq hx
    go_wp2_with fail
    refine(IP.out _).mono ?_
    rintro e w2 ⟨rfl,rfl⟩
    go_wp2
    go_ret2
    exact⟨.inr ⟨HN.out,rfl⟩,HB.out⟩
def rO(w:World)(x:Option Nat)(e:Ending)(w':World):Prop:=(match x with
 |some b=>e=.returned (.tuple #[.float .f64 b,.int .i64 0])
 |none=>e=.returned (.tuple #[.float .f64 0,.int .i64 11]))∧Below w.1.size w w'
theorem oU{rf:Tx.Bs->Option Nat}(hRf:bP rf)(s:ByteArray)(hlim:s.size<=281474976710656)(w:World):Calls Tryz.prog 58 #[.string s] w (rO w (rf s.data.toList)):=by
 refine(jx s hlim w).mono ?_
 rintro e w' ⟨h,hb⟩
 refine⟨?_,hb⟩
 rcases h with ⟨z,hz,ht,rfl⟩ | ⟨hn,rfl⟩
 ·rw[ht,hRf.yes z hz]
 ·rw[hRf.no _ hn]
end
end Go.Proofs.YtllbniljgcgbeaaGreatDoor

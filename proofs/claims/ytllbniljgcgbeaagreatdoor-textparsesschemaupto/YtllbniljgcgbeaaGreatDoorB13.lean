import Derived.Test.YtllbniljgcgbeaaGreatDoorB02
import Derived.Test.YtllbniljgcgbeaaGreatDoorShelf
import Derived.Lib.SmallJoins
set_option maxHeartbeats 1000000
namespace Go.Proofs.YtllbniljgcgbeaaGreatDoor
namespace Flt
open Ieee
def bias:Nat:=1074
theorem bias_eq:bias=1074:=rfl
def one:Nat:=2 ^ bias
theorem one_pos:0<one:=Nat.two_pow_pos _
theorem lp:double.leastPlace=-1074:=by decide
theorem bin:double.binade=4503599627370496:=by decide
theorem inf:double.infRung=9218868437227405312:=by decide
theorem sw:double.signWeight=9223372036854775808:=by decide
def neg(x:Nat):Bool:=x / 9223372036854775808 % 2==1
def rung(x:Nat):Nat:=x % 9223372036854775808
def mag(r:Nat):Nat:=if r<4503599627370496 then r else 4503599627370496+r % 4503599627370496
def ex(r:Nat):Nat:=r / 4503599627370496-1
def units(r:Nat):Nat:=mag r*2 ^ ex r
theorem read_fin{x:Nat}(h:rung x<9218868437227405312):double.read x=.number (neg x) (mag (rung x)) (-1074+(ex (rung x):Nat)):=by
 unfold Format.read
 simp only[lp,bin,inf,sw]
 change (if rung x<4503599627370496 then Datum.number (neg x) (rung x) (-1074) else if rung x<9218868437227405312 then Datum.number (neg x) (4503599627370496+rung x % 4503599627370496) (-1074+(rung x / 4503599627370496-1:Nat)) else _)=_
 unfold mag ex
 by_cases h1:rung x<4503599627370496
 ·rw[if_pos h1,if_pos h1]
  have:rung x / 4503599627370496-1=0:=by omega
  rw[this];rfl
 ·rw[if_neg h1,if_neg h1,if_pos h]
theorem read_inf{x:Nat}(h:rung x=9218868437227405312):double.read x=.infinity (neg x):=by
 unfold Format.read
 simp only[lp,bin,inf,sw]
 change (if rung x<4503599627370496 then _ else if rung x<9218868437227405312 then _ else if rung x=9218868437227405312 then Datum.infinity (neg x) else _)=_
 rw[if_neg (by omega),if_neg (by omega),if_pos h]
theorem read_nan{x:Nat}(h:9218868437227405312<rung x):double.read x=.nan (neg x) (rung x-9218868437227405312):=by
 unfold Format.read
 simp only[lp,bin,inf,sw]
 change (if rung x<4503599627370496 then _ else if rung x<9218868437227405312 then _ else if rung x=9218868437227405312 then _ else Datum.nan (neg x) (rung x-9218868437227405312))=_
 rw[if_neg (by omega),if_neg (by omega),if_neg (by omega)]
theorem mag_lt(r:Nat):mag r<9007199254740992:=by unfold mag;split <;> omega
theorem units_lt_succ(r:Nat):units r<units (r+1):=by
 unfold units mag ex
 by_cases h1:r+1<4503599627370496
 ·rw[if_pos (by omega),if_pos h1]
  have a:r / 4503599627370496-1=0:=by omega
  have b:(r+1) / 4503599627370496-1=0:=by omega
  rw[a,b];omega
 ·by_cases h2:r<4503599627370496
  ·rw[if_pos h2,if_neg h1]
   have a:r / 4503599627370496-1=0:=by omega
   have b:(r+1) / 4503599627370496-1=0:=by omega
   rw[a,b];omega
  ·rw[if_neg h2,if_neg h1]
   by_cases h3:r % 4503599627370496+1<4503599627370496
   ·have a:(r+1) / 4503599627370496=r / 4503599627370496:=by omega
    have b:(r+1) % 4503599627370496=r % 4503599627370496+1:=by omega
    rw[a,b]
    exact Nat.mul_lt_mul_of_pos_right (by omega) (Nat.two_pow_pos _)
   ·have a:(r+1) / 4503599627370496-1=(r / 4503599627370496-1)+1:=by omega
    have b:(r+1) % 4503599627370496=0:=by omega
    have c:r % 4503599627370496=4503599627370495:=by omega
    rw[a,b,c,Nat.pow_succ,Nat.mul_comm (2 ^ _) 2,<-Nat.mul_assoc]
    exact Nat.mul_lt_mul_of_pos_right (by omega) (Nat.two_pow_pos _)
theorem units_lt{r s:Nat}(h:r<s):units r<units s:=by
 induction s with
 |zero=>omega
 |succ s ih=>
  by_cases e:r=s
  ·subst e;exact units_lt_succ r
  ·exact Nat.lt_trans (ih (by omega)) (units_lt_succ s)
theorem units_inj{r s:Nat}(h:units r=units s):r=s:=by
 rcases Nat.lt_trichotomy r s with h1 | h1 | h1
 ·have:=units_lt h1;omega
 ·exact h1
 ·have:=units_lt h1;omega
def sg(x:Nat):Int:=if neg x then -(units (rung x):Int) else (units (rung x):Int)
theorem signed_up(s:Bool)(m a b:Nat):signed s m (a+b)=signed s m a*(2 ^ b:Nat):=by
 unfold signed
 cases s <;> simp[Nat.shiftLeft_eq,Nat.pow_add,Int.neg_mul,Int.mul_assoc]
theorem cmp_scale(a b:Int)(k:Nat):compare (a*(2 ^ k:Nat)) (b*(2 ^ k:Nat))=compare a b:=by
 have hk:(0:Int)<(2 ^ k:Nat):=by exact_mod_cast Nat.two_pow_pos k
 generalize ((2 ^ k:Nat):Int)=c at hk
 rcases Int.lt_trichotomy a b with h | h | h
 ·rw[Int.compare_eq_lt.2 h,Int.compare_eq_lt.2 (Int.mul_lt_mul_of_pos_right h hk)]
 ·subst h;rw[Int.compare_eq_eq.2 rfl,Int.compare_eq_eq.2 rfl]
 ·rw[Int.compare_eq_gt.2 h,Int.compare_eq_gt.2 (Int.mul_lt_mul_of_pos_right h hk)]
theorem signed_ex(x:Nat):signed (neg x) (mag (rung x)) (ex (rung x))=sg x:=by
 unfold signed sg units
 simp[Nat.shiftLeft_eq]
theorem order_fin{x y:Nat}(hx:rung x<9218868437227405312)(hy:rung y<9218868437227405312):double.order x y=some (compare (sg x) (sg y)):=by
 unfold Format.order
 rw[read_fin hx,read_fin hy]
 simp only[Datum.order]
 rw[<-signed_ex x,<-signed_ex y]
 generalize ex (rung x)=i,ex (rung y)=j
 rcases Nat.le_total i j with h | h
 ·obtain⟨k,rfl⟩:=Nat.exists_eq_add_of_le h
  have a:(-1074+(i:Int)-min (-1074+(i:Int)) (-1074+((i+k:Nat):Int))).toNat=0:=by omega
  have b:(-1074+((i+k:Nat):Int)-min (-1074+(i:Int)) (-1074+((i+k:Nat):Int))).toNat=k:=by omega
  rw[a,b,<-cmp_scale _ _ i,<-signed_up,<-signed_up,Nat.zero_add,Nat.add_comm k i]
 ·obtain⟨k,rfl⟩:=Nat.exists_eq_add_of_le h
  have a:(-1074+(j:Int)-min (-1074+((j+k:Nat):Int)) (-1074+(j:Int))).toNat=0:=by omega
  have b:(-1074+((j+k:Nat):Int)-min (-1074+((j+k:Nat):Int)) (-1074+(j:Int))).toNat=k:=by omega
  rw[a,b,<-cmp_scale _ _ j,<-signed_up,<-signed_up,Nat.zero_add,Nat.add_comm k j]
theorem cut_zero(s:Bool)(n d:Nat):Toward.zero.cut s n d=n / 2 ^ d:=by
 unfold Toward.cut
 simp only[Bool.toNat_false,Nat.add_zero,Nat.shiftLeft_eq,Nat.one_mul]
 rcases Nat.le_total d (n.log2+2) with h | h
 ·rw[Nat.min_eq_left h]
 ·rw[Nat.min_eq_right h]
  have h1:n<2 ^ (n.log2+1):=Nat.lt_log2_self
  have h2:2 ^ (n.log2+1)<=2 ^ (n.log2+2):=Nat.pow_le_pow_right (by omega) (by omega)
  have h3:2 ^ (n.log2+2)<=2 ^ d:=Nat.pow_le_pow_right (by omega) h
  rw[Nat.div_eq_of_lt (by omega),Nat.div_eq_of_lt (by omega)]
theorem cut_even_exact(s:Bool)(k d:Nat):Toward.even.cut s (k*2 ^ d) d=k:=by
 unfold Toward.cut
 simp only[Nat.shiftLeft_eq,Nat.one_mul]
 rcases Nat.le_total d ((k*2 ^ d).log2+2) with h | h
 ·rw[Nat.min_eq_left h]
  have hp:=Nat.two_pow_pos d
  rw[Nat.mul_div_cancel _ hp,Nat.mul_mod_left]
  have e1:(2 ^ d<2*0)=False:=by simp
  have e2:(2 ^ d==2*0)=false:=by
   rw[beq_eq_false_iff_ne];omega
  simp[e2]
 ·by_cases hk:k=0
  ·subst hk
   have h1:(0:Nat).log2=0:=by decide
   simp only[Nat.zero_mul] at h ⊢
   rw[Nat.min_eq_right h,h1];decide
  ·exfalso
   have hpos:k*2 ^ d≠0:=Nat.mul_ne_zero hk (by have:=Nat.two_pow_pos d;omega)
   have h1:k*2 ^ d<2 ^ ((k*2 ^ d).log2+1):=Nat.lt_log2_self
   have h2:2 ^ d<=k*2 ^ d:=Nat.le_mul_of_pos_left _ (by omega)
   have h3:2 ^ ((k*2 ^ d).log2+1)<=2 ^ d:=Nat.pow_le_pow_right (by omega) (by omega)
   omega
theorem shift_div(m e:Nat):(m <<< (-1074+(e:Int)).toNat) / 2 ^ (-(-1074+(e:Int))).toNat=m*2 ^ e / one:=by
 unfold one
 rw[Nat.shiftLeft_eq]
 rcases Nat.le_total bias e with h | h
 ·obtain⟨k,rfl⟩:=Nat.exists_eq_add_of_le h
  have a:(-1074+((bias+k:Nat):Int)).toNat=k:=by rw[bias_eq];omega
  have b:(-(-1074+((bias+k:Nat):Int))).toNat=0:=by rw[bias_eq];omega
  rw[a,b,Nat.pow_add,Nat.mul_comm (2 ^ bias),<-Nat.mul_assoc,Nat.mul_div_cancel _ (Nat.two_pow_pos _)];simp
 ·obtain⟨k,hk⟩:=Nat.exists_eq_add_of_le h
  have a:(-1074+(e:Int)).toNat=0:=by rw[bias_eq] at h;omega
  have b:(-(-1074+(e:Int))).toNat=k:=by rw[bias_eq] at hk;omega
  rw[a,b,hk,Nat.pow_add,Nat.mul_comm (2 ^ e),Nat.mul_div_mul_right _ _ (Nat.two_pow_pos _)];simp
def trunc(x:Nat):Int:=if neg x then -((units (rung x) / one:Nat):Int) else ((units (rung x) / one:Nat):Int)
theorem toInt_fin{x:Nat}(hx:rung x<9218868437227405312):(double.read x).toInt .zero=some (trunc x):=by
 rw[read_fin hx]
 simp only[Datum.toInt,Datum.integral,cut_zero,shift_div]
 simp[signed,trunc,units]
theorem word_eq{x:Nat}(h:x<18446744073709551616):double.word (neg x) (rung x)=x:=by
 unfold Format.word neg rung
 rw[sw]
 by_cases h1:x / 9223372036854775808 % 2=1
 ·simp[h1];omega
 ·simp[h1];omega
theorem rung_word(s:Bool)(r:Nat)(h:r<9223372036854775808):rung (double.word s r)=r:=by
 unfold Format.word rung
 rw[sw];cases s <;> simp <;> omega
theorem neg_word(s:Bool)(r:Nat)(h:r<9223372036854775808):neg (double.word s r)=s:=by
 unfold Format.word neg
 rw[sw];cases s <;> simp <;> omega
theorem units_full(k e:Nat)(h1:4503599627370496<=k)(h2:k<9007199254740992):units (e*4503599627370496+k)=k*2 ^ e:=by
 unfold units mag ex
 rw[if_neg (by omega)]
 have a:(e*4503599627370496+k) % 4503599627370496=k-4503599627370496:=by omega
 have b:(e*4503599627370496+k) / 4503599627370496-1=e:=by omega
 rw[a,b,show 4503599627370496+(k-4503599627370496)=k by omega]
theorem nearest_zero(s:Bool):double.nearest s 0 0=double.word s 0:=by simp[Format.nearest]
theorem nearest_exact(s:Bool)(n R:Nat)(hR:R<9218868437227405312)(h:units R=n*one):double.nearest s n 0=double.word s R:=by
 by_cases hn:n=0
 ·subst hn
  rw[Nat.zero_mul] at h
  have:units 0=0:=by decide
  rw[units_inj (h.trans this.symm)]
  exact nearest_zero s
 have h1:2 ^ n.log2<=n:=Nat.log2_self_le hn
 have h2:n<2 ^ (n.log2+1):=Nat.lt_log2_self
 -- the exponent of R is great enough
 have hex:n.log2+1022<=ex R:=by
  have hm:=mag_lt R
  have hb:2 ^ (n.log2+bias)<=mag R*2 ^ ex R:=by
   rw[Nat.pow_add]
   have:units R=mag R*2 ^ ex R:=rfl
   rw[<-this,h]
   exact Nat.mul_le_mul_right _ h1
  have hc:mag R*2 ^ ex R<2 ^ (53+ex R):=by
   rw[Nat.pow_add]
   exact Nat.mul_lt_mul_of_pos_right (by simpa using hm) (Nat.two_pow_pos _)
  have:=(Nat.pow_lt_pow_iff_right (by omega:1<2)).1 (Nat.lt_of_le_of_lt hb hc)
  rw[bias_eq] at this
  omega
 obtain⟨g,hg⟩:=Nat.exists_eq_add_of_le hex
 -- what is kept
 have key:∃k,4503599627370496<=k∧k<9007199254740992∧k*2 ^ (n.log2+1022)=n*one ∧
   Toward.even.cut s (n <<< ((0:Int)-max ((0:Int)+(n.log2:Int)-52) (-1074)).toNat) (max ((0:Int)+(n.log2:Int)-52) (-1074)-0).toNat=k:=by
  rcases Nat.le_total n.log2 52 with hl | hl
  ·obtain⟨d,hd⟩:=Nat.exists_eq_add_of_le hl
   have e1:((0:Int)-max ((0:Int)+(n.log2:Int)-52) (-1074)).toNat=d:=by omega
   have e2:(max ((0:Int)+(n.log2:Int)-52) (-1074)-0).toNat=0:=by omega
   have p52:2 ^ n.log2*2 ^ d=4503599627370496:=by rw[<-Nat.pow_add,<-hd]
   have p53:2 ^ (n.log2+1)*2 ^ d=9007199254740992:=by rw[<-Nat.pow_add,show n.log2+1+d=53 by omega]
   refine⟨n*2 ^ d,?_,?_,?_,?_⟩
   ·rw[<-p52];exact Nat.mul_le_mul_right _ h1
   ·rw[<-p53];exact Nat.mul_lt_mul_of_pos_right h2 (Nat.two_pow_pos _)
   ·unfold one
    rw[Nat.mul_assoc,<-Nat.pow_add,show d+(n.log2+1022)=bias by rw[bias_eq];omega]
   ·rw[e1,e2,Nat.shiftLeft_eq]
    have:=cut_even_exact s (n*2 ^ d) 0
    simpa using this
  ·obtain⟨d,hd⟩:=Nat.exists_eq_add_of_le hl
   have e1:((0:Int)-max ((0:Int)+(n.log2:Int)-52) (-1074)).toNat=0:=by omega
   have e2:(max ((0:Int)+(n.log2:Int)-52) (-1074)-0).toNat=d:=by omega
   -- 2 ^ d divides n
   have hdiv:n=mag R*2 ^ g*2 ^ d:=by
    have:mag R*2 ^ ex R=n*one:=h
    rw[hg] at this
    unfold one at this
    have e3:n.log2+1022+g=(g+d)+bias:=by rw[bias_eq];omega
    rw[e3,Nat.pow_add,<-Nat.mul_assoc] at this
    have:=Nat.eq_of_mul_eq_mul_right (Nat.two_pow_pos _) this
    rw[<-this,Nat.pow_add,Nat.mul_assoc]
   have p52:2 ^ n.log2=4503599627370496*2 ^ d:=by rw[hd,Nat.pow_add]
   have p53:2 ^ (n.log2+1)=9007199254740992*2 ^ d:=by rw[hd,show 52+d+1=53+d by omega,Nat.pow_add]
   have hp:=Nat.two_pow_pos d
   refine⟨mag R*2 ^ g,?_,?_,?_,?_⟩
   ·refine Nat.le_of_mul_le_mul_right (c:=2 ^ d) ?_ hp
    rw[<-hdiv,<-p52];exact h1
   ·refine Nat.lt_of_mul_lt_mul_right (a:=2 ^ d) ?_
    rw[<-hdiv,<-p53];exact h2
   ·have:mag R*2 ^ ex R=n*one:=h
    rw[<-this,hg,Nat.pow_add 2 (n.log2+1022) g,Nat.mul_assoc,Nat.mul_comm (2 ^ g)]
   ·rw[e1,e2,Nat.shiftLeft_eq]
    have:=cut_even_exact s (mag R*2 ^ g) d
    rw[<-hdiv] at this
    simpa using this
 obtain⟨k,k1,k2,k3,k4⟩:=key
 have hlog:n.log2<1024:=by
  have hR':ex R<=2045:=by unfold ex;omega
  omega
 unfold Format.nearest
 rw[if_neg hn]
 simp only[lp,bin,inf,show double.fractionBits=52 from rfl]
 have k4':Toward.even.cut s (n <<< ((0:Int)-max ((0:Int)+(n.log2:Int)-(52:Nat)) (-1074)).toNat) (max ((0:Int)+(n.log2:Int)-(52:Nat)) (-1074)-0).toNat=k:=k4
 rw[k4']
 have e5:(max ((0:Int)+(n.log2:Int)-(52:Nat)) (-1074)-(-1074:Int)).toNat=n.log2+1022:=by omega
 rw[e5]
 have e6:units ((n.log2+1022)*4503599627370496+k)=units R:=by rw[units_full _ _ k1 k2,k3,h]
 have e7:=units_inj e6
 rw[e7,Nat.min_eq_left (by omega)]
theorem small_rung(n:Nat)(h:n<=9007199254740992):∃R,R<9218868437227405312∧units R=n*one:=by
 by_cases hn:n=0
 ·subst hn;exact⟨0,by omega,by simp[units,mag]⟩
 by_cases hm:n=9007199254740992
 ·subst hm
  refine⟨1075*4503599627370496+4503599627370496,by omega,?_⟩
  rw[units_full _ _ (by omega) (by omega)]
  unfold one
  rw[show(1075:Nat)=1+bias from rfl,Nat.pow_add,<-Nat.mul_assoc]
 have h1:2 ^ n.log2<=n:=Nat.log2_self_le hn
 have h2:n<2 ^ (n.log2+1):=Nat.lt_log2_self
 have hl:n.log2<=52:=by
  have:2 ^ n.log2<2 ^ 53:=Nat.lt_of_le_of_lt h1 (by omega)
  have:=(Nat.pow_lt_pow_iff_right (by omega:1<2)).1 this
  omega
 obtain⟨d,hd⟩:=Nat.exists_eq_add_of_le hl
 have p52:2 ^ n.log2*2 ^ d=4503599627370496:=by rw[<-Nat.pow_add,<-hd]
 have p53:2 ^ (n.log2+1)*2 ^ d=9007199254740992:=by rw[<-Nat.pow_add,show n.log2+1+d=53 by omega]
 have k1:4503599627370496<=n*2 ^ d:=by rw[<-p52];exact Nat.mul_le_mul_right _ h1
 have k2:n*2 ^ d<9007199254740992:=by rw[<-p53];exact Nat.mul_lt_mul_of_pos_right h2 (Nat.two_pow_pos _)
 refine⟨(n.log2+1022)*4503599627370496+n*2 ^ d,by omega,?_⟩
 rw[units_full _ _ k1 k2]
 unfold one
 rw[Nat.mul_assoc,<-Nat.pow_add,show d+(n.log2+1022)=bias by rw[bias_eq];omega]
theorem part_small{r:Nat}(h:units r % one≠0):units r / one<4503599627370496:=by
 have hm:=mag_lt r
 have he:ex r<bias:=by
  rcases Nat.lt_or_ge (ex r) bias with h1 | h1
  ·exact h1
  ·exfalso
   obtain⟨k,hk⟩:=Nat.exists_eq_add_of_le h1
   apply h
   unfold units one
   rw[hk,Nat.pow_add,Nat.mul_comm (2 ^ bias),<-Nat.mul_assoc,Nat.mul_mod_left]
 obtain⟨k,hk⟩:=Nat.exists_eq_add_of_lt he
 unfold units one
 rw[hk,Nat.pow_succ,Nat.pow_add,Nat.div_lt_iff_lt_mul (Nat.mul_pos (Nat.mul_pos (Nat.two_pow_pos _) (Nat.two_pow_pos _)) (by omega))]
 have p1:=Nat.two_pow_pos (ex r)
 have p2:=Nat.two_pow_pos k
 have e:4503599627370496*(2 ^ ex r*2 ^ k*2)=9007199254740992*2 ^ ex r*2 ^ k:=by
  rw[Nat.mul_comm (2 ^ ex r*2 ^ k) 2,<-Nat.mul_assoc,<-Nat.mul_assoc]
 rw[e]
 calc mag r*2 ^ ex r<9007199254740992*2 ^ ex r:=Nat.mul_lt_mul_of_pos_right hm p1
  _<=9007199254740992*2 ^ ex r*2 ^ k:=Nat.le_mul_of_pos_right _ p2
theorem cmp_swap(a b:Int):compare b a=(compare a b).swap:=by
 rcases Int.lt_trichotomy a b with h | h | h
 ·rw[Int.compare_eq_lt.2 h,Int.compare_eq_gt.2 h];rfl
 ·subst h;rw[Int.compare_eq_eq.2 rfl];rfl
 ·rw[Int.compare_eq_gt.2 h,Int.compare_eq_lt.2 h];rfl
theorem order_swap(x y:Nat):double.order y x=(double.order x y).map Ordering.swap:=by
 unfold Format.order
 generalize double.read x=p,double.read y=q
 cases p <;> cases q <;> simp only[Datum.order,Option.map_some,Option.map_none]
 ·rename_i s m i t n j
  rw[Int.min_comm j i,cmp_swap]
 ·rename_i t;cases t <;> rfl
 ·rename_i s _ _ _;cases s <;> rfl
 ·rename_i s t;cases s <;> cases t <;> rfl
def inR(x:Nat):Bool:=(double.order 14114281232179134464 x==some .lt||double.order 14114281232179134464 x==some .eq)&&double.order x 4890909195324358656==some .lt
theorem units_63:units 4890909195324358656=9223372036854775808*one:=by
 have:=units_full 4503599627370496 1085 (by omega) (by omega)
 rw[show 1085*4503599627370496+4503599627370496=4890909195324358656 by omega] at this
 rw[this]
 unfold one
 rw[show(1085:Nat)=11+bias from rfl,Nat.pow_add,<-Nat.mul_assoc]
theorem sg_63:sg 4890909195324358656=9223372036854775808*(one:Int):=by
 unfold sg
 rw[show neg 4890909195324358656=false by decide,show rung 4890909195324358656=4890909195324358656 by decide,units_63]
 simp
theorem sg_m63:sg 14114281232179134464=-(9223372036854775808*(one:Int)):=by
 unfold sg
 rw[show neg 14114281232179134464=true by decide,show rung 14114281232179134464=4890909195324358656 by decide,units_63]
 simp
theorem inR_fin{x:Nat}(h:inR x=true):rung x<9218868437227405312:=by
 rcases Nat.lt_trichotomy (rung x) 9218868437227405312 with h1 | h1 | h1
 ·exact h1
 ·exfalso
  unfold inR Format.order at h
  rw[read_inf h1,read_fin (x:=14114281232179134464) (by decide),read_fin (x:=4890909195324358656) (by decide)] at h
  cases hn:neg x <;> simp[hn,Datum.order] at h
 ·exfalso
  unfold inR Format.order at h
  rw[read_nan h1] at h
  revert h
  cases double.read 14114281232179134464 <;> simp[Datum.order]
theorem inR_bounds{x:Nat}(h:inR x=true):-(9223372036854775808*(one:Int))<=sg x∧sg x<9223372036854775808*(one:Int):=by
 have hf:=inR_fin h
 unfold inR at h
 rw[order_fin (by decide) hf,order_fin hf (by decide),sg_63,sg_m63] at h
 simp only[Bool.and_eq_true,Bool.or_eq_true,beq_iff_eq,Option.some.injEq,Int.compare_eq_lt,Int.compare_eq_eq] at h
 omega
theorem trunc_bounds{x:Nat}(h:inR x=true):-9223372036854775808<=trunc x∧trunc x<=9223372036854775807:=by
 obtain⟨h1,h2⟩:=inR_bounds h
 have hp:=one_pos
 unfold sg at h1 h2
 unfold trunc
 generalize hu:units (rung x)=u at *
 cases hn:neg x
 ·simp only[hn,Bool.false_eq_true,if_false] at h1 h2 ⊢
  have h3:u<9223372036854775808*one:=by omega
  have h4:=(Nat.div_lt_iff_lt_mul hp).2 h3
  generalize u / one=q at h4
  omega
 ·simp only[hn,if_true] at h1 h2 ⊢
  have h3:u<=one*9223372036854775808:=by omega
  have h4:=Nat.div_le_of_le_mul h3
  generalize u / one=q at h4
  omega
theorem toInt_val{x:Nat}(h:inR x=true):floatToIntVal .f64 x .i64=some (trunc x):=by
 unfold floatToIntVal
 have e:(FloatKind.f64.decode x).toInt .zero=some (trunc x):=toInt_fin (inR_fin h)
 rw[e]
 have:=trunc_bounds h
 simp only
 rw[if_pos]
 exact this
def whole(x:Nat):Bool:=units (rung x) % one==0
theorem ofInt_eq(n:Int):floatOfInt .f64 n=double.nearest (n<0) n.natAbs 0:=rfl
theorem natAbs_trunc(x:Nat):(trunc x).natAbs=units (rung x) / one:=by
 unfold trunc
 generalize units (rung x) / one=q
 split <;> omega
theorem word_sg(s:Bool)(r:Nat)(h:r<9223372036854775808):sg (double.word s r)=if s then -(units r:Int) else (units r:Int):=by
 unfold sg
 rw[rung_word s r h,neg_word s r h]
theorem lt_inf{R:Nat}(h:R<9218868437227405312):R<9223372036854775808:=by omega
theorem eq_whole{x n:Nat}{s:Bool}(hf:rung x<9218868437227405312)(hn:n=units (rung x) / one∨n<=9007199254740992∧whole x=false)(hs:n=0∨s=neg x):
  ∃y,double.nearest s n 0=y∧(whole x=true->rung y<9218868437227405312)∧(whole x=false->rung y<9218868437227405312)∧(whole x=true->n=units (rung x) / one->sg y=sg x∧y=double.word s (rung x))∧(whole x=false->sg y≠sg x):=by
 cases hw:whole x
 ·have hm:units (rung x) % one≠0:=by simpa[whole] using hw
  have hsm:n<=9007199254740992:=by
   rcases hn with h | h
   ·have:=part_small hm;omega
   ·exact h.1
  obtain⟨R,hR,hu⟩:=small_rung n hsm
  refine⟨_,nearest_exact s n R hR hu,by simp,fun _=>by rw[rung_word _ _ (lt_inf hR)];exact hR,by simp,fun _ hc=>?_⟩
  rw[word_sg _ _ (lt_inf hR),hu] at hc
  unfold sg at hc
  apply hm
  have hcast:((n*one:Nat):Int)=(units (rung x):Int)∨((n*one:Nat):Int)=-(units (rung x):Int):=by
   cases s <;> cases neg x <;> simp only[Bool.false_eq_true,if_false,if_true] at hc <;> omega
  have:units (rung x)=n*one:=by omega
  rw[this,Nat.mul_mod_left]
 ·have hm:units (rung x) % one=0:=by simpa[whole] using hw
  have hn':n=units (rung x) / one:=by
   rcases hn with h | h
   ·exact h
   ·rw[hw] at h;simp at h
  have hu:units (rung x)=n*one:=by
   have:=Nat.div_add_mod (units (rung x)) one
   rw[hm,Nat.mul_comm] at this
   rw[hn'];omega
  refine⟨_,nearest_exact s n (rung x) hf hu,fun _=>by rw[rung_word _ _ (lt_inf hf)];exact hf,by simp,fun _ _=>⟨?_,rfl⟩,by simp⟩
  rw[word_sg _ _ (lt_inf hf)]
  unfold sg
  rcases hs with h | h
  ·have h0:units (rung x)=0:=by rw[hu,h,Nat.zero_mul]
   rw[h0];simp
  ·rw[h]
theorem trunc_sign(x:Nat):(trunc x).natAbs=0∨decide (trunc x<0)=neg x:=by
 unfold trunc
 generalize units (rung x) / one=u
 cases neg x <;> simp <;> omega
theorem back_whole{x:Nat}(hf:rung x<9218868437227405312):(double.order (floatOfInt .f64 (trunc x)) x==some .eq)=whole x:=by
 rw[ofInt_eq]
 obtain⟨y,h1,h2,h3,h4,h5⟩:=eq_whole (x:=x) (n:=(trunc x).natAbs) (s:=decide (trunc x<0)) hf (.inl (natAbs_trunc x)) (trunc_sign x)
 rw[h1]
 cases hw:whole x
 ·rw[order_fin (h3 hw) hf]
  have:=h5 hw
  simp[this]
 ·rw[order_fin (h2 hw) hf,(h4 hw (natAbs_trunc x)).1]
  simp
theorem back_exact{x:Nat}(hx:x<18446744073709551616)(hf:rung x<9218868437227405312)(hw:whole x=true)(hz:x≠9223372036854775808):floatOfInt .f64 (trunc x)=x:=by
 rw[ofInt_eq]
 obtain⟨y,h1,h2,h3,h4,h5⟩:=eq_whole (x:=x) (n:=(trunc x).natAbs) (s:=decide (trunc x<0)) hf (.inl (natAbs_trunc x)) (trunc_sign x)
 rw[h1,(h4 hw (natAbs_trunc x)).2]
 rcases trunc_sign x with h | h
 ·have hu:units (rung x)=units 0:=by
   have hm:units (rung x) % one=0:=by simpa[whole] using hw
   have:=Nat.div_add_mod (units (rung x)) one
   rw[hm,<-natAbs_trunc,h] at this
   rw[show units 0=0 by decide];omega
  have hr:=units_inj hu
  have h0:x=0:=by unfold rung at hr;omega
  subst h0
  have ht:decide (trunc 0<0)=false:=by
   rw[decide_eq_false_iff_not];omega
  rw[ht];decide
 ·rw[h];exact word_eq hx
theorem units_le{r s:Nat}(h:r<=s):units r<=units s:=by
 by_cases e:r=s
 ·rw[e];exact tX
 ·exact Nat.le_of_lt (units_lt (by omega))
theorem gt_max{x:Nat}(hx:x<18446744073709551616):(double.order x 9218868437227405311==some .gt)=(x==9218868437227405312):=by
 rcases Nat.lt_trichotomy (rung x) 9218868437227405312 with h | h | h
 ·rw[order_fin h (by decide)]
  have h1:sg x<=sg 9218868437227405311:=by
   have a:sg 9218868437227405311=(units 9218868437227405311:Int):=by
    unfold sg
    rw[show neg 9218868437227405311=false by decide,show rung 9218868437227405311=9218868437227405311 by decide]
    simp
   have b:=units_le (show rung x<=9218868437227405311 by omega)
   rw[a];unfold sg
   split <;> omega
  have h2:compare (sg x) (sg 9218868437227405311)≠.gt:=by
   rw[Ne,Int.compare_eq_gt];omega
  have h3:x≠9218868437227405312:=by
   rintro rfl
   revert h;decide
  rw[beq_eq_false_iff_ne.2 h3,beq_eq_false_iff_ne]
  intro hc
  exact h2 (Option.some.inj hc)
 ·unfold Format.order
  rw[read_inf h,read_fin (x:=9218868437227405311) (by decide)]
  simp only[Datum.order]
  unfold rung at h
  unfold neg
  by_cases h1:x<9223372036854775808
  ·have a:x=9218868437227405312:=by omega
   subst a;decide
  ·have a:x=9218868437227405312+9223372036854775808:=by omega
   subst a;decide
 ·unfold Format.order
  rw[read_nan h]
  have h3:x≠9218868437227405312:=by
   rintro rfl
   revert h;decide
  simp[Datum.order,h3]
theorem xor_low{x:Nat}(h:x<9223372036854775808):x ^^^ 9223372036854775808=9223372036854775808+x:=by
 have e:(9223372036854775808:Nat)=2 ^ 63:=by decide
 rw[e] at h ⊢
 apply Nat.eq_of_testBit_eq
 intro i
 rw[Nat.testBit_xor,Nat.testBit_two_pow]
 rcases Nat.lt_trichotomy i 63 with h1 | h1 | h1
 ·rw[Nat.testBit_two_pow_add_gt h1]
  have:¬63=i:=by omega
  simp[this]
 ·subst h1
  rw[Nat.testBit_two_pow_add_eq]
  simp
 ·have a:x<2 ^ i:=Nat.lt_of_lt_of_le h (Nat.pow_le_pow_right (by omega) (by omega))
  have b:2 ^ 63+x<2 ^ i:=by
   have:2 ^ 64<=2 ^ i:=Nat.pow_le_pow_right (by omega) (by omega)
   omega
  rw[Nat.testBit_lt_two_pow a,Nat.testBit_lt_two_pow b]
  have:¬63=i:=by omega
  simp[this]
theorem neg_eq{x:Nat}(hx:x<18446744073709551616):Op.negFloat .f64 x=if x<9223372036854775808 then 9223372036854775808+x else x-9223372036854775808:=by
 have e:Op.negFloat .f64 x=x ^^^ 9223372036854775808:=rfl
 rw[e]
 split
 ·rename_i h;exact xor_low h
 ·rename_i h
  have a:=xor_low (x:=x-9223372036854775808) (by omega)
  have b:9223372036854775808+(x-9223372036854775808)=x:=by omega
  rw[b] at a
  generalize x-9223372036854775808=y at a
  rw[<-a,Nat.xor_assoc,Nat.xor_self,Nat.xor_zero]
theorem gt_max_neg{x:Nat}(hx:x<18446744073709551616):(double.order (Op.negFloat .f64 x) 9218868437227405311==some .gt)=(x==18442240474082181120):=by
 rw[neg_eq hx]
 split
 ·rename_i h
  rw[gt_max (by omega),Bool.eq_iff_iff];simp;omega
 ·rename_i h
  rw[gt_max (by omega),Bool.eq_iff_iff];simp;omega
theorem nan_iff(x:Nat):(double.order x x != some .eq)=decide (9218868437227405312<rung x):=by
 rcases Nat.lt_trichotomy (rung x) 9218868437227405312 with h | h | h
 ·rw[order_fin h h]
  have:¬9218868437227405312<rung x:=by omega
  simp[this]
 ·unfold Format.order
  rw[read_inf h]
  have:¬9218868437227405312<rung x:=by omega
  simp[Datum.order,this]
 ·unfold Format.order
  rw[read_nan h]
  simp[Datum.order,h]
end Flt
namespace Hex
def hexd(n:Nat):UInt8:=if n<10 then UInt8.ofNat (48+n) else UInt8.ofNat (87+n)
def at_(u t:Nat):UInt8:=hexd (u / 16 ^ t % 16)
def digits(u:Nat):Nat->L8
 |0=>[]
 |k+1=>at_ u k::digits u k
theorem digits_length(u k:Nat):(digits u k).length=k:=by
 induction k with
 |zero=>rfl
 |succ k ih=>simp[digits,ih]
theorem digits_get(u k j:Nat)(h:j<(digits u k).length):(digits u k)[j]=at_ u (k-1-j):=by
 induction k generalizing j with
 |zero=>simp[digits] at h
 |succ k ih=>
  cases j with
  |zero=>simp[digits]
  |succ j=>
   have h':j<(digits u k).length:=by simpa[digits] using h
   simp only[digits,List.getElem_cons_succ]
   rw[ih j h']
   congr 1
   omega
theorem at_zero{u k t:Nat}(h:u<16 ^ k)(ht:k<=t):at_ u t=48:=by
 unfold at_
 have h1:16 ^ k<=16 ^ t:=Nat.pow_le_pow_right (by omega) ht
 rw[Nat.div_eq_of_lt (by omega)]
 rfl
theorem digits_pad{u k:Nat}(h:u<16 ^ k)(n:Nat):digits u (n+k)=List.replicate n 48++digits u k:=by
 induction n with
 |zero=>simp
 |succ n ih=>
  rw[show n+1+k=n+k+1 by omega]
  simp only[digits,ih,List.replicate_succ,List.cons_append]
  rw[at_zero h (by omega)]
structure Inv(u i v:Nat)(dk:Array UInt8):Prop where
 size:dk.size=65
 le:i<=65
 low:49<i
 rest:v=u / 16 ^ (65-i)
 row:∀t,t<65-i->dk[64-t]! = at_ u t
theorem Inv.start(u:Nat):Inv u 65 u (Array.replicate 65 0) :=
 ⟨by simp,by omega,by omega,by simp,fun t ht=>by omega⟩
theorem set_row{u m v:Nat}{dk:Array UInt8}(h:Inv u (m+1) v dk)(c:UInt8)(hc:c=hexd (v % 16)):∀t,t<65-m->(dk.setIfInBounds m c)[64-t]! = at_ u t:=by
 intro t ht
 have hs:=h.size
 have hl:=h.le
 by_cases e:t=64-m
 ·have e2:64-t=m:=by omega
  rw[e2]
  have:m<dk.size:=by omega
  have e3:(dk.setIfInBounds m c)[m]! = c:=by simp[this]
  rw[e3,hc,h.rest]
  unfold at_
  rw[show 65-(m+1)=t by omega]
 ·have e2:64-t≠m:=by omega
  have e3:(dk.setIfInBounds m c)[64-t]! = dk[64-t]!:=by
   rw[Array.getElem!_eq_getD,Array.getElem!_eq_getD,Array.getD_eq_getD_getElem?,Array.getD_eq_getD_getElem?,Array.getElem?_setIfInBounds_ne (Ne.symm e2)]
  rw[e3]
  exact h.row t (by omega)
theorem Inv.step{u m v:Nat}{dk:Array UInt8}(hu:u<18446744073709551616)(h:Inv u (m+1) v dk)(hv:16<=v)(c:UInt8)(hc:c=hexd (v % 16)):Inv u m (v / 16) (dk.setIfInBounds m c):=by
 have hl:=h.le
 have hlow:49<m:=by
  have h1:=h.rest
  have h2:=h.low
  by_cases e:m=49
  ·subst e
   exfalso
   have:u / 16 ^ 15<16:=by
    have e16:(16:Nat) ^ 15=1152921504606846976:=by decide
    rw[e16];omega
   rw[show 65-(49+1)=15 by omega] at h1
   omega
  ·omega
 refine⟨by simp[h.size],by omega,hlow,?_,set_row h c hc⟩
 rw[h.rest,show 65-m=(65-(m+1))+1 by omega,Nat.pow_succ,<-Nat.div_div_eq_div_mul]
theorem Inv.last{u m v:Nat}{dk:Array UInt8}(h:Inv u (m+1) v dk)(hv:v<16)(c:UInt8)(hc:c=hexd (v % 16)):
  u<16 ^ (65-m)∧(∀j,j<65-m->(dk.setIfInBounds m c)[m+j]! = (digits u (65-m))[j]?.getD 0):=by
 have hl:=h.le
 have hr:=h.rest
 refine⟨?_,fun j hj=>?_⟩
 ·rw[show 65-m=(65-(m+1))+1 by omega,Nat.pow_succ,Nat.mul_comm]
  have hp:0<16 ^ (65-(m+1)):=Nat.pow_pos (by omega)
  have:=(Nat.div_lt_iff_lt_mul hp).1 (show u / 16 ^ (65-(m+1))<16 by omega)
  exact this
 ·have:=set_row h c hc (64-m-j) (by omega)
  rw[show 64-(64-m-j)=m+j by omega] at this
  rw[this,List.getElem?_eq_getElem (by rw[digits_length];exact hj),digits_get]
  rw[show 65-m-1-j=64-m-j by omega];rfl
end Hex
section
open Go.RowKit
attribute [local go_sem] bI gv
end
section
open Go.RowKit
def okB(x:Nat):Bool:=Flt.inR x&&!((ak x:Int)==9223372036854775808)&&Flt.whole x
def toN(x:Nat):Int:=if okB x then Flt.trunc x else 0
def toE(x:Nat):Int:=if okB x then 0 else 10
theorem dC(x:Nat)(w:World):
  Calls Tryz.prog 116 #[.float .f64 x] w fun e w'=>e=.returned (.bool ((ak x:Int)==9223372036854775808))∧w'=w:=by
 go_enter Tryz.func116,Tryz.ntmps116
 go_wp2_with (go_at_call 120;refine(cg _ _).mono ?_;rintro e w' ⟨rfl,rfl⟩)
 go_ret
 exact⟨rfl,rfl⟩
theorem sT{x:Nat}(h:Flt.inR x=false):(FloatKind.f64.format.order 14114281232179134464 x==some .lt||FloatKind.f64.format.order 14114281232179134464 x==some .eq)=false∨(FloatKind.f64.format.order 14114281232179134464 x==some .lt||FloatKind.f64.format.order 14114281232179134464 x==some .eq)=true∧(FloatKind.f64.format.order x 4890909195324358656==some .lt)=false:=by
 have h':((FloatKind.f64.format.order 14114281232179134464 x==some .lt||FloatKind.f64.format.order 14114281232179134464 x==some .eq)&&FloatKind.f64.format.order x 4890909195324358656==some .lt)=false:=h
 rw[Bool.and_eq_false_iff] at h'
 rcases h' with h' | h'
 ·exact .inl h'
 ·cases ha:(FloatKind.f64.format.order 14114281232179134464 x==some .lt||FloatKind.f64.format.order 14114281232179134464 x==some .eq)
  ·exact .inl rfl
  ·exact .inr ⟨rfl,h'⟩
theorem sS{x:Nat}(h:Flt.inR x=true):(FloatKind.f64.format.order 14114281232179134464 x==some .lt||FloatKind.f64.format.order 14114281232179134464 x==some .eq)=true∧(FloatKind.f64.format.order x 4890909195324358656==some .lt)=true:=by
 have h':((FloatKind.f64.format.order 14114281232179134464 x==some .lt||FloatKind.f64.format.order 14114281232179134464 x==some .eq)&&FloatKind.f64.format.order x 4890909195324358656==some .lt)=true:=h
 rw[Bool.and_eq_true] at h'
 exact h'
theorem pE(x:Nat)(h:((ak x:Int)==9223372036854775808)=true)(w:World):
  Calls Tryz.prog 116 #[.float .f64 x] w fun e w'=>e=.returned (.bool true)∧w'=w:=by
 refine(dC x w).mono ?_
 rintro e w' ⟨rfl,rfl⟩;exact⟨by rw[h],rfl⟩
theorem jL(x:Nat)(h:((ak x:Int)==9223372036854775808)=false)(w:World):
  Calls Tryz.prog 116 #[.float .f64 x] w fun e w'=>e=.returned (.bool false)∧w'=w:=by
 refine(dC x w).mono ?_
 rintro e w' ⟨rfl,rfl⟩;exact⟨by rw[h],rfl⟩
theorem lD(x:Nat)(n:Int)(w:World)(h:floatToIntVal .f64 x .i64=some n):(convert 33 2 (.float .f64 x)).run Tryz.prog w=.ok (.int .i64 n) w :=
 run_convert_float_int w 33 2 .f64 .i64 x n (by rw[Tryz.underlying33];rfl) Tryz.underlying2 h
theorem eg(x:Nat)(w:World):
  Calls Tryz.prog 117 #[.float .f64 x] w fun e w'=>e=.returned (.tuple #[.int .i64 (toN x),.int .i64 (toE x)])∧w'=w:=by
 cases hr:Flt.inR x
 ·have e1:toN x=0:=by simp[toN,okB,hr]
  have e2:toE x=10:=by simp[toE,okB,hr]
  rw[e1,e2]
  rcases sT hr with h | ⟨h,h'⟩
  all_goals
   clear hr e1 e2
   go_enter Tryz.func117,Tryz.ntmps117
   go_wp2
   go_ret2
   exact⟨rfl,rfl⟩
 ·obtain⟨h,h'⟩:=sS hr
  cases hz:((ak x:Int)==9223372036854775808)
  ·have hc:∀w,(convert 33 2 (.float .f64 x)).run Tryz.prog w=.ok (.int .i64 (Flt.trunc x)) w:=fun w=>lD x _ w (Flt.toInt_val hr)
   cases hw:Flt.whole x
   ·have hb:(FloatKind.f64.format.order (floatOfInt .f64 (Flt.trunc x)) x != some .eq)=true:=by
     have:=Flt.back_whole (Flt.inR_fin hr)
     rw[hw] at this
     exact congrArg not this
    have e1:toN x=0:=by simp[toN,okB,hw]
    have e2:toE x=10:=by simp[toE,okB,hw]
    rw[e1,e2]
    clear hr e1 e2 hw
    go_enter Tryz.func117,Tryz.ntmps117
    go_wp2_with (go_at_call 116;refine(jL _ hz _).mono ?_;rintro e w' ⟨rfl,rfl⟩)
    go_ret2
    exact⟨rfl,rfl⟩
   ·have hb:(FloatKind.f64.format.order (floatOfInt .f64 (Flt.trunc x)) x != some .eq)=false:=by
     have:=Flt.back_whole (Flt.inR_fin hr)
     rw[hw] at this
     exact congrArg not this
    have e1:toN x=Flt.trunc x:=by simp[toN,okB,hw,hr,hz]
    have e2:toE x=0:=by simp[toE,okB,hw,hr,hz]
    rw[e1,e2]
    clear hr e1 e2 hw
    go_enter Tryz.func117,Tryz.ntmps117
    go_wp2_with (go_at_call 116;refine(jL _ hz _).mono ?_;rintro e w' ⟨rfl,rfl⟩)
    go_ret2
    exact⟨rfl,rfl⟩
  ·have e1:toN x=0:=by simp[toN,okB,hz]
   have e2:toE x=10:=by simp[toE,okB,hz]
   rw[e1,e2]
   clear hr e1 e2
   go_enter Tryz.func117,Tryz.ntmps117
   go_wp2_with (go_at_call 116;refine(pE _ hz _).mono ?_;rintro e w' ⟨rfl,rfl⟩)
   go_ret2
   exact⟨rfl,rfl⟩
end
section
open Go.RowKit
theorem dy(k:FloatKind)(b:Nat):Op.unary .neg (.float k b)=pure (.float k (Op.negFloat k b)):=rfl
attribute [local go_sem] dy
def Tab(w : World): Prop := Lib.TabIs Tryz.prog w "internal/strconv.uint64pow10" .u64 Lib.pow10Tab
theorem fu(x:Nat)(hx:x<18446744073709551616)(w:World):
  Calls Tryz.prog 115 #[.float .f64 x,.int .i64 1] w fun e w'=>e=.returned (.bool (x==9218868437227405312))∧w'=w:=by
 rw[<-Flt.gt_max hx]
 clear hx
 go_enter Tryz.func115,Tryz.ntmps115
 go_wp2
 go_ret
 exact⟨rfl,rfl⟩
theorem fv(x:Nat)(hx:x<18446744073709551616)(w:World):
  Calls Tryz.prog 115 #[.float .f64 x,.int .i64 (-1)] w fun e w'=>e=.returned (.bool (x==18442240474082181120))∧w'=w:=by
 rw[<-Flt.gt_max_neg hx]
 clear hx
 go_enter Tryz.func115,Tryz.ntmps115
 go_wp2
 go_ret
 exact⟨rfl,rfl⟩
def bK(x:Nat):Bool:=okB x&&decide (-9007199254740992<Flt.trunc x)&&decide (Flt.trunc x<9007199254740992)
theorem eI{x:Nat}(h:bK x=true):bk x=false∧(x==9218868437227405312)=false∧(x==18442240474082181120)=false∧((ak x:Int)==9223372036854775808)=false∧toE x=0∧toN x=Flt.trunc x∧-9007199254740992<Flt.trunc x∧Flt.trunc x<9007199254740992:=by
 unfold bK at h
 simp only[Bool.and_eq_true,decide_eq_true_eq] at h
 obtain⟨⟨ho,h1⟩,h2⟩:=h
 have ho':=ho
 unfold okB at ho
 simp only[Bool.and_eq_true,Bool.not_eq_true'] at ho
 obtain⟨⟨hr,hz⟩,hw⟩:=ho
 have hf:=Flt.inR_fin hr
 have hn:bk x=false:=by
  have:=Flt.nan_iff x
  have h3:bk x=decide (9218868437227405312<Flt.rung x):=this
  rw[h3];simp;omega
 refine⟨hn,?_,?_,hz,by simp[toE,ho'],by simp[toN,ho'],h1,h2⟩
 ·rw[beq_eq_false_iff_ne];rintro rfl;revert hf;decide
 ·rw[beq_eq_false_iff_ne];rintro rfl;revert hf;decide
theorem ej{w w':World}(h:∃k os,w'=Sort.grow (w.drewN k) os):Below w.1.size w w':=by
 obtain⟨k,os,rfl⟩:=h
 exact Lib.below_grow _ w tX k os
theorem nC(x:Nat)(hx:x<18446744073709551616)(h:bK x=true)(w:World)(ht:Tab w):
  Calls Tryz.prog 73 #[.float .f64 x] w fun e w'=>e=.returned (.string ⟨(Lib.itoa (Flt.trunc x)).toArray⟩)∧Below w.1.size w w':=by
 obtain⟨h1,h2,h3,h4,h5,h6,h7,h8⟩:=eI h
 have i1:∀w,Calls Tryz.prog 114 #[.float .f64 x] w fun e w'=>e=.returned (.bool false)∧w'=w:=fun w=>by
  have:=ft x w;rwa [h1] at this
 have i2:∀w,Calls Tryz.prog 115 #[.float .f64 x,.int .i64 1] w fun e w'=>e=.returned (.bool false)∧w'=w:=fun w=>by
  have:=fu x hx w;rwa [h2] at this
 have i3:∀w,Calls Tryz.prog 115 #[.float .f64 x,.int .i64 (-1)] w fun e w'=>e=.returned (.bool false)∧w'=w:=fun w=>by
  have:=fv x hx w;rwa [h3] at this
 have i4:∀w,Calls Tryz.prog 117 #[.float .f64 x] w fun e w'=>e=.returned (.tuple #[.int .i64 (Flt.trunc x),.int .i64 0])∧w'=w:=fun w=>by
  have:=eg x w;rwa [h5,h6] at this
 have i5:=fun w=>jL x h4 w
 have I1:=tQ i1
 have I2:=tQ i2
 have I3:=tQ i3
 have I4:=tQ i4
 have I5:=tQ i5
 have HT:=tQ ht
 clear i1 i2 i3 i4 i5 h h1 h2 h3 h4 h5 h6 hx ht
 go_enter Tryz.func73,Tryz.ntmps73
 go_wp2_with fail
 refine(I1.out _).mono ?_
 rintro e w' ⟨rfl,rfl⟩
 go_wp2_with fail
 refine(I2.out _).mono ?_
 rintro e w' ⟨rfl,rfl⟩
 go_wp2_with fail
 refine(I3.out _).mono ?_
 rintro e w' ⟨rfl,rfl⟩
 go_wp2_with fail
 refine(I5.out _).mono ?_
 rintro e w' ⟨rfl,rfl⟩
 go_wp2_with fail
 refine(I4.out _).mono ?_
 rintro e w' ⟨rfl,rfl⟩
 go_wp2_with fail
 refine(Tryz.strconv_FormatInt_10 _ (by omega) (by omega) _ HT.out).mono ?_
 rintro e w' ⟨rfl,hg⟩
 have hb:=tQ (ej hg)
 clear hg
 go_wp2
 go_ret
 exact⟨rfl,hb.out⟩
end
section
open Go.RowKit
theorem oJ{w w':World}(h:Tab w)(hb:Below w.1.size w w'):Tab w' :=
 Joins.tab_stays (show Tryz.prog.globalNamed "internal/strconv.uint64pow10"=some 2 by kernel_rfl) h hb tX
end
end Go.Proofs.YtllbniljgcgbeaaGreatDoor

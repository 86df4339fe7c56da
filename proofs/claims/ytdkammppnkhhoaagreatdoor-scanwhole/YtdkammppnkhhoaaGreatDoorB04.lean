import Derived.Test.YtdkammppnkhhoaaGreatDoorB01
import Derived.Deep.RegionHeld3
set_option maxRecDepth 100000
set_option maxHeartbeats 400000
namespace Go.Proofs.YtdkammppnkhhoaaGreatDoor
variable{B b c g j least n:Nat}{w w' w2 w3 w4:World}{l:L8}{v1 v2 v3 v4:Value}{k:Int}{p:OA}{C u:AV}{t:ByteArray}{T:TypeId}{o:Obj}
namespace Leb
def putF:Nat->Nat->L8
 |0,_=>[]
 |f+1,n=>if n<128 then [UInt8.ofNat n] else UInt8.ofNat (n % 128+128)::putF f (n / 128)
def put(n:Nat):L8:=putF 10 n
structure Got where
 err:Nat
 n:Nat
 k:Nat
def getF:Nat->Bool->L8->Got
 |0,_,_=>⟨5,0,0⟩
 |_+1,_,[]=>⟨30,0,0⟩
 |f+1,first,c::r=>
  if 127<c.toNat then
   let g:=getF f false r
   if g.err=0 then ⟨0,g.n*128+c.toNat % 128,g.k+1⟩ else g
  else if (f=0∧1<c.toNat)∨(first=false∧c.toNat=0) then ⟨5,0,0⟩ else ⟨0,c.toNat,1⟩
def get(l:L8):Got:=getF 10 true l
theorem byte_low(n:Nat)(h:n<128):(UInt8.ofNat n).toNat=n:=by
 rw[UInt8.toNat_ofNat'];omega
theorem byte_high(n:Nat):(UInt8.ofNat (n % 128+128)).toNat=n % 128+128:=by
 rw[UInt8.toNat_ofNat'];omega
def cap(f:Nat):Nat:=if f=10 then 18446744073709551616 else 128 ^ f
theorem getF_put(f:Nat)(first:Bool)(n:Nat)(r:L8)(h:n<2*128 ^ f)(y:first=true∨n≠0):getF (f+1) first (putF (f+1) n++r)=⟨0,n,(putF (f+1) n).length⟩:=by
 induction f generalizing first n with
 |zero=>
  have A:n<2:=by simpa using h
  have e:putF 1 n=[UInt8.ofNat n]:=by simp only[putF];rw[if_pos (by omega)]
  rw[e];simp only[List.cons_append,List.nil_append,getF,byte_low n (by omega),List.length_cons,List.length_nil];rw[if_neg (by omega),if_neg];rintro(⟨_,z⟩ | ⟨z,D⟩)
  ·omega
  ·rcases y with y | y
   ·rw[y] at z;cases z
   ·exact y D
 |succ f ih=>
  by_cases A:n<128
  ·have e:putF (f+1+1) n=[UInt8.ofNat n]:=(by simp only[putF];rw[if_pos A]);rw[e];simp only[List.cons_append,List.nil_append,getF,byte_low n A,List.length_cons,List.length_nil];rw[if_neg (by omega),if_neg];rintro(⟨z,_⟩ | ⟨z,D⟩)
   ·omega
   ·rcases y with y | y
    ·rw[y] at z;cases z
    ·exact y D
  ·have e:putF (f+1+1) n=UInt8.ofNat (n % 128+128)::putF (f+1) (n / 128):=by
    rw[putF,if_neg A]
   have z:n / 128<2*128 ^ f:=by
    rw[Nat.pow_succ] at h;rw[Nat.div_lt_iff_lt_mul (by omega)];omega
   have E:=ih false (n / 128) z (.inr (by omega));rw[e];rw[List.cons_append,getF];simp only[E,byte_high,List.length_cons];rw[if_pos (by omega),if_pos trivial];congr 1;omega
theorem get_put(n:Nat)(r:L8)(h:n<18446744073709551616):get (put n++r)=⟨0,n,(put n).length⟩:=by
 have e:2*128 ^ 9=18446744073709551616:=by decide
 exact getF_put 9 true n r (by rw[e];exact h) (.inl rfl)
theorem getF_ok(f:Nat)(first:Bool)(l:L8)(h:(getF (f+1) first l).err=0):
  (getF (f+1) first l).n<2*128 ^ f∧(first=true∨(getF (f+1) first l).n≠0)∧l.take (getF (f+1) first l).k=putF (f+1) (getF (f+1) first l).n∧(getF (f+1) first l).k<=l.length∧1<=(getF (f+1) first l).k:=by
 induction f generalizing first l with
 |zero=>
  cases l with
  |nil=>simp[getF] at h
  |cons c r=>
   rw[getF] at h ⊢;by_cases z:127<c.toNat
   ·rw[if_pos z] at h;simp[getF] at h
   ·rw[if_neg z] at h ⊢;by_cases y:(0=0∧1<c.toNat)∨(first=false∧c.toNat=0)
    ·rw[if_pos y] at h;simp at h
    ·rw[if_neg y];have c1:c.toNat<2:=(by omega);refine⟨by simpa using c1,?_,?_,by simp,by simp⟩
     ·cases first
      ·right;intro E;exact y (.inr ⟨rfl,E⟩)
      ·exact .inl rfl
     ·simp only[putF,List.take_succ_cons,List.take_zero];rw[if_pos (by omega)];congr 1;exact(UInt8.toNat_inj.1 (byte_low c.toNat (by omega))).symm
 |succ f ih=>
  cases l with
  |nil=>simp[getF] at h
  |cons c r=>
   have L:c.toNat<256:=c.toNat_lt;rw[getF] at h ⊢;by_cases z:127<c.toNat
   ·rw[if_pos z] at h ⊢;simp only at h ⊢;by_cases D:(getF (f+1) false r).err=0
    ·rw[if_pos D];obtain⟨O,A,K,U,W⟩:=ih false r D;have R:(getF (f+1) false r).n≠0:=by
      rcases A with A | A
      ·cases A
      ·exact A
     generalize getF (f+1) false r=g at *
     dsimp only;refine⟨?_,.inr (by omega),?_,by simp;omega,by simp⟩
     ·rw[Nat.pow_succ];omega
     ·have I:(g.n*128+c.toNat % 128) / 128=g.n:=(by omega);have J:(g.n*128+c.toNat % 128) % 128+128=c.toNat:=(by omega);rw[putF,if_neg (by omega),I,J,List.take_succ_cons,K];congr 1;apply UInt8.toNat_inj.1;rw[UInt8.toNat_ofNat'];omega
    ·rw[if_neg D] at h;exact absurd h D
   ·rw[if_neg z] at h ⊢;by_cases y:(f+1=0∧1<c.toNat)∨(first=false∧c.toNat=0)
    ·rw[if_pos y] at h;simp at h
    ·rw[if_neg y];have M:128<=128 ^ (f+1):=by
      have:=Nat.pow_le_pow_right (show 0<128 by omega) (show 1<=f+1 by omega);simpa using this
     refine⟨by simp only;omega,?_,?_,by simp,by simp⟩
     ·cases first
      ·right;intro E;exact y (.inr ⟨rfl,E⟩)
      ·exact .inl rfl
     ·simp only[putF,List.take_succ_cons,List.take_zero];rw[if_pos (by omega)];congr 1;exact(UInt8.toNat_inj.1 (byte_low c.toNat (by omega))).symm
theorem get_ok(l:L8)(h:(get l).err=0):(get l).n<18446744073709551616∧l.take (get l).k=put (get l).n∧(get l).k<=l.length∧1<=(get l).k:=by
 have e:2*128 ^ 9=18446744073709551616:=by decide
 obtain⟨y,_,z,A,D⟩:=getF_ok 9 true l h;rw[e] at y;exact⟨y,z,A,D⟩
theorem getF_bad(f:Nat):∀(first:Bool) (l:L8),(getF f first l).err≠0->(getF f first l).n=0∧(getF f first l).k=0:=by
 induction f with
 |zero=>intro first l _;exact⟨rfl,rfl⟩
 |succ f ih=>
  intro first l h
  cases l with
  |nil=>exact⟨rfl,rfl⟩
  |cons c r=>
   rw[getF] at h ⊢;by_cases z:127<c.toNat
   ·rw[if_pos z] at h ⊢;simp only at h ⊢;by_cases y:(getF f false r).err=0
    ·rw[if_pos y] at h;exact absurd rfl h
    ·rw[if_neg y];exact ih false r y
   ·rw[if_neg z] at h ⊢;by_cases A:(f=0∧1<c.toNat)∨(first=false∧c.toNat=0)
    ·rw[if_pos A];exact⟨rfl,rfl⟩
    ·rw[if_neg A] at h;exact absurd rfl h
theorem putF_pos(f n:Nat):1<=(putF (f+1) n).length:=by
 rw[putF];split <;> simp
theorem putF_le(f:Nat):∀n,(putF f n).length<=f:=by
 induction f with
 |zero=>intro n;simp[putF]
 |succ f ih=>intro n;rw[putF];split <;> simp;exact ih _
def zig(n:Int):Nat:=if 0<=n then 2*n.toNat else 2*(-(n+1)).toNat+1
def zag(u:Nat):Int:=if u % 2=0 then ((u / 2:Nat):Int) else -((u / 2:Nat):Int)-1
theorem zag_zig(n:Int):zag (zig n)=n:=by
 unfold zig;split
 ·unfold zag;rw[if_pos (by omega)];omega
 ·unfold zag;rw[if_neg (by omega)];omega
theorem zig_zag(u:Nat):zig (zag u)=u:=by
 unfold zag;split
 ·unfold zig;rw[if_pos (by omega)];omega
 ·unfold zig;rw[if_neg (by omega)];omega
def val:L8->Nat
 | []=>0
 |c::r=>val r*128+c.toNat % 128
def high:Nat->L8->Nat
 |0,_=>0
 |_+1,[]=>0
 |f+1,c::r=>if 127<c.toNat then high f r+1 else 0
theorem high_stop(f:Nat):∀(r:L8) (h:high f r<r.length),high f r<f->¬127<(r[high f r]).toNat:=by
 induction f with
 |zero=>intro r h z;omega
 |succ f ih=>
  intro r h z;cases r with
  |nil=>simp at h
  |cons c r=>
   by_cases y:127<c.toNat
   ·have e:high (f+1) (c::r)=high f r+1:=(by rw[high,if_pos y]);simp only[e] at h z ⊢;simp only[List.getElem_cons_succ];exact ih r (by simpa using h) (by omega)
   ·have e:high (f+1) (c::r)=0:=(by rw[high,if_neg y]);simp only[e,List.getElem_cons_zero];exact y
theorem high_eq(f:Nat):∀(r:L8) (k:Nat),k<=f->(hk:k<=r.length)->(∀j (h:j<r.length),j<k->127<r[j].toNat)->(k=f∨k=r.length∨∃h:k<r.length,¬127<r[k].toNat)->high f r=k:=by
 induction f with
 |zero=>intro r k E _ _ _;simp[high];omega
 |succ f ih=>
  intro r k E A D y;cases r with
  |nil=>simp at A;simp[high];omega
  |cons c r=>
   cases k with
   |zero=>
    rcases y with y | y | ⟨y,z⟩
    ·omega
    ·simp at y
    ·have I:¬127<c.toNat:=z;rw[high,if_neg I]
   |succ k=>
    have J:127<c.toNat:=D 0 (by simp) (by omega);rw[high,if_pos J,ih r k (by omega) (by simpa using A) (fun j h K=>by
     have:=D (j+1) (by simpa using h) (by omega)
     simpa using this) ?_]
    rcases y with y | y | ⟨y,z⟩
    ·exact .inl (by omega)
    ·exact .inr (.inl (by simpa using y))
    ·exact .inr (.inr ⟨by simpa using y,by simpa using z⟩)
theorem getF_high(f:Nat):∀(first:Bool) (r:L8),
  (high f r=f->getF f first r=⟨5,0,0⟩) ∧
  (high f r=r.length->high f r<f->getF f first r=⟨30,0,0⟩) ∧
  (∀h:high f r<r.length,high f r<f->getF f first r=if (high f r+1=f∧1<(r[high f r]).toNat)∨((first=false∨0<high f r)∧(r[high f r]).toNat=0) then ⟨5,0,0⟩ else ⟨0,val (r.take (high f r+1)),high f r+1⟩):=by
 induction f with
 |zero=>intro first r;exact⟨fun _=>rfl,fun _ h=>by omega,fun _ h=>by omega⟩
 |succ f ih=>
  intro first r
  cases r with
  |nil=>exact⟨fun h=>by simp[high] at h,fun _ _=>rfl,fun h=>by simp at h⟩
  |cons c r=>
   by_cases D:127<c.toNat
   ·have e:high (f+1) (c::r)=high f r+1:=(by rw[high,if_pos D]);obtain⟨M,O,L⟩:=ih false r;rw[e];refine⟨fun h=>?_,fun h K=>?_,fun h K=>?_⟩
    ·rw[getF,if_pos D];simp only;rw[M (by omega)];rfl
    ·rw[getF,if_pos D];simp only;rw[O (by simpa using h) (by omega)];rfl
    ·have E:high f r<r.length:=(by simpa using h);have hb:=high_stop f r E (by omega);by_cases z:(high f r+1=f∧1<(r[high f r]).toNat)∨((false=false∨0<high f r)∧(r[high f r]).toNat=0)
     ·have J:getF f false r=⟨5,0,0⟩:=(by rw[L E (by omega),if_pos z]);have I:(high f r+1+1=f+1∧1<(r[high f r]).toNat)∨((first=false∨0<high f r+1)∧(r[high f r]).toNat=0):=by
       rcases z with ⟨A,y⟩ | ⟨_,y⟩
       ·exact .inl ⟨by omega,y⟩
       ·exact .inr ⟨.inr (by omega),y⟩
      rw[getF,if_pos D];simp only[J,List.getElem_cons_succ];rw[if_pos I];rfl
     ·have J:getF f false r=⟨0,val (r.take (high f r+1)),high f r+1⟩:=(by rw[L E (by omega),if_neg z]);have I:¬((high f r+1+1=f+1∧1<(r[high f r]).toNat)∨((first=false∨0<high f r+1)∧(r[high f r]).toNat=0)):=by
       rintro(⟨A,y⟩ | ⟨_,y⟩)
       ·exact z (.inl ⟨by omega,y⟩)
       ·exact z (.inr ⟨.inl rfl,y⟩)
      rw[getF,if_pos D];simp only[J,List.getElem_cons_succ];rw[if_neg I];simp[val]
   ·have e:high (f+1) (c::r)=0:=(by rw[high,if_neg D]);rw[e];refine⟨fun h=>by omega,fun h _=>by simp at h,fun h K=>?_⟩;rw[getF,if_neg D];simp only[List.getElem_cons_zero];by_cases z:(f=0∧1<c.toNat)∨(first=false∧c.toNat=0)
    ·rw[if_pos z,if_pos];rcases z with ⟨A,y⟩ | ⟨A,y⟩
     ·exact .inl ⟨by omega,y⟩
     ·exact .inr ⟨.inl A,y⟩
    ·rw[if_neg z,if_neg]
     ·have:c.toNat % 128=c.toNat:=(by omega);simp[val,this]
     ·rintro(⟨A,y⟩ | ⟨A | A,y⟩)
      ·exact z (.inl ⟨by omega,y⟩)
      ·exact z (.inr ⟨A,y⟩)
      ·omega
theorem val_drop_le:∀(r:L8) (i:Nat),val (r.drop i)<=val r
 | [],i=>by simp[val]
 |c::r,0=>by simp
 |c::r,i+1=>by
  have:=val_drop_le r i;simp only[List.drop_succ_cons,val];omega
theorem val_drop(r:L8)(i:Nat)(h:i<r.length):val (r.drop i)=val (r.drop (i+1))*128+r[i].toNat % 128:=by
 rw[List.drop_eq_getElem_cons h,val]
def getAt(l:L8)(at_:Int):Got:=if at_<0 then ⟨30,0,0⟩ else get (l.drop at_.toNat)
def nextAt(l:L8)(at_:Int):Int:=if (getAt l at_).err=0 then at_+(getAt l at_).k else 0
theorem put_length_le(n:Nat):(put n).length<=10:=putF_le 10 n
theorem put_length_pos(n:Nat):1<=(put n).length:=putF_pos 9 n
end Leb
section
open Go.RowKit
def kI(x:Nat):Bool:=FloatKind.f64.format.order x x != some .eq
def aE(x:Nat):Nat:=if kI x then 9221120237041090560 else x
theorem su{x:Nat}(h:kI x=true):(FloatKind.f64.format.order x x != some .eq)=true:=h
theorem sv{x:Nat}(h:kI x=false):(FloatKind.f64.format.order x x != some .eq)=false:=h
theorem s5{x:Nat}(h:kI x=true):aE x=9221120237041090560:=by simp[aE,h]
theorem s7{x:Nat}(h:kI x=false):aE x=x:=by simp[aE,h]
theorem fG(x:Int)(w:World):(callFunc 200 #[.int .u64 x]).run Tryz.prog w=.ok (.value (.float .f64 x.toNat)) w:=by kernel_rfl
theorem lP(x:Nat)(w:World):(callFunc 142 #[.float .f64 x]).run Tryz.prog w=.ok (.value (.int .u64 x)) w:=by kernel_rfl
attribute [local go_sem] fG lP
theorem gQ(x:Nat)(w:World):
  Calls Tryz.prog 192 #[.float .f64 x] w fun e w'=>e=.returned (.float .f64 (aE x))∧w'=w:=by
 cases h:kI x
 ·have y:=sv h;rw[s7 h];clear h;go_enter Tryz.func192,Tryz.ntmps192;go_wp2;go_ret;exact⟨rfl,rfl⟩
 ·have y:=su h;rw[s5 h];clear h;go_enter Tryz.func192,Tryz.ntmps192;go_wp2;go_ret;exact⟨rfl,rfl⟩
theorem nC(x:Nat)(w:World):
  Calls Tryz.prog 202 #[.float .f64 x] w fun e w'=>e=.returned (.float .f64 (aE x))∧w'=w:=by
 cases h:kI x
 ·have y:=sv h;rw[s7 h];clear h;go_enter Tryz.func202,Tryz.ntmps202;go_wp2;go_ret;exact⟨rfl,rfl⟩
 ·have y:=su h;rw[s5 h];clear h;go_enter Tryz.func202,Tryz.ntmps202;go_wp2;go_ret;exact⟨rfl,rfl⟩
theorem aX(x:Nat)(w:World):
  Calls Tryz.prog 111 #[.float .f64 x] w fun e w'=>e=.returned (.int .u64 (aE x))∧w'=w:=by
 cases h:kI x
 ·have y:=sv h;rw[s7 h];clear h;go_enter Tryz.func111,Tryz.ntmps111;go_wp2;go_ret;exact⟨rfl,rfl⟩
 ·have y:=su h;rw[s5 h];clear h;go_enter Tryz.func111,Tryz.ntmps111;go_wp2;go_ret;exact⟨rfl,rfl⟩
theorem dT(x:Nat)(w:World):
  Calls Tryz.prog 176 #[.float .f64 x] w fun e w'=>e=.returned (.int .u64 (aE x))∧w'=w:=by
 go_enter Tryz.func176,Tryz.ntmps176;go_wp2_with (go_at_call 192;refine(gQ _ _).mono ?_;rintro e w' ⟨rfl,rfl⟩);go_ret;exact⟨rfl,rfl⟩
theorem nJ(x:Int)(w:World):
  Calls Tryz.prog 195 #[.int .u64 x] w fun e w'=>e=.returned (.float .f64 (aE x.toNat))∧w'=w:=by
 go_enter Tryz.func195,Tryz.ntmps195;go_wp2_with (go_at_call 192;refine(gQ _ _).mono ?_;rintro e w' ⟨rfl,rfl⟩);go_ret;exact⟨rfl,rfl⟩
theorem pJ(x:Int)(w:World):
  Calls Tryz.prog 197 #[.int .u64 x] w fun e w'=>e=.returned (.float .f64 (aE x.toNat))∧w'=w:=by
 go_enter Tryz.func197,Tryz.ntmps197;go_wp2_with (go_at_call 202;refine(nC _ _).mono ?_;rintro e w' ⟨rfl,rfl⟩);go_ret;exact⟨rfl,rfl⟩
theorem fL(x y:Nat)(w:World):
  Calls Tryz.prog 152 #[.float .f64 x,.float .f64 y] w fun e w'=>e=.returned (.bool ((aE x:Int)==(aE y:Int)))∧w'=w:=by
 go_enter Tryz.func152,Tryz.ntmps152;go_wp2_with (go_at_call 176;refine(dT _ _).mono ?_;rintro e w' ⟨rfl,rfl⟩);go_ret;exact⟨rfl,rfl⟩
theorem cV(x y:Nat)(w:World):
  Calls Tryz.prog 82 #[.float .f64 x,.float .f64 y] w fun e w'=>e=.returned (.bool ((aE x:Int)==(aE y:Int)))∧w'=w:=by
 go_enter Tryz.func82,Tryz.ntmps82;go_wp2_with (go_at_call 111;refine(aX _ _).mono ?_;rintro e w' ⟨rfl,rfl⟩);go_ret;exact⟨rfl,rfl⟩
end
section
structure V where
 kind:Int
 int:Int
 bits:Nat
 text:ByteArray
 items:List V
namespace V
theorem ind{P:V->Prop}(h:∀k i b t xs,(∀x∈xs,P x)->P (.mk k i b t xs)):∀v,P v:=fun v=>
 V.rec (motive_1:=P) (motive_2:=fun xs=>∀x∈xs,P x) (fun k i b t xs D=>h k i b t xs D) (fun x y=>by cases y)
  (fun x xs y A E z=>by
   rcases List.mem_cons.1 z with rfl | z
   ·exact y
   ·exact A E z) v
def fix(v:V):V:=match v with
 |.mk k i b t xs=>.mk k i (aE b) t (xs.map fix)
def fixL(xs:List V):List V:=xs.map fix
theorem fix_mk(k i:Int)(b:Nat)(t:ByteArray)(xs:List V):fix (.mk k i b t xs)=.mk k i (aE b) t (fixL xs):=by rw[fix,fixL]
theorem fixL_eq(xs:List V):fixL xs=xs.map fix:=rfl
def eqL:List (V->Bool)->List V->Bool
 | [],[]=>true
 |f::fs,y::ys=>f y&&eqL fs ys
 |_,_=>false
def exact(v:V):V->Bool:=match v with
 |.mk k i b t xs=>fun y=>k==y.kind&&i==y.int&&decide (t=y.text)&&b==y.bits&&eqL (xs.map exact) y.items
def same(v:V):V->Bool:=match v with
 |.mk k i b t xs=>fun y=>k==y.kind&&i==y.int&&decide (t=y.text)&&aE b==aE y.bits&&eqL (xs.map same) y.items
def sameL(xs ys:List V):Bool:=eqL (xs.map same) ys
theorem same_mk(k i:Int)(b:Nat)(t:ByteArray)(xs:List V)(A z:Int)(y:Nat)(D:ByteArray)(ys:List V):same (.mk k i b t xs) (.mk A z y D ys)=(k==A&&i==z&&decide (t=D)&&aE b==aE y&&sameL xs ys):=by rw[same,sameL]
theorem sameL_nil:sameL [] []=true:=rfl
theorem sameL_cons(x:V)(r:List V)(y:V)(s:List V):sameL (x::r) (y::s)=(same x y&&sameL r s):=rfl
theorem sameL_nc(y:V)(s:List V):sameL [] (y::s)=false:=rfl
theorem sameL_cn(x:V)(r:List V):sameL (x::r) []=false:=rfl
def ownB(k i:Int)(b:Nat)(t:ByteArray)(n:Nat):Bool :=
 decide (1<=k∧k<=7)&&(k==1||k==2||i==0)&&(k==3||aE b==0)&&(k==4||k==5||decide (t.toList=[]))&&(k==6||k==7||n==0)&&(k != 1||i==0||i==1)&&(k != 6||decide (n<2))
def own:V->Bool
 |.mk k i b t xs=>ownB k i b t xs.length
def first:List Nat->Nat
 | []=>0
 |e::r=>if e=0 then first r else e
def check(utf:ByteArray->Bool)(d:Nat)(v:V):Nat:=match v with
 |.mk k i b t xs=>if 4<d then 62 else if own (.mk k i b t xs)=false then 60 else if 1024<t.size then 2 else if 256<xs.length then 3 else if k=4∧utf t=false then 61 else first (xs.map (check utf (d+1)))
def checkL(utf:ByteArray->Bool)(d:Nat)(xs:List V):Nat:=first (xs.map (check utf d))
theorem check_mk(utf:ByteArray->Bool)(d:Nat)(k i:Int)(b:Nat)(t:ByteArray)(xs:List V):check utf d (.mk k i b t xs)=if 4<d then 62 else if own (.mk k i b t xs)=false then 60 else if 1024<t.size then 2 else if 256<xs.length then 3 else if k=4∧utf t=false then 61 else checkL utf (d+1) xs:=by rw[check,checkL]
theorem checkL_nil(utf:ByteArray->Bool)(d:Nat):checkL utf d []=0:=rfl
theorem checkL_cons(utf:ByteArray->Bool)(d:Nat)(x:V)(r:List V):checkL utf d (x::r)=if check utf d x=0 then checkL utf d r else check utf d x:=rfl
end V
end
section
open Go.RowKit
theorem cF{y W:World}(hb:Below B y W)(A:y.os=w.os)(D:y.tape=w.tape)(E:y.output=w.output)(z:y.1=w.1):Below B w W :=
 Below.trans ⟨A,D,E,by rw[z];exact xZ,fun k _=>by rw[z]⟩ hb
theorem ac{p:Addr}{v:Value}(hb:Below w.1.size w w')(h:w.cell? p=some v):w'.cell? p=some v:=by
 rw[hb.cell (World.block_lt_of_cell? _ _ h)];exact h
def cells5(k i:Int)(b:Nat)(t:ByteArray)(p:OA)(n c:Nat):AV:=#[.int .i64 k,.int .i64 i,.float .f64 b,.string t,.slice p n c]
def tA(w:World)(P:AV->V->Prop)(p:OA)(c:Nat)(xs:List V)(us:Nat->AV):Prop :=
 xs.length*64<=140737488351232∧xs.length<=c∧(xs≠[]->∃blk off,p=some ⟨blk,off,none⟩∧blk<w.1.size∧∀j,j<xs.length->∀m,m<5->w.cell? ⟨blk,off+j*5+m,none⟩=(us j)[m]?)∧∀j (h:j<xs.length),P (us j) xs[j]
def aC(w:World)(u:AV)(x:V):Prop :=
 ∀P:AV->V->Prop,(∀k i b t p c xs us,tA w P p c xs us->P (cells5 k i b t p xs.length c) (.mk k i b t xs))->P u x
theorem aC.mk{i:Int}{xs:List V}(us:Nat->AV)(E:xs.length*64<=140737488351232)(D:xs.length<=c)(I:xs≠[]->∃y A,p=some ⟨y,A,none⟩∧y<w.1.size∧∀j,j<xs.length->∀m,m<5->w.cell? ⟨y,A+j*5+m,none⟩=(us j)[m]?)(J:∀j (h:j<xs.length),aC w (us j) xs[j]):aC w (cells5 k i b t p xs.length c) (.mk k i b t xs) :=
 fun P z=>z k i b t p c xs us ⟨E,D,I,fun j h=>J j h P z⟩
theorem aC.inv{x:V}(h:aC w u x):∃k i b t p c xs us,u=cells5 k i b t p xs.length c∧x=.mk k i b t xs∧tA w (aC w) p c xs us:=by
 have:=h (fun u x=>aC w u x∧∃k i b t p c xs us,u=cells5 k i b t p xs.length c∧x=.mk k i b t xs∧tA w (aC w) p c xs us) (fun k i b t p c xs us ⟨z,A,D,E⟩=>
  ⟨.mk us z A D (fun j y=>(E j y).1),k,i,b,t,p,c,xs,us,rfl,rfl,z,A,D,fun j y=>(E j y).1⟩)
 exact this.2
theorem aC.on{v:V}(h:aC w u v)(hb:Below w.1.size w w'):aC w' u v:=by
 refine h (aC w') ?_;rintro k i b t p c xs us ⟨K,I,O,R⟩;refine .mk us K I (fun M=>?_) R;obtain⟨y,z,A,D,E⟩:=O M;refine⟨y,z,A,by have:=hb.size;omega,fun j J m L=>?_⟩;rw[hb.cell (p:=⟨y,z+j*5+m,none⟩) D];exact E j J m L
structure Item(w:World)(p:OA)(j:Nat)(u:AV):Prop where
 lies:∃blk off k i b t q n c,p=some ⟨blk,off,none⟩∧blk<w.1.size∧u=cells5 k i b t q n c∧w.cell? ⟨blk,off+j*5,none⟩=some (.int .i64 k)∧w.cell? ⟨blk,off+j*5+1,none⟩=some (.int .i64 i)∧w.cell? ⟨blk,off+j*5+2,none⟩=some (.float .f64 b)∧w.cell? ⟨blk,off+j*5+3,none⟩=some (.string t)∧w.cell? ⟨blk,off+j*5+4,none⟩=some (.slice q n c)
theorem aC.open{i:Int}{xs:List V}(h:aC w u (.mk k i b t xs)):
  ∃p c,u=cells5 k i b t p xs.length c∧xs.length*64<=140737488351232∧xs.length<=c∧∀j (y:j<xs.length),∃E,aC w E xs[j]∧Item w p j E:=by
 obtain⟨a1,a0,ak,a2,p,c,a4,us,rfl,D,R,z,W,A⟩:=h.inv;simp only[V.mk.injEq] at D;obtain⟨rfl,rfl,rfl,rfl,rfl⟩:=D;refine⟨p,c,rfl,R,z,fun j y=>⟨us j,A j y,?_⟩⟩;obtain⟨J,ah,L,M,O⟩:=W (fun z=>by rw[z] at y;simp at y);obtain⟨Z,Y,I,aj,q,K,ys,a3,X,-,-⟩:=(A j y).inv;have g:=fun m U=>O j y m U;rw[X] at g ⊢;exact⟨J,ah,Z,Y,I,aj,q,ys.length,K,L,M,rfl,g 0 (by omega),g 1 (by omega),g 2 (by omega),g 3 (by omega),g 4 (by omega)⟩
theorem Item.on(h:Item w p j u)(hb:Below w.1.size w w'):Item w' p j u:=by
 obtain⟨y,z,k,i,b,t,q,n,c,L,A,M,D,E,I,J,K⟩:=h.lies;refine⟨⟨y,z,k,i,b,t,q,n,c,L,by have:=hb.size;omega,M,?_,?_,?_,?_,?_⟩⟩
 ·rw[hb.cell (p:=⟨y,z+j*5,none⟩) A];exact D
 ·rw[hb.cell (p:=⟨y,z+j*5+1,none⟩) A];exact E
 ·rw[hb.cell (p:=⟨y,z+j*5+2,none⟩) A];exact I
 ·rw[hb.cell (p:=⟨y,z+j*5+3,none⟩) A];exact J
 ·rw[hb.cell (p:=⟨y,z+j*5+4,none⟩) A];exact K
end
section
structure Ty where
 kind:Int
 of:List Ty
namespace Ty
theorem ind{P:Ty->Prop}(h:∀k xs,(∀x∈xs,P x)->P (.mk k xs)):∀v,P v:=fun v=>
 Ty.rec (motive_1:=P) (motive_2:=fun xs=>∀x∈xs,P x) (fun k xs D=>h k xs D) (fun x y=>by cases y)
  (fun x xs y A E z=>by
   rcases List.mem_cons.1 z with rfl | z
   ·exact y
   ·exact A E z) v
def eqL:List (Ty->Bool)->List Ty->Bool
 | [],[]=>true
 |f::fs,y::ys=>f y&&eqL fs ys
 |_,_=>false
def same(v:Ty):Ty->Bool:=match v with
 |.mk k xs=>fun y=>k==y.kind&&eqL (xs.map same) y.of
def sameL(xs ys:List Ty):Bool:=eqL (xs.map same) ys
theorem same_mk(k:Int)(xs:List Ty)(y:Int)(ys:List Ty):same (.mk k xs) (.mk y ys)=(k==y&&sameL xs ys):=by rw[same,sameL]
theorem sameL_nil:sameL [] []=true:=rfl
theorem sameL_cons(x:Ty)(r:List Ty)(y:Ty)(s:List Ty):sameL (x::r) (y::s)=(same x y&&sameL r s):=rfl
theorem sameL_nc(y:Ty)(s:List Ty):sameL [] (y::s)=false:=rfl
theorem sameL_cn(x:Ty)(r:List Ty):sameL (x::r) []=false:=rfl
theorem sameL_ne:∀(xs ys:List Ty),xs.length≠ys.length->sameL xs ys=false
 | [],[],h=>absurd rfl h
 | [],_::_,_=>rfl
 |_::_,[],_=>rfl
 |x::r,y::s,h=>by rw[sameL_cons,sameL_ne r s (by simpa using h),Bool.and_false]
theorem sameL_at:∀(xs ys:List Ty) (j:Nat) (z:j<xs.length) (A:j<ys.length),same xs[j] ys[j]=false->sameL xs ys=false
 |x::r,y::s,0,_,_,h=>by rw[sameL_cons];simp at h;rw[h,Bool.false_and]
 |x::r,y::s,j+1,z,A,h=>by rw[sameL_cons,sameL_at r s j (by simpa using z) (by simpa using A) (by simpa using h),Bool.and_false]
theorem sameL_all:∀(xs ys:List Ty),xs.length=ys.length->(∀j (z:j<xs.length) (A:j<ys.length),same xs[j] ys[j]=true)->sameL xs ys=true
 | [],[],_,_=>rfl
 | [],_::_,h,_=>by simp at h
 |_::_,[],h,_=>by simp at h
 |x::r,y::s,h,ha=>by
  rw[sameL_cons,sameL_all r s (by simpa using h) (fun j z A=>by have:=ha (j+1) (by simpa using z) (by simpa using A);simpa using this)];have:=ha 0 (by simp) (by simp);simp at this;rw[this];rfl
theorem same_iff:∀a b:Ty,same a b=true↔a=b:=by
 intro a;refine Ty.ind (P:=fun a=>∀b,same a b=true↔a=b) ?_ a;intro k xs E c;have A:∀(xs ys:List Ty),(∀x∈xs,∀b,same x b=true↔x=b)->(sameL xs ys=true↔xs=ys):=by
  intro xs;induction xs with
  |nil=>intro ys _;cases ys <;> simp[sameL_nil,sameL_nc]
  |cons x r ihr=>
   intro ys z;cases ys with
   |nil=>simp[sameL_cn]
   |cons y s=>
    simp only[sameL_cons,Bool.and_eq_true,List.cons.injEq];rw[z x (by simp) y,ihr s (fun I D=>z I (by simp[D]))]
 obtain⟨J,ys⟩:=c;simp only[same_mk,Bool.and_eq_true,beq_iff_eq,Ty.mk.injEq];rw[A xs ys E]
def want(k:Int):Nat:=if k=6∨k=7 then 1 else 0
def check(d:Nat)(v:Ty):Nat:=match v with
 |.mk k xs=>if 4<d then 62 else if k<1∨7<k∨xs.length≠want k then 60 else V.first (xs.map (check (d+1)))
theorem check_mk(d:Nat)(k:Int)(xs:List Ty):check d (.mk k xs)=if 4<d then 62 else if k<1∨7<k∨xs.length≠want k then 60 else V.first (xs.map (check (d+1))):=by rw[check]
theorem check_leaf(d:Nat)(k:Int)(hd:¬4<d)(z:¬(k<1∨7<k))(y:want k=0):check d (.mk k [])=0:=by
 rw[check_mk,if_neg hd,if_neg (by simp[y];omega)];rfl
theorem check_one(d:Nat)(k:Int)(x:Ty)(hd:¬4<d)(z:¬(k<1∨7<k))(y:want k=1):check d (.mk k [x])=check (d+1) x:=by
 rw[check_mk,if_neg hd,if_neg (by simp[y];omega)];show(if check (d+1) x=0 then 0 else check (d+1) x)=_;split
 ·next h=>rw[h]
 ·rfl
end Ty
end
section
open Go.RowKit
def al(k:Int)(p:OA)(n c:Nat):AV:=#[.int .i64 k,.slice p n c]
def tC(w:World)(P:AV->Ty->Prop)(p:OA)(c:Nat)(xs:List Ty)(us:Nat->AV):Prop :=
 xs.length*32<=140737488351232∧xs.length<=c∧(xs≠[]->∃blk off,p=some ⟨blk,off,none⟩∧blk<w.1.size∧∀j,j<xs.length->∀m,m<2->w.cell? ⟨blk,off+j*2+m,none⟩=(us j)[m]?)∧∀j (h:j<xs.length),P (us j) xs[j]
def aD(w:World)(u:AV)(x:Ty):Prop :=
 ∀P:AV->Ty->Prop,(∀k p c xs us,tC w P p c xs us->P (al k p xs.length c) (.mk k xs))->P u x
theorem aD.mk{xs:List Ty}(us:Nat->AV)(E:xs.length*32<=140737488351232)(D:xs.length<=c)(I:xs≠[]->∃y A,p=some ⟨y,A,none⟩∧y<w.1.size∧∀j,j<xs.length->∀m,m<2->w.cell? ⟨y,A+j*2+m,none⟩=(us j)[m]?)(J:∀j (h:j<xs.length),aD w (us j) xs[j]):aD w (al k p xs.length c) (.mk k xs) :=
 fun P z=>z k p c xs us ⟨E,D,I,fun j h=>J j h P z⟩
theorem aD.inv{x:Ty}(h:aD w u x):∃k p c xs us,u=al k p xs.length c∧x=.mk k xs∧tC w (aD w) p c xs us:=by
 have:=h (fun u x=>aD w u x∧∃k p c xs us,u=al k p xs.length c∧x=.mk k xs∧tC w (aD w) p c xs us) (fun k p c xs us ⟨z,A,D,E⟩=>
  ⟨.mk us z A D (fun j y=>(E j y).1),k,p,c,xs,us,rfl,rfl,z,A,D,fun j y=>(E j y).1⟩)
 exact this.2
theorem aD.on{v:Ty}(h:aD w u v)(hb:Below w.1.size w w'):aD w' u v:=by
 refine h (aD w') ?_;rintro k p c xs us ⟨K,I,O,R⟩;refine .mk us K I (fun M=>?_) R;obtain⟨y,z,A,D,E⟩:=O M;refine⟨y,z,A,by have:=hb.size;omega,fun j J m L=>?_⟩;rw[hb.cell (p:=⟨y,z+j*2+m,none⟩) D];exact E j J m L
structure dH(w:World)(p:OA)(j:Nat)(u:AV):Prop where
 lies:∃blk off k q n c,p=some ⟨blk,off,none⟩∧blk<w.1.size∧u=al k q n c∧w.cell? ⟨blk,off+j*2,none⟩=some (.int .i64 k)∧w.cell? ⟨blk,off+j*2+1,none⟩=some (.slice q n c)
theorem dH.on(h:dH w p j u)(hb:Below w.1.size w w'):dH w' p j u:=by
 obtain⟨y,z,k,q,n,c,I,A,J,D,E⟩:=h.lies;refine⟨⟨y,z,k,q,n,c,I,by have:=hb.size;omega,J,?_,?_⟩⟩
 ·rw[hb.cell (p:=⟨y,z+j*2,none⟩) A];exact D
 ·rw[hb.cell (p:=⟨y,z+j*2+1,none⟩) A];exact E
theorem aD.open{xs:List Ty}(h:aD w u (.mk k xs)):
  ∃p c,u=al k p xs.length c∧xs.length*32<=140737488351232∧xs.length<=c∧∀j (y:j<xs.length),∃E,aD w E xs[j]∧dH w p j E:=by
 obtain⟨Z,p,c,aj,us,rfl,D,O,z,U,A⟩:=h.inv;simp only[Ty.mk.injEq] at D;obtain⟨rfl,rfl⟩:=D;refine⟨p,c,rfl,O,z,fun j y=>⟨us j,A j y,?_⟩⟩;obtain⟨I,Y,K,L,M⟩:=U (fun z=>by rw[z] at y;simp at y);obtain⟨X,q,J,ys,ah,W,-,-⟩:=(A j y).inv;have g:=fun m R=>M j y m R;rw[W] at g ⊢;exact⟨I,Y,X,q,ys.length,J,K,L,rfl,g 0 (by omega),g 1 (by omega)⟩
end
section
open Go.RowKit
namespace V
end V
theorem cr(t y:ByteArray):(t.toList==y.toList)=decide (t=y):=by
 rw[ByteArray.toList_eq,ByteArray.toList_eq];by_cases h:t=y
 ·rw[h];simp
 ·rw[decide_eq_false h,beq_eq_false_iff_ne];intro z;apply h;cases t;cases y
  simp only[ByteArray.mk.injEq];exact Array.toList_inj.1 z
theorem bz{a b:Int}(h:¬a=b):(a != b)=true:=by rw[bne_iff_ne];exact h
theorem cd{a b:Int}(h:a=b):(a != b)=false:=by rw[h];simp
attribute [local go_sem] fG lP
end
section
open Go.RowKit
structure tB(w:World)(P:(Nat->Prop)->AV->V->Prop)(F:Nat->Prop)(g off c:Nat)(xs:List V)(us:Nat->AV)(Fs:Nat->Nat->Prop):Prop where
 hl:xs.length*64<=140737488351232
 hc:xs.length<=c
 h5:∀j,j<xs.length->(us j).size=5
 hp:g<w.1.size∧∀j,j<xs.length->∀m,m<5->w.cell? ⟨g,off+j*5+m,none⟩=(us j)[m]?
 hf:∀j,j<xs.length->∀m,m<5->w.frozen? ⟨g,off+j*5+m,none⟩=false
 hg:F g
 hgs:∀j,j<xs.length->¬Fs j g
 hd:∀j n,j<xs.length->n<xs.length->j≠n->∀k,Fs j k->¬Fs n k
 hs:∀j,j<xs.length->∀k,Fs j k->F k
 hr:∀j (h:j<xs.length),P (Fs j) (us j) xs[j]
def bg(w:World)(F:Nat->Prop)(u:AV)(x:V):Prop :=
 ∀P:(Nat->Prop)->AV->V->Prop,(∀F k i b t p c,P F (cells5 k i b t p 0 c) (.mk k i b t [])) ->
  (∀F k i b t g off c xs us Fs,tB w P F g off c xs us Fs->P F (cells5 k i b t (.some ⟨g,off,.none⟩) xs.length c) (.mk k i b t xs))->P F u x
section
variable {w w':World} {F G:Nat->Prop} {u:AV} {x:V}
theorem bg.none{F:Nat->Prop}{i:Int}:bg w F (cells5 k i b t p 0 c) (.mk k i b t []):=fun _ y _=>y F k i b t p c
theorem bg.some{F:Nat->Prop}{i:Int}{y:Nat}{xs:List V}(us:Nat->AV)(Fs:Nat->Nat->Prop)(L:xs.length*64<=140737488351232)(E:xs.length<=c)(D:∀j,j<xs.length->(us j).size=5)(M:g<w.1.size∧∀j,j<xs.length->∀m,m<5->w.cell? ⟨g,y+j*5+m,.none⟩=(us j)[m]?)(I:∀j,j<xs.length->∀m,m<5->w.frozen? ⟨g,y+j*5+m,.none⟩=false)(J:F g)(K:∀j,j<xs.length->¬Fs j g)(hd:∀j n,j<xs.length->n<xs.length->j≠n->∀k,Fs j k->¬Fs n k)(R:∀j,j<xs.length->∀k,Fs j k->F k)(O:∀j (h:j<xs.length),bg w (Fs j) (us j) xs[j]):bg w F (cells5 k i b t (.some ⟨g,y,.none⟩) xs.length c) (.mk k i b t xs) :=
 fun P A z=>z F k i b t g y c xs us Fs ⟨L,E,D,M,I,J,K,hd,R,fun j h=>O j h P A z⟩
theorem bg.inv(h:bg w F u x):(∃k i b t p c,u=cells5 k i b t p 0 c∧x=.mk k i b t [])∨∃k i b t g y c xs us Fs,u=cells5 k i b t (.some ⟨g,y,.none⟩) xs.length c∧x=.mk k i b t xs∧tB w (bg w) F g y c xs us Fs:=by
 have:=h (fun F u x=>bg w F u x∧((∃k i b t p c,u=cells5 k i b t p 0 c∧x=.mk k i b t [])∨∃k i b t g y c xs us Fs,u=cells5 k i b t (.some ⟨g,y,.none⟩) xs.length c∧x=.mk k i b t xs∧tB w (bg w) F g y c xs us Fs))
  (fun F k i b t p c=>⟨.none,.inl ⟨k,i,b,t,p,c,rfl,rfl⟩⟩)
  (fun F k i b t g y c xs us Fs s=>⟨.some us Fs s.hl s.hc s.h5 s.hp s.hf s.hg s.hgs s.hd s.hs (fun j h=>(s.hr j h).1),.inr ⟨k,i,b,t,g,y,c,xs,us,Fs,rfl,rfl,s.hl,s.hc,s.h5,s.hp,s.hf,s.hg,s.hgs,s.hd,s.hs,fun j h=>(s.hr j h).1⟩⟩)
 exact this.2
theorem bg.five(h:bg w F u x):u.size=5:=by
 rcases h.inv with ⟨_,_,_,_,_,_,rfl,_⟩ | ⟨_,_,_,_,_,_,_,_,_,_,rfl,_⟩ <;> rfl
theorem bg.shape(h:bg w F u x):∃k i b t p n c,u=cells5 k i b t p n c:=by
 rcases h.inv with ⟨_,_,_,_,_,_,rfl,_⟩ | ⟨_,_,_,_,_,_,_,_,_,_,rfl,_⟩ <;> exact⟨_,_,_,_,_,_,_,rfl⟩
theorem bg.lies(h:bg w F u x):aC w u x :=
 h (fun _ u x=>aC w u x) (fun F k i b t p c=>aC.mk (xs:=[]) (fun _=>#[]) (by simp) (by simp) (fun y=>absurd rfl y) (fun j z=>by simp at z))
  (fun F k i b t g A c xs us Fs s=>aC.mk us s.hl s.hc (fun _=>⟨_,_,rfl,s.hp.1,s.hp.2⟩) s.hr)
theorem bg.aside(h:bg w F u x):∀{G:Nat->Prop} {w':World},Aside G w w'->(∀k,F k->¬G k)->bg w' F u x:=by
 intro G w' z;refine h (fun F u x=>(∀k,F k->¬G k)->bg w' F u x) ?_ ?_
 ·intro F k i b t p c _;exact .none
 ·intro F k i b t g I c xs us Fs s A;refine .some us Fs s.hl s.hc s.h5 ⟨Nat.lt_of_lt_of_le s.hp.1 z.size,fun j y m D=>?_⟩ (fun j y m D=>?_) s.hg s.hgs s.hd s.hs (fun j y=>s.hr j y fun k E=>A k (s.hs j y k E))
  ·rw[z.cell s.hp.1 (A _ s.hg)];exact s.hp.2 j y m D
  ·rw[z.frozen s.hp.1 (A _ s.hg)];exact s.hf j y m D
theorem bg.under(h:bg w F u x)(hb:Below B w w')(y:∀k,F k->k<B):bg w' F u x :=
 h.aside (G:=fun k=>B<=k) (fZ hb fun _ _ h=>h) fun k z A=>by have:=y k z;omega
theorem bg.mono(h:bg w F u x)(y:∀k,F k->G k):bg w G u x:=by
 rcases h.inv with ⟨k,i,b,t,p,c,rfl,rfl⟩ | ⟨k,i,b,t,g,D,c,xs,us,Fs,rfl,rfl,s⟩
 ·exact .none
 ·exact .some us Fs s.hl s.hc s.h5 s.hp s.hf (y _ s.hg) s.hgs s.hd (fun j z k A=>y k (s.hs j z k A)) s.hr
end
def flat(us:Nat->AV):Nat->List Value
 |0=>[]
 |n+1=>flat us n++(us n).toList
theorem mE(us:Nat->AV):∀n,(∀j,j<n->(us j).size=5)->(flat us n).length=n*5
 |0,_=>by simp[flat]
 |n+1,h=>by
  rw[flat,List.length_append,mE us n fun j y=>h j (by omega),Array.length_toList,h n (by omega)];omega
theorem flat_get(us:Nat->AV):∀n,(∀j,j<n->(us j).size=5)->∀j,j<n->∀m,m<5->(flat us n)[j*5+m]?=(us j)[m]?
 |0,_,j,y,_,_=>by omega
 |n+1,h,j,y,m,hm=>by
  have D:=mE us n fun j y=>h j (by omega);rw[flat];rcases Nat.lt_or_ge j n with z | z
  ·rw[List.getElem?_append_left (by omega),flat_get us n (fun j y=>h j (by omega)) j z m hm]
  ·have A:j=n:=(by omega);subst A;rw[List.getElem?_append_right (by omega),D,Nat.add_sub_cancel_left];simp
theorem dW(us y:Nat->AV):∀n,(∀j,j<n->us j=y j)->flat us n=flat y n
 |0,_=>rfl
 |n+1,h=>by rw[flat,flat,dW us y n fun j z=>h j (by omega),h n (by omega)]
structure bS(w:World)(B:Nat)(v:Value)(n:Nat)(us:Nat->AV)(Fs:Nat->Nat->Prop)(ys:List V):Prop where
 len:ys.length=n
 five:∀j,j<n->(us j).size=5
 row:w.ownsRow B 77 5 v n (flat us n)
 own:∀j (h:j<ys.length),bg w (Fs j) (us j) ys[j]
 apart:∀j m,j<n->m<n->j≠m->∀k,Fs j k->¬Fs m k
 beside:∀g,v.ownBlock=some g->∀j,j<n->¬Fs j g
 range:∀j,j<n->∀k,Fs j k->B<=k∧k<w.1.size
theorem kq(w:World)(B:Nat):bS w B (.slice none 0 0) 0 (fun _=>#[]) (fun _ _=>False) [] :=
 ⟨rfl,fun j y=>by omega,World.ownsRow_nil _ _ _ _,fun j y=>by simp at y,fun j m y=>by omega,fun g z=>by simp[Value.ownBlock] at z,fun j y=>by omega⟩
section
variable {w w':World} {B:Nat} {v:Value} {n:Nat} {us:Nat->AV} {Fs:Nat->Nat->Prop} {ys:List V}
theorem bS.aside{G:Nat->Prop}(h:bS w B v n us Fs ys)(z:Aside G w w')(I:∀g,v.ownBlock=some g->¬G g)(J:∀j,j<n->∀k,Fs j k->¬G k):bS w' B v n us Fs ys:=by
 refine⟨h.len,h.five,?_,fun j y=>(h.own j y).aside z (J j (by rw[<-h.len];exact y)),h.apart,h.beside,fun j y k D=>⟨(h.range j y k D).1,Nat.lt_of_lt_of_le (h.range j y k D).2 z.size⟩⟩;refine⟨h.row.1,?_⟩;rcases h.row.2 with K | ⟨g,cap,E,rfl,L,A,M⟩
 ·exact .inl K
 ·exact .inr ⟨g,cap,E,rfl,L,by rw[z.block g (Array.getElem?_eq_some_iff.1 A).1 (I g rfl)];exact A,M⟩
theorem bS.lt(h:bS w B v n us Fs ys):∀g,v.ownBlock=some g->B<=g∧g<w.1.size:=World.ownsRow.lt h.row
theorem bS.on(h:bS w B v n us Fs ys)(hb:Below w.1.size w w'):bS w' B v n us Fs ys :=
 h.aside (ae hb (fun _=>False)) (fun _ _ y=>y) (fun _ _ _ _ y=>y)
theorem bS.set(h:bS w B v n us Fs ys)(p:Addr)(u:Value)(E:p.block<B):bS (w.setCell p u) B v n us Fs ys :=
 h.aside (G:=fun k=>k=p.block) ((Aside.refl (fun k=>k=p.block) w).setCell (p:=p) (.inl rfl) u) (fun g z y=>by have:=(h.lt g z).1;omega) (fun j A k D y=>by have:=(h.range j A k D).1;omega)
theorem bS.step{F:Nat->Prop}{x:V}{cap:Nat}(h:bS w B v n us Fs ys)(hb:Below w.1.size w w2)(U:bg w2 F u x)(I:∀k,F k->w.1.size<=k∧k<w2.1.size)(L:Below w2.1.size w2 w3)(a0:B<=w.1.size)(Y:w4.ownsRow B 77 5 (.slice (some ⟨g,0,none⟩) (n+1) cap) (n+1) (flat us n++u.toList))(J:w3.grownBy w4 v.ownBlock)(D:v.ownBlock=some g∨g=w3.1.size):
  bS w4 B (.slice (some ⟨g,0,none⟩) (n+1) cap) (n+1) (fun j=>if j=n then u else us j) (fun j=>if j=n then F else Fs j) (ys++[x]):=by
 have a3:=hb.size;have a4:=L.size;have K:Aside (fun k=>v.ownBlock=some k) w2 w4:=by
  refine(ae L _).trans (G:=fun k=>v.ownBlock=some k) ⟨J.os,J.tape,J.output,J.size,fun k y W=>J.block k y (fun z=>W z.symm)⟩ (fun _ _ h=>h)
 have O:∀k,F k->¬v.ownBlock=some k:=fun k y z=>by have:=(h.lt k z).2;have:=(I k y).1;omega
 have a2:∀j,j<n+1->j≠n->j<n:=fun j ah aj=>by omega
 refine⟨by rw[List.length_append,h.len];rfl,fun j E=>?_,?_,fun j E=>?_,fun j m E a1 X k y=>?_,fun Z M j E=>?_,fun j E k y=>?_⟩
 ·split
  ·exact U.five
  ·exact h.five j (by omega)
 ·rw[flat,dW _ us n (fun j E=>by simp[show ¬j=n by omega])];simpa using Y
 ·rw[List.length_append,h.len,List.length_singleton] at E;by_cases A:j=n
  ·subst A;rw[if_pos rfl,if_pos rfl,List.getElem_append_right (by rw[h.len];exact xZ)];simp only[h.len,Nat.sub_self,List.getElem_singleton];exact U.aside K O
  ·rw[if_neg A,if_neg A,List.getElem_append_left (by rw[h.len];omega)];exact((h.own j (by rw[h.len];omega)).under hb (fun k y=>(h.range j (by omega) k y).2)).aside K (fun k y z=>h.beside k z j (by omega) y)
 ·by_cases A:j=n
  ·rw[if_pos A] at y;rw[if_neg (by omega)];exact fun z=>by have:=(h.range m (by omega) k z).2;have:=(I k y).1;omega
  ·rw[if_neg A] at y;by_cases R:m=n
   ·rw[if_pos R];exact fun z=>by have:=(h.range j (by omega) k y).2;have:=(I k z).1;omega
   ·rw[if_neg R];exact h.apart j m (by omega) (by omega) X k y
 ·simp only[Value.ownBlock,Option.some.injEq] at M;subst M;by_cases A:j=n
  ·rw[if_pos A];intro z;have:=I _ z;rcases D with D | D
   ·exact O _ z D
   ·omega
  ·rw[if_neg A];intro z;rcases D with D | D
   ·exact h.beside _ D j (by omega) z
   ·have:=(h.range j (by omega) _ z).2;omega
 ·have ak:=K.size;by_cases A:j=n
  ·rw[if_pos A] at y;have:=I k y;omega
  ·rw[if_neg A] at y;have:=h.range j (by omega) k y;omega
theorem bS.done(h:bS w B v n us Fs ys)(O:n*64<=140737488351232)(k i:Int)(b:Nat)(t:ByteArray):∃p c,v=.slice p n c∧bg w (fun k=>B<=k∧k<w.1.size) (cells5 k i b t p n c) (.mk k i b t ys):=by
 rcases h.row.2 with ⟨rfl,A⟩ | ⟨g,cap,X,rfl,I,z,J,Y,Z,K⟩
 ·have W:ys=[]:=List.eq_nil_of_length_eq_zero (by rw[h.len];exact A);subst W;subst A;exact⟨none,0,rfl,.none⟩
 ·refine⟨_,cap,rfl,?_⟩;have D:=(Array.getElem?_eq_some_iff.1 z).1;have R:=h.len;have L:∀q,q<n*5->w.cell? ⟨g,q,none⟩=(flat us n)[q]?:=fun q U=>by
   rw[<-K,List.getElem?_take_of_lt U];simp[World.cell?,z]
  subst R;refine .some us Fs O J h.five ⟨D,fun j y m E=>?_⟩ (fun j y m E=>by simp[World.frozen?,z]) ⟨I,D⟩ (fun j y=>h.beside g rfl j y) h.apart (fun j y k M=>h.range j y k M) h.own;rw[Nat.zero_add,L _ (by omega),flat_get us _ h.five j y m E]
end
end
section
open Go.RowKit
def zeroV:Value:=.agg (cells5 0 0 0 ⟨#[]⟩ none 0 0)
theorem wA:(Tryz.prog.info? 77).map (fun i=>(i.zero,i.size,i.bytes))=some (some zeroV,5,64):=by kernel_rfl
theorem vP{F:Nat->Prop}{x:V}(h:bg w F u x):∀a∈u.toList,a.oneCell'=true:=by
 have key:∀(k i:Int) (b:Nat) (t:ByteArray) (p:OA) (n c:Nat),∀a∈(cells5 k i b t p n c).toList,a.oneCell'=true:=by
  intro k i b t p n c a y;simp[cells5] at y;rcases y with rfl | rfl | rfl | rfl | rfl <;> rfl
 obtain⟨_,_,_,_,_,_,_,rfl⟩:=h.shape;exact key _ _ _ _ _ _ _
theorem aa{y:Nat×Nat}(h:w.1[b]?=some (.cells C T y))(m:Nat):w.cell? ⟨b,m,none⟩=C[m]?:=by
 simp[World.cell?,h]
theorem cQ4{y:Nat×Nat}{v0:Value}(h:w.1[b]?=some (.cells #[v0,v1,v2,v3] T y)):w.cell? ⟨b,0,none⟩=some v0∧w.cell? ⟨b,1,none⟩=some v1∧w.cell? ⟨b,2,none⟩=some v2∧w.cell? ⟨b,3,none⟩=some v3:=⟨aa h 0,aa h 1,aa h 2,aa h 3⟩
theorem cQ5{y:Nat×Nat}{v0:Value}(h:w.1[b]?=some (.cells #[v0,v1,v2,v3,v4] T y)):w.cell? ⟨b,0,none⟩=some v0∧w.cell? ⟨b,1,none⟩=some v1∧w.cell? ⟨b,2,none⟩=some v2∧w.cell? ⟨b,3,none⟩=some v3∧w.cell? ⟨b,4,none⟩=some v4:=⟨aa h 0,aa h 1,aa h 2,aa h 3,aa h 4⟩
theorem cQ9{E:Nat×Nat}{v0 y z A D:Value}(h:w.1[b]?=some (.cells #[v0,v1,v2,v3,v4,y,z,A,D] T E)):w.cell? ⟨b,0,none⟩=some v0∧w.cell? ⟨b,1,none⟩=some v1∧w.cell? ⟨b,2,none⟩=some v2∧w.cell? ⟨b,3,none⟩=some v3∧w.cell? ⟨b,4,none⟩=some v4∧w.cell? ⟨b,5,none⟩=some y∧w.cell? ⟨b,6,none⟩=some z∧w.cell? ⟨b,7,none⟩=some A∧w.cell? ⟨b,8,none⟩=some D:=⟨aa h 0,aa h 1,aa h 2,aa h 3,aa h 4,aa h 5,aa h 6,aa h 7,aa h 8⟩
theorem ab(h:w.1[b]?=some (.cells C T (0,0)))(m:Nat):w.frozen? ⟨b,m,none⟩=false:=by
 simp[World.frozen?,h]
theorem az(h:w.1[b]?=some o):b<w.1.size:=(Array.getElem?_eq_some_iff.1 h).1
theorem lg(h:w.1[b]?=some o)(hb:Below B w w')(y:b<B):w'.1[b]?=some o:=(hb.block b y).trans h
theorem ag(w:World)(o:Obj):(w.alloc o).1[w.1.size]?=some o:=by
 show(w.1.push o)[w.1.size]?=_;simp
theorem aG(w:World)(o:Obj){k:Nat}(h:k<w.1.size):(w.alloc o).1[k]?=w.1[k]?:=by
 show(w.1.push o)[k]?=_;rw[Array.getElem?_push,if_neg (by omega)]
theorem an(h:w.1[b]?=some (.cells C T (0,0)))(m:Nat)(u:Value):(w.setCell ⟨b,m,none⟩ u).1[b]?=some (.cells (C.set! m u) T (0,0)):=by
 simp[World.setCell,Array.getElem?_modify,h]
theorem cD(h:w.1[b]?=some o)(p:Addr)(u:Value)(y:b≠p.block):(w.setCell p u).1[b]?=some o:=(Below.heap_setCell _ _ _ _ y).trans h
theorem am(P:Program)(w:World)(a:Addr)(m:Mode)(k:FloatKind)(x:Nat):(store a (.float k x) m).run P w=stored P w a (.float k x) m:=run_store P w a _ m rfl
section
variable {B:Nat} {v:Value} {n:Nat} {us:Nat->AV} {w:World} {u:AV} {ad H:Nat}
theorem ks(Y:w.ownsRow B 77 5 v n (flat us n))(I:u.size=5)(z:∀a∈u.toList,a.oneCell'=true)(M:w.1[ad]?=some (.cells u 77 (0,0)))(W:(n+1)*64<=140737488355328)(J:B<=w.1.size)(K:w.1.size=H){ops:Array Oper}{rest:List Oper}{o:Oper}{a:Act}{Q:Exit->Act->World->Prop}{y x:Operand}(R:o.guard=none)(X:o.op=Op.call { callee:=Callee.builtin Builtin.append,args:=#[y,x],argTypes:=#[75,75] })(Z:a.eval y=v)(aj:a.eval x=.slice (some ⟨ad,0,none⟩) 1 1)(L:∀g cap w',w'.ownsRow B 77 5 (.slice (some ⟨g,0,none⟩) (n+1) cap) (n+1) (flat us n++u.toList)->w.grownBy w' v.ownBlock->(v.ownBlock=some g∨g=H)->wpList Tryz.prog ops Q rest (a.put o.dst (.slice (some ⟨g,0,none⟩) (n+1) cap)) w'):
  wpList Tryz.prog ops Q (o::rest) a w:=by
 obtain⟨i,U,ak,ah,O⟩:=info_parts wA
 exact wpList_append_lies w R y x 75 X B 77 i zeroV 5 64 Tryz.underlying75 U ak ah O rfl (by decide) v n (flat us n) Z Y ⟨ad,0,none⟩ 1 1 u.toList aj (by simp[I])
  (World.news_of_block M) z (by decide) (by unfold maxLen;omega) W J H K fun g cap w' A D E _=>L g cap w' A D E
end
end
section
open Go.RowKit
attribute [local go_sem] am
structure jr(w:World)(C0:AV)(k i:Int)(b:Nat)(t:ByteArray)(zs:List V)(j:Nat)(v:Value)(wr:World):Prop where
 built:∃us Fs,bS wr (w.1.size+3) v j us Fs (zs.take j)
 b0:wr.1[w.1.size]?=some (.cells C0 77 (0,0))
 b1:wr.1[w.1.size+1]?=some (.cells (cells5 0 0 0 ⟨#[]⟩ none 0 0) 77 (0,0))
 b2:wr.1[w.1.size+2]?=some (.cells #[.int .i64 k,.int .i64 i,.float .f64 b,.string t,v] 77 (0,0))
 below:Below w.1.size w wr
 size:w.1.size+3<=wr.1.size
section
variable {w wr:World} {C0:AV} {k i:Int} {b:Nat} {t:ByteArray} {zs:List V} {j:Nat} {v:Value}
theorem jr.slice(h:jr w C0 k i b t zs j v wr):∃p c,v=.slice p j c:=by
 obtain⟨us,Fs,hb⟩:=h.built;rcases hb.row.2 with ⟨y,z⟩ | ⟨g,cap,A,y,_⟩
 ·exact⟨none,0,by rw[y,z]⟩
 ·exact⟨_,cap,y⟩
theorem jr.next{F:Nat->Prop}{cap:Nat}{us:Nat->AV}{Fs:Nat->Nat->Prop}(h:jr w C0 k i b t zs j v wr)(A:bS wr (w.1.size+3) v j us Fs (zs.take j))(K:j<zs.length)(hb:Below wr.1.size wr w2)(U:bg w2 F u zs[j])(I:∀k,F k->wr.1.size<=k∧k<w2.1.size)(y:Below w2.1.size w2 w3)(M:w4.ownsRow (w.1.size+3) 77 5 (.slice (some ⟨g,0,none⟩) (j+1) cap) (j+1) (flat us j++u.toList))(z:w3.grownBy w4 v.ownBlock)(E:v.ownBlock=some g∨g=w3.1.size):
  Below w.1.size w w4∧(∀n,n<3->w4.1[w.1.size+n]?=wr.1[w.1.size+n]?)∧jr w C0 k i b t zs (j+1) (.slice (some ⟨g,0,none⟩) (j+1) cap) (w4.setCell ⟨w.1.size+2,4,none⟩ (.slice (some ⟨g,0,none⟩) (j+1) cap)):=by
 have O:=h.size;have W:=hb.size;have X:=y.size;have R:=A.step hb U I y O M z E;have hold:∀n,n<3->w4.1[w.1.size+n]?=wr.1[w.1.size+n]?:=fun n E=>by
  rw[z.block _ (by omega) (fun J=>by have:=(A.lt _ J.symm).1;omega),y.block _ (by omega),hb.block _ (by omega)]
 have D:Below w.1.size w w4:=((h.below.trans (hb.mono (by omega))).trans (y.mono (by omega))).grown z (by omega) (fun k L=>by have:=(A.lt k L).1;omega);refine⟨D,hold,⟨⟨(fun n=>if n=j then u else us n),(fun n=>if n=j then F else Fs n),?_⟩,?_,?_,?_,?_,?_⟩⟩
 ·rw[List.take_succ_eq_append_getElem K];exact R.set ⟨w.1.size+2,4,none⟩ _ (by show w.1.size+2<_;omega)
 ·have:=hold 0 (by omega);rw[Nat.add_zero] at this;exact cD (this.trans h.b0) _ _ (by show w.1.size≠w.1.size+2;omega)
 ·exact cD ((hold 1 (by omega)).trans h.b1) _ _ (by show w.1.size+1≠w.1.size+2;omega)
 ·rw[an ((hold 2 (by omega)).trans h.b2)];rfl
 ·exact D.setCell (by show w.1.size<=w.1.size+2;omega) _
 ·have:=z.size;simp[World.setCell];omega
def nN(w:World)(g:Nat)(k i:Int)(b:Nat)(t:ByteArray)(v:Value):World :=
 ((((w.setCell ⟨g,0,none⟩ (.int .i64 k)).setCell ⟨g,1,none⟩ (.int .i64 i)).setCell ⟨g,2,none⟩ (.float .f64 b)).setCell ⟨g,3,none⟩ (.string t)).setCell ⟨g,4,none⟩ v
end
end
section
open Go.RowKit
namespace V
theorem sameL_ne:∀(xs ys:List V),xs.length≠ys.length->sameL xs ys=false
 | [],[],h=>absurd rfl h
 | [],_::_,_=>rfl
 |_::_,[],_=>rfl
 |x::r,y::s,h=>by rw[sameL_cons,sameL_ne r s (by simpa using h),Bool.and_false]
theorem sameL_at:∀(xs ys:List V) (j:Nat) (z:j<xs.length) (A:j<ys.length),same xs[j] ys[j]=false->sameL xs ys=false
 |x::r,y::s,0,_,_,h=>by rw[sameL_cons];simp at h;rw[h,Bool.false_and]
 |x::r,y::s,j+1,z,A,h=>by rw[sameL_cons,sameL_at r s j (by simpa using z) (by simpa using A) (by simpa using h),Bool.and_false]
theorem sameL_all:∀(xs ys:List V),xs.length=ys.length->(∀j (z:j<xs.length) (A:j<ys.length),same xs[j] ys[j]=true)->sameL xs ys=true
 | [],[],_,_=>rfl
 | [],_::_,h,_=>by simp at h
 |_::_,[],h,_=>by simp at h
 |x::r,y::s,h,ha=>by
  rw[sameL_cons,sameL_all r s (by simpa using h) (fun j z A=>by have:=ha (j+1) (by simpa using z) (by simpa using A);simpa using this)];have:=ha 0 (by simp) (by simp);simp at this;rw[this];rfl
end V
def dG(w:World)(p:OA)(xs:List V):Prop:=∀j (hj:j<xs.length),∃u',aC w u' xs[j]∧Item w p j u'
theorem dG.on{xs:List V}(h:dG w p xs)(hb:Below w.1.size w w'):dG w' p xs:=fun j A=>by
 obtain⟨D,y,z⟩:=h j A;exact⟨D,y.on hb,z.on hb⟩
theorem iV(xs:List V)(ak:∀x∈xs,∀(y:V) (w:World) (u v:AV),aC w u x->aC w v y->Calls Tryz.prog 57 #[.agg u,.agg v] w fun e w'=>e=.returned (.bool (V.same x y))∧Below w.1.size w w')(ys:List V)(w:World)(p q:OA)(c d:Nat)(ah:dG w p xs)(aj:dG w q ys)(df:xs.length*64<=140737488351232):
  Calls Tryz.prog 83 #[.slice p xs.length c,.slice q ys.length d] w fun e w'=>e=.returned (.bool (V.sameL xs ys))∧Below w.1.size w w':=by
 by_cases z:¬xs.length=ys.length
 ·have cj:((xs.length:Int) != (ys.length:Int))=true:=bz (by omega);have E:Hid (V.sameL xs ys=false):=V.sameL_ne xs ys z;clear ak ah aj z;go_enter Tryz.func83,Tryz.ntmps83;go_wp2;go_ret;exact⟨by rw[E.out];rfl,xY⟩
 replace z:xs.length=ys.length:=Classical.not_not.1 z
 have cj:((xs.length:Int) != (ys.length:Int))=false:=cd (by omega);have cc:=xX ah;have ci:=xX aj;have b9:=xX ak;have a1:=xX z;clear ak ah aj z;go_enter Tryz.func83,Tryz.ntmps83;go_wp2;go_loopw [5,6] (fun a0 _ wr=>∃j:Nat,j<=xs.length∧a0=.int .i64 j∧Hid (Below w.1.size w wr∧∀m (K:m<xs.length) (L:m<ys.length),m<j->V.same xs[m] ys[m]=true)) (fun a0 _ _=>xs.length-(intOf a0).toNat);case atStart=>exact⟨0,by omega,rfl,xY,fun m _ _ h=>by omega⟩
 case round=>
  obtain⟨j,c6,rfl,I⟩:=hrel;have A:Below w.1.size w wr:=I.out.1;by_cases W:j<xs.length
  ·have bs:j<ys.length:=(by have:=a1.out;omega);obtain⟨dp,bN,bp⟩:=cc.out j W;obtain⟨dr,bO,bq⟩:=ci.out j bs;obtain⟨bx,M,b0,bT,bk,b6,b4,b2,be,rfl,_,rfl,a3,a4,a5,a6,a7⟩:=(bp.on A).lies;obtain⟨J,O,b1,bX,bl,b7,b5,b3,bj,rfl,_,rfl,a8,a9,bb,bc,bd⟩:=(bq.on A).lies
   have U:Hid (∀w',Below w.1.size w w'->Calls Tryz.prog 57 #[.agg #[.int .i64 b0,.int .i64 bT,.float .f64 bk,.string b6,.slice b4 b2 be],.agg #[.int .i64 b1,.int .i64 bX,.float .f64 bl,.string b7,.slice b5 b3 bj]] w' fun e cn=>e=.returned (.bool (V.same xs[j] ys[j]))∧Below w'.1.size w' cn) :=
    fun w' hb=>b9.out _ (List.getElem_mem W) ys[j] w' _ _ (bN.on hb) (bO.on hb)
   have D:=xX A;have X:=xX I.out.2;have c7:(j:Int)<(xs.length:Int):=(by omega);have c8:(j:Int)<(ys.length:Int):=(by omega);obtain⟨r,Z⟩:∃r,r=V.same xs[j] ys[j]:=⟨_,rfl⟩;rw[<-Z] at U;have a2:=xX Z;clear bN bO bp bq A I Z;go_wp2_with fail
   go_region_held3 (fun w'=>w'.cell? ⟨bx,M+j*5,none⟩=some (.int .i64 b0)∧w'.cell? ⟨bx,M+j*5+1,none⟩=some (.int .i64 bT)∧w'.cell? ⟨bx,M+j*5+2,none⟩=some (.float .f64 bk)∧w'.cell? ⟨bx,M+j*5+3,none⟩=some (.string b6)∧w'.cell? ⟨bx,M+j*5+4,none⟩=some (.slice b4 b2 be)∧w'.cell? ⟨J,O+j*5,none⟩=some (.int .i64 b1)∧w'.cell? ⟨J,O+j*5+1,none⟩=some (.int .i64 bX)∧w'.cell? ⟨J,O+j*5+2,none⟩=some (.float .f64 bl)∧w'.cell? ⟨J,O+j*5+3,none⟩=some (.string b7)∧w'.cell? ⟨J,O+j*5+4,none⟩=some (.slice b5 b3 bj)) (go_keep) (first|(go_at_call 57;refine(U.out _ (below_drewN D.out _)).mono ?_;rintro e w4 ⟨rfl,bn⟩;have hb5:=cF (w:=wr) bn (by rfl) (by rfl) (by rfl) (by rfl);have cs:=ac hb5 a3;have ct:=ac hb5 a4;have cv:=ac hb5 a5;have cw:=ac hb5 a6;have cx:=ac hb5 a7;have cy:=ac hb5 a8;have c5:=ac hb5 a9;have co:=ac hb5 bb;have cp:=ac hb5 bc;have cq:=ac hb5 bd;have R:=xX hb5;clear bn hb5))
   clear cs ct cv cw cx cy c5 co cp cq a3 a4 a5 a6 a7 a8 a9 bb bc bd;cases r with
   |true=>
    have cb:Hid (Below w.1.size w w4∧∀m (K:m<xs.length) (L:m<ys.length),m<j+1->V.same xs[m] ys[m]=true):=by
     refine⟨D.out.trans (R.out.mono D.out.size),fun m K L dd=>?_⟩;by_cases ck:m=j
     ·subst ck;exact a2.out.symm
     ·exact X.out m K L (by omega)
    clear R X U;go_wp2;go_roundw;case rel=>exact⟨j+1,by omega,by go_num,cb⟩
    case measure=>simp[intOf];omega
   |false=>
    have E:Hid (V.sameL xs ys=false):=V.sameL_at xs ys j W bs a2.out.symm;have Y:=xX (D.out.trans (R.out.mono D.out.size));clear R X U;go_wp2;go_ret;exact⟨by rw[E.out];rfl,Y.out⟩
  ·have E:Hid (V.sameL xs ys=true):=V.sameL_all xs ys a1.out (fun m K L=>I.out.2 m K L (by omega));have Y:=xX A;have c9:¬(j:Int)<(xs.length:Int):=(by omega);clear I A W;go_wp2;go_ret;exact⟨by rw[E.out];rfl,Y.out⟩
theorem bQ{a b:Int}(h:a=b):(a==b)=true:=by rw[h];simp
theorem aK{a b:Int}(h:¬a=b):(a==b)=false:=by rw[beq_eq_false_iff_ne];exact h
theorem lV:∀(x X:V) (w:World) (u v:AV),aC w u x->aC w v X->Calls Tryz.prog 57 #[.agg u,.agg v] w fun e w'=>e=.returned (.bool (V.same x X))∧Below w.1.size w w':=by
 intro x;refine V.ind (P:=fun x=>∀(X:V) (w:World) (u v:AV),aC w u x->aC w v X->Calls Tryz.prog 57 #[.agg u,.agg v] w fun e w'=>e=.returned (.bool (V.same x X))∧Below w.1.size w w') ?_ x;rintro k i b t xs W ⟨L,K,y,E,ys⟩ w u v aj ak;obtain⟨p,c,rfl,a6,a8,R⟩:=aj.open;obtain⟨q,d,rfl,bb,a9,U⟩:=ak.open;unfold cells5;have Y:Below w.1.size w ((w.alloc (.cells #[.int .i64 k,.int .i64 i,.float .f64 b,.string t,.slice p xs.length c] 77)).alloc (.cells #[.int .i64 L,.int .i64 K,.float .f64 y,.string E,.slice q ys.length d] 77)):=xV.alloc (by simp) _;have M:=xX Y;clear Y aj ak;by_cases A:¬k=L
 ·have a2:=aK A;have I:Hid (V.same (.mk k i b t xs) (.mk L K y E ys)=false):=by show _=_;simp[V.same_mk,A]
  clear W R U A;go_enter Tryz.func57,Tryz.ntmps57;go_wp2_with fail;refine(cV b y _).mono ?_;rintro e w1 ⟨rfl,z⟩;rw[z];clear z w1;go_wp2;go_ret;exact⟨by rw[I.out];rfl,M.out⟩
 replace A:k=L:=Classical.not_not.1 A
 have a2:=bQ A;by_cases D:¬i=K
 ·have a3:=aK D;have I:Hid (V.same (.mk k i b t xs) (.mk L K y E ys)=false):=by show _=_;simp[V.same_mk,D]
  clear W R U A D;go_enter Tryz.func57,Tryz.ntmps57;go_wp2_with fail;refine(cV b y _).mono ?_;rintro e w1 ⟨rfl,z⟩;rw[z];clear z w1;go_wp2;go_ret;exact⟨by rw[I.out];rfl,M.out⟩
 replace D:i=K:=Classical.not_not.1 D
 have a3:=bQ D;by_cases J:¬t=E
 ·have a4:(t.toList==E.toList)=false:=by rw[cr,decide_eq_false J]
  have I:Hid (V.same (.mk k i b t xs) (.mk L K y E ys)=false):=by show _=_;simp[V.same_mk,J]
  clear W R U A D J;go_enter Tryz.func57,Tryz.ntmps57;go_wp2_with fail;refine(cV b y _).mono ?_;rintro e w1 ⟨rfl,z⟩;rw[z];clear z w1;go_wp2;go_ret;exact⟨by rw[I.out];rfl,M.out⟩
 replace J:t=E:=Classical.not_not.1 J
 have a4:(t.toList==E.toList)=true:=by rw[cr,decide_eq_true J]
 by_cases O:¬aE b=aE y
 ·have a5:((aE b:Int)==(aE y:Int))=false:=aK (by omega);have I:Hid (V.same (.mk k i b t xs) (.mk L K y E ys)=false):=by show _=_;simp[V.same_mk,O]
  clear W R U A D J O;go_enter Tryz.func57,Tryz.ntmps57;go_wp2_with fail;refine(cV b y _).mono ?_;rintro e w1 ⟨rfl,z⟩;rw[z];clear z w1;go_wp2;go_ret;exact⟨by rw[I.out];rfl,M.out⟩
 replace O:aE b=aE y:=Classical.not_not.1 O
 have a5:((aE b:Int)==(aE y:Int))=true:=bQ (by omega);have I:Hid (V.same (.mk k i b t xs) (.mk L K y E ys)=V.sameL xs ys):=by show _=_;simp[V.same_mk,A,D,J,O]
 have Z:∀w',Below w.1.size w w'->Calls Tryz.prog 83 #[.slice p xs.length c,.slice q ys.length d] w' fun e a7=>e=.returned (.bool (V.sameL xs ys))∧Below w'.1.size w' a7:=fun w' hb=>iV xs W ys w' p q c d (dG.on R hb) (dG.on U hb) a6;have a1:=xX Z;clear W R U A D J O Z;go_enter Tryz.func57,Tryz.ntmps57;go_wp2_with fail;refine(cV b y _).mono ?_;rintro e w1 ⟨rfl,z⟩;rw[z];clear z w1;go_wp2_with fail;refine(a1.out _ M.out).mono ?_;rintro e w3 ⟨rfl,ah⟩;have a0:=xX (M.out.trans (ah.mono M.out.size));clear ah;go_wp2;go_ret;exact⟨by rw[I.out];simp,a0.out⟩
end
namespace U8
def kind(c:Nat):Option (Nat×Nat×Nat) :=
 if c<128 then some (1,c,0) else if 192<=c∧c<224 then some (2,c-192,128) else if 224<=c∧c<240 then some (3,c-224,2048) else if 240<=c∧c<248 then some (4,c-240,65536) else none
def conts:Nat->Nat->L8->Option Nat
 |0,v,_=>some v
 |_+1,_,[]=>none
 |k+1,v,c::r=>if 128<=c.toNat∧c.toNat<192 then conts k (v*64+c.toNat-128) r else none
def may(least v:Nat):Bool:=decide (least<=v)&&decide (v<=1114111)&&!(decide (55296<=v)&&decide (v<=57343))
def one:L8->Option Nat
 | []=>none
 |c::r=>match kind c.toNat with
  |none=>none
  |some (n,v,least)=>match conts (n-1) v r with
   |none=>none
   |some v'=>if may least v' then some n else none
def utfF:Nat->L8->Bool
 |_,[]=>true
 |0,_::_=>false
 |f+1,c::r=>match one (c::r) with
  |none=>false
  |some n=>utfF f ((c::r).drop n)
def utf(l:L8):Bool:=utfF l.length l
theorem kind_pos{v:Nat}(h:kind c=some (n,v,least)):1<=n∧n<=4∧v<128∧(1<n->v<32):=by
 unfold kind at h;split at h
 ·simp only[Option.some.injEq,Prod.mk.injEq] at h;omega
 ·split at h
  ·simp only[Option.some.injEq,Prod.mk.injEq] at h;omega
  ·split at h
   ·simp only[Option.some.injEq,Prod.mk.injEq] at h;omega
   ·split at h
    ·simp only[Option.some.injEq,Prod.mk.injEq] at h;omega
    ·cases h
theorem conts_len:∀(k v:Nat) (r:L8) (y:Nat),conts k v r=some y->k<=r.length
 |0,_,_,_,_=>Nat.zero_le _
 |k+1,_,[],_,h=>by simp[conts] at h
 |k+1,v,c::r,y,h=>by
  rw[conts] at h;split at h
  ·have:=conts_len k _ r y h;simp;omega
  ·cases h
theorem one_len(h:one l=some n):1<=n∧n<=l.length:=by
 cases l with
 |nil=>simp[one] at h
 |cons c r=>
  rw[one] at h;cases hk:kind c.toNat with
  |none=>rw[hk] at h;cases h
  |some x=>
   obtain⟨m,v,least⟩:=x;rw[hk] at h;simp only at h;have y:=(kind_pos hk).1;cases hc:conts (m-1) v r with
   |none=>rw[hc] at h;cases h
   |some v'=>
    rw[hc] at h;simp only at h;have:=conts_len _ _ _ _ hc;split at h
    ·cases h;simp;omega
    ·cases h
theorem utfF_fuel:∀(n f:Nat) (l:L8),l.length<=n->l.length<=f->utfF f l=utfF l.length l:=by
 intro n;induction n with
 |zero=>
  intro f l h _;have:l=[]:=List.eq_nil_of_length_eq_zero (by omega);subst this;cases f <;> rfl
 |succ n ih=>
  intro f l h y;cases l with
  |nil=>cases f <;> rfl
  |cons c r=>
   simp only[List.length_cons] at h y ⊢;cases f with
   |zero=>omega
   |succ f=>
    rw[utfF,utfF];cases ho:one (c::r) with
    |none=>rfl
    |some m=>
     have A:=one_len ho;simp only[List.length_cons] at A;simp only;have z:((c::r).drop m).length<=r.length:=(by rw[List.length_drop,List.length_cons];omega);rw[ih f _ (by omega) (by omega),ih r.length _ (by omega) z]
theorem utf_bad(y:l≠[])(h:one l=none):utf l=false:=by
 cases l with
 |nil=>exact absurd rfl y
 |cons c r=>unfold utf;rw[List.length_cons,utfF,h]
theorem utf_step(h:one l=some n):utf l=utf (l.drop n):=by
 cases l with
 |nil=>simp[one] at h
 |cons c r=>
  have y:=one_len h;simp only[List.length_cons] at y;unfold utf;rw[List.length_cons,utfF,h];simp only;exact utfF_fuel r.length _ _ (by rw[List.length_drop,List.length_cons];omega) (by rw[List.length_drop,List.length_cons];omega)
def Inner(l:L8)(a n v0 i v:Nat):Prop:=conts (n-1) v0 (l.drop (a+1))=conts (n-i) v (l.drop (a+i))∧(i<=1->v<128)∧(i<=2->v<8192)∧(i<=3->v<524288)∧v<33554432
theorem in_start(l:L8)(a n v0:Nat)(h:v0<128):Inner l a n v0 1 v0:=⟨rfl,fun _=>h,fun _=>by omega,fun _=>by omega,by omega⟩
section
variable {l:L8} {a n v0 i v:Nat}
theorem in_short(h:Inner l a n v0 i v)(z:i<n)(y:l.length<=a+i):conts (n-1) v0 (l.drop (a+1))=none:=by
 rw[h.1,List.drop_eq_nil_of_le y,show n-i=(n-i-1)+1 by omega];rfl
theorem in_bad(h:Inner l a n v0 i v)(z:i<n)(y:a+i<l.length)(hb:¬(128<=l[a+i].toNat∧l[a+i].toNat<192)):conts (n-1) v0 (l.drop (a+1))=none:=by
 rw[h.1,List.drop_eq_getElem_cons y,show n-i=(n-i-1)+1 by omega,conts,if_neg hb]
theorem in_next(h:Inner l a n v0 i v)(J:1<=i)(L:i<n)(M:n<=4)(I:a+i<l.length)(hb:128<=l[a+i].toNat∧l[a+i].toNat<192):Inner l a n v0 (i+1) (v*64+l[a+i].toNat-128):=by
 obtain⟨z,A,D,E,K⟩:=h;refine⟨?_,fun y=>?_,fun y=>?_,fun y=>?_,?_⟩
 ·rw[z,List.drop_eq_getElem_cons I,show n-i=(n-(i+1))+1 by omega,conts,if_pos hb];rfl
 ·omega
 ·have:=A (by omega);omega
 ·have:=D (by omega);omega
 ·have:=E (by omega);omega
theorem in_end(h:Inner l a n v0 n v):conts (n-1) v0 (l.drop (a+1))=some v:=by rw[h.1,Nat.sub_self];rfl
end
theorem one_none{a v0:Nat}(y:a<l.length)(z:kind l[a].toNat=some (n,v0,least))(h:conts (n-1) v0 (l.drop (a+1))=none):one (l.drop a)=none:=by
 rw[List.drop_eq_getElem_cons y,one,z];simp only;rw[h]
theorem one_may{a v0 v:Nat}(y:a<l.length)(z:kind l[a].toNat=some (n,v0,least))(h:conts (n-1) v0 (l.drop (a+1))=some v):one (l.drop a)=if may least v then some n else none:=by
 rw[List.drop_eq_getElem_cons y,one,z];simp only;rw[h]
theorem one_kind{a:Nat}(y:a<l.length)(z:kind l[a].toNat=none):one (l.drop a)=none:=by
 rw[List.drop_eq_getElem_cons y,one,z]
end U8
end Go.Proofs.YtdkammppnkhhoaaGreatDoor

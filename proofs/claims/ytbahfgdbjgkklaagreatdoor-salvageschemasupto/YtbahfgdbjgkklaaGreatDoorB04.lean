import Derived.Test.YtbahfgdbjgkklaaGreatDoorB01
import Derived.Deep.RegionHeld3
set_option maxRecDepth 100000
set_option maxHeartbeats 400000
namespace Go.Proofs.YtbahfgdbjgkklaaGreatDoor
variable{B b c g j least n:Nat}{w w' w2 w3 w4:World}{l:L8}{v1 v2 v3 v4:Value}{k:Int}{C u:AV}{t:ByteArray}{T:TypeId}{o:Obj}
namespace Leb
def putF:Nat->Nat->L8
 |0,_=>[]
 |f+1,n=>if n<128 then [UInt8.ofNat n] else UInt8.ofNat (n % 128+128)::putF f (n / 128)
def put(n:Nat):L8:=putF 10 n
structure Got where
 err:Nat
 n:Nat
 k:Nat
def getF:Nat->Bool->L8->Got
 |0,_,_=>⟨5,0,0⟩
 |_+1,_,[]=>⟨30,0,0⟩
 |f+1,first,c::r=>
  if 127<c.toNat then
   let g:=getF f false r
   if g.err=0 then ⟨0,g.n*128+c.toNat % 128,g.k+1⟩ else g
  else if (f=0∧1<c.toNat)∨(first=false∧c.toNat=0) then ⟨5,0,0⟩ else ⟨0,c.toNat,1⟩
def get(l:L8):Got:=getF 10 true l
theorem byte_low(n:Nat)(h:n<128):(UInt8.ofNat n).toNat=n:=by
 rw[UInt8.toNat_ofNat'];omega
theorem byte_high(n:Nat):(UInt8.ofNat (n % 128+128)).toNat=n % 128+128:=by
 rw[UInt8.toNat_ofNat'];omega
def cap(f:Nat):Nat:=if f=10 then 18446744073709551616 else 128 ^ f
theorem getF_put(f:Nat)(first:Bool)(n:Nat)(r:L8)(h:n<2*128 ^ f)(y:first=true∨n≠0):getF (f+1) first (putF (f+1) n++r)=⟨0,n,(putF (f+1) n).length⟩:=by
 induction f generalizing first n with
 |zero=>
  have D:n<2:=by simpa using h
  have e:putF 1 n=[UInt8.ofNat n]:=by simp only[putF];rw[if_pos (by omega)]
  rw[e];simp only[List.cons_append,List.nil_append,getF,byte_low n (by omega),List.length_cons,List.length_nil];rw[if_neg (by omega),if_neg];rintro(⟨_,z⟩ | ⟨z,E⟩)
  ·omega
  ·rcases y with y | y
   ·rw[y] at z;cases z
   ·exact y E
 |succ f ih=>
  by_cases D:n<128
  ·have e:putF (f+1+1) n=[UInt8.ofNat n]:=(by simp only[putF];rw[if_pos D]);rw[e];simp only[List.cons_append,List.nil_append,getF,byte_low n D,List.length_cons,List.length_nil];rw[if_neg (by omega),if_neg];rintro(⟨z,_⟩ | ⟨z,E⟩)
   ·omega
   ·rcases y with y | y
    ·rw[y] at z;cases z
    ·exact y E
  ·have e:putF (f+1+1) n=UInt8.ofNat (n % 128+128)::putF (f+1) (n / 128):=by
    rw[putF,if_neg D]
   have z:n / 128<2*128 ^ f:=by
    rw[Nat.pow_succ] at h;rw[Nat.div_lt_iff_lt_mul (by omega)];omega
   have I:=ih false (n / 128) z (.inr (by omega));rw[e];rw[List.cons_append,getF];simp only[I,byte_high,List.length_cons];rw[if_pos (by omega),if_pos trivial];congr 1;omega
theorem get_put(n:Nat)(r:L8)(h:n<18446744073709551616):get (put n++r)=⟨0,n,(put n).length⟩:=by
 have e:2*128 ^ 9=18446744073709551616:=by decide
 exact getF_put 9 true n r (by rw[e];exact h) (.inl rfl)
theorem getF_ok(f:Nat)(first:Bool)(l:L8)(h:(getF (f+1) first l).err=0):
  (getF (f+1) first l).n<2*128 ^ f∧(first=true∨(getF (f+1) first l).n≠0)∧l.take (getF (f+1) first l).k=putF (f+1) (getF (f+1) first l).n∧(getF (f+1) first l).k<=l.length∧1<=(getF (f+1) first l).k:=by
 induction f generalizing first l with
 |zero=>
  cases l with
  |nil=>simp[getF] at h
  |cons c r=>
   rw[getF] at h ⊢;by_cases z:127<c.toNat
   ·rw[if_pos z] at h;simp[getF] at h
   ·rw[if_neg z] at h ⊢;by_cases y:(0=0∧1<c.toNat)∨(first=false∧c.toNat=0)
    ·rw[if_pos y] at h;simp at h
    ·rw[if_neg y];have c1:c.toNat<2:=(by omega);refine⟨by simpa using c1,?_,?_,by simp,by simp⟩
     ·cases first
      ·right;intro I;exact y (.inr ⟨rfl,I⟩)
      ·exact .inl rfl
     ·simp only[putF,List.take_succ_cons,List.take_zero];rw[if_pos (by omega)];congr 1;exact(UInt8.toNat_inj.1 (byte_low c.toNat (by omega))).symm
 |succ f ih=>
  cases l with
  |nil=>simp[getF] at h
  |cons c r=>
   have M:c.toNat<256:=c.toNat_lt;rw[getF] at h ⊢;by_cases z:127<c.toNat
   ·rw[if_pos z] at h ⊢;simp only at h ⊢;by_cases E:(getF (f+1) false r).err=0
    ·rw[if_pos E];obtain⟨Q,D,L,U,W⟩:=ih false r E;have S:(getF (f+1) false r).n≠0:=by
      rcases D with D | D
      ·cases D
      ·exact D
     generalize getF (f+1) false r=g at *
     dsimp only;refine⟨?_,.inr (by omega),?_,by simp;omega,by simp⟩
     ·rw[Nat.pow_succ];omega
     ·have J:(g.n*128+c.toNat % 128) / 128=g.n:=(by omega);have K:(g.n*128+c.toNat % 128) % 128+128=c.toNat:=(by omega);rw[putF,if_neg (by omega),J,K,List.take_succ_cons,L];congr 1;apply UInt8.toNat_inj.1;rw[UInt8.toNat_ofNat'];omega
    ·rw[if_neg E] at h;exact absurd h E
   ·rw[if_neg z] at h ⊢;by_cases y:(f+1=0∧1<c.toNat)∨(first=false∧c.toNat=0)
    ·rw[if_pos y] at h;simp at h
    ·rw[if_neg y];have O:128<=128 ^ (f+1):=by
      have:=Nat.pow_le_pow_right (show 0<128 by omega) (show 1<=f+1 by omega);simpa using this
     refine⟨by simp only;omega,?_,?_,by simp,by simp⟩
     ·cases first
      ·right;intro I;exact y (.inr ⟨rfl,I⟩)
      ·exact .inl rfl
     ·simp only[putF,List.take_succ_cons,List.take_zero];rw[if_pos (by omega)];congr 1;exact(UInt8.toNat_inj.1 (byte_low c.toNat (by omega))).symm
theorem get_ok(l:L8)(h:(get l).err=0):(get l).n<18446744073709551616∧l.take (get l).k=put (get l).n∧(get l).k<=l.length∧1<=(get l).k:=by
 have e:2*128 ^ 9=18446744073709551616:=by decide
 obtain⟨y,_,z,D,E⟩:=getF_ok 9 true l h;rw[e] at y;exact⟨y,z,D,E⟩
theorem getF_bad(f:Nat):∀(first:Bool) (l:L8),(getF f first l).err≠0->(getF f first l).n=0∧(getF f first l).k=0:=by
 induction f with
 |zero=>intro first l _;exact⟨rfl,rfl⟩
 |succ f ih=>
  intro first l h
  cases l with
  |nil=>exact⟨rfl,rfl⟩
  |cons c r=>
   rw[getF] at h ⊢;by_cases z:127<c.toNat
   ·rw[if_pos z] at h ⊢;simp only at h ⊢;by_cases y:(getF f false r).err=0
    ·rw[if_pos y] at h;exact absurd rfl h
    ·rw[if_neg y];exact ih false r y
   ·rw[if_neg z] at h ⊢;by_cases D:(f=0∧1<c.toNat)∨(first=false∧c.toNat=0)
    ·rw[if_pos D];exact⟨rfl,rfl⟩
    ·rw[if_neg D] at h;exact absurd rfl h
theorem putF_pos(f n:Nat):1<=(putF (f+1) n).length:=by
 rw[putF];split <;> simp
theorem putF_le(f:Nat):∀n,(putF f n).length<=f:=by
 induction f with
 |zero=>intro n;simp[putF]
 |succ f ih=>intro n;rw[putF];split <;> simp;exact ih _
def zig(n:Int):Nat:=if 0<=n then 2*n.toNat else 2*(-(n+1)).toNat+1
def zag(u:Nat):Int:=if u % 2=0 then ((u / 2:Nat):Int) else -((u / 2:Nat):Int)-1
theorem zag_zig(n:Int):zag (zig n)=n:=by
 unfold zig;split
 ·unfold zag;rw[if_pos (by omega)];omega
 ·unfold zag;rw[if_neg (by omega)];omega
theorem zig_zag(u:Nat):zig (zag u)=u:=by
 unfold zag;split
 ·unfold zig;rw[if_pos (by omega)];omega
 ·unfold zig;rw[if_neg (by omega)];omega
def val:L8->Nat
 | []=>0
 |c::r=>val r*128+c.toNat % 128
def high:Nat->L8->Nat
 |0,_=>0
 |_+1,[]=>0
 |f+1,c::r=>if 127<c.toNat then high f r+1 else 0
theorem high_stop(f:Nat):∀(r:L8) (h:high f r<r.length),high f r<f->¬127<(r[high f r]).toNat:=by
 induction f with
 |zero=>intro r h z;omega
 |succ f ih=>
  intro r h z;cases r with
  |nil=>simp at h
  |cons c r=>
   by_cases y:127<c.toNat
   ·have e:high (f+1) (c::r)=high f r+1:=(by rw[high,if_pos y]);simp only[e] at h z ⊢;simp only[List.getElem_cons_succ];exact ih r (by simpa using h) (by omega)
   ·have e:high (f+1) (c::r)=0:=(by rw[high,if_neg y]);simp only[e,List.getElem_cons_zero];exact y
theorem high_eq(f:Nat):∀(r:L8) (k:Nat),k<=f->(hk:k<=r.length)->(∀j (h:j<r.length),j<k->127<r[j].toNat)->(k=f∨k=r.length∨∃h:k<r.length,¬127<r[k].toNat)->high f r=k:=by
 induction f with
 |zero=>intro r k I _ _ _;simp[high];omega
 |succ f ih=>
  intro r k I D E y;cases r with
  |nil=>simp at D;simp[high];omega
  |cons c r=>
   cases k with
   |zero=>
    rcases y with y | y | ⟨y,z⟩
    ·omega
    ·simp at y
    ·have J:¬127<c.toNat:=z;rw[high,if_neg J]
   |succ k=>
    have K:127<c.toNat:=E 0 (by simp) (by omega);rw[high,if_pos K,ih r k (by omega) (by simpa using D) (fun j h L=>by
     have:=E (j+1) (by simpa using h) (by omega)
     simpa using this) ?_]
    rcases y with y | y | ⟨y,z⟩
    ·exact .inl (by omega)
    ·exact .inr (.inl (by simpa using y))
    ·exact .inr (.inr ⟨by simpa using y,by simpa using z⟩)
theorem getF_high(f:Nat):∀(first:Bool) (r:L8),
  (high f r=f->getF f first r=⟨5,0,0⟩) ∧
  (high f r=r.length->high f r<f->getF f first r=⟨30,0,0⟩) ∧
  (∀h:high f r<r.length,high f r<f->getF f first r=if (high f r+1=f∧1<(r[high f r]).toNat)∨((first=false∨0<high f r)∧(r[high f r]).toNat=0) then ⟨5,0,0⟩ else ⟨0,val (r.take (high f r+1)),high f r+1⟩):=by
 induction f with
 |zero=>intro first r;exact⟨fun _=>rfl,fun _ h=>by omega,fun _ h=>by omega⟩
 |succ f ih=>
  intro first r
  cases r with
  |nil=>exact⟨fun h=>by simp[high] at h,fun _ _=>rfl,fun h=>by simp at h⟩
  |cons c r=>
   by_cases E:127<c.toNat
   ·have e:high (f+1) (c::r)=high f r+1:=(by rw[high,if_pos E]);obtain⟨O,Q,M⟩:=ih false r;rw[e];refine⟨fun h=>?_,fun h L=>?_,fun h L=>?_⟩
    ·rw[getF,if_pos E];simp only;rw[O (by omega)];rfl
    ·rw[getF,if_pos E];simp only;rw[Q (by simpa using h) (by omega)];rfl
    ·have I:high f r<r.length:=(by simpa using h);have hb:=high_stop f r I (by omega);by_cases z:(high f r+1=f∧1<(r[high f r]).toNat)∨((false=false∨0<high f r)∧(r[high f r]).toNat=0)
     ·have K:getF f false r=⟨5,0,0⟩:=(by rw[M I (by omega),if_pos z]);have J:(high f r+1+1=f+1∧1<(r[high f r]).toNat)∨((first=false∨0<high f r+1)∧(r[high f r]).toNat=0):=by
       rcases z with ⟨D,y⟩ | ⟨_,y⟩
       ·exact .inl ⟨by omega,y⟩
       ·exact .inr ⟨.inr (by omega),y⟩
      rw[getF,if_pos E];simp only[K,List.getElem_cons_succ];rw[if_pos J];rfl
     ·have K:getF f false r=⟨0,val (r.take (high f r+1)),high f r+1⟩:=(by rw[M I (by omega),if_neg z]);have J:¬((high f r+1+1=f+1∧1<(r[high f r]).toNat)∨((first=false∨0<high f r+1)∧(r[high f r]).toNat=0)):=by
       rintro(⟨D,y⟩ | ⟨_,y⟩)
       ·exact z (.inl ⟨by omega,y⟩)
       ·exact z (.inr ⟨.inl rfl,y⟩)
      rw[getF,if_pos E];simp only[K,List.getElem_cons_succ];rw[if_neg J];simp[val]
   ·have e:high (f+1) (c::r)=0:=(by rw[high,if_neg E]);rw[e];refine⟨fun h=>by omega,fun h _=>by simp at h,fun h L=>?_⟩;rw[getF,if_neg E];simp only[List.getElem_cons_zero];by_cases z:(f=0∧1<c.toNat)∨(first=false∧c.toNat=0)
    ·rw[if_pos z,if_pos];rcases z with ⟨D,y⟩ | ⟨D,y⟩
     ·exact .inl ⟨by omega,y⟩
     ·exact .inr ⟨.inl D,y⟩
    ·rw[if_neg z,if_neg]
     ·have:c.toNat % 128=c.toNat:=(by omega);simp[val,this]
     ·rintro(⟨D,y⟩ | ⟨D | D,y⟩)
      ·exact z (.inl ⟨by omega,y⟩)
      ·exact z (.inr ⟨D,y⟩)
      ·omega
theorem val_drop_le:∀(r:L8) (i:Nat),val (r.drop i)<=val r
 | [],i=>by simp[val]
 |c::r,0=>by simp
 |c::r,i+1=>by
  have:=val_drop_le r i;simp only[List.drop_succ_cons,val];omega
theorem val_drop(r:L8)(i:Nat)(h:i<r.length):val (r.drop i)=val (r.drop (i+1))*128+r[i].toNat % 128:=by
 rw[List.drop_eq_getElem_cons h,val]
def getAt(l:L8)(at_:Int):Got:=if at_<0 then ⟨30,0,0⟩ else get (l.drop at_.toNat)
def nextAt(l:L8)(at_:Int):Int:=if (getAt l at_).err=0 then at_+(getAt l at_).k else 0
theorem put_length_le(n:Nat):(put n).length<=10:=putF_le 10 n
theorem put_length_pos(n:Nat):1<=(put n).length:=putF_pos 9 n
end Leb
section
open Go.RowKit
def mA(x:Nat):Bool:=FloatKind.f64.format.order x x != some .eq
def ay(x:Nat):Nat:=if mA x then 9221120237041090560 else x
theorem uB{x:Nat}(h:mA x=true):(FloatKind.f64.format.order x x != some .eq)=true:=h
theorem uC{x:Nat}(h:mA x=false):(FloatKind.f64.format.order x x != some .eq)=false:=h
theorem ve{x:Nat}(h:mA x=true):ay x=9221120237041090560:=by simp[ay,h]
theorem vf{x:Nat}(h:mA x=false):ay x=x:=by simp[ay,h]
theorem gO(x:Int)(w:World):(callFunc 264 #[.int .u64 x]).run Tryz.prog w=.ok (.value (.float .f64 x.toNat)) w:=by kernel_rfl
theorem nI(x:Nat)(w:World):(callFunc 203 #[.float .f64 x]).run Tryz.prog w=.ok (.value (.int .u64 x)) w:=by kernel_rfl
attribute [local go_sem] gO nI
theorem iY(x:Nat)(w:World):
  Calls Tryz.prog 259 #[.float .f64 x] w fun e w'=>e=.returned (.float .f64 (ay x))∧w'=w:=by
 cases h:mA x
 ·have y:=uC h;rw[vf h];clear h;go_enter Tryz.func259,Tryz.ntmps259;go_wp2;go_ret;exact⟨rfl,rfl⟩
 ·have y:=uB h;rw[ve h];clear h;go_enter Tryz.func259,Tryz.ntmps259;go_wp2;go_ret;exact⟨rfl,rfl⟩
theorem pI(x:Nat)(w:World):
  Calls Tryz.prog 263 #[.float .f64 x] w fun e w'=>e=.returned (.float .f64 (ay x))∧w'=w:=by
 cases h:mA x
 ·have y:=uC h;rw[vf h];clear h;go_enter Tryz.func263,Tryz.ntmps263;go_wp2;go_ret;exact⟨rfl,rfl⟩
 ·have y:=uB h;rw[ve h];clear h;go_enter Tryz.func263,Tryz.ntmps263;go_wp2;go_ret;exact⟨rfl,rfl⟩
theorem iX(x:Nat)(w:World):
  Calls Tryz.prog 153 #[.float .f64 x] w fun e w'=>e=.returned (.int .u64 (ay x))∧w'=w:=by
 cases h:mA x
 ·have y:=uC h;rw[vf h];clear h;go_enter Tryz.func153,Tryz.ntmps153;go_wp2;go_ret;exact⟨rfl,rfl⟩
 ·have y:=uB h;rw[ve h];clear h;go_enter Tryz.func153,Tryz.ntmps153;go_wp2;go_ret;exact⟨rfl,rfl⟩
theorem cS(x:Nat)(w:World):
  Calls Tryz.prog 243 #[.float .f64 x] w fun e w'=>e=.returned (.int .u64 (ay x))∧w'=w:=by
 go_enter Tryz.func243,Tryz.ntmps243;go_wp2_with (go_at_call 259;refine(iY _ _).mono ?_;rintro e w' ⟨rfl,rfl⟩);go_ret;exact⟨rfl,rfl⟩
theorem jW(x:Int)(w:World):
  Calls Tryz.prog 255 #[.int .u64 x] w fun e w'=>e=.returned (.float .f64 (ay x.toNat))∧w'=w:=by
 go_enter Tryz.func255,Tryz.ntmps255;go_wp2_with (go_at_call 259;refine(iY _ _).mono ?_;rintro e w' ⟨rfl,rfl⟩);go_ret;exact⟨rfl,rfl⟩
theorem rY(x:Int)(w:World):
  Calls Tryz.prog 251 #[.int .u64 x] w fun e w'=>e=.returned (.float .f64 (ay x.toNat))∧w'=w:=by
 go_enter Tryz.func251,Tryz.ntmps251;go_wp2_with (go_at_call 263;refine(pI _ _).mono ?_;rintro e w' ⟨rfl,rfl⟩);go_ret;exact⟨rfl,rfl⟩
theorem gS(x y:Nat)(w:World):
  Calls Tryz.prog 209 #[.float .f64 x,.float .f64 y] w fun e w'=>e=.returned (.bool ((ay x:Int)==(ay y:Int)))∧w'=w:=by
 go_enter Tryz.func209,Tryz.ntmps209;go_wp2_with (go_at_call 243;refine(cS _ _).mono ?_;rintro e w' ⟨rfl,rfl⟩);go_ret;exact⟨rfl,rfl⟩
theorem dG(x y:Nat)(w:World):
  Calls Tryz.prog 94 #[.float .f64 x,.float .f64 y] w fun e w'=>e=.returned (.bool ((ay x:Int)==(ay y:Int)))∧w'=w:=by
 go_enter Tryz.func94,Tryz.ntmps94;go_wp2_with (go_at_call 153;refine(iX _ _).mono ?_;rintro e w' ⟨rfl,rfl⟩);go_ret;exact⟨rfl,rfl⟩
end
section
structure V where
 kind:Int
 int:Int
 bits:Nat
 text:ByteArray
 items:List V
namespace V
theorem ind{P:V->Prop}(h:∀k i b t xs,(∀x∈xs,P x)->P (.mk k i b t xs)):∀v,P v:=fun v=>
 V.rec (motive_1:=P) (motive_2:=fun xs=>∀x∈xs,P x) (fun k i b t xs E=>h k i b t xs E) (fun x y=>by cases y)
  (fun x xs y D I z=>by
   rcases List.mem_cons.1 z with rfl | z
   ·exact y
   ·exact D I z) v
def fix(v:V):V:=match v with
 |.mk k i b t xs=>.mk k i (ay b) t (xs.map fix)
def fixL(xs:List V):List V:=xs.map fix
theorem fix_mk(k i:Int)(b:Nat)(t:ByteArray)(xs:List V):fix (.mk k i b t xs)=.mk k i (ay b) t (fixL xs):=by rw[fix,fixL]
theorem fixL_eq(xs:List V):fixL xs=xs.map fix:=rfl
def eqL:List (V->Bool)->List V->Bool
 | [],[]=>true
 |f::fs,y::ys=>f y&&eqL fs ys
 |_,_=>false
def exact(v:V):V->Bool:=match v with
 |.mk k i b t xs=>fun y=>k==y.kind&&i==y.int&&decide (t=y.text)&&b==y.bits&&eqL (xs.map exact) y.items
def same(v:V):V->Bool:=match v with
 |.mk k i b t xs=>fun y=>k==y.kind&&i==y.int&&decide (t=y.text)&&ay b==ay y.bits&&eqL (xs.map same) y.items
def sameL(xs ys:List V):Bool:=eqL (xs.map same) ys
theorem same_mk(k i:Int)(b:Nat)(t:ByteArray)(xs:List V)(k' z:Int)(y:Nat)(D:ByteArray)(ys:List V):same (.mk k i b t xs) (.mk k' z y D ys)=(k==k'&&i==z&&decide (t=D)&&ay b==ay y&&sameL xs ys):=by rw[same,sameL]
theorem sameL_nil:sameL [] []=true:=rfl
theorem sameL_cons(x:V)(r:List V)(y:V)(s:List V):sameL (x::r) (y::s)=(same x y&&sameL r s):=rfl
theorem sameL_nc(y:V)(s:List V):sameL [] (y::s)=false:=rfl
theorem sameL_cn(x:V)(r:List V):sameL (x::r) []=false:=rfl
def ownB(k i:Int)(b:Nat)(t:ByteArray)(n:Nat):Bool :=
 decide (1<=k∧k<=7)&&(k==1||k==2||i==0)&&(k==3||ay b==0)&&(k==4||k==5||decide (t.toList=[]))&&(k==6||k==7||n==0)&&(k != 1||i==0||i==1)&&(k != 6||decide (n<2))
def own:V->Bool
 |.mk k i b t xs=>ownB k i b t xs.length
def first:List Nat->Nat
 | []=>0
 |e::r=>if e=0 then first r else e
def check(utf:ByteArray->Bool)(d:Nat)(v:V):Nat:=match v with
 |.mk k i b t xs=>if 4<d then 62 else if own (.mk k i b t xs)=false then 60 else if 1024<t.size then 2 else if 256<xs.length then 3 else if k=4∧utf t=false then 61 else first (xs.map (check utf (d+1)))
def checkL(utf:ByteArray->Bool)(d:Nat)(xs:List V):Nat:=first (xs.map (check utf d))
theorem check_mk(utf:ByteArray->Bool)(d:Nat)(k i:Int)(b:Nat)(t:ByteArray)(xs:List V):check utf d (.mk k i b t xs)=if 4<d then 62 else if own (.mk k i b t xs)=false then 60 else if 1024<t.size then 2 else if 256<xs.length then 3 else if k=4∧utf t=false then 61 else checkL utf (d+1) xs:=by rw[check,checkL]
theorem checkL_nil(utf:ByteArray->Bool)(d:Nat):checkL utf d []=0:=rfl
theorem checkL_cons(utf:ByteArray->Bool)(d:Nat)(x:V)(r:List V):checkL utf d (x::r)=if check utf d x=0 then checkL utf d r else check utf d x:=rfl
end V
end
section
open Go.RowKit
theorem dz{y W:World}(hb:Below B y W)(D:y.os=w.os)(E:y.tape=w.tape)(I:y.output=w.output)(z:y.1=w.1):Below B w W :=
 Below.trans ⟨D,E,I,by rw[z];exact gQx,fun k _=>by rw[z]⟩ hb
theorem ae{p:Addr}{v:Value}(hb:Below w.1.size w w')(h:w.cell? p=some v):w'.cell? p=some v:=by
 rw[hb.cell (World.block_lt_of_cell? _ _ h)];exact h
def cells5(k i:Int)(b:Nat)(t:ByteArray)(p:OA)(n c:Nat):AV:=#[.int .i64 k,.int .i64 i,.float .f64 b,.string t,.slice p n c]
def vR(w:World)(P:AV->V->Prop)(p:OA)(c:Nat)(xs:List V)(us:Nat->AV):Prop :=
 xs.length*64<=140737488351232∧xs.length<=c∧(xs≠[]->∃blk off,p=some ⟨blk,off,none⟩∧blk<w.1.size∧∀j,j<xs.length->∀m,m<5->w.cell? ⟨blk,off+j*5+m,none⟩=(us j)[m]?)∧∀j (h:j<xs.length),P (us j) xs[j]
def aJ(w:World)(u:AV)(x:V):Prop :=
 ∀P:AV->V->Prop,(∀k i b t p c xs us,vR w P p c xs us->P (cells5 k i b t p xs.length c) (.mk k i b t xs))->P u x
theorem aJ.mk{i:Int}{p:OA}{xs:List V}(us:Nat->AV)(D:xs.length*64<=140737488351232)(z:xs.length<=c)(E:xs≠[]->∃blk off,p=some ⟨blk,off,none⟩∧blk<w.1.size∧∀j,j<xs.length->∀m,m<5->w.cell? ⟨blk,off+j*5+m,none⟩=(us j)[m]?)(I:∀j (h:j<xs.length),aJ w (us j) xs[j]):aJ w (cells5 k i b t p xs.length c) (.mk k i b t xs) :=
 fun P y=>y k i b t p c xs us ⟨D,z,E,fun j h=>I j h P y⟩
theorem aJ.inv{x:V}(h:aJ w u x):∃k i b t p c xs us,u=cells5 k i b t p xs.length c∧x=.mk k i b t xs∧vR w (aJ w) p c xs us:=by
 have:=h (fun u x=>aJ w u x∧∃k i b t p c xs us,u=cells5 k i b t p xs.length c∧x=.mk k i b t xs∧vR w (aJ w) p c xs us) (fun k i b t p c xs us ⟨z,D,E,I⟩=>
  ⟨.mk us z D E (fun j y=>(I j y).1),k,i,b,t,p,c,xs,us,rfl,rfl,z,D,E,fun j y=>(I j y).1⟩)
 exact this.2
theorem aJ.on{v:V}(h:aJ w u v)(hb:Below w.1.size w w'):aJ w' u v:=by
 refine h (aJ w') ?_;rintro k i b t p c xs us ⟨J,E,M,O⟩;refine .mk us J E (fun L=>?_) O;obtain⟨blk,off,y,z,D⟩:=M L;refine⟨blk,off,y,by have:=hb.size;omega,fun j I m K=>?_⟩;rw[hb.cell (p:=⟨blk,off+j*5+m,none⟩) z];exact D j I m K
structure Item(w:World)(p:OA)(j:Nat)(u:AV):Prop where
 lies:∃blk off k i b t q n c,p=some ⟨blk,off,none⟩∧blk<w.1.size∧u=cells5 k i b t q n c∧w.cell? ⟨blk,off+j*5,none⟩=some (.int .i64 k)∧w.cell? ⟨blk,off+j*5+1,none⟩=some (.int .i64 i)∧w.cell? ⟨blk,off+j*5+2,none⟩=some (.float .f64 b)∧w.cell? ⟨blk,off+j*5+3,none⟩=some (.string t)∧w.cell? ⟨blk,off+j*5+4,none⟩=some (.slice q n c)
theorem aJ.open{i:Int}{xs:List V}(h:aJ w u (.mk k i b t xs)):
  ∃p c,u=cells5 k i b t p xs.length c∧xs.length*64<=140737488351232∧xs.length<=c∧∀j (y:j<xs.length),∃I,aJ w I xs[j]∧Item w p j I:=by
 obtain⟨ah,ab,Z,aj,p,c,a0,us,rfl,E,Q,z,U,D⟩:=h.inv;simp only[V.mk.injEq] at E;obtain⟨rfl,rfl,rfl,rfl,rfl⟩:=E;refine⟨p,c,rfl,Q,z,fun j y=>⟨us j,D j y,?_⟩⟩;obtain⟨blk,off,L,M,O⟩:=U (fun z=>by rw[z] at y;simp at y);obtain⟨k',X,J,Y,q,K,ys,ak,W,-,-⟩:=(D j y).inv;have g:=fun m S=>O j y m S;rw[W] at g ⊢;exact⟨blk,off,k',X,J,Y,q,ys.length,K,L,M,rfl,g 0 (by omega),g 1 (by omega),g 2 (by omega),g 3 (by omega),g 4 (by omega)⟩
theorem Item.on{p:OA}(h:Item w p j u)(hb:Below w.1.size w w'):Item w' p j u:=by
 obtain⟨blk,off,k,i,b,t,q,n,c,K,y,L,z,D,E,I,J⟩:=h.lies;refine⟨⟨blk,off,k,i,b,t,q,n,c,K,by have:=hb.size;omega,L,?_,?_,?_,?_,?_⟩⟩
 ·rw[hb.cell (p:=⟨blk,off+j*5,none⟩) y];exact z
 ·rw[hb.cell (p:=⟨blk,off+j*5+1,none⟩) y];exact D
 ·rw[hb.cell (p:=⟨blk,off+j*5+2,none⟩) y];exact E
 ·rw[hb.cell (p:=⟨blk,off+j*5+3,none⟩) y];exact I
 ·rw[hb.cell (p:=⟨blk,off+j*5+4,none⟩) y];exact J
end
section
structure Ty where
 kind:Int
 of:List Ty
namespace Ty
theorem ind{P:Ty->Prop}(h:∀k xs,(∀x∈xs,P x)->P (.mk k xs)):∀v,P v:=fun v=>
 Ty.rec (motive_1:=P) (motive_2:=fun xs=>∀x∈xs,P x) (fun k xs E=>h k xs E) (fun x y=>by cases y)
  (fun x xs y D I z=>by
   rcases List.mem_cons.1 z with rfl | z
   ·exact y
   ·exact D I z) v
def eqL:List (Ty->Bool)->List Ty->Bool
 | [],[]=>true
 |f::fs,y::ys=>f y&&eqL fs ys
 |_,_=>false
def same(v:Ty):Ty->Bool:=match v with
 |.mk k xs=>fun y=>k==y.kind&&eqL (xs.map same) y.of
def sameL(xs ys:List Ty):Bool:=eqL (xs.map same) ys
theorem same_mk(k:Int)(xs:List Ty)(k':Int)(ys:List Ty):same (.mk k xs) (.mk k' ys)=(k==k'&&sameL xs ys):=by rw[same,sameL]
theorem sameL_nil:sameL [] []=true:=rfl
theorem sameL_cons(x:Ty)(r:List Ty)(y:Ty)(s:List Ty):sameL (x::r) (y::s)=(same x y&&sameL r s):=rfl
theorem sameL_nc(y:Ty)(s:List Ty):sameL [] (y::s)=false:=rfl
theorem sameL_cn(x:Ty)(r:List Ty):sameL (x::r) []=false:=rfl
theorem sameL_ne:∀(xs ys:List Ty),xs.length≠ys.length->sameL xs ys=false
 | [],[],h=>absurd rfl h
 | [],_::_,_=>rfl
 |_::_,[],_=>rfl
 |x::r,y::s,h=>by rw[sameL_cons,sameL_ne r s (by simpa using h),Bool.and_false]
theorem sameL_at:∀(xs ys:List Ty) (j:Nat) (z:j<xs.length) (D:j<ys.length),same xs[j] ys[j]=false->sameL xs ys=false
 |x::r,y::s,0,_,_,h=>by rw[sameL_cons];simp at h;rw[h,Bool.false_and]
 |x::r,y::s,j+1,z,D,h=>by rw[sameL_cons,sameL_at r s j (by simpa using z) (by simpa using D) (by simpa using h),Bool.and_false]
theorem sameL_all:∀(xs ys:List Ty),xs.length=ys.length->(∀j (z:j<xs.length) (D:j<ys.length),same xs[j] ys[j]=true)->sameL xs ys=true
 | [],[],_,_=>rfl
 | [],_::_,h,_=>by simp at h
 |_::_,[],h,_=>by simp at h
 |x::r,y::s,h,ha=>by
  rw[sameL_cons,sameL_all r s (by simpa using h) (fun j z D=>by have:=ha (j+1) (by simpa using z) (by simpa using D);simpa using this)];have:=ha 0 (by simp) (by simp);simp at this;rw[this];rfl
theorem same_iff:∀a b:Ty,same a b=true↔a=b:=by
 intro a;refine Ty.ind (P:=fun a=>∀b,same a b=true↔a=b) ?_ a;intro k xs I c;have D:∀(xs ys:List Ty),(∀x∈xs,∀b,same x b=true↔x=b)->(sameL xs ys=true↔xs=ys):=by
  intro xs;induction xs with
  |nil=>intro ys _;cases ys <;> simp[sameL_nil,sameL_nc]
  |cons x r ihr=>
   intro ys z;cases ys with
   |nil=>simp[sameL_cn]
   |cons y s=>
    simp only[sameL_cons,Bool.and_eq_true,List.cons.injEq];rw[z x (by simp) y,ihr s (fun J E=>z J (by simp[E]))]
 obtain⟨k',ys⟩:=c;simp only[same_mk,Bool.and_eq_true,beq_iff_eq,Ty.mk.injEq];rw[D xs ys I]
def want(k:Int):Nat:=if k=6∨k=7 then 1 else 0
def check(d:Nat)(v:Ty):Nat:=match v with
 |.mk k xs=>if 4<d then 62 else if k<1∨7<k∨xs.length≠want k then 60 else V.first (xs.map (check (d+1)))
theorem check_mk(d:Nat)(k:Int)(xs:List Ty):check d (.mk k xs)=if 4<d then 62 else if k<1∨7<k∨xs.length≠want k then 60 else V.first (xs.map (check (d+1))):=by rw[check]
theorem check_leaf(d:Nat)(k:Int)(hd:¬4<d)(z:¬(k<1∨7<k))(y:want k=0):check d (.mk k [])=0:=by
 rw[check_mk,if_neg hd,if_neg (by simp[y];omega)];rfl
theorem check_one(d:Nat)(k:Int)(x:Ty)(hd:¬4<d)(z:¬(k<1∨7<k))(y:want k=1):check d (.mk k [x])=check (d+1) x:=by
 rw[check_mk,if_neg hd,if_neg (by simp[y];omega)];show(if check (d+1) x=0 then 0 else check (d+1) x)=_;split
 ·next h=>rw[h]
 ·rfl
end Ty
end
section
open Go.RowKit
def an(k:Int)(p:OA)(n c:Nat):AV:=#[.int .i64 k,.slice p n c]
def vU(w:World)(P:AV->Ty->Prop)(p:OA)(c:Nat)(xs:List Ty)(us:Nat->AV):Prop :=
 xs.length*32<=140737488351232∧xs.length<=c∧(xs≠[]->∃blk off,p=some ⟨blk,off,none⟩∧blk<w.1.size∧∀j,j<xs.length->∀m,m<2->w.cell? ⟨blk,off+j*2+m,none⟩=(us j)[m]?)∧∀j (h:j<xs.length),P (us j) xs[j]
def aH(w:World)(u:AV)(x:Ty):Prop :=
 ∀P:AV->Ty->Prop,(∀k p c xs us,vU w P p c xs us->P (an k p xs.length c) (.mk k xs))->P u x
theorem aH.mk{p:OA}{xs:List Ty}(us:Nat->AV)(D:xs.length*32<=140737488351232)(z:xs.length<=c)(E:xs≠[]->∃blk off,p=some ⟨blk,off,none⟩∧blk<w.1.size∧∀j,j<xs.length->∀m,m<2->w.cell? ⟨blk,off+j*2+m,none⟩=(us j)[m]?)(I:∀j (h:j<xs.length),aH w (us j) xs[j]):aH w (an k p xs.length c) (.mk k xs) :=
 fun P y=>y k p c xs us ⟨D,z,E,fun j h=>I j h P y⟩
theorem aH.inv{x:Ty}(h:aH w u x):∃k p c xs us,u=an k p xs.length c∧x=.mk k xs∧vU w (aH w) p c xs us:=by
 have:=h (fun u x=>aH w u x∧∃k p c xs us,u=an k p xs.length c∧x=.mk k xs∧vU w (aH w) p c xs us) (fun k p c xs us ⟨z,D,E,I⟩=>
  ⟨.mk us z D E (fun j y=>(I j y).1),k,p,c,xs,us,rfl,rfl,z,D,E,fun j y=>(I j y).1⟩)
 exact this.2
theorem aH.on{v:Ty}(h:aH w u v)(hb:Below w.1.size w w'):aH w' u v:=by
 refine h (aH w') ?_;rintro k p c xs us ⟨J,E,M,O⟩;refine .mk us J E (fun L=>?_) O;obtain⟨blk,off,y,z,D⟩:=M L;refine⟨blk,off,y,by have:=hb.size;omega,fun j I m K=>?_⟩;rw[hb.cell (p:=⟨blk,off+j*2+m,none⟩) z];exact D j I m K
structure fz(w:World)(p:OA)(j:Nat)(u:AV):Prop where
 lies:∃blk off k q n c,p=some ⟨blk,off,none⟩∧blk<w.1.size∧u=an k q n c∧w.cell? ⟨blk,off+j*2,none⟩=some (.int .i64 k)∧w.cell? ⟨blk,off+j*2+1,none⟩=some (.slice q n c)
theorem fz.on{p:OA}(h:fz w p j u)(hb:Below w.1.size w w'):fz w' p j u:=by
 obtain⟨blk,off,k,q,n,c,E,y,I,z,D⟩:=h.lies;refine⟨⟨blk,off,k,q,n,c,E,by have:=hb.size;omega,I,?_,?_⟩⟩
 ·rw[hb.cell (p:=⟨blk,off+j*2,none⟩) y];exact z
 ·rw[hb.cell (p:=⟨blk,off+j*2+1,none⟩) y];exact D
theorem aH.open{xs:List Ty}(h:aH w u (.mk k xs)):
  ∃p c,u=an k p xs.length c∧xs.length*32<=140737488351232∧xs.length<=c∧∀j (y:j<xs.length),∃I,aH w I xs[j]∧fz w p j I:=by
 obtain⟨W,p,c,Y,us,rfl,E,O,z,S,D⟩:=h.inv;simp only[Ty.mk.injEq] at E;obtain⟨rfl,rfl⟩:=E;refine⟨p,c,rfl,O,z,fun j y=>⟨us j,D j y,?_⟩⟩;obtain⟨blk,off,K,L,M⟩:=S (fun z=>by rw[z] at y;simp at y);obtain⟨k',q,J,ys,X,U,-,-⟩:=(D j y).inv;have g:=fun m Q=>M j y m Q;rw[U] at g ⊢;exact⟨blk,off,k',q,ys.length,J,K,L,rfl,g 0 (by omega),g 1 (by omega)⟩
end
section
open Go.RowKit
namespace V
end V
theorem dA(t y:ByteArray):(t.toList==y.toList)=decide (t=y):=by
 rw[ByteArray.toList_eq,ByteArray.toList_eq];by_cases h:t=y
 ·rw[h];simp
 ·rw[decide_eq_false h,beq_eq_false_iff_ne];intro z;apply h;cases t;cases y
  simp only[ByteArray.mk.injEq];exact Array.toList_inj.1 z
theorem aQ{a b:Int}(h:¬a=b):(a != b)=true:=by rw[bne_iff_ne];exact h
theorem bo{a b:Int}(h:a=b):(a != b)=false:=by rw[h];simp
attribute [local go_sem] gO nI
end
section
open Go.RowKit
structure vS(w:World)(P:(Nat->Prop)->AV->V->Prop)(F:Nat->Prop)(g off c:Nat)(xs:List V)(us:Nat->AV)(Fs:Nat->Nat->Prop):Prop where
 hl:xs.length*64<=140737488351232
 hc:xs.length<=c
 h5:∀j,j<xs.length->(us j).size=5
 hp:g<w.1.size∧∀j,j<xs.length->∀m,m<5->w.cell? ⟨g,off+j*5+m,none⟩=(us j)[m]?
 hf:∀j,j<xs.length->∀m,m<5->w.frozen? ⟨g,off+j*5+m,none⟩=false
 hg:F g
 hgs:∀j,j<xs.length->¬Fs j g
 hd:∀j n,j<xs.length->n<xs.length->j≠n->∀k,Fs j k->¬Fs n k
 hs:∀j,j<xs.length->∀k,Fs j k->F k
 hr:∀j (h:j<xs.length),P (Fs j) (us j) xs[j]
def aO(w:World)(F:Nat->Prop)(u:AV)(x:V):Prop :=
 ∀P:(Nat->Prop)->AV->V->Prop,(∀F k i b t p c,P F (cells5 k i b t p 0 c) (.mk k i b t [])) ->
  (∀F k i b t g off c xs us Fs,vS w P F g off c xs us Fs->P F (cells5 k i b t (.some ⟨g,off,.none⟩) xs.length c) (.mk k i b t xs))->P F u x
section
variable {w w':World} {F G:Nat->Prop} {u:AV} {x:V}
theorem aO.none{F:Nat->Prop}{i:Int}{p:OA}:aO w F (cells5 k i b t p 0 c) (.mk k i b t []):=fun _ y _=>y F k i b t p c
theorem aO.some{F:Nat->Prop}{i:Int}{off:Nat}{xs:List V}(us:Nat->AV)(Fs:Nat->Nat->Prop)(L:xs.length*64<=140737488351232)(E:xs.length<=c)(D:∀j,j<xs.length->(us j).size=5)(M:g<w.1.size∧∀j,j<xs.length->∀m,m<5->w.cell? ⟨g,off+j*5+m,.none⟩=(us j)[m]?)(I:∀j,j<xs.length->∀m,m<5->w.frozen? ⟨g,off+j*5+m,.none⟩=false)(J:F g)(K:∀j,j<xs.length->¬Fs j g)(hd:∀j n,j<xs.length->n<xs.length->j≠n->∀k,Fs j k->¬Fs n k)(Q:∀j,j<xs.length->∀k,Fs j k->F k)(O:∀j (h:j<xs.length),aO w (Fs j) (us j) xs[j]):aO w F (cells5 k i b t (.some ⟨g,off,.none⟩) xs.length c) (.mk k i b t xs) :=
 fun P z y=>y F k i b t g off c xs us Fs ⟨L,E,D,M,I,J,K,hd,Q,fun j h=>O j h P z y⟩
theorem aO.inv(h:aO w F u x):(∃k i b t p c,u=cells5 k i b t p 0 c∧x=.mk k i b t [])∨∃k i b t g off c xs us Fs,u=cells5 k i b t (.some ⟨g,off,.none⟩) xs.length c∧x=.mk k i b t xs∧vS w (aO w) F g off c xs us Fs:=by
 have:=h (fun F u x=>aO w F u x∧((∃k i b t p c,u=cells5 k i b t p 0 c∧x=.mk k i b t [])∨∃k i b t g off c xs us Fs,u=cells5 k i b t (.some ⟨g,off,.none⟩) xs.length c∧x=.mk k i b t xs∧vS w (aO w) F g off c xs us Fs))
  (fun F k i b t p c=>⟨.none,.inl ⟨k,i,b,t,p,c,rfl,rfl⟩⟩)
  (fun F k i b t g off c xs us Fs s=>⟨.some us Fs s.hl s.hc s.h5 s.hp s.hf s.hg s.hgs s.hd s.hs (fun j h=>(s.hr j h).1),.inr ⟨k,i,b,t,g,off,c,xs,us,Fs,rfl,rfl,s.hl,s.hc,s.h5,s.hp,s.hf,s.hg,s.hgs,s.hd,s.hs,fun j h=>(s.hr j h).1⟩⟩)
 exact this.2
theorem aO.five(h:aO w F u x):u.size=5:=by
 rcases h.inv with ⟨_,_,_,_,_,_,rfl,_⟩ | ⟨_,_,_,_,_,_,_,_,_,_,rfl,_⟩ <;> rfl
theorem aO.shape(h:aO w F u x):∃k i b t p n c,u=cells5 k i b t p n c:=by
 rcases h.inv with ⟨_,_,_,_,_,_,rfl,_⟩ | ⟨_,_,_,_,_,_,_,_,_,_,rfl,_⟩ <;> exact⟨_,_,_,_,_,_,_,rfl⟩
theorem aO.lies(h:aO w F u x):aJ w u x :=
 h (fun _ u x=>aJ w u x) (fun F k i b t p c=>aJ.mk (xs:=[]) (fun _=>#[]) (by simp) (by simp) (fun y=>absurd rfl y) (fun j z=>by simp at z))
  (fun F k i b t g off c xs us Fs s=>aJ.mk us s.hl s.hc (fun _=>⟨_,_,rfl,s.hp.1,s.hp.2⟩) s.hr)
theorem aO.aside(h:aO w F u x):∀{G:Nat->Prop} {w':World},Aside G w w'->(∀k,F k->¬G k)->aO w' F u x:=by
 intro G w' z;refine h (fun F u x=>(∀k,F k->¬G k)->aO w' F u x) ?_ ?_
 ·intro F k i b t p c _;exact .none
 ·intro F k i b t g off c xs us Fs s D;refine .some us Fs s.hl s.hc s.h5 ⟨Nat.lt_of_lt_of_le s.hp.1 z.size,fun j y m E=>?_⟩ (fun j y m E=>?_) s.hg s.hgs s.hd s.hs (fun j y=>s.hr j y fun k I=>D k (s.hs j y k I))
  ·rw[z.cell s.hp.1 (D _ s.hg)];exact s.hp.2 j y m E
  ·rw[z.frozen s.hp.1 (D _ s.hg)];exact s.hf j y m E
theorem aO.under(h:aO w F u x)(hb:Below B w w')(y:∀k,F k->k<B):aO w' F u x :=
 h.aside (G:=fun k=>B<=k) (ij hb fun _ _ h=>h) fun k z D=>by have:=y k z;omega
theorem aO.mono(h:aO w F u x)(y:∀k,F k->G k):aO w G u x:=by
 rcases h.inv with ⟨k,i,b,t,p,c,rfl,rfl⟩ | ⟨k,i,b,t,g,off,c,xs,us,Fs,rfl,rfl,s⟩
 ·exact .none
 ·exact .some us Fs s.hl s.hc s.h5 s.hp s.hf (y _ s.hg) s.hgs s.hd (fun j z k D=>y k (s.hs j z k D)) s.hr
end
def flat(us:Nat->AV):Nat->List Value
 |0=>[]
 |n+1=>flat us n++(us n).toList
theorem oC(us:Nat->AV):∀n,(∀j,j<n->(us j).size=5)->(flat us n).length=n*5
 |0,_=>by simp[flat]
 |n+1,h=>by
  rw[flat,List.length_append,oC us n fun j y=>h j (by omega),Array.length_toList,h n (by omega)];omega
theorem flat_get(us:Nat->AV):∀n,(∀j,j<n->(us j).size=5)->∀j,j<n->∀m,m<5->(flat us n)[j*5+m]?=(us j)[m]?
 |0,_,j,y,_,_=>by omega
 |n+1,h,j,y,m,hm=>by
  have E:=oC us n fun j y=>h j (by omega);rw[flat];rcases Nat.lt_or_ge j n with z | z
  ·rw[List.getElem?_append_left (by omega),flat_get us n (fun j y=>h j (by omega)) j z m hm]
  ·have D:j=n:=(by omega);subst D;rw[List.getElem?_append_right (by omega),E,Nat.add_sub_cancel_left];simp
theorem fq(us y:Nat->AV):∀n,(∀j,j<n->us j=y j)->flat us n=flat y n
 |0,_=>rfl
 |n+1,h=>by rw[flat,flat,fq us y n fun j z=>h j (by omega),h n (by omega)]
structure aZ(w:World)(B:Nat)(v:Value)(n:Nat)(us:Nat->AV)(Fs:Nat->Nat->Prop)(ys:List V):Prop where
 len:ys.length=n
 five:∀j,j<n->(us j).size=5
 row:w.ownsRow B 38 5 v n (flat us n)
 own:∀j (h:j<ys.length),aO w (Fs j) (us j) ys[j]
 apart:∀j m,j<n->m<n->j≠m->∀k,Fs j k->¬Fs m k
 beside:∀g,v.ownBlock=some g->∀j,j<n->¬Fs j g
 range:∀j,j<n->∀k,Fs j k->B<=k∧k<w.1.size
theorem fV(w:World)(B:Nat):aZ w B (.slice none 0 0) 0 (fun _=>#[]) (fun _ _=>False) [] :=
 ⟨rfl,fun j y=>by omega,World.ownsRow_nil _ _ _ _,fun j y=>by simp at y,fun j m y=>by omega,fun g z=>by simp[Value.ownBlock] at z,fun j y=>by omega⟩
section
variable {w w':World} {B:Nat} {v:Value} {n:Nat} {us:Nat->AV} {Fs:Nat->Nat->Prop} {ys:List V}
theorem aZ.aside{G:Nat->Prop}(h:aZ w B v n us Fs ys)(z:Aside G w w')(J:∀g,v.ownBlock=some g->¬G g)(K:∀j,j<n->∀k,Fs j k->¬G k):aZ w' B v n us Fs ys:=by
 refine⟨h.len,h.five,?_,fun j y=>(h.own j y).aside z (K j (by rw[<-h.len];exact y)),h.apart,h.beside,fun j y k E=>⟨(h.range j y k E).1,Nat.lt_of_lt_of_le (h.range j y k E).2 z.size⟩⟩;refine⟨h.row.1,?_⟩;rcases h.row.2 with L | ⟨g,cap,I,rfl,M,D,O⟩
 ·exact .inl L
 ·exact .inr ⟨g,cap,I,rfl,M,by rw[z.block g (Array.getElem?_eq_some_iff.1 D).1 (J g rfl)];exact D,O⟩
theorem aZ.lt(h:aZ w B v n us Fs ys):∀g,v.ownBlock=some g->B<=g∧g<w.1.size:=World.ownsRow.lt h.row
theorem aZ.on(h:aZ w B v n us Fs ys)(hb:Below w.1.size w w'):aZ w' B v n us Fs ys :=
 h.aside (al hb (fun _=>False)) (fun _ _ y=>y) (fun _ _ _ _ y=>y)
theorem aZ.set(h:aZ w B v n us Fs ys)(p:Addr)(u:Value)(I:p.block<B):aZ (w.setCell p u) B v n us Fs ys :=
 h.aside (G:=fun k=>k=p.block) ((Aside.refl (fun k=>k=p.block) w).setCell (p:=p) (.inl rfl) u) (fun g z y=>by have:=(h.lt g z).1;omega) (fun j D k E y=>by have:=(h.range j D k E).1;omega)
theorem aZ.step{F:Nat->Prop}{x:V}{cap:Nat}(h:aZ w B v n us Fs ys)(hb:Below w.1.size w w2)(U:aO w2 F u x)(J:∀k,F k->w.1.size<=k∧k<w2.1.size)(M:Below w2.1.size w2 w3)(ak:B<=w.1.size)(Y:w4.ownsRow B 38 5 (.slice (some ⟨g,0,none⟩) (n+1) cap) (n+1) (flat us n++u.toList))(K:w3.grownBy w4 v.ownBlock)(E:v.ownBlock=some g∨g=w3.1.size):
  aZ w4 B (.slice (some ⟨g,0,none⟩) (n+1) cap) (n+1) (fun j=>if j=n then u else us j) (fun j=>if j=n then F else Fs j) (ys++[x]):=by
 have a2:=hb.size;have a3:=M.size;have L:Aside (fun k=>v.ownBlock=some k) w2 w4:=by
  refine(al M _).trans (G:=fun k=>v.ownBlock=some k) ⟨K.os,K.tape,K.output,K.size,fun k y W=>K.block k y (fun z=>W z.symm)⟩ (fun _ _ h=>h)
 have Q:∀k,F k->¬v.ownBlock=some k:=fun k y z=>by have:=(h.lt k z).2;have:=(J k y).1;omega
 have a1:∀j,j<n+1->j≠n->j<n:=fun j ab ah=>by omega
 refine⟨by rw[List.length_append,h.len];rfl,fun j I=>?_,?_,fun j I=>?_,fun j m I a0 X k y=>?_,fun Z O j I=>?_,fun j I k y=>?_⟩
 ·split
  ·exact U.five
  ·exact h.five j (by omega)
 ·rw[flat,fq _ us n (fun j I=>by simp[show ¬j=n by omega])];simpa using Y
 ·rw[List.length_append,h.len,List.length_singleton] at I;by_cases D:j=n
  ·subst D;rw[if_pos rfl,if_pos rfl,List.getElem_append_right (by rw[h.len];exact gQx)];simp only[h.len,Nat.sub_self,List.getElem_singleton];exact U.aside L Q
  ·rw[if_neg D,if_neg D,List.getElem_append_left (by rw[h.len];omega)];exact((h.own j (by rw[h.len];omega)).under hb (fun k y=>(h.range j (by omega) k y).2)).aside L (fun k y z=>h.beside k z j (by omega) y)
 ·by_cases D:j=n
  ·rw[if_pos D] at y;rw[if_neg (by omega)];exact fun z=>by have:=(h.range m (by omega) k z).2;have:=(J k y).1;omega
  ·rw[if_neg D] at y;by_cases S:m=n
   ·rw[if_pos S];exact fun z=>by have:=(h.range j (by omega) k y).2;have:=(J k z).1;omega
   ·rw[if_neg S];exact h.apart j m (by omega) (by omega) X k y
 ·simp only[Value.ownBlock,Option.some.injEq] at O;subst O;by_cases D:j=n
  ·rw[if_pos D];intro z;have:=J _ z;rcases E with E | E
   ·exact Q _ z E
   ·omega
  ·rw[if_neg D];intro z;rcases E with E | E
   ·exact h.beside _ E j (by omega) z
   ·have:=(h.range j (by omega) _ z).2;omega
 ·have aj:=L.size;by_cases D:j=n
  ·rw[if_pos D] at y;have:=J k y;omega
  ·rw[if_neg D] at y;have:=h.range j (by omega) k y;omega
theorem aZ.done(h:aZ w B v n us Fs ys)(Q:n*64<=140737488351232)(k i:Int)(b:Nat)(t:ByteArray):∃p c,v=.slice p n c∧aO w (fun k=>B<=k∧k<w.1.size) (cells5 k i b t p n c) (.mk k i b t ys):=by
 rcases h.row.2 with ⟨rfl,D⟩ | ⟨g,cap,X,rfl,J,z,K,Y,Z,L⟩
 ·have W:ys=[]:=List.eq_nil_of_length_eq_zero (by rw[h.len];exact D);subst W;subst D;exact⟨none,0,rfl,.none⟩
 ·refine⟨_,cap,rfl,?_⟩;have E:=(Array.getElem?_eq_some_iff.1 z).1;have S:=h.len;have M:∀q,q<n*5->w.cell? ⟨g,q,none⟩=(flat us n)[q]?:=fun q U=>by
   rw[<-L,List.getElem?_take_of_lt U];simp[World.cell?,z]
  subst S;refine .some us Fs Q K h.five ⟨E,fun j y m I=>?_⟩ (fun j y m I=>by simp[World.frozen?,z]) ⟨J,E⟩ (fun j y=>h.beside g rfl j y) h.apart (fun j y k O=>h.range j y k O) h.own;rw[Nat.zero_add,M _ (by omega),flat_get us _ h.five j y m I]
end
end
section
open Go.RowKit
def zeroV:Value:=.agg (cells5 0 0 0 ⟨#[]⟩ none 0 0)
theorem uU:(Tryz.prog.info? 38).map (fun i=>(i.zero,i.size,i.bytes))=some (some zeroV,5,64):=by kernel_rfl
theorem wS{F:Nat->Prop}{x:V}(h:aO w F u x):∀a∈u.toList,a.oneCell'=true:=by
 have key:∀(k i:Int) (b:Nat) (t:ByteArray) (p:OA) (n c:Nat),∀a∈(cells5 k i b t p n c).toList,a.oneCell'=true:=by
  intro k i b t p n c a y;simp[cells5] at y;rcases y with rfl | rfl | rfl | rfl | rfl <;> rfl
 obtain⟨_,_,_,_,_,_,_,rfl⟩:=h.shape;exact key _ _ _ _ _ _ _
theorem aa{fr:Nat×Nat}(h:w.1[b]?=some (.cells C T fr))(m:Nat):w.cell? ⟨b,m,none⟩=C[m]?:=by
 simp[World.cell?,h]
theorem cQ4{fr:Nat×Nat}{v0:Value}(h:w.1[b]?=some (.cells #[v0,v1,v2,v3] T fr)):w.cell? ⟨b,0,none⟩=some v0∧w.cell? ⟨b,1,none⟩=some v1∧w.cell? ⟨b,2,none⟩=some v2∧w.cell? ⟨b,3,none⟩=some v3:=⟨aa h 0,aa h 1,aa h 2,aa h 3⟩
theorem cQ5{fr:Nat×Nat}{v0:Value}(h:w.1[b]?=some (.cells #[v0,v1,v2,v3,v4] T fr)):w.cell? ⟨b,0,none⟩=some v0∧w.cell? ⟨b,1,none⟩=some v1∧w.cell? ⟨b,2,none⟩=some v2∧w.cell? ⟨b,3,none⟩=some v3∧w.cell? ⟨b,4,none⟩=some v4:=⟨aa h 0,aa h 1,aa h 2,aa h 3,aa h 4⟩
theorem cQ9{fr:Nat×Nat}{v0 y z D E:Value}(h:w.1[b]?=some (.cells #[v0,v1,v2,v3,v4,y,z,D,E] T fr)):w.cell? ⟨b,0,none⟩=some v0∧w.cell? ⟨b,1,none⟩=some v1∧w.cell? ⟨b,2,none⟩=some v2∧w.cell? ⟨b,3,none⟩=some v3∧w.cell? ⟨b,4,none⟩=some v4∧w.cell? ⟨b,5,none⟩=some y∧w.cell? ⟨b,6,none⟩=some z∧w.cell? ⟨b,7,none⟩=some D∧w.cell? ⟨b,8,none⟩=some E:=⟨aa h 0,aa h 1,aa h 2,aa h 3,aa h 4,aa h 5,aa h 6,aa h 7,aa h 8⟩
theorem ac(h:w.1[b]?=some (.cells C T (0,0)))(m:Nat):w.frozen? ⟨b,m,none⟩=false:=by
 simp[World.frozen?,h]
theorem au(h:w.1[b]?=some o):b<w.1.size:=(Array.getElem?_eq_some_iff.1 h).1
theorem aR(h:w.1[b]?=some o)(hb:Below B w w')(y:b<B):w'.1[b]?=some o:=(hb.block b y).trans h
theorem am(w:World)(o:Obj):(w.alloc o).1[w.1.size]?=some o:=by
 show(w.1.push o)[w.1.size]?=_;simp
theorem aG(w:World)(o:Obj){k:Nat}(h:k<w.1.size):(w.alloc o).1[k]?=w.1[k]?:=by
 show(w.1.push o)[k]?=_;rw[Array.getElem?_push,if_neg (by omega)]
theorem ai(h:w.1[b]?=some (.cells C T (0,0)))(m:Nat)(u:Value):(w.setCell ⟨b,m,none⟩ u).1[b]?=some (.cells (C.set! m u) T (0,0)):=by
 simp[World.setCell,Array.getElem?_modify,h]
theorem ax(h:w.1[b]?=some o)(p:Addr)(u:Value)(y:b≠p.block):(w.setCell p u).1[b]?=some o:=(Below.heap_setCell _ _ _ _ y).trans h
theorem af(P:Program)(w:World)(a:Addr)(m:Mode)(k:FloatKind)(x:Nat):(store a (.float k x) m).run P w=stored P w a (.float k x) m:=run_store P w a _ m rfl
section
variable {B:Nat} {v:Value} {n:Nat} {us:Nat->AV} {w:World} {u:AV} {ad H:Nat}
theorem jn(ab:w.ownsRow B 38 5 v n (flat us n))(L:u.size=5)(E:∀a∈u.toList,a.oneCell'=true)(S:w.1[ad]?=some (.cells u 38 (0,0)))(Y:(n+1)*64<=140737488355328)(M:B<=w.1.size)(O:w.1.size=H){D:Array Oper}{rest:List Oper}{o:Oper}{a:Act}{z:Exit->Act->World->Prop}{y x:Operand}(W:o.guard=none)(Z:o.op=Op.call { callee:=Callee.builtin Builtin.append,args:=#[y,x],argTypes:=#[36,36] })(ah:a.eval y=v)(ak:a.eval x=.slice (some ⟨ad,0,none⟩) 1 1)(Q:∀g cap w',w'.ownsRow B 38 5 (.slice (some ⟨g,0,none⟩) (n+1) cap) (n+1) (flat us n++u.toList)->w.grownBy w' v.ownBlock->(v.ownBlock=some g∨g=H)->wpList Tryz.prog D z rest (a.put o.dst (.slice (some ⟨g,0,none⟩) (n+1) cap)) w'):
  wpList Tryz.prog D z (o::rest) a w:=by
 obtain⟨i,X,a0,aj,U⟩:=info_parts uU
 exact wpList_append_lies w W y x 36 Z B 38 i zeroV 5 64 Tryz.underlying36 X a0 aj U rfl (by decide) v n (flat us n) ah ab ⟨ad,0,none⟩ 1 1 u.toList ak (by simp[L])
  (World.news_of_block S) E (by decide) (by unfold maxLen;omega) Y M H O fun g cap w' I J K _=>Q g cap w' I J K
theorem ll(ah:w.ownsRow B 38 5 v n (flat us n))(M:u.size=5)(I:∀a∈u.toList,a.oneCell'=true)(U:w.1[ad]?=some (.cells u 38 (0,0)))(Z:(n+1)*64<=140737488355328)(O:B<=w.1.size)(Q:w.1.size=H){a2:Array Oper}{o:Oper}{a:Act}{z:Act->World->Prop}{E:Exit->Act->World->Prop}{D:Prop}(y x:Operand)(X:o.guard=none)(ab:o.op=Op.call { callee:=Callee.builtin Builtin.append,args:=#[y,x],argTypes:=#[36,36] })(aj:a.eval y=v)(a0:a.eval x=.slice (some ⟨ad,0,none⟩) 1 1)(S:∀g cap w',w'.ownsRow B 38 5 (.slice (some ⟨g,0,none⟩) (n+1) cap) (n+1) (flat us n++u.toList)->w.grownBy w' v.ownBlock->(v.ownBlock=some g∨g=H)->z (a.put o.dst (.slice (some ⟨g,0,none⟩) (n+1) cap)) w'):
  if Region.wanted o (yielded a2 a.tmps)=true then Oper.wp Tryz.prog o a w z E else D:=by
 obtain⟨i,Y,a1,ak,W⟩:=info_parts uU
 exact step_append_lies w X y x 36 ab B 38 i zeroV 5 64 Tryz.underlying36 Y a1 ak W rfl (by decide) v n (flat us n) aj ah ⟨ad,0,none⟩ 1 1 u.toList a0 (by simp[M])
  (World.news_of_block U) I (by decide) (by unfold maxLen;omega) Z O H Q fun g cap w' J K L _=>S g cap w' J K L
end
theorem pt{z:Array Oper}{o:Oper}{a:Act}{y:Act->World->Prop}{E:Exit->Act->World->Prop}{D:Prop}{f:FuncId}{fn:Func}{code:Code}{u:Value}{R:Ending->World->Prop}(x:Operand)(t:TypeId)(Q:o.guard=none)(W:o.op=Op.call { callee:=.value (.func f),args:=#[x],argTypes:=#[t] })(Z:a.eval x=u)(O : Tryz.prog.funcs[f]?=some fn)(U : (fn.name== "runtime.NumGoroutine")=false)(hb : fn.body=some code)(K:Calls Tryz.prog f #[u] w R)(J:∀e w',R e w'->∃v,e=.returned v∧y (a.put o.dst v) w'):
  if Region.wanted o (yielded z a.tmps)=true then Oper.wp Tryz.prog o a w y E else D:=by
 have Y:Region.wanted o (yielded z a.tmps)=true:=by simp[Region.wanted,Q]
 rw[if_pos Y];have I : fn.name≠ "runtime.NumGoroutine" := by simpa using U
 unfold Oper.wp;have L:(execOp a.eval o).run Tryz.prog w=.ok (.enter f #[u]) w:=by
  have M:a.eval (.func f)=.func (.func f) #[] #[]:=rfl;simp[execOp,W,resolve,invoke,Z,M,Deferred.ofValue,callFunc,O,I,hb]
 rw[L,Oper.upon_enter];refine K.mono ?_;intro e w' X;obtain⟨v,rfl,S⟩:=J e w' X;exact S
end
section
open Go.RowKit
attribute [local go_sem] af
structure kK(w:World)(C0:AV)(k i:Int)(b:Nat)(t:ByteArray)(zs:List V)(j:Nat)(v:Value)(wr:World):Prop where
 built:∃us Fs,aZ wr (w.1.size+3) v j us Fs (zs.take j)
 b0:wr.1[w.1.size]?=some (.cells C0 38 (0,0))
 b1:wr.1[w.1.size+1]?=some (.cells (cells5 0 0 0 ⟨#[]⟩ none 0 0) 38 (0,0))
 b2:wr.1[w.1.size+2]?=some (.cells #[.int .i64 k,.int .i64 i,.float .f64 b,.string t,v] 38 (0,0))
 below:Below w.1.size w wr
 size:w.1.size+3<=wr.1.size
section
variable {w wr:World} {C0:AV} {k i:Int} {b:Nat} {t:ByteArray} {zs:List V} {j:Nat} {v:Value}
theorem kK.slice(h:kK w C0 k i b t zs j v wr):∃p c,v=.slice p j c:=by
 obtain⟨us,Fs,hb⟩:=h.built;rcases hb.row.2 with ⟨y,z⟩ | ⟨g,cap,D,y,_⟩
 ·exact⟨none,0,by rw[y,z]⟩
 ·exact⟨_,cap,y⟩
theorem kK.next{F:Nat->Prop}{cap:Nat}{us:Nat->AV}{Fs:Nat->Nat->Prop}(h:kK w C0 k i b t zs j v wr)(D:aZ wr (w.1.size+3) v j us Fs (zs.take j))(L:j<zs.length)(hb:Below wr.1.size wr w2)(U:aO w2 F u zs[j])(J:∀k,F k->wr.1.size<=k∧k<w2.1.size)(y:Below w2.1.size w2 w3)(O:w4.ownsRow (w.1.size+3) 38 5 (.slice (some ⟨g,0,none⟩) (j+1) cap) (j+1) (flat us j++u.toList))(z:w3.grownBy w4 v.ownBlock)(I:v.ownBlock=some g∨g=w3.1.size):
  Below w.1.size w w4∧(∀n,n<3->w4.1[w.1.size+n]?=wr.1[w.1.size+n]?)∧kK w C0 k i b t zs (j+1) (.slice (some ⟨g,0,none⟩) (j+1) cap) (w4.setCell ⟨w.1.size+2,4,none⟩ (.slice (some ⟨g,0,none⟩) (j+1) cap)):=by
 have Q:=h.size;have W:=hb.size;have X:=y.size;have S:=D.step hb U J y Q O z I;have hold:∀n,n<3->w4.1[w.1.size+n]?=wr.1[w.1.size+n]?:=fun n I=>by
  rw[z.block _ (by omega) (fun K=>by have:=(D.lt _ K.symm).1;omega),y.block _ (by omega),hb.block _ (by omega)]
 have E:Below w.1.size w w4:=((h.below.trans (hb.mono (by omega))).trans (y.mono (by omega))).grown z (by omega) (fun k M=>by have:=(D.lt k M).1;omega);refine⟨E,hold,⟨⟨(fun n=>if n=j then u else us n),(fun n=>if n=j then F else Fs n),?_⟩,?_,?_,?_,?_,?_⟩⟩
 ·rw[List.take_succ_eq_append_getElem L];exact S.set ⟨w.1.size+2,4,none⟩ _ (by show w.1.size+2<_;omega)
 ·have:=hold 0 (by omega);rw[Nat.add_zero] at this;exact ax (this.trans h.b0) _ _ (by show w.1.size≠w.1.size+2;omega)
 ·exact ax ((hold 1 (by omega)).trans h.b1) _ _ (by show w.1.size+1≠w.1.size+2;omega)
 ·rw[ai ((hold 2 (by omega)).trans h.b2)];rfl
 ·exact E.setCell (by show w.1.size<=w.1.size+2;omega) _
 ·have:=z.size;simp[World.setCell];omega
def pO(w:World)(g:Nat)(k i:Int)(b:Nat)(t:ByteArray)(v:Value):World :=
 ((((w.setCell ⟨g,0,none⟩ (.int .i64 k)).setCell ⟨g,1,none⟩ (.int .i64 i)).setCell ⟨g,2,none⟩ (.float .f64 b)).setCell ⟨g,3,none⟩ (.string t)).setCell ⟨g,4,none⟩ v
end
end
section
open Go.RowKit
namespace V
theorem sameL_ne:∀(xs ys:List V),xs.length≠ys.length->sameL xs ys=false
 | [],[],h=>absurd rfl h
 | [],_::_,_=>rfl
 |_::_,[],_=>rfl
 |x::r,y::s,h=>by rw[sameL_cons,sameL_ne r s (by simpa using h),Bool.and_false]
theorem sameL_at:∀(xs ys:List V) (j:Nat) (z:j<xs.length) (D:j<ys.length),same xs[j] ys[j]=false->sameL xs ys=false
 |x::r,y::s,0,_,_,h=>by rw[sameL_cons];simp at h;rw[h,Bool.false_and]
 |x::r,y::s,j+1,z,D,h=>by rw[sameL_cons,sameL_at r s j (by simpa using z) (by simpa using D) (by simpa using h),Bool.and_false]
theorem sameL_all:∀(xs ys:List V),xs.length=ys.length->(∀j (z:j<xs.length) (D:j<ys.length),same xs[j] ys[j]=true)->sameL xs ys=true
 | [],[],_,_=>rfl
 | [],_::_,h,_=>by simp at h
 |_::_,[],h,_=>by simp at h
 |x::r,y::s,h,ha=>by
  rw[sameL_cons,sameL_all r s (by simpa using h) (fun j z D=>by have:=ha (j+1) (by simpa using z) (by simpa using D);simpa using this)];have:=ha 0 (by simp) (by simp);simp at this;rw[this];rfl
end V
def dm(w:World)(p:OA)(xs:List V):Prop:=∀j (hj:j<xs.length),∃u',aJ w u' xs[j]∧Item w p j u'
theorem dm.on{p:OA}{xs:List V}(h:dm w p xs)(hb:Below w.1.size w w'):dm w' p xs:=fun j D=>by
 obtain⟨E,y,z⟩:=h j D;exact⟨E,y.on hb,z.on hb⟩
theorem fF(xs:List V)(aj:∀x∈xs,∀(y:V) (w:World) (u v:AV),aJ w u x->aJ w v y->Calls Tryz.prog 60 #[.agg u,.agg v] w fun e w'=>e=.returned (.bool (V.same x y))∧Below w.1.size w w')(ys:List V)(w:World)(p q:OA)(c d:Nat)(ab:dm w p xs)(ah:dm w q ys)(cv:xs.length*64<=140737488351232):
  Calls Tryz.prog 58 #[.slice p xs.length c,.slice q ys.length d] w fun e w'=>e=.returned (.bool (V.sameL xs ys))∧Below w.1.size w w':=by
 by_cases z:¬xs.length=ys.length
 ·have cc:((xs.length:Int) != (ys.length:Int))=true:=aQ (by omega);have I:Hid (V.sameL xs ys=false):=V.sameL_ne xs ys z;clear aj ab ah z;go_enter Tryz.func58,Tryz.ntmps58;go_wp2;go_ret;exact⟨by rw[I.out];rfl,gQz⟩
 replace z:xs.length=ys.length:=Classical.not_not.1 z
 have cc:((xs.length:Int) != (ys.length:Int))=false:=bo (by omega);have ca:=gQq ab;have cb:=gQq ah;have b8:=gQq aj;have a0:=gQq z;clear aj ab ah z;go_enter Tryz.func58,Tryz.ntmps58;go_wp2;go_loopw [5,6] (fun ak _ wr=>∃j:Nat,j<=xs.length∧ak=.int .i64 j∧Hid (Below w.1.size w wr∧∀m (L:m<xs.length) (M:m<ys.length),m<j->V.same xs[m] ys[m]=true)) (fun ak _ _=>xs.length-(intOf ak).toNat);case atStart=>exact⟨0,by omega,rfl,gQz,fun m _ _ h=>by omega⟩
 case round=>
  obtain⟨j,cq,rfl,J⟩:=hrel;have D:Below w.1.size w wr:=J.out.1;by_cases W:j<xs.length
  ·have br:j<ys.length:=(by have:=a0.out;omega);obtain⟨cw,bs,bp⟩:=ca.out j W;obtain⟨cx,bN,bq⟩:=cb.out j br;obtain⟨bx,O,bX,bO,bj,b5,b3,b1,be,rfl,_,rfl,a2,a3,a4,a5,a6⟩:=(bp.on D).lies;obtain⟨K,Q,b0,bT,bk,b6,b4,b2,bi,rfl,_,rfl,a7,a8,a9,bb,bc⟩:=(bq.on D).lies
   have U:Hid (∀w',Below w.1.size w w'->Calls Tryz.prog 60 #[.agg #[.int .i64 bX,.int .i64 bO,.float .f64 bj,.string b5,.slice b3 b1 be],.agg #[.int .i64 b0,.int .i64 bT,.float .f64 bk,.string b6,.slice b4 b2 bi]] w' fun e ce=>e=.returned (.bool (V.same xs[j] ys[j]))∧Below w'.1.size w' ce) :=
    fun w' hb=>b8.out _ (List.getElem_mem W) ys[j] w' _ _ (bs.on hb) (bN.on hb)
   have E:=gQq D;have X:=gQq J.out.2;have cr:(j:Int)<(xs.length:Int):=(by omega);have cs:(j:Int)<(ys.length:Int):=(by omega);obtain⟨r,Z⟩:∃r,r=V.same xs[j] ys[j]:=⟨_,rfl⟩;rw[<-Z] at U;have a1:=gQq Z;clear bs bN bp bq D J Z;go_wp2_with fail
   go_region_held3 (fun w'=>w'.cell? ⟨bx,O+j*5,none⟩=some (.int .i64 bX)∧w'.cell? ⟨bx,O+j*5+1,none⟩=some (.int .i64 bO)∧w'.cell? ⟨bx,O+j*5+2,none⟩=some (.float .f64 bj)∧w'.cell? ⟨bx,O+j*5+3,none⟩=some (.string b5)∧w'.cell? ⟨bx,O+j*5+4,none⟩=some (.slice b3 b1 be)∧w'.cell? ⟨K,Q+j*5,none⟩=some (.int .i64 b0)∧w'.cell? ⟨K,Q+j*5+1,none⟩=some (.int .i64 bT)∧w'.cell? ⟨K,Q+j*5+2,none⟩=some (.float .f64 bk)∧w'.cell? ⟨K,Q+j*5+3,none⟩=some (.string b6)∧w'.cell? ⟨K,Q+j*5+4,none⟩=some (.slice b4 b2 bi)) (go_keep) (first|(go_at_call 60;refine(U.out _ (below_drewN E.out _)).mono ?_;rintro e w4 ⟨rfl,bn⟩;have hb5:=dz (w:=wr) bn (by rfl) (by rfl) (by rfl) (by rfl);have z3:=ae hb5 a2;have z4:=ae hb5 a3;have cj:=ae hb5 a4;have ck:=ae hb5 a5;have cn:=ae hb5 a6;have co:=ae hb5 a7;have cp:=ae hb5 a8;have cf:=ae hb5 a9;have cg:=ae hb5 bb;have ci:=ae hb5 bc;have S:=gQq hb5;clear bn hb5))
   clear z3 z4 cj ck cn co cp cf cg ci a2 a3 a4 a5 a6 a7 a8 a9 bb bc;cases r with
   |true=>
    have b9:Hid (Below w.1.size w w4∧∀m (L:m<xs.length) (M:m<ys.length),m<j+1->V.same xs[m] ys[m]=true):=by
     refine⟨E.out.trans (S.out.mono E.out.size),fun m L M cu=>?_⟩;by_cases cd:m=j
     ·subst cd;exact a1.out.symm
     ·exact X.out m L M (by omega)
    clear S X U;go_wp2;go_roundw;case rel=>exact⟨j+1,by omega,by go_num,b9⟩
    case measure=>simp[intOf];omega
   |false=>
    have I:Hid (V.sameL xs ys=false):=V.sameL_at xs ys j W br a1.out.symm;have Y:=gQq (E.out.trans (S.out.mono E.out.size));clear S X U;go_wp2;go_ret;exact⟨by rw[I.out];rfl,Y.out⟩
  ·have I:Hid (V.sameL xs ys=true):=V.sameL_all xs ys a0.out (fun m L M=>J.out.2 m L M (by omega));have Y:=gQq D;have ct:¬(j:Int)<(xs.length:Int):=(by omega);clear J D W;go_wp2;go_ret;exact⟨by rw[I.out];rfl,Y.out⟩
theorem cZ{a b:Int}(h:a=b):(a==b)=true:=by rw[h];simp
theorem bd{a b:Int}(h:¬a=b):(a==b)=false:=by rw[beq_eq_false_iff_ne];exact h
theorem nN:∀(x W:V) (w:World) (u v:AV),aJ w u x->aJ w v W->Calls Tryz.prog 60 #[.agg u,.agg v] w fun e w'=>e=.returned (.bool (V.same x W))∧Below w.1.size w w':=by
 intro x;refine V.ind (P:=fun x=>∀(W:V) (w:World) (u v:AV),aJ w u x->aJ w v W->Calls Tryz.prog 60 #[.agg u,.agg v] w fun e w'=>e=.returned (.bool (V.same x W))∧Below w.1.size w w') ?_ x;rintro k i b t xs U ⟨k',L,y,I,ys⟩ w u v ab ah;obtain⟨p,c,rfl,a4,a6,Q⟩:=ab.open;obtain⟨q,d,rfl,a8,a7,S⟩:=ah.open;unfold cells5;have X:Below w.1.size w ((w.alloc (.cells #[.int .i64 k,.int .i64 i,.float .f64 b,.string t,.slice p xs.length c] 38)).alloc (.cells #[.int .i64 k',.int .i64 L,.float .f64 y,.string I,.slice q ys.length d] 38)):=gQy.alloc (by simp) _;have M:=gQq X;clear X ab ah;by_cases D:¬k=k'
 ·have a0:=bd D;have J:Hid (V.same (.mk k i b t xs) (.mk k' L y I ys)=false):=by show _=_;simp[V.same_mk,D]
  clear U Q S D;go_enter Tryz.func60,Tryz.ntmps60;go_wp2_with fail;refine(dG b y _).mono ?_;rintro e w1 ⟨rfl,z⟩;rw[z];clear z w1;go_wp2;go_ret;exact⟨by rw[J.out];rfl,M.out⟩
 replace D:k=k':=Classical.not_not.1 D
 have a0:=cZ D;by_cases E:¬i=L
 ·have a1:=bd E;have J:Hid (V.same (.mk k i b t xs) (.mk k' L y I ys)=false):=by show _=_;simp[V.same_mk,E]
  clear U Q S D E;go_enter Tryz.func60,Tryz.ntmps60;go_wp2_with fail;refine(dG b y _).mono ?_;rintro e w1 ⟨rfl,z⟩;rw[z];clear z w1;go_wp2;go_ret;exact⟨by rw[J.out];rfl,M.out⟩
 replace E:i=L:=Classical.not_not.1 E
 have a1:=cZ E;by_cases K:¬t=I
 ·have a2:(t.toList==I.toList)=false:=by rw[dA,decide_eq_false K]
  have J:Hid (V.same (.mk k i b t xs) (.mk k' L y I ys)=false):=by show _=_;simp[V.same_mk,K]
  clear U Q S D E K;go_enter Tryz.func60,Tryz.ntmps60;go_wp2_with fail;refine(dG b y _).mono ?_;rintro e w1 ⟨rfl,z⟩;rw[z];clear z w1;go_wp2;go_ret;exact⟨by rw[J.out];rfl,M.out⟩
 replace K:t=I:=Classical.not_not.1 K
 have a2:(t.toList==I.toList)=true:=by rw[dA,decide_eq_true K]
 by_cases O:¬ay b=ay y
 ·have a3:((ay b:Int)==(ay y:Int))=false:=bd (by omega);have J:Hid (V.same (.mk k i b t xs) (.mk k' L y I ys)=false):=by show _=_;simp[V.same_mk,O]
  clear U Q S D E K O;go_enter Tryz.func60,Tryz.ntmps60;go_wp2_with fail;refine(dG b y _).mono ?_;rintro e w1 ⟨rfl,z⟩;rw[z];clear z w1;go_wp2;go_ret;exact⟨by rw[J.out];rfl,M.out⟩
 replace O:ay b=ay y:=Classical.not_not.1 O
 have a3:((ay b:Int)==(ay y:Int))=true:=cZ (by omega);have J:Hid (V.same (.mk k i b t xs) (.mk k' L y I ys)=V.sameL xs ys):=by show _=_;simp[V.same_mk,D,E,K,O]
 have Y:∀w',Below w.1.size w w'->Calls Tryz.prog 58 #[.slice p xs.length c,.slice q ys.length d] w' fun e a5=>e=.returned (.bool (V.sameL xs ys))∧Below w'.1.size w' a5:=fun w' hb=>fF xs U ys w' p q c d (dm.on Q hb) (dm.on S hb) a4;have ak:=gQq Y;clear U Q S D E K O Y;go_enter Tryz.func60,Tryz.ntmps60;go_wp2_with fail;refine(dG b y _).mono ?_;rintro e w1 ⟨rfl,z⟩;rw[z];clear z w1;go_wp2_with fail;refine(ak.out _ M.out).mono ?_;rintro e w3 ⟨rfl,Z⟩;have aj:=gQq (M.out.trans (Z.mono M.out.size));clear Z;go_wp2;go_ret;exact⟨by rw[J.out];simp,aj.out⟩
theorem ml(xs ys:List V)(w:World)(p q:OA)(c d:Nat)(y:dm w p xs)(D:dm w q ys)(z:xs.length*64<=140737488351232):
  Calls Tryz.prog 58 #[.slice p xs.length c,.slice q ys.length d] w fun e w'=>e=.returned (.bool (V.sameL xs ys))∧Below w.1.size w w':=fF xs (fun x _=>nN x) ys w p q c d y D z
theorem nM(xs ys:List V)(w:World)(p q:OA)(c d:Nat)(E:dm w p xs)(I:dm w q ys)(L:xs.length*64<=140737488351232):
  Calls Tryz.prog 28 #[.agg #[.slice p xs.length c],.agg #[.slice q ys.length d]] w fun e w'=>e=.returned (.bool (V.sameL xs ys))∧Below w.1.size w w':=by
 have y:Below w.1.size w ((w.alloc (.cells #[.slice p xs.length c] 82)).alloc (.cells #[.slice q ys.length d] 82)):=gQy.alloc (by simp) _;have z:=gQq y;have K:=gQq (ml xs ys _ p q c d (E.on y) (I.on y) L);clear y E I;go_enter Tryz.func28,Tryz.ntmps28;go_wp2_with fail;refine K.out.mono ?_;rintro e w3 ⟨rfl,D⟩;have J:=gQq (z.out.trans (D.mono z.out.size));clear D;go_wp2;go_ret;exact⟨rfl,J.out⟩
end
namespace U8
def kind(c:Nat):Option (Nat×Nat×Nat) :=
 if c<128 then some (1,c,0) else if 192<=c∧c<224 then some (2,c-192,128) else if 224<=c∧c<240 then some (3,c-224,2048) else if 240<=c∧c<248 then some (4,c-240,65536) else none
def conts:Nat->Nat->L8->Option Nat
 |0,v,_=>some v
 |_+1,_,[]=>none
 |k+1,v,c::r=>if 128<=c.toNat∧c.toNat<192 then conts k (v*64+c.toNat-128) r else none
def may(least v:Nat):Bool:=decide (least<=v)&&decide (v<=1114111)&&!(decide (55296<=v)&&decide (v<=57343))
def one:L8->Option Nat
 | []=>none
 |c::r=>match kind c.toNat with
  |none=>none
  |some (n,v,least)=>match conts (n-1) v r with
   |none=>none
   |some v'=>if may least v' then some n else none
def utfF:Nat->L8->Bool
 |_,[]=>true
 |0,_::_=>false
 |f+1,c::r=>match one (c::r) with
  |none=>false
  |some n=>utfF f ((c::r).drop n)
def utf(l:L8):Bool:=utfF l.length l
theorem kind_pos{v:Nat}(h:kind c=some (n,v,least)):1<=n∧n<=4∧v<128∧(1<n->v<32):=by
 unfold kind at h;split at h
 ·simp only[Option.some.injEq,Prod.mk.injEq] at h;omega
 ·split at h
  ·simp only[Option.some.injEq,Prod.mk.injEq] at h;omega
  ·split at h
   ·simp only[Option.some.injEq,Prod.mk.injEq] at h;omega
   ·split at h
    ·simp only[Option.some.injEq,Prod.mk.injEq] at h;omega
    ·cases h
theorem conts_len:∀(k v:Nat) (r:L8) (v':Nat),conts k v r=some v'->k<=r.length
 |0,_,_,_,_=>Nat.zero_le _
 |k+1,_,[],_,h=>by simp[conts] at h
 |k+1,v,c::r,v',h=>by
  rw[conts] at h;split at h
  ·have:=conts_len k _ r v' h;simp;omega
  ·cases h
theorem one_len(h:one l=some n):1<=n∧n<=l.length:=by
 cases l with
 |nil=>simp[one] at h
 |cons c r=>
  rw[one] at h;cases hk:kind c.toNat with
  |none=>rw[hk] at h;cases h
  |some x=>
   obtain⟨m,v,least⟩:=x;rw[hk] at h;simp only at h;have y:=(kind_pos hk).1;cases hc:conts (m-1) v r with
   |none=>rw[hc] at h;cases h
   |some v'=>
    rw[hc] at h;simp only at h;have:=conts_len _ _ _ _ hc;split at h
    ·cases h;simp;omega
    ·cases h
theorem utfF_fuel:∀(n f:Nat) (l:L8),l.length<=n->l.length<=f->utfF f l=utfF l.length l:=by
 intro n;induction n with
 |zero=>
  intro f l h _;have:l=[]:=List.eq_nil_of_length_eq_zero (by omega);subst this;cases f <;> rfl
 |succ n ih=>
  intro f l h y;cases l with
  |nil=>cases f <;> rfl
  |cons c r=>
   simp only[List.length_cons] at h y ⊢;cases f with
   |zero=>omega
   |succ f=>
    rw[utfF,utfF];cases ho:one (c::r) with
    |none=>rfl
    |some m=>
     have D:=one_len ho;simp only[List.length_cons] at D;simp only;have z:((c::r).drop m).length<=r.length:=(by rw[List.length_drop,List.length_cons];omega);rw[ih f _ (by omega) (by omega),ih r.length _ (by omega) z]
theorem utf_bad(y:l≠[])(h:one l=none):utf l=false:=by
 cases l with
 |nil=>exact absurd rfl y
 |cons c r=>unfold utf;rw[List.length_cons,utfF,h]
theorem utf_step(h:one l=some n):utf l=utf (l.drop n):=by
 cases l with
 |nil=>simp[one] at h
 |cons c r=>
  have y:=one_len h;simp only[List.length_cons] at y;unfold utf;rw[List.length_cons,utfF,h];simp only;exact utfF_fuel r.length _ _ (by rw[List.length_drop,List.length_cons];omega) (by rw[List.length_drop,List.length_cons];omega)
def Inner(l:L8)(a n v0 i v:Nat):Prop:=conts (n-1) v0 (l.drop (a+1))=conts (n-i) v (l.drop (a+i))∧(i<=1->v<128)∧(i<=2->v<8192)∧(i<=3->v<524288)∧v<33554432
theorem in_start(l:L8)(a n v0:Nat)(h:v0<128):Inner l a n v0 1 v0:=⟨rfl,fun _=>h,fun _=>by omega,fun _=>by omega,by omega⟩
section
variable {l:L8} {a n v0 i v:Nat}
theorem in_short(h:Inner l a n v0 i v)(z:i<n)(y:l.length<=a+i):conts (n-1) v0 (l.drop (a+1))=none:=by
 rw[h.1,List.drop_eq_nil_of_le y,show n-i=(n-i-1)+1 by omega];rfl
theorem in_bad(h:Inner l a n v0 i v)(z:i<n)(y:a+i<l.length)(hb:¬(128<=l[a+i].toNat∧l[a+i].toNat<192)):conts (n-1) v0 (l.drop (a+1))=none:=by
 rw[h.1,List.drop_eq_getElem_cons y,show n-i=(n-i-1)+1 by omega,conts,if_neg hb]
theorem in_next(h:Inner l a n v0 i v)(K:1<=i)(M:i<n)(O:n<=4)(J:a+i<l.length)(hb:128<=l[a+i].toNat∧l[a+i].toNat<192):Inner l a n v0 (i+1) (v*64+l[a+i].toNat-128):=by
 obtain⟨z,D,E,I,L⟩:=h;refine⟨?_,fun y=>?_,fun y=>?_,fun y=>?_,?_⟩
 ·rw[z,List.drop_eq_getElem_cons J,show n-i=(n-(i+1))+1 by omega,conts,if_pos hb];rfl
 ·omega
 ·have:=D (by omega);omega
 ·have:=E (by omega);omega
 ·have:=I (by omega);omega
theorem in_end(h:Inner l a n v0 n v):conts (n-1) v0 (l.drop (a+1))=some v:=by rw[h.1,Nat.sub_self];rfl
end
theorem one_none{a v0:Nat}(y:a<l.length)(z:kind l[a].toNat=some (n,v0,least))(h:conts (n-1) v0 (l.drop (a+1))=none):one (l.drop a)=none:=by
 rw[List.drop_eq_getElem_cons y,one,z];simp only;rw[h]
theorem one_may{a v0 v:Nat}(y:a<l.length)(z:kind l[a].toNat=some (n,v0,least))(h:conts (n-1) v0 (l.drop (a+1))=some v):one (l.drop a)=if may least v then some n else none:=by
 rw[List.drop_eq_getElem_cons y,one,z];simp only;rw[h]
theorem one_kind{a:Nat}(y:a<l.length)(z:kind l[a].toNat=none):one (l.drop a)=none:=by
 rw[List.drop_eq_getElem_cons y,one,z]
end U8
end Go.Proofs.YtbahfgdbjgkklaaGreatDoor

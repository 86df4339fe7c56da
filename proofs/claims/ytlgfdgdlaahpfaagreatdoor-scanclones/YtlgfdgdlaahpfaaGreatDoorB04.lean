import Derived.Test.YtlgfdgdlaahpfaaGreatDoorB01
import Derived.Deep.RegionHeld3
set_option maxRecDepth 100000
set_option maxHeartbeats 400000
namespace Go.Proofs.YtlgfdgdlaahpfaaGreatDoor
namespace Leb
def putF:Nat->Nat->L8
 |0,_=>[]
 |f+1,n=>if n<128 then [UInt8.ofNat n] else UInt8.ofNat (n % 128+128)::putF f (n / 128)
def put(n:Nat):L8:=putF 10 n
structure Got where
 err:Nat
 n:Nat
 k:Nat
def getF:Nat->Bool->L8->Got
 |0,_,_=>⟨5,0,0⟩
 |_+1,_,[]=>⟨30,0,0⟩
 |f+1,first,c::r=>
  if 127<c.toNat then
   let g:=getF f false r
   if g.err=0 then ⟨0,g.n*128+c.toNat % 128,g.k+1⟩ else g
  else if (f=0∧1<c.toNat)∨(first=false∧c.toNat=0) then ⟨5,0,0⟩ else ⟨0,c.toNat,1⟩
def get(l:L8):Got:=getF 10 true l
theorem byte_low(n:Nat)(h:n<128):(UInt8.ofNat n).toNat=n:=by
 rw[UInt8.toNat_ofNat'];omega
theorem byte_high(n:Nat):(UInt8.ofNat (n % 128+128)).toNat=n % 128+128:=by
 rw[UInt8.toNat_ofNat'];omega
def cap(f:Nat):Nat:=if f=10 then 18446744073709551616 else 128 ^ f
theorem getF_put(f:Nat)(first:Bool)(n:Nat)(r:L8)(h:n<2*128 ^ f)(h0:first=true∨n≠0):getF (f+1) first (putF (f+1) n++r)=⟨0,n,(putF (f+1) n).length⟩:=by
 induction f generalizing first n with
 |zero=>
  have hn:n<2:=by simpa using h
  have e:putF 1 n=[UInt8.ofNat n]:=by simp only[putF];rw[if_pos (by omega)]
  rw[e]
  simp only[List.cons_append,List.nil_append,getF,byte_low n (by omega),List.length_cons,List.length_nil]
  rw[if_neg (by omega),if_neg]
  rintro(⟨_,h1⟩ | ⟨h1,h2⟩)
  ·omega
  ·rcases h0 with h0 | h0
   ·rw[h0] at h1;cases h1
   ·exact h0 h2
 |succ f ih=>
  by_cases hn:n<128
  ·have e:putF (f+1+1) n=[UInt8.ofNat n]:=by simp only[putF];rw[if_pos hn]
   rw[e]
   simp only[List.cons_append,List.nil_append,getF,byte_low n hn,List.length_cons,List.length_nil]
   rw[if_neg (by omega),if_neg]
   rintro(⟨h1,_⟩ | ⟨h1,h2⟩)
   ·omega
   ·rcases h0 with h0 | h0
    ·rw[h0] at h1;cases h1
    ·exact h0 h2
  ·have e:putF (f+1+1) n=UInt8.ofNat (n % 128+128)::putF (f+1) (n / 128):=by
    rw[putF,if_neg hn]
   have h1:n / 128<2*128 ^ f:=by
    rw[Nat.pow_succ] at h
    rw[Nat.div_lt_iff_lt_mul (by omega)]
    omega
   have hr:=ih false (n / 128) h1 (.inr (by omega))
   rw[e]
   rw[List.cons_append,getF]
   simp only[hr,byte_high,List.length_cons]
   rw[if_pos (by omega),if_pos trivial]
   congr 1
   omega
theorem get_put(n:Nat)(r:L8)(h:n<18446744073709551616):get (put n++r)=⟨0,n,(put n).length⟩:=by
 have e:2*128 ^ 9=18446744073709551616:=by decide
 exact getF_put 9 true n r (by rw[e];exact h) (.inl rfl)
theorem getF_ok(f:Nat)(first:Bool)(l:L8)(h:(getF (f+1) first l).err=0):
  (getF (f+1) first l).n<2*128 ^ f∧(first=true∨(getF (f+1) first l).n≠0)∧l.take (getF (f+1) first l).k=putF (f+1) (getF (f+1) first l).n∧(getF (f+1) first l).k<=l.length∧1<=(getF (f+1) first l).k:=by
 induction f generalizing first l with
 |zero=>
  cases l with
  |nil=>simp[getF] at h
  |cons c r=>
   rw[getF] at h ⊢
   by_cases hc:127<c.toNat
   ·rw[if_pos hc] at h
    simp[getF] at h
   ·rw[if_neg hc] at h ⊢
    by_cases hx:(0=0∧1<c.toNat)∨(first=false∧c.toNat=0)
    ·rw[if_pos hx] at h;simp at h
    ·rw[if_neg hx]
     have c1:c.toNat<2:=by omega
     refine⟨by simpa using c1,?_,?_,by simp,by simp⟩
     ·cases first
      ·right;intro h2;exact hx (.inr ⟨rfl,h2⟩)
      ·exact .inl rfl
     ·simp only[putF,List.take_succ_cons,List.take_zero]
      rw[if_pos (by omega)]
      congr 1
      exact(UInt8.toNat_inj.1 (byte_low c.toNat (by omega))).symm
 |succ f ih=>
  cases l with
  |nil=>simp[getF] at h
  |cons c r=>
   have hc256:c.toNat<256:=c.toNat_lt
   rw[getF] at h ⊢
   by_cases hc:127<c.toNat
   ·rw[if_pos hc] at h ⊢
    simp only at h ⊢
    by_cases hg:(getF (f+1) false r).err=0
    ·rw[if_pos hg]
     obtain⟨i1,i2,i3,i4,i5⟩:=ih false r hg
     have i2':(getF (f+1) false r).n≠0:=by
      rcases i2 with i2 | i2
      ·cases i2
      ·exact i2
     generalize getF (f+1) false r=g at *
     dsimp only
     refine⟨?_,.inr (by omega),?_,by simp;omega,by simp⟩
     ·rw[Nat.pow_succ];omega
     ·have e1:(g.n*128+c.toNat % 128) / 128=g.n:=by omega
      have e2:(g.n*128+c.toNat % 128) % 128+128=c.toNat:=by omega
      rw[putF,if_neg (by omega),e1,e2,List.take_succ_cons,i3]
      congr 1
      apply UInt8.toNat_inj.1
      rw[UInt8.toNat_ofNat'];omega
    ·rw[if_neg hg] at h;exact absurd h hg
   ·rw[if_neg hc] at h ⊢
    by_cases hx:(f+1=0∧1<c.toNat)∨(first=false∧c.toNat=0)
    ·rw[if_pos hx] at h;simp at h
    ·rw[if_neg hx]
     have hp:128<=128 ^ (f+1):=by
      have:=Nat.pow_le_pow_right (show 0<128 by omega) (show 1<=f+1 by omega)
      simpa using this
     refine⟨by simp only;omega,?_,?_,by simp,by simp⟩
     ·cases first
      ·right;intro h2;exact hx (.inr ⟨rfl,h2⟩)
      ·exact .inl rfl
     ·simp only[putF,List.take_succ_cons,List.take_zero]
      rw[if_pos (by omega)]
      congr 1
      exact(UInt8.toNat_inj.1 (byte_low c.toNat (by omega))).symm
theorem get_ok(l:L8)(h:(get l).err=0):(get l).n<18446744073709551616∧l.take (get l).k=put (get l).n∧(get l).k<=l.length∧1<=(get l).k:=by
 have e:2*128 ^ 9=18446744073709551616:=by decide
 obtain⟨h1,_,h3,h4,h5⟩:=getF_ok 9 true l h
 rw[e] at h1
 exact⟨h1,h3,h4,h5⟩
theorem putF_le(f:Nat):∀n,(putF f n).length<=f:=by
 induction f with
 |zero=>intro n;simp[putF]
 |succ f ih=>intro n;rw[putF];split <;> simp;exact ih _
def zig(n:Int):Nat:=if 0<=n then 2*n.toNat else 2*(-(n+1)).toNat+1
def zag(u:Nat):Int:=if u % 2=0 then ((u / 2:Nat):Int) else -((u / 2:Nat):Int)-1
theorem zag_zig(n:Int):zag (zig n)=n:=by
 unfold zig
 split
 ·unfold zag;rw[if_pos (by omega)];omega
 ·unfold zag;rw[if_neg (by omega)];omega
theorem zig_zag(u:Nat):zig (zag u)=u:=by
 unfold zag
 split
 ·unfold zig;rw[if_pos (by omega)];omega
 ·unfold zig;rw[if_neg (by omega)];omega
def val:L8->Nat
 | []=>0
 |c::r=>val r*128+c.toNat % 128
def high:Nat->L8->Nat
 |0,_=>0
 |_+1,[]=>0
 |f+1,c::r=>if 127<c.toNat then high f r+1 else 0
theorem high_stop(f:Nat):∀(r:L8) (h:high f r<r.length),high f r<f->¬127<(r[high f r]).toNat:=by
 induction f with
 |zero=>intro r h hf;omega
 |succ f ih=>
  intro r h hf
  cases r with
  |nil=>simp at h
  |cons c r=>
   by_cases hc:127<c.toNat
   ·have e:high (f+1) (c::r)=high f r+1:=by rw[high,if_pos hc]
    simp only[e] at h hf ⊢
    simp only[List.getElem_cons_succ]
    exact ih r (by simpa using h) (by omega)
   ·have e:high (f+1) (c::r)=0:=by rw[high,if_neg hc]
    simp only[e,List.getElem_cons_zero]
    exact hc
theorem high_eq(f:Nat):∀(r:L8) (k:Nat),k<=f->(hk:k<=r.length)->(∀j (h:j<r.length),j<k->127<r[j].toNat)->(k=f∨k=r.length∨∃h:k<r.length,¬127<r[k].toNat)->high f r=k:=by
 induction f with
 |zero=>intro r k h1 _ _ _;simp[high];omega
 |succ f ih=>
  intro r k h1 h2 h3 h4
  cases r with
  |nil=>simp at h2;simp[high];omega
  |cons c r=>
   cases k with
   |zero=>
    rcases h4 with h4 | h4 | ⟨h4,h5⟩
    ·omega
    ·simp at h4
    ·have h6:¬127<c.toNat:=h5
     rw[high,if_neg h6]
   |succ k=>
    have hc:127<c.toNat:=h3 0 (by simp) (by omega)
    rw[high,if_pos hc,ih r k (by omega) (by simpa using h2) (fun j h hj=>by
     have:=h3 (j+1) (by simpa using h) (by omega)
     simpa using this) ?_]
    rcases h4 with h4 | h4 | ⟨h4,h5⟩
    ·exact .inl (by omega)
    ·exact .inr (.inl (by simpa using h4))
    ·exact .inr (.inr ⟨by simpa using h4,by simpa using h5⟩)
theorem getF_high(f:Nat):∀(first:Bool) (r:L8),
  (high f r=f->getF f first r=⟨5,0,0⟩) ∧
  (high f r=r.length->high f r<f->getF f first r=⟨30,0,0⟩) ∧
  (∀h:high f r<r.length,high f r<f->getF f first r=if (high f r+1=f∧1<(r[high f r]).toNat)∨((first=false∨0<high f r)∧(r[high f r]).toNat=0) then ⟨5,0,0⟩ else ⟨0,val (r.take (high f r+1)),high f r+1⟩):=by
 induction f with
 |zero=>intro first r;exact⟨fun _=>rfl,fun _ h=>by omega,fun _ h=>by omega⟩
 |succ f ih=>
  intro first r
  cases r with
  |nil=>exact⟨fun h=>by simp[high] at h,fun _ _=>rfl,fun h=>by simp at h⟩
  |cons c r=>
   by_cases hc:127<c.toNat
   ·have e:high (f+1) (c::r)=high f r+1:=by rw[high,if_pos hc]
    obtain⟨i1,i2,i3⟩:=ih false r
    rw[e]
    refine⟨fun h=>?_,fun h h'=>?_,fun h h'=>?_⟩
    ·rw[getF,if_pos hc];simp only;rw[i1 (by omega)];rfl
    ·rw[getF,if_pos hc];simp only;rw[i2 (by simpa using h) (by omega)];rfl
    ·have hr:high f r<r.length:=by simpa using h
     have hb:=high_stop f r hr (by omega)
     by_cases hx:(high f r+1=f∧1<(r[high f r]).toNat)∨((false=false∨0<high f r)∧(r[high f r]).toNat=0)
     ·have i4:getF f false r=⟨5,0,0⟩:=by rw[i3 hr (by omega),if_pos hx]
      have hy:(high f r+1+1=f+1∧1<(r[high f r]).toNat)∨((first=false∨0<high f r+1)∧(r[high f r]).toNat=0):=by
       rcases hx with ⟨x1,x2⟩ | ⟨_,x2⟩
       ·exact .inl ⟨by omega,x2⟩
       ·exact .inr ⟨.inr (by omega),x2⟩
      rw[getF,if_pos hc]
      simp only[i4,List.getElem_cons_succ]
      rw[if_pos hy]
      rfl
     ·have i4:getF f false r=⟨0,val (r.take (high f r+1)),high f r+1⟩:=by rw[i3 hr (by omega),if_neg hx]
      have hy:¬((high f r+1+1=f+1∧1<(r[high f r]).toNat)∨((first=false∨0<high f r+1)∧(r[high f r]).toNat=0)):=by
       rintro(⟨x1,x2⟩ | ⟨_,x2⟩)
       ·exact hx (.inl ⟨by omega,x2⟩)
       ·exact hx (.inr ⟨.inl rfl,x2⟩)
      rw[getF,if_pos hc]
      simp only[i4,List.getElem_cons_succ]
      rw[if_neg hy]
      simp[val]
   ·have e:high (f+1) (c::r)=0:=by rw[high,if_neg hc]
    rw[e]
    refine⟨fun h=>by omega,fun h _=>by simp at h,fun h h'=>?_⟩
    rw[getF,if_neg hc]
    simp only[List.getElem_cons_zero]
    by_cases hx:(f=0∧1<c.toNat)∨(first=false∧c.toNat=0)
    ·rw[if_pos hx,if_pos]
     rcases hx with ⟨x1,x2⟩ | ⟨x1,x2⟩
     ·exact .inl ⟨by omega,x2⟩
     ·exact .inr ⟨.inl x1,x2⟩
    ·rw[if_neg hx,if_neg]
     ·have:c.toNat % 128=c.toNat:=by omega
      simp[val,this]
     ·rintro(⟨x1,x2⟩ | ⟨x1 | x1,x2⟩)
      ·exact hx (.inl ⟨by omega,x2⟩)
      ·exact hx (.inr ⟨x1,x2⟩)
      ·omega
def getAt(l:L8)(at_:Int):Got:=if at_<0 then ⟨30,0,0⟩ else get (l.drop at_.toNat)
def nextAt(l:L8)(at_:Int):Int:=if (getAt l at_).err=0 then at_+(getAt l at_).k else 0
theorem put_length_le(n:Nat):(put n).length<=10:=putF_le 10 n
end Leb
section
open Go.RowKit
def kL(x:Nat):Bool:=FloatKind.f64.format.order x x != some .eq
def aC(x:Nat):Nat:=if kL x then 9221120237041090560 else x
theorem sU{x:Nat}(h:kL x=true):(FloatKind.f64.format.order x x != some .eq)=true:=h
theorem sV{x:Nat}(h:kL x=false):(FloatKind.f64.format.order x x != some .eq)=false:=h
theorem tb{x:Nat}(h:kL x=true):aC x=9221120237041090560:=by simp[aC,h]
theorem td{x:Nat}(h:kL x=false):aC x=x:=by simp[aC,h]
theorem eZ(x:Int)(w:World):(callFunc 182 #[.int .u64 x]).run Tryz.prog w=.ok (.value (.float .f64 x.toNat)) w:=by kernel_rfl
theorem kv(x:Nat)(w:World):(callFunc 146 #[.float .f64 x]).run Tryz.prog w=.ok (.value (.int .u64 x)) w:=by kernel_rfl
attribute [local go_sem] eZ kv
theorem fW(x:Nat)(w:World):
  Calls Tryz.prog 176 #[.float .f64 x] w fun e w'=>e=.returned (.float .f64 (aC x))∧w'=w:=by
 cases h:kL x
 ·have h':=sV h
  rw[td h]
  clear h
  go_enter Tryz.func176,Tryz.ntmps176
  go_wp2
  go_ret
  exact⟨rfl,rfl⟩
 ·have h':=sU h
  rw[tb h]
  clear h
  go_enter Tryz.func176,Tryz.ntmps176
  go_wp2
  go_ret
  exact⟨rfl,rfl⟩
theorem aS(x:Nat)(w:World):
  Calls Tryz.prog 119 #[.float .f64 x] w fun e w'=>e=.returned (.int .u64 (aC x))∧w'=w:=by
 cases h:kL x
 ·have h':=sV h
  rw[td h]
  clear h
  go_enter Tryz.func119,Tryz.ntmps119
  go_wp2
  go_ret
  exact⟨rfl,rfl⟩
 ·have h':=sU h
  rw[tb h]
  clear h
  go_enter Tryz.func119,Tryz.ntmps119
  go_wp2
  go_ret
  exact⟨rfl,rfl⟩
theorem dF(x:Nat)(w:World):
  Calls Tryz.prog 167 #[.float .f64 x] w fun e w'=>e=.returned (.int .u64 (aC x))∧w'=w:=by
 go_enter Tryz.func167,Tryz.ntmps167
 go_wp2_with (go_at_call 176;refine(fW _ _).mono ?_;rintro e w' ⟨rfl,rfl⟩)
 go_ret
 exact⟨rfl,rfl⟩
theorem me(x:Int)(w:World):
  Calls Tryz.prog 179 #[.int .u64 x] w fun e w'=>e=.returned (.float .f64 (aC x.toNat))∧w'=w:=by
 go_enter Tryz.func179,Tryz.ntmps179
 go_wp2_with (go_at_call 176;refine(fW _ _).mono ?_;rintro e w' ⟨rfl,rfl⟩)
 go_ret
 exact⟨rfl,rfl⟩
theorem fc(x y:Nat)(w:World):
  Calls Tryz.prog 147 #[.float .f64 x,.float .f64 y] w fun e w'=>e=.returned (.bool ((aC x:Int)==(aC y:Int)))∧w'=w:=by
 go_enter Tryz.func147,Tryz.ntmps147
 go_wp2_with (go_at_call 167;refine(dF _ _).mono ?_;rintro e w' ⟨rfl,rfl⟩)
 go_ret
 exact⟨rfl,rfl⟩
theorem cH(x y:Nat)(w:World):
  Calls Tryz.prog 85 #[.float .f64 x,.float .f64 y] w fun e w'=>e=.returned (.bool ((aC x:Int)==(aC y:Int)))∧w'=w:=by
 go_enter Tryz.func85,Tryz.ntmps85
 go_wp2_with (go_at_call 119;refine(aS _ _).mono ?_;rintro e w' ⟨rfl,rfl⟩)
 go_ret
 exact⟨rfl,rfl⟩
end
section
structure V where
 kind:Int
 int:Int
 bits:Nat
 text:ByteArray
 items:List V
namespace V
theorem ind{P:V->Prop}(h:∀k i b t xs,(∀x∈xs,P x)->P (.mk k i b t xs)):∀v,P v:=fun v=>
 V.rec (motive_1:=P) (motive_2:=fun xs=>∀x∈xs,P x) (fun k i b t xs ih=>h k i b t xs ih) (fun x hx=>by cases hx)
  (fun x xs hx hxs y hy=>by
   rcases List.mem_cons.1 hy with rfl | hy
   ·exact hx
   ·exact hxs y hy) v
def fix(v:V):V:=match v with
 |.mk k i b t xs=>.mk k i (aC b) t (xs.map fix)
def fixL(xs:List V):List V:=xs.map fix
theorem fix_mk(k i:Int)(b:Nat)(t:ByteArray)(xs:List V):fix (.mk k i b t xs)=.mk k i (aC b) t (fixL xs):=by rw[fix,fixL]
theorem fixL_eq(xs:List V):fixL xs=xs.map fix:=rfl
def eqL:List (V->Bool)->List V->Bool
 | [],[]=>true
 |f::fs,y::ys=>f y&&eqL fs ys
 |_,_=>false
def exact(v:V):V->Bool:=match v with
 |.mk k i b t xs=>fun y=>k==y.kind&&i==y.int&&decide (t=y.text)&&b==y.bits&&eqL (xs.map exact) y.items
def same(v:V):V->Bool:=match v with
 |.mk k i b t xs=>fun y=>k==y.kind&&i==y.int&&decide (t=y.text)&&aC b==aC y.bits&&eqL (xs.map same) y.items
def sameL(xs ys:List V):Bool:=eqL (xs.map same) ys
theorem same_mk(k i:Int)(b:Nat)(t:ByteArray)(xs:List V)(k' i':Int)(b':Nat)(t':ByteArray)(ys:List V):same (.mk k i b t xs) (.mk k' i' b' t' ys)=(k==k'&&i==i'&&decide (t=t')&&aC b==aC b'&&sameL xs ys):=by rw[same,sameL]
theorem sameL_nil:sameL [] []=true:=rfl
theorem sameL_cons(x:V)(r:List V)(y:V)(s:List V):sameL (x::r) (y::s)=(same x y&&sameL r s):=rfl
theorem sameL_nc(y:V)(s:List V):sameL [] (y::s)=false:=rfl
theorem sameL_cn(x:V)(r:List V):sameL (x::r) []=false:=rfl
def ownB(k i:Int)(b:Nat)(t:ByteArray)(n:Nat):Bool :=
 decide (1<=k∧k<=7)&&(k==1||k==2||i==0)&&(k==3||aC b==0)&&(k==4||k==5||decide (t.toList=[]))&&(k==6||k==7||n==0)&&(k != 1||i==0||i==1)&&(k != 6||decide (n<2))
def own:V->Bool
 |.mk k i b t xs=>ownB k i b t xs.length
def first:List Nat->Nat
 | []=>0
 |e::r=>if e=0 then first r else e
def check(utf:ByteArray->Bool)(d:Nat)(v:V):Nat:=match v with
 |.mk k i b t xs=>if 4<d then 62 else if own (.mk k i b t xs)=false then 60 else if 1024<t.size then 2 else if 256<xs.length then 3 else if k=4∧utf t=false then 61 else first (xs.map (check utf (d+1)))
def checkL(utf:ByteArray->Bool)(d:Nat)(xs:List V):Nat:=first (xs.map (check utf d))
theorem check_mk(utf:ByteArray->Bool)(d:Nat)(k i:Int)(b:Nat)(t:ByteArray)(xs:List V):check utf d (.mk k i b t xs)=if 4<d then 62 else if own (.mk k i b t xs)=false then 60 else if 1024<t.size then 2 else if 256<xs.length then 3 else if k=4∧utf t=false then 61 else checkL utf (d+1) xs:=by rw[check,checkL]
theorem checkL_nil(utf:ByteArray->Bool)(d:Nat):checkL utf d []=0:=rfl
theorem checkL_cons(utf:ByteArray->Bool)(d:Nat)(x:V)(r:List V):checkL utf d (x::r)=if check utf d x=0 then checkL utf d r else check utf d x:=rfl
end V
end
section
open Go.RowKit
theorem cf{B:Nat}{w wa W:World}(hb:Below B wa W)(h1:wa.os=w.os)(h2:wa.tape=w.tape)(h3:wa.output=w.output)(h4:wa.1=w.1):Below B w W :=
 Below.trans ⟨h1,h2,h3,by rw[h4];exact vX,fun k _=>by rw[h4]⟩ hb
theorem ab{w w':World}{p:Addr}{v:Value}(hb:Below w.1.size w w')(h:w.cell? p=some v):w'.cell? p=some v:=by
 rw[hb.cell (World.block_lt_of_cell? _ _ h)];exact h
def cells5(k i:Int)(b:Nat)(t:ByteArray)(p:OA)(n c:Nat):AV:=#[.int .i64 k,.int .i64 i,.float .f64 b,.string t,.slice p n c]
def rB(w:World)(P:AV->V->Prop)(p:OA)(c:Nat)(xs:List V)(us:Nat->AV):Prop :=
 xs.length*64<=140737488351232∧xs.length<=c∧(xs≠[]->∃blk off,p=some ⟨blk,off,none⟩∧blk<w.1.size∧∀j,j<xs.length->∀m,m<5->w.cell? ⟨blk,off+j*5+m,none⟩=(us j)[m]?)∧∀j (h:j<xs.length),P (us j) xs[j]
def ax(w:World)(u:AV)(x:V):Prop :=
 ∀P:AV->V->Prop,(∀k i b t p c xs us,rB w P p c xs us->P (cells5 k i b t p xs.length c) (.mk k i b t xs))->P u x
theorem ax.mk{w:World}{k i:Int}{b:Nat}{t:ByteArray}{p:OA}{c:Nat}{xs:List V}(us:Nat->AV)(hl:xs.length*64<=140737488351232)(hc:xs.length<=c)(hp:xs≠[]->∃blk off,p=some ⟨blk,off,none⟩∧blk<w.1.size∧∀j,j<xs.length->∀m,m<5->w.cell? ⟨blk,off+j*5+m,none⟩=(us j)[m]?)(hr:∀j (h:j<xs.length),ax w (us j) xs[j]):ax w (cells5 k i b t p xs.length c) (.mk k i b t xs) :=
 fun P hP=>hP k i b t p c xs us ⟨hl,hc,hp,fun j h=>hr j h P hP⟩
theorem ax.inv{w:World}{u:AV}{x:V}(h:ax w u x):∃k i b t p c xs us,u=cells5 k i b t p xs.length c∧x=.mk k i b t xs∧rB w (ax w) p c xs us:=by
 have:=h (fun u x=>ax w u x∧∃k i b t p c xs us,u=cells5 k i b t p xs.length c∧x=.mk k i b t xs∧rB w (ax w) p c xs us) (fun k i b t p c xs us ⟨h1,h2,h3,h4⟩=>
  ⟨.mk us h1 h2 h3 (fun j hj=>(h4 j hj).1),k,i,b,t,p,c,xs,us,rfl,rfl,h1,h2,h3,fun j hj=>(h4 j hj).1⟩)
 exact this.2
theorem ax.on{w w':World}{u:AV}{v:V}(h:ax w u v)(hb:Below w.1.size w w'):ax w' u v:=by
 refine h (ax w') ?_
 rintro k i b t p c xs us ⟨hl,hc,hp,ih⟩
 refine .mk us hl hc (fun hne=>?_) ih
 obtain⟨blk,off,h1,h2,h3⟩:=hp hne
 refine⟨blk,off,h1,by have:=hb.size;omega,fun j hj m hm=>?_⟩
 rw[hb.cell (p:=⟨blk,off+j*5+m,none⟩) h2]
 exact h3 j hj m hm
structure Item(w:World)(p:OA)(j:Nat)(u:AV):Prop where
 lies:∃blk off k i b t q n c,p=some ⟨blk,off,none⟩∧blk<w.1.size∧u=cells5 k i b t q n c∧w.cell? ⟨blk,off+j*5,none⟩=some (.int .i64 k)∧w.cell? ⟨blk,off+j*5+1,none⟩=some (.int .i64 i)∧w.cell? ⟨blk,off+j*5+2,none⟩=some (.float .f64 b)∧w.cell? ⟨blk,off+j*5+3,none⟩=some (.string t)∧w.cell? ⟨blk,off+j*5+4,none⟩=some (.slice q n c)
theorem ax.open{w:World}{u:AV}{k i:Int}{b:Nat}{t:ByteArray}{xs:List V}(h:ax w u (.mk k i b t xs)):
  ∃p c,u=cells5 k i b t p xs.length c∧xs.length*64<=140737488351232∧xs.length<=c∧∀j (hj:j<xs.length),∃u',ax w u' xs[j]∧Item w p j u':=by
 obtain⟨k0,i0,b0,t0,p,c,xs0,us,rfl,hx,hl,hc,hp,hr⟩:=h.inv
 simp only[V.mk.injEq] at hx
 obtain⟨rfl,rfl,rfl,rfl,rfl⟩:=hx
 refine⟨p,c,rfl,hl,hc,fun j hj=>⟨us j,hr j hj,?_⟩⟩
 obtain⟨blk,off,h1,h2,h3⟩:=hp (fun hc=>by rw[hc] at hj;simp at hj)
 obtain⟨k',i',b',t',q,c',ys,us',hu,-,-⟩:=(hr j hj).inv
 have g:=fun m hm=>h3 j hj m hm
 rw[hu] at g ⊢
 exact⟨blk,off,k',i',b',t',q,ys.length,c',h1,h2,rfl,g 0 (by omega),g 1 (by omega),g 2 (by omega),g 3 (by omega),g 4 (by omega)⟩
theorem Item.on{w w':World}{p:OA}{j:Nat}{u:AV}(h:Item w p j u)(hb:Below w.1.size w w'):Item w' p j u:=by
 obtain⟨blk,off,k,i,b,t,q,n,c,h1,h2,h3,g0,g1,g2,g3,g4⟩:=h.lies
 refine⟨⟨blk,off,k,i,b,t,q,n,c,h1,by have:=hb.size;omega,h3,?_,?_,?_,?_,?_⟩⟩
 ·rw[hb.cell (p:=⟨blk,off+j*5,none⟩) h2];exact g0
 ·rw[hb.cell (p:=⟨blk,off+j*5+1,none⟩) h2];exact g1
 ·rw[hb.cell (p:=⟨blk,off+j*5+2,none⟩) h2];exact g2
 ·rw[hb.cell (p:=⟨blk,off+j*5+3,none⟩) h2];exact g3
 ·rw[hb.cell (p:=⟨blk,off+j*5+4,none⟩) h2];exact g4
end
section
structure Ty where
 kind:Int
 of:List Ty
namespace Ty
theorem ind{P:Ty->Prop}(h:∀k xs,(∀x∈xs,P x)->P (.mk k xs)):∀v,P v:=fun v=>
 Ty.rec (motive_1:=P) (motive_2:=fun xs=>∀x∈xs,P x) (fun k xs ih=>h k xs ih) (fun x hx=>by cases hx)
  (fun x xs hx hxs y hy=>by
   rcases List.mem_cons.1 hy with rfl | hy
   ·exact hx
   ·exact hxs y hy) v
def eqL:List (Ty->Bool)->List Ty->Bool
 | [],[]=>true
 |f::fs,y::ys=>f y&&eqL fs ys
 |_,_=>false
def same(v:Ty):Ty->Bool:=match v with
 |.mk k xs=>fun y=>k==y.kind&&eqL (xs.map same) y.of
def sameL(xs ys:List Ty):Bool:=eqL (xs.map same) ys
theorem same_mk(k:Int)(xs:List Ty)(k':Int)(ys:List Ty):same (.mk k xs) (.mk k' ys)=(k==k'&&sameL xs ys):=by rw[same,sameL]
theorem sameL_nil:sameL [] []=true:=rfl
theorem sameL_cons(x:Ty)(r:List Ty)(y:Ty)(s:List Ty):sameL (x::r) (y::s)=(same x y&&sameL r s):=rfl
theorem sameL_nc(y:Ty)(s:List Ty):sameL [] (y::s)=false:=rfl
theorem sameL_cn(x:Ty)(r:List Ty):sameL (x::r) []=false:=rfl
theorem sameL_ne:∀(xs ys:List Ty),xs.length≠ys.length->sameL xs ys=false
 | [],[],h=>absurd rfl h
 | [],_::_,_=>rfl
 |_::_,[],_=>rfl
 |x::r,y::s,h=>by rw[sameL_cons,sameL_ne r s (by simpa using h),Bool.and_false]
theorem sameL_at:∀(xs ys:List Ty) (j:Nat) (h1:j<xs.length) (h2:j<ys.length),same xs[j] ys[j]=false->sameL xs ys=false
 |x::r,y::s,0,_,_,h=>by rw[sameL_cons];simp at h;rw[h,Bool.false_and]
 |x::r,y::s,j+1,h1,h2,h=>by rw[sameL_cons,sameL_at r s j (by simpa using h1) (by simpa using h2) (by simpa using h),Bool.and_false]
theorem sameL_all:∀(xs ys:List Ty),xs.length=ys.length->(∀j (h1:j<xs.length) (h2:j<ys.length),same xs[j] ys[j]=true)->sameL xs ys=true
 | [],[],_,_=>rfl
 | [],_::_,h,_=>by simp at h
 |_::_,[],h,_=>by simp at h
 |x::r,y::s,h,ha=>by
  rw[sameL_cons,sameL_all r s (by simpa using h) (fun j h1 h2=>by have:=ha (j+1) (by simpa using h1) (by simpa using h2);simpa using this)]
  have:=ha 0 (by simp) (by simp)
  simp at this
  rw[this];rfl
theorem same_iff:∀a b:Ty,same a b=true↔a=b:=by
 intro a
 refine Ty.ind (P:=fun a=>∀b,same a b=true↔a=b) ?_ a
 intro k xs ih c
 have hL:∀(xs ys:List Ty),(∀x∈xs,∀b,same x b=true↔x=b)->(sameL xs ys=true↔xs=ys):=by
  intro xs
  induction xs with
  |nil=>intro ys _;cases ys <;> simp[sameL_nil,sameL_nc]
  |cons x r ihr=>
   intro ys hx
   cases ys with
   |nil=>simp[sameL_cn]
   |cons y s=>
    simp only[sameL_cons,Bool.and_eq_true,List.cons.injEq]
    rw[hx x (by simp) y,ihr s (fun z hz=>hx z (by simp[hz]))]
 obtain⟨k',ys⟩:=c
 simp only[same_mk,Bool.and_eq_true,beq_iff_eq,Ty.mk.injEq]
 rw[hL xs ys ih]
def want(k:Int):Nat:=if k=6∨k=7 then 1 else 0
def check(d:Nat)(v:Ty):Nat:=match v with
 |.mk k xs=>if 4<d then 62 else if k<1∨7<k∨xs.length≠want k then 60 else V.first (xs.map (check (d+1)))
theorem check_mk(d:Nat)(k:Int)(xs:List Ty):check d (.mk k xs)=if 4<d then 62 else if k<1∨7<k∨xs.length≠want k then 60 else V.first (xs.map (check (d+1))):=by rw[check]
theorem check_leaf(d:Nat)(k:Int)(hd:¬4<d)(hk:¬(k<1∨7<k))(hw:want k=0):check d (.mk k [])=0:=by
 rw[check_mk,if_neg hd,if_neg (by simp[hw];omega)]
 rfl
theorem check_one(d:Nat)(k:Int)(x:Ty)(hd:¬4<d)(hk:¬(k<1∨7<k))(hw:want k=1):check d (.mk k [x])=check (d+1) x:=by
 rw[check_mk,if_neg hd,if_neg (by simp[hw];omega)]
 show(if check (d+1) x=0 then 0 else check (d+1) x)=_
 split
 ·next h=>rw[h]
 ·rfl
end Ty
end
section
open Go.RowKit
def al(k:Int)(p:OA)(n c:Nat):AV:=#[.int .i64 k,.slice p n c]
def rD(w:World)(P:AV->Ty->Prop)(p:OA)(c:Nat)(xs:List Ty)(us:Nat->AV):Prop :=
 xs.length*32<=140737488351232∧xs.length<=c∧(xs≠[]->∃blk off,p=some ⟨blk,off,none⟩∧blk<w.1.size∧∀j,j<xs.length->∀m,m<2->w.cell? ⟨blk,off+j*2+m,none⟩=(us j)[m]?)∧∀j (h:j<xs.length),P (us j) xs[j]
def ay(w:World)(u:AV)(x:Ty):Prop :=
 ∀P:AV->Ty->Prop,(∀k p c xs us,rD w P p c xs us->P (al k p xs.length c) (.mk k xs))->P u x
theorem ay.mk{w:World}{k:Int}{p:OA}{c:Nat}{xs:List Ty}(us:Nat->AV)(hl:xs.length*32<=140737488351232)(hc:xs.length<=c)(hp:xs≠[]->∃blk off,p=some ⟨blk,off,none⟩∧blk<w.1.size∧∀j,j<xs.length->∀m,m<2->w.cell? ⟨blk,off+j*2+m,none⟩=(us j)[m]?)(hr:∀j (h:j<xs.length),ay w (us j) xs[j]):ay w (al k p xs.length c) (.mk k xs) :=
 fun P hP=>hP k p c xs us ⟨hl,hc,hp,fun j h=>hr j h P hP⟩
theorem ay.inv{w:World}{u:AV}{x:Ty}(h:ay w u x):∃k p c xs us,u=al k p xs.length c∧x=.mk k xs∧rD w (ay w) p c xs us:=by
 have:=h (fun u x=>ay w u x∧∃k p c xs us,u=al k p xs.length c∧x=.mk k xs∧rD w (ay w) p c xs us) (fun k p c xs us ⟨h1,h2,h3,h4⟩=>
  ⟨.mk us h1 h2 h3 (fun j hj=>(h4 j hj).1),k,p,c,xs,us,rfl,rfl,h1,h2,h3,fun j hj=>(h4 j hj).1⟩)
 exact this.2
theorem ay.on{w w':World}{u:AV}{v:Ty}(h:ay w u v)(hb:Below w.1.size w w'):ay w' u v:=by
 refine h (ay w') ?_
 rintro k p c xs us ⟨hl,hc,hp,ih⟩
 refine .mk us hl hc (fun hne=>?_) ih
 obtain⟨blk,off,h1,h2,h3⟩:=hp hne
 refine⟨blk,off,h1,by have:=hb.size;omega,fun j hj m hm=>?_⟩
 rw[hb.cell (p:=⟨blk,off+j*2+m,none⟩) h2]
 exact h3 j hj m hm
structure dB(w:World)(p:OA)(j:Nat)(u:AV):Prop where
 lies:∃blk off k q n c,p=some ⟨blk,off,none⟩∧blk<w.1.size∧u=al k q n c∧w.cell? ⟨blk,off+j*2,none⟩=some (.int .i64 k)∧w.cell? ⟨blk,off+j*2+1,none⟩=some (.slice q n c)
theorem dB.on{w w':World}{p:OA}{j:Nat}{u:AV}(h:dB w p j u)(hb:Below w.1.size w w'):dB w' p j u:=by
 obtain⟨blk,off,k,q,n,c,h1,h2,h3,g0,g1⟩:=h.lies
 refine⟨⟨blk,off,k,q,n,c,h1,by have:=hb.size;omega,h3,?_,?_⟩⟩
 ·rw[hb.cell (p:=⟨blk,off+j*2,none⟩) h2];exact g0
 ·rw[hb.cell (p:=⟨blk,off+j*2+1,none⟩) h2];exact g1
theorem ay.open{w:World}{u:AV}{k:Int}{xs:List Ty}(h:ay w u (.mk k xs)):
  ∃p c,u=al k p xs.length c∧xs.length*32<=140737488351232∧xs.length<=c∧∀j (hj:j<xs.length),∃u',ay w u' xs[j]∧dB w p j u':=by
 obtain⟨k0,p,c,xs0,us,rfl,hx,hl,hc,hp,hr⟩:=h.inv
 simp only[Ty.mk.injEq] at hx
 obtain⟨rfl,rfl⟩:=hx
 refine⟨p,c,rfl,hl,hc,fun j hj=>⟨us j,hr j hj,?_⟩⟩
 obtain⟨blk,off,h1,h2,h3⟩:=hp (fun hc=>by rw[hc] at hj;simp at hj)
 obtain⟨k',q,c',ys,us',hu,-,-⟩:=(hr j hj).inv
 have g:=fun m hm=>h3 j hj m hm
 rw[hu] at g ⊢
 exact⟨blk,off,k',q,ys.length,c',h1,h2,rfl,g 0 (by omega),g 1 (by omega)⟩
end
section
open Go.RowKit
namespace V
end V
theorem cF(t t':ByteArray):(t.toList==t'.toList)=decide (t=t'):=by
 rw[ByteArray.toList_eq,ByteArray.toList_eq]
 by_cases h:t=t'
 ·rw[h];simp
 ·rw[decide_eq_false h,beq_eq_false_iff_ne]
  intro hc
  apply h
  cases t;cases t'
  simp only[ByteArray.mk.injEq]
  exact Array.toList_inj.1 hc
theorem ca{a b:Int}(h:¬a=b):(a != b)=true:=by rw[bne_iff_ne];exact h
theorem cq{a b:Int}(h:a=b):(a != b)=false:=by rw[h];simp
attribute [local go_sem] eZ kv
end
section
open Go.RowKit
structure rC(w:World)(P:(Nat->Prop)->AV->V->Prop)(F:Nat->Prop)(g off c:Nat)(xs:List V)(us:Nat->AV)(Fs:Nat->Nat->Prop):Prop where
 hl:xs.length*64<=140737488351232
 hc:xs.length<=c
 h5:∀j,j<xs.length->(us j).size=5
 hp:g<w.1.size∧∀j,j<xs.length->∀m,m<5->w.cell? ⟨g,off+j*5+m,none⟩=(us j)[m]?
 hf:∀j,j<xs.length->∀m,m<5->w.frozen? ⟨g,off+j*5+m,none⟩=false
 hg:F g
 hgs:∀j,j<xs.length->¬Fs j g
 hd:∀j n,j<xs.length->n<xs.length->j≠n->∀k,Fs j k->¬Fs n k
 hs:∀j,j<xs.length->∀k,Fs j k->F k
 hr:∀j (h:j<xs.length),P (Fs j) (us j) xs[j]
def br(w:World)(F:Nat->Prop)(u:AV)(x:V):Prop :=
 ∀P:(Nat->Prop)->AV->V->Prop,(∀F k i b t p c,P F (cells5 k i b t p 0 c) (.mk k i b t [])) ->
  (∀F k i b t g off c xs us Fs,rC w P F g off c xs us Fs->P F (cells5 k i b t (.some ⟨g,off,.none⟩) xs.length c) (.mk k i b t xs))->P F u x
section
variable {w w':World} {F G:Nat->Prop} {u:AV} {x:V}
theorem br.none{F:Nat->Prop}{k i:Int}{b:Nat}{t:ByteArray}{p:OA}{c:Nat}:br w F (cells5 k i b t p 0 c) (.mk k i b t []):=fun _ h0 _=>h0 F k i b t p c
theorem br.some{F:Nat->Prop}{k i:Int}{b:Nat}{t:ByteArray}{g off c:Nat}{xs:List V}(us:Nat->AV)(Fs:Nat->Nat->Prop)(hl:xs.length*64<=140737488351232)(hc:xs.length<=c)(h5:∀j,j<xs.length->(us j).size=5)(hp:g<w.1.size∧∀j,j<xs.length->∀m,m<5->w.cell? ⟨g,off+j*5+m,.none⟩=(us j)[m]?)(hf:∀j,j<xs.length->∀m,m<5->w.frozen? ⟨g,off+j*5+m,.none⟩=false)(hg:F g)(hgs:∀j,j<xs.length->¬Fs j g)(hd:∀j n,j<xs.length->n<xs.length->j≠n->∀k,Fs j k->¬Fs n k)(hs:∀j,j<xs.length->∀k,Fs j k->F k)(hr:∀j (h:j<xs.length),br w (Fs j) (us j) xs[j]):br w F (cells5 k i b t (.some ⟨g,off,.none⟩) xs.length c) (.mk k i b t xs) :=
 fun P h0 h1=>h1 F k i b t g off c xs us Fs ⟨hl,hc,h5,hp,hf,hg,hgs,hd,hs,fun j h=>hr j h P h0 h1⟩
theorem br.inv(h:br w F u x):(∃k i b t p c,u=cells5 k i b t p 0 c∧x=.mk k i b t [])∨∃k i b t g off c xs us Fs,u=cells5 k i b t (.some ⟨g,off,.none⟩) xs.length c∧x=.mk k i b t xs∧rC w (br w) F g off c xs us Fs:=by
 have:=h (fun F u x=>br w F u x∧((∃k i b t p c,u=cells5 k i b t p 0 c∧x=.mk k i b t [])∨∃k i b t g off c xs us Fs,u=cells5 k i b t (.some ⟨g,off,.none⟩) xs.length c∧x=.mk k i b t xs∧rC w (br w) F g off c xs us Fs))
  (fun F k i b t p c=>⟨.none,.inl ⟨k,i,b,t,p,c,rfl,rfl⟩⟩)
  (fun F k i b t g off c xs us Fs s=>⟨.some us Fs s.hl s.hc s.h5 s.hp s.hf s.hg s.hgs s.hd s.hs (fun j h=>(s.hr j h).1),.inr ⟨k,i,b,t,g,off,c,xs,us,Fs,rfl,rfl,s.hl,s.hc,s.h5,s.hp,s.hf,s.hg,s.hgs,s.hd,s.hs,fun j h=>(s.hr j h).1⟩⟩)
 exact this.2
theorem br.five(h:br w F u x):u.size=5:=by
 rcases h.inv with ⟨_,_,_,_,_,_,rfl,_⟩ | ⟨_,_,_,_,_,_,_,_,_,_,rfl,_⟩ <;> rfl
theorem br.shape(h:br w F u x):∃k i b t p n c,u=cells5 k i b t p n c:=by
 rcases h.inv with ⟨_,_,_,_,_,_,rfl,_⟩ | ⟨_,_,_,_,_,_,_,_,_,_,rfl,_⟩ <;> exact⟨_,_,_,_,_,_,_,rfl⟩
theorem br.lies(h:br w F u x):ax w u x :=
 h (fun _ u x=>ax w u x) (fun F k i b t p c=>ax.mk (xs:=[]) (fun _=>#[]) (by simp) (by simp) (fun hc=>absurd rfl hc) (fun j hj=>by simp at hj))
  (fun F k i b t g off c xs us Fs s=>ax.mk us s.hl s.hc (fun _=>⟨_,_,rfl,s.hp.1,s.hp.2⟩) s.hr)
theorem br.aside(h:br w F u x):∀{G:Nat->Prop} {w':World},Aside G w w'->(∀k,F k->¬G k)->br w' F u x:=by
 intro G w' ha
 refine h (fun F u x=>(∀k,F k->¬G k)->br w' F u x) ?_ ?_
 ·intro F k i b t p c _;exact .none
 ·intro F k i b t g off c xs us Fs s hd2
  refine .some us Fs s.hl s.hc s.h5 ⟨Nat.lt_of_lt_of_le s.hp.1 ha.size,fun j hj m hm=>?_⟩ (fun j hj m hm=>?_) s.hg s.hgs s.hd s.hs (fun j hj=>s.hr j hj fun k hk=>hd2 k (s.hs j hj k hk))
  ·rw[ha.cell s.hp.1 (hd2 _ s.hg)];exact s.hp.2 j hj m hm
  ·rw[ha.frozen s.hp.1 (hd2 _ s.hg)];exact s.hf j hj m hm
theorem br.under{B:Nat}(h:br w F u x)(hb:Below B w w')(hF:∀k,F k->k<B):br w' F u x :=
 h.aside (G:=fun k=>B<=k) (fw hb fun _ _ h=>h) fun k hk hc=>by have:=hF k hk;omega
theorem br.mono(h:br w F u x)(hF:∀k,F k->G k):br w G u x:=by
 rcases h.inv with ⟨k,i,b,t,p,c,rfl,rfl⟩ | ⟨k,i,b,t,g,off,c,xs,us,Fs,rfl,rfl,s⟩
 ·exact .none
 ·exact .some us Fs s.hl s.hc s.h5 s.hp s.hf (hF _ s.hg) s.hgs s.hd (fun j hj k hk=>hF k (s.hs j hj k hk)) s.hr
end
def flat(us:Nat->AV):Nat->List Value
 |0=>[]
 |n+1=>flat us n++(us n).toList
theorem lf(us:Nat->AV):∀n,(∀j,j<n->(us j).size=5)->(flat us n).length=n*5
 |0,_=>by simp[flat]
 |n+1,h=>by
  rw[flat,List.length_append,lf us n fun j hj=>h j (by omega),Array.length_toList,h n (by omega)];omega
theorem flat_get(us:Nat->AV):∀n,(∀j,j<n->(us j).size=5)->∀j,j<n->∀m,m<5->(flat us n)[j*5+m]?=(us j)[m]?
 |0,_,j,hj,_,_=>by omega
 |n+1,h,j,hj,m,hm=>by
  have hl:=lf us n fun j hj=>h j (by omega)
  rw[flat]
  rcases Nat.lt_or_ge j n with h1 | h1
  ·rw[List.getElem?_append_left (by omega),flat_get us n (fun j hj=>h j (by omega)) j h1 m hm]
  ·have hjn:j=n:=by omega
   subst hjn
   rw[List.getElem?_append_right (by omega),hl,Nat.add_sub_cancel_left]
   simp
theorem dJ(us us':Nat->AV):∀n,(∀j,j<n->us j=us' j)->flat us n=flat us' n
 |0,_=>rfl
 |n+1,h=>by rw[flat,flat,dJ us us' n fun j hj=>h j (by omega),h n (by omega)]
structure bG(w:World)(B:Nat)(v:Value)(n:Nat)(us:Nat->AV)(Fs:Nat->Nat->Prop)(ys:List V):Prop where
 len:ys.length=n
 five:∀j,j<n->(us j).size=5
 row:w.ownsRow B 87 5 v n (flat us n)
 own:∀j (h:j<ys.length),br w (Fs j) (us j) ys[j]
 apart:∀j m,j<n->m<n->j≠m->∀k,Fs j k->¬Fs m k
 beside:∀g,v.ownBlock=some g->∀j,j<n->¬Fs j g
 range:∀j,j<n->∀k,Fs j k->B<=k∧k<w.1.size
theorem pc(w:World)(B:Nat):bG w B (.slice none 0 0) 0 (fun _=>#[]) (fun _ _=>False) [] :=
 ⟨rfl,fun j hj=>by omega,World.ownsRow_nil _ _ _ _,fun j hj=>by simp at hj,fun j m hj=>by omega,fun g hg=>by simp[Value.ownBlock] at hg,fun j hj=>by omega⟩
section
variable {w w':World} {B:Nat} {v:Value} {n:Nat} {us:Nat->AV} {Fs:Nat->Nat->Prop} {ys:List V}
theorem bG.aside{G:Nat->Prop}(h:bG w B v n us Fs ys)(ha:Aside G w w')(h1:∀g,v.ownBlock=some g->¬G g)(h2:∀j,j<n->∀k,Fs j k->¬G k):bG w' B v n us Fs ys:=by
 refine⟨h.len,h.five,?_,fun j hj=>(h.own j hj).aside ha (h2 j (by rw[<-h.len];exact hj)),h.apart,h.beside,fun j hj k hk=>⟨(h.range j hj k hk).1,Nat.lt_of_lt_of_le (h.range j hj k hk).2 ha.size⟩⟩
 refine⟨h.row.1,?_⟩
 rcases h.row.2 with h3 | ⟨g,cap,cur,rfl,h4,h5,h6⟩
 ·exact .inl h3
 ·exact .inr ⟨g,cap,cur,rfl,h4,by rw[ha.block g (Array.getElem?_eq_some_iff.1 h5).1 (h1 g rfl)];exact h5,h6⟩
theorem bG.lt(h:bG w B v n us Fs ys):∀g,v.ownBlock=some g->B<=g∧g<w.1.size:=World.ownsRow.lt h.row
theorem bG.on(h:bG w B v n us Fs ys)(hb:Below w.1.size w w'):bG w' B v n us Fs ys :=
 h.aside (ae hb (fun _=>False)) (fun _ _ hc=>hc) (fun _ _ _ _ hc=>hc)
theorem bG.set(h:bG w B v n us Fs ys)(p:Addr)(u:Value)(hp:p.block<B):bG (w.setCell p u) B v n us Fs ys :=
 h.aside (G:=fun k=>k=p.block) ((Aside.refl (fun k=>k=p.block) w).setCell (p:=p) (.inl rfl) u) (fun g hg hc=>by have:=(h.lt g hg).1;omega) (fun j hj k hk hc=>by have:=(h.range j hj k hk).1;omega)
theorem bG.step{w2 w3 w4:World}{u:AV}{F:Nat->Prop}{x:V}{g cap:Nat}(h:bG w B v n us Fs ys)(hb:Below w.1.size w w2)(hx:br w2 F u x)(hF:∀k,F k->w.1.size<=k∧k<w2.1.size)(hb3:Below w2.1.size w2 w3)(hB:B<=w.1.size)(hr:w4.ownsRow B 87 5 (.slice (some ⟨g,0,none⟩) (n+1) cap) (n+1) (flat us n++u.toList))(hg:w3.grownBy w4 v.ownBlock)(hn:v.ownBlock=some g∨g=w3.1.size):
  bG w4 B (.slice (some ⟨g,0,none⟩) (n+1) cap) (n+1) (fun j=>if j=n then u else us j) (fun j=>if j=n then F else Fs j) (ys++[x]):=by
 have hs:=hb.size
 have hs3:=hb3.size
 have ha:Aside (fun k=>v.ownBlock=some k) w2 w4:=by
  refine(ae hb3 _).trans (G:=fun k=>v.ownBlock=some k) ⟨hg.os,hg.tape,hg.output,hg.size,fun k hk hf=>hg.block k hk (fun hc=>hf hc.symm)⟩ (fun _ _ h=>h)
 have hgF:∀k,F k->¬v.ownBlock=some k:=fun k hk hc=>by have:=(h.lt k hc).2;have:=(hF k hk).1;omega
 have hn1:∀j,j<n+1->j≠n->j<n:=fun j h1 h2=>by omega
 refine⟨by rw[List.length_append,h.len];rfl,fun j hj=>?_,?_,fun j hj=>?_,fun j m hj hm hjm k hk=>?_,fun g' hg' j hj=>?_,fun j hj k hk=>?_⟩
 ·split
  ·exact hx.five
  ·exact h.five j (by omega)
 ·rw[flat,dJ _ us n (fun j hj=>by simp[show ¬j=n by omega])]
  simpa using hr
 ·rw[List.length_append,h.len,List.length_singleton] at hj
  by_cases hjn:j=n
  ·subst hjn
   rw[if_pos rfl,if_pos rfl,List.getElem_append_right (by rw[h.len];exact vX)]
   simp only[h.len,Nat.sub_self,List.getElem_singleton]
   exact hx.aside ha hgF
  ·rw[if_neg hjn,if_neg hjn,List.getElem_append_left (by rw[h.len];omega)]
   exact((h.own j (by rw[h.len];omega)).under hb (fun k hk=>(h.range j (by omega) k hk).2)).aside ha (fun k hk hc=>h.beside k hc j (by omega) hk)
 ·by_cases hjn:j=n
  ·rw[if_pos hjn] at hk
   rw[if_neg (by omega)]
   exact fun hc=>by have:=(h.range m (by omega) k hc).2;have:=(hF k hk).1;omega
  ·rw[if_neg hjn] at hk
   by_cases hmn:m=n
   ·rw[if_pos hmn]
    exact fun hc=>by have:=(h.range j (by omega) k hk).2;have:=(hF k hc).1;omega
   ·rw[if_neg hmn]
    exact h.apart j m (by omega) (by omega) hjm k hk
 ·simp only[Value.ownBlock,Option.some.injEq] at hg'
  subst hg'
  by_cases hjn:j=n
  ·rw[if_pos hjn]
   intro hc
   have:=hF _ hc
   rcases hn with hn | hn
   ·exact hgF _ hc hn
   ·omega
  ·rw[if_neg hjn]
   intro hc
   rcases hn with hn | hn
   ·exact h.beside _ hn j (by omega) hc
   ·have:=(h.range j (by omega) _ hc).2;omega
 ·have h4:=ha.size
  by_cases hjn:j=n
  ·rw[if_pos hjn] at hk
   have:=hF k hk;omega
  ·rw[if_neg hjn] at hk
   have:=h.range j (by omega) k hk;omega
theorem bG.done(h:bG w B v n us Fs ys)(hl:n*64<=140737488351232)(k i:Int)(b:Nat)(t:ByteArray):∃p c,v=.slice p n c∧br w (fun k=>B<=k∧k<w.1.size) (cells5 k i b t p n c) (.mk k i b t ys):=by
 rcases h.row.2 with ⟨rfl,h0⟩ | ⟨g,cap,cur,rfl,h1,h2,h3,h4,h5,h6⟩
 ·have hy:ys=[]:=List.eq_nil_of_length_eq_zero (by rw[h.len];exact h0)
  subst hy
  subst h0
  exact⟨none,0,rfl,.none⟩
 ·refine⟨_,cap,rfl,?_⟩
  have hg:=(Array.getElem?_eq_some_iff.1 h2).1
  have hlen:=h.len
  have hcell:∀q,q<n*5->w.cell? ⟨g,q,none⟩=(flat us n)[q]?:=fun q hq=>by
   rw[<-h6,List.getElem?_take_of_lt hq]
   simp[World.cell?,h2]
  subst hlen
  refine .some us Fs hl h3 h.five ⟨hg,fun j hj m hm=>?_⟩ (fun j hj m hm=>by simp[World.frozen?,h2]) ⟨h1,hg⟩ (fun j hj=>h.beside g rfl j hj) h.apart (fun j hj k hk=>h.range j hj k hk) h.own
  rw[Nat.zero_add,hcell _ (by omega),flat_get us _ h.five j hj m hm]
end
end
section
open Go.RowKit
def zeroV:Value:=.agg (cells5 0 0 0 ⟨#[]⟩ none 0 0)
theorem tQ:(Tryz.prog.info? 87).map (fun i=>(i.zero,i.size,i.bytes))=some (some zeroV,5,64):=by kernel_rfl
theorem vd{w:World}{F:Nat->Prop}{u:AV}{x:V}(h:br w F u x):∀a∈u.toList,a.oneCell'=true:=by
 have key:∀(k i:Int) (b:Nat) (t:ByteArray) (p:OA) (n c:Nat),∀a∈(cells5 k i b t p n c).toList,a.oneCell'=true:=by
  intro k i b t p n c a ha
  simp[cells5] at ha
  rcases ha with rfl | rfl | rfl | rfl | rfl <;> rfl
 obtain⟨_,_,_,_,_,_,_,rfl⟩:=h.shape
 exact key _ _ _ _ _ _ _
theorem aa{w:World}{b:Nat}{C:AV}{T:TypeId}{fr:Nat×Nat}(h:w.1[b]?=some (.cells C T fr))(m:Nat):w.cell? ⟨b,m,none⟩=C[m]?:=by
 simp[World.cell?,h]
theorem ac{w:World}{b:Nat}{C:AV}{T:TypeId}(h:w.1[b]?=some (.cells C T (0,0)))(m:Nat):w.frozen? ⟨b,m,none⟩=false:=by
 simp[World.frozen?,h]
theorem aw{w:World}{b:Nat}{o:Obj}(h:w.1[b]?=some o):b<w.1.size:=(Array.getElem?_eq_some_iff.1 h).1
theorem jT{w w':World}{B b:Nat}{o:Obj}(h:w.1[b]?=some o)(hb:Below B w w')(hB:b<B):w'.1[b]?=some o:=(hb.block b hB).trans h
theorem ag(w:World)(o:Obj):(w.alloc o).1[w.1.size]?=some o:=by
 show(w.1.push o)[w.1.size]?=_
 simp
theorem aD(w:World)(o:Obj){k:Nat}(h:k<w.1.size):(w.alloc o).1[k]?=w.1[k]?:=by
 show(w.1.push o)[k]?=_
 rw[Array.getElem?_push,if_neg (by omega)]
theorem ap{w:World}{b:Nat}{C:AV}{T:TypeId}(h:w.1[b]?=some (.cells C T (0,0)))(m:Nat)(u:Value):(w.setCell ⟨b,m,none⟩ u).1[b]?=some (.cells (C.set! m u) T (0,0)):=by
 simp[World.setCell,Array.getElem?_modify,h]
theorem cd{w:World}{b:Nat}{o:Obj}(h:w.1[b]?=some o)(p:Addr)(u:Value)(hp:b≠p.block):(w.setCell p u).1[b]?=some o:=(Below.heap_setCell _ _ _ _ hp).trans h
theorem ai(P:Program)(w:World)(a:Addr)(m:Mode)(k:FloatKind)(x:Nat):(store a (.float k x) m).run P w=stored P w a (.float k x) m:=run_store P w a _ m rfl
section
variable {B:Nat} {v:Value} {n:Nat} {us:Nat->AV} {w:World} {u:AV} {ad H:Nat}
theorem rK(hown:w.ownsRow B 87 5 v n (flat us n))(h5:u.size=5)(h1:∀a∈u.toList,a.oneCell'=true)(hblk:w.1[ad]?=some (.cells u 87 (0,0)))(hn:(n+1)*64<=140737488355328)(hB:B<=w.1.size)(hH:w.1.size=H){ops:Array Oper}{rest:List Oper}{o:Oper}{a:Act}{Q:Exit->Act->World->Prop}{y x:Operand}(hg:o.guard=none)(hop:o.op=Op.call { callee:=Callee.builtin Builtin.append,args:=#[y,x],argTypes:=#[85,85] })(hs:a.eval y=v)(hx:a.eval x=.slice (some ⟨ad,0,none⟩) 1 1)(hK:∀g cap w',w'.ownsRow B 87 5 (.slice (some ⟨g,0,none⟩) (n+1) cap) (n+1) (flat us n++u.toList)->w.grownBy w' v.ownBlock->(v.ownBlock=some g∨g=H)->wpList Tryz.prog ops Q rest (a.put o.dst (.slice (some ⟨g,0,none⟩) (n+1) cap)) w'):
  wpList Tryz.prog ops Q (o::rest) a w:=by
 obtain⟨i,hi,hz,hsz,hby⟩:=info_parts tQ
 exact wpList_append_lies w hg y x 85 hop B 87 i zeroV 5 64 Tryz.underlying85 hi hz hsz hby rfl (by decide) v n (flat us n) hs hown ⟨ad,0,none⟩ 1 1 u.toList hx (by simp[h5])
  (World.news_of_block hblk) h1 (by decide) (by unfold maxLen;omega) hn hB H hH fun g cap w' h2 h3 h4 _=>hK g cap w' h2 h3 h4
end
end
section
open Go.RowKit
attribute [local go_sem] ai
structure iE(w:World)(C0:AV)(k i:Int)(b:Nat)(t:ByteArray)(zs:List V)(j:Nat)(v:Value)(wr:World):Prop where
 built:∃us Fs,bG wr (w.1.size+3) v j us Fs (zs.take j)
 b0:wr.1[w.1.size]?=some (.cells C0 87 (0,0))
 b1:wr.1[w.1.size+1]?=some (.cells (cells5 0 0 0 ⟨#[]⟩ none 0 0) 87 (0,0))
 b2:wr.1[w.1.size+2]?=some (.cells #[.int .i64 k,.int .i64 i,.float .f64 b,.string t,v] 87 (0,0))
 below:Below w.1.size w wr
 size:w.1.size+3<=wr.1.size
section
variable {w wr:World} {C0:AV} {k i:Int} {b:Nat} {t:ByteArray} {zs:List V} {j:Nat} {v:Value}
theorem iE.slice(h:iE w C0 k i b t zs j v wr):∃p c,v=.slice p j c:=by
 obtain⟨us,Fs,hb⟩:=h.built
 rcases hb.row.2 with ⟨h1,h2⟩ | ⟨g,cap,cur,h1,_⟩
 ·exact⟨none,0,by rw[h1,h2]⟩
 ·exact⟨_,cap,h1⟩
theorem iE.next{w2 w3 w4:World}{u:AV}{F:Nat->Prop}{g cap:Nat}{us:Nat->AV}{Fs:Nat->Nat->Prop}(h:iE w C0 k i b t zs j v wr)(hbt:bG wr (w.1.size+3) v j us Fs (zs.take j))(hj:j<zs.length)(hb:Below wr.1.size wr w2)(hx:br w2 F u zs[j])(hF:∀k,F k->wr.1.size<=k∧k<w2.1.size)(hb3:Below w2.1.size w2 w3)(hr:w4.ownsRow (w.1.size+3) 87 5 (.slice (some ⟨g,0,none⟩) (j+1) cap) (j+1) (flat us j++u.toList))(hg:w3.grownBy w4 v.ownBlock)(hn:v.ownBlock=some g∨g=w3.1.size):
  Below w.1.size w w4∧(∀n,n<3->w4.1[w.1.size+n]?=wr.1[w.1.size+n]?)∧iE w C0 k i b t zs (j+1) (.slice (some ⟨g,0,none⟩) (j+1) cap) (w4.setCell ⟨w.1.size+2,4,none⟩ (.slice (some ⟨g,0,none⟩) (j+1) cap)):=by
 have hs:=h.size
 have hs2:=hb.size
 have hs3:=hb3.size
 have hst:=hbt.step hb hx hF hb3 hs hr hg hn
 have hold:∀n,n<3->w4.1[w.1.size+n]?=wr.1[w.1.size+n]?:=fun n hn=>by
  rw[hg.block _ (by omega) (fun hc=>by have:=(hbt.lt _ hc.symm).1;omega),hb3.block _ (by omega),hb.block _ (by omega)]
 have hb4:Below w.1.size w w4:=((h.below.trans (hb.mono (by omega))).trans (hb3.mono (by omega))).grown hg (by omega) (fun k hk=>by have:=(hbt.lt k hk).1;omega)
 refine⟨hb4,hold,⟨⟨(fun n=>if n=j then u else us n),(fun n=>if n=j then F else Fs n),?_⟩,?_,?_,?_,?_,?_⟩⟩
 ·rw[List.take_succ_eq_append_getElem hj]
  exact hst.set ⟨w.1.size+2,4,none⟩ _ (by show w.1.size+2<_;omega)
 ·have:=hold 0 (by omega)
  rw[Nat.add_zero] at this
  exact cd (this.trans h.b0) _ _ (by show w.1.size≠w.1.size+2;omega)
 ·exact cd ((hold 1 (by omega)).trans h.b1) _ _ (by show w.1.size+1≠w.1.size+2;omega)
 ·rw[ap ((hold 2 (by omega)).trans h.b2)]
  rfl
 ·exact hb4.setCell (by show w.1.size<=w.1.size+2;omega) _
 ·have:=hg.size
  simp[World.setCell]
  omega
end
end
section
open Go.RowKit
namespace V
theorem sameL_ne:∀(xs ys:List V),xs.length≠ys.length->sameL xs ys=false
 | [],[],h=>absurd rfl h
 | [],_::_,_=>rfl
 |_::_,[],_=>rfl
 |x::r,y::s,h=>by rw[sameL_cons,sameL_ne r s (by simpa using h),Bool.and_false]
theorem sameL_at:∀(xs ys:List V) (j:Nat) (h1:j<xs.length) (h2:j<ys.length),same xs[j] ys[j]=false->sameL xs ys=false
 |x::r,y::s,0,_,_,h=>by rw[sameL_cons];simp at h;rw[h,Bool.false_and]
 |x::r,y::s,j+1,h1,h2,h=>by rw[sameL_cons,sameL_at r s j (by simpa using h1) (by simpa using h2) (by simpa using h),Bool.and_false]
theorem sameL_all:∀(xs ys:List V),xs.length=ys.length->(∀j (h1:j<xs.length) (h2:j<ys.length),same xs[j] ys[j]=true)->sameL xs ys=true
 | [],[],_,_=>rfl
 | [],_::_,h,_=>by simp at h
 |_::_,[],h,_=>by simp at h
 |x::r,y::s,h,ha=>by
  rw[sameL_cons,sameL_all r s (by simpa using h) (fun j h1 h2=>by have:=ha (j+1) (by simpa using h1) (by simpa using h2);simpa using this)]
  have:=ha 0 (by simp) (by simp)
  simp at this
  rw[this];rfl
end V
def dl(w:World)(p:OA)(xs:List V):Prop:=∀j (hj:j<xs.length),∃u',ax w u' xs[j]∧Item w p j u'
theorem dl.on{w w':World}{p:OA}{xs:List V}(h:dl w p xs)(hb:Below w.1.size w w'):dl w' p xs:=fun j hj=>by
 obtain⟨u',h1,h2⟩:=h j hj
 exact⟨u',h1.on hb,h2.on hb⟩
theorem gX(xs:List V)(ih:∀x∈xs,∀(y:V) (w:World) (u v:AV),ax w u x->ax w v y->Calls Tryz.prog 60 #[.agg u,.agg v] w fun e w'=>e=.returned (.bool (V.same x y))∧Below w.1.size w w')(ys:List V)(w:World)(p q:OA)(c d:Nat)(hx:dl w p xs)(hy:dl w q ys)(hxl:xs.length*64<=140737488351232):
  Calls Tryz.prog 86 #[.slice p xs.length c,.slice q ys.length d] w fun e w'=>e=.returned (.bool (V.sameL xs ys))∧Below w.1.size w w':=by
 by_cases h5:¬xs.length=ys.length
 ·have g5:((xs.length:Int) != (ys.length:Int))=true:=ca (by omega)
  have HE:Hid (V.sameL xs ys=false):=V.sameL_ne xs ys h5
  clear ih hx hy h5
  go_enter Tryz.func86,Tryz.ntmps86
  go_wp2
  go_ret
  exact⟨by rw[HE.out];rfl,vZ⟩
 replace h5:xs.length=ys.length:=Classical.not_not.1 h5
 have g5:((xs.length:Int) != (ys.length:Int))=false:=cq (by omega)
 have HX:=vQ hx
 have HY:=vQ hy
 have HIH:=vQ ih
 have H5:=vQ h5
 clear ih hx hy h5
 go_enter Tryz.func86,Tryz.ntmps86
 go_wp2
 go_loopw [5,6] (fun v5 _ wr=>∃j:Nat,j<=xs.length∧v5=.int .i64 j∧Hid (Below w.1.size w wr∧∀m (h1:m<xs.length) (h2:m<ys.length),m<j->V.same xs[m] ys[m]=true)) (fun v5 _ _=>xs.length-(intOf v5).toNat)
 case atStart=>exact⟨0,by omega,rfl,vZ,fun m _ _ h=>by omega⟩
 case round=>
  obtain⟨j,hj,rfl,HL⟩:=hrel
  have hbw:Below w.1.size w wr:=HL.out.1
  by_cases hlt:j<xs.length
  ·have hlt2:j<ys.length:=by have:=H5.out;omega
   obtain⟨ux,hvx,hix⟩:=HX.out j hlt
   obtain⟨uy,hvy,hiy⟩:=HY.out j hlt2
   obtain⟨bx,ox,kx,ix,fx,tx,qx,nx,cx,rfl,_,rfl,a0,a1,a2,a3,a4⟩:=(hix.on hbw).lies
   obtain⟨by',oy,ky,iy,fy,ty,qy,ny,cy,rfl,_,rfl,b0,b1,b2,b3,b4⟩:=(hiy.on hbw).lies
   have HC:Hid (∀w',Below w.1.size w w'->Calls Tryz.prog 60 #[.agg #[.int .i64 kx,.int .i64 ix,.float .f64 fx,.string tx,.slice qx nx cx],.agg #[.int .i64 ky,.int .i64 iy,.float .f64 fy,.string ty,.slice qy ny cy]] w' fun e w''=>e=.returned (.bool (V.same xs[j] ys[j]))∧Below w'.1.size w' w'') :=
    fun w' hb=>HIH.out _ (List.getElem_mem hlt) ys[j] w' _ _ (hvx.on hb) (hvy.on hb)
   have HBw:=vQ hbw
   have HAll:=vQ HL.out.2
   have hj1:(j:Int)<(xs.length:Int):=by omega
   have hj2:(j:Int)<(ys.length:Int):=by omega
   obtain⟨r,hr⟩:∃r,r=V.same xs[j] ys[j]:=⟨_,rfl⟩
   rw[<-hr] at HC
   have HRr:=vQ hr
   clear hvx hvy hix hiy hbw HL hr
   go_wp2_with fail
   go_region_held3 (fun w'=>w'.cell? ⟨bx,ox+j*5,none⟩=some (.int .i64 kx)∧w'.cell? ⟨bx,ox+j*5+1,none⟩=some (.int .i64 ix)∧w'.cell? ⟨bx,ox+j*5+2,none⟩=some (.float .f64 fx)∧w'.cell? ⟨bx,ox+j*5+3,none⟩=some (.string tx)∧w'.cell? ⟨bx,ox+j*5+4,none⟩=some (.slice qx nx cx)∧w'.cell? ⟨by',oy+j*5,none⟩=some (.int .i64 ky)∧w'.cell? ⟨by',oy+j*5+1,none⟩=some (.int .i64 iy)∧w'.cell? ⟨by',oy+j*5+2,none⟩=some (.float .f64 fy)∧w'.cell? ⟨by',oy+j*5+3,none⟩=some (.string ty)∧w'.cell? ⟨by',oy+j*5+4,none⟩=some (.slice qy ny cy)) (go_keep) (first
    | (go_at_call 60;refine(HC.out _ (below_drewN HBw.out _)).mono ?_;rintro e w4 ⟨rfl,hb4⟩;have hb5:=cf (w:=wr) hb4 (by rfl) (by rfl) (by rfl) (by rfl);have z3:=ab hb5 a0;have z4:=ab hb5 a1;have z5:=ab hb5 a2;have z6:=ab hb5 a3;have z7:=ab hb5 a4;have z8:=ab hb5 b0;have z9:=ab hb5 b1;have z10:=ab hb5 b2;have z11:=ab hb5 b3;have z12:=ab hb5 b4;have HB4:=vQ hb5;clear hb4 hb5))
   clear z3 z4 z5 z6 z7 z8 z9 z10 z11 z12 a0 a1 a2 a3 a4 b0 b1 b2 b3 b4
   cases r with
   |true=>
    have HN:Hid (Below w.1.size w w4∧∀m (h1:m<xs.length) (h2:m<ys.length),m<j+1->V.same xs[m] ys[m]=true):=by
     refine⟨HBw.out.trans (HB4.out.mono HBw.out.size),fun m h1 h2 hm=>?_⟩
     by_cases hmj:m=j
     ·subst hmj;exact HRr.out.symm
     ·exact HAll.out m h1 h2 (by omega)
    clear HB4 HAll HC
    go_wp2
    go_roundw
    case rel=>exact⟨j+1,by omega,by go_num,HN⟩
    case measure=>simp[intOf];omega
   |false=>
    have HE:Hid (V.sameL xs ys=false):=V.sameL_at xs ys j hlt hlt2 HRr.out.symm
    have HF:=vQ (HBw.out.trans (HB4.out.mono HBw.out.size))
    clear HB4 HAll HC
    go_wp2
    go_ret
    exact⟨by rw[HE.out];rfl,HF.out⟩
  ·have HE:Hid (V.sameL xs ys=true):=V.sameL_all xs ys H5.out (fun m h1 h2=>HL.out.2 m h1 h2 (by omega))
   have HF:=vQ hbw
   have hjn:¬(j:Int)<(xs.length:Int):=by omega
   clear HL hbw hlt
   go_wp2
   go_ret
   exact⟨by rw[HE.out];rfl,HF.out⟩
theorem bV{a b:Int}(h:a=b):(a==b)=true:=by rw[h];simp
theorem aH{a b:Int}(h:¬a=b):(a==b)=false:=by rw[beq_eq_false_iff_ne];exact h
theorem kA:∀(x y:V) (w:World) (u v:AV),ax w u x->ax w v y->Calls Tryz.prog 60 #[.agg u,.agg v] w fun e w'=>e=.returned (.bool (V.same x y))∧Below w.1.size w w':=by
 intro x
 refine V.ind (P:=fun x=>∀(y:V) (w:World) (u v:AV),ax w u x->ax w v y->Calls Tryz.prog 60 #[.agg u,.agg v] w fun e w'=>e=.returned (.bool (V.same x y))∧Below w.1.size w w') ?_ x
 rintro k i b t xs ih ⟨k',i',b',t',ys⟩ w u v hx hy
 obtain⟨p,c,rfl,hxl,hxc,hxi⟩:=hx.open
 obtain⟨q,d,rfl,hyl,hyc,hyi⟩:=hy.open
 unfold cells5
 have hB2:Below w.1.size w ((w.alloc (.cells #[.int .i64 k,.int .i64 i,.float .f64 b,.string t,.slice p xs.length c] 87)).alloc (.cells #[.int .i64 k',.int .i64 i',.float .f64 b',.string t',.slice q ys.length d] 87)):=vY.alloc (by simp) _
 have HB2:=vQ hB2
 clear hB2 hx hy
 by_cases h1:¬k=k'
 ·have g1:=aH h1
  have HE:Hid (V.same (.mk k i b t xs) (.mk k' i' b' t' ys)=false):=by show _=_;simp[V.same_mk,h1]
  clear ih hxi hyi h1
  go_enter Tryz.func60,Tryz.ntmps60
  go_wp2_with fail
  refine(cH b b' _).mono ?_
  rintro e w1 ⟨rfl,hw1⟩
  rw[hw1]
  clear hw1 w1
  go_wp2
  go_ret
  exact⟨by rw[HE.out];rfl,HB2.out⟩
 replace h1:k=k':=Classical.not_not.1 h1
 have g1:=bV h1
 by_cases h2:¬i=i'
 ·have g2:=aH h2
  have HE:Hid (V.same (.mk k i b t xs) (.mk k' i' b' t' ys)=false):=by show _=_;simp[V.same_mk,h2]
  clear ih hxi hyi h1 h2
  go_enter Tryz.func60,Tryz.ntmps60
  go_wp2_with fail
  refine(cH b b' _).mono ?_
  rintro e w1 ⟨rfl,hw1⟩
  rw[hw1]
  clear hw1 w1
  go_wp2
  go_ret
  exact⟨by rw[HE.out];rfl,HB2.out⟩
 replace h2:i=i':=Classical.not_not.1 h2
 have g2:=bV h2
 by_cases h3:¬t=t'
 ·have g3:(t.toList==t'.toList)=false:=by rw[cF,decide_eq_false h3]
  have HE:Hid (V.same (.mk k i b t xs) (.mk k' i' b' t' ys)=false):=by show _=_;simp[V.same_mk,h3]
  clear ih hxi hyi h1 h2 h3
  go_enter Tryz.func60,Tryz.ntmps60
  go_wp2_with fail
  refine(cH b b' _).mono ?_
  rintro e w1 ⟨rfl,hw1⟩
  rw[hw1]
  clear hw1 w1
  go_wp2
  go_ret
  exact⟨by rw[HE.out];rfl,HB2.out⟩
 replace h3:t=t':=Classical.not_not.1 h3
 have g3:(t.toList==t'.toList)=true:=by rw[cF,decide_eq_true h3]
 by_cases h4:¬aC b=aC b'
 ·have g4:((aC b:Int)==(aC b':Int))=false:=aH (by omega)
  have HE:Hid (V.same (.mk k i b t xs) (.mk k' i' b' t' ys)=false):=by show _=_;simp[V.same_mk,h4]
  clear ih hxi hyi h1 h2 h3 h4
  go_enter Tryz.func60,Tryz.ntmps60
  go_wp2_with fail
  refine(cH b b' _).mono ?_
  rintro e w1 ⟨rfl,hw1⟩
  rw[hw1]
  clear hw1 w1
  go_wp2
  go_ret
  exact⟨by rw[HE.out];rfl,HB2.out⟩
 replace h4:aC b=aC b':=Classical.not_not.1 h4
 have g4:((aC b:Int)==(aC b':Int))=true:=bV (by omega)
 have HE:Hid (V.same (.mk k i b t xs) (.mk k' i' b' t' ys)=V.sameL xs ys):=by show _=_;simp[V.same_mk,h1,h2,h3,h4]
 have hC:∀w',Below w.1.size w w'->Calls Tryz.prog 86 #[.slice p xs.length c,.slice q ys.length d] w' fun e w''=>e=.returned (.bool (V.sameL xs ys))∧Below w'.1.size w' w'':=fun w' hb=>gX xs ih ys w' p q c d (dl.on hxi hb) (dl.on hyi hb) hxl
 have HC:=vQ hC
 clear ih hxi hyi h1 h2 h3 h4 hC
 go_enter Tryz.func60,Tryz.ntmps60
 go_wp2_with fail
 refine(cH b b' _).mono ?_
 rintro e w1 ⟨rfl,hw1⟩
 rw[hw1]
 clear hw1 w1
 go_wp2_with fail
 refine(HC.out _ HB2.out).mono ?_
 rintro e w3 ⟨rfl,hb3⟩
 have HB3:=vQ (HB2.out.trans (hb3.mono HB2.out.size))
 clear hb3
 go_wp2
 go_ret
 exact⟨by rw[HE.out];simp,HB3.out⟩
end
namespace U8
def kind(c:Nat):Option (Nat×Nat×Nat) :=
 if c<128 then some (1,c,0) else if 192<=c∧c<224 then some (2,c-192,128) else if 224<=c∧c<240 then some (3,c-224,2048) else if 240<=c∧c<248 then some (4,c-240,65536) else none
def conts:Nat->Nat->L8->Option Nat
 |0,v,_=>some v
 |_+1,_,[]=>none
 |k+1,v,c::r=>if 128<=c.toNat∧c.toNat<192 then conts k (v*64+c.toNat-128) r else none
def may(least v:Nat):Bool:=decide (least<=v)&&decide (v<=1114111)&&!(decide (55296<=v)&&decide (v<=57343))
def one:L8->Option Nat
 | []=>none
 |c::r=>match kind c.toNat with
  |none=>none
  |some (n,v,least)=>match conts (n-1) v r with
   |none=>none
   |some v'=>if may least v' then some n else none
def utfF:Nat->L8->Bool
 |_,[]=>true
 |0,_::_=>false
 |f+1,c::r=>match one (c::r) with
  |none=>false
  |some n=>utfF f ((c::r).drop n)
def utf(l:L8):Bool:=utfF l.length l
theorem kind_pos{c n v least:Nat}(h:kind c=some (n,v,least)):1<=n∧n<=4∧v<128∧(1<n->v<32):=by
 unfold kind at h
 split at h
 ·simp only[Option.some.injEq,Prod.mk.injEq] at h;omega
 ·split at h
  ·simp only[Option.some.injEq,Prod.mk.injEq] at h;omega
  ·split at h
   ·simp only[Option.some.injEq,Prod.mk.injEq] at h;omega
   ·split at h
    ·simp only[Option.some.injEq,Prod.mk.injEq] at h;omega
    ·cases h
theorem conts_len:∀(k v:Nat) (r:L8) (v':Nat),conts k v r=some v'->k<=r.length
 |0,_,_,_,_=>Nat.zero_le _
 |k+1,_,[],_,h=>by simp[conts] at h
 |k+1,v,c::r,v',h=>by
  rw[conts] at h
  split at h
  ·have:=conts_len k _ r v' h
   simp;omega
  ·cases h
theorem one_len{l:L8}{n:Nat}(h:one l=some n):1<=n∧n<=l.length:=by
 cases l with
 |nil=>simp[one] at h
 |cons c r=>
  rw[one] at h
  cases hk:kind c.toNat with
  |none=>rw[hk] at h;cases h
  |some x=>
   obtain⟨m,v,least⟩:=x
   rw[hk] at h
   simp only at h
   have h1:=(kind_pos hk).1
   cases hc:conts (m-1) v r with
   |none=>rw[hc] at h;cases h
   |some v'=>
    rw[hc] at h
    simp only at h
    have:=conts_len _ _ _ _ hc
    split at h
    ·cases h;simp;omega
    ·cases h
theorem utfF_fuel:∀(n f:Nat) (l:L8),l.length<=n->l.length<=f->utfF f l=utfF l.length l:=by
 intro n
 induction n with
 |zero=>
  intro f l h _
  have:l=[]:=List.eq_nil_of_length_eq_zero (by omega)
  subst this
  cases f <;> rfl
 |succ n ih=>
  intro f l h hf
  cases l with
  |nil=>cases f <;> rfl
  |cons c r=>
   simp only[List.length_cons] at h hf ⊢
   cases f with
   |zero=>omega
   |succ f=>
    rw[utfF,utfF]
    cases ho:one (c::r) with
    |none=>rfl
    |some m=>
     have hm:=one_len ho
     simp only[List.length_cons] at hm
     simp only
     have hl:((c::r).drop m).length<=r.length:=by rw[List.length_drop,List.length_cons];omega
     rw[ih f _ (by omega) (by omega),ih r.length _ (by omega) hl]
theorem utf_bad{l:L8}(h0:l≠[])(h:one l=none):utf l=false:=by
 cases l with
 |nil=>exact absurd rfl h0
 |cons c r=>unfold utf;rw[List.length_cons,utfF,h]
theorem utf_step{l:L8}{n:Nat}(h:one l=some n):utf l=utf (l.drop n):=by
 cases l with
 |nil=>simp[one] at h
 |cons c r=>
  have hm:=one_len h
  simp only[List.length_cons] at hm
  unfold utf
  rw[List.length_cons,utfF,h]
  simp only
  exact utfF_fuel r.length _ _ (by rw[List.length_drop,List.length_cons];omega) (by rw[List.length_drop,List.length_cons];omega)
def Inner(l:L8)(a n v0 i v:Nat):Prop:=conts (n-1) v0 (l.drop (a+1))=conts (n-i) v (l.drop (a+i))∧(i<=1->v<128)∧(i<=2->v<8192)∧(i<=3->v<524288)∧v<33554432
theorem in_start(l:L8)(a n v0:Nat)(h:v0<128):Inner l a n v0 1 v0:=⟨rfl,fun _=>h,fun _=>by omega,fun _=>by omega,by omega⟩
section
variable {l:L8} {a n v0 i v:Nat}
theorem in_short(h:Inner l a n v0 i v)(hi:i<n)(hs:l.length<=a+i):conts (n-1) v0 (l.drop (a+1))=none:=by
 rw[h.1,List.drop_eq_nil_of_le hs,show n-i=(n-i-1)+1 by omega]
 rfl
theorem in_bad(h:Inner l a n v0 i v)(hi:i<n)(hs:a+i<l.length)(hb:¬(128<=l[a+i].toNat∧l[a+i].toNat<192)):conts (n-1) v0 (l.drop (a+1))=none:=by
 rw[h.1,List.drop_eq_getElem_cons hs,show n-i=(n-i-1)+1 by omega,conts,if_neg hb]
theorem in_next(h:Inner l a n v0 i v)(h0:1<=i)(hi:i<n)(hn:n<=4)(hs:a+i<l.length)(hb:128<=l[a+i].toNat∧l[a+i].toNat<192):Inner l a n v0 (i+1) (v*64+l[a+i].toNat-128):=by
 obtain⟨h1,h2,h3,h4,h5⟩:=h
 refine⟨?_,fun hc=>?_,fun hc=>?_,fun hc=>?_,?_⟩
 ·rw[h1,List.drop_eq_getElem_cons hs,show n-i=(n-(i+1))+1 by omega,conts,if_pos hb]
  rfl
 ·omega
 ·have:=h2 (by omega);omega
 ·have:=h3 (by omega);omega
 ·have:=h4 (by omega);omega
theorem in_end(h:Inner l a n v0 n v):conts (n-1) v0 (l.drop (a+1))=some v:=by rw[h.1,Nat.sub_self];rfl
end
theorem one_none{l:L8}{a n v0 least:Nat}(ha:a<l.length)(hk:kind l[a].toNat=some (n,v0,least))(h:conts (n-1) v0 (l.drop (a+1))=none):one (l.drop a)=none:=by
 rw[List.drop_eq_getElem_cons ha,one,hk]
 simp only
 rw[h]
theorem one_may{l:L8}{a n v0 v least:Nat}(ha:a<l.length)(hk:kind l[a].toNat=some (n,v0,least))(h:conts (n-1) v0 (l.drop (a+1))=some v):one (l.drop a)=if may least v then some n else none:=by
 rw[List.drop_eq_getElem_cons ha,one,hk]
 simp only
 rw[h]
theorem one_kind{l:L8}{a:Nat}(ha:a<l.length)(hk:kind l[a].toNat=none):one (l.drop a)=none:=by
 rw[List.drop_eq_getElem_cons ha,one,hk]
end U8
end Go.Proofs.YtlgfdgdlaahpfaaGreatDoor

import Derived.Test.YtngmnfdaedlodaaGreatDoorB01
import Derived.Deep.RegionHeld3
set_option maxHeartbeats 400000
namespace Go.Proofs.YtngmnfdaedlodaaGreatDoor
open Go.Proofs.Tryz
open Option renaming some->I,none->U
open Bool renaming false->Y,true->N
open Go renaming World->O,Value->AA
open Go.Value renaming slice->pv,float->sq
open Go.RowKit renaming Below->AC
open Go.Obj renaming cells->wx
open Go.Proofs.Tryz renaming prog->AE
variable{B c g j n:Nat}{w w' w2 w3 w4:O}{l:L8}{v1 v2 v3 v4:AA}{k:Int}{p:OA}{C u:AV}{t:ByteArray}{T:TypeId}{o:Obj}
namespace Leb
def putF:Nat->Nat->L8
 |0,_=>[]
 |f+1,n=>if n<128 then [UInt8.ofNat n] else UInt8.ofNat (n % 128+128)::putF f (n / 128)
def put(n:Nat):L8:=putF 10 n
structure Got where
 err:Nat
 n:Nat
 k:Nat
def getF:Nat->Bool->L8->Got
 |0,_,_=>⟨5,0,0⟩
 |_+1,_,[]=>⟨30,0,0⟩
 |f+1,first,c::r=>
  if 127<c.toNat then
   let g:=getF f Y r
   if g.err=0 then ⟨0,g.n*128+c.toNat % 128,g.k+1⟩ else g
  else if (f=0∧1<c.toNat)∨(first=Y∧c.toNat=0) then ⟨5,0,0⟩ else ⟨0,c.toNat,1⟩
def get(l:L8):Got:=getF 10 N l
theorem byte_low(n:Nat)(h:n<128):(UInt8.ofNat n).toNat=n:=by
 rw[UInt8.toNat_ofNat'];omega
theorem byte_high(n:Nat):(UInt8.ofNat (n % 128+128)).toNat=n % 128+128:=by
 rw[UInt8.toNat_ofNat'];omega
def cap(f:Nat):Nat:=if f=10 then 18446744073709551616 else 128 ^ f
theorem getF_put(f:Nat)(first:Bool)(n:Nat)(r:L8)(h:n<2*128 ^ f)(y:first=N∨n≠0):getF (f+1) first (putF (f+1) n++r)=⟨0,n,(putF (f+1) n).length⟩:=by
 induction f generalizing first n with
 |zero=>
  have D:n<2:=by simpa using h
  have e:putF 1 n=[UInt8.ofNat n]:=by simp only[putF];rw[AG (by omega)]
  rw[e];simp only[List.cons_append,List.nil_append,getF,byte_low n (by omega),AI,List.length_nil];rw[AF (by omega),AF];rintro(⟨_,A⟩ | ⟨A,E⟩)
  ·omega
  ·rcases y with y | y
   ·rw[y] at A;cases A
   ·exact y E
 |succ f ih=>
  by_cases D:n<128
  ·have e:putF (f+1+1) n=[UInt8.ofNat n]:=(by simp only[putF];rw[AG D]);rw[e];simp only[List.cons_append,List.nil_append,getF,byte_low n D,AI,List.length_nil];rw[AF (by omega),AF];rintro(⟨A,_⟩ | ⟨A,E⟩)
   ·omega
   ·rcases y with y | y
    ·rw[y] at A;cases A
    ·exact y E
  ·have e:putF (f+1+1) n=UInt8.ofNat (n % 128+128)::putF (f+1) (n / 128):=by
    rw[putF,AF D]
   have A:n / 128<2*128 ^ f:=by
    rw[Nat.pow_succ] at h;rw[Nat.div_lt_iff_lt_mul (by omega)];omega
   have J:=ih Y (n / 128) A (.inr (by omega));rw[e];rw[List.cons_append,getF];simp only[J,byte_high,AI];rw[AG (by omega),AG trivial];congr 1;omega
theorem get_put(n:Nat)(r:L8)(h:n<18446744073709551616):get (put n++r)=⟨0,n,(put n).length⟩:=by
 have e:2*128 ^ 9=18446744073709551616:=by decide
 exact getF_put 9 N n r (by rw[e];exact h) (.inl rfl)
theorem getF_ok(f:Nat)(first:Bool)(l:L8)(h:(getF (f+1) first l).err=0):
  (getF (f+1) first l).n<2*128 ^ f∧(first=N∨(getF (f+1) first l).n≠0)∧l.take (getF (f+1) first l).k=putF (f+1) (getF (f+1) first l).n∧(getF (f+1) first l).k<=l.length∧1<=(getF (f+1) first l).k:=by
 induction f generalizing first l with
 |zero=>
  cases l with
  |nil=>simp[getF] at h
  |cons c r=>
   rw[getF] at h ⊢;by_cases A:127<c.toNat
   ·rw[AG A] at h;simp[getF] at h
   ·rw[AF A] at h ⊢;by_cases y:(0=0∧1<c.toNat)∨(first=Y∧c.toNat=0)
    ·rw[AG y] at h;simp at h
    ·rw[AF y];have c1:c.toNat<2:=(by omega);refine⟨by simpa using c1,?_,?_,by simp,by simp⟩
     ·cases first
      ·right;intro J;exact y (.inr ⟨rfl,J⟩)
      ·exact .inl rfl
     ·simp only[putF,List.take_succ_cons,List.take_zero];rw[AG (by omega)];congr 1;exact(UInt8.toNat_inj.1 (byte_low c.toNat (by omega))).symm
 |succ f ih=>
  cases l with
  |nil=>simp[getF] at h
  |cons c r=>
   have Q:c.toNat<256:=c.toNat_lt;rw[getF] at h ⊢;by_cases A:127<c.toNat
   ·rw[AG A] at h ⊢;simp only at h ⊢;by_cases E:(getF (f+1) Y r).err=0
    ·rw[AG E];obtain⟨X,D,M,ab,ah⟩:=ih Y r E;have Z:(getF (f+1) Y r).n≠0:=by
      rcases D with D | D
      ·cases D
      ·exact D
     generalize getF (f+1) Y r=g at *
     dsimp only;refine⟨?_,.inr (by omega),?_,by simp;omega,by simp⟩
     ·rw[Nat.pow_succ];omega
     ·have K:(g.n*128+c.toNat % 128) / 128=g.n:=(by omega);have L:(g.n*128+c.toNat % 128) % 128+128=c.toNat:=(by omega);rw[putF,AF (by omega),K,L,List.take_succ_cons,M];congr 1;apply UInt8.toNat_inj.1;rw[UInt8.toNat_ofNat'];omega
    ·rw[AF E] at h;exact absurd h E
   ·rw[AF A] at h ⊢;by_cases y:(f+1=0∧1<c.toNat)∨(first=Y∧c.toNat=0)
    ·rw[AG y] at h;simp at h
    ·rw[AF y];have S:128<=128 ^ (f+1):=by
      have:=Nat.pow_le_pow_right (show 0<128 by omega) (show 1<=f+1 by omega);simpa using this
     refine⟨by simp only;omega,?_,?_,by simp,by simp⟩
     ·cases first
      ·right;intro J;exact y (.inr ⟨rfl,J⟩)
      ·exact .inl rfl
     ·simp only[putF,List.take_succ_cons,List.take_zero];rw[AG (by omega)];congr 1;exact(UInt8.toNat_inj.1 (byte_low c.toNat (by omega))).symm
theorem get_ok(l:L8)(h:(get l).err=0):(get l).n<18446744073709551616∧l.take (get l).k=put (get l).n∧(get l).k<=l.length∧1<=(get l).k:=by
 have e:2*128 ^ 9=18446744073709551616:=by decide
 obtain⟨y,_,A,D,E⟩:=getF_ok 9 N l h;rw[e] at y;exact⟨y,A,D,E⟩
theorem getF_bad(f:Nat):∀(first:Bool) (l:L8),(getF f first l).err≠0->(getF f first l).n=0∧(getF f first l).k=0:=by
 induction f with
 |zero=>intro first l _;exact⟨rfl,rfl⟩
 |succ f ih=>
  intro first l h
  cases l with
  |nil=>exact⟨rfl,rfl⟩
  |cons c r=>
   rw[getF] at h ⊢;by_cases A:127<c.toNat
   ·rw[AG A] at h ⊢;simp only at h ⊢;by_cases y:(getF f Y r).err=0
    ·rw[AG y] at h;exact absurd rfl h
    ·rw[AF y];exact ih Y r y
   ·rw[AF A] at h ⊢;by_cases D:(f=0∧1<c.toNat)∨(first=Y∧c.toNat=0)
    ·rw[AG D];exact⟨rfl,rfl⟩
    ·rw[AF D] at h;exact absurd rfl h
theorem putF_le(f:Nat):∀n,(putF f n).length<=f:=by
 induction f with
 |zero=>intro n;simp[putF]
 |succ f ih=>intro n;rw[putF];split <;> simp;exact ih _
def zig(n:Int):Nat:=if 0<=n then 2*n.toNat else 2*(-(n+1)).toNat+1
def zag(u:Nat):Int:=if u % 2=0 then ((u / 2:Nat):Int) else -((u / 2:Nat):Int)-1
theorem zag_zig(n:Int):zag (zig n)=n:=by
 unfold zig;split
 ·unfold zag;rw[AG (by omega)];omega
 ·unfold zag;rw[AF (by omega)];omega
theorem zig_zag(u:Nat):zig (zag u)=u:=by
 unfold zag;split
 ·unfold zig;rw[AG (by omega)];omega
 ·unfold zig;rw[AF (by omega)];omega
def val:L8->Nat
 | []=>0
 |c::r=>val r*128+c.toNat % 128
def high:Nat->L8->Nat
 |0,_=>0
 |_+1,[]=>0
 |f+1,c::r=>if 127<c.toNat then high f r+1 else 0
theorem high_stop(f:Nat):∀(r:L8) (h:high f r<r.length),high f r<f->¬127<(r[high f r]).toNat:=by
 induction f with
 |zero=>intro r h A;omega
 |succ f ih=>
  intro r h A;cases r with
  |nil=>simp at h
  |cons c r=>
   by_cases y:127<c.toNat
   ·have e:high (f+1) (c::r)=high f r+1:=(by rw[high,AG y]);simp only[e] at h A ⊢;simp only[List.getElem_cons_succ];exact ih r (by simpa using h) (by omega)
   ·have e:high (f+1) (c::r)=0:=(by rw[high,AF y]);simp only[e,List.getElem_cons_zero];exact y
theorem high_eq(f:Nat):∀(r:L8) (k:Nat),k<=f->(hk:k<=r.length)->(∀j (h:j<r.length),j<k->127<r[j].toNat)->(k=f∨k=r.length∨∃h:k<r.length,¬127<r[k].toNat)->high f r=k:=by
 induction f with
 |zero=>intro r k J _ _ _;simp[high];omega
 |succ f ih=>
  intro r k J D E y;cases r with
  |nil=>simp at D;simp[high];omega
  |cons c r=>
   cases k with
   |zero=>
    rcases y with y | y | ⟨y,A⟩
    ·omega
    ·simp at y
    ·have K:¬127<c.toNat:=A;rw[high,AF K]
   |succ k=>
    have L:127<c.toNat:=E 0 (by simp) (by omega);rw[high,AG L,ih r k (by omega) (by simpa using D) (fun j h M=>by
     have:=E (j+1) (by simpa using h) (by omega)
     simpa using this) ?_]
    rcases y with y | y | ⟨y,A⟩
    ·exact .inl (by omega)
    ·exact .inr (.inl (by simpa using y))
    ·exact .inr (.inr ⟨by simpa using y,by simpa using A⟩)
theorem getF_high(f:Nat):∀(first:Bool) (r:L8),
  (high f r=f->getF f first r=⟨5,0,0⟩) ∧
  (high f r=r.length->high f r<f->getF f first r=⟨30,0,0⟩) ∧
  (∀h:high f r<r.length,high f r<f->getF f first r=if (high f r+1=f∧1<(r[high f r]).toNat)∨((first=Y∨0<high f r)∧(r[high f r]).toNat=0) then ⟨5,0,0⟩ else ⟨0,val (r.take (high f r+1)),high f r+1⟩):=by
 induction f with
 |zero=>intro first r;exact⟨fun _=>rfl,fun _ h=>by omega,fun _ h=>by omega⟩
 |succ f ih=>
  intro first r
  cases r with
  |nil=>exact⟨fun h=>by simp[high] at h,fun _ _=>rfl,fun h=>by simp at h⟩
  |cons c r=>
   by_cases E:127<c.toNat
   ·have e:high (f+1) (c::r)=high f r+1:=(by rw[high,AG E]);obtain⟨S,X,Q⟩:=ih Y r;rw[e];refine⟨fun h=>?_,fun h M=>?_,fun h M=>?_⟩
    ·rw[getF,AG E];simp only;rw[S (by omega)];rfl
    ·rw[getF,AG E];simp only;rw[X (by simpa using h) (by omega)];rfl
    ·have J:high f r<r.length:=(by simpa using h);have hb:=high_stop f r J (by omega);by_cases A:(high f r+1=f∧1<(r[high f r]).toNat)∨((Y=Y∨0<high f r)∧(r[high f r]).toNat=0)
     ·have L:getF f Y r=⟨5,0,0⟩:=(by rw[Q J (by omega),AG A]);have K:(high f r+1+1=f+1∧1<(r[high f r]).toNat)∨((first=Y∨0<high f r+1)∧(r[high f r]).toNat=0):=by
       rcases A with ⟨D,y⟩ | ⟨_,y⟩
       ·exact .inl ⟨by omega,y⟩
       ·exact .inr ⟨.inr (by omega),y⟩
      rw[getF,AG E];simp only[L,List.getElem_cons_succ];rw[AG K];rfl
     ·have L:getF f Y r=⟨0,val (r.take (high f r+1)),high f r+1⟩:=(by rw[Q J (by omega),AF A]);have K:¬((high f r+1+1=f+1∧1<(r[high f r]).toNat)∨((first=Y∨0<high f r+1)∧(r[high f r]).toNat=0)):=by
       rintro(⟨D,y⟩ | ⟨_,y⟩)
       ·exact A (.inl ⟨by omega,y⟩)
       ·exact A (.inr ⟨.inl rfl,y⟩)
      rw[getF,AG E];simp only[L,List.getElem_cons_succ];rw[AF K];simp[val]
   ·have e:high (f+1) (c::r)=0:=(by rw[high,AF E]);rw[e];refine⟨fun h=>by omega,fun h _=>by simp at h,fun h M=>?_⟩;rw[getF,AF E];simp only[List.getElem_cons_zero];by_cases A:(f=0∧1<c.toNat)∨(first=Y∧c.toNat=0)
    ·rw[AG A,AG];rcases A with ⟨D,y⟩ | ⟨D,y⟩
     ·exact .inl ⟨by omega,y⟩
     ·exact .inr ⟨.inl D,y⟩
    ·rw[AF A,AF]
     ·have:c.toNat % 128=c.toNat:=(by omega);simp[val,this]
     ·rintro(⟨D,y⟩ | ⟨D | D,y⟩)
      ·exact A (.inl ⟨by omega,y⟩)
      ·exact A (.inr ⟨D,y⟩)
      ·omega
def getAt(l:L8)(at_:Int):Got:=if at_<0 then ⟨30,0,0⟩ else get (l.drop at_.toNat)
def nextAt(l:L8)(at_:Int):Int:=if (getAt l at_).err=0 then at_+(getAt l at_).k else 0
theorem put_length_le(n:Nat):(put n).length<=10:=putF_le 10 n
end Leb
section
open Go.RowKit
def oQ(x:Nat):Bool:=FloatKind.f64.format.order x x != I .eq
def aH(x:Nat):Nat:=if oQ x then 9221120237041090560 else x
theorem zv{x:Nat}(h:oQ x=N):(FloatKind.f64.format.order x x != I .eq)=true:=h
theorem zw{x:Nat}(h:oQ x=Y):(FloatKind.f64.format.order x x != I .eq)=false:=h
theorem zM{x:Nat}(h:oQ x=N):aH x=9221120237041090560:=by simp[aH,h]
theorem zN{x:Nat}(h:oQ x=Y):aH x=x:=by simp[aH,h]
theorem gy(x:Int)(w:O):(callFunc 204 #[.int .u64 x]).run AE w=.ok (.value (sq .f64 x.toNat)) w:=by kernel_rfl
theorem mR(x:Nat)(w:O):(callFunc 196 #[sq .f64 x]).run AE w=.ok (.value (.int .u64 x)) w:=by kernel_rfl
attribute [local go_sem] gy mR
theorem iG(x:Nat)(w:O):
  Calls AE 197 #[sq .f64 x] w fun e w'=>e=.returned (sq .f64 (aH x))∧w'=w:=by
 cases h:oQ x
 ·have y:=zw h;rw[zN h];clear h;go_enter func197,ntmps197;go_wp2;go_ret;exact⟨rfl,rfl⟩
 ·have y:=zv h;rw[zM h];clear h;go_enter func197,ntmps197;go_wp2;go_ret;exact⟨rfl,rfl⟩
theorem cN(x:Nat)(w:O):
  Calls AE 175 #[sq .f64 x] w fun e w'=>e=.returned (.int .u64 (aH x))∧w'=w:=by
 go_enter func175,ntmps175;go_wp2_with (go_at_call 197;refine(iG _ _).mono ?_;rintro e w' ⟨rfl,rfl⟩);go_ret;exact⟨rfl,rfl⟩
theorem jq(x:Int)(w:O):
  Calls AE 199 #[.int .u64 x] w fun e w'=>e=.returned (sq .f64 (aH x.toNat))∧w'=w:=by
 go_enter func199,ntmps199;go_wp2_with (go_at_call 197;refine(iG _ _).mono ?_;rintro e w' ⟨rfl,rfl⟩);go_ret;exact⟨rfl,rfl⟩
theorem gB(x y:Nat)(w:O):
  Calls AE 164 #[sq .f64 x,sq .f64 y] w fun e w'=>e=.returned (.bool ((aH x:Int)==(aH y:Int)))∧w'=w:=by
 go_enter func164,ntmps164;go_wp2_with (go_at_call 175;refine(cN _ _).mono ?_;rintro e w' ⟨rfl,rfl⟩);go_ret;exact⟨rfl,rfl⟩
end
section
structure V where
 kind:Int
 int:Int
 bits:Nat
 text:ByteArray
 items:List V
namespace V
theorem ind{P:V->Prop}(h:∀k i b t xs,(∀x∈xs,P x)->P (.mk k i b t xs)):∀v,P v:=fun v=>
 V.rec (motive_1:=P) (motive_2:=fun xs=>∀x∈xs,P x) (fun k i b t xs E=>h k i b t xs E) (fun x y=>by cases y)
  (fun x xs y D J A=>by
   rcases List.mem_cons.1 A with rfl | A
   ·exact y
   ·exact D J A) v
def fix(v:V):V:=match v with
 |.mk k i b t xs=>.mk k i (aH b) t (xs.map fix)
def fixL(xs:List V):List V:=xs.map fix
theorem fix_mk(k i:Int)(b:Nat)(t:ByteArray)(xs:List V):fix (.mk k i b t xs)=.mk k i (aH b) t (fixL xs):=by rw[fix,fixL]
theorem fixL_eq(xs:List V):fixL xs=xs.map fix:=rfl
def eqL:List (V->Bool)->List V->Bool
 | [],[]=>N
 |f::fs,y::ys=>f y&&eqL fs ys
 |_,_=>Y
def exact(v:V):V->Bool:=match v with
 |.mk k i b t xs=>fun y=>k==y.kind&&i==y.int&&decide (t=y.text)&&b==y.bits&&eqL (xs.map exact) y.items
def same(v:V):V->Bool:=match v with
 |.mk k i b t xs=>fun y=>k==y.kind&&i==y.int&&decide (t=y.text)&&aH b==aH y.bits&&eqL (xs.map same) y.items
def sameL(xs ys:List V):Bool:=eqL (xs.map same) ys
theorem same_mk(k i:Int)(b:Nat)(t:ByteArray)(xs:List V)(k' A:Int)(y:Nat)(t':ByteArray)(ys:List V):same (.mk k i b t xs) (.mk k' A y t' ys)=(k==k'&&i==A&&decide (t=t')&&aH b==aH y&&sameL xs ys):=by rw[same,sameL]
theorem sameL_nil:sameL [] []=true:=rfl
theorem sameL_cons(x:V)(r:List V)(y:V)(s:List V):sameL (x::r) (y::s)=(same x y&&sameL r s):=rfl
theorem sameL_nc(y:V)(s:List V):sameL [] (y::s)=false:=rfl
theorem sameL_cn(x:V)(r:List V):sameL (x::r) []=false:=rfl
def ownB(k i:Int)(b:Nat)(t:ByteArray)(n:Nat):Bool :=
 decide (1<=k∧k<=7)&&(k==1||k==2||i==0)&&(k==3||aH b==0)&&(k==4||k==5||decide (t.toList=[]))&&(k==6||k==7||n==0)&&(k != 1||i==0||i==1)&&(k != 6||decide (n<2))
def own:V->Bool
 |.mk k i b t xs=>ownB k i b t xs.length
def first:List Nat->Nat
 | []=>0
 |e::r=>if e=0 then first r else e
def check(utf:ByteArray->Bool)(d:Nat)(v:V):Nat:=match v with
 |.mk k i b t xs=>if 4<d then 62 else if own (.mk k i b t xs)=Y then 60 else if 1024<t.size then 2 else if 256<xs.length then 3 else if k=4∧utf t=Y then 61 else first (xs.map (check utf (d+1)))
def checkL(utf:ByteArray->Bool)(d:Nat)(xs:List V):Nat:=first (xs.map (check utf d))
theorem check_mk(utf:ByteArray->Bool)(d:Nat)(k i:Int)(b:Nat)(t:ByteArray)(xs:List V):check utf d (.mk k i b t xs)=if 4<d then 62 else if own (.mk k i b t xs)=Y then 60 else if 1024<t.size then 2 else if 256<xs.length then 3 else if k=4∧utf t=Y then 61 else checkL utf (d+1) xs:=by rw[check,checkL]
theorem checkL_nil(utf:ByteArray->Bool)(d:Nat):checkL utf d []=0:=rfl
theorem checkL_cons(utf:ByteArray->Bool)(d:Nat)(x:V)(r:List V):checkL utf d (x::r)=if check utf d x=0 then checkL utf d r else check utf d x:=rfl
end V
end
section
open Go.RowKit
theorem ee{y W:O}(hb:AC B y W)(D:y.os=w.os)(E:y.tape=w.tape)(J:y.output=w.output)(A:y.1=w.1):AC B w W :=
 Below.trans ⟨D,E,J,by rw[A];exact gQx,fun k _=>by rw[A]⟩ hb
theorem ae{p:Addr}{v:AA}(hb:AC w.1.size w w')(h:w.cell? p=I v):w'.cell? p=I v:=by
 rw[hb.cell (World.block_lt_of_cell? _ _ h)];exact h
def cells5(k i:Int)(b:Nat)(t:ByteArray)(p:OA)(n c:Nat):AV:=#[.int .i64 k,.int .i64 i,sq .f64 b,.string t,pv p n c]
def vf(w:O)(P:AV->V->Prop)(p:OA)(c:Nat)(xs:List V)(us:Nat->AV):Prop :=
 xs.length*64<=140737488351232∧xs.length<=c∧(xs≠[]->∃blk off,p=I ⟨blk,off,U⟩∧blk<w.1.size∧∀j,j<xs.length->∀m,m<5->w.cell? ⟨blk,off+j*5+m,U⟩=(us j)[m]?)∧∀j (h:j<xs.length),P (us j) xs[j]
def aK(w:O)(u:AV)(x:V):Prop :=
 ∀P:AV->V->Prop,(∀k i b t p c xs us,vf w P p c xs us->P (cells5 k i b t p xs.length c) (.mk k i b t xs))->P u x
theorem aK.mk{i:Int}{b:Nat}{xs:List V}(us:Nat->AV)(E:xs.length*64<=140737488351232)(D:xs.length<=c)(J:xs≠[]->∃blk A,p=I ⟨blk,A,U⟩∧blk<w.1.size∧∀j,j<xs.length->∀m,m<5->w.cell? ⟨blk,A+j*5+m,U⟩=(us j)[m]?)(K:∀j (h:j<xs.length),aK w (us j) xs[j]):aK w (cells5 k i b t p xs.length c) (.mk k i b t xs) :=
 fun P y=>y k i b t p c xs us ⟨E,D,J,fun j h=>K j h P y⟩
theorem aK.inv{x:V}(h:aK w u x):∃k i b t p c xs us,u=cells5 k i b t p xs.length c∧x=.mk k i b t xs∧vf w (aK w) p c xs us:=by
 have:=h (fun u x=>aK w u x∧∃k i b t p c xs us,u=cells5 k i b t p xs.length c∧x=.mk k i b t xs∧vf w (aK w) p c xs us) (fun k i b t p c xs us ⟨A,D,E,J⟩=>
  ⟨.mk us A D E (fun j y=>(J j y).1),k,i,b,t,p,c,xs,us,rfl,rfl,A,D,E,fun j y=>(J j y).1⟩)
 exact this.2
theorem aK.on{v:V}(h:aK w u v)(hb:AC w.1.size w w'):aK w' u v:=by
 refine h (aK w') ?_;rintro k i b t p c xs us ⟨L,J,S,X⟩;refine .mk us L J (fun Q=>?_) X;obtain⟨blk,y,A,D,E⟩:=S Q;refine⟨blk,y,A,by have:=hb.size;omega,fun j K m M=>?_⟩;rw[hb.cell (p:=⟨blk,y+j*5+m,U⟩) D];exact E j K m M
structure Item(w:O)(p:OA)(j:Nat)(u:AV):Prop where
 lies:∃blk off k i b t q n c,p=I ⟨blk,off,U⟩∧blk<w.1.size∧u=cells5 k i b t q n c∧w.cell? ⟨blk,off+j*5,U⟩=I (.int .i64 k)∧w.cell? ⟨blk,off+j*5+1,U⟩=I (.int .i64 i)∧w.cell? ⟨blk,off+j*5+2,U⟩=I (sq .f64 b)∧w.cell? ⟨blk,off+j*5+3,U⟩=I (.string t)∧w.cell? ⟨blk,off+j*5+4,U⟩=I (pv q n c)
theorem aK.open{i:Int}{b:Nat}{xs:List V}(h:aK w u (.mk k i b t xs)):
  ∃p c,u=cells5 k i b t p xs.length c∧xs.length*64<=140737488351232∧xs.length<=c∧∀j (y:j<xs.length),∃J,aK w J xs[j]∧Item w p j J:=by
 obtain⟨a0,aw,ak,a1,p,c,a3,us,rfl,E,X,A,ab,D⟩:=h.inv;simp only[V.mk.injEq] at E;obtain⟨rfl,rfl,rfl,rfl,rfl⟩:=E;refine⟨p,c,rfl,X,A,fun j y=>⟨us j,D j y,?_⟩⟩;obtain⟨blk,aj,M,Q,S⟩:=ab (fun A=>by rw[A] at y;simp at y);obtain⟨k',ai,K,t',q,L,ys,a2,ah,-,-⟩:=(D j y).inv;have g:=fun m Z=>S j y m Z;rw[ah] at g ⊢;exact⟨blk,aj,k',ai,K,t',q,ys.length,L,M,Q,rfl,g 0 (by omega),g 1 (by omega),g 2 (by omega),g 3 (by omega),g 4 (by omega)⟩
theorem Item.on{p:OA}(h:Item w p j u)(hb:AC w.1.size w w'):Item w' p j u:=by
 obtain⟨blk,y,k,i,b,t,q,n,c,M,A,Q,D,E,J,K,L⟩:=h.lies;refine⟨⟨blk,y,k,i,b,t,q,n,c,M,by have:=hb.size;omega,Q,?_,?_,?_,?_,?_⟩⟩
 ·rw[hb.cell (p:=⟨blk,y+j*5,U⟩) A];exact D
 ·rw[hb.cell (p:=⟨blk,y+j*5+1,U⟩) A];exact E
 ·rw[hb.cell (p:=⟨blk,y+j*5+2,U⟩) A];exact J
 ·rw[hb.cell (p:=⟨blk,y+j*5+3,U⟩) A];exact K
 ·rw[hb.cell (p:=⟨blk,y+j*5+4,U⟩) A];exact L
end
section
structure Ty where
 kind:Int
 of:List Ty
namespace Ty
theorem ind{P:Ty->Prop}(h:∀k xs,(∀x∈xs,P x)->P (.mk k xs)):∀v,P v:=fun v=>
 Ty.rec (motive_1:=P) (motive_2:=fun xs=>∀x∈xs,P x) (fun k xs E=>h k xs E) (fun x y=>by cases y)
  (fun x xs y D J A=>by
   rcases List.mem_cons.1 A with rfl | A
   ·exact y
   ·exact D J A) v
def eqL:List (Ty->Bool)->List Ty->Bool
 | [],[]=>N
 |f::fs,y::ys=>f y&&eqL fs ys
 |_,_=>Y
def same(v:Ty):Ty->Bool:=match v with
 |.mk k xs=>fun y=>k==y.kind&&eqL (xs.map same) y.of
def sameL(xs ys:List Ty):Bool:=eqL (xs.map same) ys
theorem same_mk(k:Int)(xs:List Ty)(k':Int)(ys:List Ty):same (.mk k xs) (.mk k' ys)=(k==k'&&sameL xs ys):=by rw[same,sameL]
theorem sameL_nil:sameL [] []=true:=rfl
theorem sameL_cons(x:Ty)(r:List Ty)(y:Ty)(s:List Ty):sameL (x::r) (y::s)=(same x y&&sameL r s):=rfl
theorem sameL_nc(y:Ty)(s:List Ty):sameL [] (y::s)=false:=rfl
theorem sameL_cn(x:Ty)(r:List Ty):sameL (x::r) []=false:=rfl
theorem sameL_ne:∀(xs ys:List Ty),xs.length≠ys.length->sameL xs ys=Y
 | [],[],h=>absurd rfl h
 | [],_::_,_=>rfl
 |_::_,[],_=>rfl
 |x::r,y::s,h=>by rw[sameL_cons,sameL_ne r s (by simpa using h),Bool.and_false]
theorem sameL_at:∀(xs ys:List Ty) (j:Nat) (A:j<xs.length) (D:j<ys.length),same xs[j] ys[j]=Y->sameL xs ys=Y
 |x::r,y::s,0,_,_,h=>by rw[sameL_cons];simp at h;rw[h,Bool.false_and]
 |x::r,y::s,j+1,A,D,h=>by rw[sameL_cons,sameL_at r s j (by simpa using A) (by simpa using D) (by simpa using h),Bool.and_false]
theorem sameL_all:∀(xs ys:List Ty),xs.length=ys.length->(∀j (A:j<xs.length) (D:j<ys.length),same xs[j] ys[j]=N)->sameL xs ys=N
 | [],[],_,_=>rfl
 | [],_::_,h,_=>by simp at h
 |_::_,[],h,_=>by simp at h
 |x::r,y::s,h,ha=>by
  rw[sameL_cons,sameL_all r s (by simpa using h) (fun j A D=>by have:=ha (j+1) (by simpa using A) (by simpa using D);simpa using this)];have:=ha 0 (by simp) (by simp);simp at this;rw[this];rfl
theorem same_iff:∀a b:Ty,same a b=N↔a=b:=by
 intro a;refine Ty.ind (P:=fun a=>∀b,same a b=N↔a=b) ?_ a;intro k xs J c;have D:∀(xs ys:List Ty),(∀x∈xs,∀b,same x b=N↔x=b)->(sameL xs ys=N↔xs=ys):=by
  intro xs;induction xs with
  |nil=>intro ys _;cases ys <;> simp[sameL_nil,sameL_nc]
  |cons x r ihr=>
   intro ys A;cases ys with
   |nil=>simp[sameL_cn]
   |cons y s=>
    simp only[sameL_cons,Bool.and_eq_true,List.cons.injEq];rw[A x (by simp) y,ihr s (fun z E=>A z (by simp[E]))]
 obtain⟨k',ys⟩:=c;simp only[same_mk,Bool.and_eq_true,beq_iff_eq,Ty.mk.injEq];rw[D xs ys J]
def want(k:Int):Nat:=if k=6∨k=7 then 1 else 0
def check(d:Nat)(v:Ty):Nat:=match v with
 |.mk k xs=>if 4<d then 62 else if k<1∨7<k∨xs.length≠want k then 60 else V.first (xs.map (check (d+1)))
theorem check_mk(d:Nat)(k:Int)(xs:List Ty):check d (.mk k xs)=if 4<d then 62 else if k<1∨7<k∨xs.length≠want k then 60 else V.first (xs.map (check (d+1))):=by rw[check]
theorem check_leaf(d:Nat)(k:Int)(hd:¬4<d)(A:¬(k<1∨7<k))(y:want k=0):check d (.mk k [])=0:=by
 rw[check_mk,AF hd,AF (by simp[y];omega)];rfl
theorem check_one(d:Nat)(k:Int)(x:Ty)(hd:¬4<d)(A:¬(k<1∨7<k))(y:want k=1):check d (.mk k [x])=check (d+1) x:=by
 rw[check_mk,AF hd,AF (by simp[y];omega)];show(if check (d+1) x=0 then 0 else check (d+1) x)=_;split
 ·next h=>rw[h]
 ·rfl
end Ty
end
section
open Go.RowKit
def au(k:Int)(p:OA)(n c:Nat):AV:=#[.int .i64 k,pv p n c]
def vh(w:O)(P:AV->Ty->Prop)(p:OA)(c:Nat)(xs:List Ty)(us:Nat->AV):Prop :=
 xs.length*32<=140737488351232∧xs.length<=c∧(xs≠[]->∃blk off,p=I ⟨blk,off,U⟩∧blk<w.1.size∧∀j,j<xs.length->∀m,m<2->w.cell? ⟨blk,off+j*2+m,U⟩=(us j)[m]?)∧∀j (h:j<xs.length),P (us j) xs[j]
def aN(w:O)(u:AV)(x:Ty):Prop :=
 ∀P:AV->Ty->Prop,(∀k p c xs us,vh w P p c xs us->P (au k p xs.length c) (.mk k xs))->P u x
theorem aN.mk{xs:List Ty}(us:Nat->AV)(E:xs.length*32<=140737488351232)(D:xs.length<=c)(J:xs≠[]->∃blk A,p=I ⟨blk,A,U⟩∧blk<w.1.size∧∀j,j<xs.length->∀m,m<2->w.cell? ⟨blk,A+j*2+m,U⟩=(us j)[m]?)(K:∀j (h:j<xs.length),aN w (us j) xs[j]):aN w (au k p xs.length c) (.mk k xs) :=
 fun P y=>y k p c xs us ⟨E,D,J,fun j h=>K j h P y⟩
theorem aN.inv{x:Ty}(h:aN w u x):∃k p c xs us,u=au k p xs.length c∧x=.mk k xs∧vh w (aN w) p c xs us:=by
 have:=h (fun u x=>aN w u x∧∃k p c xs us,u=au k p xs.length c∧x=.mk k xs∧vh w (aN w) p c xs us) (fun k p c xs us ⟨A,D,E,J⟩=>
  ⟨.mk us A D E (fun j y=>(J j y).1),k,p,c,xs,us,rfl,rfl,A,D,E,fun j y=>(J j y).1⟩)
 exact this.2
theorem aN.on{v:Ty}(h:aN w u v)(hb:AC w.1.size w w'):aN w' u v:=by
 refine h (aN w') ?_;rintro k p c xs us ⟨L,J,S,X⟩;refine .mk us L J (fun Q=>?_) X;obtain⟨blk,y,A,D,E⟩:=S Q;refine⟨blk,y,A,by have:=hb.size;omega,fun j K m M=>?_⟩;rw[hb.cell (p:=⟨blk,y+j*2+m,U⟩) D];exact E j K m M
structure gT(w:O)(p:OA)(j:Nat)(u:AV):Prop where
 lies:∃blk off k q n c,p=I ⟨blk,off,U⟩∧blk<w.1.size∧u=au k q n c∧w.cell? ⟨blk,off+j*2,U⟩=I (.int .i64 k)∧w.cell? ⟨blk,off+j*2+1,U⟩=I (pv q n c)
theorem gT.on{p:OA}(h:gT w p j u)(hb:AC w.1.size w w'):gT w' p j u:=by
 obtain⟨blk,y,k,q,n,c,J,A,K,D,E⟩:=h.lies;refine⟨⟨blk,y,k,q,n,c,J,by have:=hb.size;omega,K,?_,?_⟩⟩
 ·rw[hb.cell (p:=⟨blk,y+j*2,U⟩) A];exact D
 ·rw[hb.cell (p:=⟨blk,y+j*2+1,U⟩) A];exact E
theorem aN.open{xs:List Ty}(h:aN w u (.mk k xs)):
  ∃p c,u=au k p xs.length c∧xs.length*32<=140737488351232∧xs.length<=c∧∀j (y:j<xs.length),∃J,aN w J xs[j]∧gT w p j J:=by
 obtain⟨ai,p,c,ak,us,rfl,E,S,A,Z,D⟩:=h.inv;simp only[Ty.mk.injEq] at E;obtain⟨rfl,rfl⟩:=E;refine⟨p,c,rfl,S,A,fun j y=>⟨us j,D j y,?_⟩⟩;obtain⟨blk,ah,L,M,Q⟩:=Z (fun A=>by rw[A] at y;simp at y);obtain⟨k',q,K,ys,aj,ab,-,-⟩:=(D j y).inv;have g:=fun m X=>Q j y m X;rw[ab] at g ⊢;exact⟨blk,ah,k',q,ys.length,K,L,M,rfl,g 0 (by omega),g 1 (by omega)⟩
end
section
open Go.RowKit
namespace V
end V
theorem iW(t t':ByteArray):(t.toList==t'.toList)=decide (t=t'):=by
 rw[ByteArray.toList_eq,ByteArray.toList_eq];by_cases h:t=t'
 ·rw[h];simp
 ·rw[AP h,BQ];intro y;apply h;cases t;cases t'
  simp only[ByteArray.mk.injEq];exact Array.toList_inj.1 y
theorem cE{a b:Int}(h:¬a=b):(a != b)=true:=by rw[bne_iff_ne];exact h
theorem ca{a b:Int}(h:a=b):(a != b)=false:=by rw[h];simp
attribute [local go_sem] gy mR
end
section
open Go.RowKit
structure vg(w:O)(P:(Nat->Prop)->AV->V->Prop)(F:Nat->Prop)(g off c:Nat)(xs:List V)(us:Nat->AV)(Fs:Nat->Nat->Prop):Prop where
 hl:xs.length*64<=140737488351232
 hc:xs.length<=c
 h5:∀j,j<xs.length->(us j).size=5
 hp:g<w.1.size∧∀j,j<xs.length->∀m,m<5->w.cell? ⟨g,off+j*5+m,U⟩=(us j)[m]?
 hf:∀j,j<xs.length->∀m,m<5->w.frozen? ⟨g,off+j*5+m,U⟩=Y
 hg:F g
 hgs:∀j,j<xs.length->¬Fs j g
 hd:∀j n,j<xs.length->n<xs.length->j≠n->∀k,Fs j k->¬Fs n k
 hs:∀j,j<xs.length->∀k,Fs j k->F k
 hr:∀j (h:j<xs.length),P (Fs j) (us j) xs[j]
def aY(w:O)(F:Nat->Prop)(u:AV)(x:V):Prop :=
 ∀P:(Nat->Prop)->AV->V->Prop,(∀F k i b t p c,P F (cells5 k i b t p 0 c) (.mk k i b t [])) ->
  (∀F k i b t g off c xs us Fs,vg w P F g off c xs us Fs->P F (cells5 k i b t (.some ⟨g,off,.none⟩) xs.length c) (.mk k i b t xs))->P F u x
section
variable {w w':O} {F G:Nat->Prop} {u:AV} {x:V}
theorem aY.none{F:Nat->Prop}{i:Int}{b:Nat}:aY w F (cells5 k i b t p 0 c) (.mk k i b t []):=fun _ y _=>y F k i b t p c
theorem aY.some{F:Nat->Prop}{i:Int}{b:Nat}{y:Nat}{xs:List V}(us:Nat->AV)(Fs:Nat->Nat->Prop)(Q:xs.length*64<=140737488351232)(J:xs.length<=c)(E:∀j,j<xs.length->(us j).size=5)(S:g<w.1.size∧∀j,j<xs.length->∀m,m<5->w.cell? ⟨g,y+j*5+m,.none⟩=(us j)[m]?)(K:∀j,j<xs.length->∀m,m<5->w.frozen? ⟨g,y+j*5+m,.none⟩=Y)(L:F g)(M:∀j,j<xs.length->¬Fs j g)(hd:∀j n,j<xs.length->n<xs.length->j≠n->∀k,Fs j k->¬Fs n k)(Z:∀j,j<xs.length->∀k,Fs j k->F k)(X:∀j (h:j<xs.length),aY w (Fs j) (us j) xs[j]):aY w F (cells5 k i b t (.some ⟨g,y,.none⟩) xs.length c) (.mk k i b t xs) :=
 fun P D A=>A F k i b t g y c xs us Fs ⟨Q,J,E,S,K,L,M,hd,Z,fun j h=>X j h P D A⟩
theorem aY.inv(h:aY w F u x):(∃k i b t p c,u=cells5 k i b t p 0 c∧x=.mk k i b t [])∨∃k i b t g y c xs us Fs,u=cells5 k i b t (.some ⟨g,y,.none⟩) xs.length c∧x=.mk k i b t xs∧vg w (aY w) F g y c xs us Fs:=by
 have:=h (fun F u x=>aY w F u x∧((∃k i b t p c,u=cells5 k i b t p 0 c∧x=.mk k i b t [])∨∃k i b t g y c xs us Fs,u=cells5 k i b t (.some ⟨g,y,.none⟩) xs.length c∧x=.mk k i b t xs∧vg w (aY w) F g y c xs us Fs))
  (fun F k i b t p c=>⟨.none,.inl ⟨k,i,b,t,p,c,rfl,rfl⟩⟩)
  (fun F k i b t g y c xs us Fs s=>⟨.some us Fs s.hl s.hc s.h5 s.hp s.hf s.hg s.hgs s.hd s.hs (fun j h=>(s.hr j h).1),.inr ⟨k,i,b,t,g,y,c,xs,us,Fs,rfl,rfl,s.hl,s.hc,s.h5,s.hp,s.hf,s.hg,s.hgs,s.hd,s.hs,fun j h=>(s.hr j h).1⟩⟩)
 exact this.2
theorem aY.five(h:aY w F u x):u.size=5:=by
 rcases h.inv with ⟨_,_,_,_,_,_,rfl,_⟩ | ⟨_,_,_,_,_,_,_,_,_,_,rfl,_⟩ <;> rfl
theorem aY.shape(h:aY w F u x):∃k i b t p n c,u=cells5 k i b t p n c:=by
 rcases h.inv with ⟨_,_,_,_,_,_,rfl,_⟩ | ⟨_,_,_,_,_,_,_,_,_,_,rfl,_⟩ <;> exact⟨_,_,_,_,_,_,_,rfl⟩
theorem aY.lies(h:aY w F u x):aK w u x :=
 h (fun _ u x=>aK w u x) (fun F k i b t p c=>aK.mk (xs:=[]) (fun _=>#[]) (by simp) (by simp) (fun y=>absurd rfl y) (fun j A=>by simp at A))
  (fun F k i b t g D c xs us Fs s=>aK.mk us s.hl s.hc (fun _=>⟨_,_,rfl,s.hp.1,s.hp.2⟩) s.hr)
theorem aY.aside(h:aY w F u x):∀{G:Nat->Prop} {w':O},Aside G w w'->(∀k,F k->¬G k)->aY w' F u x:=by
 intro G w' A;refine h (fun F u x=>(∀k,F k->¬G k)->aY w' F u x) ?_ ?_
 ·intro F k i b t p c _;exact .none
 ·intro F k i b t g K c xs us Fs s D;refine .some us Fs s.hl s.hc s.h5 ⟨AS s.hp.1 A.size,fun j y m E=>?_⟩ (fun j y m E=>?_) s.hg s.hgs s.hd s.hs (fun j y=>s.hr j y fun k J=>D k (s.hs j y k J))
  ·rw[A.cell s.hp.1 (D _ s.hg)];exact s.hp.2 j y m E
  ·rw[A.frozen s.hp.1 (D _ s.hg)];exact s.hf j y m E
theorem aY.under(h:aY w F u x)(hb:AC B w w')(y:∀k,F k->k<B):aY w' F u x :=
 h.aside (G:=fun k=>B<=k) (gO hb fun _ _ h=>h) fun k A D=>by have:=y k A;omega
theorem aY.mono(h:aY w F u x)(y:∀k,F k->G k):aY w G u x:=by
 rcases h.inv with ⟨k,i,b,t,p,c,rfl,rfl⟩ | ⟨k,i,b,t,g,E,c,xs,us,Fs,rfl,rfl,s⟩
 ·exact .none
 ·exact .some us Fs s.hl s.hc s.h5 s.hp s.hf (y _ s.hg) s.hgs s.hd (fun j A k D=>y k (s.hs j A k D)) s.hr
end
def flat(us:Nat->AV):Nat->List AA
 |0=>[]
 |n+1=>flat us n++(us n).toList
theorem nF(us:Nat->AV):∀n,(∀j,j<n->(us j).size=5)->(flat us n).length=n*5
 |0,_=>by simp[flat]
 |n+1,h=>by
  rw[flat,AH,nF us n fun j y=>h j (by omega),Array.length_toList,h n (by omega)];omega
theorem flat_get(us:Nat->AV):∀n,(∀j,j<n->(us j).size=5)->∀j,j<n->∀m,m<5->(flat us n)[j*5+m]?=(us j)[m]?
 |0,_,j,y,_,_=>by omega
 |n+1,h,j,y,m,hm=>by
  have E:=nF us n fun j y=>h j (by omega);rw[flat];rcases Nat.lt_or_ge j n with A | A
  ·rw[List.getElem?_append_left (by omega),flat_get us n (fun j y=>h j (by omega)) j A m hm]
  ·have D:j=n:=(by omega);subst D;rw[List.getElem?_append_right (by omega),E,Nat.add_sub_cancel_left];simp
theorem eB(us y:Nat->AV):∀n,(∀j,j<n->us j=y j)->flat us n=flat y n
 |0,_=>rfl
 |n+1,h=>by rw[flat,flat,eB us y n fun j A=>h j (by omega),h n (by omega)]
structure bd(w:O)(B:Nat)(v:AA)(n:Nat)(us:Nat->AV)(Fs:Nat->Nat->Prop)(ys:List V):Prop where
 len:ys.length=n
 five:∀j,j<n->(us j).size=5
 row:w.ownsRow B 102 5 v n (flat us n)
 own:∀j (h:j<ys.length),aY w (Fs j) (us j) ys[j]
 apart:∀j m,j<n->m<n->j≠m->∀k,Fs j k->¬Fs m k
 beside:∀g,v.ownBlock=I g->∀j,j<n->¬Fs j g
 range:∀j,j<n->∀k,Fs j k->B<=k∧k<w.1.size
theorem ir(w:O)(B:Nat):bd w B (pv U 0 0) 0 (fun _=>#[]) (fun _ _=>False) [] :=
 ⟨rfl,fun j y=>by omega,World.ownsRow_nil _ _ _ _,fun j y=>by simp at y,fun j m y=>by omega,fun g A=>by simp[Value.ownBlock] at A,fun j y=>by omega⟩
section
variable {w w':O} {B:Nat} {v:AA} {n:Nat} {us:Nat->AV} {Fs:Nat->Nat->Prop} {ys:List V}
theorem bd.aside{G:Nat->Prop}(h:bd w B v n us Fs ys)(A:Aside G w w')(K:∀g,v.ownBlock=I g->¬G g)(L:∀j,j<n->∀k,Fs j k->¬G k):bd w' B v n us Fs ys:=by
 refine⟨h.len,h.five,?_,fun j y=>(h.own j y).aside A (L j (by rw[<-h.len];exact y)),h.apart,h.beside,fun j y k E=>⟨(h.range j y k E).1,AS (h.range j y k E).2 A.size⟩⟩;refine⟨h.row.1,?_⟩;rcases h.row.2 with M | ⟨g,cap,J,rfl,Q,D,S⟩
 ·exact .inl M
 ·exact .inr ⟨g,cap,J,rfl,Q,by rw[A.block g (Array.getElem?_eq_some_iff.1 D).1 (K g rfl)];exact D,S⟩
theorem bd.lt(h:bd w B v n us Fs ys):∀g,v.ownBlock=I g->B<=g∧g<w.1.size:=World.ownsRow.lt h.row
theorem bd.on(h:bd w B v n us Fs ys)(hb:AC w.1.size w w'):bd w' B v n us Fs ys :=
 h.aside (af hb (fun _=>False)) (fun _ _ y=>y) (fun _ _ _ _ y=>y)
theorem bd.set(h:bd w B v n us Fs ys)(p:Addr)(u:AA)(J:p.block<B):bd (w.setCell p u) B v n us Fs ys :=
 h.aside (G:=fun k=>k=p.block) ((Aside.refl (fun k=>k=p.block) w).setCell (p:=p) (.inl rfl) u) (fun g A y=>by have:=(h.lt g A).1;omega) (fun j D k E y=>by have:=(h.range j D k E).1;omega)
theorem bd.step{F:Nat->Prop}{x:V}{cap:Nat}(h:bd w B v n us Fs ys)(hb:AC w.1.size w w2)(ab:aY w2 F u x)(K:∀k,F k->w.1.size<=k∧k<w2.1.size)(Q:AC w2.1.size w2 w3)(a2:B<=w.1.size)(aj:w4.ownsRow B 102 5 (pv (I ⟨g,0,U⟩) (n+1) cap) (n+1) (flat us n++u.toList))(L:w3.grownBy w4 v.ownBlock)(E:v.ownBlock=I g∨g=w3.1.size):
  bd w4 B (pv (I ⟨g,0,U⟩) (n+1) cap) (n+1) (fun j=>if j=n then u else us j) (fun j=>if j=n then F else Fs j) (ys++[x]):=by
 have a5:=hb.size;have a6:=Q.size;have M:Aside (fun k=>v.ownBlock=I k) w2 w4:=by
  refine(af Q _).trans (G:=fun k=>v.ownBlock=I k) ⟨L.os,L.tape,L.output,L.size,fun k y ah=>L.block k y (fun A=>ah A.symm)⟩ (fun _ _ h=>h)
 have X:∀k,F k->¬v.ownBlock=I k:=fun k y A=>by have:=(h.lt k A).2;have:=(K k y).1;omega
 have a4:∀j,j<n+1->j≠n->j<n:=fun j aw a0=>by omega
 refine⟨by rw[AH,h.len];rfl,fun j J=>?_,?_,fun j J=>?_,fun j m J a3 ai k y=>?_,fun ak S j J=>?_,fun j J k y=>?_⟩
 ·split
  ·exact ab.five
  ·exact h.five j (by omega)
 ·rw[flat,eB _ us n (fun j J=>by simp[show ¬j=n by omega])];simpa using aj
 ·rw[AH,h.len,AO] at J;by_cases D:j=n
  ·subst D;rw[AG rfl,AG rfl,List.getElem_append_right (by rw[h.len];exact gQx)];simp only[h.len,Nat.sub_self,List.getElem_singleton];exact ab.aside M X
  ·rw[AF D,AF D,List.getElem_append_left (by rw[h.len];omega)];exact((h.own j (by rw[h.len];omega)).under hb (fun k y=>(h.range j (by omega) k y).2)).aside M (fun k y A=>h.beside k A j (by omega) y)
 ·by_cases D:j=n
  ·rw[AG D] at y;rw[AF (by omega)];exact fun A=>by have:=(h.range m (by omega) k A).2;have:=(K k y).1;omega
  ·rw[AF D] at y;by_cases Z:m=n
   ·rw[AG Z];exact fun A=>by have:=(h.range j (by omega) k y).2;have:=(K k A).1;omega
   ·rw[AF Z];exact h.apart j m (by omega) (by omega) ai k y
 ·simp only[Value.ownBlock,Option.some.injEq] at S;subst S;by_cases D:j=n
  ·rw[AG D];intro A;have:=K _ A;rcases E with E | E
   ·exact X _ A E
   ·omega
  ·rw[AF D];intro A;rcases E with E | E
   ·exact h.beside _ E j (by omega) A
   ·have:=(h.range j (by omega) _ A).2;omega
 ·have a1:=M.size;by_cases D:j=n
  ·rw[AG D] at y;have:=K k y;omega
  ·rw[AF D] at y;have:=h.range j (by omega) k y;omega
theorem bd.done(h:bd w B v n us Fs ys)(X:n*64<=140737488351232)(k i:Int)(b:Nat)(t:ByteArray):∃p c,v=pv p n c∧aY w (fun k=>B<=k∧k<w.1.size) (cells5 k i b t p n c) (.mk k i b t ys):=by
 rcases h.row.2 with ⟨rfl,D⟩ | ⟨g,cap,ai,rfl,K,A,L,aj,ak,M⟩
 ·have ah:ys=[]:=List.eq_nil_of_length_eq_zero (by rw[h.len];exact D);subst ah;subst D;exact⟨U,0,rfl,.none⟩
 ·refine⟨_,cap,rfl,?_⟩;have E:=(Array.getElem?_eq_some_iff.1 A).1;have Z:=h.len;have Q:∀q,q<n*5->w.cell? ⟨g,q,U⟩=(flat us n)[q]?:=fun q ab=>by
   rw[<-M,List.getElem?_take_of_lt ab];simp[World.cell?,A]
  subst Z;refine .some us Fs X L h.five ⟨E,fun j y m J=>?_⟩ (fun j y m J=>by simp[World.frozen?,A]) ⟨K,E⟩ (fun j y=>h.beside g rfl j y) h.apart (fun j y k S=>h.range j y k S) h.own;rw[Nat.zero_add,Q _ (by omega),flat_get us _ h.five j y m J]
end
end
section
open Go.RowKit
def zeroV:Value:=.agg (cells5 0 0 0 ⟨#[]⟩ U 0 0)
theorem uo:(Tryz.prog.info? 102).map (fun i=>(i.zero,i.size,i.bytes))=I (I zeroV,5,64):=by kernel_rfl
theorem zt{F:Nat->Prop}{x:V}(h:aY w F u x):∀a∈u.toList,a.oneCell'=true:=by
 have key:∀(k i:Int) (b:Nat) (t:ByteArray) (p:OA) (n c:Nat),∀a∈(cells5 k i b t p n c).toList,a.oneCell'=true:=by
  intro k i b t p n c a y;simp[cells5] at y;rcases y with rfl | rfl | rfl | rfl | rfl <;> rfl
 obtain⟨_,_,_,_,_,_,_,rfl⟩:=h.shape;exact key _ _ _ _ _ _ _
theorem aa{b:Nat}{fr:Nat×Nat}(h:w.1[b]?=I (wx C T fr))(m:Nat):w.cell? ⟨b,m,U⟩=C[m]?:=by
 simp[World.cell?,h]
theorem cQ4{b:Nat}{fr:Nat×Nat}{v0:AA}(h:w.1[b]?=I (wx #[v0,v1,v2,v3] T fr)):w.cell? ⟨b,0,U⟩=I v0∧w.cell? ⟨b,1,U⟩=I v1∧w.cell? ⟨b,2,U⟩=I v2∧w.cell? ⟨b,3,U⟩=I v3:=⟨aa h 0,aa h 1,aa h 2,aa h 3⟩
theorem cQ5{b:Nat}{fr:Nat×Nat}{v0:AA}(h:w.1[b]?=I (wx #[v0,v1,v2,v3,v4] T fr)):w.cell? ⟨b,0,U⟩=I v0∧w.cell? ⟨b,1,U⟩=I v1∧w.cell? ⟨b,2,U⟩=I v2∧w.cell? ⟨b,3,U⟩=I v3∧w.cell? ⟨b,4,U⟩=I v4:=⟨aa h 0,aa h 1,aa h 2,aa h 3,aa h 4⟩
theorem cQ9{b:Nat}{fr:Nat×Nat}{v0 y A D E:AA}(h:w.1[b]?=I (wx #[v0,v1,v2,v3,v4,y,A,D,E] T fr)):w.cell? ⟨b,0,U⟩=I v0∧w.cell? ⟨b,1,U⟩=I v1∧w.cell? ⟨b,2,U⟩=I v2∧w.cell? ⟨b,3,U⟩=I v3∧w.cell? ⟨b,4,U⟩=I v4∧w.cell? ⟨b,5,U⟩=I y∧w.cell? ⟨b,6,U⟩=I A∧w.cell? ⟨b,7,U⟩=I D∧w.cell? ⟨b,8,U⟩=I E:=⟨aa h 0,aa h 1,aa h 2,aa h 3,aa h 4,aa h 5,aa h 6,aa h 7,aa h 8⟩
theorem ac{b:Nat}(h:w.1[b]?=I (wx C T (0,0)))(m:Nat):w.frozen? ⟨b,m,U⟩=false:=by
 simp[World.frozen?,h]
theorem ap{b:Nat}(h:w.1[b]?=I o):b<w.1.size:=(Array.getElem?_eq_some_iff.1 h).1
theorem bQ{b:Nat}(h:w.1[b]?=I o)(hb:AC B w w')(y:b<B):w'.1[b]?=I o:=(hb.block b y).trans h
theorem an(w:O)(o:Obj):(w.alloc o).1[w.1.size]?=I o:=by
 show(w.1.push o)[w.1.size]?=_;simp
theorem ay(w:O)(o:Obj){k:Nat}(h:k<w.1.size):(w.alloc o).1[k]?=w.1[k]?:=by
 show(w.1.push o)[k]?=_;rw[Array.getElem?_push,AF (by omega)]
theorem ao{b:Nat}(h:w.1[b]?=I (wx C T (0,0)))(m:Nat)(u:AA):(w.setCell ⟨b,m,U⟩ u).1[b]?=I (wx (C.set! m u) T (0,0)):=by
 simp[World.setCell,Array.getElem?_modify,h]
theorem aL{b:Nat}(h:w.1[b]?=I o)(p:Addr)(u:AA)(y:b≠p.block):(w.setCell p u).1[b]?=I o:=(Below.heap_setCell _ _ _ _ y).trans h
theorem al(P:Program)(w:O)(a:Addr)(m:Mode)(k:FloatKind)(x:Nat):(store a (sq k x) m).run P w=stored P w a (sq k x) m:=run_store P w a _ m rfl
section
variable {B:Nat} {v:AA} {n:Nat} {us:Nat->AV} {w:O} {u:AV} {ad H:Nat}
theorem pY(aw:w.ownsRow B 102 5 v n (flat us n))(M:u.size=5)(E:∀a∈u.toList,a.oneCell'=N)(Z:w.1[ad]?=I (wx u 102 (0,0)))(aj:(n+1)*64<=140737488355328)(Q:B<=w.1.size)(S:w.1.size=H){D:Array Oper}{rest:List Oper}{o:Oper}{a:Act}{A:Exit->Act->O->Prop}{y x:Operand}(ah:o.guard=U)(ak:o.op=Op.call { callee:=Callee.builtin Builtin.append,args:=#[y,x],argTypes:=#[62,62] })(a0:a.eval y=v)(a2:a.eval x=pv (I ⟨ad,0,U⟩) 1 1)(X:∀g cap w',w'.ownsRow B 102 5 (pv (I ⟨g,0,U⟩) (n+1) cap) (n+1) (flat us n++u.toList)->w.grownBy w' v.ownBlock->(v.ownBlock=I g∨g=H)->wpList AE D A rest (a.put o.dst (pv (I ⟨g,0,U⟩) (n+1) cap)) w'):
  wpList AE D A (o::rest) a w:=by
 obtain⟨i,ai,a3,a1,ab⟩:=info_parts uo
 exact wpList_append_lies w ah y x 62 ak B 102 i zeroV 5 64 underlying62 ai a3 a1 ab rfl (by decide) v n (flat us n) a0 aw ⟨ad,0,U⟩ 1 1 u.toList a2 (by simp[M])
  (World.news_of_block Z) E (by decide) (by unfold maxLen;omega) aj Q H S fun g cap w' J K L _=>X g cap w' J K L
theorem kw(a0:w.ownsRow B 102 5 v n (flat us n))(Q:u.size=5)(J:∀a∈u.toList,a.oneCell'=N)(ab:w.1[ad]?=I (wx u 102 (0,0)))(ak:(n+1)*64<=140737488355328)(S:B<=w.1.size)(X:w.1.size=H){a5:Array Oper}{o:Oper}{a:Act}{A:Act->O->Prop}{E:Exit->Act->O->Prop}{D:Prop}(y x:Operand)(ai:o.guard=U)(aw:o.op=Op.call { callee:=Callee.builtin Builtin.append,args:=#[y,x],argTypes:=#[62,62] })(a1:a.eval y=v)(a3:a.eval x=pv (I ⟨ad,0,U⟩) 1 1)(Z:∀g cap w',w'.ownsRow B 102 5 (pv (I ⟨g,0,U⟩) (n+1) cap) (n+1) (flat us n++u.toList)->w.grownBy w' v.ownBlock->(v.ownBlock=I g∨g=H)->A (a.put o.dst (pv (I ⟨g,0,U⟩) (n+1) cap)) w'):
  if Region.wanted o (yielded a5 a.tmps)=N then Oper.wp AE o a w A E else D:=by
 obtain⟨i,aj,a4,a2,ah⟩:=info_parts uo
 exact step_append_lies w ai y x 62 aw B 102 i zeroV 5 64 underlying62 aj a4 a2 ah rfl (by decide) v n (flat us n) a1 a0 ⟨ad,0,U⟩ 1 1 u.toList a3 (by simp[Q])
  (World.news_of_block ab) J (by decide) (by unfold maxLen;omega) ak S H X fun g cap w' K L M _=>Z g cap w' K L M
end
theorem oA{A:Array Oper}{o:Oper}{a:Act}{y:Act->O->Prop}{E:Exit->Act->O->Prop}{D:Prop}{f:FuncId}{fn:Func}{code:Code}{u:AA}{R:Ending->O->Prop}(x:Operand)(t:TypeId)(X:o.guard=U)(ah:o.op=Op.call { callee:=.value (.func f),args:=#[x],argTypes:=#[t] })(ak:a.eval x=u)(S : Tryz.prog.funcs[f]?=I fn)(ab : (fn.name== "runtime.NumGoroutine")=Y)(hb : fn.body=I code)(L:Calls AE f #[u] w R)(K:∀e w',R e w'->∃v,e=.returned v∧y (a.put o.dst v) w'):
  if Region.wanted o (yielded A a.tmps)=N then Oper.wp AE o a w y E else D:=by
 have aj:Region.wanted o (yielded A a.tmps)=true:=by simp[Region.wanted,X]
 rw[AG aj];have J : fn.name≠ "runtime.NumGoroutine" := by simpa using ab
 unfold Oper.wp;have M:(execOp a.eval o).run AE w=.ok (.enter f #[u]) w:=by
  have Q:a.eval (.func f)=.func (.func f) #[] #[]:=rfl;simp[execOp,ah,resolve,invoke,ak,Q,Deferred.ofValue,callFunc,S,J,hb]
 rw[M,Oper.upon_enter];refine L.mono ?_;intro e w' ai;obtain⟨v,rfl,Z⟩:=K e w' ai;exact Z
end
section
open Go.RowKit
attribute [local go_sem] al
structure jX(w:O)(C0:AV)(k i:Int)(b:Nat)(t:ByteArray)(zs:List V)(j:Nat)(v:AA)(wr:O):Prop where
 built:∃us Fs,bd wr (w.1.size+3) v j us Fs (zs.take j)
 b0:wr.1[w.1.size]?=I (wx C0 102 (0,0))
 b1:wr.1[w.1.size+1]?=I (wx (cells5 0 0 0 ⟨#[]⟩ U 0 0) 102 (0,0))
 b2:wr.1[w.1.size+2]?=I (wx #[.int .i64 k,.int .i64 i,sq .f64 b,.string t,v] 102 (0,0))
 below:AC w.1.size w wr
 size:w.1.size+3<=wr.1.size
section
variable {w wr:O} {C0:AV} {k i:Int} {b:Nat} {t:ByteArray} {zs:List V} {j:Nat} {v:AA}
theorem jX.slice(h:jX w C0 k i b t zs j v wr):∃p c,v=pv p j c:=by
 obtain⟨us,Fs,hb⟩:=h.built;rcases hb.row.2 with ⟨y,A⟩ | ⟨g,cap,D,y,_⟩
 ·exact⟨U,0,by rw[y,A]⟩
 ·exact⟨_,cap,y⟩
theorem jX.next{F:Nat->Prop}{cap:Nat}{us:Nat->AV}{Fs:Nat->Nat->Prop}(h:jX w C0 k i b t zs j v wr)(D:bd wr (w.1.size+3) v j us Fs (zs.take j))(M:j<zs.length)(hb:AC wr.1.size wr w2)(ab:aY w2 F u zs[j])(K:∀k,F k->wr.1.size<=k∧k<w2.1.size)(y:AC w2.1.size w2 w3)(S:w4.ownsRow (w.1.size+3) 102 5 (pv (I ⟨g,0,U⟩) (j+1) cap) (j+1) (flat us j++u.toList))(A:w3.grownBy w4 v.ownBlock)(J:v.ownBlock=I g∨g=w3.1.size):
  AC w.1.size w w4∧(∀n,n<3->w4.1[w.1.size+n]?=wr.1[w.1.size+n]?)∧jX w C0 k i b t zs (j+1) (pv (I ⟨g,0,U⟩) (j+1) cap) (w4.setCell ⟨w.1.size+2,4,U⟩ (pv (I ⟨g,0,U⟩) (j+1) cap)):=by
 have X:=h.size;have ah:=hb.size;have ai:=y.size;have Z:=D.step hb ab K y X S A J;have hold:∀n,n<3->w4.1[w.1.size+n]?=wr.1[w.1.size+n]?:=fun n J=>by
  rw[A.block _ (by omega) (fun L=>by have:=(D.lt _ L.symm).1;omega),y.block _ (by omega),hb.block _ (by omega)]
 have E:AC w.1.size w w4:=((h.below.trans (hb.mono (by omega))).trans (y.mono (by omega))).grown A (by omega) (fun k Q=>by have:=(D.lt k Q).1;omega);refine⟨E,hold,⟨⟨(fun n=>if n=j then u else us n),(fun n=>if n=j then F else Fs n),?_⟩,?_,?_,?_,?_,?_⟩⟩
 ·rw[List.take_succ_eq_append_getElem M];exact Z.set ⟨w.1.size+2,4,U⟩ _ (by show w.1.size+2<_;omega)
 ·have:=hold 0 (by omega);rw[Nat.add_zero] at this;exact aL (this.trans h.b0) _ _ (by show w.1.size≠w.1.size+2;omega)
 ·exact aL ((hold 1 (by omega)).trans h.b1) _ _ (by show w.1.size+1≠w.1.size+2;omega)
 ·rw[ao ((hold 2 (by omega)).trans h.b2)];rfl
 ·exact E.setCell (by show w.1.size<=w.1.size+2;omega) _
 ·have:=A.size;simp[World.setCell];omega
end
end
section
open Go.RowKit
namespace V
theorem sameL_ne:∀(xs ys:List V),xs.length≠ys.length->sameL xs ys=Y
 | [],[],h=>absurd rfl h
 | [],_::_,_=>rfl
 |_::_,[],_=>rfl
 |x::r,y::s,h=>by rw[sameL_cons,sameL_ne r s (by simpa using h),Bool.and_false]
theorem sameL_at:∀(xs ys:List V) (j:Nat) (A:j<xs.length) (D:j<ys.length),same xs[j] ys[j]=Y->sameL xs ys=Y
 |x::r,y::s,0,_,_,h=>by rw[sameL_cons];simp at h;rw[h,Bool.false_and]
 |x::r,y::s,j+1,A,D,h=>by rw[sameL_cons,sameL_at r s j (by simpa using A) (by simpa using D) (by simpa using h),Bool.and_false]
theorem sameL_all:∀(xs ys:List V),xs.length=ys.length->(∀j (A:j<xs.length) (D:j<ys.length),same xs[j] ys[j]=N)->sameL xs ys=N
 | [],[],_,_=>rfl
 | [],_::_,h,_=>by simp at h
 |_::_,[],h,_=>by simp at h
 |x::r,y::s,h,ha=>by
  rw[sameL_cons,sameL_all r s (by simpa using h) (fun j A D=>by have:=ha (j+1) (by simpa using A) (by simpa using D);simpa using this)];have:=ha 0 (by simp) (by simp);simp at this;rw[this];rfl
end V
def fN(w:O)(p:OA)(xs:List V):Prop:=∀j (hj:j<xs.length),∃u',aK w u' xs[j]∧Item w p j u'
theorem fN.on{xs:List V}(h:fN w p xs)(hb:AC w.1.size w w'):fN w' p xs:=fun j D=>by
 obtain⟨E,y,A⟩:=h j D;exact⟨E,y.on hb,A.on hb⟩
theorem dq{a b:Int}(h:a=b):(a==b)=true:=by rw[h];simp
theorem bg{a b:Int}(h:¬a=b):(a==b)=false:=by rw[BQ];exact h
end
namespace U8
def kind(c:Nat):Option (Nat×Nat×Nat) :=
 if c<128 then I (1,c,0) else if 192<=c∧c<224 then I (2,c-192,128) else if 224<=c∧c<240 then I (3,c-224,2048) else if 240<=c∧c<248 then I (4,c-240,65536) else U
def conts:Nat->Nat->L8->Option Nat
 |0,v,_=>I v
 |_+1,_,[]=>U
 |k+1,v,c::r=>if 128<=c.toNat∧c.toNat<192 then conts k (v*64+c.toNat-128) r else U
def may(least v:Nat):Bool:=decide (least<=v)&&decide (v<=1114111)&&!(decide (55296<=v)&&decide (v<=57343))
def one:L8->Option Nat
 | []=>U
 |c::r=>match kind c.toNat with
  |none=>U
  |some (n,v,least)=>match conts (n-1) v r with
   |none=>U
   |some v'=>if may least v' then I n else U
def utfF:Nat->L8->Bool
 |_,[]=>N
 |0,_::_=>Y
 |f+1,c::r=>match one (c::r) with
  |none=>Y
  |some n=>utfF f ((c::r).drop n)
def utf(l:L8):Bool:=utfF l.length l
theorem kind_pos{v least:Nat}(h:kind c=I (n,v,least)):1<=n∧n<=4∧v<128∧(1<n->v<32):=by
 unfold kind at h;split at h
 ·simp only[Option.some.injEq,Prod.mk.injEq] at h;omega
 ·split at h
  ·simp only[Option.some.injEq,Prod.mk.injEq] at h;omega
  ·split at h
   ·simp only[Option.some.injEq,Prod.mk.injEq] at h;omega
   ·split at h
    ·simp only[Option.some.injEq,Prod.mk.injEq] at h;omega
    ·cases h
theorem conts_len:∀(k v:Nat) (r:L8) (v':Nat),conts k v r=I v'->k<=r.length
 |0,_,_,_,_=>Nat.zero_le _
 |k+1,_,[],_,h=>by simp[conts] at h
 |k+1,v,c::r,v',h=>by
  rw[conts] at h;split at h
  ·have:=conts_len k _ r v' h;simp;omega
  ·cases h
theorem one_len(h:one l=I n):1<=n∧n<=l.length:=by
 cases l with
 |nil=>simp[one] at h
 |cons c r=>
  rw[one] at h;cases hk:kind c.toNat with
  |none=>rw[hk] at h;cases h
  |some x=>
   obtain⟨m,v,least⟩:=x;rw[hk] at h;simp only at h;have y:=(kind_pos hk).1;cases hc:conts (m-1) v r with
   |none=>rw[hc] at h;cases h
   |some v'=>
    rw[hc] at h;simp only at h;have:=conts_len _ _ _ _ hc;split at h
    ·cases h;simp;omega
    ·cases h
theorem utfF_fuel:∀(n f:Nat) (l:L8),l.length<=n->l.length<=f->utfF f l=utfF l.length l:=by
 intro n;induction n with
 |zero=>
  intro f l h _;have:l=[]:=List.eq_nil_of_length_eq_zero (by omega);subst this;cases f <;> rfl
 |succ n ih=>
  intro f l h y;cases l with
  |nil=>cases f <;> rfl
  |cons c r=>
   simp only[AI] at h y ⊢;cases f with
   |zero=>omega
   |succ f=>
    rw[utfF,utfF];cases ho:one (c::r) with
    |none=>rfl
    |some m=>
     have D:=one_len ho;simp only[AI] at D;simp only;have A:((c::r).drop m).length<=r.length:=(by rw[AL,AI];omega);rw[ih f _ (by omega) (by omega),ih r.length _ (by omega) A]
theorem utf_bad(y:l≠[])(h:one l=U):utf l=false:=by
 cases l with
 |nil=>exact absurd rfl y
 |cons c r=>unfold utf;rw[AI,utfF,h]
theorem utf_step(h:one l=I n):utf l=utf (l.drop n):=by
 cases l with
 |nil=>simp[one] at h
 |cons c r=>
  have y:=one_len h;simp only[AI] at y;unfold utf;rw[AI,utfF,h];simp only;exact utfF_fuel r.length _ _ (by rw[AL,AI];omega) (by rw[AL,AI];omega)
section
variable {l:L8} {a n v0 i v:Nat}
end
end U8
end Go.Proofs.YtngmnfdaedlodaaGreatDoor

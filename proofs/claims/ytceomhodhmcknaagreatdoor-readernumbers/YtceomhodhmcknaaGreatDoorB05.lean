import Derived.Test.YtceomhodhmcknaaGreatDoorB04
namespace Go.Proofs.YtceomhodhmcknaaGreatDoor
variable{m n:Nat}{xs:L8}
section
open Go.RowKit
def Leb.Putting(n:Nat)(xs:L8)(m:Nat):Prop:=xs.length<=9∧m<2*128 ^ (9-xs.length)∧Leb.put n=xs++Leb.putF (10-xs.length) m
theorem Leb.putting_start(h:n<18446744073709551616):Leb.Putting n [] n:=by
 have e:2*128 ^ 9=18446744073709551616:=by decide
 exact⟨by simp,by simpa[e] using h,rfl⟩
theorem Leb.putting_next(h:Leb.Putting n xs m)(hm:127<m):Leb.Putting n (xs++[UInt8.ofNat (m % 128+128)]) (m / 128):=by
 obtain⟨h1,h2,h3⟩:=h
 have h4:xs.length<=8:=by
  rcases Nat.lt_or_ge 8 xs.length with h5 | h5
  ·have:9-xs.length=0:=by omega
   rw[this] at h2
   simp at h2
   omega
  ·exact h5
 refine⟨by simp;omega,?_,?_⟩
 ·have e:9-xs.length=(9-(xs++[UInt8.ofNat (m % 128+128)]).length)+1:=by simp;omega
  rw[e,Nat.pow_succ] at h2
  rw[Nat.div_lt_iff_lt_mul (by omega)]
  omega
 ·have e:10-xs.length=(10-(xs++[UInt8.ofNat (m % 128+128)]).length)+1:=by simp;omega
  rw[h3,e,Leb.putF,if_neg (by omega),List.append_assoc]
  rfl
theorem Leb.putting_last(h:Leb.Putting n xs m)(hm:m<=127):xs++[UInt8.ofNat m]=Leb.put n:=by
 obtain⟨h1,h2,h3⟩:=h
 have e:10-xs.length=(9-xs.length)+1:=by omega
 rw[h3,e,Leb.putF,if_pos (by omega)]
end
section
open Go.RowKit
def eB(l:L8)(a:Int):Value:=.tuple #[.int .u64 ((Leb.getAt l a).n:Nat),.int .i64 (Leb.nextAt l a),.int .i64 ((Leb.getAt l a).err:Nat)]
theorem iD(l:L8)(a:Int)(h:a<0∨(l.length:Int)<=a):eB l a=.tuple #[.int .u64 0,.int .i64 0,.int .i64 30]:=by
 have e:Leb.getAt l a=⟨30,0,0⟩:=by
  unfold Leb.getAt
  by_cases h0:a<0
  ·rw[if_pos h0]
  ·rw[if_neg h0,List.drop_eq_nil_of_le (by omega)];rfl
 unfold eB Leb.nextAt
 rw[e];rfl
theorem eA(l:L8)(a:Nat)(c:Nat)(hc:c≠0)(h:Leb.get (l.drop a)=⟨c,0,0⟩):eB l a=.tuple #[.int .u64 0,.int .i64 0,.int .i64 c]:=by
 have e:Leb.getAt l a=⟨c,0,0⟩:=by
  unfold Leb.getAt
  rw[if_neg (by omega)]
  exact h
 unfold eB Leb.nextAt
 rw[e,if_neg hc];rfl
theorem kh(l:L8)(a n k:Nat)(h:Leb.get (l.drop a)=⟨0,n,k⟩):eB l a=.tuple #[.int .u64 n,.int .i64 ((a:Int)+k),.int .i64 0]:=by
 have e:Leb.getAt l a=⟨0,n,k⟩:=by
  unfold Leb.getAt
  rw[if_neg (by omega)]
  exact h
 unfold eB Leb.nextAt
 rw[e,if_pos rfl];rfl
end
section
open Go.RowKit
theorem fj(t:ByteArray)(i:Nat)(h:i<t.size):t.data.toList[i]'(by simpa using h)=t[i]:=by rw[Array.getElem_toList];rfl
end
section
open Go.RowKit
end
section
open Go.RowKit
def dB(t:ByteArray):Bool:=U8.utf t.data.toList
def chk(d:Nat)(x:V):Nat:=V.check dB d x
def eN(d:Nat)(xs:List V):Nat:=V.checkL dB d xs
theorem kB(d:Nat)(k i:Int)(b:Nat)(t:ByteArray)(xs:List V):chk d (.mk k i b t xs)=if 4<d then 62 else if V.ownB k i b t xs.length=false then 60 else if 1024<t.size then 2 else if 256<xs.length then 3 else if k=4∧dB t=false then 61 else eN (d+1) xs:=by
 unfold chk eN
 rw[V.check_mk]
 rfl
theorem iK(d:Nat):∀xs:List V,(∀j (h:j<xs.length),chk d xs[j]=0)->eN d xs=0
 | [],_=>by unfold eN;rw[V.checkL_nil]
 |x::r,h=>by
  have h0:=h 0 (by simp)
  have hr:=iK d r (fun j hj=>h (j+1) (by simpa using hj))
  unfold chk at h0
  unfold eN at hr ⊢
  simp only[List.getElem_cons_zero] at h0
  rw[V.checkL_cons,if_pos h0,hr]
theorem oK(d:Nat):∀(xs:List V) (j:Nat) (hj:j<xs.length),(∀m (h:m<xs.length),m<j->chk d xs[m]=0)->chk d xs[j]≠0->eN d xs=chk d xs[j]
 |x::r,0,_,_,hn=>by
  unfold chk at hn
  unfold eN chk
  simp only[List.getElem_cons_zero] at hn ⊢
  rw[V.checkL_cons,if_neg hn]
 |x::r,j+1,hj,h,hn=>by
  have h0:=h 0 (by simp) (by omega)
  have hr:=oK d r j (by simpa using hj) (fun m hm hmj=>by have:=h (m+1) (by simpa using hm) (by omega);simpa using this) (by simpa using hn)
  unfold chk at h0
  unfold eN at hr ⊢
  simp only[List.getElem_cons_zero] at h0
  rw[V.checkL_cons,if_pos h0,hr]
  rfl
end
section
theorem eI(b:Nat):aH (aH b)=aH b:=by
 unfold aH
 by_cases h:m7 b=true
 ·rw[if_pos h]
  kernel_rfl
 ·rw[if_neg h,if_neg h]
theorem same_iff:∀x y:V,V.same x y=true↔V.fix x=V.fix y:=by
 intro x
 refine V.ind (P:=fun x=>∀y,V.same x y=true↔V.fix x=V.fix y) ?_ x
 intro k i b t xs ih y
 have hL:∀(xs ys:List V),(∀x∈xs,∀y,V.same x y=true↔V.fix x=V.fix y)->(V.sameL xs ys=true↔xs.map V.fix=ys.map V.fix):=by
  intro xs
  induction xs with
  |nil=>intro ys _;cases ys <;> simp[V.sameL_nil,V.sameL_nc]
  |cons x r ihr=>
   intro ys hx
   cases ys with
   |nil=>simp[V.sameL_cn]
   |cons y s=>
    simp only[V.sameL_cons,Bool.and_eq_true,List.map_cons,List.cons.injEq]
    rw[hx x (by simp) y,ihr s (fun z hz=>hx z (by simp[hz]))]
 obtain⟨k',i',b',t',ys⟩:=y
 rw[V.same_mk,V.fix_mk,V.fix_mk,V.fixL_eq,V.fixL_eq]
 simp only[Bool.and_eq_true,beq_iff_eq,decide_eq_true_eq,V.mk.injEq]
 rw[hL xs ys ih]
 constructor
 ·rintro⟨⟨⟨⟨h1,h2⟩,h3⟩,h4⟩,h5⟩;exact⟨h1,h2,h4,h3,h5⟩
 ·rintro⟨h1,h2,h3,h4,h5⟩;exact⟨⟨⟨⟨h1,h2⟩,h4⟩,h3⟩,h5⟩
end
end Go.Proofs.YtceomhodhmcknaaGreatDoor

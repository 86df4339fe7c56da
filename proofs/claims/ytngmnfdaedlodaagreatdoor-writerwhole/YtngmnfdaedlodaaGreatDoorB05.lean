import Derived.Test.YtngmnfdaedlodaaGreatDoorB04
namespace Go.Proofs.YtngmnfdaedlodaaGreatDoor
open Go.Value renaming int->I
variable{m n:Nat}{xs:L8}
section
open Go.RowKit
def Leb.Putting(n:Nat)(xs:L8)(m:Nat):Prop:=xs.length<=9∧m<2*128 ^ (9-xs.length)∧Leb.put n=xs++Leb.putF (10-xs.length) m
theorem Leb.putting_start(h:n<18446744073709551616):Leb.Putting n [] n:=by
 have e:2*128 ^ 9=18446744073709551616:=by decide
 exact⟨by simp,by simpa[e] using h,rfl⟩
theorem Leb.putting_next(h:Leb.Putting n xs m)(J:127<m):Leb.Putting n (xs++[UInt8.ofNat (m % 128+128)]) (m / 128):=by
 obtain⟨D,o,A⟩:=h;have E:xs.length<=8:=by
  rcases Nat.lt_or_ge 8 xs.length with y | y
  ·have:9-xs.length=0:=(by omega);rw[this] at o;simp at o;omega
  ·exact y
 refine⟨by simp;omega,?_,?_⟩
 ·have e:9-xs.length=(9-(xs++[UInt8.ofNat (m % 128+128)]).length)+1:=by simp;omega
  rw[e,Nat.pow_succ] at o;rw[Nat.div_lt_iff_lt_mul (by omega)];omega
 ·have e:10-xs.length=(10-(xs++[UInt8.ofNat (m % 128+128)]).length)+1:=by simp;omega
  rw[A,e,Leb.putF,AF (by omega),AN];rfl
theorem Leb.putting_last(h:Leb.Putting n xs m)(D:m<=127):xs++[UInt8.ofNat m]=Leb.put n:=by
 obtain⟨y,A,o⟩:=h;have e:10-xs.length=(9-xs.length)+1:=by omega
 rw[o,e,Leb.putF,AG (by omega)]
end
section
open Go.RowKit
def ik(l:L8)(a:Int):Value:=.tuple #[I .u64 ((Leb.getAt l a).n:Nat),I .i64 (Leb.nextAt l a),I .i64 ((Leb.getAt l a).err:Nat)]
theorem jA(l:L8)(a:Int)(h:a<0∨(l.length:Int)<=a):ik l a=.tuple #[I .u64 0,I .i64 0,I .i64 30]:=by
 have e:Leb.getAt l a=⟨30,0,0⟩:=by
  unfold Leb.getAt;by_cases o:a<0
  ·rw[AG o]
  ·rw[AF o,List.drop_eq_nil_of_le (by omega)];rfl
 unfold ik Leb.nextAt;rw[e];rfl
theorem gG(l:L8)(a:Nat)(c:Nat)(o:c≠0)(h:Leb.get (l.drop a)=⟨c,0,0⟩):ik l a=.tuple #[I .u64 0,I .i64 0,I .i64 c]:=by
 have e:Leb.getAt l a=⟨c,0,0⟩:=by
  unfold Leb.getAt;rw[AF (by omega)];exact h
 unfold ik Leb.nextAt;rw[e,AF o];rfl
theorem qB(l:L8)(a n k:Nat)(h:Leb.get (l.drop a)=⟨0,n,k⟩):ik l a=.tuple #[I .u64 n,I .i64 ((a:Int)+k),I .i64 0]:=by
 have e:Leb.getAt l a=⟨0,n,k⟩:=by
  unfold Leb.getAt;rw[AF (by omega)];exact h
 unfold ik Leb.nextAt;rw[e,AG rfl];rfl
end
section
open Go.RowKit
theorem gu(t:ByteArray)(i:Nat)(h:i<t.size):t.data.toList[i]'(by simpa using h)=t[i]:=by rw[Array.getElem_toList];rfl
end
section
open Go.RowKit
end
section
open Go.RowKit
def dQ(t:ByteArray):Bool:=U8.utf t.data.toList
def chk(d:Nat)(x:V):Nat:=V.check dQ d x
def fC(d:Nat)(xs:List V):Nat:=V.checkL dQ d xs
theorem lV(d:Nat)(k i:Int)(b:Nat)(t:ByteArray)(xs:List V):chk d (.mk k i b t xs)=if 4<d then 62 else if V.ownB k i b t xs.length=false then 60 else if 1024<t.size then 2 else if 256<xs.length then 3 else if k=4∧dQ t=false then 61 else fC (d+1) xs:=by
 unfold chk fC;rw[V.check_mk];rfl
theorem jL(d:Nat):∀xs:List V,(∀j (h:j<xs.length),chk d xs[j]=0)->fC d xs=0
 | [],_=>by unfold fC;rw[V.checkL_nil]
 |x::r,h=>by
  have o:=h 0 (by simp);have y:=jL d r (fun j A=>h (j+1) (by simpa using A));unfold chk at o;unfold fC at y ⊢;simp only[List.getElem_cons_zero] at o;rw[V.checkL_cons,AG o,y]
theorem qG(d:Nat):∀(xs:List V) (j:Nat) (y:j<xs.length),(∀m (h:m<xs.length),m<j->chk d xs[m]=0)->chk d xs[j]≠0->fC d xs=chk d xs[j]
 |x::r,0,_,_,hn=>by
  unfold chk at hn;unfold fC chk;simp only[List.getElem_cons_zero] at hn ⊢;rw[V.checkL_cons,AF hn]
 |x::r,j+1,y,h,hn=>by
  have o:=h 0 (by simp) (by omega);have A:=qG d r j (by simpa using y) (fun m D E=>by have:=h (m+1) (by simpa using D) (by omega);simpa using this) (by simpa using hn);unfold chk at o;unfold fC at A ⊢;simp only[List.getElem_cons_zero] at o;rw[V.checkL_cons,AG o,A];rfl
end
section
theorem fu(b:Nat):aH (aH b)=aH b:=by
 unfold aH;by_cases h:oQ b=true
 ·rw[AG h]
  kernel_rfl
 ·rw[AF h,AF h]
theorem same_iff:∀x o:V,V.same x o=true↔V.fix x=V.fix o:=by
 intro x;refine V.ind (P:=fun x=>∀o,V.same x o=true↔V.fix x=V.fix o) ?_ x;intro k i b t xs S o;have M:∀(xs y:List V),(∀x∈xs,∀o,V.same x o=true↔V.fix x=V.fix o)->(V.sameL xs y=true↔xs.map V.fix=y.map V.fix):=by
  intro xs;induction xs with
  |nil=>intro y _;cases y <;> simp[V.sameL_nil,V.sameL_nc]
  |cons x r ihr=>
   intro y L;cases y with
   |nil=>simp[V.sameL_cn]
   |cons o s=>
    simp only[V.sameL_cons,Bool.and_eq_true,List.map_cons,List.cons.injEq];rw[L x (by simp) o,ihr s (fun z Q=>L z (by simp[Q]))]
 obtain⟨k',Z,X,t',y⟩:=o;rw[V.same_mk,V.fix_mk,V.fix_mk,V.fixL_eq,V.fixL_eq];simp only[Bool.and_eq_true,beq_iff_eq,decide_eq_true_eq,V.mk.injEq];rw[M xs y S];constructor
 ·rintro⟨⟨⟨⟨A,D⟩,E⟩,J⟩,K⟩;exact⟨A,D,J,E,K⟩
 ·rintro⟨A,D,E,J,K⟩;exact⟨⟨⟨⟨A,D⟩,J⟩,E⟩,K⟩
end
end Go.Proofs.YtngmnfdaedlodaaGreatDoor

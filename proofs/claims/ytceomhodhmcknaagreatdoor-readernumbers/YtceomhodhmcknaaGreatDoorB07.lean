import Derived.Test.YtceomhodhmcknaaGreatDoorB06
namespace Go.Proofs.YtceomhodhmcknaaGreatDoor
variable{t:ByteArray}
section
open Go.RowKit
end
section
open Go.RowKit
theorem jA{l:L8}(h:0<l.length):l.headD 0=l[0]:=by
 cases l with
 |nil=>simp at h
 |cons a r=>rfl
theorem iw(h:t.size<1∨16<t.size):Sch.name t=false:=by
 have hs:t.data.toList.length=t.size:=by rw[Array.length_toList];rfl
 unfold Sch.name Sch.nameL
 rw[decide_eq_false (by omega)]
 rfl
theorem pE(h:0<t.size)(hc:Sch.low t[0]=false):Sch.name t=false:=by
 have hs:t.data.toList.length=t.size:=by rw[Array.length_toList];rfl
 unfold Sch.name Sch.nameL
 have e:t.data.toList.headD 0=t[0]:=by
  rw[<-fj t 0 h]
  exact jA (by omega)
 rw[e,hc,Bool.and_false,Bool.false_and]
theorem rA(j:Nat)(h:j<t.size)(hc:Sch.ch t[j]=false):Sch.name t=false:=by
 have hs:t.data.toList.length=t.size:=by rw[Array.length_toList];rfl
 unfold Sch.name Sch.nameL
 have:t.data.toList.all Sch.ch=false:=by
  rw[List.all_eq_false]
  refine⟨t[j],?_,by simp[hc]⟩
  rw[<-fj t j h]
  exact List.getElem_mem _
 rw[this,Bool.and_false]
theorem pF(h1:1<=t.size)(h2:t.size<=16)(h3:Sch.low (t[0]'(by omega))=true)(h4:∀j (h:j<t.size),Sch.ch t[j]=true):Sch.name t=true:=by
 have hs:t.data.toList.length=t.size:=by rw[Array.length_toList];rfl
 unfold Sch.name Sch.nameL
 have e:t.data.toList.headD 0=t[0]'(by omega):=by
  rw[<-fj t 0 (by omega)]
  exact jA (by omega)
 have:t.data.toList.all Sch.ch=true:=by
  rw[List.all_eq_true]
  intro x hx
  obtain⟨j,hj,rfl⟩:=List.getElem_of_mem hx
  rw[fj t j (by omega)]
  exact h4 j (by omega)
 rw[e,h3,this,decide_eq_true (by omega)]
 rfl
end
section
open Go.RowKit
def nB(r:Option Nat):Value:=match r with
 |some k=>.tuple #[.int .i64 k,.bool true]
 |none=>.tuple #[.int .i64 0,.bool false]
theorem p6(n:ByteArray)(s:List Col)(j:Nat)(hj:j<s.length):Sch.find n (s.drop j) j=if s[j].name=n then some j else Sch.find n (s.drop (j+1)) (j+1):=by
 rw[List.drop_eq_getElem_cons hj,Sch.find]
end
section
open Go.RowKit
end
section
theorem lx:∀(s t:List Col),s.length≠t.length->Sch.same s t=false
 | [],[],h=>absurd rfl h
 | [],_::_,_=>rfl
 |_::_,[],_=>rfl
 |c::s,d::t,h=>by rw[Sch.same,lx s t (by simpa using h),Bool.and_false]
theorem ly:∀(s t:List Col) (j:Nat) (h1:j<s.length) (h2:j<t.length),Sch.colSame s[j] t[j]=false->Sch.same s t=false
 |c::s,d::t,0,_,_,h=>by rw[Sch.same];simp at h;rw[h,Bool.false_and]
 |c::s,d::t,j+1,h1,h2,h=>by rw[Sch.same,ly s t j (by simpa using h1) (by simpa using h2) (by simpa using h),Bool.and_false]
theorem jn:∀(s t:List Col),s.length=t.length->(∀j (h1:j<s.length) (h2:j<t.length),Sch.colSame s[j] t[j]=true)->Sch.same s t=true
 | [],[],_,_=>rfl
 | [],_::_,h,_=>by simp at h
 |_::_,[],h,_=>by simp at h
 |c::s,d::t,h,ha=>by
  rw[Sch.same,jn s t (by simpa using h) (fun j h1 h2=>by have:=ha (j+1) (by simpa using h1) (by simpa using h2);simpa using this)]
  have:=ha 0 (by simp) (by simp)
  simp at this
  rw[this];rfl
end
end Go.Proofs.YtceomhodhmcknaaGreatDoor

import Derived.Test.YtngmnfdaedlodaaGreatDoorB06
namespace Go.Proofs.YtngmnfdaedlodaaGreatDoor
variable{t:ByteArray}
section
open Go.RowKit
end
section
open Go.RowKit
theorem kN{l:L8}(h:0<l.length):l.headD 0=l[0]:=by
 cases l with
 |nil=>simp at h
 |cons a r=>rfl
theorem jv(h:t.size<1∨16<t.size):Sch.name t=false:=by
 have o:t.data.toList.length=t.size:=by rw[Array.length_toList];rfl
 unfold Sch.name Sch.nameL;rw[AP (by omega)];rfl
theorem ry(h:0<t.size)(o:Sch.low t[0]=false):Sch.name t=false:=by
 have y:t.data.toList.length=t.size:=by rw[Array.length_toList];rfl
 unfold Sch.name Sch.nameL;have e:t.data.toList.headD 0=t[0]:=by
  rw[<-gu t 0 h];exact kN (by omega)
 rw[e,o,Bool.and_false,Bool.false_and]
theorem tN(j:Nat)(h:j<t.size)(o:Sch.ch t[j]=false):Sch.name t=false:=by
 have y:t.data.toList.length=t.size:=by rw[Array.length_toList];rfl
 unfold Sch.name Sch.nameL;have:t.data.toList.all Sch.ch=false:=by
  rw[List.all_eq_false];refine⟨t[j],?_,by simp[o]⟩;rw[<-gu t j h];exact Aw _
 rw[this,Bool.and_false]
theorem rz(D:1<=t.size)(E:t.size<=16)(o:Sch.low (t[0]'(by omega))=true)(y:∀j (h:j<t.size),Sch.ch t[j]=true):Sch.name t=true:=by
 have K:t.data.toList.length=t.size:=by rw[Array.length_toList];rfl
 unfold Sch.name Sch.nameL;have e:t.data.toList.headD 0=t[0]'(by omega):=by
  rw[<-gu t 0 (by omega)];exact kN (by omega)
 have:t.data.toList.all Sch.ch=true:=by
  rw[List.all_eq_true];intro x A;obtain⟨j,J,rfl⟩:=List.getElem_of_mem A;rw[gu t j (by omega)];exact y j (by omega)
 rw[e,o,this,AR (by omega)];rfl
end
section
open Go.RowKit
end
section
open Go.RowKit
end
section
theorem mO:∀(s t:List Col),s.length≠t.length->Sch.same s t=false
 | [],[],h=>absurd rfl h
 | [],_::_,_=>rfl
 |_::_,[],_=>rfl
 |c::s,d::t,h=>by rw[Sch.same,mO s t (by simpa using h),Bool.and_false]
theorem mP:∀(s t:List Col) (j:Nat) (o:j<s.length) (y:j<t.length),Sch.colSame s[j] t[j]=false->Sch.same s t=false
 |c::s,d::t,0,_,_,h=>by rw[Sch.same];simp at h;rw[h,Bool.false_and]
 |c::s,d::t,j+1,o,y,h=>by rw[Sch.same,mP s t j (by simpa using o) (by simpa using y) (by simpa using h),Bool.and_false]
theorem kz:∀(s t:List Col),s.length=t.length->(∀j (o:j<s.length) (y:j<t.length),Sch.colSame s[j] t[j]=true)->Sch.same s t=true
 | [],[],_,_=>rfl
 | [],_::_,h,_=>by simp at h
 |_::_,[],h,_=>by simp at h
 |c::s,d::t,h,ha=>by
  rw[Sch.same,kz s t (by simpa using h) (fun j o y=>by have:=ha (j+1) (by simpa using o) (by simpa using y);simpa using this)];have:=ha 0 (by simp) (by simp);simp at this;rw[this];rfl
end
end Go.Proofs.YtngmnfdaedlodaaGreatDoor

import Derived.Test.YtbahfgdbjgkklaaGreatDoorB06
set_option maxRecDepth 100000
set_option maxHeartbeats 1000000
namespace Go.Proofs.YtbahfgdbjgkklaaGreatDoor
variable{t:ByteArray}
section
open Go.RowKit
theorem mi:∀(x O:Ty) (w:World) (u v:AV),aH w u x->aH w v O->Calls Tryz.prog 59 #[.agg u,.agg v] w fun e w'=>e=.returned (.bool (Ty.same x O))∧Below w.1.size w w':=by
 intro x;refine Ty.ind (P:=fun x=>∀(O:Ty) (w:World) (u v:AV),aH w u x->aH w v O->Calls Tryz.prog 59 #[.agg u,.agg v] w fun e w'=>e=.returned (.bool (Ty.same x O))∧Below w.1.size w w') ?_ x;rintro k xs ab ⟨k',o⟩ w u v bT bX;obtain⟨p,c,rfl,cs,cr,Y⟩:=bT.open;obtain⟨q,d,rfl,cu,ct,Z⟩:=bX.open;unfold an;obtain⟨z,W⟩:∃z,z=(w.alloc (.cells #[.int .i64 k,.slice p xs.length c] 34)).alloc (.cells #[.int .i64 k',.slice q o.length d] 34):=⟨_,rfl⟩;have Q:Hid (Below w.1.size w z):=by rw[W];exact gQy.alloc (by simp) _
 have a9:Hid (z.cell? ⟨w.1.size,1,none⟩=some (.slice p xs.length c)∧z.cell? ⟨w.1.size+1,1,none⟩=some (.slice q o.length d)):=by rw[W];exact⟨by simp,by simp⟩
 have V:=gQq W;clear W bT bX;by_cases y:¬k=k'
 ·have cc:=aQ y;have I:Hid (Ty.same (.mk k xs) (.mk k' o)=false):=by show _=_;simp[Ty.same_mk,y]
  clear ab Y Z y;go_enter Tryz.func59,Tryz.ntmps59;go_wp2;rw[<-V.out];go_ret;exact⟨by rw[I.out];rfl,Q.out⟩
 replace y:k=k':=Classical.not_not.1 y
 have cc:=bo y;by_cases J:¬xs.length=o.length
 ·have cd:((xs.length:Int) != (o.length:Int))=true:=aQ (by omega);have I:Hid (Ty.same (.mk k xs) (.mk k' o)=false):=by show _=_;simp[Ty.same_mk,Ty.sameL_ne xs o J]
  clear ab Y Z y J;go_enter Tryz.func59,Tryz.ntmps59;go_wp2;rw[<-V.out];go_ret;exact⟨by rw[I.out];rfl,Q.out⟩
 replace J:xs.length=o.length:=Classical.not_not.1 J
 have cd:((xs.length:Int) != (o.length:Int))=false:=bo (by omega);have I:Hid (Ty.same (.mk k xs) (.mk k' o)=Ty.sameL xs o):=by show _=_;simp[Ty.same_mk,y]
 have ca:Hid (∀j (br:j<xs.length),∃M,aH w M xs[j]∧fz w p j M):=Y;have cb:Hid (∀j (br:j<o.length),∃M,aH w M o[j]∧fz w q j M):=Z;have b8:=gQq ab;have a6:=gQq J;clear ab Y Z y J;go_enter Tryz.func59,Tryz.ntmps59;go_wp2_with fail;rw[<-V.out];clear V;go_loopw [5,6] (fun a5 _ wr=>∃j:Nat,j<=xs.length∧a5=.int .i64 j∧Hid (Below z.1.size z wr∧∀m (y:m<xs.length) (L:m<o.length),m<j->Ty.same xs[m] o[m]=true)) (fun a5 _ _=>xs.length-(intOf a5).toNat);case atStart=>exact⟨0,by omega,rfl,gQz,fun m _ _ h=>by omega⟩
 case round=>
  obtain⟨j,br,rfl,D⟩:=hrel;have K:Below w.1.size w wr:=Q.out.trans (D.out.1.mono Q.out.size);have b6:wr.cell? ⟨w.1.size,1,none⟩=some (.slice p xs.length c):=ae D.out.1 a9.out.1;have b7:wr.cell? ⟨w.1.size+1,1,none⟩=some (.slice q o.length d):=ae D.out.1 a9.out.2;by_cases X:j<xs.length
  ·have bs:j<o.length:=(by have:=a6.out;omega);obtain⟨cv,bN,bp⟩:=ca.out j X;obtain⟨cw,bO,bq⟩:=cb.out j bs;obtain⟨bx,a3,b0,b4,b2,bj,rfl,_,rfl,bb,bc⟩:=(bp.on K).lies;obtain⟨a1,a4,b1,b5,b3,bk,rfl,_,rfl,be,bi⟩:=(bq.on K).lies
   have U:Hid (∀w',Below w.1.size w w'->Calls Tryz.prog 59 #[.agg #[.int .i64 b0,.slice b4 b2 bj],.agg #[.int .i64 b1,.slice b5 b3 bk]] w' fun e cf=>e=.returned (.bool (Ty.same xs[j] o[j]))∧Below w'.1.size w' cf) :=
    fun w' hb=>b8.out _ (List.getElem_mem X) o[j] w' _ _ (bN.on hb) (bO.on hb)
   have aj:=gQq K;have a7:=gQq D.out.1;have ah:=gQq D.out.2;have cn:(j:Int)<(xs.length:Int):=(by omega);have co:(j:Int)<(o.length:Int):=(by omega);obtain⟨r,a2⟩:∃r,r=Ty.same xs[j] o[j]:=⟨_,rfl⟩;rw[<-a2] at U;have a8:=gQq a2;clear bN bO bp bq K D a2;go_wp2_with fail
   go_region_held3 (fun w'=>w'.cell? ⟨bx,a3+j*2,none⟩=some (.int .i64 b0)∧w'.cell? ⟨bx,a3+j*2+1,none⟩=some (.slice b4 b2 bj)∧w'.cell? ⟨a1,a4+j*2,none⟩=some (.int .i64 b1)∧w'.cell? ⟨a1,a4+j*2+1,none⟩=some (.slice b5 b3 bk)∧w'.cell? ⟨w.1.size,1,none⟩=some (.slice (some ⟨bx,a3,none⟩) xs.length c)∧w'.cell? ⟨w.1.size+1,1,none⟩=some (.slice (some ⟨a1,a4,none⟩) o.length d)) (go_keep) (first|(go_at_call 59;refine(U.out _ (below_drewN aj.out _)).mono ?_;rintro e w4 ⟨rfl,bn⟩;have E:=dz (w:=wr) bn (by rfl) (by rfl) (by rfl) (by rfl);have z3:=ae E bb;have z4:=ae E bc;have cg:=ae E be;have ci:=ae E bi;have cj:=ae E b6;have ck:=ae E b7;have S:=gQq E;clear bn E))
   clear z3 z4 cg ci cj ck bb bc be bi b6 b7;cases r with
   |true=>
    have b9:Hid (Below z.1.size z w4∧∀m (y:m<xs.length) (L:m<o.length),m<j+1->Ty.same xs[m] o[m]=true):=by
     refine⟨a7.out.trans (S.out.mono a7.out.size),fun m y L cq=>?_⟩;by_cases ce:m=j
     ·subst ce;exact a8.out.symm
     ·exact ah.out m y L (by omega)
    clear S ah U;go_wp2;go_roundw;case rel=>exact⟨j+1,by omega,by go_num,b9⟩
    case measure=>simp[intOf];omega
   |false=>
    have a0:Hid (Ty.sameL xs o=false):=Ty.sameL_at xs o j X bs a8.out.symm;have ak:=gQq (aj.out.trans (S.out.mono aj.out.size));clear S ah U;go_wp2;go_ret;exact⟨by rw[I.out,a0.out];rfl,ak.out⟩
  ·have a0:Hid (Ty.sameL xs o=true):=Ty.sameL_all xs o a6.out (fun m y L=>D.out.2 m y L (by omega));have ak:=gQq K;have cp:¬(j:Int)<(xs.length:Int):=(by omega);clear D K X;go_wp2;go_ret;exact⟨by rw[I.out,a0.out];rfl,ak.out⟩
end
section
open Go.RowKit
theorem lJ{l:L8}(h:0<l.length):l.headD 0=l[0]:=by
 cases l with
 |nil=>simp at h
 |cons a r=>rfl
theorem fo(h:t.size<1∨16<t.size):Sch.name t=false:=by
 have o:t.data.toList.length=t.size:=by rw[Array.length_toList];rfl
 unfold Sch.name Sch.nameL;rw[decide_eq_false (by omega)];rfl
theorem lD(h:0<t.size)(o:Sch.low t[0]=false):Sch.name t=false:=by
 have y:t.data.toList.length=t.size:=by rw[Array.length_toList];rfl
 unfold Sch.name Sch.nameL;have e:t.data.toList.headD 0=t[0]:=by
  rw[<-bM t 0 h];exact lJ (by omega)
 rw[e,o,Bool.and_false,Bool.false_and]
theorem nY(j:Nat)(h:j<t.size)(o:Sch.ch t[j]=false):Sch.name t=false:=by
 have y:t.data.toList.length=t.size:=by rw[Array.length_toList];rfl
 unfold Sch.name Sch.nameL;have:t.data.toList.all Sch.ch=false:=by
  rw[List.all_eq_false];refine⟨t[j],?_,by simp[o]⟩;rw[<-bM t j h];exact List.getElem_mem _
 rw[this,Bool.and_false]
theorem lE(D:1<=t.size)(E:t.size<=16)(o:Sch.low (t[0]'(by omega))=true)(y:∀j (h:j<t.size),Sch.ch t[j]=true):Sch.name t=true:=by
 have J:t.data.toList.length=t.size:=by rw[Array.length_toList];rfl
 unfold Sch.name Sch.nameL;have e:t.data.toList.headD 0=t[0]'(by omega):=by
  rw[<-bM t 0 (by omega)];exact lJ (by omega)
 have:t.data.toList.all Sch.ch=true:=by
  rw[List.all_eq_true];intro x z;obtain⟨j,I,rfl⟩:=List.getElem_of_mem z;rw[bM t j (by omega)];exact y j (by omega)
 rw[e,o,this,decide_eq_true (by omega)];rfl
theorem tP(t:ByteArray)(w:World):Calls Tryz.prog 112 #[.string t] w fun e w'=>e=.returned (.bool (Sch.name t))∧w'=w:=by
 by_cases O:t.size<1
 ·have Z:(t.size:Int)<1:=by omega
  have y:=gQq (fo (t:=t) (.inl O));clear O;go_enter Tryz.func112,Tryz.ntmps112;go_wp2;go_ret;exact⟨by rw[y.out];rfl,rfl⟩
 have Z:¬(t.size:Int)<1:=by omega
 by_cases V:16<t.size
 ·have ab:(16:Int)<(t.size:Int):=by omega
  have y:=gQq (fo (t:=t) (.inr V));clear O V;go_enter Tryz.func112,Tryz.ntmps112;go_wp2;go_ret;exact⟨by rw[y.out];rfl,rfl⟩
 have ab:¬(16:Int)<(t.size:Int):=by omega
 have ah:0<t.size:=by omega
 have a0:(0:Int)<(t.size:Int):=by omega
 by_cases D:Sch.low t[0]=false
 ·have y:=gQq (lD ah D);have J:t[0].toNat<97∨122<t[0].toNat:=by
   unfold Sch.low at D;rw[decide_eq_false_iff_not] at D;omega
  clear D O V;rcases J with J | J
  ·have M:(t[0].toNat:Int)<97:=(by omega);go_enter Tryz.func112,Tryz.ntmps112;go_wp2;go_ret;exact⟨by rw[y.out];rfl,rfl⟩
  ·have M:¬(t[0].toNat:Int)<97:=(by omega);have U:(122:Int)<(t[0].toNat:Int):=(by omega);go_enter Tryz.func112,Tryz.ntmps112;go_wp2;go_ret;exact⟨by rw[y.out];rfl,rfl⟩
 have I:Sch.low t[0]=true:=by simpa using D
 have Q:=gQq I;have J:97<=t[0].toNat∧t[0].toNat<=122:=by
  unfold Sch.low at I;rw[decide_eq_true_eq] at I;exact I
 have M:¬(t[0].toNat:Int)<97:=by omega
 have U:¬(122:Int)<(t[0].toNat:Int):=by omega
 clear D I J;go_enter Tryz.func112,Tryz.ntmps112;go_wp2;go_loop [3,4] (fun Y _=>∃a:Nat,a<=t.size∧Y=.int .i64 a∧Hid (∀j (h:j<t.size),j<a->Sch.ch t[j]=true)) (fun Y _=>t.size-(intOf Y).toNat);case atStart=>exact⟨0,by omega,rfl,fun j _ h=>by omega⟩
 case round=>
  obtain⟨a,a1,rfl,E⟩:=hrel;by_cases ak:a<t.size
  ·have a5:(a:Int)<(t.size:Int):=(by omega);have a2:=t[a].toNat_lt;by_cases z:Sch.ch t[a]=true
   ·have S:Hid (∀j (h:j<t.size),j<a+1->Sch.ch t[j]=true):=fun j h a3=>by
     by_cases aj:j=a
     ·subst aj;exact z
     ·exact E.out j h (by omega)
    have o:(97<=t[a].toNat∧t[a].toNat<=122)∨(48<=t[a].toNat∧t[a].toNat<=57)∨t[a].toNat=95:=by
     unfold Sch.ch Sch.low at z;simp only[Bool.or_eq_true,decide_eq_true_eq] at z;omega
    clear E z M U Q;rcases o with o | o | o
    ·have K:¬(t[a].toNat:Int)<97:=(by omega);have L:¬(122:Int)<(t[a].toNat:Int):=(by omega);clear o;go_wp2;go_round;case rel=>exact⟨a+1,by omega,by go_num,S⟩
     case measure=>simp[intOf];omega
    ·have K:(t[a].toNat:Int)<97:=(by omega);have L:¬(t[a].toNat:Int)<48:=(by omega);have W:¬(57:Int)<(t[a].toNat:Int):=(by omega);clear o;go_wp2;go_round;case rel=>exact⟨a+1,by omega,by go_num,S⟩
     case measure=>simp[intOf];omega
    ·have K:(t[a].toNat:Int)<97:=(by omega);have L:¬(t[a].toNat:Int)<48:=(by omega);have W:(57:Int)<(t[a].toNat:Int):=(by omega);have X:((t[a].toNat:Int) != 95)=false:=(by rw[o];rfl);clear o;go_wp2;go_round;case rel=>exact⟨a+1,by omega,by go_num,S⟩
     case measure=>simp[intOf];omega
   ·have y:=gQq (nY a ak (by simpa using z));have o:t[a].toNat<48∨(57<t[a].toNat∧t[a].toNat<97∧t[a].toNat≠95)∨122<t[a].toNat:=by
     unfold Sch.ch Sch.low at z;simp only[Bool.or_eq_true,decide_eq_true_eq] at z;omega
    clear E z M U Q;rcases o with o | o | o
    ·have K:(t[a].toNat:Int)<97:=(by omega);have L:(t[a].toNat:Int)<48:=(by omega);have X:((t[a].toNat:Int) != 95)=true:=(by rw[bne_iff_ne];omega);clear o;go_wp2;go_ret;exact⟨by rw[y.out];rfl,rfl⟩
    ·have K:(t[a].toNat:Int)<97:=(by omega);have L:¬(t[a].toNat:Int)<48:=(by omega);have W:(57:Int)<(t[a].toNat:Int):=(by omega);have X:((t[a].toNat:Int) != 95)=true:=(by rw[bne_iff_ne];omega);clear o;go_wp2;go_ret;exact⟨by rw[y.out];rfl,rfl⟩
    ·have K:¬(t[a].toNat:Int)<97:=(by omega);have a6:(122:Int)<(t[a].toNat:Int):=(by omega);have L:¬(t[a].toNat:Int)<48:=(by omega);have W:(57:Int)<(t[a].toNat:Int):=(by omega);have X:((t[a].toNat:Int) != 95)=true:=(by rw[bne_iff_ne];omega);clear o;go_wp2;go_ret;exact⟨by rw[y.out];rfl,rfl⟩
  ·have y:=gQq (lE (t:=t) (by omega) (by omega) Q.out (fun j h=>E.out j h (by omega)));have a4:¬(a:Int)<(t.size:Int):=(by omega);clear E;go_wp2;go_ret;exact⟨by rw[y.out];rfl,rfl⟩
end
section
open Go.RowKit
def km(r:Option Nat):Value:=match r with
 |some k=>.tuple #[.int .i64 k,.bool true]
 |none=>.tuple #[.int .i64 0,.bool false]
theorem sN(n:ByteArray)(s:List Col)(j:Nat)(o:j<s.length):Sch.find n (s.drop j) j=if s[j].name=n then some j else Sch.find n (s.drop (j+1)) (j+1):=by
 rw[List.drop_eq_getElem_cons o,Sch.find]
theorem tQ(s:List Col)(t:ByteArray)(p:OA)(c:Nat)(w:World)(ah:s.length*120<=140737488351232)(Q:et w p s):Calls Tryz.prog 132 #[.agg #[.slice p s.length c],.string t] w fun e w'=>e=.returned (km (Sch.find t s 0))∧Below w.1.size w w':=by
 have V:=gQq Q;clear Q;obtain⟨D,I⟩:∃D,D=w.alloc (.cells #[.slice p s.length c] 29):=⟨_,rfl⟩;have J:Hid (Below w.1.size w D):=by rw[I];exact gQy
 have a9:D.cell? ⟨w.1.size,0,none⟩=some (.slice p s.length c):=by rw[I];simp
 have U:=gQq I;obtain⟨R,L⟩:∃R,R=Sch.find t s 0:=⟨_,rfl⟩;have S:=gQq L;rw[<-L];clear I L;go_enter Tryz.func132,Tryz.ntmps132;go_wp2_with fail;rw[<-U.out];go_loopw [6] (fun M wr=>∃j:Nat,j<=s.length∧M=.int .i64 j∧wr=D∧Hid (R=Sch.find t (s.drop j) j)) (fun M _=>s.length-(intOf M).toNat);case atStart=>exact⟨0,by omega,rfl,rfl,S.out⟩
 case round=>
  obtain⟨j,Y,rfl,rfl,z⟩:=hrel;by_cases O:j<s.length
  ·obtain⟨bx,aj,k,a1,a0,ak,a5,a4,a2,a8,a7,a6,a3,rfl,_,K,-⟩:=(V.out.on J.out).at j O;have X:=K.1;have Z:(j:Int)<(s.length:Int):=(by omega);have E:=gQq (z.out.trans (sN t s j O));by_cases o:s[j].name=t
   ·have g:(s[j].name.toList==t.toList)=true:=(by rw[dA,decide_eq_true o]);have y:Hid (km R=.tuple #[.int .i64 j,.bool true]):=(by show _=_;rw[E.out,if_pos o];rfl);generalize s[j].name=W at *
    clear z E K o;go_wp2;go_ret2;exact⟨by rw[y.out];rfl,J.out⟩
   ·have g:(s[j].name.toList==t.toList)=false:=(by rw[dA,decide_eq_false o]);have y:Hid (R=Sch.find t (s.drop (j+1)) (j+1)):=(by show _=_;rw[E.out,if_neg o]);generalize s[j].name=W at *
    clear z E K o;go_wp2;go_roundw;case rel=>exact⟨j+1,by omega,by go_num,trivial,y⟩
    case measure=>simp[intOf];omega
  ·have ab:¬(j:Int)<(s.length:Int):=(by omega);have y:Hid (km R=.tuple #[.int .i64 0,.bool false]):=(by show _=_;rw[z.out,List.drop_eq_nil_of_le (by omega)];rfl);clear z;go_wp2;go_ret2;exact⟨by rw[y.out];rfl,J.out⟩
end
section
open Go.RowKit
end
section
theorem jM:∀(s t:List Col),s.length≠t.length->Sch.same s t=false
 | [],[],h=>absurd rfl h
 | [],_::_,_=>rfl
 |_::_,[],_=>rfl
 |c::s,d::t,h=>by rw[Sch.same,jM s t (by simpa using h),Bool.and_false]
theorem jN:∀(s t:List Col) (j:Nat) (o:j<s.length) (y:j<t.length),Sch.colSame s[j] t[j]=false->Sch.same s t=false
 |c::s,d::t,0,_,_,h=>by rw[Sch.same];simp at h;rw[h,Bool.false_and]
 |c::s,d::t,j+1,o,y,h=>by rw[Sch.same,jN s t j (by simpa using o) (by simpa using y) (by simpa using h),Bool.and_false]
theorem iC:∀(s t:List Col),s.length=t.length->(∀j (o:j<s.length) (y:j<t.length),Sch.colSame s[j] t[j]=true)->Sch.same s t=true
 | [],[],_,_=>rfl
 | [],_::_,h,_=>by simp at h
 |_::_,[],h,_=>by simp at h
 |c::s,d::t,h,ha=>by
  rw[Sch.same,iC s t (by simpa using h) (fun j o y=>by have:=ha (j+1) (by simpa using o) (by simpa using y);simpa using this)];have:=ha 0 (by simp) (by simp);simp at this;rw[this];rfl
end
end Go.Proofs.YtbahfgdbjgkklaaGreatDoor

import Derived.Test.YtdgacombdcajmaaGreatDoorB06
set_option maxRecDepth 100000
set_option maxHeartbeats 400000
namespace Go.Proofs.YtdgacombdcajmaaGreatDoor
section
open Go.RowKit
theorem k7:∀(x y:Ty) (w:World) (u v:AV),aF w u x->aF w v y->Calls Tryz.prog 27 #[.agg u,.agg v] w fun e w'=>e=.returned (.bool (Ty.same x y))∧Below w.1.size w w':=by
 intro x
 refine Ty.ind (P:=fun x=>∀(y:Ty) (w:World) (u v:AV),aF w u x->aF w v y->Calls Tryz.prog 27 #[.agg u,.agg v] w fun e w'=>e=.returned (.bool (Ty.same x y))∧Below w.1.size w w') ?_ x
 rintro k xs ih ⟨k',ys⟩ w u v hx hy
 obtain⟨p,c,rfl,hxl,hxc,hxi⟩:=hx.open
 obtain⟨q,d,rfl,hyl,hyc,hyi⟩:=hy.open
 unfold ar
 obtain⟨W0,hW0⟩:∃W0,W0=(w.alloc (.cells #[.int .i64 k,.slice p xs.length c] 72)).alloc (.cells #[.int .i64 k',.slice q ys.length d] 72):=⟨_,rfl⟩
 have HB0:Hid (Below w.1.size w W0):=by rw[hW0];exact yY.alloc (by simp) _
 have HY:Hid (W0.cell? ⟨w.1.size,1,none⟩=some (.slice p xs.length c)∧W0.cell? ⟨w.1.size+1,1,none⟩=some (.slice q ys.length d)):=by rw[hW0];exact⟨by simp,by simp⟩
 have HW0:=yQ hW0
 clear hW0 hx hy
 by_cases h1:¬k=k'
 ·have g1:=aT h1
  have HE:Hid (Ty.same (.mk k xs) (.mk k' ys)=false):=by show _=_;simp[Ty.same_mk,h1]
  clear ih hxi hyi h1
  go_enter Tryz.func27,Tryz.ntmps27
  go_wp2
  rw[<-HW0.out]
  go_ret
  exact⟨by rw[HE.out];rfl,HB0.out⟩
 replace h1:k=k':=Classical.not_not.1 h1
 have g1:=bd h1
 by_cases h5:¬xs.length=ys.length
 ·have g5:((xs.length:Int) != (ys.length:Int))=true:=aT (by omega)
  have HE:Hid (Ty.same (.mk k xs) (.mk k' ys)=false):=by show _=_;simp[Ty.same_mk,Ty.sameL_ne xs ys h5]
  clear ih hxi hyi h1 h5
  go_enter Tryz.func27,Tryz.ntmps27
  go_wp2
  rw[<-HW0.out]
  go_ret
  exact⟨by rw[HE.out];rfl,HB0.out⟩
 replace h5:xs.length=ys.length:=Classical.not_not.1 h5
 have g5:((xs.length:Int) != (ys.length:Int))=false:=bd (by omega)
 have HE:Hid (Ty.same (.mk k xs) (.mk k' ys)=Ty.sameL xs ys):=by show _=_;simp[Ty.same_mk,h1]
 have HX:Hid (∀j (hj:j<xs.length),∃u',aF w u' xs[j]∧fC w p j u'):=hxi
 have HY2:Hid (∀j (hj:j<ys.length),∃u',aF w u' ys[j]∧fC w q j u'):=hyi
 have HIH:=yQ ih
 have H5:=yQ h5
 clear ih hxi hyi h1 h5
 go_enter Tryz.func27,Tryz.ntmps27
 go_wp2_with fail
 rw[<-HW0.out]
 clear HW0
 go_loopw [5,6] (fun v5 _ wr=>∃j:Nat,j<=xs.length∧v5=.int .i64 j∧Hid (Below W0.1.size W0 wr∧∀m (h1:m<xs.length) (h2:m<ys.length),m<j->Ty.same xs[m] ys[m]=true)) (fun v5 _ _=>xs.length-(intOf v5).toNat)
 case atStart=>exact⟨0,by omega,rfl,yZ,fun m _ _ h=>by omega⟩
 case round=>
  obtain⟨j,hj,rfl,HL⟩:=hrel
  have hbw:Below w.1.size w wr:=HB0.out.trans (HL.out.1.mono HB0.out.size)
  have y1:wr.cell? ⟨w.1.size,1,none⟩=some (.slice p xs.length c):=ae HL.out.1 HY.out.1
  have y2:wr.cell? ⟨w.1.size+1,1,none⟩=some (.slice q ys.length d):=ae HL.out.1 HY.out.2
  by_cases hlt:j<xs.length
  ·have hlt2:j<ys.length:=by have:=H5.out;omega
   obtain⟨ux,hvx,hix⟩:=HX.out j hlt
   obtain⟨uy,hvy,hiy⟩:=HY2.out j hlt2
   obtain⟨bx,ox,kx,qx,nx,cx,rfl,_,rfl,a0,a1⟩:=(hix.on hbw).lies
   obtain⟨by',oy,ky,qy,ny,cy,rfl,_,rfl,b0,b1⟩:=(hiy.on hbw).lies
   have HC:Hid (∀w',Below w.1.size w w'->Calls Tryz.prog 27 #[.agg #[.int .i64 kx,.slice qx nx cx],.agg #[.int .i64 ky,.slice qy ny cy]] w' fun e w''=>e=.returned (.bool (Ty.same xs[j] ys[j]))∧Below w'.1.size w' w'') :=
    fun w' hb=>HIH.out _ (List.getElem_mem hlt) ys[j] w' _ _ (hvx.on hb) (hvy.on hb)
   have HBw:=yQ hbw
   have HBW:=yQ HL.out.1
   have HAll:=yQ HL.out.2
   have hj1:(j:Int)<(xs.length:Int):=by omega
   have hj2:(j:Int)<(ys.length:Int):=by omega
   obtain⟨r,hr⟩:∃r,r=Ty.same xs[j] ys[j]:=⟨_,rfl⟩
   rw[<-hr] at HC
   have HRr:=yQ hr
   clear hvx hvy hix hiy hbw HL hr
   go_wp2_with fail
   go_region_held3 (fun w'=>w'.cell? ⟨bx,ox+j*2,none⟩=some (.int .i64 kx)∧w'.cell? ⟨bx,ox+j*2+1,none⟩=some (.slice qx nx cx)∧w'.cell? ⟨by',oy+j*2,none⟩=some (.int .i64 ky)∧w'.cell? ⟨by',oy+j*2+1,none⟩=some (.slice qy ny cy)∧w'.cell? ⟨w.1.size,1,none⟩=some (.slice (some ⟨bx,ox,none⟩) xs.length c)∧w'.cell? ⟨w.1.size+1,1,none⟩=some (.slice (some ⟨by',oy,none⟩) ys.length d)) (go_keep) (first
    | (go_at_call 27;refine(HC.out _ (below_drewN HBw.out _)).mono ?_;rintro e w4 ⟨rfl,hb4⟩;have hb5:=cY (w:=wr) hb4 (by rfl) (by rfl) (by rfl) (by rfl);have z3:=ae hb5 a0;have z4:=ae hb5 a1;have z5:=ae hb5 b0;have z6:=ae hb5 b1;have z7:=ae hb5 y1;have z8:=ae hb5 y2;have HB4:=yQ hb5;clear hb4 hb5))
   clear z3 z4 z5 z6 z7 z8 a0 a1 b0 b1 y1 y2
   cases r with
   |true=>
    have HN:Hid (Below W0.1.size W0 w4∧∀m (h1:m<xs.length) (h2:m<ys.length),m<j+1->Ty.same xs[m] ys[m]=true):=by
     refine⟨HBW.out.trans (HB4.out.mono HBW.out.size),fun m h1 h2 hm=>?_⟩
     by_cases hmj:m=j
     ·subst hmj;exact HRr.out.symm
     ·exact HAll.out m h1 h2 (by omega)
    clear HB4 HAll HC
    go_wp2
    go_roundw
    case rel=>exact⟨j+1,by omega,by go_num,HN⟩
    case measure=>simp[intOf];omega
   |false=>
    have HF0:Hid (Ty.sameL xs ys=false):=Ty.sameL_at xs ys j hlt hlt2 HRr.out.symm
    have HF:=yQ (HBw.out.trans (HB4.out.mono HBw.out.size))
    clear HB4 HAll HC
    go_wp2
    go_ret
    exact⟨by rw[HE.out,HF0.out];rfl,HF.out⟩
  ·have HF0:Hid (Ty.sameL xs ys=true):=Ty.sameL_all xs ys H5.out (fun m h1 h2=>HL.out.2 m h1 h2 (by omega))
   have HF:=yQ hbw
   have hjn:¬(j:Int)<(xs.length:Int):=by omega
   clear HL hbw hlt
   go_wp2
   go_ret
   exact⟨by rw[HE.out,HF0.out];rfl,HF.out⟩
end
section
open Go.RowKit
theorem kD{l:L8}(h:0<l.length):l.headD 0=l[0]:=by
 cases l with
 |nil=>simp at h
 |cons a r=>rfl
theorem jt{t:ByteArray}(h:t.size<1∨16<t.size):Sch.name t=false:=by
 have hs:t.data.toList.length=t.size:=by rw[Array.length_toList];rfl
 unfold Sch.name Sch.nameL
 rw[decide_eq_false (by omega)]
 rfl
theorem qo{t:ByteArray}(h:0<t.size)(hc:Sch.low t[0]=false):Sch.name t=false:=by
 have hs:t.data.toList.length=t.size:=by rw[Array.length_toList];rfl
 unfold Sch.name Sch.nameL
 have e:t.data.toList.headD 0=t[0]:=by
  rw[<-gj t 0 h]
  exact kD (by omega)
 rw[e,hc,Bool.and_false,Bool.false_and]
theorem sJ{t:ByteArray}(j:Nat)(h:j<t.size)(hc:Sch.ch t[j]=false):Sch.name t=false:=by
 have hs:t.data.toList.length=t.size:=by rw[Array.length_toList];rfl
 unfold Sch.name Sch.nameL
 have:t.data.toList.all Sch.ch=false:=by
  rw[List.all_eq_false]
  refine⟨t[j],?_,by simp[hc]⟩
  rw[<-gj t j h]
  exact List.getElem_mem _
 rw[this,Bool.and_false]
theorem qt{t:ByteArray}(h1:1<=t.size)(h2:t.size<=16)(h3:Sch.low (t[0]'(by omega))=true)(h4:∀j (h:j<t.size),Sch.ch t[j]=true):Sch.name t=true:=by
 have hs:t.data.toList.length=t.size:=by rw[Array.length_toList];rfl
 unfold Sch.name Sch.nameL
 have e:t.data.toList.headD 0=t[0]'(by omega):=by
  rw[<-gj t 0 (by omega)]
  exact kD (by omega)
 have:t.data.toList.all Sch.ch=true:=by
  rw[List.all_eq_true]
  intro x hx
  obtain⟨j,hj,rfl⟩:=List.getElem_of_mem hx
  rw[gj t j (by omega)]
  exact h4 j (by omega)
 rw[e,h3,this,decide_eq_true (by omega)]
 rfl
end
section
open Go.RowKit
end
section
open Go.RowKit
end
section
theorem jj:∀(s t:List Col),s.length≠t.length->Sch.same s t=false
 | [],[],h=>absurd rfl h
 | [],_::_,_=>rfl
 |_::_,[],_=>rfl
 |c::s,d::t,h=>by rw[Sch.same,jj s t (by simpa using h),Bool.and_false]
theorem jk:∀(s t:List Col) (j:Nat) (h1:j<s.length) (h2:j<t.length),Sch.colSame s[j] t[j]=false->Sch.same s t=false
 |c::s,d::t,0,_,_,h=>by rw[Sch.same];simp at h;rw[h,Bool.false_and]
 |c::s,d::t,j+1,h1,h2,h=>by rw[Sch.same,jk s t j (by simpa using h1) (by simpa using h2) (by simpa using h),Bool.and_false]
theorem gZ:∀(s t:List Col),s.length=t.length->(∀j (h1:j<s.length) (h2:j<t.length),Sch.colSame s[j] t[j]=true)->Sch.same s t=true
 | [],[],_,_=>rfl
 | [],_::_,h,_=>by simp at h
 |_::_,[],h,_=>by simp at h
 |c::s,d::t,h,ha=>by
  rw[Sch.same,gZ s t (by simpa using h) (fun j h1 h2=>by have:=ha (j+1) (by simpa using h1) (by simpa using h2);simpa using this)]
  have:=ha 0 (by simp) (by simp)
  simp at this
  rw[this];rfl
end
end Go.Proofs.YtdgacombdcajmaaGreatDoor

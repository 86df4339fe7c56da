import Derived.Test.YtlgfdgdlaahpfaaGreatDoorB06
set_option maxRecDepth 100000
set_option maxHeartbeats 1000000
namespace Go.Proofs.YtlgfdgdlaahpfaaGreatDoor
section
open Go.RowKit
theorem lX:∀(x:Ty) (d:Nat) (w:World) (u:AV),d<=5->ay w u x->Calls Tryz.prog 130 #[.agg u,.int .i64 d] w fun e w'=>e=.returned (.int .i64 (Ty.check d x:Nat))∧Below w.1.size w w':=by
  intro x
  refine Ty.ind (P:=fun x=>∀(d:Nat) (w:World) (u:AV),d<=5->ay w u x->Calls Tryz.prog 130 #[.agg u,.int .i64 d] w fun e w'=>e=.returned (.int .i64 (Ty.check d x:Nat))∧Below w.1.size w w') ?_ x
  rintro k xs ih d w u hd hx
  obtain⟨p,c,rfl,hxl,hxc,hxi⟩:=hx.open
  unfold al
  have hB1:Below w.1.size w (w.alloc (.cells #[.int .i64 k,.slice p xs.length c] 83)):=vY
  have HB1:=vQ hB1
  clear hB1 hx
  obtain⟨R,hR⟩:∃R,R=Ty.check d (.mk k xs):=⟨_,rfl⟩
  have HCk:=vQ (hR.trans (Ty.check_mk d k xs))
  rw[<-hR]
  clear hR
  by_cases h1:4<d
  · have g1:(4:Int)<(d:Int):=by omega
    have HR:Hid (R=62):=by show _=_;rw[HCk.out,if_pos h1]
    clear ih hxi HCk
    go_enter Tryz.func130,Tryz.ntmps130
    go_wp2
    go_ret
    exact⟨by rw[HR.out];rfl,HB1.out⟩
  have g1:¬(4:Int)<(d:Int):=by omega
  by_cases h2:k<1∨7<k
  · have e6:(k==6)=false:=by simp;omega
    have e7:(k==7)=false:=by simp;omega
    have HR:Hid (R=60):=by show _=_;rw[HCk.out,if_neg h1,if_pos (by omega)]
    clear ih hxi HCk
    rcases h2 with h2 | h2
    · go_enter Tryz.func130,Tryz.ntmps130
      go_wp2
      go_ret
      exact⟨by rw[HR.out];rfl,HB1.out⟩
    · have h3:¬k<1:=by omega
      go_enter Tryz.func130,Tryz.ntmps130
      go_wp2
      go_ret
      exact⟨by rw[HR.out];rfl,HB1.out⟩
  have h3:¬k<1:=by omega
  have h4:¬7<k:=by omega
  by_cases h67:k=6∨k=7
  · have hw:Ty.want k=1:=by unfold Ty.want;rw[if_pos h67]
    by_cases hl1:xs.length=1
    · have gl:((xs.length:Int) != 1)=false:=cq (by omega)
      have HX:Hid (∀j (hj:j<xs.length),∃u',ay w u' xs[j]∧dB w p j u'):=hxi
      have HIH:=vQ ih
      obtain⟨ux,hvx,hix⟩:=HX.out 0 (by omega)
      obtain⟨bx,ox,kx,qx,nx,cx,rfl,_,rfl,a0,a1⟩:=(hix.on HB1.out).lies
      rw[Nat.zero_mul,Nat.add_zero] at a0 a1
      have hR1:R=Ty.check (d+1) (xs[0]'(by omega)):=by
        obtain⟨y,rfl⟩:=List.length_eq_one_iff.1 hl1
        rw[HCk.out]
        have:=Ty.check_one d k y h1 (by omega) hw
        rw[Ty.check_mk] at this
        exact this
      have HC:=vQ (HIH.out _ (List.getElem_mem (by omega:0<xs.length)) (d+1) _ _ (by omega) (hvx.on HB1.out))
      rw[<-hR1] at HC
      unfold al at HC
      have hl0:(0:Int)<(xs.length:Int):=by omega
      clear hR1 HX HIH hvx hix HCk ih hxi hw hl1
      rcases h67 with h6 | h6
      all_goals
        first
          |have e6:(k==6)=true:=bV h6
          | (have e6:(k==6)=false:=aH (by omega)
             have e7:(k==7)=true:=bV h6)
        clear h6
        go_enter Tryz.func130,Tryz.ntmps130
        go_wp2_with fail
        refine HC.out.mono ?_
        rintro e w2 ⟨rfl,hb2⟩
        have HB2:=vQ (HB1.out.trans (hb2.mono HB1.out.size))
        clear hb2
        go_wp2
        go_ret
        exact⟨rfl,HB2.out⟩
    · have gl:((xs.length:Int) != 1)=true:=ca (by omega)
      have HR:Hid (R=60):=by show _=_;rw[HCk.out,if_neg h1,if_pos (by omega)]
      clear ih hxi HCk hw
      rcases h67 with h6 | h6
      all_goals
        first
          |have e6:(k==6)=true:=bV h6
          | (have e6:(k==6)=false:=aH (by omega)
             have e7:(k==7)=true:=bV h6)
        clear h6
        go_enter Tryz.func130,Tryz.ntmps130
        go_wp2
        go_ret
        exact⟨by rw[HR.out];rfl,HB1.out⟩
  · have hw:Ty.want k=0:=by unfold Ty.want;rw[if_neg h67]
    have e6:(k==6)=false:=aH (by omega)
    have e7:(k==7)=false:=aH (by omega)
    by_cases hl0:xs.length=0
    · have gl:((xs.length:Int) != 0)=false:=cq (by omega)
      have HR:Hid (R=0):=by
        show _=_
        have hx0:xs=[]:=List.eq_nil_of_length_eq_zero hl0
        subst hx0
        rw[HCk.out]
        have:=Ty.check_leaf d k h1 (by omega) hw
        rw[Ty.check_mk] at this
        exact this
      clear ih hxi HCk hw hl0
      go_enter Tryz.func130,Tryz.ntmps130
      go_wp2
      go_ret
      exact⟨by rw[HR.out];rfl,HB1.out⟩
    · have gl:((xs.length:Int) != 0)=true:=ca (by omega)
      have HR:Hid (R=60):=by show _=_;rw[HCk.out,if_neg h1,if_pos (by omega)]
      clear ih hxi HCk hw hl0
      go_enter Tryz.func130,Tryz.ntmps130
      go_wp2
      go_ret
      exact⟨by rw[HR.out];rfl,HB1.out⟩
theorem eG(x:Ty)(w:World)(u:AV)(h:ay w u x):Calls Tryz.prog 97 #[.agg u] w fun e w'=>e=.returned (.int .i64 (Ty.check 1 x:Nat))∧Below w.1.size w w':=by
 obtain⟨k,xs⟩:=x
 obtain⟨p,c,rfl,-⟩:=h.open
 have hB1:Below w.1.size w (w.alloc (.cells (al k p xs.length c) 83)):=vY
 have HB1:=vQ hB1
 have HC:=vQ (lX _ 1 _ _ (by omega) (h.on hB1))
 clear hB1 h
 obtain⟨R,hR⟩:∃R,R=Ty.check 1 (.mk k xs):=⟨_,rfl⟩
 rw[<-hR] at HC ⊢
 clear hR
 unfold al at HC HB1 ⊢
 go_enter Tryz.func97,Tryz.ntmps97
 go_wp2_with fail
 refine HC.out.mono ?_
 rintro e w2 ⟨rfl,hb2⟩
 have HB2:=vQ (HB1.out.trans (hb2.mono HB1.out.size))
 clear hb2
 go_wp2
 go_ret
 exact⟨rfl,HB2.out⟩
theorem jA:∀(x y:Ty) (w:World) (u v:AV),ay w u x->ay w v y->Calls Tryz.prog 59 #[.agg u,.agg v] w fun e w'=>e=.returned (.bool (Ty.same x y))∧Below w.1.size w w':=by
 intro x
 refine Ty.ind (P:=fun x=>∀(y:Ty) (w:World) (u v:AV),ay w u x->ay w v y->Calls Tryz.prog 59 #[.agg u,.agg v] w fun e w'=>e=.returned (.bool (Ty.same x y))∧Below w.1.size w w') ?_ x
 rintro k xs ih ⟨k',ys⟩ w u v hx hy
 obtain⟨p,c,rfl,hxl,hxc,hxi⟩:=hx.open
 obtain⟨q,d,rfl,hyl,hyc,hyi⟩:=hy.open
 unfold al
 obtain⟨W0,hW0⟩:∃W0,W0=(w.alloc (.cells #[.int .i64 k,.slice p xs.length c] 83)).alloc (.cells #[.int .i64 k',.slice q ys.length d] 83):=⟨_,rfl⟩
 have HB0:Hid (Below w.1.size w W0):=by rw[hW0];exact vY.alloc (by simp) _
 have HY:Hid (W0.cell? ⟨w.1.size,1,none⟩=some (.slice p xs.length c)∧W0.cell? ⟨w.1.size+1,1,none⟩=some (.slice q ys.length d)):=by rw[hW0];exact⟨by simp,by simp⟩
 have HW0:=vQ hW0
 clear hW0 hx hy
 by_cases h1:¬k=k'
 ·have g1:=ca h1
  have HE:Hid (Ty.same (.mk k xs) (.mk k' ys)=false):=by show _=_;simp[Ty.same_mk,h1]
  clear ih hxi hyi h1
  go_enter Tryz.func59,Tryz.ntmps59
  go_wp2
  rw[<-HW0.out]
  go_ret
  exact⟨by rw[HE.out];rfl,HB0.out⟩
 replace h1:k=k':=Classical.not_not.1 h1
 have g1:=cq h1
 by_cases h5:¬xs.length=ys.length
 ·have g5:((xs.length:Int) != (ys.length:Int))=true:=ca (by omega)
  have HE:Hid (Ty.same (.mk k xs) (.mk k' ys)=false):=by show _=_;simp[Ty.same_mk,Ty.sameL_ne xs ys h5]
  clear ih hxi hyi h1 h5
  go_enter Tryz.func59,Tryz.ntmps59
  go_wp2
  rw[<-HW0.out]
  go_ret
  exact⟨by rw[HE.out];rfl,HB0.out⟩
 replace h5:xs.length=ys.length:=Classical.not_not.1 h5
 have g5:((xs.length:Int) != (ys.length:Int))=false:=cq (by omega)
 have HE:Hid (Ty.same (.mk k xs) (.mk k' ys)=Ty.sameL xs ys):=by show _=_;simp[Ty.same_mk,h1]
 have HX:Hid (∀j (hj:j<xs.length),∃u',ay w u' xs[j]∧dB w p j u'):=hxi
 have HY2:Hid (∀j (hj:j<ys.length),∃u',ay w u' ys[j]∧dB w q j u'):=hyi
 have HIH:=vQ ih
 have H5:=vQ h5
 clear ih hxi hyi h1 h5
 go_enter Tryz.func59,Tryz.ntmps59
 go_wp2_with fail
 rw[<-HW0.out]
 clear HW0
 go_loopw [5,6] (fun v5 _ wr=>∃j:Nat,j<=xs.length∧v5=.int .i64 j∧Hid (Below W0.1.size W0 wr∧∀m (h1:m<xs.length) (h2:m<ys.length),m<j->Ty.same xs[m] ys[m]=true)) (fun v5 _ _=>xs.length-(intOf v5).toNat)
 case atStart=>exact⟨0,by omega,rfl,vZ,fun m _ _ h=>by omega⟩
 case round=>
  obtain⟨j,hj,rfl,HL⟩:=hrel
  have hbw:Below w.1.size w wr:=HB0.out.trans (HL.out.1.mono HB0.out.size)
  have y1:wr.cell? ⟨w.1.size,1,none⟩=some (.slice p xs.length c):=ab HL.out.1 HY.out.1
  have y2:wr.cell? ⟨w.1.size+1,1,none⟩=some (.slice q ys.length d):=ab HL.out.1 HY.out.2
  by_cases hlt:j<xs.length
  ·have hlt2:j<ys.length:=by have:=H5.out;omega
   obtain⟨ux,hvx,hix⟩:=HX.out j hlt
   obtain⟨uy,hvy,hiy⟩:=HY2.out j hlt2
   obtain⟨bx,ox,kx,qx,nx,cx,rfl,_,rfl,a0,a1⟩:=(hix.on hbw).lies
   obtain⟨by',oy,ky,qy,ny,cy,rfl,_,rfl,b0,b1⟩:=(hiy.on hbw).lies
   have HC:Hid (∀w',Below w.1.size w w'->Calls Tryz.prog 59 #[.agg #[.int .i64 kx,.slice qx nx cx],.agg #[.int .i64 ky,.slice qy ny cy]] w' fun e w''=>e=.returned (.bool (Ty.same xs[j] ys[j]))∧Below w'.1.size w' w'') :=
    fun w' hb=>HIH.out _ (List.getElem_mem hlt) ys[j] w' _ _ (hvx.on hb) (hvy.on hb)
   have HBw:=vQ hbw
   have HBW:=vQ HL.out.1
   have HAll:=vQ HL.out.2
   have hj1:(j:Int)<(xs.length:Int):=by omega
   have hj2:(j:Int)<(ys.length:Int):=by omega
   obtain⟨r,hr⟩:∃r,r=Ty.same xs[j] ys[j]:=⟨_,rfl⟩
   rw[<-hr] at HC
   have HRr:=vQ hr
   clear hvx hvy hix hiy hbw HL hr
   go_wp2_with fail
   go_region_held3 (fun w'=>w'.cell? ⟨bx,ox+j*2,none⟩=some (.int .i64 kx)∧w'.cell? ⟨bx,ox+j*2+1,none⟩=some (.slice qx nx cx)∧w'.cell? ⟨by',oy+j*2,none⟩=some (.int .i64 ky)∧w'.cell? ⟨by',oy+j*2+1,none⟩=some (.slice qy ny cy)∧w'.cell? ⟨w.1.size,1,none⟩=some (.slice (some ⟨bx,ox,none⟩) xs.length c)∧w'.cell? ⟨w.1.size+1,1,none⟩=some (.slice (some ⟨by',oy,none⟩) ys.length d)) (go_keep) (first
    | (go_at_call 59;refine(HC.out _ (below_drewN HBw.out _)).mono ?_;rintro e w4 ⟨rfl,hb4⟩;have hb5:=cf (w:=wr) hb4 (by rfl) (by rfl) (by rfl) (by rfl);have z3:=ab hb5 a0;have z4:=ab hb5 a1;have z5:=ab hb5 b0;have z6:=ab hb5 b1;have z7:=ab hb5 y1;have z8:=ab hb5 y2;have HB4:=vQ hb5;clear hb4 hb5))
   clear z3 z4 z5 z6 z7 z8 a0 a1 b0 b1 y1 y2
   cases r with
   |true=>
    have HN:Hid (Below W0.1.size W0 w4∧∀m (h1:m<xs.length) (h2:m<ys.length),m<j+1->Ty.same xs[m] ys[m]=true):=by
     refine⟨HBW.out.trans (HB4.out.mono HBW.out.size),fun m h1 h2 hm=>?_⟩
     by_cases hmj:m=j
     ·subst hmj;exact HRr.out.symm
     ·exact HAll.out m h1 h2 (by omega)
    clear HB4 HAll HC
    go_wp2
    go_roundw
    case rel=>exact⟨j+1,by omega,by go_num,HN⟩
    case measure=>simp[intOf];omega
   |false=>
    have HF0:Hid (Ty.sameL xs ys=false):=Ty.sameL_at xs ys j hlt hlt2 HRr.out.symm
    have HF:=vQ (HBw.out.trans (HB4.out.mono HBw.out.size))
    clear HB4 HAll HC
    go_wp2
    go_ret
    exact⟨by rw[HE.out,HF0.out];rfl,HF.out⟩
  ·have HF0:Hid (Ty.sameL xs ys=true):=Ty.sameL_all xs ys H5.out (fun m h1 h2=>HL.out.2 m h1 h2 (by omega))
   have HF:=vQ hbw
   have hjn:¬(j:Int)<(xs.length:Int):=by omega
   clear HL hbw hlt
   go_wp2
   go_ret
   exact⟨by rw[HE.out,HF0.out];rfl,HF.out⟩
end
section
open Go.RowKit
theorem jl{l:L8}(h:0<l.length):l.headD 0=l[0]:=by
 cases l with
 |nil=>simp at h
 |cons a r=>rfl
theorem dI{t:ByteArray}(h:t.size<1∨16<t.size):Sch.name t=false:=by
 have hs:t.data.toList.length=t.size:=by rw[Array.length_toList];rfl
 unfold Sch.name Sch.nameL
 rw[decide_eq_false (by omega)]
 rfl
theorem jh{t:ByteArray}(h:0<t.size)(hc:Sch.low t[0]=false):Sch.name t=false:=by
 have hs:t.data.toList.length=t.size:=by rw[Array.length_toList];rfl
 unfold Sch.name Sch.nameL
 have e:t.data.toList.headD 0=t[0]:=by
  rw[<-bD t 0 h]
  exact jl (by omega)
 rw[e,hc,Bool.and_false,Bool.false_and]
theorem kM{t:ByteArray}(j:Nat)(h:j<t.size)(hc:Sch.ch t[j]=false):Sch.name t=false:=by
 have hs:t.data.toList.length=t.size:=by rw[Array.length_toList];rfl
 unfold Sch.name Sch.nameL
 have:t.data.toList.all Sch.ch=false:=by
  rw[List.all_eq_false]
  refine⟨t[j],?_,by simp[hc]⟩
  rw[<-bD t j h]
  exact List.getElem_mem _
 rw[this,Bool.and_false]
theorem ji{t:ByteArray}(h1:1<=t.size)(h2:t.size<=16)(h3:Sch.low (t[0]'(by omega))=true)(h4:∀j (h:j<t.size),Sch.ch t[j]=true):Sch.name t=true:=by
 have hs:t.data.toList.length=t.size:=by rw[Array.length_toList];rfl
 unfold Sch.name Sch.nameL
 have e:t.data.toList.headD 0=t[0]'(by omega):=by
  rw[<-bD t 0 (by omega)]
  exact jl (by omega)
 have:t.data.toList.all Sch.ch=true:=by
  rw[List.all_eq_true]
  intro x hx
  obtain⟨j,hj,rfl⟩:=List.getElem_of_mem hx
  rw[bD t j (by omega)]
  exact h4 j (by omega)
 rw[e,h3,this,decide_eq_true (by omega)]
 rfl
theorem pU(t:ByteArray)(w:World):Calls Tryz.prog 96 #[.string t] w fun e w'=>e=.returned (.bool (Sch.name t))∧w'=w:=by
 by_cases h1:t.size<1
 ·have g1:(t.size:Int)<1:=by omega
  have HE:=vQ (dI (t:=t) (.inl h1))
  clear h1
  go_enter Tryz.func96,Tryz.ntmps96
  go_wp2
  go_ret
  exact⟨by rw[HE.out];rfl,rfl⟩
 have g1:¬(t.size:Int)<1:=by omega
 by_cases h2:16<t.size
 ·have g2:(16:Int)<(t.size:Int):=by omega
  have HE:=vQ (dI (t:=t) (.inr h2))
  clear h1 h2
  go_enter Tryz.func96,Tryz.ntmps96
  go_wp2
  go_ret
  exact⟨by rw[HE.out];rfl,rfl⟩
 have g2:¬(16:Int)<(t.size:Int):=by omega
 have h0:0<t.size:=by omega
 have h0':(0:Int)<(t.size:Int):=by omega
 by_cases h3:Sch.low t[0]=false
 ·have HE:=vQ (jh h0 h3)
  have h4:t[0].toNat<97∨122<t[0].toNat:=by
   unfold Sch.low at h3
   rw[decide_eq_false_iff_not] at h3
   omega
  clear h3 h1 h2
  rcases h4 with h4 | h4
  ·have g4:(t[0].toNat:Int)<97:=by omega
   go_enter Tryz.func96,Tryz.ntmps96
   go_wp2
   go_ret
   exact⟨by rw[HE.out];rfl,rfl⟩
  ·have g4:¬(t[0].toNat:Int)<97:=by omega
   have g5:(122:Int)<(t[0].toNat:Int):=by omega
   go_enter Tryz.func96,Tryz.ntmps96
   go_wp2
   go_ret
   exact⟨by rw[HE.out];rfl,rfl⟩
 have h3':Sch.low t[0]=true:=by simpa using h3
 have H3:=vQ h3'
 have h4:97<=t[0].toNat∧t[0].toNat<=122:=by
  unfold Sch.low at h3'
  rw[decide_eq_true_eq] at h3'
  exact h3'
 have g4:¬(t[0].toNat:Int)<97:=by omega
 have g5:¬(122:Int)<(t[0].toNat:Int):=by omega
 clear h3 h3' h4
 go_enter Tryz.func96,Tryz.ntmps96
 go_wp2
 go_loop [3,4] (fun v3 _=>∃a:Nat,a<=t.size∧v3=.int .i64 a∧Hid (∀j (h:j<t.size),j<a->Sch.ch t[j]=true)) (fun v3 _=>t.size-(intOf v3).toNat)
 case atStart=>exact⟨0,by omega,rfl,fun j _ h=>by omega⟩
 case round=>
  obtain⟨a,ha,rfl,HA⟩:=hrel
  by_cases hlt:a<t.size
  ·have hlt':(a:Int)<(t.size:Int):=by omega
   have hc2:=t[a].toNat_lt
   by_cases hc:Sch.ch t[a]=true
   ·have HN:Hid (∀j (h:j<t.size),j<a+1->Sch.ch t[j]=true):=fun j h hj=>by
     by_cases hja:j=a
     ·subst hja;exact hc
     ·exact HA.out j h (by omega)
    have hcs:(97<=t[a].toNat∧t[a].toNat<=122)∨(48<=t[a].toNat∧t[a].toNat<=57)∨t[a].toNat=95:=by
     unfold Sch.ch Sch.low at hc
     simp only[Bool.or_eq_true,decide_eq_true_eq] at hc
     omega
    clear HA hc g4 g5 H3
    rcases hcs with hcs | hcs | hcs
    ·have k1:¬(t[a].toNat:Int)<97:=by omega
     have k2:¬(122:Int)<(t[a].toNat:Int):=by omega
     clear hcs
     go_wp2
     go_round
     case rel=>exact⟨a+1,by omega,by go_num,HN⟩
     case measure=>simp[intOf];omega
    ·have k1:(t[a].toNat:Int)<97:=by omega
     have k2:¬(t[a].toNat:Int)<48:=by omega
     have k3:¬(57:Int)<(t[a].toNat:Int):=by omega
     clear hcs
     go_wp2
     go_round
     case rel=>exact⟨a+1,by omega,by go_num,HN⟩
     case measure=>simp[intOf];omega
    ·have k1:(t[a].toNat:Int)<97:=by omega
     have k2:¬(t[a].toNat:Int)<48:=by omega
     have k3:(57:Int)<(t[a].toNat:Int):=by omega
     have k4:((t[a].toNat:Int) != 95)=false:=by rw[hcs];rfl
     clear hcs
     go_wp2
     go_round
     case rel=>exact⟨a+1,by omega,by go_num,HN⟩
     case measure=>simp[intOf];omega
   ·have HE:=vQ (kM a hlt (by simpa using hc))
    have hcs:t[a].toNat<48∨(57<t[a].toNat∧t[a].toNat<97∧t[a].toNat≠95)∨122<t[a].toNat:=by
     unfold Sch.ch Sch.low at hc
     simp only[Bool.or_eq_true,decide_eq_true_eq] at hc
     omega
    clear HA hc g4 g5 H3
    rcases hcs with hcs | hcs | hcs
    ·have k1:(t[a].toNat:Int)<97:=by omega
     have k2:(t[a].toNat:Int)<48:=by omega
     have k4:((t[a].toNat:Int) != 95)=true:=by rw[bne_iff_ne];omega
     clear hcs
     go_wp2
     go_ret
     exact⟨by rw[HE.out];rfl,rfl⟩
    ·have k1:(t[a].toNat:Int)<97:=by omega
     have k2:¬(t[a].toNat:Int)<48:=by omega
     have k3:(57:Int)<(t[a].toNat:Int):=by omega
     have k4:((t[a].toNat:Int) != 95)=true:=by rw[bne_iff_ne];omega
     clear hcs
     go_wp2
     go_ret
     exact⟨by rw[HE.out];rfl,rfl⟩
    ·have k1:¬(t[a].toNat:Int)<97:=by omega
     have k5:(122:Int)<(t[a].toNat:Int):=by omega
     have k2:¬(t[a].toNat:Int)<48:=by omega
     have k3:(57:Int)<(t[a].toNat:Int):=by omega
     have k4:((t[a].toNat:Int) != 95)=true:=by rw[bne_iff_ne];omega
     clear hcs
     go_wp2
     go_ret
     exact⟨by rw[HE.out];rfl,rfl⟩
  ·have HE:=vQ (ji (t:=t) (by omega) (by omega) H3.out (fun j h=>HA.out j h (by omega)))
   have hjn:¬(a:Int)<(t.size:Int):=by omega
   clear HA
   go_wp2
   go_ret
   exact⟨by rw[HE.out];rfl,rfl⟩
end
section
open Go.RowKit
end
section
open Go.RowKit
theorem tm:∀(x:V) (y:Ty) (d:Nat) (w:World) (u v:AV),chk d x=0->Ty.check d y=0->ax w u x->ay w v y->Calls Tryz.prog 132 #[.agg u,.agg v] w fun e w'=>e=.returned (.bool (Sch.of x y))∧Below w.1.size w w':=by
 intro x
 refine V.ind (P:=fun x=>∀(y:Ty) (d:Nat) (w:World) (u v:AV),chk d x=0->Ty.check d y=0->ax w u x->ay w v y->Calls Tryz.prog 132 #[.agg u,.agg v] w fun e w'=>e=.returned (.bool (Sch.of x y))∧Below w.1.size w w') ?_ x
 rintro k i b t xs ih ⟨k',ys⟩ d w u v hc hd hx hy
 obtain⟨p,c,rfl,hxl,hxc,hxi⟩:=hx.open
 obtain⟨q,e,rfl,hyl,hyc,hyi⟩:=hy.open
 unfold cells5 al
 obtain⟨W0,hW0⟩:∃W0,W0=(w.alloc (.cells #[.int .i64 k,.int .i64 i,.float .f64 b,.string t,.slice p xs.length c] 87)).alloc (.cells #[.int .i64 k',.slice q ys.length e] 83):=⟨_,rfl⟩
 have HB0:Hid (Below w.1.size w W0):=by rw[hW0];exact vY.alloc (by simp) _
 have HY:Hid (W0.cell? ⟨w.1.size,4,none⟩=some (.slice p xs.length c)∧W0.cell? ⟨w.1.size+1,1,none⟩=some (.slice q ys.length e)):=by rw[hW0];exact⟨by simp,by simp⟩
 have HW0:=vQ hW0
 clear hW0 hx hy
 by_cases h1:¬k=k'
 ·have g1:=ca h1
  have HE:Hid (Sch.of (.mk k i b t xs) (.mk k' ys)=false):=by show _=_;rw[Sch.of_mk,aH h1,Bool.false_and]
  clear ih hxi hyi h1 hc hd
  go_enter Tryz.func132,Tryz.ntmps132
  go_wp2
  rw[<-HW0.out]
  go_ret
  exact⟨by rw[HE.out];rfl,HB0.out⟩
 replace h1:k=k':=Classical.not_not.1 h1
 have g1:=cq h1
 have HE:Hid (Sch.of (.mk k i b t xs) (.mk k' ys)=xs.all (fun x=>Sch.of x (Sch.inner (.mk k' ys)))):=by show _=_;rw[Sch.of_mk,bV h1,Bool.true_and]
 obtain⟨hd4,hcs,hct⟩:=Sch.ty_open hd
 obtain⟨-,ho,-,hn,-,hcx⟩:=Sch.chk_open hc
 obtain⟨-,-,-,-,o5,-⟩:=Sch.own_open ho
 have HX:Hid (dl w p xs):=hxi
 have HIH:=vQ ih
 -- what the type is of,where there are items
 have HT:Hid (0<xs.length->∃z,ys=[z]∧Ty.check (d+1) z=0∧Sch.inner (.mk k' ys)=z∧∃u',ay w u' z∧dB w q 0 u'):=by
  intro hp
  rcases hct with ⟨h6,-⟩ | ⟨h6,z,rfl,hz⟩
  ·omega
  ·obtain⟨u',hu1,hu2⟩:=hyi 0 (by simp)
   exact⟨z,rfl,hz,rfl,u',hu1,hu2⟩
 have HCX:=vQ hcx
 clear ih hxi hyi hc hd hct hcs h1 hcx ho o5
 go_enter Tryz.func132,Tryz.ntmps132
 go_wp2_with fail
 rw[<-HW0.out]
 clear HW0
 go_loopw [5,6] (fun v5 _ wr=>∃j:Nat,j<=xs.length∧v5=.int .i64 j∧Hid (Below W0.1.size W0 wr∧∀m (h1:m<xs.length),m<j->Sch.of xs[m] (Sch.inner (.mk k' ys))=true)) (fun v5 _ _=>xs.length-(intOf v5).toNat)
 case atStart=>exact⟨0,by omega,rfl,vZ,fun m _ h=>by omega⟩
 case round=>
  obtain⟨j,hj,rfl,HL⟩:=hrel
  have hbw:Below w.1.size w wr:=HB0.out.trans (HL.out.1.mono HB0.out.size)
  have y1:wr.cell? ⟨w.1.size,4,none⟩=some (.slice p xs.length c):=ab HL.out.1 HY.out.1
  have y2:wr.cell? ⟨w.1.size+1,1,none⟩=some (.slice q ys.length e):=ab HL.out.1 HY.out.2
  by_cases hlt:j<xs.length
  ·obtain⟨ux,hvx,hix⟩:=HX.out j hlt
   obtain⟨z,hys,hz,hin,uy,hvy,hiy⟩:=HT.out (by omega)
   obtain⟨bx,ox,kx,ix,fx,tx,qx,nx,cx,rfl,_,rfl,a0,a1,a2,a3,a4⟩:=(hix.on hbw).lies
   obtain⟨by',oy,ky,qy,ny,cy,rfl,_,rfl,b0,b1⟩:=(hiy.on hbw).lies
   rw[Nat.zero_mul,Nat.add_zero] at b0 b1
   have hl1:ys.length=1:=by rw[hys];rfl
   rw[hl1] at y2
   have HC:Hid (∀w',Below w.1.size w w'->Calls Tryz.prog 132 #[.agg #[.int .i64 kx,.int .i64 ix,.float .f64 fx,.string tx,.slice qx nx cx],.agg #[.int .i64 ky,.slice qy ny cy]] w' fun e w''=>e=.returned (.bool (Sch.of xs[j] (Sch.inner (.mk k' ys))))∧Below w'.1.size w' w''):=fun w' hb=>by
    rw[hin]
    exact HIH.out _ (List.getElem_mem hlt) z (d+1) w' _ _ (HCX.out _ (List.getElem_mem hlt)) hz (hvx.on hb) (hvy.on hb)
   have HBw:=vQ hbw
   have HBW:=vQ HL.out.1
   have HAll:=vQ HL.out.2
   have hj1:(j:Int)<(xs.length:Int):=by omega
   obtain⟨r,hr⟩:∃r,r=Sch.of xs[j] (Sch.inner (.mk k' ys)):=⟨_,rfl⟩
   rw[<-hr] at HC
   have HRr:=vQ hr
   clear hvx hvy hix hiy hbw HL hr hin hz hys hl1
   go_wp2_with fail
   go_region_held3 (fun w'=>w'.cell? ⟨bx,ox+j*5,none⟩=some (.int .i64 kx)∧w'.cell? ⟨bx,ox+j*5+1,none⟩=some (.int .i64 ix)∧w'.cell? ⟨bx,ox+j*5+2,none⟩=some (.float .f64 fx)∧w'.cell? ⟨bx,ox+j*5+3,none⟩=some (.string tx)∧w'.cell? ⟨bx,ox+j*5+4,none⟩=some (.slice qx nx cx)∧w'.cell? ⟨by',oy,none⟩=some (.int .i64 ky)∧w'.cell? ⟨by',oy+1,none⟩=some (.slice qy ny cy)∧w'.cell? ⟨w.1.size,4,none⟩=some (.slice (some ⟨bx,ox,none⟩) xs.length c)∧w'.cell? ⟨w.1.size+1,1,none⟩=some (.slice (some ⟨by',oy,none⟩) 1 e)) (go_keep) (first
    | (go_at_call 132;refine(HC.out _ (below_drewN HBw.out _)).mono ?_;rintro e w4 ⟨rfl,hb4⟩;have hb5:=cf (w:=wr) hb4 (by rfl) (by rfl) (by rfl) (by rfl);have z3:=ab hb5 a0;have z4:=ab hb5 a1;have z5:=ab hb5 a2;have z6:=ab hb5 a3;have z7:=ab hb5 a4;have z8:=ab hb5 b0;have z9:=ab hb5 b1;have z10:=ab hb5 y1;have z11:=ab hb5 y2;have HB4:=vQ hb5;clear hb4 hb5))
   clear z3 z4 z5 z6 z7 z8 z9 z10 z11 a0 a1 a2 a3 a4 b0 b1 y1 y2
   cases r with
   |true=>
    have HN:Hid (Below W0.1.size W0 w4∧∀m (h1:m<xs.length),m<j+1->Sch.of xs[m] (Sch.inner (.mk k' ys))=true):=by
     refine⟨HBW.out.trans (HB4.out.mono HBW.out.size),fun m h1 hm=>?_⟩
     by_cases hmj:m=j
     ·subst hmj;exact HRr.out.symm
     ·exact HAll.out m h1 (by omega)
    clear HB4 HAll HC
    go_wp2
    go_roundw
    case rel=>exact⟨j+1,by omega,by go_num,HN⟩
    case measure=>simp[intOf];omega
   |false=>
    have HF0:Hid (xs.all (fun x=>Sch.of x (Sch.inner (.mk k' ys)))=false):=by
     show _=_
     rw[List.all_eq_false]
     exact⟨xs[j],List.getElem_mem hlt,by rw[<-HRr.out];decide⟩
    have HF:=vQ (HBw.out.trans (HB4.out.mono HBw.out.size))
    clear HB4 HAll HC
    go_wp2
    go_ret
    exact⟨by rw[HE.out,HF0.out];rfl,HF.out⟩
  ·have HF0:Hid (xs.all (fun x=>Sch.of x (Sch.inner (.mk k' ys)))=true):=by
    show _=_
    rw[List.all_eq_true]
    intro x hx
    obtain⟨m,hm,rfl⟩:=List.getElem_of_mem hx
    exact HL.out.2 m hm (by omega)
   have HF:=vQ hbw
   have hjn:¬(j:Int)<(xs.length:Int):=by omega
   clear HL hbw hlt
   go_wp2
   go_ret
   exact⟨by rw[HE.out,HF0.out];rfl,HF.out⟩
theorem tq(x:V)(y:Ty)(w:World)(u v:AV)(hx:ax w u x)(hy:ay w v y):Calls Tryz.prog 99 #[.agg u,.agg v] w fun e w'=>e=.returned (.bool (Sch.is x y))∧Below w.1.size w w':=by
 obtain⟨k,i,b,t,xs⟩:=x
 obtain⟨k',ys⟩:=y
 obtain⟨p,c,rfl,-⟩:=hx.open
 obtain⟨q,e,rfl,-⟩:=hy.open
 obtain⟨W0,hW0⟩:∃W0,W0=(w.alloc (.cells (cells5 k i b t p xs.length c) 87)).alloc (.cells (al k' q ys.length e) 83):=⟨_,rfl⟩
 have HB0:Hid (Below w.1.size w W0):=by rw[hW0];exact vY.alloc (by simp) _
 have HX:=vQ (hx.on HB0.out)
 have HTy:=vQ (hy.on HB0.out)
 have HCt:=vQ (fun w' (hb:Below W0.1.size W0 w')=>eG _ w' _ (HTy.out.on hb))
 have HCv:=vQ (fun w' (hb:Below W0.1.size W0 w')=>jd _ w' _ (HX.out.on hb))
 have HI:Hid (Sch.is (.mk k i b t xs) (.mk k' ys)=(decide (Ty.check 1 (.mk k' ys)=0)&&decide (chk 1 (.mk k i b t xs)=0)&&Sch.of (.mk k i b t xs) (.mk k' ys))):=rfl
 have HOf:=vQ (fun w' (hb:Below W0.1.size W0 w') h1 h2=>tm _ _ 1 w' _ _ h1 h2 (HX.out.on hb) (HTy.out.on hb))
 have HY:Hid (W0.cell? ⟨w.1.size,0,none⟩=some (.int .i64 k)∧W0.cell? ⟨w.1.size,1,none⟩=some (.int .i64 i)∧W0.cell? ⟨w.1.size,2,none⟩=some (.float .f64 b)∧W0.cell? ⟨w.1.size,3,none⟩=some (.string t)∧W0.cell? ⟨w.1.size,4,none⟩=some (.slice p xs.length c)∧W0.cell? ⟨w.1.size+1,0,none⟩=some (.int .i64 k')∧W0.cell? ⟨w.1.size+1,1,none⟩=some (.slice q ys.length e)):=by rw[hW0];exact⟨by simp[cells5],by simp[cells5],by simp[cells5],by simp[cells5],by simp[cells5],by simp[al],by simp[al]⟩
 have HW0:=vQ hW0
 obtain⟨R,hR⟩:∃R,R=Sch.is (.mk k i b t xs) (.mk k' ys):=⟨_,rfl⟩
 rw[<-hR] at HI ⊢
 obtain⟨ct,hct⟩:∃ct,ct=Ty.check 1 (.mk k' ys):=⟨_,rfl⟩
 have HCT:=vQ hct
 rw[<-hct] at HCt HI HOf
 obtain⟨cv,hcv⟩:∃cv,cv=chk 1 (.mk k i b t xs):=⟨_,rfl⟩
 have HCV:=vQ hcv
 rw[<-hcv] at HCv HI HOf
 obtain⟨co,hco⟩:∃co,co=Sch.of (.mk k i b t xs) (.mk k' ys):=⟨_,rfl⟩
 rw[<-hco] at HI HOf
 clear hW0 hx hy hR hct hcv hco HX HTy
 unfold cells5 al at *
 go_enter Tryz.func99,Tryz.ntmps99
 go_wp2_with fail
 rw[<-HW0.out]
 clear HW0
 refine(HCt.out _ vZ).mono ?_
 rintro e w1 ⟨rfl,hb1⟩
 obtain⟨y0,y1,y2,y3,y4,y5,y6⟩:=HY.out
 have c0:=ab hb1 y0
 have c1:=ab hb1 y1
 have c2:=ab hb1 y2
 have c3:=ab hb1 y3
 have c4:=ab hb1 y4
 have HB1:=vQ hb1
 clear y0 y1 y2 y3 y4 y5 y6 hb1
 go_wp2_with fail
 refine(HCv.out w1 HB1.out).mono ?_
 rintro e w2 ⟨rfl,hb2⟩
 have HB2:=vQ (HB1.out.trans (hb2.mono HB1.out.size))
 have HBw:=vQ (HB0.out.trans (HB2.out.mono HB0.out.size))
 clear hb2 HB1 c0 c1 c2 c3 c4
 by_cases h1:ct=0
 ·have g1:((ct:Int)==0)=true:=bV (by omega)
  by_cases h2:cv=0
  ·have g2:((cv:Int)==0)=true:=bV (by omega)
   obtain⟨y0,y1,y2,y3,y4,y5,y6⟩:=HY.out
   have c0:=ab HB2.out y0
   have c1:=ab HB2.out y1
   have c2:=ab HB2.out y2
   have c3:=ab HB2.out y3
   have c4:=ab HB2.out y4
   have c5:=ab HB2.out y5
   have c6:=ab HB2.out y6
   have HRc:Hid (R=co):=by show _=_;rw[HI.out,decide_eq_true h1,decide_eq_true h2];rfl
   have HCo:=vQ (HOf.out w2 HB2.out h2 h1)
   clear y0 y1 y2 y3 y4 y5 y6 h1 h2 HI HOf HY HCT HCV
   go_wp2_with fail
   refine HCo.out.mono ?_
   rintro e w3 ⟨rfl,hb3⟩
   have HB3:=vQ (HBw.out.trans (hb3.mono HBw.out.size))
   clear hb3 c0 c1 c2 c3 c4 c5 c6
   go_wp2
   go_ret
   exact⟨by rw[HRc.out];rfl,HB3.out⟩
  ·have g2:((cv:Int)==0)=false:=aH (by omega)
   have HRc:Hid (R=false):=by show _=_;rw[HI.out,decide_eq_false h2,Bool.and_false,Bool.false_and]
   clear h1 h2 HI HOf
   go_wp2
   go_ret
   exact⟨by rw[HRc.out];rfl,HBw.out⟩
 ·have g1:((ct:Int)==0)=false:=aH (by omega)
  have HRc:Hid (R=false):=by show _=_;rw[HI.out,decide_eq_false h1,Bool.false_and,Bool.false_and]
  clear h1 HI HOf
  go_wp2
  go_ret
  exact⟨by rw[HRc.out];rfl,HBw.out⟩
end
section
theorem gS:∀(s t:List Col),s.length≠t.length->Sch.same s t=false
 | [],[],h=>absurd rfl h
 | [],_::_,_=>rfl
 |_::_,[],_=>rfl
 |c::s,d::t,h=>by rw[Sch.same,gS s t (by simpa using h),Bool.and_false]
theorem gT:∀(s t:List Col) (j:Nat) (h1:j<s.length) (h2:j<t.length),Sch.colSame s[j] t[j]=false->Sch.same s t=false
 |c::s,d::t,0,_,_,h=>by rw[Sch.same];simp at h;rw[h,Bool.false_and]
 |c::s,d::t,j+1,h1,h2,h=>by rw[Sch.same,gT s t j (by simpa using h1) (by simpa using h2) (by simpa using h),Bool.and_false]
theorem fL:∀(s t:List Col),s.length=t.length->(∀j (h1:j<s.length) (h2:j<t.length),Sch.colSame s[j] t[j]=true)->Sch.same s t=true
 | [],[],_,_=>rfl
 | [],_::_,h,_=>by simp at h
 |_::_,[],h,_=>by simp at h
 |c::s,d::t,h,ha=>by
  rw[Sch.same,fL s t (by simpa using h) (fun j h1 h2=>by have:=ha (j+1) (by simpa using h1) (by simpa using h2);simpa using this)]
  have:=ha 0 (by simp) (by simp)
  simp at this
  rw[this];rfl
end
end Go.Proofs.YtlgfdgdlaahpfaaGreatDoor

import Derived.Test.YtlgfdgdlaahpfaaGreatDoorB09
set_option maxRecDepth 100000
set_option maxHeartbeats 4000000
namespace Go.Proofs.YtlgfdgdlaahpfaaGreatDoor
section
open Go.RowKit
theorem kJ(k:Int)(w:World):Calls Tryz.prog 168 #[.int .i64 k] w fun e w'=>e=.returned (.int .i64 (Ty.want k:Nat))∧w'=w:=by
 by_cases h6:k=6
 ·have e6:(k==6)=true:=bV h6
  have HW:Hid (Ty.want k=1):=by show _=_;unfold Ty.want;rw[if_pos (.inl h6)]
  clear h6
  go_enter Tryz.func168,Tryz.ntmps168
  go_wp2
  go_ret
  exact⟨by rw[HW.out];rfl,rfl⟩
 have e6:(k==6)=false:=aH h6
 by_cases h7:k=7
 ·have e7:(k==7)=true:=bV h7
  have HW:Hid (Ty.want k=1):=by show _=_;unfold Ty.want;rw[if_pos (.inr h7)]
  clear h6 h7
  go_enter Tryz.func168,Tryz.ntmps168
  go_wp2
  go_ret
  exact⟨by rw[HW.out];rfl,rfl⟩
 have e7:(k==7)=false:=aH h7
 have HW:Hid (Ty.want k=0):=by show _=_;unfold Ty.want;rw[if_neg (by omega)]
 clear h6 h7
 go_enter Tryz.func168,Tryz.ntmps168
 go_wp2
 go_ret
 exact⟨by rw[HW.out];rfl,rfl⟩
theorem jR:∀(x:Ty) (d:Nat) (w:World) (u:AV),d<=5->ay w u x->Calls Tryz.prog 151 #[.agg u,.int .i64 d] w fun e w'=>e=.returned (.int .i64 (Ty.check d x:Nat))∧Below w.1.size w w':=by
 intro x
 refine Ty.ind (P:=fun x=>∀(d:Nat) (w:World) (u:AV),d<=5->ay w u x->Calls Tryz.prog 151 #[.agg u,.int .i64 d] w fun e w'=>e=.returned (.int .i64 (Ty.check d x:Nat))∧Below w.1.size w w') ?_ x
 rintro k xs ih d w u hd hx
 obtain⟨p,c,rfl,hxl,hxc,hxi⟩:=hx.open
 unfold al
 have hB1:Below w.1.size w (w.alloc (.cells #[.int .i64 k,.slice p xs.length c] 83)):=vY
 have HB1:=vQ hB1
 clear hB1 hx
 obtain⟨R,hR⟩:∃R,R=Ty.check d (.mk k xs):=⟨_,rfl⟩
 have HCk:=vQ (hR.trans (Ty.check_mk d k xs))
 rw[<-hR]
 clear hR
 by_cases h1:4<d
 ·have g1:(4:Int)<(d:Int):=by omega
  have HR:Hid (R=62):=by show _=_;rw[HCk.out,if_pos h1]
  clear ih hxi HCk
  go_enter Tryz.func151,Tryz.ntmps151
  go_wp2
  go_ret
  exact⟨by rw[HR.out];rfl,HB1.out⟩
 have g1:¬(4:Int)<(d:Int):=by omega
 by_cases h2:k<1
 ·have HR:Hid (R=60):=by show _=_;rw[HCk.out,if_neg h1,if_pos (by omega)]
  have q2:decide (k<1)=true:=decide_eq_true h2
  clear ih hxi HCk
  go_enter Tryz.func151,Tryz.ntmps151
  go_wp2_with fail
  go_quiet (fail)
  go_wp2
  go_ret
  exact⟨by rw[HR.out];rfl,below_drewN HB1.out _⟩
 have q2:decide (k<1)=false:=decide_eq_false h2
 by_cases h3:7<k
 ·have HR:Hid (R=60):=by show _=_;rw[HCk.out,if_neg h1,if_pos (by omega)]
  have q3:decide (7<k)=true:=decide_eq_true h3
  clear ih hxi HCk
  go_enter Tryz.func151,Tryz.ntmps151
  go_wp2_with fail
  go_quiet (fail)
  go_wp2
  go_ret
  exact⟨by rw[HR.out];rfl,below_drewN HB1.out _⟩
 have q3:decide (7<k)=false:=decide_eq_false h3
 have HO:Hid (∀w,Calls Tryz.prog 168 #[.int .i64 k] w fun e w'=>e=.returned (.int .i64 (Ty.want k:Nat))∧∃n,w'=w.drewN n):=fun w=>(kJ k w).mono fun _ _ ⟨h1,h2⟩=>⟨h1,0,h2⟩
 obtain⟨n,hn⟩:∃n,n=Ty.want k:=⟨_,rfl⟩
 have HN:=vQ hn
 rw[<-hn] at HO HCk
 clear hn
 by_cases h4:xs.length=n
 ·have gl:((xs.length:Int) != (n:Int))=false:=cq (by omega)
  by_cases hl0:xs.length=0
  ·have gz:((xs.length:Int)==0)=true:=bV (by omega)
   have HR:Hid (R=0):=by
    show _=_
    have hx0:xs=[]:=List.eq_nil_of_length_eq_zero hl0
    subst hx0
    rw[HCk.out,if_neg h1,if_neg (by omega)]
    rfl
   clear ih hxi HCk hl0 h4
   go_enter Tryz.func151,Tryz.ntmps151
   go_wp2_with fail
   go_quiet (first | (go_at_call 168;exact Calls.quiet_of (HO.out _)))
   go_wp2
   go_ret
   exact⟨by rw[HR.out];rfl,below_drewN HB1.out _⟩
  ·have gz:((xs.length:Int)==0)=false:=aH (by omega)
   have hl1:xs.length=1:=by
    have:=HN.out
    unfold Ty.want at this
    split at this <;> omega
   have HX:Hid (∀j (hj:j<xs.length),∃u',ay w u' xs[j]∧dB w p j u'):=hxi
   have HIH:=vQ ih
   obtain⟨ux,hvx,hix⟩:=HX.out 0 (by omega)
   obtain⟨bx,ox,kx,qx,nx,cx,rfl,_,rfl,a0,a1⟩:=(hix.on HB1.out).lies
   rw[Nat.zero_mul,Nat.add_zero] at a0 a1
   have hR1:R=Ty.check (d+1) (xs[0]'(by omega)):=by
    obtain⟨y,rfl⟩:=List.length_eq_one_iff.1 hl1
    rw[HCk.out]
    have:=Ty.check_one d k y h1 (by omega) (by rw[<-HN.out];simp at h4;omega)
    rw[Ty.check_mk,<-HN.out] at this
    exact this
   have HC:=vQ (fun n=>HIH.out _ (List.getElem_mem (by omega:0<xs.length)) (d+1) _ _ (by omega) (hvx.on (below_drewN HB1.out n)))
   rw[<-hR1] at HC
   unfold al at HC
   have hlp:(0:Int)<(xs.length:Int):=by omega
   clear hR1 HX HIH hvx hix HCk ih hxi hl1 hl0 h4
   go_enter Tryz.func151,Tryz.ntmps151
   go_wp2_with fail
   go_quiet (first | (go_at_call 168;exact Calls.quiet_of (HO.out _)))
   go_wp2_with fail
   refine(HC.out nq).mono ?_
   rintro e w2 ⟨rfl,hb2⟩
   have HB2:=vQ ((below_drewN HB1.out nq).trans (hb2.mono (below_drewN HB1.out nq).size))
   clear hb2
   go_wp2
   go_ret
   exact⟨rfl,HB2.out⟩
 ·have gl:((xs.length:Int) != (n:Int))=true:=ca (by omega)
  have HR:Hid (R=60):=by show _=_;rw[HCk.out,if_neg h1,if_pos (by omega)]
  clear ih hxi HCk h4
  go_enter Tryz.func151,Tryz.ntmps151
  go_wp2_with fail
  go_quiet (first | (go_at_call 168;exact Calls.quiet_of (HO.out _)))
  go_wp2
  go_ret
  exact⟨by rw[HR.out];rfl,below_drewN HB1.out _⟩
theorem mR(x:Ty)(w:World)(u:AV)(h:ay w u x):Calls Tryz.prog 124 #[.agg u] w fun e w'=>e=.returned (.int .i64 (Ty.check 1 x:Nat))∧Below w.1.size w w':=by
 obtain⟨k,xs⟩:=x
 obtain⟨p,c,rfl,-⟩:=h.open
 have hB1:Below w.1.size w (w.alloc (.cells (al k p xs.length c) 83)):=vY
 have HB1:=vQ hB1
 have HC:=vQ (jR _ 1 _ _ (by omega) (h.on hB1))
 clear hB1 h
 obtain⟨R,hR⟩:∃R,R=Ty.check 1 (.mk k xs):=⟨_,rfl⟩
 rw[<-hR] at HC ⊢
 clear hR
 unfold al at HC HB1 ⊢
 go_enter Tryz.func124,Tryz.ntmps124
 go_wp2_with fail
 refine HC.out.mono ?_
 rintro e w2 ⟨rfl,hb2⟩
 have HB2:=vQ (HB1.out.trans (hb2.mono HB1.out.size))
 clear hb2
 go_wp2
 go_ret
 exact⟨rfl,HB2.out⟩
def dig(c:UInt8):Bool:=decide (48<=c.toNat∧c.toNat<=57)
theorem tg(c:UInt8):Sch.ch c=(Sch.low c||dig c||decide (c.toNat=95)):=rfl
theorem jk(c:UInt8)(w:World):Calls Tryz.prog 149 #[.int .u8 c.toNat] w fun e w'=>e=.returned (.bool (Sch.low c))∧w'=w:=by
 by_cases h1:c.toNat<97
 ·have g1:¬(97:Int)<=(c.toNat:Int):=by omega
  have g2:(c.toNat:Int)<97:=by omega
  have HE:Hid (Sch.low c=false):=by show _=_;unfold Sch.low;rw[decide_eq_false (by omega)]
  clear h1
  go_enter Tryz.func149,Tryz.ntmps149
  go_wp2
  go_ret
  exact⟨by rw[HE.out];rfl,rfl⟩
 have g1:(97:Int)<=(c.toNat:Int):=by omega
 have g2:¬(c.toNat:Int)<97:=by omega
 by_cases h2:c.toNat<=122
 ·have g3:(c.toNat:Int)<=122:=by omega
  have g4:¬(122:Int)<(c.toNat:Int):=by omega
  have HE:Hid (Sch.low c=true):=by show _=_;unfold Sch.low;rw[decide_eq_true (by omega)]
  clear h1 h2
  go_enter Tryz.func149,Tryz.ntmps149
  go_wp2
  go_ret
  exact⟨by rw[HE.out];rfl,rfl⟩
 ·have g3:¬(c.toNat:Int)<=122:=by omega
  have g4:(122:Int)<(c.toNat:Int):=by omega
  have HE:Hid (Sch.low c=false):=by show _=_;unfold Sch.low;rw[decide_eq_false (by omega)]
  clear h1 h2
  go_enter Tryz.func149,Tryz.ntmps149
  go_wp2
  go_ret
  exact⟨by rw[HE.out];rfl,rfl⟩
theorem qO(c:UInt8)(w:World):Calls Tryz.prog 150 #[.int .u8 c.toNat] w fun e w'=>e=.returned (.bool (dig c))∧w'=w:=by
 by_cases h1:c.toNat<48
 ·have g1:¬(48:Int)<=(c.toNat:Int):=by omega
  have g2:(c.toNat:Int)<48:=by omega
  have HE:Hid (dig c=false):=by show _=_;unfold dig;rw[decide_eq_false (by omega)]
  clear h1
  go_enter Tryz.func150,Tryz.ntmps150
  go_wp2
  go_ret
  exact⟨by rw[HE.out];rfl,rfl⟩
 have g1:(48:Int)<=(c.toNat:Int):=by omega
 have g2:¬(c.toNat:Int)<48:=by omega
 by_cases h2:c.toNat<=57
 ·have g3:(c.toNat:Int)<=57:=by omega
  have g4:¬(57:Int)<(c.toNat:Int):=by omega
  have HE:Hid (dig c=true):=by show _=_;unfold dig;rw[decide_eq_true (by omega)]
  clear h1 h2
  go_enter Tryz.func150,Tryz.ntmps150
  go_wp2
  go_ret
  exact⟨by rw[HE.out];rfl,rfl⟩
 ·have g3:¬(c.toNat:Int)<=57:=by omega
  have g4:(57:Int)<(c.toNat:Int):=by omega
  have HE:Hid (dig c=false):=by show _=_;unfold dig;rw[decide_eq_false (by omega)]
  clear h1 h2
  go_enter Tryz.func150,Tryz.ntmps150
  go_wp2
  go_ret
  exact⟨by rw[HE.out];rfl,rfl⟩
theorem sW(t:ByteArray)(w:World):Calls Tryz.prog 123 #[.string t] w fun e w'=>e=.returned (.bool (Sch.name t))∧w'=w:=by
 by_cases h1:t.size=0
 ·have g1:((t.size:Int)==0)=true:=bV (by omega)
  have HE:=vQ (dI (t:=t) (.inl (by omega)))
  clear h1
  go_enter Tryz.func123,Tryz.ntmps123
  go_wp2
  go_ret
  exact⟨by rw[HE.out];rfl,rfl⟩
 have g1:((t.size:Int)==0)=false:=aH (by omega)
 by_cases h2:16<t.size
 ·have g2:(16:Int)<(t.size:Int):=by omega
  have HE:=vQ (dI (t:=t) (.inr h2))
  clear h1 h2
  go_enter Tryz.func123,Tryz.ntmps123
  go_wp2
  go_ret
  exact⟨by rw[HE.out];rfl,rfl⟩
 have g2:¬(16:Int)<(t.size:Int):=by omega
 have h0:0<t.size:=by omega
 have h0':(0:Int)<(t.size:Int):=by omega
 have HL:=vQ (jk t[0])
 by_cases h3:Sch.low t[0]=false
 ·have HE:=vQ (jh h0 h3)
  rw[h3] at HL
  clear h3 h1 h2
  go_enter Tryz.func123,Tryz.ntmps123
  go_wp2_with fail
  refine(HL.out _).mono ?_
  rintro e w2 ⟨rfl,rfl⟩
  go_wp2
  go_ret
  exact⟨by rw[HE.out];rfl,rfl⟩
 have h3':Sch.low t[0]=true:=by simpa using h3
 have H3:=vQ h3'
 rw[h3'] at HL
 have H30:Hid (Sch.ch t[0]=true):=by show _=_;rw[tg,h3'];rfl
 clear h3 h3'
 go_enter Tryz.func123,Tryz.ntmps123
 go_wp2_with fail
 refine(HL.out _).mono ?_
 rintro e w2 ⟨rfl,rfl⟩
 clear HL
 go_wp2_with fail
 go_loop [3] (fun v3=>∃a:Nat,1<=a∧a<=t.size∧v3=.int .i64 a∧Hid (∀j (h:j<t.size),j<a->Sch.ch t[j]=true)) (fun v3=>t.size-(intOf v3).toNat)
 case atStart=>exact⟨1,by omega,by omega,rfl,fun j _ hj=>by
  have h00:j=0:=by omega
  subst h00
  exact H30.out⟩
 case round=>
  obtain⟨a,ha1,ha,rfl,HA⟩:=hrel
  by_cases hlt:a<t.size
  ·have hlt':(a:Int)<(t.size:Int):=by omega
   have HLa:=vQ (jk t[a])
   have HDa:=vQ (qO t[a])
   have HCh:=vQ (tg t[a])
   obtain⟨r1,hr1⟩:∃r,r=Sch.low t[a]:=⟨_,rfl⟩
   obtain⟨r2,hr2⟩:∃r,r=dig t[a]:=⟨_,rfl⟩
   rw[<-hr1] at HLa HCh
   rw[<-hr2] at HDa HCh
   clear hr1 hr2
   have HN:Hid (Sch.ch t[a]=true->∀j (h:j<t.size),j<a+1->Sch.ch t[j]=true):=fun hc j h hj=>by
    by_cases hja:j=a
    ·subst hja;exact hc
    ·exact HA.out j h (by omega)
   have HB:=vQ (kM (t:=t) a hlt)
   clear HA H3 H30
   go_wp2_with fail
   refine(HLa.out _).mono ?_
   rintro e w2 ⟨rfl,rfl⟩
   clear HLa
   cases r1 with
   |true=>
    have HC:Hid (Sch.ch t[a]=true):=by show _=_;rw[HCh.out];rfl
    clear HDa
    go_wp2
    go_round
    case rel=>exact⟨a+1,by omega,by omega,by go_num,HN.out HC.out⟩
    case measure=>simp[intOf];omega
   |false=>
    go_wp2_with fail
    refine(HDa.out _).mono ?_
    rintro e w2 ⟨rfl,rfl⟩
    clear HDa
    cases r2 with
    |true=>
     have HC:Hid (Sch.ch t[a]=true):=by show _=_;rw[HCh.out];rfl
     go_wp2
     go_round
     case rel=>exact⟨a+1,by omega,by omega,by go_num,HN.out HC.out⟩
     case measure=>simp[intOf];omega
    |false=>
     by_cases h95:t[a].toNat=95
     ·have k4:((t[a].toNat:Int) != 95)=false:=by rw[h95];rfl
      have HC:Hid (Sch.ch t[a]=true):=by show _=_;rw[HCh.out,decide_eq_true h95];rfl
      clear h95
      go_wp2
      go_round
      case rel=>exact⟨a+1,by omega,by omega,by go_num,HN.out HC.out⟩
      case measure=>simp[intOf];omega
     ·have k4:((t[a].toNat:Int) != 95)=true:=by rw[bne_iff_ne];omega
      have HC:Hid (Sch.ch t[a]=false):=by show _=_;rw[HCh.out,decide_eq_false h95];rfl
      clear h95
      go_wp2
      go_ret
      exact⟨by rw[HB.out HC.out];rfl,rfl⟩
  ·have HE:=vQ (ji (t:=t) (by omega) (by omega) H3.out (fun j h=>HA.out j h (by omega)))
   have hjn:¬(a:Int)<(t.size:Int):=by omega
   clear HA
   go_wp2
   go_ret
   exact⟨by rw[HE.out];rfl,rfl⟩
end
section
open Go.RowKit
theorem nS:∀(x y:Ty) (w:World) (u v:AV),ay w u x->ay w v y->Calls Tryz.prog 120 #[.agg u,.agg v] w fun e w'=>e=.returned (.bool (Ty.same x y))∧Below w.1.size w w':=by
 intro x
 refine Ty.ind (P:=fun x=>∀(y:Ty) (w:World) (u v:AV),ay w u x->ay w v y->Calls Tryz.prog 120 #[.agg u,.agg v] w fun e w'=>e=.returned (.bool (Ty.same x y))∧Below w.1.size w w') ?_ x
 rintro k xs ih ⟨k',ys⟩ w u v hx hy
 obtain⟨p,c,rfl,hxl,hxc,hxi⟩:=hx.open
 obtain⟨q,d,rfl,hyl,hyc,hyi⟩:=hy.open
 unfold al
 obtain⟨W0,hW0⟩:∃W0,W0=(w.alloc (.cells #[.int .i64 k,.slice p xs.length c] 83)).alloc (.cells #[.int .i64 k',.slice q ys.length d] 83):=⟨_,rfl⟩
 have HB0:Hid (Below w.1.size w W0):=by rw[hW0];exact vY.alloc (by simp) _
 have HY0:Hid (W0.cell? ⟨w.1.size,1,none⟩=some (.slice p xs.length c)∧W0.cell? ⟨w.1.size+1,1,none⟩=some (.slice q ys.length d)):=by rw[hW0];exact⟨by simp,by simp⟩
 have HW0:=vQ hW0
 clear hW0 hx hy
 by_cases h1:¬k=k'
 ·have g1:=ca h1
  have HE:Hid (Ty.same (.mk k xs) (.mk k' ys)=false):=by show _=_;simp[Ty.same_mk,h1]
  clear ih hxi hyi h1
  go_enter Tryz.func120,Tryz.ntmps120
  go_wp2
  rw[<-HW0.out]
  go_ret
  exact⟨by rw[HE.out];rfl,HB0.out⟩
 replace h1:k=k':=Classical.not_not.1 h1
 have g1:=cq h1
 by_cases h5:¬xs.length=ys.length
 ·have g5:((xs.length:Int) != (ys.length:Int))=true:=ca (by omega)
  have HE:Hid (Ty.same (.mk k xs) (.mk k' ys)=false):=by show _=_;simp[Ty.same_mk,Ty.sameL_ne xs ys h5]
  clear ih hxi hyi h1 h5
  go_enter Tryz.func120,Tryz.ntmps120
  go_wp2
  rw[<-HW0.out]
  go_ret
  exact⟨by rw[HE.out];rfl,HB0.out⟩
 replace h5:xs.length=ys.length:=Classical.not_not.1 h5
 have g5:((xs.length:Int) != (ys.length:Int))=false:=cq (by omega)
 have HE:Hid (Ty.same (.mk k xs) (.mk k' ys)=Ty.sameL xs ys):=by show _=_;simp[Ty.same_mk,h1]
 have HX:Hid (∀j (hj:j<xs.length),∃u',ay w u' xs[j]∧dB w p j u'):=hxi
 have HY2:Hid (∀j (hj:j<ys.length),∃u',ay w u' ys[j]∧dB w q j u'):=hyi
 have HIH:=vQ ih
 have H5:=vQ h5
 clear ih hxi hyi h1 h5
 go_enter Tryz.func120,Tryz.ntmps120
 go_wp2_with fail
 rw[<-HW0.out]
 clear HW0
 go_loopw [24] (fun v44 wr=>∃j:Nat,j<=xs.length∧v44=.int .i64 j∧Hid (Below W0.1.size W0 wr∧∀m (h1:m<xs.length) (h2:m<ys.length),m<j->Ty.same xs[m] ys[m]=true)) (fun v44 _=>xs.length-(intOf v44).toNat)
 case atStart=>exact⟨0,by omega,rfl,vZ,fun m _ _ h=>by omega⟩
 case round=>
  obtain⟨j,hj,rfl,HL⟩:=hrel
  have hbw:Below w.1.size w wr:=HB0.out.trans (HL.out.1.mono HB0.out.size)
  by_cases hlt:j<xs.length
  ·have hlt2:j<ys.length:=by have:=H5.out;omega
   obtain⟨ux,hvx,hix⟩:=HX.out j hlt
   obtain⟨uy,hvy,hiy⟩:=HY2.out j hlt2
   obtain⟨bx,ox,kx,qx,nx,cx,rfl,_,rfl,a0,a1⟩:=(hix.on hbw).lies
   obtain⟨by',oy,ky,qy,ny,cy,rfl,_,rfl,b0,b1⟩:=(hiy.on hbw).lies
   have HC:Hid (∀w',Below w.1.size w w'->Calls Tryz.prog 120 #[.agg #[.int .i64 kx,.slice qx nx cx],.agg #[.int .i64 ky,.slice qy ny cy]] w' fun e w''=>e=.returned (.bool (Ty.same xs[j] ys[j]))∧Below w'.1.size w' w'') :=
    fun w' hb=>HIH.out _ (List.getElem_mem hlt) ys[j] w' _ _ (hvx.on hb) (hvy.on hb)
   have HAll:=vQ HL.out.2
   have hj1:(j:Int)<(xs.length:Int):=by omega
   have hj2:(j:Int)<(ys.length:Int):=by omega
   obtain⟨r,hr⟩:∃r,r=Ty.same xs[j] ys[j]:=⟨_,rfl⟩
   rw[<-hr] at HC
   have HRr:=vQ hr
   obtain⟨wa,hwa⟩:∃wa,wa=wr.alloc (.cells #[.int .i64 kx,.slice qx nx cx] 83):=⟨_,rfl⟩
   have HBa:Hid (Below wr.1.size wr wa):=by rw[hwa];exact vY
   have HBw:Hid (Below w.1.size w wa):=hbw.trans (HBa.out.mono hbw.size)
   have HBW:Hid (Below W0.1.size W0 wa):=HL.out.1.trans (HBa.out.mono HL.out.1.size)
   have HWa:=vQ hwa
   have HY4:Hid (wa.cell? ⟨w.1.size+1,1,none⟩=some (.slice (some ⟨by',oy,none⟩) ys.length d)):=ab HBW.out HY0.out.2
   have HBs:Hid (wa.cell? ⟨by',oy+j*2,none⟩=some (.int .i64 ky)∧wa.cell? ⟨by',oy+j*2+1,none⟩=some (.slice qy ny cy)):=⟨ab HBa.out b0,ab HBa.out b1⟩
   have HAs:Hid (wa.cell? ⟨wr.1.size,0,none⟩=some (.int .i64 kx)∧wa.cell? ⟨wr.1.size,1,none⟩=some (.slice qx nx cx)):=by rw[hwa];exact⟨by simp,by simp⟩
   clear hvx hvy hix hiy hbw HL hr hwa b0 b1
   go_wp2_with fail
   rw[<-HWa.out]
   obtain⟨c0,c1⟩:=HAs.out
   obtain⟨d0,d1⟩:=HBs.out
   have d5:=HY4.out
   clear HAs HBs HY4 HWa a0 a1
   go_region_held3 (fun w'=>w'.cell? ⟨wr.1.size,0,none⟩=some (.int .i64 kx)∧w'.cell? ⟨wr.1.size,1,none⟩=some (.slice qx nx cx)∧w'.cell? ⟨by',oy+j*2,none⟩=some (.int .i64 ky)∧w'.cell? ⟨by',oy+j*2+1,none⟩=some (.slice qy ny cy)∧w'.cell? ⟨w.1.size+1,1,none⟩=some (.slice (some ⟨by',oy,none⟩) ys.length d)) (go_keep) (first
    | (go_at_call 120;refine(HC.out _ (below_drewN HBw.out _)).mono ?_;rintro e w4 ⟨rfl,hb4⟩;have hb5:=cf (w:=wa) hb4 (by rfl) (by rfl) (by rfl) (by rfl);have z3:=ab hb5 c0;have z4:=ab hb5 c1;have z5:=ab hb5 d0;have z6:=ab hb5 d1;have z7:=ab hb5 d5;have HB4:=vQ hb5;clear hb4 hb5))
   clear z3 z4 z5 z6 z7 c0 c1 d0 d1 d5
   cases r with
   |true=>
    have HN:Hid (Below W0.1.size W0 w4∧∀m (h1:m<xs.length) (h2:m<ys.length),m<j+1->Ty.same xs[m] ys[m]=true):=by
     refine⟨HBW.out.trans (HB4.out.mono HBW.out.size),fun m h1 h2 hm=>?_⟩
     by_cases hmj:m=j
     ·subst hmj;exact HRr.out.symm
     ·exact HAll.out m h1 h2 (by omega)
    clear HB4 HAll HC
    go_wp2
    go_roundw
    case rel=>exact⟨j+1,by omega,by go_num,HN⟩
    case measure=>simp[intOf];omega
   |false=>
    have HF0:Hid (Ty.sameL xs ys=false):=Ty.sameL_at xs ys j hlt hlt2 HRr.out.symm
    have HF:=vQ (HBw.out.trans (HB4.out.mono HBw.out.size))
    clear HB4 HAll HC
    go_wp2
    go_ret
    exact⟨by rw[HE.out,HF0.out];rfl,HF.out⟩
  ·have HF0:Hid (Ty.sameL xs ys=true):=Ty.sameL_all xs ys H5.out (fun m h1 h2=>HL.out.2 m h1 h2 (by omega))
   have HF:=vQ hbw
   have hjn:¬(j:Int)<(xs.length:Int):=by omega
   clear HL hbw hlt
   go_wp2
   go_ret
   exact⟨by rw[HE.out,HF0.out];rfl,HF.out⟩
end
section
open Go.RowKit
attribute [local go_sem] ai
theorem uK:∀(x:V) (y:Ty) (d:Nat) (w:World) (u v:AV),chk d x=0->Ty.check d y=0->ax w u x->ay w v y->Calls Tryz.prog 153 #[.agg u,.agg v] w fun e w'=>e=.returned (.bool (Sch.of x y))∧Below w.1.size w w':=by
 intro x
 refine V.ind (P:=fun x=>∀(y:Ty) (d:Nat) (w:World) (u v:AV),chk d x=0->Ty.check d y=0->ax w u x->ay w v y->Calls Tryz.prog 153 #[.agg u,.agg v] w fun e w'=>e=.returned (.bool (Sch.of x y))∧Below w.1.size w w') ?_ x
 rintro k i b t xs ih ⟨k',ys⟩ d w u v hc hd hx hy
 obtain⟨p,c,rfl,hxl,hxc,hxi⟩:=hx.open
 obtain⟨q,e,rfl,hyl,hyc,hyi⟩:=hy.open
 unfold cells5 al
 obtain⟨W0,hW0⟩:∃W0,W0=(w.alloc (.cells #[.int .i64 k,.int .i64 i,.float .f64 b,.string t,.slice p xs.length c] 87)).alloc (.cells #[.int .i64 k',.slice q ys.length e] 83):=⟨_,rfl⟩
 have HB0:Hid (Below w.1.size w W0):=by rw[hW0];exact vY.alloc (by simp) _
 have HY0:Hid (W0.cell? ⟨w.1.size+1,1,none⟩=some (.slice q ys.length e)):=by show _=_;rw[hW0];simp
 have HW0:=vQ hW0
 clear hW0 hx hy
 by_cases h1:¬k=k'
 ·have g1:=ca h1
  have HE:Hid (Sch.of (.mk k i b t xs) (.mk k' ys)=false):=by show _=_;rw[Sch.of_mk,aH h1,Bool.false_and]
  clear ih hxi hyi h1 hc hd
  go_enter Tryz.func153,Tryz.ntmps153
  go_wp2
  rw[<-HW0.out]
  go_ret
  exact⟨by rw[HE.out];rfl,HB0.out⟩
 replace h1:k=k':=Classical.not_not.1 h1
 have g1:=cq h1
 have HE:Hid (Sch.of (.mk k i b t xs) (.mk k' ys)=xs.all (fun x=>Sch.of x (Sch.inner (.mk k' ys)))):=by show _=_;rw[Sch.of_mk,bV h1,Bool.true_and]
 obtain⟨hd4,hcs,hct⟩:=Sch.ty_open hd
 obtain⟨-,ho,-,hn,-,hcx⟩:=Sch.chk_open hc
 obtain⟨-,-,-,-,o5,-⟩:=Sch.own_open ho
 have HX:Hid (dl w p xs):=hxi
 have HIH:=vQ ih
 -- what the type is of,where there are items
 have HT:Hid (0<xs.length->∃z,ys=[z]∧Ty.check (d+1) z=0∧Sch.inner (.mk k' ys)=z∧∃u',ay w u' z∧dB w q 0 u'):=by
  intro hp
  rcases hct with ⟨h6,-⟩ | ⟨h6,z,rfl,hz⟩
  ·omega
  ·obtain⟨u',hu1,hu2⟩:=hyi 0 (by simp)
   exact⟨z,rfl,hz,rfl,u',hu1,hu2⟩
 have HCX:=vQ hcx
 clear ih hxi hyi hc hd hct hcs h1 hcx ho o5
 go_enter Tryz.func153,Tryz.ntmps153
 go_wp2_with fail
 rw[<-HW0.out]
 clear HW0
 go_loopw [15] (fun v5 wr=>∃j:Nat,j<=xs.length∧v5=.int .i64 j∧Hid (Below W0.1.size W0 wr∧∀m (h1:m<xs.length),m<j->Sch.of xs[m] (Sch.inner (.mk k' ys))=true)) (fun v5 _=>xs.length-(intOf v5).toNat)
 case atStart=>exact⟨0,by omega,rfl,vZ,fun m _ h=>by omega⟩
 case round=>
  obtain⟨j,hj,rfl,HL⟩:=hrel
  have hbw:Below w.1.size w wr:=HB0.out.trans (HL.out.1.mono HB0.out.size)
  by_cases hlt:j<xs.length
  ·obtain⟨ux,hvx,hix⟩:=HX.out j hlt
   obtain⟨z,hys,hz,hin,uy,hvy,hiy⟩:=HT.out (by omega)
   obtain⟨bx,ox,kx,ix,fx,tx,qx,nx,cx,rfl,_,rfl,a0,a1,a2,a3,a4⟩:=(hix.on hbw).lies
   obtain⟨by',oy,ky,qy,ny,cy,rfl,_,rfl,b0,b1⟩:=(hiy.on hbw).lies
   rw[Nat.zero_mul,Nat.add_zero] at b0 b1
   have hl1:ys.length=1:=by rw[hys];rfl
   have HC:Hid (∀w',Below w.1.size w w'->Calls Tryz.prog 153 #[.agg #[.int .i64 kx,.int .i64 ix,.float .f64 fx,.string tx,.slice qx nx cx],.agg #[.int .i64 ky,.slice qy ny cy]] w' fun e w''=>e=.returned (.bool (Sch.of xs[j] (Sch.inner (.mk k' ys))))∧Below w'.1.size w' w''):=fun w' hb=>by
    rw[hin]
    exact HIH.out _ (List.getElem_mem hlt) z (d+1) w' _ _ (HCX.out _ (List.getElem_mem hlt)) hz (hvx.on hb) (hvy.on hb)
   have HAll:=vQ HL.out.2
   have hj1:(j:Int)<(xs.length:Int):=by omega
   obtain⟨r,hr⟩:∃r,r=Sch.of xs[j] (Sch.inner (.mk k' ys)):=⟨_,rfl⟩
   rw[<-hr] at HC
   have HRr:=vQ hr
   obtain⟨wa,hwa⟩:∃wa,wa=wr.alloc (.cells #[.int .i64 kx,.int .i64 ix,.float .f64 fx,.string tx,.slice qx nx cx] 87):=⟨_,rfl⟩
   have HBa:Hid (Below wr.1.size wr wa):=by rw[hwa];exact vY
   have HBw:Hid (Below w.1.size w wa):=hbw.trans (HBa.out.mono hbw.size)
   have HBW:Hid (Below W0.1.size W0 wa):=HL.out.1.trans (HBa.out.mono HL.out.1.size)
   have HWa:=vQ hwa
   have HY4:Hid (wa.cell? ⟨w.1.size+1,1,none⟩=some (.slice (some ⟨by',oy,none⟩) 1 e)):=by have:=ab HBW.out HY0.out;rw[hl1] at this;exact this
   have HBs:Hid (wa.cell? ⟨by',oy,none⟩=some (.int .i64 ky)∧wa.cell? ⟨by',oy+1,none⟩=some (.slice qy ny cy)):=⟨ab HBa.out b0,ab HBa.out b1⟩
   have HAs:Hid (wa.cell? ⟨wr.1.size,0,none⟩=some (.int .i64 kx)∧wa.cell? ⟨wr.1.size,1,none⟩=some (.int .i64 ix)∧wa.cell? ⟨wr.1.size,2,none⟩=some (.float .f64 fx)∧wa.cell? ⟨wr.1.size,3,none⟩=some (.string tx)∧wa.cell? ⟨wr.1.size,4,none⟩=some (.slice qx nx cx)):=by rw[hwa];exact⟨by simp,by simp,by simp,by simp,by simp⟩
   clear hvx hvy hix hiy hbw HL hr hin hz hys hl1 hwa b0 b1
   go_wp2_with fail
   rw[<-HWa.out]
   obtain⟨c0,c1,c2,c3,c4⟩:=HAs.out
   obtain⟨d0,d1⟩:=HBs.out
   have d5:=HY4.out
   clear HAs HBs HY4 HWa a0 a1 a2 a3 a4
   go_region_held3 (fun w'=>w'.cell? ⟨wr.1.size,0,none⟩=some (.int .i64 kx)∧w'.cell? ⟨wr.1.size,1,none⟩=some (.int .i64 ix)∧w'.cell? ⟨wr.1.size,2,none⟩=some (.float .f64 fx)∧w'.cell? ⟨wr.1.size,3,none⟩=some (.string tx)∧w'.cell? ⟨wr.1.size,4,none⟩=some (.slice qx nx cx)∧w'.cell? ⟨by',oy,none⟩=some (.int .i64 ky)∧w'.cell? ⟨by',oy+1,none⟩=some (.slice qy ny cy)∧w'.cell? ⟨w.1.size+1,1,none⟩=some (.slice (some ⟨by',oy,none⟩) 1 e)) (go_keep) (first
    | (go_at_call 153;refine(HC.out _ (below_drewN HBw.out _)).mono ?_;rintro e w4 ⟨rfl,hb4⟩;have hb5:=cf (w:=wa) hb4 (by rfl) (by rfl) (by rfl) (by rfl);have z3:=ab hb5 c0;have z4:=ab hb5 c1;have z5:=ab hb5 c2;have z6:=ab hb5 c3;have z7:=ab hb5 c4;have z8:=ab hb5 d0;have z9:=ab hb5 d1;have z10:=ab hb5 d5;have HB4:=vQ hb5;clear hb4 hb5))
   clear z3 z4 z5 z6 z7 z8 z9 z10 c0 c1 c2 c3 c4 d0 d1 d5
   cases r with
   |true=>
    have HN:Hid (Below W0.1.size W0 w4∧∀m (h1:m<xs.length),m<j+1->Sch.of xs[m] (Sch.inner (.mk k' ys))=true):=by
     refine⟨HBW.out.trans (HB4.out.mono HBW.out.size),fun m h1 hm=>?_⟩
     by_cases hmj:m=j
     ·subst hmj;exact HRr.out.symm
     ·exact HAll.out m h1 (by omega)
    clear HB4 HAll HC
    go_wp2
    go_roundw
    case rel=>exact⟨j+1,by omega,by go_num,HN⟩
    case measure=>simp[intOf];omega
   |false=>
    have HF0:Hid (xs.all (fun x=>Sch.of x (Sch.inner (.mk k' ys)))=false):=by
     show _=_
     rw[List.all_eq_false]
     exact⟨xs[j],List.getElem_mem hlt,by rw[<-HRr.out];decide⟩
    have HF:=vQ (HBw.out.trans (HB4.out.mono HBw.out.size))
    clear HB4 HAll HC
    go_wp2
    go_ret
    exact⟨by rw[HE.out,HF0.out];rfl,HF.out⟩
  ·have HF0:Hid (xs.all (fun x=>Sch.of x (Sch.inner (.mk k' ys)))=true):=by
    show _=_
    rw[List.all_eq_true]
    intro x hx
    obtain⟨m,hm,rfl⟩:=List.getElem_of_mem hx
    exact HL.out.2 m hm (by omega)
   have HF:=vQ hbw
   have hjn:¬(j:Int)<(xs.length:Int):=by omega
   clear HL hbw hlt
   go_wp2
   go_ret
   exact⟨by rw[HE.out,HF0.out];rfl,HF.out⟩
end
section
open Go.RowKit
attribute [local go_sem] ai
theorem ku(x y:Col)(w:World)(u v:AV)(hu:dC w u x)(hw:dC w v y):Calls Tryz.prog 87 #[.agg u,.agg v] w fun e w'=>e=.returned (.bool (Sch.colSame x y))∧Below w.1.size w w':=by
 obtain⟨k,tp,tn,tc,vk,vi,vb,vt,vp,vn,vc,rfl,ht,hv⟩:=hu.out
 obtain⟨k',tp',tn',tc',vk',vi',vb',vt',vp',vn',vc',rfl,ht',hv'⟩:=hw.out
 obtain⟨nm,ty,has,df⟩:=x
 obtain⟨nm',ty',has',df'⟩:=y
 dsimp only at ht hv ht' hv'
 unfold aA
 obtain⟨W0,hW0⟩:∃W0,W0=(w.alloc (.cells #[.string nm,.int .i64 k,.slice tp tn tc,.bool has,.int .i64 vk,.int .i64 vi,.float .f64 vb,.string vt,.slice vp vn vc] 89)).alloc (.cells #[.string nm',.int .i64 k',.slice tp' tn' tc',.bool has',.int .i64 vk',.int .i64 vi',.float .f64 vb',.string vt',.slice vp' vn' vc'] 89):=⟨_,rfl⟩
 have HB0:Hid (Below w.1.size w W0):=by rw[hW0];exact vY.alloc (by simp) _
 have HY:Hid (W0.cell? ⟨w.1.size,4,none⟩=some (.int .i64 vk)∧W0.cell? ⟨w.1.size,5,none⟩=some (.int .i64 vi)∧W0.cell? ⟨w.1.size,6,none⟩=some (.float .f64 vb)∧W0.cell? ⟨w.1.size,7,none⟩=some (.string vt)∧W0.cell? ⟨w.1.size,8,none⟩=some (.slice vp vn vc)∧W0.cell? ⟨w.1.size+1,4,none⟩=some (.int .i64 vk')∧W0.cell? ⟨w.1.size+1,5,none⟩=some (.int .i64 vi')∧W0.cell? ⟨w.1.size+1,6,none⟩=some (.float .f64 vb')∧W0.cell? ⟨w.1.size+1,7,none⟩=some (.string vt')∧W0.cell? ⟨w.1.size+1,8,none⟩=some (.slice vp' vn' vc')):=by rw[hW0];refine⟨?_,?_,?_,?_,?_,?_,?_,?_,?_,?_⟩ <;> simp
 have HT:=vQ (nS ty ty' W0 _ _ (ht.on HB0.out) (ht'.on HB0.out))
 have HV:=vQ (fun w' (hb:Below W0.1.size W0 w')=>sR df df' w' _ _ ((hv.on HB0.out).on hb) ((hv'.on HB0.out).on hb))
 unfold al at HT
 unfold cells5 at HV
 have HE:Hid (Sch.colSame ⟨nm,ty,has,df⟩ ⟨nm',ty',has',df'⟩=(decide (nm=nm')&&(has==has')&&Ty.same ty ty'&&V.same df df')):=rfl
 obtain⟨R,hR⟩:∃R,R=Sch.colSame ⟨nm,ty,has,df⟩ ⟨nm',ty',has',df'⟩:=⟨_,rfl⟩
 rw[<-hR] at HE ⊢
 obtain⟨r1,hr1⟩:∃r,r=Ty.same ty ty':=⟨_,rfl⟩
 rw[<-hr1] at HT HE
 obtain⟨r2,hr2⟩:∃r,r=V.same df df':=⟨_,rfl⟩
 rw[<-hr2] at HV HE
 have HW0:=vQ hW0
 clear hW0 ht ht' hv hv' hu hw hR hr1 hr2
 by_cases hn:nm=nm'
 ·have gn:(nm.toList==nm'.toList)=true:=by rw[cF,decide_eq_true hn]
  by_cases hh:has=has'
  ·have HE2:Hid (R=(r1&&r2)):=by show _=_;rw[HE.out,decide_eq_true hn,hh,beq_self_eq_true,Bool.true_and,Bool.true_and]
   subst hh
   clear hn HE
   have gh:(has==has)=true:=by simp
   go_enter Tryz.func87,Tryz.ntmps87
   go_wp2_with fail
   rw[<-HW0.out]
   clear HW0
   refine HT.out.mono ?_
   rintro e w1 ⟨rfl,hb1⟩
   have HB1:=vQ hb1
   have HBw:=vQ (HB0.out.trans (hb1.mono HB0.out.size))
   clear hb1 HT
   cases r1 with
   |true=>
    obtain⟨y0,y1,y2,y3,y4,y5,y6,y7,y8,y9⟩:=HY.out
    have c0:=ab HB1.out y0
    have c1:=ab HB1.out y1
    have c2:=ab HB1.out y2
    have c3:=ab HB1.out y3
    have c4:=ab HB1.out y4
    have c5:=ab HB1.out y5
    have c6:=ab HB1.out y6
    have c7:=ab HB1.out y7
    have c8:=ab HB1.out y8
    have c9:=ab HB1.out y9
    have HV1:=vQ (HV.out w1 HB1.out)
    clear y0 y1 y2 y3 y4 y5 y6 y7 y8 y9 HY HV
    go_wp2_with fail
    refine HV1.out.mono ?_
    rintro e w2 ⟨rfl,hb2⟩
    have HB2:=vQ (HBw.out.trans (hb2.mono HBw.out.size))
    clear hb2 c0 c1 c2 c3 c4 c5 c6 c7 c8 c9
    go_wp2
    go_ret
    exact⟨by rw[HE2.out];rfl,HB2.out⟩
   |false=>
    clear HV HY
    go_wp2
    go_ret
    exact⟨by rw[HE2.out];rfl,HBw.out⟩
  ·have HE2:Hid (R=false):=by
    show _=_
    have hb:(has==has')=false:=by(cases has <;> cases has' <;> first | rfl | exact absurd rfl hh)
    rw[HE.out,hb,Bool.and_false,Bool.false_and,Bool.false_and]
   clear HE hn HV HT
   cases has <;> cases has' <;> try exact absurd rfl hh
   all_goals
    clear hh
    go_enter Tryz.func87,Tryz.ntmps87
    go_wp2
    rw[<-HW0.out]
    go_ret
    exact⟨by rw[HE2.out];rfl,HB0.out⟩
 ·have gn:(nm.toList==nm'.toList)=false:=by rw[cF,decide_eq_false hn]
  have HE2:Hid (R=false):=by show _=_;rw[HE.out,decide_eq_false hn,Bool.false_and,Bool.false_and,Bool.false_and]
  clear HE hn HV HT
  go_enter Tryz.func87,Tryz.ntmps87
  go_wp2
  rw[<-HW0.out]
  go_ret
  exact⟨by rw[HE2.out];rfl,HB0.out⟩
theorem tl(s t:List Col)(p q:OA)(c d:Nat)(w:World)(hs:s.length*120<=140737488351232)(hx:bg w p s)(hy:bg w q t):
  Calls Tryz.prog 61 #[.agg #[.slice p s.length c],.agg #[.slice q t.length d]] w fun e w'=>e=.returned (.bool (Sch.same s t))∧Below w.1.size w w':=by
 obtain⟨W0,hW0⟩:∃W0,W0=(w.alloc (.cells #[.slice p s.length c] 30)).alloc (.cells #[.slice q t.length d] 30):=⟨_,rfl⟩
 have HB0:Hid (Below w.1.size w W0):=by rw[hW0];exact vY.alloc (by simp) _
 have HY0:Hid (W0.cell? ⟨w.1.size,0,none⟩=some (.slice p s.length c)∧W0.cell? ⟨w.1.size+1,0,none⟩=some (.slice q t.length d)):=by rw[hW0];exact⟨by simp,by simp⟩
 have HW0:=vQ hW0
 have HX:=vQ hx
 have HY:=vQ hy
 clear hW0 hx hy
 by_cases h5:¬s.length=t.length
 ·have g5:((s.length:Int) != (t.length:Int))=true:=ca (by omega)
  have HE:=vQ (gS s t h5)
  clear h5
  go_enter Tryz.func61,Tryz.ntmps61
  go_wp2
  rw[<-HW0.out]
  go_ret
  exact⟨by rw[HE.out];rfl,HB0.out⟩
 replace h5:s.length=t.length:=Classical.not_not.1 h5
 have g5:((s.length:Int) != (t.length:Int))=false:=cq (by omega)
 have H5:=vQ h5
 clear h5
 go_enter Tryz.func61,Tryz.ntmps61
 go_wp2_with fail
 rw[<-HW0.out]
 clear HW0
 go_loopw [17] (fun v5 wr=>∃j:Nat,j<=s.length∧v5=.int .i64 j∧Hid (Below W0.1.size W0 wr∧∀m (h1:m<s.length) (h2:m<t.length),m<j->Sch.colSame s[m] t[m]=true)) (fun v5 _=>s.length-(intOf v5).toNat)
 case atStart=>exact⟨0,by omega,rfl,vZ,fun m _ _ h=>by omega⟩
 case round=>
  obtain⟨j,hj,rfl,HL⟩:=hrel
  have hbw:Below w.1.size w wr:=HB0.out.trans (HL.out.1.mono HB0.out.size)
  by_cases hlt:j<s.length
  ·have hlt2:j<t.length:=by have:=H5.out;omega
   obtain⟨bx,ox,k,tp,tn,tc,vk,vi,vb,vt,vp,vn,vc,rfl,_,hx9,htx,hvx⟩:=(HX.out.on hbw).at j hlt
   obtain⟨by',oy,k',tp',tn',tc',vk',vi',vb',vt',vp',vn',vc',rfl,_,hy9,hty,hvy⟩:=(HY.out.on hbw).at j hlt2
   have HC:Hid (∀w',Below wr.1.size wr w'->Calls Tryz.prog 87 #[.agg (aA s[j].name k tp tn tc s[j].has vk vi vb vt vp vn vc),.agg (aA t[j].name k' tp' tn' tc' t[j].has vk' vi' vb' vt' vp' vn' vc')] w' fun e w''=>e=.returned (.bool (Sch.colSame s[j] t[j]))∧Below w'.1.size w' w'') :=
    fun w' hb=>ku s[j] t[j] w' _ _ ⟨k,tp,tn,tc,vk,vi,vb,vt,vp,vn,vc,rfl,htx.on hb,hvx.on hb⟩ ⟨k',tp',tn',tc',vk',vi',vb',vt',vp',vn',vc',rfl,hty.on hb,hvy.on hb⟩
   unfold aA at HC
   have HAll:=vQ HL.out.2
   have hj1:(j:Int)<(s.length:Int):=by omega
   have hj2:(j:Int)<(t.length:Int):=by omega
   obtain⟨r,hr⟩:∃r,r=Sch.colSame s[j] t[j]:=⟨_,rfl⟩
   rw[<-hr] at HC
   have HRr:=vQ hr
   clear hr htx hvx hty hvy
   have HBr:=vQ HL.out.1
   clear HL
   obtain⟨nx,hnx⟩:∃n,n=s[j].name:=⟨_,rfl⟩
   obtain⟨hx,hhx⟩:∃n,n=s[j].has:=⟨_,rfl⟩
   obtain⟨ny,hny⟩:∃n,n=t[j].name:=⟨_,rfl⟩
   obtain⟨hy,hhy⟩:∃n,n=t[j].has:=⟨_,rfl⟩
   rw[<-hnx,<-hhx] at hx9 HC
   rw[<-hny,<-hhy] at hy9 HC
   clear hnx hhx hny hhy
   obtain⟨a0,a1,a2,a3,a4,a5,a6,a7,a8⟩:=hx9
   obtain⟨wa,hwa⟩:∃wa,wa=wr.alloc (.cells #[.string nx,.int .i64 k,.slice tp tn tc,.bool hx,.int .i64 vk,.int .i64 vi,.float .f64 vb,.string vt,.slice vp vn vc] 89):=⟨_,rfl⟩
   have HBa:Hid (Below wr.1.size wr wa):=by rw[hwa];exact vY
   have HBw:Hid (Below w.1.size w wa):=hbw.trans (HBa.out.mono hbw.size)
   have HBW:Hid (Below W0.1.size W0 wa):=HBr.out.trans (HBa.out.mono HBr.out.size)
   have HWa:=vQ hwa
   have HY4:Hid (wa.cell? ⟨w.1.size+1,0,none⟩=some (.slice (some ⟨by',oy,none⟩) t.length d)):=ab HBW.out HY0.out.2
   have HBs:=vQ (hy9.on HBa.out)
   have HAs:Hid (wa.cell? ⟨wr.1.size,0,none⟩=some (.string nx)∧wa.cell? ⟨wr.1.size,1,none⟩=some (.int .i64 k)∧wa.cell? ⟨wr.1.size,2,none⟩=some (.slice tp tn tc)∧wa.cell? ⟨wr.1.size,3,none⟩=some (.bool hx)∧wa.cell? ⟨wr.1.size,4,none⟩=some (.int .i64 vk)∧wa.cell? ⟨wr.1.size,5,none⟩=some (.int .i64 vi)∧wa.cell? ⟨wr.1.size,6,none⟩=some (.float .f64 vb)∧wa.cell? ⟨wr.1.size,7,none⟩=some (.string vt)∧wa.cell? ⟨wr.1.size,8,none⟩=some (.slice vp vn vc)):=by rw[hwa];refine⟨?_,?_,?_,?_,?_,?_,?_,?_,?_⟩ <;> simp
   clear hbw hwa hy9
   go_wp2_with fail
   rw[<-HWa.out]
   obtain⟨c0,c1,c2,c3,c4,c5,c6,c7,c8⟩:=HAs.out
   obtain⟨d0,d1,d2,d3,d4,d5,d6,d7,d8⟩:=HBs.out
   have d9:=HY4.out
   clear HAs HBs HY4 HWa a0 a1 a2 a3 a4 a5 a6 a7 a8
   go_region_held3 (fun w'=>w'.cell? ⟨wr.1.size,0,none⟩=some (.string nx)∧w'.cell? ⟨wr.1.size,1,none⟩=some (.int .i64 k)∧w'.cell? ⟨wr.1.size,2,none⟩=some (.slice tp tn tc)∧w'.cell? ⟨wr.1.size,3,none⟩=some (.bool hx)∧w'.cell? ⟨wr.1.size,4,none⟩=some (.int .i64 vk)∧w'.cell? ⟨wr.1.size,5,none⟩=some (.int .i64 vi)∧w'.cell? ⟨wr.1.size,6,none⟩=some (.float .f64 vb)∧w'.cell? ⟨wr.1.size,7,none⟩=some (.string vt)∧w'.cell? ⟨wr.1.size,8,none⟩=some (.slice vp vn vc)∧w'.cell? ⟨by',oy+j*9,none⟩=some (.string ny)∧w'.cell? ⟨by',oy+j*9+1,none⟩=some (.int .i64 k')∧w'.cell? ⟨by',oy+j*9+2,none⟩=some (.slice tp' tn' tc')∧w'.cell? ⟨by',oy+j*9+3,none⟩=some (.bool hy)∧w'.cell? ⟨by',oy+j*9+4,none⟩=some (.int .i64 vk')∧w'.cell? ⟨by',oy+j*9+5,none⟩=some (.int .i64 vi')∧w'.cell? ⟨by',oy+j*9+6,none⟩=some (.float .f64 vb')∧w'.cell? ⟨by',oy+j*9+7,none⟩=some (.string vt')∧w'.cell? ⟨by',oy+j*9+8,none⟩=some (.slice vp' vn' vc')∧w'.cell? ⟨w.1.size+1,0,none⟩=some (.slice (some ⟨by',oy,none⟩) t.length d)) (go_keep) (first
    | (go_at_call 87;refine(HC.out _ (below_drewN HBa.out _)).mono ?_;rintro e w4 ⟨rfl,hb4⟩;have hb5:=cf (w:=wa) hb4 (by rfl) (by rfl) (by rfl) (by rfl);have z0:=ab hb5 c0;have z1:=ab hb5 c1;have z2:=ab hb5 c2;have z3:=ab hb5 c3;have z4:=ab hb5 c4;have z5:=ab hb5 c5;have z6:=ab hb5 c6;have z7:=ab hb5 c7;have z8:=ab hb5 c8;have y0:=ab hb5 d0;have y1:=ab hb5 d1;have y2:=ab hb5 d2;have y3:=ab hb5 d3;have y4:=ab hb5 d4;have y5:=ab hb5 d5;have y6:=ab hb5 d6;have y7:=ab hb5 d7;have y8:=ab hb5 d8;have y9:=ab hb5 d9;have HB4:=vQ hb5;clear hb4 hb5))
   clear z0 z1 z2 z3 z4 z5 z6 z7 z8 y0 y1 y2 y3 y4 y5 y6 y7 y8 y9 c0 c1 c2 c3 c4 c5 c6 c7 c8 d0 d1 d2 d3 d4 d5 d6 d7 d8 d9
   cases r with
   |true=>
    have HN:Hid (Below W0.1.size W0 w4∧∀m (h1:m<s.length) (h2:m<t.length),m<j+1->Sch.colSame s[m] t[m]=true):=by
     refine⟨HBW.out.trans (HB4.out.mono HBW.out.size),fun m h1 h2 hm=>?_⟩
     by_cases hmj:m=j
     ·subst hmj;exact HRr.out.symm
     ·exact HAll.out m h1 h2 (by omega)
    clear HB4 HAll HC
    go_wp2
    go_roundw
    case rel=>exact⟨j+1,by omega,by go_num,HN⟩
    case measure=>simp[intOf];omega
   |false=>
    have HF0:Hid (Sch.same s t=false):=gT s t j hlt hlt2 HRr.out.symm
    have HF:=vQ (HBw.out.trans (HB4.out.mono HBw.out.size))
    clear HB4 HAll HC
    go_wp2
    go_ret
    exact⟨by rw[HF0.out];rfl,HF.out⟩
  ·have HF0:Hid (Sch.same s t=true):=fL s t H5.out (fun m h1 h2=>HL.out.2 m h1 h2 (by omega))
   have HF:=vQ hbw
   have hjn:¬(j:Int)<(s.length:Int):=by omega
   clear HL hbw hlt
   go_wp2
   go_ret
   exact⟨by rw[HF0.out];rfl,HF.out⟩
end
section
open Go.RowKit Go.Maps
theorem oC:Keyed Tryz.prog 9:=string_keyed Tryz.underlying9
theorem mY(w:World):(zeroValue 3).run Tryz.prog w=.ok (.int .i64 0) w:=by kernel_rfl
def kQ(t:ByteArray):Lit:=.string t.data.toList
theorem qF{a b:ByteArray}(h:kQ a=kQ b):a=b:=by
 unfold kQ at h
 injection h with h
 obtain⟨⟨a⟩⟩:=a
 obtain⟨⟨b⟩⟩:=b
 simp_all
theorem ni{t:ByteArray}(h:t.size<=140737488351232):keyOf Tryz.prog 9 (.string t)=some (kQ t):=Go.WideMaps.keyOf_string_mk Tryz.underlying9 (by unfold maxLen;omega)
structure cr(w:World)(M n:Nat)(l:List Col):Prop where
 out:∃D:DataW Unit,w.ownsMap Tryz.prog 9 (plainElem Tryz.prog 3) M n D∧∀t:ByteArray,has D (kQ t)=l.any (fun x=>decide (x.name=t))
theorem ii(w:World):cr (w.alloc (.map #[] 0)) w.1.size 0 []:=⟨.map [],World.ownsMap_made _ _ _ _,fun _=>rfl⟩
theorem cr.lt{w:World}{M n:Nat}{l:List Col}(h:cr w M n l):M<w.1.size:=by
 obtain⟨D,h1,_⟩:=h.out
 exact h1.lt
theorem cr.keep{w w':World}{M n:Nat}{l:List Col}(h:cr w M n l)(hb:w'.1[M]?=w.1[M]?):cr w' M n l:=by
 obtain⟨D,⟨es,clock,h1,h2⟩,h3⟩:=h.out
 exact⟨D,⟨es,clock,hb.trans h1,h2⟩,h3⟩
theorem nw{D:DataW Unit}{P:Program}{k:TypeId}{R:Value->Option (DataW Unit×List MemPlace)}{w:World}{M n:Nat}{l:List Col}(hm:w.ownsMap P k R M n D)(h:∀t:ByteArray,has D (kQ t)=l.any (fun x=>decide (x.name=t)))(c:Col)(d:DataW Unit)(t:ByteArray):
  has (D.put (kQ c.name) d) (kQ t)=(l++[c]).any (fun x=>decide (x.name=t)):=by
 rw[List.any_append]
 by_cases hc:c.name=t
 ·subst hc
  rw[has_put_same hm.isMap (by trivial)]
  simp
 ·rw[has_put_other (fun e=>hc (qF e).symm),h t]
  simp[hc]
end
section
open Go.RowKit Go.Maps
attribute [local go_sem] ai
def iu(c:Col):Nat:=if c.has=false then (if V.same c.dflt V0 then 0 else 80) else if chk 1 c.dflt≠0 then chk 1 c.dflt else if Sch.is c.dflt c.ty then 0 else 80
theorem pb(l:List Col)(c:Col):Sch.colErr l c=if Sch.name c.name=false then 70 else if l.any (fun x=>decide (x.name=c.name)) then 71 else if Ty.check 1 c.ty≠0 then Ty.check 1 c.ty else iu c:=rfl
theorem lA(w:World):ax w (cells5 0 0 0 ⟨#[]⟩ none 0 0) V0:=ax.mk (xs:=[]) (fun _=>#[]) (by simp) (by simp) (fun hc=>absurd rfl hc) (fun j hj=>by simp at hj)
theorem iP(x:Col)(w:World)(u:AV)(hu:dC w u x)(hty:Ty.check 1 x.ty=0):Calls Tryz.prog 125 #[.agg u] w fun e w'=>e=.returned (.int .i64 (iu x:Nat))∧Below w.1.size w w':=by
 obtain⟨k,tp,tn,tc,vk,vi,vb,vt,vp,vn,vc,rfl,ht,hv⟩:=hu.out
 obtain⟨nm,ty,has,df⟩:=x
 dsimp only at ht hv hty
 unfold aA
 obtain⟨W0,hW0⟩:∃W0,W0=w.alloc (.cells #[.string nm,.int .i64 k,.slice tp tn tc,.bool has,.int .i64 vk,.int .i64 vi,.float .f64 vb,.string vt,.slice vp vn vc] 89):=⟨_,rfl⟩
 have HB0:Hid (Below w.1.size w W0):=by rw[hW0];exact vY
 have HY:Hid (W0.cell? ⟨w.1.size,1,none⟩=some (.int .i64 k)∧W0.cell? ⟨w.1.size,2,none⟩=some (.slice tp tn tc)∧W0.cell? ⟨w.1.size,4,none⟩=some (.int .i64 vk)∧W0.cell? ⟨w.1.size,5,none⟩=some (.int .i64 vi)∧W0.cell? ⟨w.1.size,6,none⟩=some (.float .f64 vb)∧W0.cell? ⟨w.1.size,7,none⟩=some (.string vt)∧W0.cell? ⟨w.1.size,8,none⟩=some (.slice vp vn vc)):=by rw[hW0];refine⟨?_,?_,?_,?_,?_,?_,?_⟩ <;> simp
 have HS:=vQ (sR df V0 W0 _ _ (hv.on HB0.out) (lA W0))
 have HC:=vQ (t9 df W0 _ (hv.on HB0.out))
 have HO:=vQ (fun w' (hb:Below W0.1.size W0 w') h1=>uK df ty 1 w' _ _ h1 hty ((hv.on HB0.out).on hb) ((ht.on HB0.out).on hb))
 have HI:Hid (chk 1 df=0->Sch.is df ty=Sch.of df ty):=fun h=>by
  unfold Sch.is
  rw[decide_eq_true hty,decide_eq_true h]
  rfl
 have HE:Hid (iu ⟨nm,ty,has,df⟩=if has=false then (if V.same df V0 then 0 else 80) else if chk 1 df≠0 then chk 1 df else if Sch.is df ty then 0 else 80):=rfl
 obtain⟨R,hR⟩:∃R,R=iu ⟨nm,ty,has,df⟩:=⟨_,rfl⟩
 rw[<-hR] at HE ⊢
 obtain⟨r1,hr1⟩:∃r,r=V.same df V0:=⟨_,rfl⟩
 rw[<-hr1] at HS HE
 obtain⟨r2,hr2⟩:∃r,r=chk 1 df:=⟨_,rfl⟩
 rw[<-hr2] at HC HE HO HI
 obtain⟨r3,hr3⟩:∃r,r=Sch.is df ty:=⟨_,rfl⟩
 rw[<-hr3] at HE HI
 have HW0:=vQ hW0
 unfold cells5 at HS HC HO
 unfold al at HO
 clear hW0 ht hv hu hty hR hr1 hr2 hr3
 cases has with
 |false=>
  have HE2:Hid (R=if r1 then 0 else 80):=by show _=_;rw[HE.out,if_pos rfl]
  clear HE HC HO HI HY
  go_enter Tryz.func125,Tryz.ntmps125
  go_wp2_with fail
  rw[<-HW0.out]
  clear HW0
  refine HS.out.mono ?_
  rintro e w1 ⟨rfl,hb1⟩
  have HBw:=vQ (HB0.out.trans (hb1.mono HB0.out.size))
  clear hb1 HS
  cases r1 with
  |true=>
   go_wp2
   go_ret
   exact⟨by rw[HE2.out];rfl,HBw.out⟩
  |false=>
   go_wp2
   go_ret
   exact⟨by rw[HE2.out];rfl,HBw.out⟩
 |true=>
  have HE2:Hid (R=if r2≠0 then r2 else if r3 then 0 else 80):=by show _=_;rw[HE.out,if_neg (by decide)]
  clear HE HS
  go_enter Tryz.func125,Tryz.ntmps125
  go_wp2_with fail
  rw[<-HW0.out]
  clear HW0
  refine HC.out.mono ?_
  rintro e w1 ⟨rfl,hb1⟩
  have HB1:=vQ hb1
  have HBw:=vQ (HB0.out.trans (hb1.mono HB0.out.size))
  clear hb1 HC
  by_cases h2:r2=0
  ·have g2:((r2:Int) != 0)=false:=cq (by omega)
   obtain⟨y0,y1,y2,y3,y4,y5,y6⟩:=HY.out
   have c0:=ab HB1.out y0
   have c1:=ab HB1.out y1
   have c2:=ab HB1.out y2
   have c3:=ab HB1.out y3
   have c4:=ab HB1.out y4
   have c5:=ab HB1.out y5
   have c6:=ab HB1.out y6
   have HO1:=vQ (HO.out w1 HB1.out h2)
   have HE3:Hid (R=if Sch.of df ty then 0 else 80):=by
    show _=_
    rw[HE2.out,if_neg (by omega),HI.out h2]
   obtain⟨r4,hr4⟩:∃r,r=Sch.of df ty:=⟨_,rfl⟩
   rw[<-hr4] at HO1 HE3
   clear y0 y1 y2 y3 y4 y5 y6 HY HO HI HE2 hr4 h2
   go_wp2_with fail
   refine HO1.out.mono ?_
   rintro e w2 ⟨rfl,hb2⟩
   have HB2:=vQ (HBw.out.trans (hb2.mono HBw.out.size))
   clear hb2 c0 c1 c2 c3 c4 c5 c6 HO1
   cases r4 with
   |true=>
    go_wp2
    go_ret
    exact⟨by rw[HE3.out];rfl,HB2.out⟩
   |false=>
    go_wp2
    go_ret
    exact⟨by rw[HE3.out];rfl,HB2.out⟩
  ·have g2:((r2:Int) != 0)=true:=ca (by omega)
   have HE3:Hid (R=r2):=by show _=_;rw[HE2.out,if_pos h2]
   clear HO HI HE2 h2 HY
   go_wp2
   go_ret
   exact⟨by rw[HE3.out];rfl,HBw.out⟩
def gf(s:List Col):Nat:=if s.length=0 then 4 else if 16<s.length then 3 else Sch.colsErr [] s
theorem jO(s:List Col)(j:Nat)(hj:j<s.length):Sch.colsErr (s.take j) (s.drop j)=if Sch.colErr (s.take j) s[j]=0 then Sch.colsErr (s.take (j+1)) (s.drop (j+1)) else Sch.colErr (s.take j) s[j]:=by
 rw[List.drop_eq_getElem_cons hj,Sch.colsErr,List.take_succ_eq_append_getElem hj]
theorem iQ(s:List Col)(p:OA)(c:Nat)(w:World)(hx:bg w p s)(hwf:∀x∈s,x.wf):
    Calls Tryz.prog 93 #[.slice p s.length c] w fun e w'=>e=.returned (.int .i64 (gf s:Nat))∧Below w.1.size w w':=by
  have hmm:=@run_makeMap Tryz.prog
  obtain⟨R,hR⟩:∃R,R=gf s:=⟨_,rfl⟩
  have HR:Hid (R=if s.length=0 then 4 else if 16<s.length then 3 else Sch.colsErr [] s):=hR
  rw[<-hR]
  clear hR
  have HX:=vQ hx
  have HWf:=vQ hwf
  clear hx hwf
  by_cases h0:s.length=0
  · have g0:((s.length:Int)==0)=true:=bV (by omega)
    have HE:Hid (R=4):=by show _=_;rw[HR.out,if_pos h0]
    clear HR h0
    go_enter Tryz.func93,Tryz.ntmps93
    go_wp2
    go_ret
    exact⟨by rw[HE.out];rfl,vZ⟩
  have g0:((s.length:Int)==0)=false:=aH (by omega)
  by_cases h1:16<s.length
  · have g1:(16:Int)<(s.length:Int):=by omega
    have HE:Hid (R=3):=by show _=_;rw[HR.out,if_neg h0,if_pos h1]
    clear HR h0 h1
    go_enter Tryz.func93,Tryz.ntmps93
    go_wp2
    go_ret
    exact⟨by rw[HE.out];rfl,vZ⟩
  have g1:¬(16:Int)<(s.length:Int):=by omega
  have HE:Hid (R=Sch.colsErr (s.take 0) (s.drop 0)):=by show _=_;rw[HR.out,if_neg h0,if_neg h1];simp
  have hs16:s.length<=16:=by omega
  clear HR h0 h1
  obtain⟨W0,hW0⟩:∃W0,W0=w.alloc (.map #[] 0):=⟨_,rfl⟩
  have HB0:Hid (Below w.1.size w W0):=by rw[hW0];exact vY
  have HN0:Hid (cr W0 w.1.size 0 (s.take 0)):=by rw[hW0];exact ii w
  have HW0:=vQ hW0
  clear hW0
  go_enter Tryz.func93,Tryz.ntmps93
  go_wp2_with fail
  rw[<-HW0.out]
  clear HW0
  go_loopw [19] (fun v19 wr=>∃j:Nat,j<=s.length∧v19=.int .i64 j∧Hid (Below w.1.size w wr∧cr wr w.1.size j (s.take j)∧R=Sch.colsErr (s.take j) (s.drop j))) (fun v19 _=>s.length-(intOf v19).toNat)
  case atStart=>exact⟨0,by omega,rfl,HB0.out,HN0.out,HE.out⟩
  case round=>
    obtain⟨j,hj,rfl,HL⟩:=hrel
    by_cases hlt:j<s.length
    · obtain⟨bx,ox,k,tp,tn,tc,vk,vi,vb,vt,vp,vn,vc,rfl,_,h9,htx,hvx⟩:=HX.out.at j hlt
      obtain⟨a0,a1,a2,a3,a4,a5,a6,a7,a8⟩:=h9.on HL.out.1
      clear h9
      have hj1:(j:Int)<(s.length:Int):=by omega
      have HCe:=vQ ((pb (s.take j) s[j]))
      have HRj:=vQ (HL.out.2.2.trans (jO s j hlt))
      have hnm:s[j].name.size<=140737488351232:=(HWf.out _ (List.getElem_mem hlt)).1
      have HKey:=vQ (ni hnm)
      have HNm:=vQ (sW s[j].name)
      have HTk:=vQ (s.take_succ_eq_append_getElem hlt)
      obtain⟨D,hown,hhas⟩:=HL.out.2.1.out
      have HOwn:=vQ hown
      have HHas:=vQ (hhas s[j].name)
      have HPut:=vQ (fun d t=>nw hown hhas s[j] d t)
      have HMlt:=vQ hown.lt
      have HBr:=vQ HL.out.1
      -- the copy of the column
      have HCT:=vQ (fun w' (hb:Below w.1.size w w')=>mR s[j].ty w' _ (htx.on hb))
      have HCD:=vQ (fun w' (hb:Below w.1.size w w') (h:Ty.check 1 s[j].ty=0)=>iP s[j] w' _ ⟨k,tp,tn,tc,vk,vi,vb,vt,vp,vn,vc,rfl,htx.on hb,hvx.on hb⟩ h)
      unfold aA at HCD
      unfold al at HCT
      obtain⟨nm,hn⟩:∃n,n=s[j].name:=⟨_,rfl⟩
      obtain⟨hs,hhs⟩:∃n,n=s[j].has:=⟨_,rfl⟩
      rw[<-hn] at a0 HCe HKey HNm HHas HPut HCD
      rw[<-hhs] at a3 HCD
      obtain⟨rn,hrn⟩:∃r,r=Sch.name nm:=⟨_,rfl⟩
      rw[<-hrn] at HNm HCe
      obtain⟨rt,hrt⟩:∃r,r=Ty.check 1 s[j].ty:=⟨_,rfl⟩
      rw[<-hrt] at HCT HCe HCD
      obtain⟨rd,hrd⟩:∃r,r=iu s[j]:=⟨_,rfl⟩
      rw[<-hrd] at HCD HCe
      obtain⟨ra,hra⟩:∃r,r=(s.take j).any (fun x=>decide (x.name=nm)):=⟨_,rfl⟩
      rw[<-hra] at HHas HCe
      obtain⟨wa,hwa⟩:∃wa,wa=wr.alloc (.cells #[.string nm,.int .i64 k,.slice tp tn tc,.bool hs,.int .i64 vk,.int .i64 vi,.float .f64 vb,.string vt,.slice vp vn vc] 89):=⟨_,rfl⟩
      have HBa:Hid (Below wr.1.size wr wa):=by rw[hwa];exact vY
      have HAs:Hid (wa.cell? ⟨wr.1.size,0,none⟩=some (.string nm)∧wa.cell? ⟨wr.1.size,1,none⟩=some (.int .i64 k)∧wa.cell? ⟨wr.1.size,2,none⟩=some (.slice tp tn tc)∧wa.cell? ⟨wr.1.size,3,none⟩=some (.bool hs)∧wa.cell? ⟨wr.1.size,4,none⟩=some (.int .i64 vk)∧wa.cell? ⟨wr.1.size,5,none⟩=some (.int .i64 vi)∧wa.cell? ⟨wr.1.size,6,none⟩=some (.float .f64 vb)∧wa.cell? ⟨wr.1.size,7,none⟩=some (.string vt)∧wa.cell? ⟨wr.1.size,8,none⟩=some (.slice vp vn vc)):=by rw[hwa];refine⟨?_,?_,?_,?_,?_,?_,?_,?_,?_⟩ <;> simp
      have HBw:Hid (Below w.1.size w wa):=HBr.out.trans (HBa.out.mono HBr.out.size)
      have HOa:Hid (wa.ownsMap Tryz.prog 9 (plainElem Tryz.prog 3) w.1.size j D):=by rw[hwa];exact HOwn.out.alloc _
      have hsz:wr.1.size<wa.1.size:=by rw[hwa];simp
      have HWa:=vQ hwa
      clear hn hhs hrn hrt hrd hra htx hvx hown hhas hwa HL HOwn
      go_wp2_with fail
      rw[<-HWa.out]
      clear HWa a0 a1 a2 a3 a4 a5 a6 a7 a8
      refine(HNm.out _).mono ?_
      rintro e w2 ⟨rfl,hw2⟩
      rw[hw2]
      clear hw2 w2 HNm
      cases rn with
      |false=>
        have HE2:Hid (R=70):=by show _=_;rw[HRj.out,HCe.out];rfl
        go_wp2
        go_ret
        exact⟨by rw[HE2.out];rfl,HBw.out⟩
      |true=>
        obtain⟨c0,c1,c2,c3,c4,c5,c6,c7,c8⟩:=HAs.out
        cases ra with
        |true=>
          have HE2:Hid (R=71):=by show _=_;rw[HRj.out,HCe.out];rfl
          go_wp2_with (first | (at_lookup;refine wpList_lookup_own_ok_int _ rfl _ _ 169 rfl 9 3 .i64 oC Tryz.underlying169 Tryz.underlying3 (mY _) w.1.size j D rfl HOa.out _ _ rfl HKey.out ?_;intro cc hat hwc;rw[HHas.out];clear hat hwc))
          go_ret
          exact⟨by rw[HE2.out];rfl,HBw.out⟩
        |false=>
          go_wp2_with (first
            | (at_lookup;refine wpList_lookup_own_ok_int _ rfl _ _ 169 rfl 9 3 .i64 oC Tryz.underlying169 Tryz.underlying3 (mY _) w.1.size j D rfl HOa.out _ _ rfl HKey.out ?_;intro cc hat hwc;rw[HHas.out];clear hat hwc)
            | (at_mapUpdate;refine wpList_mapUpdate_own _ rfl _ _ _ 169 rfl 9 3 oC Tryz.underlying169 _ w.1.size j D rfl HOa.out (by unfold maxLen;omega) _ _ _ rfl rfl HKey.out _ [] (plainElem_int Tryz.underlying3 (WalkArith.wf_i64 (by omega))) ?_;intro w1 hown1 hgr1
               have HO1:=vQ hown1
               have HG1:=vQ hgr1
               have hne:¬wr.1.size=w.1.size:=by have:=HMlt.out;omega
               have hblk:w1.1[wr.1.size]?=wa.1[wr.1.size]?:=hgr1.block _ hsz (fun hc=>hne (by injection hc))
               have q0:w1.cell? ⟨wr.1.size,0,none⟩=some (.string nm):=(World.cell?_of_block (w:=wa) hblk).trans c0
               have q1:w1.cell? ⟨wr.1.size,1,none⟩=some (.int .i64 k):=(World.cell?_of_block (w:=wa) hblk).trans c1
               have q2:w1.cell? ⟨wr.1.size,2,none⟩=some (.slice tp tn tc):=(World.cell?_of_block (w:=wa) hblk).trans c2
               have q3:w1.cell? ⟨wr.1.size,3,none⟩=some (.bool hs):=(World.cell?_of_block (w:=wa) hblk).trans c3
               have q4:w1.cell? ⟨wr.1.size,4,none⟩=some (.int .i64 vk):=(World.cell?_of_block (w:=wa) hblk).trans c4
               have q5:w1.cell? ⟨wr.1.size,5,none⟩=some (.int .i64 vi):=(World.cell?_of_block (w:=wa) hblk).trans c5
               have q6:w1.cell? ⟨wr.1.size,6,none⟩=some (.float .f64 vb):=(World.cell?_of_block (w:=wa) hblk).trans c6
               have q7:w1.cell? ⟨wr.1.size,7,none⟩=some (.string vt):=(World.cell?_of_block (w:=wa) hblk).trans c7
               have q8:w1.cell? ⟨wr.1.size,8,none⟩=some (.slice vp vn vc):=(World.cell?_of_block (w:=wa) hblk).trans c8
               clear c0 c1 c2 c3 c4 c5 c6 c7 c8 hown1 hgr1 hblk hne))
          have HB1:Hid (Below w.1.size w w1):=HBw.out.grown HG1.out HBw.out.size (fun k hk=>by injection hk with hk;omega)
          have HN1:Hid (cr w1 w.1.size (j+1) (s.take (j+1))):=by
            rw[HTk.out]
            exact⟨_,HO1.out,HPut.out _⟩
          have HC1:=vQ (HCT.out w1 HB1.out)
          clear HCT HO1 HPut HOa HHas HKey HTk HG1
          go_wp2_with fail
          refine HC1.out.mono ?_
          rintro e w2 ⟨rfl,hb2⟩
          have HB2:Hid (Below w.1.size w w2):=HB1.out.trans (hb2.mono HB1.out.size)
          have HN2:Hid (cr w2 w.1.size (j+1) (s.take (j+1))):=HN1.out.keep (hb2.block _ HN1.out.lt)
          by_cases ht0:rt=0
          · have gt:((rt:Int) != 0)=false:=cq (by omega)
            have z0:=ab hb2 q0
            have z1:=ab hb2 q1
            have z2:=ab hb2 q2
            have z3:=ab hb2 q3
            have z4:=ab hb2 q4
            have z5:=ab hb2 q5
            have z6:=ab hb2 q6
            have z7:=ab hb2 q7
            have z8:=ab hb2 q8
            have HD1:=vQ (HCD.out w2 HB2.out ht0)
            clear q0 q1 q2 q3 q4 q5 q6 q7 q8 hb2 HC1 HCD HN1
            have HCe2:Hid (Sch.colErr (s.take j) s[j]=rd):=by
              show _=_
              rw[HCe.out,ht0]
              rfl
            clear HCe ht0
            go_wp2_with fail
            refine HD1.out.mono ?_
            rintro e w3 ⟨rfl,hb3⟩
            have HB3:Hid (Below w.1.size w w3):=HB2.out.trans (hb3.mono HB2.out.size)
            have HN3:Hid (cr w3 w.1.size (j+1) (s.take (j+1))):=HN2.out.keep (hb3.block _ HN2.out.lt)
            clear hb3 z0 z1 z2 z3 z4 z5 z6 z7 z8 HD1 HN2
            by_cases hd0:rd=0
            · have gd:((rd:Int) != 0)=false:=cq (by omega)
              have HR2:Hid (R=Sch.colsErr (s.take (j+1)) (s.drop (j+1))):=by show _=_;rw[HRj.out,HCe2.out,if_pos hd0]
              clear hd0 HRj HCe2
              go_wp2
              go_roundw
              case rel=>exact⟨j+1,by omega,by go_num,HB3.out,HN3.out,HR2.out⟩
              case measure=>simp[intOf];omega
            · have gd:((rd:Int) != 0)=true:=ca (by omega)
              have HR2:Hid (R=rd):=by show _=_;rw[HRj.out,HCe2.out,if_neg hd0]
              clear hd0 HRj HCe2
              go_wp2
              go_ret
              exact⟨by rw[HR2.out];rfl,HB3.out⟩
          · have gt:((rt:Int) != 0)=true:=ca (by omega)
            have HR2:Hid (R=rt):=by
              show _=_
              have e1:Sch.colErr (s.take j) s[j]=rt:=by rw[HCe.out,if_neg (by decide),if_neg (by decide),if_pos ht0]
              rw[HRj.out,e1,if_neg ht0]
            clear ht0 hb2 HC1 HCD HN1 HCe HRj
            go_wp2
            go_ret
            exact⟨by rw[HR2.out];rfl,HB2.out⟩
    · have HF:=vQ HL.out.1
      have HF0:Hid (R=0):=by show _=_;rw[HL.out.2.2,List.drop_eq_nil_of_le (by omega)];rfl
      have hjn:¬(j:Int)<(s.length:Int):=by omega
      clear HL hlt
      go_wp2
      go_ret
      exact⟨by rw[HF0.out];rfl,HF.out⟩
end
end Go.Proofs.YtlgfdgdlaahpfaaGreatDoor

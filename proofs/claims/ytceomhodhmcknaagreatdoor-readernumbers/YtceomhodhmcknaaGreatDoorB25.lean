import Derived.Test.YtceomhodhmcknaaGreatDoorB24
set_option maxRecDepth 100000
set_option maxHeartbeats 4000000
namespace Go.Proofs.YtceomhodhmcknaaGreatDoor
variable{R:Nat}{W W' w w':World}{y:Int}{e:Ending}
section
open Go.RowKit
def xx(w:World)(r:Except Nat L8)(e:Ending)(w':World):Prop:=match r with
 |.error k=>e=.returned (.tuple #[.slice none 0 0,.int .i64 (k:Nat)])∧Below w.1.size w w'
 |.ok b=>∃g o cap,e=.returned (.tuple #[.slice (some ⟨g,o,none⟩) b.length cap,.int .i64 0])∧At w' (some ⟨g,o,none⟩) b∧b.length<=cap∧w.1.size<=g∧Below w.1.size w w'
theorem t8(p:OA)(c:Nat)(l:L8)(hl:l.length<=140737488351232)(hlc:l.length<=c)(w:World)(hv:Hv w)(h:At w p l):
  Calls Tryz.prog 57 #[.slice p l.length c] w (xx w (Fr.open_ l)):=by
 obtain⟨r,hr⟩:∃r,r=Fr.open_ l:=⟨_,rfl⟩
 have HR:Hid (r=if 2200<l.length then .error 2 else if (Cob.un l).1≠0 then .error (Cob.un l).1
  else if (Cob.un l).2.length<5 then .error 30
  else if (Cob.un l).2.drop ((Cob.un l).2.length-4)=Sch.le 4 (Crc.sum ((Cob.un l).2.take ((Cob.un l).2.length-4))) then .ok ((Cob.un l).2.take ((Cob.un l).2.length-4)) else .error 120):=hr
 rw[<-hr]
 clear hr
 have HU:=xQ (qG p c l w hl hlc h)
 have HHv:=xQ hv
 clear h hv
 by_cases h22:2200<l.length
 ·have g0:(2200:Int)<(l.length:Int):=by omega
  have HR2:Hid (r=.error 2):=HR.out.trans (if_pos h22)
  clear HR h22
  go_enter Tryz.func57,Tryz.ntmps57
  go_wp2
  go_ret2
  rw[HR2.out]
  exact⟨rfl,xZ⟩
 have g0:¬(2200:Int)<(l.length:Int):=by omega
 have HR1:=xQ (HR.out.trans (if_neg h22))
 have hul:=Cob.un_length l
 unfold gm at HU
 obtain⟨ue,hue⟩:∃ue,ue=(Cob.un l).1:=⟨_,rfl⟩
 obtain⟨ub,hub⟩:∃ub,ub=(Cob.un l).2:=⟨_,rfl⟩
 rw[<-hub] at HU hul HR1
 rw[<-hue] at HU HR1
 clear HR hue hub
 go_enter Tryz.func57,Tryz.ntmps57
 go_wp2_with fail
 refine HU.out.mono ?_
 rintro e w1 ⟨q,cap,rfl,hat,hcap,hfr,hb⟩
 have HB1:=xQ hb
 have HA1:=xQ hat
 have HF1:=xQ hfr
 clear hat hfr hb HU
 by_cases he:ue=0
 ·subst he
  have HR2:=xQ (HR1.out.trans (if_neg (by omega)))
  clear HR1
  by_cases h5:ub.length<5
  ·have g1:(ub.length:Int)<5:=by omega
   have HR3:Hid (r=.error 30):=HR2.out.trans (if_pos h5)
   clear HR2 h5
   go_wp2
   go_ret2
   rw[HR3.out]
   exact⟨rfl,HB1.out⟩
  have g1:¬(ub.length:Int)<5:=by omega
  have HR3:=xQ (HR2.out.trans (if_neg h5))
  clear HR2
  obtain⟨g,o,rfl,hg,hF⟩:=HF1.out (fun hc=>by rw[hc] at h5;simp at h5)
  obtain⟨K,hK⟩:∃K,ub.length=K+4:=⟨ub.length-4,by omega⟩
  have hK4:ub.length-4=K:=by omega
  rw[hK4] at HR3
  obtain⟨b,hb⟩:∃b,b=ub.take K:=⟨_,rfl⟩
  obtain⟨s,hs⟩:∃s,s=ub.drop K:=⟨_,rfl⟩
  have hbl:b.length=K:=by rw[hb,List.length_take];omega
  have hsl:s.length=4:=by rw[hs,List.length_drop];omega
  have HAb:Hid (At w1 (some ⟨g,o,none⟩) b):=by rw[hb];exact .inr ⟨g,o,rfl,hF.1,dw hF.2.1 K⟩
  have HAs:Hid (At w1 (some ⟨g,o+K,none⟩) s):=by rw[hs];exact .inr ⟨g,o+K,rfl,hF.1,dx hF.2.1 K⟩
  rw[<-hb,<-hs] at HR3
  have hKb:(K:Int)<=2200:=by omega
  have g2:(K:Int)<=(ub.length:Int):=by omega
  have g3:(K:Int)<=(cap:Int):=by omega
  have hKe:((ub.length:Nat):Int)-4=(K:Int):=by omega
  have hc1:eM (some ⟨g,o,none⟩) cap=some ⟨g,o,none⟩:=by
   unfold eM
   split
   ·rfl
   ·rw[Option.map_some,Lib.add_plain];rfl
  have hc2:cZ (some ⟨g,o,none⟩) K cap=some ⟨g,o+K,none⟩:=by
   unfold cZ
   rw[if_neg (by omega),Option.map_some,Lib.add_plain]
  have s1:∀w',(Instr.slice 22 (.slice (some ⟨g,o,none⟩) (K+4) cap) none (some (.int .i64 (K:Int))) none).run Tryz.prog w'=.ok (.slice (some ⟨g,o,none⟩) K cap) w':=fun w'=>by
   have:=jo (some ⟨g,o,none⟩) (K+4) cap K (by omega) w'
   rw[hc1] at this
   exact this
  have s2:∀w',(Instr.slice 22 (.slice (some ⟨g,o,none⟩) (K+4) cap) (some (.int .i64 (K:Int))) none none).run Tryz.prog w'=.ok (.slice (some ⟨g,o+K,none⟩) 4 (cap-K)) w':=fun w'=>by
   have:=dp (some ⟨g,o,none⟩) (K+4) cap K (by omega) w'
   rw[hc2,Nat.add_sub_cancel_left] at this
   exact this
  have HS:Hid (∀w',Below w1.1.size w1 w'->Calls Tryz.prog 45 #[.slice (some ⟨g,o,none⟩) K cap] w' fun e w''=>e=.returned (.slice (some ⟨w'.1.size,0,none⟩) 4 4)∧w''=w'.alloc (.cells (cellsOf (Sch.le 4 (Crc.sum b))).toArray 5)):=fun w' hb'=>by
   have:=qO (some ⟨g,o,none⟩) cap b (by omega) w' ((HHv.out.next HB1.out).next hb') (HAb.out.on hb')
   rw[hbl] at this
   exact this
  obtain⟨k,hk⟩:∃k,k=Sch.le 4 (Crc.sum b):=⟨_,rfl⟩
  rw[<-hk] at HS HR3
  have hkl:k.length=4:=by rw[hk,Sch.le_len]
  have HE:Hid (∀w' W,Below w1.1.size w1 w'->W=w'.alloc (.cells (cellsOf k).toArray 5)->Calls Tryz.prog 89 #[.slice (some ⟨w'.1.size,0,none⟩) 4 4,.slice (some ⟨g,o+K,none⟩) 4 (cap-K)] W fun e w''=>e=.returned (.bool (k==s))∧w''=W):=fun w' W hb' hW=>by
   have hb2:Below w1.1.size w1 W:=by rw[hW];exact hb'.alloc hb'.size _
   have:=vO (some ⟨w'.1.size,0,none⟩) (some ⟨g,o+K,none⟩) 4 (cap-K) k s W (by rw[hW];exact sE w' _ k rfl) (HAs.out.on hb2)
   rw[hkl,hsl] at this
   exact this
  have HAl:Hid (∀w' o',Below w1.1.size w1 w'->Below w1.1.size w1 (w'.alloc o')):=fun w' o' hb'=>hb'.alloc hb'.size o'
  obtain⟨t,ht⟩:∃t,t=(k==s):=⟨_,rfl⟩
  rw[<-ht] at HE
  have HT:=xQ ht
  have HHb:=xQ hbl
  rw[hK]
  rw[hK] at hcap g1 g2
  clear hk hb hs hF h5 HF1 HA1 ht hK4 hKe hc1 hc2 hK hbl
  go_wp2_with fail
  go_region_held3 (fun _=>True) (trivial) (first
   | (go_at_call 45;refine(HS.out _ (xZ.drew)).mono ?_;rintro e w2 ⟨rfl,hw2⟩;have HW2:=xQ hw2;clear hw2)
   | (go_at_call 89;refine(HE.out w1.drew _ (xZ.drew) HW2.out).mono ?_;rintro e w3 ⟨rfl,hw3⟩;have HW3:=xQ hw3;clear hw3)
   |fail)
  have HB3:Hid (Below w.1.size w w3):=by
   rw[HW3.out,HW2.out]
   exact HB1.out.trans ((HAl.out _ _ (xZ.drew)).mono HB1.out.size)
  have HA3:Hid (At w3 (some ⟨g,o,none⟩) b):=by
   have hb13:Below w1.1.size w1 w3:=by rw[HW3.out,HW2.out];exact HAl.out _ _ (xZ.drew)
   exact HAb.out.on hb13
  cases t with
  |false=>
   have HR4:Hid (r=.error 120):=by
    show _=_
    rw[HR3.out,if_neg]
    intro hc
    have:=HT.out
    rw[hc,beq_self_eq_true] at this
    cases this
   go_wp2
   go_ret2
   rw[HR4.out]
   exact⟨rfl,HB3.out⟩
  |true=>
   have HR4:Hid (r=.ok b):=by
    show _=_
    have:=HT.out.symm
    rw[beq_iff_eq] at this
    rw[HR3.out,if_pos this.symm]
   go_wp2
   go_ret2
   rw[HR4.out]
   exact⟨g,o,cap,by rw[HHb.out];rfl,HA3.out,by rw[HHb.out];omega,hg,HB3.out⟩
 ·have g1:((ue:Int) != 0)=true:=by rw[bne_iff_ne];omega
  have HR2:Hid (r=.error ue):=HR1.out.trans (if_pos he)
  clear HR1 he
  go_wp2
  go_ret2
  rw[HR2.out]
  exact⟨rfl,HB1.out⟩
end
section
open Go.RowKit
theorem wy(x:Value)(w:World):(Instr.typeAssert (.iface 116 x) 92 116 true).run Tryz.prog w=.ok (.tuple #[x,.bool true]) w:=by kernel_rfl
theorem ww(x:Value)(w:World):(Instr.typeAssert (.iface 116 x) 92 118 true).run Tryz.prog w=.ok (.tuple #[.agg #[.int .i64 0,.int .i64 0,.int .i64 0,.int .i64 0,.slice none 0 0],.bool false]) w:=by kernel_rfl
theorem wu(x:Value)(w:World):(Instr.typeAssert (.iface 116 x) 92 120 true).run Tryz.prog w=.ok (.tuple #[.agg #[.int .i64 0,.int .i64 0,.int .i64 0,.slice none 0 0],.bool false]) w:=by kernel_rfl
theorem wo(x:Value)(w:World):(Instr.typeAssert (.iface 118 x) 92 116 true).run Tryz.prog w=.ok (.tuple #[.agg #[.int .i64 0,.slice none 0 0],.bool false]) w:=by kernel_rfl
theorem wm(x:Value)(w:World):(Instr.typeAssert (.iface 118 x) 92 118 true).run Tryz.prog w=.ok (.tuple #[x,.bool true]) w:=by kernel_rfl
theorem wl(x:Value)(w:World):(Instr.typeAssert (.iface 118 x) 92 120 true).run Tryz.prog w=.ok (.tuple #[.agg #[.int .i64 0,.int .i64 0,.int .i64 0,.slice none 0 0],.bool false]) w:=by kernel_rfl
theorem wj(x:Value)(w:World):(Instr.typeAssert (.iface 120 x) 92 116 true).run Tryz.prog w=.ok (.tuple #[.agg #[.int .i64 0,.slice none 0 0],.bool false]) w:=by kernel_rfl
theorem wh(x:Value)(w:World):(Instr.typeAssert (.iface 120 x) 92 118 true).run Tryz.prog w=.ok (.tuple #[.agg #[.int .i64 0,.int .i64 0,.int .i64 0,.int .i64 0,.slice none 0 0],.bool false]) w:=by kernel_rfl
theorem wg(x:Value)(w:World):(Instr.typeAssert (.iface 120 x) 92 120 true).run Tryz.prog w=.ok (.tuple #[x,.bool true]) w:=by kernel_rfl
theorem pY(n:Int)(sp:OA)(sn sc:Nat)(w:World):Calls Tryz.prog 59 #[.iface 116 (.agg #[.int .i64 n,.slice sp sn sc])] w fun e w'=>e=.returned (.agg #[.int .i64 1,.int .i64 n,.slice sp sn sc,.int .i64 0,.int .i64 0,.int .i64 0,.slice none 0 0,.int .i64 0,.int .i64 0,.int .i64 0,.slice none 0 0])∧Below w.1.size w w':=by
 have t1:=wy (.agg #[.int .i64 n,.slice sp sn sc])
 have t2:=ww (.agg #[.int .i64 n,.slice sp sn sc])
 have t3:=wu (.agg #[.int .i64 n,.slice sp sn sc])
 have HB:Hid (∀o o2,Below w.1.size w ((w.alloc o).alloc o2)):=fun o o2=>xY.alloc (by simp) _
 go_enter Tryz.func59,Tryz.ntmps59
 go_wp2
 refine bodyPost_ret (v:=.agg #[.int .i64 1,.int .i64 n,.slice sp sn sc,.int .i64 0,.int .i64 0,.int .i64 0,.slice none 0 0,.int .i64 0,.int .i64 0,.int .i64 0,.slice none 0 0]) (results_cell_row rfl _ _ w.1.size _ _ _ _ rfl (eJ w _ _) Tryz.underlying61 rfl (by kernel_rfl)) rfl ?_
 exact⟨rfl,HB.out _ _⟩
theorem pX(n q fi r:Int)(bp:OA)(bn bc:Nat)(w:World):Calls Tryz.prog 59 #[.iface 118 (.agg #[.int .i64 n,.int .i64 q,.int .i64 fi,.int .i64 r,.slice bp bn bc])] w fun e w'=>e=.returned (.agg #[.int .i64 2,.int .i64 n,.slice none 0 0,.int .i64 q,.int .i64 fi,.int .i64 r,.slice bp bn bc,.int .i64 0,.int .i64 0,.int .i64 0,.slice none 0 0])∧Below w.1.size w w':=by
 have t1:=wo (.agg #[.int .i64 n,.int .i64 q,.int .i64 fi,.int .i64 r,.slice bp bn bc])
 have t2:=wm (.agg #[.int .i64 n,.int .i64 q,.int .i64 fi,.int .i64 r,.slice bp bn bc])
 have t3:=wl (.agg #[.int .i64 n,.int .i64 q,.int .i64 fi,.int .i64 r,.slice bp bn bc])
 have HB:Hid (∀o o2,Below w.1.size w ((w.alloc o).alloc o2)):=fun o o2=>xY.alloc (by simp) _
 go_enter Tryz.func59,Tryz.ntmps59
 go_wp2
 refine bodyPost_ret (v:=.agg #[.int .i64 2,.int .i64 n,.slice none 0 0,.int .i64 q,.int .i64 fi,.int .i64 r,.slice bp bn bc,.int .i64 0,.int .i64 0,.int .i64 0,.slice none 0 0]) (results_cell_row rfl _ _ w.1.size _ _ _ _ rfl (eJ w _ _) Tryz.underlying61 rfl (by kernel_rfl)) rfl ?_
 exact⟨rfl,HB.out _ _⟩
theorem pW(ia ib ic:Int)(ep:OA)(en ec:Nat)(w:World):Calls Tryz.prog 59 #[.iface 120 (.agg #[.int .i64 ia,.int .i64 ib,.int .i64 ic,.slice ep en ec])] w fun e w'=>e=.returned (.agg #[.int .i64 3,.int .i64 0,.slice none 0 0,.int .i64 0,.int .i64 0,.int .i64 0,.slice none 0 0,.int .i64 ia,.int .i64 ib,.int .i64 ic,.slice ep en ec])∧Below w.1.size w w':=by
 have t1:=wj (.agg #[.int .i64 ia,.int .i64 ib,.int .i64 ic,.slice ep en ec])
 have t2:=wh (.agg #[.int .i64 ia,.int .i64 ib,.int .i64 ic,.slice ep en ec])
 have t3:=wg (.agg #[.int .i64 ia,.int .i64 ib,.int .i64 ic,.slice ep en ec])
 have HB:Hid (∀o o2,Below w.1.size w ((w.alloc o).alloc o2)):=fun o o2=>xY.alloc (by simp) _
 go_enter Tryz.func59,Tryz.ntmps59
 go_wp2
 refine bodyPost_ret (v:=.agg #[.int .i64 3,.int .i64 0,.slice none 0 0,.int .i64 0,.int .i64 0,.int .i64 0,.slice none 0 0,.int .i64 ia,.int .i64 ib,.int .i64 ic,.slice ep en ec]) (results_cell_row rfl _ _ w.1.size _ _ _ _ rfl (eJ w _ _) Tryz.underlying61 rfl (by kernel_rfl)) rfl ?_
 exact⟨rfl,HB.out _ _⟩
end
section
open Go.RowKit
def rP(B:Nat)(f:Fr)(v:Value)(w:World):Prop:=(f.kind=1∧∃x,v=.iface 116 x∧wS B f x w)∨(f.kind=2∧∃x,v=.iface 118 x∧wT B f x w)∨(f.kind=3∧∃x,v=.iface 120 x∧rO B f x w)
theorem fe.good{f:Fr}{V:Fr->Value->World->Prop}(h:fe w R (.ok f) V e w'):∃v,e=.returned v∧V f v w'∧Aside (fun i=>i=R) w w':=h
theorem fe.bad{k:Nat}{V:Fr->Value->World->Prop}(h:fe w R (.error k) V e w'):e=.panicked (cY k)∧Aside (fun i=>i=R) w w':=h
theorem qa(l:L8)(A R:Nat)(w:World)(h:cu w A R l):Calls Tryz.prog 60 #[.pointer (some ⟨R,0,none⟩),.int .i64 1] w (fe w R (Fr.rdS l) (rP w.1.size)):=by
 have HC:=xQ (iZ l A R w h)
 obtain⟨r,hr⟩:∃r,r=Fr.rdS l:=⟨_,rfl⟩
 rw[<-hr] at HC ⊢
 clear h
 cases r with
 |error er=>
  clear hr
  go_enter Tryz.func60,Tryz.ntmps60
  go_wp2_with fail
  refine HC.out.mono ?_
  intro e w1 hh
  obtain⟨he,ha⟩:=hh.bad
  subst he
  have HA:=xQ ha
  clear hh ha HC
  go_wp2
  exact⟨rfl,rfl,HA.out⟩
 |ok f=>
  have HKd:Hid (f.kind=1):=by
   have:=(Fr.rdF_ok (k:=1) (l:=l) (f:=f) (by rw[hr];rfl)).1
   exact this
  clear hr
  go_enter Tryz.func60,Tryz.ntmps60
  go_wp2_with fail
  refine HC.out.mono ?_
  intro e w1 hh
  obtain⟨v,he,hv,ha⟩:=hh.good
  subst he
  have HA:=xQ ha
  have HV:=xQ hv
  obtain⟨p,c,rfl,-⟩:=hv
  clear hh ha HC
  go_wp2
  go_ret
  exact⟨_,rfl,.inl ⟨HKd.out,_,rfl,HV.out⟩,HA.out⟩
theorem p8(l:L8)(A R:Nat)(w:World)(h:cu w A R l):Calls Tryz.prog 60 #[.pointer (some ⟨R,0,none⟩),.int .i64 2] w (fe w R (Fr.rdD l) (rP w.1.size)):=by
 have HC:=xQ (l8 l A R w h)
 obtain⟨r,hr⟩:∃r,r=Fr.rdD l:=⟨_,rfl⟩
 rw[<-hr] at HC ⊢
 clear h
 cases r with
 |error er=>
  clear hr
  go_enter Tryz.func60,Tryz.ntmps60
  go_wp2_with fail
  refine HC.out.mono ?_
  intro e w1 hh
  obtain⟨he,ha⟩:=hh.bad
  subst he
  have HA:=xQ ha
  clear hh ha HC
  go_wp2
  exact⟨rfl,rfl,HA.out⟩
 |ok f=>
  have HKd:Hid (f.kind=2):=by
   have:=(Fr.rdF_ok (k:=2) (l:=l) (f:=f) (by rw[hr];rfl)).1
   exact this
  clear hr
  go_enter Tryz.func60,Tryz.ntmps60
  go_wp2_with fail
  refine HC.out.mono ?_
  intro e w1 hh
  obtain⟨v,he,hv,ha⟩:=hh.good
  subst he
  have HA:=xQ ha
  have HV:=xQ hv
  obtain⟨p,c,rfl,-⟩:=hv
  clear hh ha HC
  go_wp2
  go_ret
  exact⟨_,rfl,.inr (.inl ⟨HKd.out,_,rfl,HV.out⟩),HA.out⟩
theorem p7(l:L8)(A R:Nat)(w:World)(h:cu w A R l):Calls Tryz.prog 60 #[.pointer (some ⟨R,0,none⟩),.int .i64 3] w (fe w R (Fr.rdI l) (rP w.1.size)):=by
 have HC:=xQ (kg l A R w h)
 obtain⟨r,hr⟩:∃r,r=Fr.rdI l:=⟨_,rfl⟩
 rw[<-hr] at HC ⊢
 clear h
 cases r with
 |error er=>
  clear hr
  go_enter Tryz.func60,Tryz.ntmps60
  go_wp2_with fail
  refine HC.out.mono ?_
  intro e w1 hh
  obtain⟨he,ha⟩:=hh.bad
  subst he
  have HA:=xQ ha
  clear hh ha HC
  go_wp2
  exact⟨rfl,rfl,HA.out⟩
 |ok f=>
  have HKd:Hid (f.kind=3):=by
   have:=(Fr.rdF_ok (k:=3) (l:=l) (f:=f) (by rw[hr];rfl)).1
   exact this
  clear hr
  go_enter Tryz.func60,Tryz.ntmps60
  go_wp2_with fail
  refine HC.out.mono ?_
  intro e w1 hh
  obtain⟨v,he,hv,ha⟩:=hh.good
  subst he
  have HA:=xQ ha
  have HV:=xQ hv
  obtain⟨p,c,rfl,-⟩:=hv
  clear hh ha HC
  go_wp2
  go_ret
  exact⟨_,rfl,.inr (.inr ⟨HKd.out,_,rfl,HV.out⟩),HA.out⟩
theorem qc(k:Int)(h1:k≠1)(h2:k≠2)(h3:k≠3)(R:Nat)(w:World):Calls Tryz.prog 60 #[.pointer (some ⟨R,0,none⟩),.int .i64 k] w (fe w R (.error 60) (rP w.1.size)):=by
 have g1:(k==1)=false:=bv h1
 have g2:(k==2)=false:=bv h2
 have g3:(k==3)=false:=bv h3
 clear h1 h2 h3
 go_enter Tryz.func60,Tryz.ntmps60
 go_wp2
 exact⟨rfl,rfl,Aside.refl _ _⟩
theorem tH(k:Nat)(l:L8)(A R:Nat)(w:World)(h:cu w A R l):Calls Tryz.prog 60 #[.pointer (some ⟨R,0,none⟩),.int .i64 k] w (fe w R (Fr.rdF k l) (rP w.1.size)):=by
 unfold Fr.rdF
 by_cases h1:k=1
 ·subst h1
  rw[if_pos rfl]
  exact qa l A R w h
 rw[if_neg h1]
 by_cases h2:k=2
 ·subst h2
  rw[if_pos rfl]
  exact p8 l A R w h
 rw[if_neg h2]
 by_cases h3:k=3
 ·subst h3
  rw[if_pos rfl]
  exact p7 l A R w h
 rw[if_neg h3]
 exact qc k (by omega) (by omega) (by omega) R w
end
section
open Go.RowKit
theorem dC(w:World):w.drew.1=w.1:=rfl
def cm:AV:=#[.int .i64 0,.int .i64 0,.slice none 0 0,.int .i64 0,.int .i64 0,.int .i64 0,.slice none 0 0,.int .i64 0,.int .i64 0,.int .i64 0,.slice none 0 0]
def de(w:World)(g:Nat)(c0 c1 c2 c3 c4 c5 c6 c7 c8 c9 c10:Value):World:=((((((((((w.setCell ⟨g,0,none⟩ c0).setCell ⟨g,1,none⟩ c1).setCell ⟨g,2,none⟩ c2).setCell ⟨g,3,none⟩ c3).setCell ⟨g,4,none⟩ c4).setCell ⟨g,5,none⟩ c5).setCell ⟨g,6,none⟩ c6).setCell ⟨g,7,none⟩ c7).setCell ⟨g,8,none⟩ c8).setCell ⟨g,9,none⟩ c9).setCell ⟨g,10,none⟩ c10
theorem bm{g:Nat}{T:TypeId}{d0 d1 d2 d3 d4 d5 d6 d7 d8 d9 d10:Value}(h:w.1[g]?=some (.cells #[d0,d1,d2,d3,d4,d5,d6,d7,d8,d9,d10] T (0,0)))(c0 c1 c2 c3 c4 c5 c6 c7 c8 c9 c10:Value):(de w g c0 c1 c2 c3 c4 c5 c6 c7 c8 c9 c10).1[g]?=some (.cells #[c0,c1,c2,c3,c4,c5,c6,c7,c8,c9,c10] T (0,0)):=by
 have b0:(w.setCell ⟨g,0,none⟩ c0).1[g]?=some (.cells #[c0,d1,d2,d3,d4,d5,d6,d7,d8,d9,d10] T (0,0)):=al h 0 _
 have b1:((w.setCell ⟨g,0,none⟩ c0).setCell ⟨g,1,none⟩ c1).1[g]?=some (.cells #[c0,c1,d2,d3,d4,d5,d6,d7,d8,d9,d10] T (0,0)):=al b0 1 _
 have b2:(((w.setCell ⟨g,0,none⟩ c0).setCell ⟨g,1,none⟩ c1).setCell ⟨g,2,none⟩ c2).1[g]?=some (.cells #[c0,c1,c2,d3,d4,d5,d6,d7,d8,d9,d10] T (0,0)):=al b1 2 _
 have b3:((((w.setCell ⟨g,0,none⟩ c0).setCell ⟨g,1,none⟩ c1).setCell ⟨g,2,none⟩ c2).setCell ⟨g,3,none⟩ c3).1[g]?=some (.cells #[c0,c1,c2,c3,d4,d5,d6,d7,d8,d9,d10] T (0,0)):=al b2 3 _
 have b4:(((((w.setCell ⟨g,0,none⟩ c0).setCell ⟨g,1,none⟩ c1).setCell ⟨g,2,none⟩ c2).setCell ⟨g,3,none⟩ c3).setCell ⟨g,4,none⟩ c4).1[g]?=some (.cells #[c0,c1,c2,c3,c4,d5,d6,d7,d8,d9,d10] T (0,0)):=al b3 4 _
 have b5:((((((w.setCell ⟨g,0,none⟩ c0).setCell ⟨g,1,none⟩ c1).setCell ⟨g,2,none⟩ c2).setCell ⟨g,3,none⟩ c3).setCell ⟨g,4,none⟩ c4).setCell ⟨g,5,none⟩ c5).1[g]?=some (.cells #[c0,c1,c2,c3,c4,c5,d6,d7,d8,d9,d10] T (0,0)):=al b4 5 _
 have b6:(((((((w.setCell ⟨g,0,none⟩ c0).setCell ⟨g,1,none⟩ c1).setCell ⟨g,2,none⟩ c2).setCell ⟨g,3,none⟩ c3).setCell ⟨g,4,none⟩ c4).setCell ⟨g,5,none⟩ c5).setCell ⟨g,6,none⟩ c6).1[g]?=some (.cells #[c0,c1,c2,c3,c4,c5,c6,d7,d8,d9,d10] T (0,0)):=al b5 6 _
 have b7:((((((((w.setCell ⟨g,0,none⟩ c0).setCell ⟨g,1,none⟩ c1).setCell ⟨g,2,none⟩ c2).setCell ⟨g,3,none⟩ c3).setCell ⟨g,4,none⟩ c4).setCell ⟨g,5,none⟩ c5).setCell ⟨g,6,none⟩ c6).setCell ⟨g,7,none⟩ c7).1[g]?=some (.cells #[c0,c1,c2,c3,c4,c5,c6,c7,d8,d9,d10] T (0,0)):=al b6 7 _
 have b8:(((((((((w.setCell ⟨g,0,none⟩ c0).setCell ⟨g,1,none⟩ c1).setCell ⟨g,2,none⟩ c2).setCell ⟨g,3,none⟩ c3).setCell ⟨g,4,none⟩ c4).setCell ⟨g,5,none⟩ c5).setCell ⟨g,6,none⟩ c6).setCell ⟨g,7,none⟩ c7).setCell ⟨g,8,none⟩ c8).1[g]?=some (.cells #[c0,c1,c2,c3,c4,c5,c6,c7,c8,d9,d10] T (0,0)):=al b7 8 _
 have b9:((((((((((w.setCell ⟨g,0,none⟩ c0).setCell ⟨g,1,none⟩ c1).setCell ⟨g,2,none⟩ c2).setCell ⟨g,3,none⟩ c3).setCell ⟨g,4,none⟩ c4).setCell ⟨g,5,none⟩ c5).setCell ⟨g,6,none⟩ c6).setCell ⟨g,7,none⟩ c7).setCell ⟨g,8,none⟩ c8).setCell ⟨g,9,none⟩ c9).1[g]?=some (.cells #[c0,c1,c2,c3,c4,c5,c6,c7,c8,c9,d10] T (0,0)):=al b8 9 _
 have b10:(((((((((((w.setCell ⟨g,0,none⟩ c0).setCell ⟨g,1,none⟩ c1).setCell ⟨g,2,none⟩ c2).setCell ⟨g,3,none⟩ c3).setCell ⟨g,4,none⟩ c4).setCell ⟨g,5,none⟩ c5).setCell ⟨g,6,none⟩ c6).setCell ⟨g,7,none⟩ c7).setCell ⟨g,8,none⟩ c8).setCell ⟨g,9,none⟩ c9).setCell ⟨g,10,none⟩ c10).1[g]?=some (.cells #[c0,c1,c2,c3,c4,c5,c6,c7,c8,c9,c10] T (0,0)):=al b9 10 _
 exact b10
theorem aO(w:World)(g:Nat)(c0 c1 c2 c3 c4 c5 c6 c7 c8 c9 c10:Value):Aside (fun i=>i=g) w (de w g c0 c1 c2 c3 c4 c5 c6 c7 c8 c9 c10):=(((((((((((ai w g 0 _).trans (ai _ g 1 _) (fun _ _ h=>h)).trans (ai _ g 2 _) (fun _ _ h=>h)).trans (ai _ g 3 _) (fun _ _ h=>h)).trans (ai _ g 4 _) (fun _ _ h=>h)).trans (ai _ g 5 _) (fun _ _ h=>h)).trans (ai _ g 6 _) (fun _ _ h=>h)).trans (ai _ g 7 _) (fun _ _ h=>h)).trans (ai _ g 8 _) (fun _ _ h=>h)).trans (ai _ g 9 _) (fun _ _ h=>h)).trans (ai _ g 10 _) (fun _ _ h=>h))
structure bu(w W:World)(y:Int):Prop where
 b0:W.1[w.1.size]?=some (.cells #[.int .i64 0,.int .i64 0,.slice none 0 0,.int .i64 0,.int .i64 0,.int .i64 0,.slice none 0 0,.int .i64 0,.int .i64 0,.int .i64 0,.slice none 0 0] 61 (0,0))
 b1:W.1[w.1.size+1]?=some (.cells #[.int .i64 y] 36 (0,0))
 size:w.1.size+2<=W.1.size
 below:Below w.1.size w W
theorem eR(w:World):bu w ((w.alloc (.cells #[.int .i64 0,.int .i64 0,.slice none 0 0,.int .i64 0,.int .i64 0,.int .i64 0,.slice none 0 0,.int .i64 0,.int .i64 0,.int .i64 0,.slice none 0 0] 61)).alloc (.cells #[.int .i64 0] 36)) 0 :=
 ⟨eJ w _ _,nU w _ _,by simp,xY.alloc (by simp) _⟩
theorem bu.on(h:bu w W y)(hb:Below W.1.size W W'):bu w W' y:=by
 have hs:=h.size
 exact⟨(hb.block _ (by omega)).trans h.b0,(hb.block _ (by omega)).trans h.b1,Nat.le_trans hs hb.size,h.below.trans (hb.mono (by omega))⟩
theorem bu.step(h:bu w W y)(ha:Aside (fun i=>i=R) W W')(hR:w.1.size+2<=R):bu w W' y:=by
 have hs:=h.size
 exact⟨(ha.block _ (by omega) (by omega)).trans h.b0,(ha.block _ (by omega) (by omega)).trans h.b1,Nat.le_trans hs ha.size,h.below.trans (ha.below (by omega) (fun k hk=>by omega))⟩
theorem bu.setE(h:bu w W y)(y':Int):bu w (W.setCell ⟨w.1.size+1,0,none⟩ (.int .i64 y')) y':=by
 have hs:=h.size
 have ha:Aside (fun i=>i=w.1.size+1) W (W.setCell ⟨w.1.size+1,0,none⟩ (.int .i64 y')):=ai _ _ _ _
 exact⟨(ha.block _ (by omega) (by omega)).trans h.b0,al h.b1 0 _,Nat.le_trans hs ha.size,h.below.trans (ha.below (by omega) (fun k hk=>by omega))⟩
theorem bu.drew(h:bu w W y):bu w W.drew y:=⟨h.b0,h.b1,h.size,h.below.drew⟩
theorem jT(k:Int)(w:World):(Instr.typeAssert (.iface 36 (.int .i64 k)) 20 36 false).run Tryz.prog w=.ok (.int .i64 k) w:=by kernel_rfl
theorem fE(G E:Nat)(k:Int)(y:Int)(w:World)(hG:w.1[G]?=some (.cells #[.int .i64 0,.int .i64 0,.slice none 0 0,.int .i64 0,.int .i64 0,.int .i64 0,.slice none 0 0,.int .i64 0,.int .i64 0,.int .i64 0,.slice none 0 0] 61 (0,0)))(hE:w.1[E]?=some (.cells #[.int .i64 y] 36 (0,0)))(hne:G≠E):
  CallsD Tryz.prog 58 #[.pointer (some ⟨G,0,none⟩),.pointer (some ⟨E,0,none⟩)] (.panicking [{ v:=.iface 36 (.int .i64 k),recovered:=false }]) w fun e u' w'=>
   e=.returned (.tuple #[])∧u'=.panicking [{ v:=.iface 36 (.int .i64 k),recovered:=true }]∧w'.1[G]?=some (.cells #[.int .i64 0,.int .i64 0,.slice none 0 0,.int .i64 0,.int .i64 0,.int .i64 0,.slice none 0 0,.int .i64 0,.int .i64 0,.int .i64 0,.slice none 0 0] 61 (0,0))∧w'.1[E]?=some (.cells #[.int .i64 k] 36 (0,0))∧Aside (fun i=>i=G∨i=E) w w':=by
 have hta:=jT k
 have x0:w.cell? ⟨G,0,none⟩=some (.int .i64 0):=aa hG 0
 have xf0:=ac hG 0
 have x1:w.cell? ⟨G,1,none⟩=some (.int .i64 0):=aa hG 1
 have xf1:=ac hG 1
 have x2:w.cell? ⟨G,2,none⟩=some (.slice none 0 0):=aa hG 2
 have xf2:=ac hG 2
 have x3:w.cell? ⟨G,3,none⟩=some (.int .i64 0):=aa hG 3
 have xf3:=ac hG 3
 have x4:w.cell? ⟨G,4,none⟩=some (.int .i64 0):=aa hG 4
 have xf4:=ac hG 4
 have x5:w.cell? ⟨G,5,none⟩=some (.int .i64 0):=aa hG 5
 have xf5:=ac hG 5
 have x6:w.cell? ⟨G,6,none⟩=some (.slice none 0 0):=aa hG 6
 have xf6:=ac hG 6
 have x7:w.cell? ⟨G,7,none⟩=some (.int .i64 0):=aa hG 7
 have xf7:=ac hG 7
 have x8:w.cell? ⟨G,8,none⟩=some (.int .i64 0):=aa hG 8
 have xf8:=ac hG 8
 have x9:w.cell? ⟨G,9,none⟩=some (.int .i64 0):=aa hG 9
 have xf9:=ac hG 9
 have x10:w.cell? ⟨G,10,none⟩=some (.slice none 0 0):=aa hG 10
 have xf10:=ac hG 10
 have y0:w.cell? ⟨E,0,none⟩=some (.int .i64 y):=aa hE 0
 have yf0:=ac hE 0
 have hne2:E≠G:=fun h=>hne h.symm
 obtain⟨W,hW⟩:∃W,W=((((((((((((w.setCell ⟨G,0,none⟩ (.int .i64 0)).setCell ⟨G,1,none⟩ (.int .i64 0)).setCell ⟨G,2,none⟩ (.slice none 0 0)).setCell ⟨G,3,none⟩ (.int .i64 0)).setCell ⟨G,4,none⟩ (.int .i64 0)).setCell ⟨G,5,none⟩ (.int .i64 0)).setCell ⟨G,6,none⟩ (.slice none 0 0)).setCell ⟨G,7,none⟩ (.int .i64 0)).setCell ⟨G,8,none⟩ (.int .i64 0)).setCell ⟨G,9,none⟩ (.int .i64 0)).setCell ⟨G,10,none⟩ (.slice none 0 0)).setCell ⟨E,0,none⟩ (.int .i64 k)).drew:=⟨_,rfl⟩
 have hA1:Aside (fun i=>i=G) w (((((((((((w.setCell ⟨G,0,none⟩ (.int .i64 0)).setCell ⟨G,1,none⟩ (.int .i64 0)).setCell ⟨G,2,none⟩ (.slice none 0 0)).setCell ⟨G,3,none⟩ (.int .i64 0)).setCell ⟨G,4,none⟩ (.int .i64 0)).setCell ⟨G,5,none⟩ (.int .i64 0)).setCell ⟨G,6,none⟩ (.slice none 0 0)).setCell ⟨G,7,none⟩ (.int .i64 0)).setCell ⟨G,8,none⟩ (.int .i64 0)).setCell ⟨G,9,none⟩ (.int .i64 0)).setCell ⟨G,10,none⟩ (.slice none 0 0)):=aO w G (.int .i64 0) (.int .i64 0) (.slice none 0 0) (.int .i64 0) (.int .i64 0) (.int .i64 0) (.slice none 0 0) (.int .i64 0) (.int .i64 0) (.int .i64 0) (.slice none 0 0)
 have hG1:(((((((((((w.setCell ⟨G,0,none⟩ (.int .i64 0)).setCell ⟨G,1,none⟩ (.int .i64 0)).setCell ⟨G,2,none⟩ (.slice none 0 0)).setCell ⟨G,3,none⟩ (.int .i64 0)).setCell ⟨G,4,none⟩ (.int .i64 0)).setCell ⟨G,5,none⟩ (.int .i64 0)).setCell ⟨G,6,none⟩ (.slice none 0 0)).setCell ⟨G,7,none⟩ (.int .i64 0)).setCell ⟨G,8,none⟩ (.int .i64 0)).setCell ⟨G,9,none⟩ (.int .i64 0)).setCell ⟨G,10,none⟩ (.slice none 0 0)).1[G]?=some (.cells #[.int .i64 0,.int .i64 0,.slice none 0 0,.int .i64 0,.int .i64 0,.int .i64 0,.slice none 0 0,.int .i64 0,.int .i64 0,.int .i64 0,.slice none 0 0] 61 (0,0)):=bm hG (.int .i64 0) (.int .i64 0) (.slice none 0 0) (.int .i64 0) (.int .i64 0) (.int .i64 0) (.slice none 0 0) (.int .i64 0) (.int .i64 0) (.int .i64 0) (.slice none 0 0)
 have hE1:(((((((((((w.setCell ⟨G,0,none⟩ (.int .i64 0)).setCell ⟨G,1,none⟩ (.int .i64 0)).setCell ⟨G,2,none⟩ (.slice none 0 0)).setCell ⟨G,3,none⟩ (.int .i64 0)).setCell ⟨G,4,none⟩ (.int .i64 0)).setCell ⟨G,5,none⟩ (.int .i64 0)).setCell ⟨G,6,none⟩ (.slice none 0 0)).setCell ⟨G,7,none⟩ (.int .i64 0)).setCell ⟨G,8,none⟩ (.int .i64 0)).setCell ⟨G,9,none⟩ (.int .i64 0)).setCell ⟨G,10,none⟩ (.slice none 0 0)).1[E]?=some (.cells #[.int .i64 y] 36 (0,0)):=(hA1.block E (ao hE) hne2).trans hE
 have HF1:Hid (W.1[G]?=some (.cells #[.int .i64 0,.int .i64 0,.slice none 0 0,.int .i64 0,.int .i64 0,.int .i64 0,.slice none 0 0,.int .i64 0,.int .i64 0,.int .i64 0,.slice none 0 0] 61 (0,0))):=by
  show _=_
  rw[hW,dC]
  exact((ai (((((((((((w.setCell ⟨G,0,none⟩ (.int .i64 0)).setCell ⟨G,1,none⟩ (.int .i64 0)).setCell ⟨G,2,none⟩ (.slice none 0 0)).setCell ⟨G,3,none⟩ (.int .i64 0)).setCell ⟨G,4,none⟩ (.int .i64 0)).setCell ⟨G,5,none⟩ (.int .i64 0)).setCell ⟨G,6,none⟩ (.slice none 0 0)).setCell ⟨G,7,none⟩ (.int .i64 0)).setCell ⟨G,8,none⟩ (.int .i64 0)).setCell ⟨G,9,none⟩ (.int .i64 0)).setCell ⟨G,10,none⟩ (.slice none 0 0)) E 0 (.int .i64 k)).block G (ao hG1) hne).trans hG1
 have HF2:Hid (W.1[E]?=some (.cells #[.int .i64 k] 36 (0,0))):=by
  show _=_
  rw[hW,dC]
  exact al hE1 0 _
 have HF3:Hid (Aside (fun i=>i=G∨i=E) w W):=by
  rw[hW]
  exact((hA1.mono (fun _ _ h=>.inl h)).trans (ai _ E 0 _) (fun _ _ h=>.inr h)).drew
 have HW:Hid (((((((((((((w.setCell ⟨G,0,none⟩ (.int .i64 0)).setCell ⟨G,1,none⟩ (.int .i64 0)).setCell ⟨G,2,none⟩ (.slice none 0 0)).setCell ⟨G,3,none⟩ (.int .i64 0)).setCell ⟨G,4,none⟩ (.int .i64 0)).setCell ⟨G,5,none⟩ (.int .i64 0)).setCell ⟨G,6,none⟩ (.slice none 0 0)).setCell ⟨G,7,none⟩ (.int .i64 0)).setCell ⟨G,8,none⟩ (.int .i64 0)).setCell ⟨G,9,none⟩ (.int .i64 0)).setCell ⟨G,10,none⟩ (.slice none 0 0)).setCell ⟨E,0,none⟩ (.int .i64 k)).drew=W):=by rw[hW];exact rfl
 clear hG hE hW hA1 hG1 hE1
 refine callsD_of_wpS Tryz.func58 rfl fun c₀ cs hu=>?_
 apply wpS_seq
 apply wpS_region
 simp[wpOpsS,go_sem,recoverD,hu,Tryz.ntmps58,Exit.thenS]
 refine wpS_of_wp ?_
 go_wp2_with fail
 go_region_law (fail)
 all_goals
  show bodyPostS Tryz.prog Tryz.f58 c₀ cs _ Exit.normal _ _ _
  rw[HW.out]
  simp[bodyPostS,results,Tryz.results58]
  exact⟨HF1.out,HF2.out,HF3.out⟩
theorem kG(p q:Addr)(w:World):
  CallsD Tryz.prog 58 #[.pointer (some p),.pointer (some q)] .returning w fun e u' w'=>e=.returned (.tuple #[])∧u'=.returning∧w'=w:=by
 refine callsD_of_wpS Tryz.func58 rfl fun c₀ cs hu=>?_
 apply wpS_seq
 apply wpS_region
 simp[wpOpsS,go_sem,recoverD,hu,Tryz.ntmps58,Exit.thenS]
 refine wpS_of_wp ?_
 go_wp2_with fail
 cases c₀
 simp_all [bodyPostS,results,Tryz.results58]
end
end Go.Proofs.YtceomhodhmcknaaGreatDoor

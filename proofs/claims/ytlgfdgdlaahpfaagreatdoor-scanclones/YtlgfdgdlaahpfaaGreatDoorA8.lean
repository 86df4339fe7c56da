import Derived.Test.YtlgfdgdlaahpfaaGreatDoorB24
set_option maxRecDepth 100000
set_option maxHeartbeats 8000000
namespace Go.Proofs.YtlgfdgdlaahpfaaGreatDoor
section
open Go.RowKit
def vl(w:World)(r:Except Nat L8)(e:Ending)(w':World):Prop:=match r with
 |.error k=>e=.returned (.tuple #[.slice none 0 0,.int .i64 (k:Nat)])∧Below w.1.size w w'
 |.ok b=>∃g o cap,e=.returned (.tuple #[.slice (some ⟨g,o,none⟩) b.length cap,.int .i64 0])∧At w' (some ⟨g,o,none⟩) b∧b.length<=cap∧w.1.size<=g∧Below w.1.size w w'
theorem sS(p:OA)(c:Nat)(l:L8)(hl:l.length<=140737488351232)(hlc:l.length<=c)(w:World)(hv:Hv w)(h:At w p l):
  Calls Tryz.prog 81 #[.slice p l.length c] w (vl w (Fr.open_ l)):=by
 obtain⟨r,hr⟩:∃r,r=Fr.open_ l:=⟨_,rfl⟩
 have HR:Hid (r=if 2200<l.length then .error 2 else if (Cob.un l).1≠0 then .error (Cob.un l).1
  else if (Cob.un l).2.length<5 then .error 30
  else if (Cob.un l).2.drop ((Cob.un l).2.length-4)=Sch.le 4 (Crc.sum ((Cob.un l).2.take ((Cob.un l).2.length-4))) then .ok ((Cob.un l).2.take ((Cob.un l).2.length-4)) else .error 120):=hr
 rw[<-hr]
 clear hr
 have HU:=vQ (px p c l w hl hlc h)
 have HHv:=vQ hv
 clear h hv
 by_cases h22:2200<l.length
 ·have g0:(2200:Int)<(l.length:Int):=by omega
  have HR2:Hid (r=.error 2):=HR.out.trans (if_pos h22)
  clear HR h22
  go_enter Tryz.func81,Tryz.ntmps81
  go_wp2
  go_ret2
  rw[HR2.out]
  exact⟨rfl,vZ⟩
 have g0:¬(2200:Int)<(l.length:Int):=by omega
 have HR1:=vQ (HR.out.trans (if_neg h22))
 have hul:=Cob.un_length l
 unfold fP at HU
 obtain⟨ue,hue⟩:∃ue,ue=(Cob.un l).1:=⟨_,rfl⟩
 obtain⟨ub,hub⟩:∃ub,ub=(Cob.un l).2:=⟨_,rfl⟩
 rw[<-hub] at HU hul HR1
 rw[<-hue] at HU HR1
 clear HR hue hub
 go_enter Tryz.func81,Tryz.ntmps81
 go_wp2_with fail
 refine HU.out.mono ?_
 rintro e w1 ⟨q,cap,rfl,hat,hcap,hfr,hb⟩
 have HB1:=vQ hb
 have HA1:=vQ hat
 have HF1:=vQ hfr
 clear hat hfr hb HU
 by_cases he:ue=0
 ·subst he
  have HR2:=vQ (HR1.out.trans (if_neg (by omega)))
  clear HR1
  by_cases h5:ub.length<5
  ·have g1:(ub.length:Int)<5:=by omega
   have HR3:Hid (r=.error 30):=HR2.out.trans (if_pos h5)
   clear HR2 h5
   go_wp2
   go_ret2
   rw[HR3.out]
   exact⟨rfl,HB1.out⟩
  have g1:¬(ub.length:Int)<5:=by omega
  have HR3:=vQ (HR2.out.trans (if_neg h5))
  clear HR2
  obtain⟨g,o,rfl,hg,hF⟩:=HF1.out (fun hc=>by rw[hc] at h5;simp at h5)
  obtain⟨K,hK⟩:∃K,ub.length=K+4:=⟨ub.length-4,by omega⟩
  have hK4:ub.length-4=K:=by omega
  rw[hK4] at HR3
  obtain⟨b,hb⟩:∃b,b=ub.take K:=⟨_,rfl⟩
  obtain⟨s,hs⟩:∃s,s=ub.drop K:=⟨_,rfl⟩
  have hbl:b.length=K:=by rw[hb,List.length_take];omega
  have hsl:s.length=4:=by rw[hs,List.length_drop];omega
  have HAb:Hid (At w1 (some ⟨g,o,none⟩) b):=by rw[hb];exact .inr ⟨g,o,rfl,hF.1,dN hF.2.1 K⟩
  have HAs:Hid (At w1 (some ⟨g,o+K,none⟩) s):=by rw[hs];exact .inr ⟨g,o+K,rfl,hF.1,dO hF.2.1 K⟩
  rw[<-hb,<-hs] at HR3
  have hKb:(K:Int)<=2200:=by omega
  have g2:(K:Int)<=(ub.length:Int):=by omega
  have g3:(K:Int)<=(cap:Int):=by omega
  have hKe:((ub.length:Nat):Int)-4=(K:Int):=by omega
  have hc1:iO (some ⟨g,o,none⟩) cap=some ⟨g,o,none⟩:=by
   unfold iO
   split
   ·rfl
   ·rw[Option.map_some,Lib.add_plain];rfl
  have hc2:dm (some ⟨g,o,none⟩) K cap=some ⟨g,o+K,none⟩:=by
   unfold dm
   rw[if_neg (by omega),Option.map_some,Lib.add_plain]
  have s1:∀w',(Instr.slice 31 (.slice (some ⟨g,o,none⟩) (K+4) cap) none (some (.int .i64 (K:Int))) none).run Tryz.prog w'=.ok (.slice (some ⟨g,o,none⟩) K cap) w':=fun w'=>by
   have:=i8 (some ⟨g,o,none⟩) (K+4) cap K (by omega) w'
   rw[hc1] at this
   exact this
  have s2:∀w',(Instr.slice 31 (.slice (some ⟨g,o,none⟩) (K+4) cap) (some (.int .i64 (K:Int))) none none).run Tryz.prog w'=.ok (.slice (some ⟨g,o+K,none⟩) 4 (cap-K)) w':=fun w'=>by
   have:=cW (some ⟨g,o,none⟩) (K+4) cap K (by omega) w'
   rw[hc2,Nat.add_sub_cancel_left] at this
   exact this
  have HS:Hid (∀w',Below w1.1.size w1 w'->Calls Tryz.prog 74 #[.slice (some ⟨g,o,none⟩) K cap] w' fun e w''=>e=.returned (.slice (some ⟨w'.1.size,0,none⟩) 4 4)∧w''=w'.alloc (.cells (cellsOf (Sch.le 4 (Crc.sum b))).toArray 5)):=fun w' hb'=>by
   have:=pz (some ⟨g,o,none⟩) cap b (by omega) w' ((HHv.out.next HB1.out).next hb') (HAb.out.on hb')
   rw[hbl] at this
   exact this
  obtain⟨k,hk⟩:∃k,k=Sch.le 4 (Crc.sum b):=⟨_,rfl⟩
  rw[<-hk] at HS HR3
  have hkl:k.length=4:=by rw[hk,Sch.le_len]
  have HE:Hid (∀w' W,Below w1.1.size w1 w'->W=w'.alloc (.cells (cellsOf k).toArray 5)->Calls Tryz.prog 115 #[.slice (some ⟨w'.1.size,0,none⟩) 4 4,.slice (some ⟨g,o+K,none⟩) 4 (cap-K)] W fun e w''=>e=.returned (.bool (k==s))∧w''=W):=fun w' W hb' hW=>by
   have hb2:Below w1.1.size w1 W:=by rw[hW];exact hb'.alloc hb'.size _
   have:=t7 (some ⟨w'.1.size,0,none⟩) (some ⟨g,o+K,none⟩) 4 (cap-K) k s W (by rw[hW];exact rz w' _ k rfl) (HAs.out.on hb2)
   rw[hkl,hsl] at this
   exact this
  have HAl:Hid (∀w' o',Below w1.1.size w1 w'->Below w1.1.size w1 (w'.alloc o')):=fun w' o' hb'=>hb'.alloc hb'.size o'
  obtain⟨t,ht⟩:∃t,t=(k==s):=⟨_,rfl⟩
  rw[<-ht] at HE
  have HT:=vQ ht
  have HHb:=vQ hbl
  rw[hK]
  rw[hK] at hcap g1 g2
  clear hk hb hs hF h5 HF1 HA1 ht hK4 hKe hc1 hc2 hK hbl
  go_wp2_with fail
  go_region_held3 (fun _=>True) (trivial) (first
   | (go_at_call 74;refine(HS.out _ (vZ.drew)).mono ?_;rintro e w2 ⟨rfl,hw2⟩;have HW2:=vQ hw2;clear hw2)
   | (go_at_call 115;refine(HE.out w1.drew _ (vZ.drew) HW2.out).mono ?_;rintro e w3 ⟨rfl,hw3⟩;have HW3:=vQ hw3;clear hw3)
   |fail)
  have HB3:Hid (Below w.1.size w w3):=by
   rw[HW3.out,HW2.out]
   exact HB1.out.trans ((HAl.out _ _ (vZ.drew)).mono HB1.out.size)
  have HA3:Hid (At w3 (some ⟨g,o,none⟩) b):=by
   have hb13:Below w1.1.size w1 w3:=by rw[HW3.out,HW2.out];exact HAl.out _ _ (vZ.drew)
   exact HAb.out.on hb13
  cases t with
  |false=>
   have HR4:Hid (r=.error 120):=by
    show _=_
    rw[HR3.out,if_neg]
    intro hc
    have:=HT.out
    rw[hc,beq_self_eq_true] at this
    cases this
   go_wp2
   go_ret2
   rw[HR4.out]
   exact⟨rfl,HB3.out⟩
  |true=>
   have HR4:Hid (r=.ok b):=by
    show _=_
    have:=HT.out.symm
    rw[beq_iff_eq] at this
    rw[HR3.out,if_pos this.symm]
   go_wp2
   go_ret2
   rw[HR4.out]
   exact⟨g,o,cap,by rw[HHb.out];rfl,HA3.out,by rw[HHb.out];omega,hg,HB3.out⟩
 ·have g1:((ue:Int) != 0)=true:=by rw[bne_iff_ne];omega
  have HR2:Hid (r=.error ue):=HR1.out.trans (if_pos he)
  clear HR1 he
  go_wp2
  go_ret2
  rw[HR2.out]
  exact⟨rfl,HB1.out⟩
end
section
open Go.RowKit
theorem uA(x:Value)(w:World):(Instr.typeAssert (.iface 124 x) 103 124 true).run Tryz.prog w=.ok (.tuple #[x,.bool true]) w:=by kernel_rfl
theorem uz(x:Value)(w:World):(Instr.typeAssert (.iface 124 x) 103 126 true).run Tryz.prog w=.ok (.tuple #[.agg #[.int .i64 0,.int .i64 0,.int .i64 0,.int .i64 0,.slice none 0 0],.bool false]) w:=by kernel_rfl
theorem uw(x:Value)(w:World):(Instr.typeAssert (.iface 124 x) 103 128 true).run Tryz.prog w=.ok (.tuple #[.agg #[.int .i64 0,.int .i64 0,.int .i64 0,.slice none 0 0],.bool false]) w:=by kernel_rfl
theorem uv(x:Value)(w:World):(Instr.typeAssert (.iface 126 x) 103 124 true).run Tryz.prog w=.ok (.tuple #[.agg #[.int .i64 0,.slice none 0 0],.bool false]) w:=by kernel_rfl
theorem uu(x:Value)(w:World):(Instr.typeAssert (.iface 126 x) 103 126 true).run Tryz.prog w=.ok (.tuple #[x,.bool true]) w:=by kernel_rfl
theorem uq(x:Value)(w:World):(Instr.typeAssert (.iface 126 x) 103 128 true).run Tryz.prog w=.ok (.tuple #[.agg #[.int .i64 0,.int .i64 0,.int .i64 0,.slice none 0 0],.bool false]) w:=by kernel_rfl
theorem uo(x:Value)(w:World):(Instr.typeAssert (.iface 128 x) 103 124 true).run Tryz.prog w=.ok (.tuple #[.agg #[.int .i64 0,.slice none 0 0],.bool false]) w:=by kernel_rfl
theorem um(x:Value)(w:World):(Instr.typeAssert (.iface 128 x) 103 126 true).run Tryz.prog w=.ok (.tuple #[.agg #[.int .i64 0,.int .i64 0,.int .i64 0,.int .i64 0,.slice none 0 0],.bool false]) w:=by kernel_rfl
theorem ul(x:Value)(w:World):(Instr.typeAssert (.iface 128 x) 103 128 true).run Tryz.prog w=.ok (.tuple #[x,.bool true]) w:=by kernel_rfl
theorem oO(n:Int)(sp:OA)(sn sc:Nat)(w:World):Calls Tryz.prog 83 #[.iface 124 (.agg #[.int .i64 n,.slice sp sn sc])] w fun e w'=>e=.returned (.agg #[.int .i64 1,.int .i64 n,.slice sp sn sc,.int .i64 0,.int .i64 0,.int .i64 0,.slice none 0 0,.int .i64 0,.int .i64 0,.int .i64 0,.slice none 0 0])∧Below w.1.size w w':=by
 have t1:=uA (.agg #[.int .i64 n,.slice sp sn sc])
 have t2:=uz (.agg #[.int .i64 n,.slice sp sn sc])
 have t3:=uw (.agg #[.int .i64 n,.slice sp sn sc])
 have HB:Hid (∀o o2,Below w.1.size w ((w.alloc o).alloc o2)):=fun o o2=>vY.alloc (by simp) _
 go_enter Tryz.func83,Tryz.ntmps83
 go_wp2
 refine bodyPost_ret (v:=.agg #[.int .i64 1,.int .i64 n,.slice sp sn sc,.int .i64 0,.int .i64 0,.int .i64 0,.slice none 0 0,.int .i64 0,.int .i64 0,.int .i64 0,.slice none 0 0]) (results_cell_row rfl _ _ w.1.size _ _ _ _ rfl (et w _ _) Tryz.underlying36 rfl (by kernel_rfl)) rfl ?_
 exact⟨rfl,HB.out _ _⟩
theorem oN(n q fi r:Int)(bp:OA)(bn bc:Nat)(w:World):Calls Tryz.prog 83 #[.iface 126 (.agg #[.int .i64 n,.int .i64 q,.int .i64 fi,.int .i64 r,.slice bp bn bc])] w fun e w'=>e=.returned (.agg #[.int .i64 2,.int .i64 n,.slice none 0 0,.int .i64 q,.int .i64 fi,.int .i64 r,.slice bp bn bc,.int .i64 0,.int .i64 0,.int .i64 0,.slice none 0 0])∧Below w.1.size w w':=by
 have t1:=uv (.agg #[.int .i64 n,.int .i64 q,.int .i64 fi,.int .i64 r,.slice bp bn bc])
 have t2:=uu (.agg #[.int .i64 n,.int .i64 q,.int .i64 fi,.int .i64 r,.slice bp bn bc])
 have t3:=uq (.agg #[.int .i64 n,.int .i64 q,.int .i64 fi,.int .i64 r,.slice bp bn bc])
 have HB:Hid (∀o o2,Below w.1.size w ((w.alloc o).alloc o2)):=fun o o2=>vY.alloc (by simp) _
 go_enter Tryz.func83,Tryz.ntmps83
 go_wp2
 refine bodyPost_ret (v:=.agg #[.int .i64 2,.int .i64 n,.slice none 0 0,.int .i64 q,.int .i64 fi,.int .i64 r,.slice bp bn bc,.int .i64 0,.int .i64 0,.int .i64 0,.slice none 0 0]) (results_cell_row rfl _ _ w.1.size _ _ _ _ rfl (et w _ _) Tryz.underlying36 rfl (by kernel_rfl)) rfl ?_
 exact⟨rfl,HB.out _ _⟩
theorem oM(ia ib ic:Int)(ep:OA)(en ec:Nat)(w:World):Calls Tryz.prog 83 #[.iface 128 (.agg #[.int .i64 ia,.int .i64 ib,.int .i64 ic,.slice ep en ec])] w fun e w'=>e=.returned (.agg #[.int .i64 3,.int .i64 0,.slice none 0 0,.int .i64 0,.int .i64 0,.int .i64 0,.slice none 0 0,.int .i64 ia,.int .i64 ib,.int .i64 ic,.slice ep en ec])∧Below w.1.size w w':=by
 have t1:=uo (.agg #[.int .i64 ia,.int .i64 ib,.int .i64 ic,.slice ep en ec])
 have t2:=um (.agg #[.int .i64 ia,.int .i64 ib,.int .i64 ic,.slice ep en ec])
 have t3:=ul (.agg #[.int .i64 ia,.int .i64 ib,.int .i64 ic,.slice ep en ec])
 have HB:Hid (∀o o2,Below w.1.size w ((w.alloc o).alloc o2)):=fun o o2=>vY.alloc (by simp) _
 go_enter Tryz.func83,Tryz.ntmps83
 go_wp2
 refine bodyPost_ret (v:=.agg #[.int .i64 3,.int .i64 0,.slice none 0 0,.int .i64 0,.int .i64 0,.int .i64 0,.slice none 0 0,.int .i64 ia,.int .i64 ib,.int .i64 ic,.slice ep en ec]) (results_cell_row rfl _ _ w.1.size _ _ _ _ rfl (et w _ _) Tryz.underlying36 rfl (by kernel_rfl)) rfl ?_
 exact⟨rfl,HB.out _ _⟩
end
section
open Go.RowKit
def qN(B:Nat)(f:Fr)(v:Value)(w:World):Prop:=(f.kind=1∧∃x,v=.iface 124 x∧uJ B f x w)∨(f.kind=2∧∃x,v=.iface 126 x∧uL B f x w)∨(f.kind=3∧∃x,v=.iface 128 x∧qM B f x w)
theorem eT.good{w w':World}{R:Nat}{f:Fr}{V:Fr->Value->World->Prop}{e:Ending}(h:eT w R (.ok f) V e w'):∃v,e=.returned v∧V f v w'∧Aside (fun i=>i=R) w w':=h
theorem eT.bad{w w':World}{R k:Nat}{V:Fr->Value->World->Prop}{e:Ending}(h:eT w R (.error k) V e w'):e=.panicked (dS k)∧Aside (fun i=>i=R) w w':=h
theorem oS(l:L8)(A R:Nat)(w:World)(h:bS w A R l):Calls Tryz.prog 84 #[.pointer (some ⟨R,0,none⟩),.int .i64 1] w (eT w R (Fr.rdS l) (qN w.1.size)):=by
 have HC:=vQ (iH l A R w h)
 obtain⟨r,hr⟩:∃r,r=Fr.rdS l:=⟨_,rfl⟩
 rw[<-hr] at HC ⊢
 clear h
 cases r with
 |error er=>
  clear hr
  go_enter Tryz.func84,Tryz.ntmps84
  go_wp2_with fail
  refine HC.out.mono ?_
  intro e w1 hh
  obtain⟨he,ha⟩:=hh.bad
  subst he
  have HA:=vQ ha
  clear hh ha HC
  go_wp2
  exact⟨rfl,rfl,HA.out⟩
 |ok f=>
  have HKd:Hid (f.kind=1):=by
   have:=(Fr.rdF_ok (k:=1) (l:=l) (f:=f) (by rw[hr];rfl)).1
   exact this
  clear hr
  go_enter Tryz.func84,Tryz.ntmps84
  go_wp2_with fail
  refine HC.out.mono ?_
  intro e w1 hh
  obtain⟨v,he,hv,ha⟩:=hh.good
  subst he
  have HA:=vQ ha
  have HV:=vQ hv
  obtain⟨p,c,rfl,-⟩:=hv
  clear hh ha HC
  go_wp2
  go_ret
  exact⟨_,rfl,.inl ⟨HKd.out,_,rfl,HV.out⟩,HA.out⟩
theorem oR(l:L8)(A R:Nat)(w:World)(h:bS w A R l):Calls Tryz.prog 84 #[.pointer (some ⟨R,0,none⟩),.int .i64 2] w (eT w R (Fr.rdD l) (qN w.1.size)):=by
 have HC:=vQ (li l A R w h)
 obtain⟨r,hr⟩:∃r,r=Fr.rdD l:=⟨_,rfl⟩
 rw[<-hr] at HC ⊢
 clear h
 cases r with
 |error er=>
  clear hr
  go_enter Tryz.func84,Tryz.ntmps84
  go_wp2_with fail
  refine HC.out.mono ?_
  intro e w1 hh
  obtain⟨he,ha⟩:=hh.bad
  subst he
  have HA:=vQ ha
  clear hh ha HC
  go_wp2
  exact⟨rfl,rfl,HA.out⟩
 |ok f=>
  have HKd:Hid (f.kind=2):=by
   have:=(Fr.rdF_ok (k:=2) (l:=l) (f:=f) (by rw[hr];rfl)).1
   exact this
  clear hr
  go_enter Tryz.func84,Tryz.ntmps84
  go_wp2_with fail
  refine HC.out.mono ?_
  intro e w1 hh
  obtain⟨v,he,hv,ha⟩:=hh.good
  subst he
  have HA:=vQ ha
  have HV:=vQ hv
  obtain⟨p,c,rfl,-⟩:=hv
  clear hh ha HC
  go_wp2
  go_ret
  exact⟨_,rfl,.inr (.inl ⟨HKd.out,_,rfl,HV.out⟩),HA.out⟩
theorem oQ(l:L8)(A R:Nat)(w:World)(h:bS w A R l):Calls Tryz.prog 84 #[.pointer (some ⟨R,0,none⟩),.int .i64 3] w (eT w R (Fr.rdI l) (qN w.1.size)):=by
 have HC:=vQ (jF l A R w h)
 obtain⟨r,hr⟩:∃r,r=Fr.rdI l:=⟨_,rfl⟩
 rw[<-hr] at HC ⊢
 clear h
 cases r with
 |error er=>
  clear hr
  go_enter Tryz.func84,Tryz.ntmps84
  go_wp2_with fail
  refine HC.out.mono ?_
  intro e w1 hh
  obtain⟨he,ha⟩:=hh.bad
  subst he
  have HA:=vQ ha
  clear hh ha HC
  go_wp2
  exact⟨rfl,rfl,HA.out⟩
 |ok f=>
  have HKd:Hid (f.kind=3):=by
   have:=(Fr.rdF_ok (k:=3) (l:=l) (f:=f) (by rw[hr];rfl)).1
   exact this
  clear hr
  go_enter Tryz.func84,Tryz.ntmps84
  go_wp2_with fail
  refine HC.out.mono ?_
  intro e w1 hh
  obtain⟨v,he,hv,ha⟩:=hh.good
  subst he
  have HA:=vQ ha
  have HV:=vQ hv
  obtain⟨p,c,rfl,-⟩:=hv
  clear hh ha HC
  go_wp2
  go_ret
  exact⟨_,rfl,.inr (.inr ⟨HKd.out,_,rfl,HV.out⟩),HA.out⟩
theorem oT(k:Int)(h1:k≠1)(h2:k≠2)(h3:k≠3)(R:Nat)(w:World):Calls Tryz.prog 84 #[.pointer (some ⟨R,0,none⟩),.int .i64 k] w (eT w R (.error 60) (qN w.1.size)):=by
 have g1:(k==1)=false:=aH h1
 have g2:(k==2)=false:=aH h2
 have g3:(k==3)=false:=aH h3
 clear h1 h2 h3
 go_enter Tryz.func84,Tryz.ntmps84
 go_wp2
 exact⟨rfl,rfl,Aside.refl _ _⟩
theorem sE(k:Nat)(l:L8)(A R:Nat)(w:World)(h:bS w A R l):Calls Tryz.prog 84 #[.pointer (some ⟨R,0,none⟩),.int .i64 k] w (eT w R (Fr.rdF k l) (qN w.1.size)):=by
 unfold Fr.rdF
 by_cases h1:k=1
 ·subst h1
  rw[if_pos rfl]
  exact oS l A R w h
 rw[if_neg h1]
 by_cases h2:k=2
 ·subst h2
  rw[if_pos rfl]
  exact oR l A R w h
 rw[if_neg h2]
 by_cases h3:k=3
 ·subst h3
  rw[if_pos rfl]
  exact oQ l A R w h
 rw[if_neg h3]
 exact oT k (by omega) (by omega) (by omega) R w
end
section
open Go.RowKit
theorem dj(w:World):w.drew.1=w.1:=rfl
def eM:AV:=#[.int .i64 0,.int .i64 0,.slice none 0 0,.int .i64 0,.int .i64 0,.int .i64 0,.slice none 0 0,.int .i64 0,.int .i64 0,.int .i64 0,.slice none 0 0]
def eX(w:World)(g:Nat)(c0 c1 c2 c3 c4 c5 c6 c7 c8 c9 c10:Value):World:=((((((((((w.setCell ⟨g,0,none⟩ c0).setCell ⟨g,1,none⟩ c1).setCell ⟨g,2,none⟩ c2).setCell ⟨g,3,none⟩ c3).setCell ⟨g,4,none⟩ c4).setCell ⟨g,5,none⟩ c5).setCell ⟨g,6,none⟩ c6).setCell ⟨g,7,none⟩ c7).setCell ⟨g,8,none⟩ c8).setCell ⟨g,9,none⟩ c9).setCell ⟨g,10,none⟩ c10
theorem dh{w:World}{g:Nat}{T:TypeId}{d0 d1 d2 d3 d4 d5 d6 d7 d8 d9 d10:Value}(h:w.1[g]?=some (.cells #[d0,d1,d2,d3,d4,d5,d6,d7,d8,d9,d10] T (0,0)))(c0 c1 c2 c3 c4 c5 c6 c7 c8 c9 c10:Value):(eX w g c0 c1 c2 c3 c4 c5 c6 c7 c8 c9 c10).1[g]?=some (.cells #[c0,c1,c2,c3,c4,c5,c6,c7,c8,c9,c10] T (0,0)):=by
 have b0:(w.setCell ⟨g,0,none⟩ c0).1[g]?=some (.cells #[c0,d1,d2,d3,d4,d5,d6,d7,d8,d9,d10] T (0,0)):=ap h 0 _
 have b1:((w.setCell ⟨g,0,none⟩ c0).setCell ⟨g,1,none⟩ c1).1[g]?=some (.cells #[c0,c1,d2,d3,d4,d5,d6,d7,d8,d9,d10] T (0,0)):=ap b0 1 _
 have b2:(((w.setCell ⟨g,0,none⟩ c0).setCell ⟨g,1,none⟩ c1).setCell ⟨g,2,none⟩ c2).1[g]?=some (.cells #[c0,c1,c2,d3,d4,d5,d6,d7,d8,d9,d10] T (0,0)):=ap b1 2 _
 have b3:((((w.setCell ⟨g,0,none⟩ c0).setCell ⟨g,1,none⟩ c1).setCell ⟨g,2,none⟩ c2).setCell ⟨g,3,none⟩ c3).1[g]?=some (.cells #[c0,c1,c2,c3,d4,d5,d6,d7,d8,d9,d10] T (0,0)):=ap b2 3 _
 have b4:(((((w.setCell ⟨g,0,none⟩ c0).setCell ⟨g,1,none⟩ c1).setCell ⟨g,2,none⟩ c2).setCell ⟨g,3,none⟩ c3).setCell ⟨g,4,none⟩ c4).1[g]?=some (.cells #[c0,c1,c2,c3,c4,d5,d6,d7,d8,d9,d10] T (0,0)):=ap b3 4 _
 have b5:((((((w.setCell ⟨g,0,none⟩ c0).setCell ⟨g,1,none⟩ c1).setCell ⟨g,2,none⟩ c2).setCell ⟨g,3,none⟩ c3).setCell ⟨g,4,none⟩ c4).setCell ⟨g,5,none⟩ c5).1[g]?=some (.cells #[c0,c1,c2,c3,c4,c5,d6,d7,d8,d9,d10] T (0,0)):=ap b4 5 _
 have b6:(((((((w.setCell ⟨g,0,none⟩ c0).setCell ⟨g,1,none⟩ c1).setCell ⟨g,2,none⟩ c2).setCell ⟨g,3,none⟩ c3).setCell ⟨g,4,none⟩ c4).setCell ⟨g,5,none⟩ c5).setCell ⟨g,6,none⟩ c6).1[g]?=some (.cells #[c0,c1,c2,c3,c4,c5,c6,d7,d8,d9,d10] T (0,0)):=ap b5 6 _
 have b7:((((((((w.setCell ⟨g,0,none⟩ c0).setCell ⟨g,1,none⟩ c1).setCell ⟨g,2,none⟩ c2).setCell ⟨g,3,none⟩ c3).setCell ⟨g,4,none⟩ c4).setCell ⟨g,5,none⟩ c5).setCell ⟨g,6,none⟩ c6).setCell ⟨g,7,none⟩ c7).1[g]?=some (.cells #[c0,c1,c2,c3,c4,c5,c6,c7,d8,d9,d10] T (0,0)):=ap b6 7 _
 have b8:(((((((((w.setCell ⟨g,0,none⟩ c0).setCell ⟨g,1,none⟩ c1).setCell ⟨g,2,none⟩ c2).setCell ⟨g,3,none⟩ c3).setCell ⟨g,4,none⟩ c4).setCell ⟨g,5,none⟩ c5).setCell ⟨g,6,none⟩ c6).setCell ⟨g,7,none⟩ c7).setCell ⟨g,8,none⟩ c8).1[g]?=some (.cells #[c0,c1,c2,c3,c4,c5,c6,c7,c8,d9,d10] T (0,0)):=ap b7 8 _
 have b9:((((((((((w.setCell ⟨g,0,none⟩ c0).setCell ⟨g,1,none⟩ c1).setCell ⟨g,2,none⟩ c2).setCell ⟨g,3,none⟩ c3).setCell ⟨g,4,none⟩ c4).setCell ⟨g,5,none⟩ c5).setCell ⟨g,6,none⟩ c6).setCell ⟨g,7,none⟩ c7).setCell ⟨g,8,none⟩ c8).setCell ⟨g,9,none⟩ c9).1[g]?=some (.cells #[c0,c1,c2,c3,c4,c5,c6,c7,c8,c9,d10] T (0,0)):=ap b8 9 _
 have b10:(((((((((((w.setCell ⟨g,0,none⟩ c0).setCell ⟨g,1,none⟩ c1).setCell ⟨g,2,none⟩ c2).setCell ⟨g,3,none⟩ c3).setCell ⟨g,4,none⟩ c4).setCell ⟨g,5,none⟩ c5).setCell ⟨g,6,none⟩ c6).setCell ⟨g,7,none⟩ c7).setCell ⟨g,8,none⟩ c8).setCell ⟨g,9,none⟩ c9).setCell ⟨g,10,none⟩ c10).1[g]?=some (.cells #[c0,c1,c2,c3,c4,c5,c6,c7,c8,c9,c10] T (0,0)):=ap b9 10 _
 exact b10
theorem cG(w:World)(g:Nat)(c0 c1 c2 c3 c4 c5 c6 c7 c8 c9 c10:Value):Aside (fun i=>i=g) w (eX w g c0 c1 c2 c3 c4 c5 c6 c7 c8 c9 c10):=(((((((((((af w g 0 _).trans (af _ g 1 _) (fun _ _ h=>h)).trans (af _ g 2 _) (fun _ _ h=>h)).trans (af _ g 3 _) (fun _ _ h=>h)).trans (af _ g 4 _) (fun _ _ h=>h)).trans (af _ g 5 _) (fun _ _ h=>h)).trans (af _ g 6 _) (fun _ _ h=>h)).trans (af _ g 7 _) (fun _ _ h=>h)).trans (af _ g 8 _) (fun _ _ h=>h)).trans (af _ g 9 _) (fun _ _ h=>h)).trans (af _ g 10 _) (fun _ _ h=>h))
structure aW(w W:World)(y:Int):Prop where
 b0:W.1[w.1.size]?=some (.cells #[.int .i64 0,.int .i64 0,.slice none 0 0,.int .i64 0,.int .i64 0,.int .i64 0,.slice none 0 0,.int .i64 0,.int .i64 0,.int .i64 0,.slice none 0 0] 36 (0,0))
 b1:W.1[w.1.size+1]?=some (.cells #[.int .i64 y] 39 (0,0))
 size:w.1.size+2<=W.1.size
 below:Below w.1.size w W
theorem eH(w:World):aW w ((w.alloc (.cells #[.int .i64 0,.int .i64 0,.slice none 0 0,.int .i64 0,.int .i64 0,.int .i64 0,.slice none 0 0,.int .i64 0,.int .i64 0,.int .i64 0,.slice none 0 0] 36)).alloc (.cells #[.int .i64 0] 39)) 0 :=
 ⟨et w _ _,mU w _ _,by simp,vY.alloc (by simp) _⟩
theorem aW.on{w W W':World}{y:Int}(h:aW w W y)(hb:Below W.1.size W W'):aW w W' y:=by
 have hs:=h.size
 exact⟨(hb.block _ (by omega)).trans h.b0,(hb.block _ (by omega)).trans h.b1,Nat.le_trans hs hb.size,h.below.trans (hb.mono (by omega))⟩
theorem aW.step{w W W':World}{y:Int}{R:Nat}(h:aW w W y)(ha:Aside (fun i=>i=R) W W')(hR:w.1.size+2<=R):aW w W' y:=by
 have hs:=h.size
 exact⟨(ha.block _ (by omega) (by omega)).trans h.b0,(ha.block _ (by omega) (by omega)).trans h.b1,Nat.le_trans hs ha.size,h.below.trans (ha.below (by omega) (fun k hk=>by omega))⟩
theorem aW.setE{w W:World}{y:Int}(h:aW w W y)(y':Int):aW w (W.setCell ⟨w.1.size+1,0,none⟩ (.int .i64 y')) y':=by
 have hs:=h.size
 have ha:Aside (fun i=>i=w.1.size+1) W (W.setCell ⟨w.1.size+1,0,none⟩ (.int .i64 y')):=af _ _ _ _
 exact⟨(ha.block _ (by omega) (by omega)).trans h.b0,ap h.b1 0 _,Nat.le_trans hs ha.size,h.below.trans (ha.below (by omega) (fun k hk=>by omega))⟩
theorem aW.drew{w W:World}{y:Int}(h:aW w W y):aW w W.drew y:=⟨h.b0,h.b1,h.size,h.below.drew⟩
theorem jy(k:Int)(w:World):(Instr.typeAssert (.iface 39 (.int .i64 k)) 20 39 false).run Tryz.prog w=.ok (.int .i64 k) w:=by kernel_rfl
theorem fp(G E:Nat)(k:Int)(y:Int)(w:World)(hG:w.1[G]?=some (.cells #[.int .i64 0,.int .i64 0,.slice none 0 0,.int .i64 0,.int .i64 0,.int .i64 0,.slice none 0 0,.int .i64 0,.int .i64 0,.int .i64 0,.slice none 0 0] 36 (0,0)))(hE:w.1[E]?=some (.cells #[.int .i64 y] 39 (0,0)))(hne:G≠E):
  CallsD Tryz.prog 82 #[.pointer (some ⟨G,0,none⟩),.pointer (some ⟨E,0,none⟩)] (.panicking [{ v:=.iface 39 (.int .i64 k),recovered:=false }]) w fun e u' w'=>
   e=.returned (.tuple #[])∧u'=.panicking [{ v:=.iface 39 (.int .i64 k),recovered:=true }]∧w'.1[G]?=some (.cells #[.int .i64 0,.int .i64 0,.slice none 0 0,.int .i64 0,.int .i64 0,.int .i64 0,.slice none 0 0,.int .i64 0,.int .i64 0,.int .i64 0,.slice none 0 0] 36 (0,0))∧w'.1[E]?=some (.cells #[.int .i64 k] 39 (0,0))∧Aside (fun i=>i=G∨i=E) w w':=by
 have hta:=jy k
 have x0:w.cell? ⟨G,0,none⟩=some (.int .i64 0):=aa hG 0
 have xf0:=ac hG 0
 have x1:w.cell? ⟨G,1,none⟩=some (.int .i64 0):=aa hG 1
 have xf1:=ac hG 1
 have x2:w.cell? ⟨G,2,none⟩=some (.slice none 0 0):=aa hG 2
 have xf2:=ac hG 2
 have x3:w.cell? ⟨G,3,none⟩=some (.int .i64 0):=aa hG 3
 have xf3:=ac hG 3
 have x4:w.cell? ⟨G,4,none⟩=some (.int .i64 0):=aa hG 4
 have xf4:=ac hG 4
 have x5:w.cell? ⟨G,5,none⟩=some (.int .i64 0):=aa hG 5
 have xf5:=ac hG 5
 have x6:w.cell? ⟨G,6,none⟩=some (.slice none 0 0):=aa hG 6
 have xf6:=ac hG 6
 have x7:w.cell? ⟨G,7,none⟩=some (.int .i64 0):=aa hG 7
 have xf7:=ac hG 7
 have x8:w.cell? ⟨G,8,none⟩=some (.int .i64 0):=aa hG 8
 have xf8:=ac hG 8
 have x9:w.cell? ⟨G,9,none⟩=some (.int .i64 0):=aa hG 9
 have xf9:=ac hG 9
 have x10:w.cell? ⟨G,10,none⟩=some (.slice none 0 0):=aa hG 10
 have xf10:=ac hG 10
 have y0:w.cell? ⟨E,0,none⟩=some (.int .i64 y):=aa hE 0
 have yf0:=ac hE 0
 have hne2:E≠G:=fun h=>hne h.symm
 obtain⟨W,hW⟩:∃W,W=((((((((((((w.setCell ⟨G,0,none⟩ (.int .i64 0)).setCell ⟨G,1,none⟩ (.int .i64 0)).setCell ⟨G,2,none⟩ (.slice none 0 0)).setCell ⟨G,3,none⟩ (.int .i64 0)).setCell ⟨G,4,none⟩ (.int .i64 0)).setCell ⟨G,5,none⟩ (.int .i64 0)).setCell ⟨G,6,none⟩ (.slice none 0 0)).setCell ⟨G,7,none⟩ (.int .i64 0)).setCell ⟨G,8,none⟩ (.int .i64 0)).setCell ⟨G,9,none⟩ (.int .i64 0)).setCell ⟨G,10,none⟩ (.slice none 0 0)).setCell ⟨E,0,none⟩ (.int .i64 k)).drew:=⟨_,rfl⟩
 have hA1:Aside (fun i=>i=G) w (((((((((((w.setCell ⟨G,0,none⟩ (.int .i64 0)).setCell ⟨G,1,none⟩ (.int .i64 0)).setCell ⟨G,2,none⟩ (.slice none 0 0)).setCell ⟨G,3,none⟩ (.int .i64 0)).setCell ⟨G,4,none⟩ (.int .i64 0)).setCell ⟨G,5,none⟩ (.int .i64 0)).setCell ⟨G,6,none⟩ (.slice none 0 0)).setCell ⟨G,7,none⟩ (.int .i64 0)).setCell ⟨G,8,none⟩ (.int .i64 0)).setCell ⟨G,9,none⟩ (.int .i64 0)).setCell ⟨G,10,none⟩ (.slice none 0 0)):=cG w G (.int .i64 0) (.int .i64 0) (.slice none 0 0) (.int .i64 0) (.int .i64 0) (.int .i64 0) (.slice none 0 0) (.int .i64 0) (.int .i64 0) (.int .i64 0) (.slice none 0 0)
 have hG1:(((((((((((w.setCell ⟨G,0,none⟩ (.int .i64 0)).setCell ⟨G,1,none⟩ (.int .i64 0)).setCell ⟨G,2,none⟩ (.slice none 0 0)).setCell ⟨G,3,none⟩ (.int .i64 0)).setCell ⟨G,4,none⟩ (.int .i64 0)).setCell ⟨G,5,none⟩ (.int .i64 0)).setCell ⟨G,6,none⟩ (.slice none 0 0)).setCell ⟨G,7,none⟩ (.int .i64 0)).setCell ⟨G,8,none⟩ (.int .i64 0)).setCell ⟨G,9,none⟩ (.int .i64 0)).setCell ⟨G,10,none⟩ (.slice none 0 0)).1[G]?=some (.cells #[.int .i64 0,.int .i64 0,.slice none 0 0,.int .i64 0,.int .i64 0,.int .i64 0,.slice none 0 0,.int .i64 0,.int .i64 0,.int .i64 0,.slice none 0 0] 36 (0,0)):=dh hG (.int .i64 0) (.int .i64 0) (.slice none 0 0) (.int .i64 0) (.int .i64 0) (.int .i64 0) (.slice none 0 0) (.int .i64 0) (.int .i64 0) (.int .i64 0) (.slice none 0 0)
 have hE1:(((((((((((w.setCell ⟨G,0,none⟩ (.int .i64 0)).setCell ⟨G,1,none⟩ (.int .i64 0)).setCell ⟨G,2,none⟩ (.slice none 0 0)).setCell ⟨G,3,none⟩ (.int .i64 0)).setCell ⟨G,4,none⟩ (.int .i64 0)).setCell ⟨G,5,none⟩ (.int .i64 0)).setCell ⟨G,6,none⟩ (.slice none 0 0)).setCell ⟨G,7,none⟩ (.int .i64 0)).setCell ⟨G,8,none⟩ (.int .i64 0)).setCell ⟨G,9,none⟩ (.int .i64 0)).setCell ⟨G,10,none⟩ (.slice none 0 0)).1[E]?=some (.cells #[.int .i64 y] 39 (0,0)):=(hA1.block E (aw hE) hne2).trans hE
 have HF1:Hid (W.1[G]?=some (.cells #[.int .i64 0,.int .i64 0,.slice none 0 0,.int .i64 0,.int .i64 0,.int .i64 0,.slice none 0 0,.int .i64 0,.int .i64 0,.int .i64 0,.slice none 0 0] 36 (0,0))):=by
  show _=_
  rw[hW,dj]
  exact((af (((((((((((w.setCell ⟨G,0,none⟩ (.int .i64 0)).setCell ⟨G,1,none⟩ (.int .i64 0)).setCell ⟨G,2,none⟩ (.slice none 0 0)).setCell ⟨G,3,none⟩ (.int .i64 0)).setCell ⟨G,4,none⟩ (.int .i64 0)).setCell ⟨G,5,none⟩ (.int .i64 0)).setCell ⟨G,6,none⟩ (.slice none 0 0)).setCell ⟨G,7,none⟩ (.int .i64 0)).setCell ⟨G,8,none⟩ (.int .i64 0)).setCell ⟨G,9,none⟩ (.int .i64 0)).setCell ⟨G,10,none⟩ (.slice none 0 0)) E 0 (.int .i64 k)).block G (aw hG1) hne).trans hG1
 have HF2:Hid (W.1[E]?=some (.cells #[.int .i64 k] 39 (0,0))):=by
  show _=_
  rw[hW,dj]
  exact ap hE1 0 _
 have HF3:Hid (Aside (fun i=>i=G∨i=E) w W):=by
  rw[hW]
  exact((hA1.mono (fun _ _ h=>.inl h)).trans (af _ E 0 _) (fun _ _ h=>.inr h)).drew
 have HW:Hid (((((((((((((w.setCell ⟨G,0,none⟩ (.int .i64 0)).setCell ⟨G,1,none⟩ (.int .i64 0)).setCell ⟨G,2,none⟩ (.slice none 0 0)).setCell ⟨G,3,none⟩ (.int .i64 0)).setCell ⟨G,4,none⟩ (.int .i64 0)).setCell ⟨G,5,none⟩ (.int .i64 0)).setCell ⟨G,6,none⟩ (.slice none 0 0)).setCell ⟨G,7,none⟩ (.int .i64 0)).setCell ⟨G,8,none⟩ (.int .i64 0)).setCell ⟨G,9,none⟩ (.int .i64 0)).setCell ⟨G,10,none⟩ (.slice none 0 0)).setCell ⟨E,0,none⟩ (.int .i64 k)).drew=W):=by rw[hW];exact rfl
 clear hG hE hW hA1 hG1 hE1
 refine callsD_of_wpS Tryz.func82 rfl fun c₀ cs hu=>?_
 apply wpS_seq
 apply wpS_region
 simp[wpOpsS,go_sem,recoverD,hu,Tryz.ntmps82,Exit.thenS]
 refine wpS_of_wp ?_
 go_wp2_with fail
 go_region_law (fail)
 all_goals
  show bodyPostS Tryz.prog Tryz.f82 c₀ cs _ Exit.normal _ _ _
  rw[HW.out]
  simp[bodyPostS,results,Tryz.results82]
  exact⟨HF1.out,HF2.out,HF3.out⟩
theorem jS(p q:Addr)(w:World):
  CallsD Tryz.prog 82 #[.pointer (some p),.pointer (some q)] .returning w fun e u' w'=>e=.returned (.tuple #[])∧u'=.returning∧w'=w:=by
 refine callsD_of_wpS Tryz.func82 rfl fun c₀ cs hu=>?_
 apply wpS_seq
 apply wpS_region
 simp[wpOpsS,go_sem,recoverD,hu,Tryz.ntmps82,Exit.thenS]
 refine wpS_of_wp ?_
 go_wp2_with fail
 cases c₀
 simp_all [bodyPostS,results,Tryz.results82]
end
section
open Go.RowKit
section
variable {P:Program} {Q:Exit->Act->World->Prop}
def rs(Q:Exit->Act->World->Prop):Exit->Act->World->Prop
 |.panic _,_,_=>False
 |e,a,w=>Q e a w
theorem iR(a:Act)(w:World):rs Q .normal a w=Q .normal a w:=rfl
theorem nL{c:Code}{a:Act}{w:World}(h:c.wp P (rs Q) a w):c.wp P Q a w:=Code.wp_mono (fun e a w he=>by cases e <;> first | exact he | exact he.elim) h
end
def rH(w:World)(r:Except Nat Fr)(e:Ending)(w':World):Prop:=match r with
 |.error k=>e=.returned (.tuple #[.agg #[.int .i64 0,.int .i64 0,.slice none 0 0,.int .i64 0,.int .i64 0,.int .i64 0,.slice none 0 0,.int .i64 0,.int .i64 0,.int .i64 0,.slice none 0 0],.int .i64 (k:Nat)])∧Below w.1.size w w'
 |.ok f=>∃u,e=.returned (.tuple #[.agg u,.int .i64 0])∧cV w' w.1.size u f∧Below w.1.size w w'
theorem ng{l:L8}{e:Nat}(h:Fr.open_ l=.error e):e≠0:=by
 unfold Fr.open_ at h
 split at h
 ·injection h with h;omega
 ·split at h
  ·next h1=>injection h with h;rw[<-h];exact h1
  ·split at h
   ·injection h with h;omega
   ·split at h
    ·cases h
    ·injection h with h;omega
theorem qR{w W:World}{B:Nat}{f:Fr}{sp:OA}{sc:Nat}(hk:Fr.norm f=f)(h1:f.kind=1)(hs:cL W B #[.slice sp f.cols.length sc] f.cols)(hB:w.1.size<=B):cV W w.1.size #[.int .i64 1,.int .i64 f.number,.slice sp f.cols.length sc,.int .i64 0,.int .i64 0,.int .i64 0,.slice none 0 0,.int .i64 0,.int .i64 0,.int .i64 0,.slice none 0 0] f:=by
 have e:f={ Fr0 with kind:=1,number:=f.number,cols:=f.cols.map Col.fix }:=by
  have:=hk
  unfold Fr.norm at this
  rw[if_pos h1] at this
  exact this.symm
 have e1:f.seq=0:=by rw[e];rfl
 have e2:f.first=0:=by rw[e];rfl
 have e3:f.rows=0:=by rw[e];rfl
 have e4:f.block=[]:=by rw[e];rfl
 have e5:f.index=j6:=by rw[e];rfl
 refine⟨sp,sc,none,0,none,0,?_,eW hs hB,?_,?_,?_,?_⟩
 ·unfold av
  rw[h1,e1,e2,e3,e4,e5]
  rfl
 ·rw[e4];exact aR _ _
 ·rw[e4];decide
 ·rw[e5];exact dx _ _
 ·rw[e5];decide
theorem qT{w W:World}{B:Nat}{f:Fr}{bp:OA}{bc:Nat}(hk:Fr.norm f=f)(h1:f.kind=2)(hs:Has W B (.slice bp f.block.length bc) f.block)(hl:f.block.length<=2200)(hB:w.1.size<=B):cV W w.1.size #[.int .i64 2,.int .i64 f.number,.slice none 0 0,.int .i64 f.seq,.int .i64 f.first,.int .i64 f.rows,.slice bp f.block.length bc,.int .i64 0,.int .i64 0,.int .i64 0,.slice none 0 0] f:=by
 have e:f={ Fr0 with kind:=2,number:=f.number,seq:=f.seq,first:=f.first,rows:=f.rows,block:=f.block }:=by
  have:=hk
  unfold Fr.norm at this
  rw[if_neg (by omega),if_pos h1] at this
  exact this.symm
 have e4:f.cols=[]:=by rw[e];rfl
 have e5:f.index=j6:=by rw[e];rfl
 refine⟨none,0,bp,bc,none,0,?_,?_,hs.lower hB,hl,?_,?_⟩
 ·unfold av
  rw[h1,e4,e5]
  rfl
 ·rw[e4];exact kq _ _
 ·rw[e5];exact dx _ _
 ·rw[e5];decide
theorem qS{w W:World}{B:Nat}{f:Fr}{ep:OA}{ec:Nat}(hk:Fr.norm f=f)(h1:f.kind=3)(hs:bf W B (.slice ep f.index.entries.length ec) f.index.entries)(hl:f.index.entries.length<=64)(hB:w.1.size<=B):cV W w.1.size #[.int .i64 3,.int .i64 0,.slice none 0 0,.int .i64 0,.int .i64 0,.int .i64 0,.slice none 0 0,.int .i64 f.index.at_,.int .i64 f.index.frames,.int .i64 f.index.rows,.slice ep f.index.entries.length ec] f:=by
 have e:f={ Fr0 with kind:=3,index:=f.index }:=by
  have:=hk
  unfold Fr.norm at this
  rw[if_neg (by omega),if_neg (by omega)] at this
  exact this.symm
 have e0:f.number=0:=by rw[e];rfl
 have e1:f.seq=0:=by rw[e];rfl
 have e2:f.first=0:=by rw[e];rfl
 have e3:f.rows=0:=by rw[e];rfl
 have e4:f.block=[]:=by rw[e];rfl
 have e5:f.cols=[]:=by rw[e];rfl
 refine⟨none,0,none,0,ep,ec,?_,?_,?_,?_,hs.low hB,hl⟩
 ·unfold av
  rw[h1,e0,e1,e2,e3,e4,e5]
  rfl
 ·rw[e5];exact kq _ _
 ·rw[e4];exact aR _ _
 ·rw[e4];decide
theorem mA{w w4:World}(hI:aW w w4 0)(c0 c1 c2 c3 c4 c5 c6 c7 c8 c9 c10:Value):((((((((((((w4.setCell ⟨w.1.size,0,none⟩ (c0)).setCell ⟨w.1.size,1,none⟩ (c1)).setCell ⟨w.1.size,2,none⟩ (c2)).setCell ⟨w.1.size,3,none⟩ (c3)).setCell ⟨w.1.size,4,none⟩ (c4)).setCell ⟨w.1.size,5,none⟩ (c5)).setCell ⟨w.1.size,6,none⟩ (c6)).setCell ⟨w.1.size,7,none⟩ (c7)).setCell ⟨w.1.size,8,none⟩ (c8)).setCell ⟨w.1.size,9,none⟩ (c9)).setCell ⟨w.1.size,10,none⟩ (c10)).setCell ⟨w.1.size+1,0,none⟩ (.int .i64 0)).1[w.1.size]?=some (.cells #[c0,c1,c2,c3,c4,c5,c6,c7,c8,c9,c10] 36 (0,0))∧((((((((((((w4.setCell ⟨w.1.size,0,none⟩ (c0)).setCell ⟨w.1.size,1,none⟩ (c1)).setCell ⟨w.1.size,2,none⟩ (c2)).setCell ⟨w.1.size,3,none⟩ (c3)).setCell ⟨w.1.size,4,none⟩ (c4)).setCell ⟨w.1.size,5,none⟩ (c5)).setCell ⟨w.1.size,6,none⟩ (c6)).setCell ⟨w.1.size,7,none⟩ (c7)).setCell ⟨w.1.size,8,none⟩ (c8)).setCell ⟨w.1.size,9,none⟩ (c9)).setCell ⟨w.1.size,10,none⟩ (c10)).setCell ⟨w.1.size+1,0,none⟩ (.int .i64 0)).cell? ⟨w.1.size+1,0,none⟩=some (.int .i64 0)∧Aside (fun i=>i=w.1.size∨i=w.1.size+1) w4 ((((((((((((w4.setCell ⟨w.1.size,0,none⟩ (c0)).setCell ⟨w.1.size,1,none⟩ (c1)).setCell ⟨w.1.size,2,none⟩ (c2)).setCell ⟨w.1.size,3,none⟩ (c3)).setCell ⟨w.1.size,4,none⟩ (c4)).setCell ⟨w.1.size,5,none⟩ (c5)).setCell ⟨w.1.size,6,none⟩ (c6)).setCell ⟨w.1.size,7,none⟩ (c7)).setCell ⟨w.1.size,8,none⟩ (c8)).setCell ⟨w.1.size,9,none⟩ (c9)).setCell ⟨w.1.size,10,none⟩ (c10)).setCell ⟨w.1.size+1,0,none⟩ (.int .i64 0))∧Below w.1.size w ((((((((((((w4.setCell ⟨w.1.size,0,none⟩ (c0)).setCell ⟨w.1.size,1,none⟩ (c1)).setCell ⟨w.1.size,2,none⟩ (c2)).setCell ⟨w.1.size,3,none⟩ (c3)).setCell ⟨w.1.size,4,none⟩ (c4)).setCell ⟨w.1.size,5,none⟩ (c5)).setCell ⟨w.1.size,6,none⟩ (c6)).setCell ⟨w.1.size,7,none⟩ (c7)).setCell ⟨w.1.size,8,none⟩ (c8)).setCell ⟨w.1.size,9,none⟩ (c9)).setCell ⟨w.1.size,10,none⟩ (c10)).setCell ⟨w.1.size+1,0,none⟩ (.int .i64 0)):=by
 have hs:=hI.size
 have hA1:Aside (fun i=>i=w.1.size) w4 (((((((((((w4.setCell ⟨w.1.size,0,none⟩ (c0)).setCell ⟨w.1.size,1,none⟩ (c1)).setCell ⟨w.1.size,2,none⟩ (c2)).setCell ⟨w.1.size,3,none⟩ (c3)).setCell ⟨w.1.size,4,none⟩ (c4)).setCell ⟨w.1.size,5,none⟩ (c5)).setCell ⟨w.1.size,6,none⟩ (c6)).setCell ⟨w.1.size,7,none⟩ (c7)).setCell ⟨w.1.size,8,none⟩ (c8)).setCell ⟨w.1.size,9,none⟩ (c9)).setCell ⟨w.1.size,10,none⟩ (c10)):=cG w4 w.1.size c0 c1 c2 c3 c4 c5 c6 c7 c8 c9 c10
 have hG1:(((((((((((w4.setCell ⟨w.1.size,0,none⟩ (c0)).setCell ⟨w.1.size,1,none⟩ (c1)).setCell ⟨w.1.size,2,none⟩ (c2)).setCell ⟨w.1.size,3,none⟩ (c3)).setCell ⟨w.1.size,4,none⟩ (c4)).setCell ⟨w.1.size,5,none⟩ (c5)).setCell ⟨w.1.size,6,none⟩ (c6)).setCell ⟨w.1.size,7,none⟩ (c7)).setCell ⟨w.1.size,8,none⟩ (c8)).setCell ⟨w.1.size,9,none⟩ (c9)).setCell ⟨w.1.size,10,none⟩ (c10)).1[w.1.size]?=some (.cells #[c0,c1,c2,c3,c4,c5,c6,c7,c8,c9,c10] 36 (0,0)):=dh hI.b0 c0 c1 c2 c3 c4 c5 c6 c7 c8 c9 c10
 have hE1:(((((((((((w4.setCell ⟨w.1.size,0,none⟩ (c0)).setCell ⟨w.1.size,1,none⟩ (c1)).setCell ⟨w.1.size,2,none⟩ (c2)).setCell ⟨w.1.size,3,none⟩ (c3)).setCell ⟨w.1.size,4,none⟩ (c4)).setCell ⟨w.1.size,5,none⟩ (c5)).setCell ⟨w.1.size,6,none⟩ (c6)).setCell ⟨w.1.size,7,none⟩ (c7)).setCell ⟨w.1.size,8,none⟩ (c8)).setCell ⟨w.1.size,9,none⟩ (c9)).setCell ⟨w.1.size,10,none⟩ (c10)).1[w.1.size+1]?=some (.cells #[.int .i64 0] 39 (0,0)):=(hA1.block _ (aw hI.b1) (by omega)).trans hI.b1
 have hA2:=af (((((((((((w4.setCell ⟨w.1.size,0,none⟩ (c0)).setCell ⟨w.1.size,1,none⟩ (c1)).setCell ⟨w.1.size,2,none⟩ (c2)).setCell ⟨w.1.size,3,none⟩ (c3)).setCell ⟨w.1.size,4,none⟩ (c4)).setCell ⟨w.1.size,5,none⟩ (c5)).setCell ⟨w.1.size,6,none⟩ (c6)).setCell ⟨w.1.size,7,none⟩ (c7)).setCell ⟨w.1.size,8,none⟩ (c8)).setCell ⟨w.1.size,9,none⟩ (c9)).setCell ⟨w.1.size,10,none⟩ (c10)) (w.1.size+1) 0 (.int .i64 0)
 have hA3:=(hA1.mono (G:=fun i=>i=w.1.size∨i=w.1.size+1) (fun _ _ h=>.inl h)).trans hA2 (fun _ _ h=>.inr h)
 exact⟨(hA2.block _ (aw hG1) (by omega)).trans hG1,aa (ap hE1 0 _) 0,hA3,hI.below.trans (hA3.below (by omega) (fun k hk=>by omega))⟩
end
section
open Go.RowKit
theorem lh(er:Nat)(p:OA)(c:Nat)(l:L8)(hl:l.length<=140737488351232)(hlc:l.length<=c)(w:World)(hv:Hv w)(h:At w p l)(mo:Fr.open_ l=.error er):
  Calls Tryz.prog 58 #[.slice p l.length c] w (rH w (Fr.dec l)):=by
 have hmf:∀(fn:Fn) (first cap:AV) (w:World),(Instr.makeFunc fn first cap).run Tryz.prog w=.ok (.func fn first cap) w:=fun _ _ _ _=>rfl
 obtain⟨r,hr⟩:∃r,r=Fr.dec l:=⟨_,rfl⟩
 have HR:Hid (r=match Fr.open_ l with
  |.error e=>.error e
  |.ok b=>Fr.rdF (b.headD 0).toNat b.tail):=hr
 have HDe:=vQ hr
 rw[<-hr]
 obtain⟨W0,hW0⟩:∃W0,W0=(w.alloc (.cells #[.int .i64 0,.int .i64 0,.slice none 0 0,.int .i64 0,.int .i64 0,.int .i64 0,.slice none 0 0,.int .i64 0,.int .i64 0,.int .i64 0,.slice none 0 0] 36)).alloc (.cells #[.int .i64 0] 39):=⟨_,rfl⟩
 have HI0:Hid (aW w W0 0):=by rw[hW0];exact eH w
 have HW0:Hid ((w.alloc (.cells #[.int .i64 0,.int .i64 0,.slice none 0 0,.int .i64 0,.int .i64 0,.int .i64 0,.slice none 0 0,.int .i64 0,.int .i64 0,.int .i64 0,.slice none 0 0] 36)).alloc (.cells #[.int .i64 0] 39)=W0):=by rw[hW0];exact rfl
 have HO:=vQ (sS p c l hl hlc W0 (hv.next HI0.out.below) (h.on HI0.out.below))
 clear hr hW0 hv h
 rw[mo] at HO
 have hne:=ng mo
 have g0:((er:Int) != 0)=true:=by rw[bne_iff_ne];omega
 have HR2:Hid (r=.error er):=by show _=_;rw[HR.out,mo]
 clear mo HR hne HDe
 go_enter_defers Tryz.func58,Tryz.ntmps58
 go_wp2_with fail
 rw[HW0.out]
 refine HO.out.mono ?_
 rintro e w1 ⟨rfl,hb⟩
 have hI1:=HI0.out.on hb
 have x0:w1.cell? ⟨w.1.size,0,none⟩=some (.int .i64 0):=aa hI1.b0 0
 have xf0:=ac hI1.b0 0
 have x1:w1.cell? ⟨w.1.size,1,none⟩=some (.int .i64 0):=aa hI1.b0 1
 have xf1:=ac hI1.b0 1
 have x2:w1.cell? ⟨w.1.size,2,none⟩=some (.slice none 0 0):=aa hI1.b0 2
 have xf2:=ac hI1.b0 2
 have x3:w1.cell? ⟨w.1.size,3,none⟩=some (.int .i64 0):=aa hI1.b0 3
 have xf3:=ac hI1.b0 3
 have x4:w1.cell? ⟨w.1.size,4,none⟩=some (.int .i64 0):=aa hI1.b0 4
 have xf4:=ac hI1.b0 4
 have x5:w1.cell? ⟨w.1.size,5,none⟩=some (.int .i64 0):=aa hI1.b0 5
 have xf5:=ac hI1.b0 5
 have x6:w1.cell? ⟨w.1.size,6,none⟩=some (.slice none 0 0):=aa hI1.b0 6
 have xf6:=ac hI1.b0 6
 have x7:w1.cell? ⟨w.1.size,7,none⟩=some (.int .i64 0):=aa hI1.b0 7
 have xf7:=ac hI1.b0 7
 have x8:w1.cell? ⟨w.1.size,8,none⟩=some (.int .i64 0):=aa hI1.b0 8
 have xf8:=ac hI1.b0 8
 have x9:w1.cell? ⟨w.1.size,9,none⟩=some (.int .i64 0):=aa hI1.b0 9
 have xf9:=ac hI1.b0 9
 have x10:w1.cell? ⟨w.1.size,10,none⟩=some (.slice none 0 0):=aa hI1.b0 10
 have xf10:=ac hI1.b0 10
 have y0:w1.cell? ⟨w.1.size+1,0,none⟩=some (.int .i64 0):=aa hI1.b1 0
 have yf0:=ac hI1.b1 0
 have hI2:=hI1.setE er
 obtain⟨W2,hW2⟩:∃W2,W2=(((((((((((((w1.setCell ⟨w.1.size+1,0,none⟩ (.int .i64 er)).setCell ⟨w.1.size,0,none⟩ (.int .i64 0)).setCell ⟨w.1.size,1,none⟩ (.int .i64 0)).setCell ⟨w.1.size,2,none⟩ (.slice none 0 0)).setCell ⟨w.1.size,3,none⟩ (.int .i64 0)).setCell ⟨w.1.size,4,none⟩ (.int .i64 0)).setCell ⟨w.1.size,5,none⟩ (.int .i64 0)).setCell ⟨w.1.size,6,none⟩ (.slice none 0 0)).setCell ⟨w.1.size,7,none⟩ (.int .i64 0)).setCell ⟨w.1.size,8,none⟩ (.int .i64 0)).setCell ⟨w.1.size,9,none⟩ (.int .i64 0)).setCell ⟨w.1.size,10,none⟩ (.slice none 0 0)).setCell ⟨w.1.size+1,0,none⟩ (.int .i64 er)).drew:=⟨_,rfl⟩
 have hA1:Aside (fun i=>i=w.1.size) (w1.setCell ⟨w.1.size+1,0,none⟩ (.int .i64 er)) ((((((((((((w1.setCell ⟨w.1.size+1,0,none⟩ (.int .i64 er)).setCell ⟨w.1.size,0,none⟩ (.int .i64 0)).setCell ⟨w.1.size,1,none⟩ (.int .i64 0)).setCell ⟨w.1.size,2,none⟩ (.slice none 0 0)).setCell ⟨w.1.size,3,none⟩ (.int .i64 0)).setCell ⟨w.1.size,4,none⟩ (.int .i64 0)).setCell ⟨w.1.size,5,none⟩ (.int .i64 0)).setCell ⟨w.1.size,6,none⟩ (.slice none 0 0)).setCell ⟨w.1.size,7,none⟩ (.int .i64 0)).setCell ⟨w.1.size,8,none⟩ (.int .i64 0)).setCell ⟨w.1.size,9,none⟩ (.int .i64 0)).setCell ⟨w.1.size,10,none⟩ (.slice none 0 0)):=cG _ w.1.size (.int .i64 0) (.int .i64 0) (.slice none 0 0) (.int .i64 0) (.int .i64 0) (.int .i64 0) (.slice none 0 0) (.int .i64 0) (.int .i64 0) (.int .i64 0) (.slice none 0 0)
 have hG1:((((((((((((w1.setCell ⟨w.1.size+1,0,none⟩ (.int .i64 er)).setCell ⟨w.1.size,0,none⟩ (.int .i64 0)).setCell ⟨w.1.size,1,none⟩ (.int .i64 0)).setCell ⟨w.1.size,2,none⟩ (.slice none 0 0)).setCell ⟨w.1.size,3,none⟩ (.int .i64 0)).setCell ⟨w.1.size,4,none⟩ (.int .i64 0)).setCell ⟨w.1.size,5,none⟩ (.int .i64 0)).setCell ⟨w.1.size,6,none⟩ (.slice none 0 0)).setCell ⟨w.1.size,7,none⟩ (.int .i64 0)).setCell ⟨w.1.size,8,none⟩ (.int .i64 0)).setCell ⟨w.1.size,9,none⟩ (.int .i64 0)).setCell ⟨w.1.size,10,none⟩ (.slice none 0 0)).1[w.1.size]?=some (.cells #[.int .i64 0,.int .i64 0,.slice none 0 0,.int .i64 0,.int .i64 0,.int .i64 0,.slice none 0 0,.int .i64 0,.int .i64 0,.int .i64 0,.slice none 0 0] 36 (0,0)):=dh hI2.b0 (.int .i64 0) (.int .i64 0) (.slice none 0 0) (.int .i64 0) (.int .i64 0) (.int .i64 0) (.slice none 0 0) (.int .i64 0) (.int .i64 0) (.int .i64 0) (.slice none 0 0)
 have hE1:((((((((((((w1.setCell ⟨w.1.size+1,0,none⟩ (.int .i64 er)).setCell ⟨w.1.size,0,none⟩ (.int .i64 0)).setCell ⟨w.1.size,1,none⟩ (.int .i64 0)).setCell ⟨w.1.size,2,none⟩ (.slice none 0 0)).setCell ⟨w.1.size,3,none⟩ (.int .i64 0)).setCell ⟨w.1.size,4,none⟩ (.int .i64 0)).setCell ⟨w.1.size,5,none⟩ (.int .i64 0)).setCell ⟨w.1.size,6,none⟩ (.slice none 0 0)).setCell ⟨w.1.size,7,none⟩ (.int .i64 0)).setCell ⟨w.1.size,8,none⟩ (.int .i64 0)).setCell ⟨w.1.size,9,none⟩ (.int .i64 0)).setCell ⟨w.1.size,10,none⟩ (.slice none 0 0)).1[w.1.size+1]?=some (.cells #[.int .i64 er] 39 (0,0)):=(hA1.block _ (aw hI2.b1) (by omega)).trans hI2.b1
 have hA2:=af ((((((((((((w1.setCell ⟨w.1.size+1,0,none⟩ (.int .i64 er)).setCell ⟨w.1.size,0,none⟩ (.int .i64 0)).setCell ⟨w.1.size,1,none⟩ (.int .i64 0)).setCell ⟨w.1.size,2,none⟩ (.slice none 0 0)).setCell ⟨w.1.size,3,none⟩ (.int .i64 0)).setCell ⟨w.1.size,4,none⟩ (.int .i64 0)).setCell ⟨w.1.size,5,none⟩ (.int .i64 0)).setCell ⟨w.1.size,6,none⟩ (.slice none 0 0)).setCell ⟨w.1.size,7,none⟩ (.int .i64 0)).setCell ⟨w.1.size,8,none⟩ (.int .i64 0)).setCell ⟨w.1.size,9,none⟩ (.int .i64 0)).setCell ⟨w.1.size,10,none⟩ (.slice none 0 0)) (w.1.size+1) 0 (.int .i64 er)
 have HF1:Hid (W2.1[w.1.size]?=some (.cells #[.int .i64 0,.int .i64 0,.slice none 0 0,.int .i64 0,.int .i64 0,.int .i64 0,.slice none 0 0,.int .i64 0,.int .i64 0,.int .i64 0,.slice none 0 0] 36 (0,0))):=by
  show _=_
  rw[hW2,dj]
  exact(hA2.block _ (aw hG1) (by omega)).trans hG1
 have HF2:Hid (W2.cell? ⟨w.1.size+1,0,none⟩=some (.int .i64 er)):=by
  have:W2.1[w.1.size+1]?=some (.cells #[.int .i64 er] 39 (0,0)):=by rw[hW2,dj];exact ap hE1 0 _
  exact aa this 0
 have HF3:Hid (Below w.1.size w W2):=by
  have hs:=hI2.size
  rw[hW2]
  exact(hI2.below.trans (((hA1.mono (G:=fun i=>i=w.1.size∨i=w.1.size+1) (fun _ _ h=>.inl h)).trans hA2 (fun _ _ h=>.inr h)).below (by omega) (fun k hk=>by omega))).drew
 have HW2:Hid ((((((((((((((w1.setCell ⟨w.1.size+1,0,none⟩ (.int .i64 er)).setCell ⟨w.1.size,0,none⟩ (.int .i64 0)).setCell ⟨w.1.size,1,none⟩ (.int .i64 0)).setCell ⟨w.1.size,2,none⟩ (.slice none 0 0)).setCell ⟨w.1.size,3,none⟩ (.int .i64 0)).setCell ⟨w.1.size,4,none⟩ (.int .i64 0)).setCell ⟨w.1.size,5,none⟩ (.int .i64 0)).setCell ⟨w.1.size,6,none⟩ (.slice none 0 0)).setCell ⟨w.1.size,7,none⟩ (.int .i64 0)).setCell ⟨w.1.size,8,none⟩ (.int .i64 0)).setCell ⟨w.1.size,9,none⟩ (.int .i64 0)).setCell ⟨w.1.size,10,none⟩ (.slice none 0 0)).setCell ⟨w.1.size+1,0,none⟩ (.int .i64 er)).drew=W2):=by rw[hW2];exact rfl
 clear hI1 hI2 hb hW2 hA1 hG1 hE1 hA2 HO HI0 HW0
 go_wp2_with fail
 refine nL ?_
 go_region_law (fail)
 all_goals
  rw[iR]
  rw[HW2.out]
  go_wp2
  refine⟨_,aX rfl _ _ w.1.size (w.1.size+1) _ #[.int .i64 0,.int .i64 0,.slice none 0 0,.int .i64 0,.int .i64 0,.int .i64 0,.slice none 0 0,.int .i64 0,.int .i64 0,.int .i64 0,.slice none 0 0] _ _ (er:Int) rfl HF1.out Tryz.underlying36 rfl (by kernel_rfl) rfl HF2.out Tryz.underlying39,?_⟩
  rw[HR2.out]
  exact⟨rfl,HF3.out⟩
end
section
open Go.RowKit
theorem mP(b:L8)(p:OA)(c:Nat)(l:L8)(hl:l.length<=140737488351232)(hlc:l.length<=c)(w:World)(hv:Hv w)(h:At w p l)(mo:Fr.open_ l=.ok b):
  Calls Tryz.prog 58 #[.slice p l.length c] w (rH w (Fr.dec l)):=by
 have hmf:∀(fn:Fn) (first cap:AV) (w:World),(Instr.makeFunc fn first cap).run Tryz.prog w=.ok (.func fn first cap) w:=fun _ _ _ _=>rfl
 obtain⟨r,hr⟩:∃r,r=Fr.dec l:=⟨_,rfl⟩
 have HR:Hid (r=match Fr.open_ l with
  |.error e=>.error e
  |.ok b=>Fr.rdF (b.headD 0).toNat b.tail):=hr
 have HDe:=vQ hr
 rw[<-hr]
 obtain⟨W0,hW0⟩:∃W0,W0=(w.alloc (.cells #[.int .i64 0,.int .i64 0,.slice none 0 0,.int .i64 0,.int .i64 0,.int .i64 0,.slice none 0 0,.int .i64 0,.int .i64 0,.int .i64 0,.slice none 0 0] 36)).alloc (.cells #[.int .i64 0] 39):=⟨_,rfl⟩
 have HI0:Hid (aW w W0 0):=by rw[hW0];exact eH w
 have HW0:Hid ((w.alloc (.cells #[.int .i64 0,.int .i64 0,.slice none 0 0,.int .i64 0,.int .i64 0,.int .i64 0,.slice none 0 0,.int .i64 0,.int .i64 0,.int .i64 0,.slice none 0 0] 36)).alloc (.cells #[.int .i64 0] 39)=W0):=by rw[hW0];exact rfl
 have HO:=vQ (sS p c l hl hlc W0 (hv.next HI0.out.below) (h.on HI0.out.below))
 -- a panic that goes through the door
 have HDoor:Hid (∀(er:Nat) (W2:World) (y:Int),r=.error er->aW w W2 y->∀(tmps:AV) (ds:List Deferred),tmps.getD 2 undef=.pointer (some ⟨w.1.size,0,none⟩)->tmps.getD 3 undef=.pointer (some ⟨w.1.size+1,0,none⟩)->ds=[{ target:=.fn (.func 82) #[.pointer (some ⟨w.1.size,0,none⟩),.pointer (some ⟨w.1.size+1,0,none⟩)],args:=#[] }]->bodyPostD Tryz.prog Tryz.f58 (rH w r) (Exit.panic (dS er)) { tmps:=tmps,defers:=ds } W2):=by
  intro er W2 y he hI tmps ds h2 h3 hds
  subst hds
  refine leaves_cons (f:=82) (args:=#[.pointer (some ⟨w.1.size,0,none⟩),.pointer (some ⟨w.1.size+1,0,none⟩)]) (by simp) (by simp[go_sem]) ?_
  refine(fp w.1.size (w.1.size+1) er y W2 hI.b0 hI.b1 (by omega)).mono ?_
  rintro e u' w'' ⟨rfl,rfl,k1,k2,k3⟩
  refine⟨_,aX rfl tmps _ w.1.size (w.1.size+1) _ #[.int .i64 0,.int .i64 0,.slice none 0 0,.int .i64 0,.int .i64 0,.int .i64 0,.slice none 0 0,.int .i64 0,.int .i64 0,.int .i64 0,.slice none 0 0] _ _ (er:Int) h2 k1 Tryz.underlying36 rfl (by kernel_rfl) h3 (aa k2 0) Tryz.underlying39,?_⟩
  rw[he]
  exact⟨rfl,hI.below.trans (k3.below (by have:=hI.size;omega) (fun k hk=>by omega))⟩
 -- the way out without one
 have HEnd:Hid (∀(W3:World) (u:AV) (f:Fr),r=.ok f->W3.1[w.1.size]?=some (.cells u 36 (0,0))->u.size=11->W3.cell? ⟨w.1.size+1,0,none⟩=some (.int .i64 0)->cV W3 w.1.size u f->Below w.1.size w W3->∀(tmps:AV) (ds:List Deferred),tmps.getD 2 undef=.pointer (some ⟨w.1.size,0,none⟩)->tmps.getD 3 undef=.pointer (some ⟨w.1.size+1,0,none⟩)->ds=[{ target:=.fn (.func 82) #[.pointer (some ⟨w.1.size,0,none⟩),.pointer (some ⟨w.1.size+1,0,none⟩)],args:=#[] }]->bodyPostD Tryz.prog Tryz.f58 (rH w r) Exit.ret { tmps:=tmps,defers:=ds } W3):=by
  intro W3 u f he hG hu hE hF hB tmps ds h2 h3 hds
  subst hds
  refine leaves_cons (f:=82) (args:=#[.pointer (some ⟨w.1.size,0,none⟩),.pointer (some ⟨w.1.size+1,0,none⟩)]) (by simp) (by simp[go_sem]) ?_
  refine(jS ⟨w.1.size,0,none⟩ ⟨w.1.size+1,0,none⟩ _).mono ?_
  rintro e u' w'' ⟨rfl,rfl,rfl⟩
  refine⟨_,aX rfl tmps _ w.1.size (w.1.size+1) _ u _ _ 0 h2 hG Tryz.underlying36 rfl (by rw[hu];kernel_rfl) h3 hE Tryz.underlying39,?_⟩
  rw[he]
  exact⟨u,rfl,hF,hB⟩
 clear hr hW0 hv h
 rw[mo] at HO
 obtain⟨hl22,hst,hb1⟩:=Fr.open_ok mo
 obtain⟨x,t,rfl⟩:∃x t,b=x::t:=by
  cases b with
  |nil=>simp at hb1
  |cons x t=>exact⟨x,t,rfl⟩
 have HR2:Hid (r=Fr.rdF x.toNat t):=by show _=_;rw[HR.out,mo];rfl
 have htl:t.length<=2200:=by
  have h1:=(Cob.stuff_length (Fr.check (x::t))).1
  rw[hst,Fr.check_length,List.length_cons] at h1
  omega
 have hx256:=x.toNat_lt
 clear mo HR hst hb1
 go_enter_defers Tryz.func58,Tryz.ntmps58
 go_wp2_with fail
 rw[HW0.out]
 refine HO.out.mono ?_
 rintro e w1 ⟨g,o,cap,rfl,hat,hcap,hg,hb⟩
 have hI1:=HI0.out.on hb
 have hsI:=hI1.size
 have y0:w1.cell? ⟨w.1.size+1,0,none⟩=some (.int .i64 0):=aa hI1.b1 0
 have yf0:=ac hI1.b1 0
 have hI2:=hI1.setE 0
 have hsW0:=HI0.out.size
 obtain⟨gb,go',hgo,hgl,hcs⟩:=bz hat (by simp)
 injection hgo with hgo
 injection hgo with hgo1 hgo2
 subst hgo1 hgo2
 have z0:w1.cell? ⟨g,o,none⟩=some (.int .u8 (x.toNat:Int)):=hcs 0 (by simp)
 rw[List.length_cons] at hcap
 have s1:∀w',(Instr.slice 31 (.slice (some ⟨g,o,none⟩) (t.length+1) cap) (some (.int .i64 1)) none none).run Tryz.prog w'=.ok (.slice (dm (some ⟨g,o,none⟩) 1 cap) t.length (cap-1)) w':=fun w'=>by
  have:=cW (some ⟨g,o,none⟩) (t.length+1) cap 1 (by omega) w'
  rw[Nat.add_sub_cancel] at this
  exact this
 obtain⟨W2,hW2⟩:∃W2,W2=(w1.setCell ⟨w.1.size+1,0,none⟩ (.int .i64 0)).alloc (.cells #[.slice (dm (some ⟨g,o,none⟩) 1 cap) t.length (cap-1)] 133):=⟨_,rfl⟩
 have hsE:(w1.setCell ⟨w.1.size+1,0,none⟩ (.int .i64 0)).1.size=w1.1.size:=by simp[World.setCell]
 have hbE:Below (w1.setCell ⟨w.1.size+1,0,none⟩ (.int .i64 0)).1.size (w1.setCell ⟨w.1.size+1,0,none⟩ (.int .i64 0)) W2:=by rw[hW2];exact vY
 have HI2:Hid (aW w W2 0):=hI2.on hbE
 have hz2:W2.1.size=w1.1.size+1:=by rw[hW2];simp[hsE]
 have hae:Aside (fun i=>i=w.1.size+1) w1 W2:=by
  have h1:=af w1 (w.1.size+1) 0 (.int .i64 0)
  exact h1.trans (ae hbE (fun i=>i=w.1.size+1)) (fun _ _ h=>h)
 have z2:W2.cell? ⟨g,o,none⟩=some (.int .u8 (x.toNat:Int)):=(hae.cell (p:=⟨g,o,none⟩) hgl (by show ¬g=_;omega)).trans z0
 have hat2:At W2 (some ⟨g,o,none⟩) (x::t):=hat.aside hae (fun b o hp=>by injection hp with hp;injection hp with hp1 _;omega)
 have HRd:Hid (bS W2 w1.1.size w1.1.size t):=by
  refine⟨⟨dm (some ⟨g,o,none⟩) 1 cap,cap-1,?_,?_,by omega,fun _=>eP (fun a ha=>by injection ha with ha;rw[<-ha];exact hgl)⟩,htl,vX⟩
  ·rw[hW2]
   have:=ag (w1.setCell ⟨w.1.size+1,0,none⟩ (.int .i64 0)) (.cells #[.slice (dm (some ⟨g,o,none⟩) 1 cap) t.length (cap-1)] 133)
   rw[hsE] at this
   exact this
  ·have:=hat2.cut 1 cap (by simpa using hcap)
   simpa using this
 have HF:=vQ (sE x.toNat t w1.1.size w1.1.size W2 HRd.out)
 obtain⟨rf,hrf⟩:∃rf,rf=Fr.rdF x.toNat t:=⟨_,rfl⟩
 rw[<-hrf] at HF HR2
 have HRf:=vQ hrf
 have HWe:Hid ((w1.setCell ⟨w.1.size+1,0,none⟩ (.int .i64 0)).alloc (.cells #[.slice (dm (some ⟨g,o,none⟩) 1 cap) t.length (cap-1)] 133)=W2):=by rw[hW2];exact rfl
 rw[List.length_cons]
 clear hI1 hI2 hb hat hcs hat2 hae hbE hW2 HO hrf
 go_wp2_with fail
 rw[HWe.out]
 refine HF.out.mono ?_
 intro e w3 hh
 cases rf with
 |error er=>
  obtain⟨he,ha⟩:=hh.bad
  subst he
  have HI3:=vQ (HI2.out.step ha (by omega))
  clear hh ha HF
  go_wp2
  exact HDoor.out er w3 _ HR2.out HI3.out _ _ rfl rfl rfl
 |ok f=>
  obtain⟨v,he,hv,ha⟩:=hh.good
  subst he
  obtain⟨-,-,q3,q4,q5,-⟩:=Fr.rdF_ok HRf.out.symm
  have HI3:=vQ (HI2.out.step ha (by omega))
  have hs3:=ha.size
  clear hh ha HF HRf HDoor HRd
  rcases hv with ⟨hk,vx,rfl,hp⟩ | ⟨hk,vx,rfl,hp⟩ | ⟨hk,vx,rfl,hp⟩
  ·obtain⟨sp,sc,rfl,hp⟩:=hp
   have HP:=vQ hp
   have HC:=vQ (oO f.number sp f.cols.length sc w3)
   have HQ:=vQ (And.intro hk (And.intro q3 (And.intro q4 q5)))
   clear hp hk q3 q4 q5
   go_wp2_with fail
   refine HC.out.mono ?_
   rintro e w4 ⟨rfl,hb⟩
   have hI4:=HI3.out.on hb
   have HB4:=vQ hb
   have hs4:=hb.size
   have x0:w4.cell? ⟨w.1.size,0,none⟩=some (.int .i64 0):=aa hI4.b0 0
   have xf0:=ac hI4.b0 0
   have x1:w4.cell? ⟨w.1.size,1,none⟩=some (.int .i64 0):=aa hI4.b0 1
   have xf1:=ac hI4.b0 1
   have x2:w4.cell? ⟨w.1.size,2,none⟩=some (.slice none 0 0):=aa hI4.b0 2
   have xf2:=ac hI4.b0 2
   have x3:w4.cell? ⟨w.1.size,3,none⟩=some (.int .i64 0):=aa hI4.b0 3
   have xf3:=ac hI4.b0 3
   have x4:w4.cell? ⟨w.1.size,4,none⟩=some (.int .i64 0):=aa hI4.b0 4
   have xf4:=ac hI4.b0 4
   have x5:w4.cell? ⟨w.1.size,5,none⟩=some (.int .i64 0):=aa hI4.b0 5
   have xf5:=ac hI4.b0 5
   have x6:w4.cell? ⟨w.1.size,6,none⟩=some (.slice none 0 0):=aa hI4.b0 6
   have xf6:=ac hI4.b0 6
   have x7:w4.cell? ⟨w.1.size,7,none⟩=some (.int .i64 0):=aa hI4.b0 7
   have xf7:=ac hI4.b0 7
   have x8:w4.cell? ⟨w.1.size,8,none⟩=some (.int .i64 0):=aa hI4.b0 8
   have xf8:=ac hI4.b0 8
   have x9:w4.cell? ⟨w.1.size,9,none⟩=some (.int .i64 0):=aa hI4.b0 9
   have xf9:=ac hI4.b0 9
   have x10:w4.cell? ⟨w.1.size,10,none⟩=some (.slice none 0 0):=aa hI4.b0 10
   have xf10:=ac hI4.b0 10
   have e0:w4.cell? ⟨w.1.size+1,0,none⟩=some (.int .i64 0):=aa hI4.b1 0
   have ef0:=ac hI4.b1 0
   have HLs:=vQ (mA hI4 (.int .i64 1) (.int .i64 f.number) (.slice sp f.cols.length sc) (.int .i64 0) (.int .i64 0) (.int .i64 0) (.slice none 0 0) (.int .i64 0) (.int .i64 0) (.int .i64 0) (.slice none 0 0))
   clear hb hI4 HC
   go_wp2
   obtain⟨k1,k2,k3,k4⟩:=HLs.out
   obtain⟨hk,q3,q4,q5⟩:=HQ.out
   exact HEnd.out _ _ f HR2.out k1 rfl k2 (qR q5 hk (fH (fH HP.out (ae HB4.out (fun i=>i=w.1.size∨i=w.1.size+1)) (fun _ h1 h2 h3=>by omega)) k3 (fun _ h1 h2 h3=>by omega)) (by omega)) k4 _ _ rfl rfl rfl
  ·obtain⟨bp,bc,rfl,hp⟩:=hp
   have HP:=vQ hp
   have HC:=vQ (oN f.number f.seq f.first f.rows bp f.block.length bc w3)
   have HQ:=vQ (And.intro hk (And.intro q3 (And.intro q4 q5)))
   clear hp hk q3 q4 q5
   go_wp2_with fail
   refine HC.out.mono ?_
   rintro e w4 ⟨rfl,hb⟩
   have hI4:=HI3.out.on hb
   have HB4:=vQ hb
   have hs4:=hb.size
   have x0:w4.cell? ⟨w.1.size,0,none⟩=some (.int .i64 0):=aa hI4.b0 0
   have xf0:=ac hI4.b0 0
   have x1:w4.cell? ⟨w.1.size,1,none⟩=some (.int .i64 0):=aa hI4.b0 1
   have xf1:=ac hI4.b0 1
   have x2:w4.cell? ⟨w.1.size,2,none⟩=some (.slice none 0 0):=aa hI4.b0 2
   have xf2:=ac hI4.b0 2
   have x3:w4.cell? ⟨w.1.size,3,none⟩=some (.int .i64 0):=aa hI4.b0 3
   have xf3:=ac hI4.b0 3
   have x4:w4.cell? ⟨w.1.size,4,none⟩=some (.int .i64 0):=aa hI4.b0 4
   have xf4:=ac hI4.b0 4
   have x5:w4.cell? ⟨w.1.size,5,none⟩=some (.int .i64 0):=aa hI4.b0 5
   have xf5:=ac hI4.b0 5
   have x6:w4.cell? ⟨w.1.size,6,none⟩=some (.slice none 0 0):=aa hI4.b0 6
   have xf6:=ac hI4.b0 6
   have x7:w4.cell? ⟨w.1.size,7,none⟩=some (.int .i64 0):=aa hI4.b0 7
   have xf7:=ac hI4.b0 7
   have x8:w4.cell? ⟨w.1.size,8,none⟩=some (.int .i64 0):=aa hI4.b0 8
   have xf8:=ac hI4.b0 8
   have x9:w4.cell? ⟨w.1.size,9,none⟩=some (.int .i64 0):=aa hI4.b0 9
   have xf9:=ac hI4.b0 9
   have x10:w4.cell? ⟨w.1.size,10,none⟩=some (.slice none 0 0):=aa hI4.b0 10
   have xf10:=ac hI4.b0 10
   have e0:w4.cell? ⟨w.1.size+1,0,none⟩=some (.int .i64 0):=aa hI4.b1 0
   have ef0:=ac hI4.b1 0
   have HLs:=vQ (mA hI4 (.int .i64 2) (.int .i64 f.number) (.slice none 0 0) (.int .i64 f.seq) (.int .i64 f.first) (.int .i64 f.rows) (.slice bp f.block.length bc) (.int .i64 0) (.int .i64 0) (.int .i64 0) (.slice none 0 0))
   clear hb hI4 HC
   go_wp2
   obtain⟨k1,k2,k3,k4⟩:=HLs.out
   obtain⟨hk,q3,q4,q5⟩:=HQ.out
   have hfl:f.block.length<=2200:=by
    have h1:=congrArg List.length q4
    unfold Fr.fields at h1
    rw[if_neg (by omega),if_pos hk,List.length_append] at h1
    omega
   exact HEnd.out _ _ f HR2.out k1 rfl k2 (qT q5 hk ((HP.out.on HB4.out).aside k3 (fun k hk hc=>by have:=(HP.out.lt k hk).1;omega)) hfl (by omega)) k4 _ _ rfl rfl rfl
  ·obtain⟨ep,ec,rfl,hp⟩:=hp
   have HP:=vQ hp
   have HC:=vQ (oM f.index.at_ f.index.frames f.index.rows ep f.index.entries.length ec w3)
   have HQ:=vQ (And.intro hk (And.intro q3 (And.intro q4 q5)))
   clear hp hk q3 q4 q5
   go_wp2_with fail
   refine HC.out.mono ?_
   rintro e w4 ⟨rfl,hb⟩
   have hI4:=HI3.out.on hb
   have HB4:=vQ hb
   have hs4:=hb.size
   have x0:w4.cell? ⟨w.1.size,0,none⟩=some (.int .i64 0):=aa hI4.b0 0
   have xf0:=ac hI4.b0 0
   have x1:w4.cell? ⟨w.1.size,1,none⟩=some (.int .i64 0):=aa hI4.b0 1
   have xf1:=ac hI4.b0 1
   have x2:w4.cell? ⟨w.1.size,2,none⟩=some (.slice none 0 0):=aa hI4.b0 2
   have xf2:=ac hI4.b0 2
   have x3:w4.cell? ⟨w.1.size,3,none⟩=some (.int .i64 0):=aa hI4.b0 3
   have xf3:=ac hI4.b0 3
   have x4:w4.cell? ⟨w.1.size,4,none⟩=some (.int .i64 0):=aa hI4.b0 4
   have xf4:=ac hI4.b0 4
   have x5:w4.cell? ⟨w.1.size,5,none⟩=some (.int .i64 0):=aa hI4.b0 5
   have xf5:=ac hI4.b0 5
   have x6:w4.cell? ⟨w.1.size,6,none⟩=some (.slice none 0 0):=aa hI4.b0 6
   have xf6:=ac hI4.b0 6
   have x7:w4.cell? ⟨w.1.size,7,none⟩=some (.int .i64 0):=aa hI4.b0 7
   have xf7:=ac hI4.b0 7
   have x8:w4.cell? ⟨w.1.size,8,none⟩=some (.int .i64 0):=aa hI4.b0 8
   have xf8:=ac hI4.b0 8
   have x9:w4.cell? ⟨w.1.size,9,none⟩=some (.int .i64 0):=aa hI4.b0 9
   have xf9:=ac hI4.b0 9
   have x10:w4.cell? ⟨w.1.size,10,none⟩=some (.slice none 0 0):=aa hI4.b0 10
   have xf10:=ac hI4.b0 10
   have e0:w4.cell? ⟨w.1.size+1,0,none⟩=some (.int .i64 0):=aa hI4.b1 0
   have ef0:=ac hI4.b1 0
   have HLs:=vQ (mA hI4 (.int .i64 3) (.int .i64 0) (.slice none 0 0) (.int .i64 0) (.int .i64 0) (.int .i64 0) (.slice none 0 0) (.int .i64 f.index.at_) (.int .i64 f.index.frames) (.int .i64 f.index.rows) (.slice ep f.index.entries.length ec))
   clear hb hI4 HC
   go_wp2
   obtain⟨k1,k2,k3,k4⟩:=HLs.out
   obtain⟨hk,q3,q4,q5⟩:=HQ.out
   have hfl:f.index.entries.length<=64:=by
    unfold Fr.err0 at q3
    rw[if_neg (by omega),if_neg (by omega),if_pos hk] at q3
    unfold Fr.idxErr at q3
    split at q3
    ·omega
    ·split at q3
     ·omega
     ·omega
   exact HEnd.out _ _ f HR2.out k1 rfl k2 (qS q5 hk ((HP.out.on HB4.out).aside k3 (fun k hk hc=>by have:=(HP.out.lt k hk).1;omega)) hfl (by omega)) k4 _ _ rfl rfl rfl
theorem sG(p:OA)(c:Nat)(l:L8)(hl:l.length<=140737488351232)(hlc:l.length<=c)(w:World)(hv:Hv w)(h:At w p l):
  Calls Tryz.prog 58 #[.slice p l.length c] w (rH w (Fr.dec l)):=by
 cases mo:Fr.open_ l with
 |error er=>exact lh er p c l hl hlc w hv h mo
 |ok b=>exact mP b p c l hl hlc w hv h mo
end
end Go.Proofs.YtlgfdgdlaahpfaaGreatDoor

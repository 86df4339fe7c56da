import Derived.Test.YtlgfdgdlaahpfaaGreatDoorB07
set_option maxRecDepth 100000
set_option maxHeartbeats 2000000
namespace Go.Proofs.YtlgfdgdlaahpfaaGreatDoor
section
open Go.RowKit
theorem uf{l:List Col}{n:ByteArray}(h:∀m (hm:m<l.length),¬l[m].name=n):l.any (fun x=>decide (x.name=n))=false:=by
 rw[List.any_eq_false]
 intro x hx
 obtain⟨m,hm,rfl⟩:=List.getElem_of_mem hx
 simpa using h m hm
theorem sM{l:List Col}{n:ByteArray}(m:Nat)(hm:m<l.length)(h:l[m].name=n):l.any (fun x=>decide (x.name=n))=true:=by
 rw[List.any_eq_true]
 exact⟨l[m],List.getElem_mem hm,by simpa using h⟩
theorem rU(w:World)(p:OA)(c:Nat):ax w (cells5 0 0 0 ⟨#[]⟩ p 0 c) V0 :=
 ax.mk (xs:=[]) (fun _=>#[]) (by simp) (by simp) (fun hc=>absurd rfl hc) (fun j hj=>by simp at hj)
theorem l9(l:List Col)(c:Col)(p:OA)(cp:Nat)(u:AV)(w:World)(hl:l.length*120<=140737488351232)(hx:bg w p l)(hc:dC w u c):
  Calls Tryz.prog 69 #[.slice p l.length cp,.agg u] w fun e w'=>e=.returned (.int .i64 (Sch.colErr l c:Nat))∧Below w.1.size w w':=by
 obtain⟨k,tp,tn,tc,vk,vi,vb,vt,vp,vn,vc,rfl,ht,hv⟩:=hc.out
 obtain⟨nm,ty,has,dv⟩:=c
 simp only at ht hv ⊢
 unfold aA
 obtain⟨W0,hW0⟩:∃W0,W0=w.alloc (.cells #[.string nm,.int .i64 k,.slice tp tn tc,.bool has,.int .i64 vk,.int .i64 vi,.float .f64 vb,.string vt,.slice vp vn vc] 89):=⟨_,rfl⟩
 have HB0:Hid (Below w.1.size w W0):=by rw[hW0];exact vY
 have H9:Hid (At9 W0 w.1.size 0 nm k tp tn tc has vk vi vb vt vp vn vc):=by rw[hW0];exact⟨by simp,by simp,by simp,by simp,by simp,by simp,by simp,by simp,by simp⟩
 have HW0:=vQ hW0
 have HX:=vQ (hx.on HB0.out)
 have HT:=vQ (ht.on HB0.out)
 have HV:=vQ (hv.on HB0.out)
 have HNm:=vQ (pU nm)
 obtain⟨R,hR⟩:∃R,R=Sch.colErr l ⟨nm,ty,has,dv⟩:=⟨_,rfl⟩
 have HR:=vQ (hR.trans (by rw[Sch.colErr]:Sch.colErr l ⟨nm,ty,has,dv⟩=_))
 rw[<-hR]
 obtain⟨rn,hrn⟩:∃rn,rn=Sch.name nm:=⟨_,rfl⟩
 rw[<-hrn] at HNm HR
 clear hW0 hx ht hv hR hrn hc
 go_enter Tryz.func69,Tryz.ntmps69
 go_wp2_with fail
 rw[<-HW0.out]
 clear HW0
 refine(HNm.out _).mono ?_
 rintro e w1 ⟨rfl,hw1⟩
 rw[hw1]
 clear hw1 w1 HNm
 cases rn with
 |false=>
  have HE:Hid (R=70):=by show _=_;rw[HR.out,if_pos rfl]
  clear HR
  go_wp2
  go_ret
  exact⟨by rw[HE.out];rfl,HB0.out⟩
 |true=>
  have HR1:=vQ (HR.out.trans (if_neg (by decide)))
  clear HR
  obtain⟨y0,y1,y2,y3,y4,y5,y6,y7,y8⟩:=H9.out
  go_wp2_with fail
  go_loopw [6] (fun v6 wr=>∃j n:Nat,j<=l.length∧v6=.int .i64 j∧wr=W0.drewN n∧Hid (∀m (hm:m<l.length),m<j->¬l[m].name=nm)) (fun v6 _=>l.length-(intOf v6).toNat)
  case atStart=>exact⟨0,0,by omega,rfl,rfl,fun m _ h=>by omega⟩
  case round=>
   obtain⟨j,n,hj,rfl,rfl,HF⟩:=hrel
   by_cases hlt:j<l.length
   ·obtain⟨bx,ox,k2,tp2,tn2,tc2,vk2,vi2,vb2,vt2,vp2,vn2,vc2,rfl,_,h9,-⟩:=HX.out.at j hlt
    have a0:=h9.1
    have hj1:(j:Int)<(l.length:Int):=by omega
    by_cases hn:l[j].name=nm
    ·have g:(l[j].name.toList==nm.toList)=true:=by rw[cF,decide_eq_true hn]
     have HE:Hid (R=71):=by show _=_;rw[HR1.out,if_pos (sM j hlt hn)]
     generalize l[j].name=nj at *
     clear HF HR1 h9 hn
     go_wp2
     go_quiet (fail)
     go_wp2
     go_ret
     exact⟨by rw[HE.out];rfl,below_drewN (below_drewN HB0.out _) _⟩
    ·have g:(l[j].name.toList==nm.toList)=false:=by rw[cF,decide_eq_false hn]
     have HN:Hid (∀m (hm:m<l.length),m<j+1->¬l[m].name=nm):=fun m hm hmj=>by
      by_cases hmj2:m=j
      ·subst hmj2;exact hn
      ·exact HF.out m hm (by omega)
     generalize l[j].name=nj at *
     clear HF HR1 h9 hn
     go_wp2
     go_quiet (fail)
     go_wp2
     go_roundw
     case rel=>exact⟨j+1,_,by omega,by go_num,rfl,HN⟩
     case measure=>simp[intOf];omega
   ·have hjn:¬(j:Int)<(l.length:Int):=by omega
    have HR2:=vQ (HR1.out.trans (if_neg (by rw[uf (fun m hm=>HF.out m hm (by omega))];decide)))
    have HCt:=vQ (eG ty (W0.drewN n) _ (HT.out.on (below_drewN vZ n)))
    have HCv:=vQ (fun w' (hb:Below W0.1.size W0 w')=>jd dv w' _ (HV.out.on hb))
    have HIs:=vQ (fun w' (hb:Below W0.1.size W0 w')=>tq dv ty w' _ _ (HV.out.on hb) (HT.out.on hb))
    have HSm:=vQ (fun w' (hb:Below W0.1.size W0 w')=>kA dv V0 w' _ _ (HV.out.on hb) (rU w' none 0))
    have HBn:Hid (Below W0.1.size W0 (W0.drewN n)):=below_drewN vZ n
    obtain⟨ct,hct⟩:∃ct,ct=Ty.check 1 ty:=⟨_,rfl⟩
    obtain⟨cv,hcv⟩:∃cv,cv=chk 1 dv:=⟨_,rfl⟩
    obtain⟨ci,hci⟩:∃ci,ci=Sch.is dv ty:=⟨_,rfl⟩
    obtain⟨cs,hcs⟩:∃cs,cs=V.same dv V0:=⟨_,rfl⟩
    rw[<-hct] at HCt HR2
    rw[<-hcv] at HCv HR2
    rw[<-hci] at HIs HR2
    rw[<-hcs] at HSm HR2
    clear HF HR1 hct hcv hci hcs HX HT HV
    unfold al cells5 at *
    go_wp2_with fail
    refine HCt.out.mono ?_
    rintro e w1 ⟨rfl,hb1⟩
    have HB1:=vQ (HBn.out.trans (hb1.mono (by simp[World.drewN])))
    have HBw:=vQ (HB0.out.trans (HB1.out.mono HB0.out.size))
    have c1:=ab HB1.out y1
    have c2:=ab HB1.out y2
    have c3:=ab HB1.out y3
    have c4:=ab HB1.out y4
    have c5:=ab HB1.out y5
    have c6:=ab HB1.out y6
    have c7:=ab HB1.out y7
    have c8:=ab HB1.out y8
    clear hb1 HCt y0 y1 y2 y3 y4 y5 y6 y7 y8
    by_cases h1:ct=0
    ·have g1:((ct:Int) != 0)=false:=by rw[h1];rfl
     have HR3:=vQ (HR2.out.trans (if_neg (by simp[h1])))
     clear HR2 h1
     cases has with
     |false=>
      have HR4:=vQ (HR3.out.trans (if_pos rfl))
      clear HR3
      go_wp2_with fail
      refine(HSm.out w1 HB1.out).mono ?_
      rintro e w2 ⟨rfl,hb2⟩
      have HB2:=vQ (HBw.out.trans (hb2.mono HBw.out.size))
      clear hb2 c1 c2 c3 c4 c5 c6 c7 c8
      cases cs with
      |false=>
       have HE:Hid (R=80):=HR4.out
       clear HR4
       go_wp2
       go_ret
       exact⟨by rw[HE.out];rfl,HB2.out⟩
      |true=>
       have HE:Hid (R=0):=HR4.out
       clear HR4
       go_wp2
       go_ret
       exact⟨by rw[HE.out];rfl,HB2.out⟩
     |true=>
      have HR4:=vQ (HR3.out.trans (if_neg (by decide)))
      clear HR3
      go_wp2_with fail
      refine(HCv.out w1 HB1.out).mono ?_
      rintro e w2 ⟨rfl,hb2⟩
      have HB2:=vQ (HB1.out.trans (hb2.mono HB1.out.size))
      have HBw2:=vQ (HBw.out.trans (hb2.mono HBw.out.size))
      have d1:=ab hb2 c1
      have d2:=ab hb2 c2
      have d4:=ab hb2 c4
      have d5:=ab hb2 c5
      have d6:=ab hb2 c6
      have d7:=ab hb2 c7
      have d8:=ab hb2 c8
      clear hb2 c1 c2 c3 c4 c5 c6 c7 c8
      by_cases h2:cv=0
      ·have g2:((cv:Int) != 0)=false:=by rw[h2];rfl
       have HR5:=vQ (HR4.out.trans (if_neg (by simp[h2])))
       clear HR4 h2
       go_wp2_with fail
       refine(HIs.out w2 HB2.out).mono ?_
       rintro e w3 ⟨rfl,hb3⟩
       have HB3:=vQ (HBw2.out.trans (hb3.mono HBw2.out.size))
       clear hb3 d1 d2 d4 d5 d6 d7 d8
       cases ci with
       |false=>
        have HE:Hid (R=80):=HR5.out
        clear HR5
        go_wp2
        go_ret
        exact⟨by rw[HE.out];rfl,HB3.out⟩
       |true=>
        have HE:Hid (R=0):=HR5.out
        clear HR5
        go_wp2
        go_ret
        exact⟨by rw[HE.out];rfl,HB3.out⟩
      ·have g2:((cv:Int) != 0)=true:=by rw[bne_iff_ne];omega
       have HE:Hid (R=cv):=by show _=_;rw[HR4.out,if_pos h2]
       clear HR4 h2
       go_wp2
       go_ret
       exact⟨by rw[HE.out];rfl,HBw2.out⟩
    ·have g1:((ct:Int) != 0)=true:=by rw[bne_iff_ne];omega
     have HE:Hid (R=ct):=by show _=_;rw[HR2.out,if_pos h1]
     clear HR2 h1
     go_wp2
     go_ret
     exact⟨by rw[HE.out];rfl,HBw.out⟩
end
section
open Go.RowKit
def cP(w:World)(l:L8)(e:Ending)(w':World):Prop:=∃q cap,e=.returned (.slice q l.length cap)∧Has w' w.1.size (.slice q l.length cap) l∧Below w.1.size w w'
theorem fa(b:Bool)(w:World):Calls Tryz.prog 102 #[.bool b] w fun e w'=>e=.returned (.int .u8 (if b then 1 else 0))∧w'=w:=by
 cases b
 all_goals
  go_enter Tryz.func102,Tryz.ntmps102
  go_wp2
  go_ret
  exact⟨rfl,rfl⟩
theorem iJ:∀(x:Ty) (d:Nat) (w:World) (u:AV),Ty.check d x=0->ay w u x->Calls Tryz.prog 101 #[.agg u] w (cP w (Sch.tyB x)):=by
  intro x
  refine Ty.ind (P:=fun x=>∀(d:Nat) (w:World) (u:AV),Ty.check d x=0->ay w u x->Calls Tryz.prog 101 #[.agg u] w (cP w (Sch.tyB x))) ?_ x
  rintro k xs ih d w u hd hx
  obtain⟨p,c,rfl,hxl,hxc,hxi⟩:=hx.open
  unfold al
  have hB1:Below w.1.size w (w.alloc (.cells #[.int .i64 k,.slice p xs.length c] 83)):=vY
  have HB1:=vQ hB1
  clear hB1 hx
  obtain⟨hd4,hk,htt⟩:=Sch.ty_open hd
  have hcn:=Sch.kind_byte hk
  obtain⟨c0,hc0⟩:∃c0,c0=UInt8.ofNat k.toNat:=⟨_,rfl⟩
  have hkz:k=(c0.toNat:Int):=by rw[hc0,hcn];omega
  have HL:Hid (∀(w:World),Has (w.alloc (.cells #[.int .u8 k] 5)) w.1.size (.slice (some ⟨w.1.size,0,none⟩) 1 1) [c0]):=fun w=>bF [c0] (by rw[hkz];rfl) vX (by simp)
  have HB1b:Hid (∀o,Below w.1.size w ((w.alloc (.cells #[.int .i64 k,.slice p xs.length c] 83)).alloc o)):=fun o=>HB1.out.alloc HB1.out.size o
  clear hkz
  rcases htt with ⟨h67,rfl⟩ | ⟨h67,x,rfl,hx⟩
  · have e6:(k==6)=false:=aH (by omega)
    have e7:(k==7)=false:=aH (by omega)
    have HE:Hid (Sch.tyB (.mk k [])=[c0]):=by show _=_;rw[Sch.tyB_mk,if_neg h67,hc0]
    clear ih hxi hd
    go_enter Tryz.func101,Tryz.ntmps101
    go_wp2
    go_ret
    rw[HE.out]
    have hh:=HL.out (w.alloc (.cells #[.int .i64 k,.slice p 0 c] 83))
    exact⟨_,_,rfl,by have:=hh.lower HB1.out.size;simpa using this,HB1b.out _⟩
  · obtain⟨ux,hvx,hix⟩:=hxi 0 (by simp)
    obtain⟨bx,ox,kx,qx,nx,cx,rfl,_,rfl,a0,a1⟩:=(hix.on (HB1b.out (.cells #[.int .u8 k] 5))).lies
    rw[Nat.zero_mul,Nat.add_zero] at a0 a1
    simp only[List.length_singleton] at a0 a1
    have HE:Hid (Sch.tyB (.mk k [x])=[c0]++Sch.tyB x):=by show _=_;rw[Sch.tyB_mk,if_pos h67,hc0];rfl
    have HC:Hid (∀w',Below w.1.size w w'->Calls Tryz.prog 101 #[.agg #[.int .i64 kx,.slice qx nx cx]] w' (cP w' (Sch.tyB x))):=fun w' hb=>ih x (by simp) (d+1) w' _ hx (hvx.on hb)
    have HN:Hid ((Sch.tyB x).length<=4):=by
      have key:∀(x:Ty) (d:Nat),Ty.check d x=0->(Sch.tyB x).length+d<=5:=by
        refine Ty.ind ?_
        intro k xs ih d h
        obtain⟨h1,h2,h3⟩:=Sch.ty_open h
        rcases h3 with ⟨h3,rfl⟩ | ⟨h3,y,rfl,hy⟩
        · rw[Sch.tyB_mk,if_neg h3,List.length_singleton];omega
        · have:=ih y (by simp) (d+1) hy
          rw[Sch.tyB_mk,if_pos h3,List.length_cons]
          have e:([y].map Sch.tyB).headD []=Sch.tyB y:=rfl
          rw[e]
          omega
      have:=key x (d+1) hx
      show _<=_
      omega
    clear ih hxi hd hvx hix
    obtain⟨W1,hW1⟩:∃W1,W1=(w.alloc (.cells #[.int .i64 k,.slice (some ⟨bx,ox,none⟩) 1 c] 83)).alloc (.cells #[.int .u8 k] 5):=⟨_,rfl⟩
    have HW1:=vQ hW1
    have HBW:Hid (Below w.1.size w W1):=by rw[hW1];exact HB1b.out _
    have HH:Hid (Has W1 w.1.size (.slice (some ⟨w.1.size+1,0,none⟩) 1 1) [c0]):=by
      show Has _ _ _ _
      have hh:=HL.out (w.alloc (.cells #[.int .i64 k,.slice (some ⟨bx,ox,none⟩) 1 c] 83))
      rw[hW1]
      have:=hh.lower HB1.out.size
      simpa using this
    clear hW1
    rcases h67 with h6 | h6
    all_goals
      first
        |have e6:(k==6)=true:=bV h6
        | (have e6:(k==6)=false:=aH (by omega)
           have e7:(k==7)=true:=bV h6)
      clear h6
      go_enter Tryz.func101,Tryz.ntmps101
      go_wp2_with fail
      rw[<-HW1.out]
      refine(HC.out _ HBW.out).mono ?_
      rintro e w2 ⟨q,cap,rfl,hq,hb2⟩
      obtain⟨l2,hl2⟩:∃l2,l2=Sch.tyB x:=⟨_,rfl⟩
      rw[<-hl2] at hq ⊢
      have HQ:=vQ hq
      have HO:=vQ (HH.out.on hb2)
      have HB2:=vQ (HBW.out.trans (hb2.mono HBW.out.size))
      have hn:l2.length<=4:=by rw[hl2];exact HN.out
      have HE2:Hid (Sch.tyB (.mk k [x])=[c0]++l2):=by rw[hl2];exact HE.out
      clear hb2 hq hl2
      go_wp2_with (at_builtin;obtain⟨p2,c2,he2,hat2,-⟩:=HQ.out.at;injection he2 with he2;refine au (B:=w.1.size) (p:=q) HO.out (by rw[he2];exact hat2) (by simp;omega) HB2.out.size rfl rfl rfl rfl rfl ?_;intro ys q3 cap3 W HY hH3 ha3 hb3)
      go_ret
      rw[HE2.out,<-HY.out]
      exact⟨q3,cap3,rfl,hH3,HB2.out.trans (ar ha3 HO.out HB2.out.size)⟩
end
section
def ju(m:Nat)(xs:L8)(n:Nat):Prop:=xs.length<=8∧n<18446744073709551616∧Sch.le 8 m=xs++Sch.le (8-xs.length) n
theorem ir{m n:Nat}{xs:L8}(h:ju m xs n)(h8:xs.length<8):ju m (xs++[UInt8.ofNat (n % 256)]) (n / 256):=by
 obtain⟨h1,h2,h3⟩:=h
 refine⟨by rw[List.length_append,List.length_singleton];omega,by omega,?_⟩
 rw[h3,List.append_assoc,List.length_append,List.length_singleton,show 8-xs.length=(8-(xs.length+1))+1 by omega,Sch.le]
 rfl
end
section
open Go.RowKit
theorem nV(i:Int)(hi:i=0∨i=1)(b:Nat)(t:ByteArray)(p:OA)(n c:Nat)(w:World):Calls Tryz.prog 103 #[.agg #[.int .i64 1,.int .i64 i,.float .f64 b,.string t,.slice p n c]] w (cP w [UInt8.ofNat i.toNat]):=by
 have hB:∀o o2,Below w.1.size w ((w.alloc o).alloc o2):=fun o o2=>vY.alloc (by simp) _
 have HB:=vQ hB
 obtain⟨c0,hc0⟩:∃c0,c0=UInt8.ofNat i.toNat:=⟨_,rfl⟩
 have hkz:i=(c0.toNat:Int):=by rw[hc0,UInt8.toNat_ofNat'];omega
 have HL:Hid (∀(w:World),Has (w.alloc (.cells #[.int .u8 i] 5)) w.1.size (.slice (some ⟨w.1.size,0,none⟩) 1 1) [c0]):=fun w=>bF [c0] (by rw[hkz];rfl) vX (by simp)
 have hi1:0<=i:=by omega
 have hi2:i<=1:=by omega
 rw[<-hc0]
 clear hB hkz hc0 hi
 go_enter Tryz.func103,Tryz.ntmps103
 go_wp2
 go_ret
 have hh:=HL.out (w.alloc (.cells #[.int .i64 1,.int .i64 i,.float .f64 b,.string t,.slice p n c] 87))
 exact⟨_,_,rfl,by have:=hh.lower (B':=w.1.size) (by simp);simpa using this,HB.out _ _⟩
theorem nU(i:Int)(hi:-9223372036854775808<=i∧i<=9223372036854775807)(b:Nat)(t:ByteArray)(p:OA)(n c:Nat)(w:World):Calls Tryz.prog 103 #[.agg #[.int .i64 2,.int .i64 i,.float .f64 b,.string t,.slice p n c]] w (cP w (Leb.put (Leb.zig i))):=by
 have HB:Hid (∀o,Below w.1.size w (w.alloc o)):=fun o=>vY
 have hz:Leb.zig i<18446744073709551616:=by unfold Leb.zig;split <;> omega
 have HZ:=vQ (lQ i hi.1 hi.2)
 have HP:=vQ (cA (Leb.zig i) hz)
 generalize Leb.zig i=z at *
 clear hi hz
 go_enter Tryz.func103,Tryz.ntmps103
 go_wp2_with fail
 refine(HZ.out _).mono ?_
 rintro e w1 ⟨rfl,hw1⟩
 rw[hw1]
 clear hw1 w1
 go_wp2_with fail
 refine(HP.out _).mono ?_
 rintro e w1 ⟨g,cap,rfl,hm,hb⟩
 have HM:=vQ hm
 have HB1:=vQ ((HB.out _).trans (hb.mono (HB.out _).size))
 clear hm hb
 go_wp2
 go_ret
 exact⟨_,_,rfl,HM.out.has.lower (by simp),HB1.out⟩
theorem lW(k i:Int)(hk:k=4∨k=5)(b:Nat)(t:ByteArray)(ht:t.size<=1024)(p:OA)(n c:Nat)(w:World):Calls Tryz.prog 103 #[.agg #[.int .i64 k,.int .i64 i,.float .f64 b,.string t,.slice p n c]] w (cP w (Leb.put t.size++t.data.toList)):=by
 have HB:Hid (∀o,Below w.1.size w (w.alloc o)):=fun o=>vY
 have HP:=vQ (cA t.size (by omega))
 have hlen:=Leb.put_length_le t.size
 obtain⟨l0,hl0⟩:∃l0,l0=Leb.put t.size:=⟨_,rfl⟩
 rw[<-hl0] at HP hlen ⊢
 clear hl0
 have hts:(t.size:Int)<=1024:=by omega
 have HY:Hid (∀k,(w.alloc (.cells #[.int .i64 k,.int .i64 i,.float .f64 b,.string t,.slice p n c] 87)).cell? ⟨w.1.size,3,none⟩=some (.string t)):=fun k=>by simp
 rcases hk with rfl | rfl
 all_goals
  go_enter Tryz.func103,Tryz.ntmps103
  go_wp2_with fail
  refine(HP.out _).mono ?_
  rintro e w1 ⟨g,cap,rfl,hm,hb⟩
  have HM:=vQ (hm.has.lower (B':=w.1.size) (by simp))
  have HB1:=vQ ((HB.out _).trans (hb.mono (HB.out _).size))
  have c3:=ab hb (HY.out _)
  clear hm hb
  go_wp2_with (at_builtin;refine eV (B:=w.1.size) (t:=t) HM.out (by omega) HB1.out.size rfl rfl rfl rfl rfl ?_;intro ys q3 cap3 W HYs hH3 ha3 hb3)
  go_ret
  rw[<-HYs.out]
  exact⟨q3,cap3,rfl,hH3,HB1.out.trans (ar ha3 HM.out HB1.out.size)⟩
theorem nT(i:Int)(b:Nat)(hb64:b<18446744073709551616)(t:ByteArray)(p:OA)(n c:Nat)(w:World):Calls Tryz.prog 103 #[.agg #[.int .i64 3,.int .i64 i,.float .f64 b,.string t,.slice p n c]] w (cP w (Sch.le 8 (aC b))):=by
 have HB:Hid (∀o,Below w.1.size w (w.alloc o)):=fun o=>vY
 have hf:=Sch.fixB_lt hb64
 have HBits:=vQ (aS b)
 generalize aC b=m at *
 have HS:Hid (ju m [] m):=⟨by simp,hf,rfl⟩
 clear hf hb64
 go_enter Tryz.func103,Tryz.ntmps103
 go_wp2_with fail
 refine(HBits.out _).mono ?_
 rintro e w1 ⟨rfl,hw1⟩
 rw[hw1]
 clear hw1 w1
 go_wp2_with fail
 go_loopw [3,5,6] (fun v3 v5 v6 wr=>∃(n:Nat) (xs:L8),v5=.int .u64 n∧v6=.int .i64 xs.length∧xs.length<=8∧n<18446744073709551616∧Hid (ju m xs n∧Has wr w.1.size v3 xs∧Below w.1.size w wr)) (fun _ _ v6 _=>8-(intOf v6).toNat)
 case atStart=>exact⟨m,[],rfl,rfl,by simp,HS.out.2.1,HS.out,aR _ _,HB.out _⟩
 case round=>
  obtain⟨z,xs,rfl,rfl,hx8,hz,HK⟩:=hrel
  have HO:=vQ HK.out.2.1
  have hB:=HK.out.2.2.size
  by_cases hlt:xs.length<8
  ·have hlt':(xs.length:Int)<8:=by omega
   have HN:=vQ (ir HK.out.1 hlt)
   have hcn:(UInt8.ofNat (z % 256)).toNat=z % 256:=by rw[UInt8.toNat_ofNat'];omega
   generalize UInt8.ofNat (z % 256)=c1 at hcn HN
   go_wp2_with (at_builtin;refine aV HO.out c1 (by omega) hB (by omega) rfl rfl rfl rfl rfl ?_;intro g cap W hmine hb)
   go_roundw
   case rel=>exact⟨z / 256,xs++[c1],by go_num,by simp,by simp;omega,by omega,HN.out,by have:=hmine.has;simpa using this,HK.out.2.2.trans hb⟩
   case measure=>simp[intOf];omega
  ·have hjn:¬(xs.length:Int)<8:=by omega
   have he:Sch.le 8 m=xs:=by
    rw[HK.out.1.2.2,show 8-xs.length=0 by omega]
    simp[Sch.le]
   have HE:=vQ he
   obtain⟨q,cap,hv,-,-⟩:=HO.out.at
   subst hv
   have HF:=vQ HK.out.2.2
   clear HK he
   go_wp2
   go_ret
   rw[HE.out]
   exact⟨q,cap,rfl,HO.out,HF.out⟩
theorem lV(k i:Int)(h67:k=6∨k=7)(b:Nat)(t:ByteArray)(xs:List V)(hn:xs.length<=256)(ih:∀x∈xs,∀(w:World) (u:AV),ax w u x->Calls Tryz.prog 103 #[.agg u] w (cP w (Sch.vB x)))(hlen:(xs.map Sch.vB).flatten.length<=20000000000)(p:OA)(c:Nat)(w:World)(hx:dl w p xs):
  Calls Tryz.prog 103 #[.agg #[.int .i64 k,.int .i64 i,.float .f64 b,.string t,.slice p xs.length c]] w (cP w (Sch.vH k i b t xs.length++(xs.map Sch.vB).flatten)):=by
 have HB:Hid (∀o,Below w.1.size w (w.alloc o)):=fun o=>vY
 have HX:=vQ hx
 have HIH:=vQ ih
 clear hx ih
 have HY:Hid (∀k,(w.alloc (.cells #[.int .i64 k,.int .i64 i,.float .f64 b,.string t,.slice p xs.length c] 87)).cell? ⟨w.1.size,4,none⟩=some (.slice p xs.length c)):=fun k=>by simp
 rcases h67 with rfl | rfl
 ·by_cases h0:0<xs.length
  ·have g0:(0:Int)<(xs.length:Int):=by omega
   obtain⟨l0,hl0⟩:∃l0:L8,l0=[1]:=⟨_,rfl⟩
   have HE:Hid (Sch.vH 6 i b t xs.length=l0):=by
    show _=_
    rw[hl0,Sch.vH,if_neg (by decide),if_neg (by decide),if_neg (by decide),if_neg (by decide),if_pos rfl,if_pos h0]
   have hl0n:l0.length<=10:=by rw[hl0];simp
   have HFl:=vQ (fa true)
   go_enter Tryz.func103,Tryz.ntmps103
   go_wp2_with fail
   refine(HFl.out _).mono ?_
   rintro e w1 ⟨rfl,hw1⟩
   rw[hw1]
   clear hw1 w1
   simp only[if_true]
   go_wp2_with (at_builtin;refine kd (B:=w.1.size+1) (H:=w.1.size+1) (by simp) (aR _ _) 1 (by simp) (by simp) (by rfl) rfl rfl rfl rfl rfl ?_;intro g cap W hmine hb)
   have HM:Hid (Has W (w.1.size+1) (.slice (some ⟨g,0,none⟩) 1 cap) l0):=by
    show Has _ _ _ _
    rw[hl0]
    exact hmine.has
   have HB1:=vQ hb
   clear hmine hb hl0
   go_loopw [3,7] (fun v3 v7 wr=>∃j:Nat,j<=xs.length∧v7=.int .i64 j∧Hid (Has wr (w.1.size+1) v3 (l0++((xs.take j).map Sch.vB).flatten)∧Below (w.1.size+1) (w.alloc (.cells #[.int .i64 6,.int .i64 i,.float .f64 b,.string t,.slice p xs.length c] 87)) wr)) (fun _ v7 _=>xs.length-(intOf v7).toNat)
   case atStart=>exact⟨0,by omega,rfl,by simpa using HM.out,HB1.out⟩
   case round=>
    obtain⟨j,hj,rfl,HK⟩:=hrel
    have n4:wr.cell? ⟨w.1.size,4,none⟩=some (.slice p xs.length c):=by rw[HK.out.2.cell (p:=⟨w.1.size,4,none⟩) (by show w.1.size<_;omega)];exact HY.out _
    have hbw:Below w.1.size w wr:=(HB.out _).trans (HK.out.2.mono (by omega))
    by_cases hlt:j<xs.length
    ·obtain⟨ux,hvx,hix⟩:=HX.out j hlt
     obtain⟨bx,ox,kx,ix,fx,tx,qx,nx,cx,rfl,_,rfl,a0,a1,a2,a3,a4⟩:=(hix.on hbw).lies
     have HC:=vQ (HIH.out _ (List.getElem_mem hlt) wr _ (hvx.on hbw))
     have hj1:(j:Int)<(xs.length:Int):=by omega
     have HO:=vQ HK.out.1
     have HBk:=vQ HK.out.2
     have hs1:w.1.size+1<=wr.1.size:=by have:=HK.out.2.size;simp at this;omega
     have ht1:=Sch.flatten_take_le Sch.vB xs (j+1)
     rw[Sch.flatten_take Sch.vB xs j hlt,List.length_append] at ht1
     have HFT:=vQ (Sch.flatten_take Sch.vB xs j hlt)
     obtain⟨l1,hl1⟩:∃l1,l1=((xs.take j).map Sch.vB).flatten:=⟨_,rfl⟩
     obtain⟨l2,hl2⟩:∃l2,l2=Sch.vB xs[j]:=⟨_,rfl⟩
     rw[<-hl1] at HO ht1 HFT
     rw[<-hl2] at HC ht1 HFT
     clear hvx hix hbw HK hl1 hl2
     unfold cells5 at HC
     go_wp2_with fail
     refine HC.out.mono ?_
     rintro e w2 ⟨q,cap,rfl,hq,hb2⟩
     have HQ:=vQ hq
     have HO2:=vQ (HO.out.on hb2)
     have HB2:=vQ (HBk.out.trans (hb2.mono hs1))
     have hs2:w.1.size+1<=w2.1.size:=by have:=hb2.size;omega
     have hlo:(l0++l1).length<=20000000100:=by rw[List.length_append];omega
     obtain⟨lo,hlo0⟩:∃lo,lo=l0++l1:=⟨_,rfl⟩
     have HN:Hid (l0++((xs.take (j+1)).map Sch.vB).flatten=lo++l2):=by
      show _=_
      rw[HFT.out,<-List.append_assoc,<-hlo0]
     rw[<-hlo0] at HO2 hlo
     clear hb2 hq a0 a1 a2 a3 a4 HC HO hlo0 HFT
     go_wp2_with (at_builtin;obtain⟨p2,c2,he2,hat2,-⟩:=HQ.out.at;injection he2 with he2;refine au (B:=w.1.size+1) (p:=q) HO2.out (by rw[he2];exact hat2) (by omega) hs2 rfl rfl rfl rfl rfl ?_;intro ys q3 cap3 W HYs hH3 ha3 hb3)
     have HR:Hid (Has W (w.1.size+1) (.slice q3 ys.length cap3) (l0++((xs.take (j+1)).map Sch.vB).flatten)∧Below (w.1.size+1) (w.alloc (.cells #[.int .i64 6,.int .i64 i,.float .f64 b,.string t,.slice (some ⟨bx,ox,none⟩) xs.length c] 87)) W):=by
      refine⟨?_,HB2.out.trans (ar ha3 HO2.out hs2)⟩
      rw[HN.out,<-HYs.out]
      exact hH3
     clear hH3 ha3 hb3
     go_roundw
     case rel=>exact⟨j+1,by omega,by go_num,HR⟩
     case measure=>simp[intOf];omega
    ·have hjn:¬(j:Int)<(xs.length:Int):=by omega
     have he:((xs.take j).map Sch.vB).flatten=(xs.map Sch.vB).flatten:=by rw[List.take_of_length_le (by omega)]
     have HO:=HK.out.1
     rw[he] at HO
     obtain⟨L,hL⟩:∃L,L=l0++(xs.map Sch.vB).flatten:=⟨_,rfl⟩
     rw[<-hL] at HO
     have HLl:=vQ hL
     obtain⟨q,cap,hv,-,-⟩:=HO.at
     subst hv
     replace HO:=vQ (HO.lower (B':=w.1.size) (by omega))
     have HF:=vQ hbw
     clear HK he hbw hlt hL
     go_wp2
     go_ret
     rw[HE.out,<-HLl.out]
     exact⟨q,cap,rfl,HO.out,HF.out⟩
  ·have g0:¬(0:Int)<(xs.length:Int):=by omega
   obtain⟨l0,hl0⟩:∃l0:L8,l0=[0]:=⟨_,rfl⟩
   have HE:Hid (Sch.vH 6 i b t xs.length=l0):=by
    show _=_
    rw[hl0,Sch.vH,if_neg (by decide),if_neg (by decide),if_neg (by decide),if_neg (by decide),if_pos rfl,if_neg h0]
   have hl0n:l0.length<=10:=by rw[hl0];simp
   have HFl:=vQ (fa false)
   go_enter Tryz.func103,Tryz.ntmps103
   go_wp2_with fail
   refine(HFl.out _).mono ?_
   rintro e w1 ⟨rfl,hw1⟩
   rw[hw1]
   clear hw1 w1
   simp only[Bool.false_eq_true,if_false]
   go_wp2_with (at_builtin;refine kd (B:=w.1.size+1) (H:=w.1.size+1) (by simp) (aR _ _) 0 (by simp) (by simp) (by rfl) rfl rfl rfl rfl rfl ?_;intro g cap W hmine hb)
   have HM:Hid (Has W (w.1.size+1) (.slice (some ⟨g,0,none⟩) 1 cap) l0):=by
    show Has _ _ _ _
    rw[hl0]
    exact hmine.has
   have HB1:=vQ hb
   clear hmine hb hl0
   go_loopw [3,7] (fun v3 v7 wr=>∃j:Nat,j<=xs.length∧v7=.int .i64 j∧Hid (Has wr (w.1.size+1) v3 (l0++((xs.take j).map Sch.vB).flatten)∧Below (w.1.size+1) (w.alloc (.cells #[.int .i64 6,.int .i64 i,.float .f64 b,.string t,.slice p xs.length c] 87)) wr)) (fun _ v7 _=>xs.length-(intOf v7).toNat)
   case atStart=>exact⟨0,by omega,rfl,by simpa using HM.out,HB1.out⟩
   case round=>
    obtain⟨j,hj,rfl,HK⟩:=hrel
    have n4:wr.cell? ⟨w.1.size,4,none⟩=some (.slice p xs.length c):=by rw[HK.out.2.cell (p:=⟨w.1.size,4,none⟩) (by show w.1.size<_;omega)];exact HY.out _
    have hbw:Below w.1.size w wr:=(HB.out _).trans (HK.out.2.mono (by omega))
    by_cases hlt:j<xs.length
    ·omega
    ·have hjn:¬(j:Int)<(xs.length:Int):=by omega
     have he:((xs.take j).map Sch.vB).flatten=(xs.map Sch.vB).flatten:=by rw[List.take_of_length_le (by omega)]
     have HO:=HK.out.1
     rw[he] at HO
     obtain⟨L,hL⟩:∃L,L=l0++(xs.map Sch.vB).flatten:=⟨_,rfl⟩
     rw[<-hL] at HO
     have HLl:=vQ hL
     obtain⟨q,cap,hv,-,-⟩:=HO.at
     subst hv
     replace HO:=vQ (HO.lower (B':=w.1.size) (by omega))
     have HF:=vQ hbw
     clear HK he hbw hlt hL
     go_wp2
     go_ret
     rw[HE.out,<-HLl.out]
     exact⟨q,cap,rfl,HO.out,HF.out⟩
 ·have HP:=vQ (cA xs.length (by omega))
  have hl0n:=Leb.put_length_le xs.length
  obtain⟨l0,hl0⟩:∃l0,l0=Leb.put xs.length:=⟨_,rfl⟩
  have HE:Hid (Sch.vH 7 i b t xs.length=l0):=by
   show _=_
   rw[hl0,Sch.vH,if_neg (by decide),if_neg (by decide),if_neg (by decide),if_neg (by decide),if_neg (by decide),if_pos rfl]
  rw[<-hl0] at HP hl0n
  clear hl0
  have hxi:(xs.length:Int)<=256:=by omega
  go_enter Tryz.func103,Tryz.ntmps103
  go_wp2_with fail
  refine(HP.out _).mono ?_
  rintro e w1 ⟨g,cap,rfl,hm,hb⟩
  have HM:Hid (Has w1 (w.1.size+1) (.slice (some ⟨g,0,none⟩) l0.length cap) l0):=by
   show Has _ _ _ _
   have:=hm.has
   simpa using this
  have HB1:Hid (Below (w.1.size+1) (w.alloc (.cells #[.int .i64 7,.int .i64 i,.float .f64 b,.string t,.slice p xs.length c] 87)) w1):=by
   show Below _ _ _
   simpa using hb
  clear hm hb
  go_wp2_with fail
  go_loopw [3,7] (fun v3 v7 wr=>∃j:Nat,j<=xs.length∧v7=.int .i64 j∧Hid (Has wr (w.1.size+1) v3 (l0++((xs.take j).map Sch.vB).flatten)∧Below (w.1.size+1) (w.alloc (.cells #[.int .i64 7,.int .i64 i,.float .f64 b,.string t,.slice p xs.length c] 87)) wr)) (fun _ v7 _=>xs.length-(intOf v7).toNat)
  case atStart=>exact⟨0,by omega,rfl,by simpa using HM.out,HB1.out⟩
  case round=>
   obtain⟨j,hj,rfl,HK⟩:=hrel
   have n4:wr.cell? ⟨w.1.size,4,none⟩=some (.slice p xs.length c):=by rw[HK.out.2.cell (p:=⟨w.1.size,4,none⟩) (by show w.1.size<_;omega)];exact HY.out _
   have hbw:Below w.1.size w wr:=(HB.out _).trans (HK.out.2.mono (by omega))
   by_cases hlt:j<xs.length
   ·obtain⟨ux,hvx,hix⟩:=HX.out j hlt
    obtain⟨bx,ox,kx,ix,fx,tx,qx,nx,cx,rfl,_,rfl,a0,a1,a2,a3,a4⟩:=(hix.on hbw).lies
    have HC:=vQ (HIH.out _ (List.getElem_mem hlt) wr _ (hvx.on hbw))
    have hj1:(j:Int)<(xs.length:Int):=by omega
    have HO:=vQ HK.out.1
    have HBk:=vQ HK.out.2
    have hs1:w.1.size+1<=wr.1.size:=by have:=HK.out.2.size;simp at this;omega
    have ht1:=Sch.flatten_take_le Sch.vB xs (j+1)
    rw[Sch.flatten_take Sch.vB xs j hlt,List.length_append] at ht1
    have HFT:=vQ (Sch.flatten_take Sch.vB xs j hlt)
    obtain⟨l1,hl1⟩:∃l1,l1=((xs.take j).map Sch.vB).flatten:=⟨_,rfl⟩
    obtain⟨l2,hl2⟩:∃l2,l2=Sch.vB xs[j]:=⟨_,rfl⟩
    rw[<-hl1] at HO ht1 HFT
    rw[<-hl2] at HC ht1 HFT
    clear hvx hix hbw HK hl1 hl2
    unfold cells5 at HC
    go_wp2_with fail
    refine HC.out.mono ?_
    rintro e w2 ⟨q,cap,rfl,hq,hb2⟩
    have HQ:=vQ hq
    have HO2:=vQ (HO.out.on hb2)
    have HB2:=vQ (HBk.out.trans (hb2.mono hs1))
    have hs2:w.1.size+1<=w2.1.size:=by have:=hb2.size;omega
    have hlo:(l0++l1).length<=20000000100:=by rw[List.length_append];omega
    obtain⟨lo,hlo0⟩:∃lo,lo=l0++l1:=⟨_,rfl⟩
    have HN:Hid (l0++((xs.take (j+1)).map Sch.vB).flatten=lo++l2):=by
     show _=_
     rw[HFT.out,<-List.append_assoc,<-hlo0]
    rw[<-hlo0] at HO2 hlo
    clear hb2 hq a0 a1 a2 a3 a4 HC HO hlo0 HFT
    go_wp2_with (at_builtin;obtain⟨p2,c2,he2,hat2,-⟩:=HQ.out.at;injection he2 with he2;refine au (B:=w.1.size+1) (p:=q) HO2.out (by rw[he2];exact hat2) (by omega) hs2 rfl rfl rfl rfl rfl ?_;intro ys q3 cap3 W HYs hH3 ha3 hb3)
    have HR:Hid (Has W (w.1.size+1) (.slice q3 ys.length cap3) (l0++((xs.take (j+1)).map Sch.vB).flatten)∧Below (w.1.size+1) (w.alloc (.cells #[.int .i64 7,.int .i64 i,.float .f64 b,.string t,.slice (some ⟨bx,ox,none⟩) xs.length c] 87)) W):=by
     refine⟨?_,HB2.out.trans (ar ha3 HO2.out hs2)⟩
     rw[HN.out,<-HYs.out]
     exact hH3
    clear hH3 ha3 hb3
    go_roundw
    case rel=>exact⟨j+1,by omega,by go_num,HR⟩
    case measure=>simp[intOf];omega
   ·have hjn:¬(j:Int)<(xs.length:Int):=by omega
    have he:((xs.take j).map Sch.vB).flatten=(xs.map Sch.vB).flatten:=by rw[List.take_of_length_le (by omega)]
    have HO:=HK.out.1
    rw[he] at HO
    obtain⟨L,hL⟩:∃L,L=l0++(xs.map Sch.vB).flatten:=⟨_,rfl⟩
    rw[<-hL] at HO
    have HLl:=vQ hL
    obtain⟨q,cap,hv,-,-⟩:=HO.at
    subst hv
    replace HO:=vQ (HO.lower (B':=w.1.size) (by omega))
    have HF:=vQ hbw
    clear HK he hbw hlt hL
    go_wp2
    go_ret
    rw[HE.out,<-HLl.out]
    exact⟨q,cap,rfl,HO.out,HF.out⟩
theorem gU:∀(x:V) (d:Nat) (w:World) (u:AV),1<=d->chk d x=0->x.wf->ax w u x->Calls Tryz.prog 103 #[.agg u] w (cP w (Sch.vB x)):=by
 intro x
 refine V.ind (P:=fun x=>∀(d:Nat) (w:World) (u:AV),1<=d->chk d x=0->x.wf->ax w u x->Calls Tryz.prog 103 #[.agg u] w (cP w (Sch.vB x))) ?_ x
 intro k i b t xs ih d w u hd1 hc hw hx
 obtain⟨p,c,rfl,hxl,hxc,hxi⟩:=hx.open
 unfold cells5
 obtain⟨hd,ho,ht,hn,-,hcs⟩:=Sch.chk_open hc
 obtain⟨o1,-,-,-,-,o6,-⟩:=Sch.own_open ho
 obtain⟨-,wi,wb,-,ws⟩:=V.wf_mk.1 hw
 have hlen:=Sch.vB_small hc hd1
 rcases(show k=1∨k=2∨k=3∨(k=4∨k=5)∨(k=6∨k=7) by omega) with rfl | rfl | rfl | hk | hk
 ·rw[Sch.vB_leaf xs (by omega),Sch.vH,if_pos rfl]
  exact nV i (o6 rfl) b t p _ c w
 ·rw[Sch.vB_leaf xs (by omega),Sch.vH,if_neg (by decide),if_pos rfl]
  exact nU i wi b t p _ c w
 ·rw[Sch.vB_leaf xs (by omega),Sch.vH,if_neg (by decide),if_neg (by decide),if_pos rfl]
  exact nT i b wb t p _ c w
 ·rw[Sch.vB_leaf xs (by omega),Sch.vH,if_neg (by omega),if_neg (by omega),if_neg (by omega),if_pos hk]
  exact lW k i hk b t ht p _ c w
 ·rw[Sch.vB_items xs hk] at hlen ⊢
  rw[List.length_append] at hlen
  exact lV k i hk b t xs hn (fun y hy w' u' hl=>ih y hy (d+1) w' u' (by omega) (hcs y hy) (ws y hy) hl) (by omega) p c w hxi
end
section
open Go.RowKit
attribute [local go_sem] ai
structure Apart(a z:Nat)(w2 W:World)(v:Value):Prop where
 own:∀k,v.ownBlock=some k->k<a∨z<=k
 keep:∀k,a<=k->k<z->W.1[k]?=w2.1[k]?
 size:z<=W.1.size
theorem Apart.step{a z:Nat}{w2 W W':World}{v v':Value}(h:Apart a z w2 W v)(ha:Aside (fun k=>v.ownBlock=some k) W W')(hb:∀k,v'.ownBlock=some k->v.ownBlock=some k∨W.1.size<=k):Apart a z w2 W' v':=by
 have hs:=h.size
 refine⟨fun k hk=>?_,fun k h1 h2=>?_,Nat.le_trans h.size ha.size⟩
 ·rcases hb k hk with h1 | h1
  ·exact h.own k h1
  ·exact .inr (by omega)
 ·rw[ha.block k (by omega) (fun hc=>by have:=h.own k hc;omega)]
  exact h.keep k h1 h2
theorem Apart.on{a z:Nat}{w2 W W':World}{v:Value}(h:Apart a z w2 W v)(hb:Below W.1.size W W'):Apart a z w2 W' v:=by
 have hs:=h.size
 exact⟨h.own,fun k h1 h2=>by rw[hb.block k (by omega)];exact h.keep k h1 h2,Nat.le_trans h.size hb.size⟩
theorem Apart.cell{a z:Nat}{w2 W:World}{v:Value}(h:Apart a z w2 W v){g o:Nat}{x:Value}(h1:a<=g)(h2:g<z)(hc:w2.cell? ⟨g,o,none⟩=some x):W.cell? ⟨g,o,none⟩=some x:=by
 rw[World.cell?_of_block (w:=w2) (h.keep g h1 h2)];exact hc
theorem Apart.at{a z:Nat}{w2 W:World}{v:Value}(h:Apart a z w2 W v){p:OA}{l:L8}(hp:∀b o,p=some ⟨b,o,none⟩->a<=b∧b<z)(hl:At w2 p l):At W p l:=by
 rcases hl with rfl | ⟨b,o,hpe,h2,h3⟩
 ·exact .inl rfl
 ·obtain⟨h4,h5⟩:=hp b o hpe
  have hs:=h.size
  exact .inr ⟨b,o,hpe,by omega,fun j hj=>by rw[World.cell?_of_block (w:=w2) (h.keep b h4 h5)];exact h3 j hj⟩
theorem Has.place{w:World}{B:Nat}{q:OA}{n cap:Nat}{l:L8}(h:Has w B (.slice q n cap) l):∀b o,q=some ⟨b,o,none⟩->B<=b∧b<w.1.size:=by
 intro b o hq
 subst hq
 exact h.lt b rfl
theorem Has.here{w:World}{B:Nat}{q:OA}{cap:Nat}{l:L8}(h:Has w B (.slice q l.length cap) l):At w q l:=by
 obtain⟨p,c,he,hat,-⟩:=h.at
 injection he with he
 rw[he];exact hat
theorem qj(w:World)(z:Int)(c:UInt8)(hz:z=(c.toNat:Int)):At (w.alloc (.cells #[.int .u8 z] 5)) (some ⟨w.1.size,0,none⟩) [c] :=
 (bF (B:=0) (w:=w) [c] (by rw[hz];rfl) (Nat.zero_le _) (by simp)).here
theorem fV(s:List Col)(p:OA)(cp:Nat)(w:World)(hn:s.length<=16)(hx:bg w p s)(he:Sch.colsErr [] s=0)(hw:∀c∈s,c.wf):
    Calls Tryz.prog 70 #[.agg #[.slice p s.length cp]] w (cP w (Sch.bytes s)):=by
  have hflat:=Sch.flat_small he hn
  have HE0:Hid (∀c∈s,∃l,Sch.colErr l c=0):=Sch.colsErr_mem s [] he
  have HW:=vQ hw
  have HX:=vQ hx
  obtain⟨W0,hW0⟩:∃W0,W0=w.alloc (.cells #[.slice p s.length cp] 30):=⟨_,rfl⟩
  have HB0:Hid (Below w.1.size w W0):=by rw[hW0];exact vY
  have y0:W0.cell? ⟨w.1.size,0,none⟩=some (.slice p s.length cp):=by rw[hW0];simp
  have hs0:W0.1.size=w.1.size+1:=by rw[hW0];simp
  have Y0:=vQ y0
  have HW0:=vQ hW0
  have HP:=vQ (cA s.length (by omega) W0)
  have hl0n:=Leb.put_length_le s.length
  obtain⟨l0,hl0⟩:∃l0,l0=Leb.put s.length:=⟨_,rfl⟩
  have HEB:Hid (Sch.bytes s=l0++(s.map Sch.cB).flatten):=by show _=_;rw[hl0];rfl
  rw[<-hl0] at HP hl0n
  have hni:(s.length:Int)<=16:=by omega
  clear hl0 hW0 hx he hw y0
  go_enter Tryz.func70,Tryz.ntmps70
  go_wp2_with fail
  rw[<-HW0.out]
  clear HW0
  refine HP.out.mono ?_
  rintro e w1 ⟨g,cap,rfl,hm,hb⟩
  rw[hs0] at hm hb
  have HM:=vQ hm.has
  have HB1:=vQ hb
  clear hm hb HP
  go_wp2_with fail
  go_loopw [3,4] (fun v3 v4 wr=>∃j:Nat,j<=s.length∧v4=.int .i64 j∧Hid (Has wr (w.1.size+1) v3 (l0++((s.take j).map Sch.cB).flatten)∧Below (w.1.size+1) W0 wr)) (fun _ v4 _=>s.length-(intOf v4).toNat)
  case atStart=>exact⟨0,by omega,rfl,by simpa using HM.out,HB1.out⟩
  case round=>
    obtain⟨j,hj,rfl,HK⟩:=hrel
    have n0:wr.cell? ⟨w.1.size,0,none⟩=some (.slice p s.length cp):=by rw[HK.out.2.cell (p:=⟨w.1.size,0,none⟩) (by show w.1.size<_;omega)];exact Y0.out
    have hbw:Below w.1.size w wr:=HB0.out.trans (HK.out.2.mono (by omega))
    by_cases hlt:j<s.length
    · have hj1:(j:Int)<(s.length:Int):=by omega
      obtain⟨bx,ox,k,tp,tn,tc,vk,vi,vb,vt,vp,vn,vc,rfl,hbx,h9,hty,hdv⟩:=HX.out.at j hlt
      have h9':=h9.on hbw
      obtain⟨a0,a1,a2,a3,a4,a5,a6,a7,a8⟩:=h9'
      obtain⟨nm,ty,has,dv,hcj⟩:∃nm ty has dv,s[j]=⟨nm,ty,has,dv⟩:=⟨_,_,_,_,rfl⟩
      rw[hcj] at a0 a3 hty hdv
      simp only at a0 a3 hty hdv
      obtain⟨l',hce⟩:=HE0.out s[j] (List.getElem_mem hlt)
      have hwj:=HW.out s[j] (List.getElem_mem hlt)
      rw[hcj] at hce hwj
      obtain⟨hnm,-,htc,-,hdc⟩:=Sch.col_open hce
      simp only at hnm htc hdc
      have hn16:=(Sch.name_size hnm).2
      have htl:=Sch.tyB_len ty 1 htc
      have HHas:Hid (has=true->chk 1 dv=0):=fun h=>(hdc h).1
      have hft:=Sch.flatten_take Sch.cB s j hlt
      have hfl:=Sch.flatten_take_le Sch.cB s j
      rw[hcj] at hft
      -- the column's own block,and the calls' answers
      obtain⟨wa,hwa⟩:∃wa,wa=wr.alloc (.cells #[.string nm,.int .i64 k,.slice tp tn tc,.bool has,.int .i64 vk,.int .i64 vi,.float .f64 vb,.string vt,.slice vp vn vc] 89):=⟨_,rfl⟩
      have HBa:Hid (Below wr.1.size wr wa):=by rw[hwa];exact vY
      have hsa:wa.1.size=wr.1.size+1:=by rw[hwa];simp
      have H9a:Hid (At9 wa wr.1.size 0 nm k tp tn tc has vk vi vb vt vp vn vc):=by rw[hwa];exact⟨by simp,by simp,by simp,by simp,by simp,by simp,by simp,by simp,by simp⟩
      have HWa:=vQ hwa
      have hbwa:Below w.1.size w wa:=hbw.trans (HBa.out.mono hbw.size)
      have HBwa:=vQ hbwa
      have HPn:=vQ (cA nm.size (by omega) wa)
      have HTb:=vQ (fun w' (hb:Below w.1.size w w')=>iJ ty 1 w' _ htc (hty.on hb))
      have HVb:=vQ (fun w' (hb:Below w.1.size w w') h1=>gU dv 1 w' _ (by omega) h1 hwj.2.2 (hdv.on hb))
      have HVl:=vQ (fun h1=>Sch.vB_small (v:=dv) (d:=1) h1 (by omega))
      have hpl:=Leb.put_length_le nm.size
      have hcb:Sch.cB ⟨nm,ty,has,dv⟩=Leb.put nm.size++(nm.data.toList++(Sch.tyB ty++(if has then 1 else 0)::(if has then Sch.vB dv else []))):=rfl
      obtain⟨ln,hln⟩:∃ln,ln=Leb.put nm.size:=⟨_,rfl⟩
      rw[<-hln] at HPn hpl hcb
      obtain⟨lt,hlt2⟩:∃lt,lt=Sch.tyB ty:=⟨_,rfl⟩
      rw[<-hlt2] at HTb htl hcb
      obtain⟨lx,hlx⟩:∃lx,lx=Sch.vB dv:=⟨_,rfl⟩
      rw[<-hlx] at HVb HVl hcb
      rw[hcb] at hft
      have HFT:=vQ hft
      have HO:=vQ HK.out.1
      have HBk:=vQ HK.out.2
      obtain⟨lb,hlb⟩:∃lb,lb=l0++((s.take j).map Sch.cB).flatten:=⟨_,rfl⟩
      have hlbn:lb.length<=320000000650:=by rw[hlb,List.length_append];omega
      rw[<-hlb] at HO
      have HLB:=vQ hlb
      have hs1:w.1.size+1<=wr.1.size:=by have:=HK.out.2.size;omega
      have hnmi:(nm.size:Int)<=16:=by omega
      clear h9 hwa hln hlt2 hlx hft hcb hlb HK hce hwj hnm htc hdc hcj hty hdv hbwa hbw
      go_wp2_with fail
      rw[<-HWa.out]
      clear HWa
      refine HPn.out.mono ?_
      rintro e w2 ⟨gn,capn,rfl,hmn,hbn⟩
      have HMn:=vQ hmn.has
      have HBn:=vQ hbn
      obtain⟨b0,b1,b2,b3,b4,b5,b6,b7,b8⟩:=H9a.out.on hbn
      clear hmn hbn HPn a0 a1 a2 a3 a4 a5 a6 a7 a8
      unfold al at HTb
      unfold cells5 at HVb
      go_wp2_with fail
      refine(HTb.out w2 (HBwa.out.trans (HBn.out.mono HBwa.out.size))).mono ?_
      rintro e w3 ⟨qt,capt,rfl,hht,hbt⟩
      have hsz2:wr.1.size+1<=w2.1.size:=by have:=HBn.out.size;omega
      have hsz3:w2.1.size<=w3.1.size:=hbt.size
      -- all lies apart from the slice's own block
      have HBr:Hid (Below wr.1.size wr w3):=(HBa.out.trans (HBn.out.mono HBa.out.size)).trans (hbt.mono (by omega))
      have HO3:=vQ (HO.out.on HBr.out)
      have HAp:Hid (Apart wr.1.size w3.1.size w3 w3 u3):=⟨fun k hk=>.inl (HO.out.lt k hk).2,fun _ _ _=>rfl,vX⟩
      have HAn:Hid (At w3 (some ⟨gn,0,none⟩) ln):=HMn.out.here.on hbt
      have HAt:Hid (At w3 qt lt∧∀b o,qt=some ⟨b,o,none⟩->wr.1.size<=b∧b<w3.1.size):=⟨hht.here,fun b o hq=>by have:=hht.place b o hq;omega⟩
      have H93:Hid (At9 w3 wr.1.size 0 nm k tp tn tc has vk vi vb vt vp vn vc):=(H9a.out.on HBn.out).on hbt
      have HB3:Hid (Below (w.1.size+1) W0 w3):=HBk.out.trans (HBr.out.mono hs1)
      have hs3:w.1.size+1<=w3.1.size:=by omega
      clear hht hbt HTb b0 b1 b2 b3 b4 b5 b6 b7 b8 H9a HMn HBn HBa HBwa HO HBk
      cases has with
      |false=>
        have HFl:=vQ (fa false)
        go_wp2_with (first
          | (at_builtin
             first
               | (refine au (B:=w.1.size+1) (p:=some ⟨gn,0,none⟩) HO3.out HAn.out (by omega) hs3 rfl rfl rfl rfl rfl ?_
                  intro y4 q4 cap4 w4 HY4 hH4 ha4 hb4
                  have HO4:=vQ hH4
                  have HAp4:=vQ (HAp.out.step ha4 hb4)
                  have HB4:=vQ (HB3.out.trans (ar ha4 HO3.out hs3))
                  have hs4:w.1.size+1<=w4.1.size:=Nat.le_trans hs3 ha4.size
                  have hy4:y4.length<=320000000660:=by rw[HY4.out,List.length_append];omega
                  have d0:=HAp4.out.cell vX (by omega) H93.out.1
                  clear hH4 ha4 hb4 HO3 HAn HAp HB3)
               | (refine eV (B:=w.1.size+1) (t:=nm) HO4.out (by omega) hs4 rfl rfl rfl rfl rfl ?_
                  intro y5 q5 cap5 w5 HY5 hH5 ha5 hb5
                  have HO5:=vQ hH5
                  have HAp5:=vQ (HAp4.out.step ha5 hb5)
                  have HB5:=vQ (HB4.out.trans (ar ha5 HO4.out hs4))
                  have hs5:w.1.size+1<=w5.1.size:=Nat.le_trans hs4 ha5.size
                  have hy5:y5.length<=320000000680:=by rw[HY5.out,List.length_append];simp only[Array.length_toList];have:nm.data.size=nm.size:=rfl;omega
                  have HAt5:=vQ (HAp5.out.at HAt.out.2 HAt.out.1)
                  clear hH5 ha5 hb5 HO4 HAp4 HB4 HAt d0)
               | (refine au (B:=w.1.size+1) (p:=qt) HO5.out HAt5.out (by omega) hs5 rfl rfl rfl rfl rfl ?_
                  intro y6 q6 cap6 w6 HY6 hH6 ha6 hb6
                  have HO6:=vQ hH6
                  have HAp6:=vQ (HAp5.out.step ha6 hb6)
                  have HB6:=vQ (HB5.out.trans (ar ha6 HO5.out hs5))
                  have hs6:w.1.size+1<=w6.1.size:=Nat.le_trans hs5 ha6.size
                  have hy6:y6.length<=320000000690:=by rw[HY6.out,List.length_append];omega
                  have d3:=HAp6.out.cell vX (by omega) H93.out.2.2.2.1
                  clear hH6 ha6 hb6 HO5 HAp5 HB5 HAt5)
               | (refine au (B:=w.1.size+1) (p:=some ⟨w6.1.size,0,none⟩) (l:=[0]) (HO6.out.alloc _) (qj w6 _ 0 rfl) (by simp;omega) (by simp;omega) rfl rfl rfl rfl rfl ?_
                  intro y7 q7 cap7 w7 HY7 hH7 ha7 hb7
                  have hb6a:Below w6.1.size w6 (w6.alloc (.cells #[.int .u8 0] 5)):=vY
                  have HO7:=vQ hH7
                  have HAp7:=vQ ((HAp6.out.on hb6a).step ha7 hb7)
                  have HB7:=vQ ((HB6.out.trans (hb6a.mono hs6)).trans (ar ha7 (HO6.out.alloc _) (by simp;omega)))
                  have hs7:w.1.size+1<=w7.1.size:=by have:=ha7.size;simp at this;omega
                  have hy7:y7.length<=320000000700:=by rw[HY7.out,List.length_append];simp;omega
                  obtain⟨e0,e1,e2,e3,e4,e5,e6,e7,e8⟩:=H93.out
                  have d3:=HAp7.out.cell vX (by omega) e3
                  have d4:=HAp7.out.cell vX (by omega) e4
                  have d5:=HAp7.out.cell vX (by omega) e5
                  have d6:=HAp7.out.cell vX (by omega) e6
                  have d7:=HAp7.out.cell vX (by omega) e7
                  have d8:=HAp7.out.cell vX (by omega) e8
                  clear hH7 ha7 hb7 HO6 HAp6 HB6 hb6a e0 e1 e2 e3 e4 e5 e6 e7 e8))
          | (go_at_call 102;refine(HFl.out _).mono ?_;rintro e wf ⟨rfl,hwf⟩;rw[hwf];clear hwf wf;simp only[Bool.false_eq_true,if_false]))
        have HR:Hid (Has w7 (w.1.size+1) (.slice q7 y7.length cap7) (l0++((s.take (j+1)).map Sch.cB).flatten)∧Below (w.1.size+1) W0 w7):=by
          refine⟨?_,HB7.out⟩
          have e:l0++((s.take (j+1)).map Sch.cB).flatten=y7:=by
            rw[HFT.out,HY7.out,HY6.out,HY5.out,HY4.out,HLB.out]
            simp[List.append_assoc]
          rw[e]
          exact HO7.out
        clear d3 d4 d5 d6 d7 d8
        go_roundw
        case rel=>exact⟨j+1,by omega,by go_num,HR⟩
        case measure=>simp[intOf];omega
      |true=>
        have HFl:=vQ (fa true)
        go_wp2_with (first
          | (at_builtin
             first
               | (refine au (B:=w.1.size+1) (p:=some ⟨gn,0,none⟩) HO3.out HAn.out (by omega) hs3 rfl rfl rfl rfl rfl ?_
                  intro y4 q4 cap4 w4 HY4 hH4 ha4 hb4
                  have HO4:=vQ hH4
                  have HAp4:=vQ (HAp.out.step ha4 hb4)
                  have HB4:=vQ (HB3.out.trans (ar ha4 HO3.out hs3))
                  have hs4:w.1.size+1<=w4.1.size:=Nat.le_trans hs3 ha4.size
                  have hy4:y4.length<=320000000660:=by rw[HY4.out,List.length_append];omega
                  have d0:=HAp4.out.cell vX (by omega) H93.out.1
                  clear hH4 ha4 hb4 HO3 HAn HAp HB3)
               | (refine eV (B:=w.1.size+1) (t:=nm) HO4.out (by omega) hs4 rfl rfl rfl rfl rfl ?_
                  intro y5 q5 cap5 w5 HY5 hH5 ha5 hb5
                  have HO5:=vQ hH5
                  have HAp5:=vQ (HAp4.out.step ha5 hb5)
                  have HB5:=vQ (HB4.out.trans (ar ha5 HO4.out hs4))
                  have hs5:w.1.size+1<=w5.1.size:=Nat.le_trans hs4 ha5.size
                  have hy5:y5.length<=320000000680:=by rw[HY5.out,List.length_append];simp only[Array.length_toList];have:nm.data.size=nm.size:=rfl;omega
                  have HAt5:=vQ (HAp5.out.at HAt.out.2 HAt.out.1)
                  clear hH5 ha5 hb5 HO4 HAp4 HB4 HAt d0)
               | (refine au (B:=w.1.size+1) (p:=qt) HO5.out HAt5.out (by omega) hs5 rfl rfl rfl rfl rfl ?_
                  intro y6 q6 cap6 w6 HY6 hH6 ha6 hb6
                  have HO6:=vQ hH6
                  have HAp6:=vQ (HAp5.out.step ha6 hb6)
                  have HB6:=vQ (HB5.out.trans (ar ha6 HO5.out hs5))
                  have hs6:w.1.size+1<=w6.1.size:=Nat.le_trans hs5 ha6.size
                  have hy6:y6.length<=320000000690:=by rw[HY6.out,List.length_append];omega
                  have d3:=HAp6.out.cell vX (by omega) H93.out.2.2.2.1
                  clear hH6 ha6 hb6 HO5 HAp5 HB5 HAt5)
               | (refine au (B:=w.1.size+1) (p:=some ⟨w6.1.size,0,none⟩) (l:=[1]) (HO6.out.alloc _) (qj w6 _ 1 rfl) (by simp;omega) (by simp;omega) rfl rfl rfl rfl rfl ?_
                  intro y7 q7 cap7 w7 HY7 hH7 ha7 hb7
                  have hb6a:Below w6.1.size w6 (w6.alloc (.cells #[.int .u8 1] 5)):=vY
                  have HO7:=vQ hH7
                  have HAp7:=vQ ((HAp6.out.on hb6a).step ha7 hb7)
                  have HB7:=vQ ((HB6.out.trans (hb6a.mono hs6)).trans (ar ha7 (HO6.out.alloc _) (by simp;omega)))
                  have hs7:w.1.size+1<=w7.1.size:=by have:=ha7.size;simp at this;omega
                  have hy7:y7.length<=320000000700:=by rw[HY7.out,List.length_append];simp;omega
                  obtain⟨e0,e1,e2,e3,e4,e5,e6,e7,e8⟩:=H93.out
                  have d3:=HAp7.out.cell vX (by omega) e3
                  have d4:=HAp7.out.cell vX (by omega) e4
                  have d5:=HAp7.out.cell vX (by omega) e5
                  have d6:=HAp7.out.cell vX (by omega) e6
                  have d7:=HAp7.out.cell vX (by omega) e7
                  have d8:=HAp7.out.cell vX (by omega) e8
                  clear hH7 ha7 hb7 HO6 HAp6 HB6 hb6a e0 e1 e2 e3 e4 e5 e6 e7 e8))
          | (go_at_call 102;refine(HFl.out _).mono ?_;rintro e wf ⟨rfl,hwf⟩;rw[hwf];clear hwf wf;simp only[if_true]))
        have hbw7:Below w.1.size w w7:=HB0.out.trans (HB7.out.mono (by omega))
        have hdv1:chk 1 dv=0:=by first | exact HHas.out rfl | exact HHas.out trivial
        have hlxl:=HVl.out hdv1
        refine(HVb.out w7 hbw7 hdv1).mono ?_
        rintro e w8 ⟨qx,capx,rfl,hhx,hb8⟩
        have HO8:=vQ (HO7.out.on hb8)
        have HB8:=vQ (HB7.out.trans (hb8.mono hs7))
        have hs8:w.1.size+1<=w8.1.size:=Nat.le_trans hs7 hb8.size
        have HAx:=vQ hhx.here
        clear d3 d4 d5 d6 d7 d8 hhx hb8 hbw7 hdv1 HO7 HB7 HAp7
        go_wp2_with (at_builtin;refine au (B:=w.1.size+1) (p:=qx) HO8.out HAx.out (by omega) hs8 rfl rfl rfl rfl rfl ?_;intro y9 q9 cap9 w9 HY9 hH9 ha9 hb9)
        have HR:Hid (Has w9 (w.1.size+1) (.slice q9 y9.length cap9) (l0++((s.take (j+1)).map Sch.cB).flatten)∧Below (w.1.size+1) W0 w9):=by
          refine⟨?_,HB8.out.trans (ar ha9 HO8.out hs8)⟩
          have e:l0++((s.take (j+1)).map Sch.cB).flatten=y9:=by
            rw[HFT.out,HY9.out,HY7.out,HY6.out,HY5.out,HY4.out,HLB.out]
            simp[List.append_assoc]
          rw[e]
          exact hH9
        clear hH9 ha9 hb9
        go_roundw
        case rel=>exact⟨j+1,by omega,by go_num,HR⟩
        case measure=>simp[intOf];omega
    · have hjn:¬(j:Int)<(s.length:Int):=by omega
      have he:((s.take j).map Sch.cB).flatten=(s.map Sch.cB).flatten:=by rw[List.take_of_length_le (by omega)]
      have HO:=HK.out.1
      rw[he] at HO
      obtain⟨L,hL⟩:∃L,L=l0++(s.map Sch.cB).flatten:=⟨_,rfl⟩
      rw[<-hL] at HO
      have HLl:=vQ hL
      obtain⟨q,cap2,hv,-,-⟩:=HO.at
      subst hv
      replace HO:=vQ (HO.lower (B':=w.1.size) (by omega))
      have HF:=vQ hbw
      clear HK he hbw hlt hL
      go_wp2
      go_ret
      rw[HEB.out,<-HLl.out]
      exact⟨q,cap2,rfl,HO.out,HF.out⟩
theorem mQ(s:List Col)(j:Nat)(h:j<s.length):Sch.colsErr (s.take j) (s.drop j)=if Sch.colErr (s.take j) s[j]=0 then Sch.colsErr (s.take (j+1)) (s.drop (j+1)) else Sch.colErr (s.take j) s[j]:=by
 rw[List.drop_eq_getElem_cons h,Sch.colsErr,List.take_succ_eq_append_getElem h]
theorem jc(s:List Col)(p:OA)(cp:Nat)(w:World)(hl:s.length*120<=140737488351232)(hcp:s.length<=cp)(hx:bg w p s)(hw:∀c∈s,c.wf):
  Calls Tryz.prog 47 #[.agg #[.slice p s.length cp]] w fun e w'=>e=.returned (.int .i64 (Sch.err s:Nat))∧Below w.1.size w w':=by
 obtain⟨W0,hW0⟩:∃W0,W0=w.alloc (.cells #[.slice p s.length cp] 30):=⟨_,rfl⟩
 have HB0:Hid (Below w.1.size w W0):=by rw[hW0];exact vY
 have y0:W0.cell? ⟨w.1.size,0,none⟩=some (.slice p s.length cp):=by rw[hW0];simp
 have Y0:=vQ y0
 have HW0:=vQ hW0
 obtain⟨R,hR⟩:∃R,R=Sch.err s:=⟨_,rfl⟩
 have HR:=vQ (hR.trans (by rw[Sch.err]:Sch.err s=_))
 rw[<-hR]
 have HX:=vQ hx
 have HW:=vQ hw
 clear hW0 hR hx hw y0
 by_cases h0:s.length=0
 ·have g0:((s.length:Int)==0)=true:=bV (by omega)
  have HE:Hid (R=4):=by show _=_;rw[HR.out,if_pos h0]
  clear HR h0
  go_enter Tryz.func47,Tryz.ntmps47
  go_wp2
  rw[<-HW0.out]
  go_ret
  exact⟨by rw[HE.out];rfl,HB0.out⟩
 have g0:((s.length:Int)==0)=false:=aH (by omega)
 have HR1:=vQ (HR.out.trans (if_neg h0))
 clear HR
 by_cases h1:16<s.length
 ·have g1:(16:Int)<(s.length:Int):=by omega
  have HE:Hid (R=3):=by show _=_;rw[HR1.out,if_pos h1]
  clear HR1 h0 h1
  go_enter Tryz.func47,Tryz.ntmps47
  go_wp2
  rw[<-HW0.out]
  go_ret
  exact⟨by rw[HE.out];rfl,HB0.out⟩
 have g1:¬(16:Int)<(s.length:Int):=by omega
 have HR2:=vQ (HR1.out.trans (if_neg h1))
 clear HR1 h0
 go_enter Tryz.func47,Tryz.ntmps47
 go_wp2_with fail
 rw[<-HW0.out]
 clear HW0
 go_loopw [3,4] (fun v3 _ wr=>∃j:Nat,j<=s.length∧v3=.int .i64 j∧Hid (Below W0.1.size W0 wr∧Sch.colsErr [] s=Sch.colsErr (s.take j) (s.drop j))) (fun v3 _ _=>s.length-(intOf v3).toNat)
 case atStart=>exact⟨0,by omega,rfl,vZ,rfl⟩
 case round=>
  obtain⟨j,hj,rfl,HL⟩:=hrel
  have hbw:Below w.1.size w wr:=HB0.out.trans (HL.out.1.mono HB0.out.size)
  have n0:wr.cell? ⟨w.1.size,0,none⟩=some (.slice p s.length cp):=ab HL.out.1 Y0.out
  by_cases hlt:j<s.length
  ·have hj1:(j:Int)<(s.length:Int):=by omega
   have hj2:(j:Int)<=(cp:Int):=by omega
   obtain⟨bx,ox,k,tp,tn,tc,vk,vi,vb,vt,vp,vn,vc,rfl,hbx,h9,hty,hdv⟩:=HX.out.at j hlt
   have HC:Hid (∀w',Below w.1.size w w'->Calls Tryz.prog 69 #[.slice (some ⟨bx,ox,none⟩) j cp,.agg #[.string s[j].name,.int .i64 k,.slice tp tn tc,.bool s[j].has,.int .i64 vk,.int .i64 vi,.float .f64 vb,.string vt,.slice vp vn vc]] w' fun e w''=>e=.returned (.int .i64 (Sch.colErr (s.take j) s[j]:Nat))∧Below w'.1.size w' w''):=fun w' hb=>by
    have hlj:(s.take j).length=j:=by rw[List.length_take];omega
    have h:=l9 (s.take j) s[j] (some ⟨bx,ox,none⟩) cp (aA s[j].name k tp tn tc s[j].has vk vi vb vt vp vn vc) w' (by rw[hlj];omega) ((HX.out.take j).on hb) ⟨k,tp,tn,tc,vk,vi,vb,vt,vp,vn,vc,rfl,hty.on hb,hdv.on hb⟩
    rw[hlj] at h
    exact h
   obtain⟨a0,a1,a2,a3,a4,a5,a6,a7,a8⟩:=h9.on hbw
   have HAt2:=vQ (HL.out.2.trans (mQ s j hlt))
   have HBw:=vQ hbw
   have HBW:=vQ HL.out.1
   obtain⟨z,hz⟩:∃z,z=Sch.colErr (s.take j) s[j]:=⟨_,rfl⟩
   rw[<-hz] at HC HAt2
   generalize s[j].name=nm at *
   generalize s[j].has=has at *
   clear h9 hty hdv hbw HL hz
   go_wp2_with fail
   go_region_held3 (fun w'=>w'.cell? ⟨bx,ox+j*9,none⟩=some (.string nm)∧w'.cell? ⟨bx,ox+j*9+1,none⟩=some (.int .i64 k)∧w'.cell? ⟨bx,ox+j*9+2,none⟩=some (.slice tp tn tc)∧w'.cell? ⟨bx,ox+j*9+3,none⟩=some (.bool has)∧w'.cell? ⟨bx,ox+j*9+4,none⟩=some (.int .i64 vk)∧w'.cell? ⟨bx,ox+j*9+5,none⟩=some (.int .i64 vi)∧w'.cell? ⟨bx,ox+j*9+6,none⟩=some (.float .f64 vb)∧w'.cell? ⟨bx,ox+j*9+7,none⟩=some (.string vt)∧w'.cell? ⟨bx,ox+j*9+8,none⟩=some (.slice vp vn vc)∧w'.cell? ⟨w.1.size,0,none⟩=some (.slice (some ⟨bx,ox,none⟩) s.length cp)) (go_keep) (first
    | (go_at_call 69;refine(HC.out _ (below_drewN HBw.out _)).mono ?_;rintro e w4 ⟨rfl,hb4⟩;have hb5:=cf (w:=wr) hb4 (by rfl) (by rfl) (by rfl) (by rfl);have z0:=ab hb5 a0;have z1:=ab hb5 a1;have z2:=ab hb5 a2;have z3:=ab hb5 a3;have z4:=ab hb5 a4;have z5:=ab hb5 a5;have z6:=ab hb5 a6;have z7:=ab hb5 a7;have z8:=ab hb5 a8;have z9:=ab hb5 n0;have HB4:=vQ hb5;clear hb4 hb5))
   clear z0 z1 z2 z3 z4 z5 z6 z7 z8 z9 a0 a1 a2 a3 a4 a5 a6 a7 a8 n0
   by_cases hz0:z=0
   ·have hzb:((z:Int) != 0)=false:=by rw[hz0];rfl
    have HN:Hid (Below W0.1.size W0 w4∧Sch.colsErr [] s=Sch.colsErr (s.take (j+1)) (s.drop (j+1))):=⟨HBW.out.trans (HB4.out.mono HBW.out.size),by rw[HAt2.out,if_pos hz0]⟩
    clear HB4 HC hz0 HAt2
    go_wp2
    go_roundw
    case rel=>exact⟨j+1,by omega,by go_num,HN⟩
    case measure=>simp[intOf];omega
   ·have hzb:((z:Int) != 0)=true:=by rw[bne_iff_ne];omega
    have HE:Hid (R=z):=by
     show _=_
     have e:Sch.colsErr [] s=z:=by rw[HAt2.out,if_neg hz0]
     rw[HR2.out,if_pos (by rw[e];exact hz0),e]
    have HF:=vQ (HBw.out.trans (HB4.out.mono HBw.out.size))
    clear HB4 HC hz0 HAt2 HR2
    go_wp2
    go_ret
    exact⟨by rw[HE.out];rfl,HF.out⟩
  ·have hjn:¬(j:Int)<(s.length:Int):=by omega
   have hc0:Sch.colsErr [] s=0:=by rw[HL.out.2,List.drop_eq_nil_of_le (by omega)];rfl
   have HR3:=vQ (HR2.out.trans (if_neg (by rw[hc0];simp)))
   have HC:=vQ (fV s p cp wr (by omega) (HX.out.on hbw) hc0 HW.out)
   have HBw:=vQ hbw
   obtain⟨L,hL⟩:∃L,L=Sch.bytes s:=⟨_,rfl⟩
   rw[<-hL] at HC HR3
   have hLn:L.length<=320000000650:=by
    have h1:=Sch.flat_small hc0 (by omega)
    have h2:=Leb.put_length_le s.length
    rw[hL,Sch.bytes,List.length_append]
    omega
   clear HL hbw hL hc0 HR2
   go_wp2_with fail
   refine HC.out.mono ?_
   rintro e w2 ⟨q,cap,rfl,hq,hb2⟩
   have HB2:=vQ (HBw.out.trans (hb2.mono HBw.out.size))
   clear hq hb2
   by_cases h2:1024<L.length
   ·have g2:(1024:Int)<(L.length:Int):=by omega
    have HE:Hid (R=2):=by show _=_;rw[HR3.out,if_pos h2]
    clear HR3 h2
    go_wp2
    go_ret
    exact⟨by rw[HE.out];rfl,HB2.out⟩
   ·have g2:¬(1024:Int)<(L.length:Int):=by omega
    have HE:Hid (R=0):=by show _=_;rw[HR3.out,if_neg h2]
    clear HR3 h2
    go_wp2
    go_ret
    exact⟨by rw[HE.out];rfl,HB2.out⟩
def uX(w:World)(s:List Col)(e:Ending)(w':World):Prop :=
 (Sch.err s=0∧∃q cap,e=.returned (.tuple #[.slice q (Sch.bytes s).length cap,.int .i64 0])∧Has w' w.1.size (.slice q (Sch.bytes s).length cap) (Sch.bytes s)∧Below w.1.size w w') ∨
 (Sch.err s≠0∧e=.returned (.tuple #[.slice none 0 0,.int .i64 (Sch.err s:Nat)])∧Below w.1.size w w')
theorem l8(s:List Col)(p:OA)(cp:Nat)(w:World)(hl:s.length*120<=140737488351232)(hcp:s.length<=cp)(hx:bg w p s)(hw:∀c∈s,c.wf):
  Calls Tryz.prog 91 #[.agg #[.slice p s.length cp]] w (uX w s):=by
 obtain⟨W0,hW0⟩:∃W0,W0=w.alloc (.cells #[.slice p s.length cp] 30):=⟨_,rfl⟩
 have HB0:Hid (Below w.1.size w W0):=by rw[hW0];exact vY
 have y0:W0.cell? ⟨w.1.size,0,none⟩=some (.slice p s.length cp):=by rw[hW0];simp
 have Y0:=vQ y0
 have HW0:=vQ hW0
 have HC:=vQ (jc s p cp W0 hl hcp (hx.on HB0.out) hw)
 have HBy:=vQ (fun w' (hb:Below w.1.size w w') h1 h2=>fV s p cp w' h1 (hx.on hb) h2 hw)
 have HOp:=vQ (fun h=>Sch.err_open (s:=s) h)
 obtain⟨R,hR⟩:∃R,R=Sch.err s:=⟨_,rfl⟩
 obtain⟨L,hL⟩:∃L,L=Sch.bytes s:=⟨_,rfl⟩
 unfold uX
 rw[<-hR,<-hL]
 rw[<-hR] at HC HOp
 rw[<-hL] at HBy
 clear hW0 hx hw y0 hR hL
 go_enter Tryz.func91,Tryz.ntmps91
 go_wp2_with fail
 rw[<-HW0.out]
 clear HW0
 refine HC.out.mono ?_
 rintro e w1 ⟨rfl,hb1⟩
 have n0:w1.cell? ⟨w.1.size,0,none⟩=some (.slice p s.length cp):=ab hb1 Y0.out
 have HB1:=vQ (HB0.out.trans (hb1.mono HB0.out.size))
 clear hb1 HC
 by_cases h0:R=0
 ·have g0:((R:Int) != 0)=false:=by rw[h0];rfl
  obtain⟨o1,o2,o3,o4⟩:=HOp.out h0
  have HCB:=vQ (HBy.out w1 HB1.out o2 o3)
  have HR0:=vQ h0
  clear h0 o1 o2 o3 o4 HBy HOp
  go_wp2_with fail
  refine HCB.out.mono ?_
  rintro e w2 ⟨q,cap,rfl,hq,hb2⟩
  have HQ:=vQ (hq.lower HB1.out.size)
  have HB2:=vQ (HB1.out.trans (hb2.mono HB1.out.size))
  clear hq hb2 HCB n0
  go_wp2
  go_ret2
  exact .inl ⟨HR0.out,q,cap,rfl,HQ.out,HB2.out⟩
 ·have g0:((R:Int) != 0)=true:=by rw[bne_iff_ne];omega
  have HR0:=vQ h0
  clear h0 HBy HOp
  go_wp2
  go_ret2
  exact .inr ⟨HR0.out,rfl,HB1.out⟩
end
end Go.Proofs.YtlgfdgdlaahpfaaGreatDoor

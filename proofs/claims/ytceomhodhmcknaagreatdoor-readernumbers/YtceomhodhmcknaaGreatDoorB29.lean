import Derived.Test.YtceomhodhmcknaaGreatDoorB28
import Derived.Test.YtceomhodhmcknaaGreatDoorB27
set_option maxRecDepth 100000
set_option maxHeartbeats 1000000
namespace Go.Proofs.YtceomhodhmcknaaGreatDoor
section
open Go.RowKit
attribute [local go_sem] af
theorem ma(y:Ty)(x:V)(w:World)(u v:AV)(hy:aL w u y)(hx:aJ w v x):Calls Tryz.prog 96 #[.agg u,.agg v] w fun e w'=>e=.returned (.int .i64 (Rw.vErr y x:Nat))∧Below w.1.size w w':=by
 obtain⟨k,i,b,t,xs⟩:=x
 obtain⟨k',ys⟩:=y
 obtain⟨p,c,rfl,-⟩:=hx.open
 obtain⟨q,e,rfl,-⟩:=hy.open
 obtain⟨W0,hW0⟩:∃W0,W0=(w.alloc (.cells (ar k' q ys.length e) 88)).alloc (.cells (cells5 k i b t p xs.length c) 47):=⟨_,rfl⟩
 have HB0:Hid (Below w.1.size w W0):=by rw[hW0];exact xY.alloc (by simp) _
 have HX:=xQ (hx.on HB0.out)
 have HTy:=xQ (hy.on HB0.out)
 have HCv:=xQ (kF _ W0 _ HX.out)
 have HIs:=xQ (fun w' (hb:Below W0.1.size W0 w')=>isK _ _ w' _ _ (HX.out.on hb) (HTy.out.on hb))
 have HY:Hid (W0.cell? ⟨w.1.size+1,0,none⟩=some (.int .i64 k)∧W0.cell? ⟨w.1.size+1,1,none⟩=some (.int .i64 i)∧W0.cell? ⟨w.1.size+1,2,none⟩=some (.float .f64 b)∧W0.cell? ⟨w.1.size+1,3,none⟩=some (.string t)∧W0.cell? ⟨w.1.size+1,4,none⟩=some (.slice p xs.length c)∧W0.cell? ⟨w.1.size,0,none⟩=some (.int .i64 k')∧W0.cell? ⟨w.1.size,1,none⟩=some (.slice q ys.length e)):=by rw[hW0];exact⟨by simp[cells5],by simp[cells5],by simp[cells5],by simp[cells5],by simp[cells5],by simp[ar],by simp[ar]⟩
 have HW0:=xQ hW0
 obtain⟨R,hR⟩:∃R,R=Rw.vErr (.mk k' ys) (.mk k i b t xs):=⟨_,rfl⟩
 have HI:=xQ (hR.trans (by rw[Rw.vErr]:Rw.vErr (.mk k' ys) (.mk k i b t xs)=_))
 rw[<-hR]
 obtain⟨cv,hcv⟩:∃cv,cv=chk 1 (.mk k i b t xs):=⟨_,rfl⟩
 rw[<-hcv] at HCv HI
 obtain⟨co,hco⟩:∃co,co=Sch.is (.mk k i b t xs) (.mk k' ys):=⟨_,rfl⟩
 rw[<-hco] at HI HIs
 clear hW0 hx hy hR hcv hco HX HTy
 unfold cells5 ar at *
 go_enter Tryz.func96,Tryz.ntmps96
 go_wp2_with fail
 rw[<-HW0.out]
 clear HW0
 refine HCv.out.mono ?_
 rintro e w1 ⟨rfl,hb1⟩
 have HB1:=xQ hb1
 clear hb1
 by_cases h1:cv=0
 ·have g1:((cv:Int) != 0)=false:=cg (by omega)
  obtain⟨y0,y1,y2,y3,y4,y5,y6⟩:=HY.out
  have c0:=ae HB1.out y0
  have c1:=ae HB1.out y1
  have c2:=ae HB1.out y2
  have c3:=ae HB1.out y3
  have c4:=ae HB1.out y4
  have c5:=ae HB1.out y5
  have c6:=ae HB1.out y6
  have HI1:Hid (R=if co then 0 else 80):=by show _=_;rw[HI.out,if_neg (by omega)]
  have HCi:=xQ (HIs.out w1 HB1.out)
  clear y0 y1 y2 y3 y4 y5 y6 h1 HI HIs HY HCv
  go_wp2_with fail
  refine HCi.out.mono ?_
  rintro e w2 ⟨rfl,hb2⟩
  have HB2:=xQ ((HB0.out.trans (HB1.out.mono HB0.out.size)).trans (hb2.mono (HB0.out.trans (HB1.out.mono HB0.out.size)).size))
  clear hb2 c0 c1 c2 c3 c4 c5 c6 HB1 HCi
  cases co with
  |true=>
   have HE:Hid (R=0):=by show _=_;rw[HI1.out];rfl
   clear HI1
   go_wp2
   go_ret
   exact⟨by rw[HE.out];rfl,HB2.out⟩
  |false=>
   have HE:Hid (R=80):=by show _=_;rw[HI1.out];rfl
   clear HI1
   go_wp2
   go_ret
   exact⟨by rw[HE.out];rfl,HB2.out⟩
 ·have g1:((cv:Int) != 0)=true:=bC (by omega)
  have HE:Hid (R=cv):=by show _=_;rw[HI.out,if_pos h1]
  have HB2:=xQ (HB0.out.trans (HB1.out.mono HB0.out.size))
  clear h1 HI HIs HY HCv HB1
  go_wp2
  go_ret
  exact⟨by rw[HE.out];rfl,HB2.out⟩
end
section
open Go.RowKit
attribute [local go_sem] af
theorem sa(s:List Col)(p:OA)(cp:Nat)(vs:List V)(HVa:∀x∈vs,∀d,chk d x=0->x.wf->xl x)(q:OA)(cq:Nat)(w:World)(hS:dc w p cp s)(hRl:aW w q cq vs):
  Calls Tryz.prog 67 #[.agg #[.slice p s.length cp],.agg #[.slice q vs.length cq]] w (Told w (Rw.err s vs) (Rw.out s vs)):=by
 obtain⟨hl,hcp,hx,hw⟩:=hS
 obtain⟨hvl,-,hv⟩:=hRl.items
 have hvw:=hRl.2
 obtain⟨W0,hW0⟩:∃W0,W0=(w.alloc (.cells #[.slice p s.length cp] 53)).alloc (.cells #[.slice q vs.length cq] 35):=⟨_,rfl⟩
 have HB0:Hid (Below w.1.size w W0):=by rw[hW0];exact xY.alloc (by simp) _
 have HY:Hid (W0.cell? ⟨w.1.size,0,none⟩=some (.slice p s.length cp)∧W0.cell? ⟨w.1.size+1,0,none⟩=some (.slice q vs.length cq)):=by rw[hW0];exact⟨by simp,by simp⟩
 have hs0:w.1.size+2<=W0.1.size:=by rw[hW0];simp
 have HW0:=xQ hW0
 have HC:=xQ (g9 s p cp W0 hl (hx.on HB0.out) hw)
 have HOp:=xQ (fun h=>Sch.err_open (s:=s) h)
 obtain⟨R,hR⟩:∃R,R=Rw.err s vs:=⟨_,rfl⟩
 have HR:=xQ (hR.trans (by rw[Rw.err]:Rw.err s vs=_))
 obtain⟨O,hO⟩:∃O,O=Rw.out s vs:=⟨_,rfl⟩
 have HO:=xQ (hO.trans (by rw[Rw.out]:Rw.out s vs=_))
 rw[<-hR] at HO
 rw[<-hR,<-hO]
 obtain⟨er,her⟩:∃er,er=Sch.err s:=⟨_,rfl⟩
 rw[<-her] at HC HR HOp
 have HX:=xQ hx
 have HV:=xQ hv
 have HVW:=xQ hvw
 clear hW0 hR hO hx hw her hv hvw hRl
 go_enter Tryz.func67,Tryz.ntmps67
 go_wp2_with fail
 rw[<-HW0.out]
 clear HW0
 refine HC.out.mono ?_
 rintro e w1 ⟨rfl,hb1⟩
 have HB1:=xQ hb1
 have HBw1:=xQ (HB0.out.trans (hb1.mono HB0.out.size))
 clear hb1 HC
 by_cases h0:¬er=0
 ·have g0:((er:Int) != 0)=true:=bC (by omega)
  have HE:Hid (R=er):=by show _=_;rw[HR.out,if_pos h0]
  have HOn:Hid (O=[]):=by show _=_;rw[HO.out,HE.out,if_neg h0]
  clear HR h0 HOp HO
  go_wp2
  go_ret2
  exact⟨none,0,by rw[HOn.out,HE.out];rfl,by rw[HOn.out];exact .inl rfl,by rw[HOn.out];exact xX,HBw1.out⟩
 have g0:((er:Int) != 0)=false:=cg (by omega)
 have HR1:=xQ (HR.out.trans (if_neg h0))
 have hn16:s.length<=16:=(HOp.out (by omega)).2.1
 clear HR HOp h0
 have n0:=ae HB1.out HY.out.1
 have n1:=ae HB1.out HY.out.2
 by_cases h1:¬vs.length=s.length
 ·have g1:((vs.length:Int) != (s.length:Int))=true:=bC (by omega)
  have HE:Hid (R=80):=by show _=_;rw[HR1.out,if_pos h1]
  have HOn:Hid (O=[]):=by show _=_;rw[HO.out,HE.out,if_neg (by decide)]
  clear HR1 h1 HO
  go_wp2
  go_ret2
  exact⟨none,0,by rw[HOn.out,HE.out];rfl,by rw[HOn.out];exact .inl rfl,by rw[HOn.out];exact xX,HBw1.out⟩
 have g1:((vs.length:Int) != (s.length:Int))=false:=cg (by omega)
 have HR2:=xQ (HR1.out.trans (if_neg h1))
 have HVS:Hid (vs.length=s.length):=by show _=_;omega
 have hn16v:vs.length<=16:=by have:=HVS.out;omega
 clear HR1 h1
 obtain⟨W3,hW3⟩:∃W3,W3=(w1.alloc (.cells ie 214)).alloc (.cells #[.slice (some ⟨w1.1.size,0,none⟩) 8 8,.slice none 0 0,.int .i64 1024] 187):=⟨_,rfl⟩
 have HB3:Hid (Below w1.1.size w1 W3):=by rw[hW3];exact xY.alloc (by simp) _
 have HWt:Hid (Wtr W3 (w1.1.size+2) (w1.1.size+1) 1024 []):=by rw[hW3];exact oT _ _
 have hB3:∀o o',Below w1.1.size w1 ((w1.alloc o).alloc o'):=fun o o'=>xY.alloc (by simp) _
 have z0:=fun o o'=>ae (hB3 o o') n0
 have z1:=fun o o'=>ae (hB3 o o') n1
 have HW3:=xQ hW3
 clear hB3 hW3
 go_wp2_with fail
 refine(jL _).mono ?_
 rintro e w3 ⟨rfl,hw3⟩
 rw[hw3]
 clear hw3 w3
 go_wp2_with fail
 rw[<-HW3.out]
 clear HW3 z0 z1
 have HS1:Hid (Below w1.1.size w1 W3∧w.1.size+2<=w1.1.size):=⟨HB3.out,Nat.le_trans hs0 HB1.out.size⟩
 go_loopw [28] (fun v28 wr=>∃(j:Nat) (zs:L8),j<=s.length∧v28=.int .i64 j∧zs.length<=j*20000000000∧Hid (qw 1024 [] (Rw.bytes (vs.take j)) zs∧Wtr wr (w1.1.size+2) (w1.1.size+1) 1024 zs∧AsW (w1.1.size+1) W3 wr∧Rw.colsErr s vs=Rw.colsErr (s.drop j) (vs.drop j))) (fun v28 _=>s.length-(intOf v28).toNat)
 case atStart=>exact⟨0,[],by omega,rfl,by simp,⟨.inl rfl,by simp⟩,HWt.out,AsW.new HWt.out.lt xZ,rfl⟩
 case round=>
  clear n0 n1
  obtain⟨j,zs,hj,rfl,hzl,HL⟩:=hrel
  have hb13:Below w1.1.size w1 wr:=HS1.out.1.trans (HL.out.2.2.1.below HWt.out (by omega))
  have hbW:Below W0.1.size W0 wr:=HB1.out.trans (hb13.mono HB1.out.size)
  have hbw:Below w.1.size w wr:=HB0.out.trans (hbW.mono HB0.out.size)
  have n1:wr.cell? ⟨w.1.size+1,0,none⟩=some (.slice q vs.length cq):=ae hbW HY.out.2
  by_cases hls:j<s.length
  ·have hlt:j<vs.length:=by have:=HVS.out;omega
   have hj1:(j:Int)<(vs.length:Int):=by omega
   have hj2:(j:Int)<(s.length:Int):=by omega
   obtain⟨bx,ox,k,tp,tn,tc,vk,vi,vb,vt,vp,vn,vc,rfl,hbx,h9,hty,-⟩:=HX.out.at j hls
   obtain⟨a0,a1,a2,a3,a4,a5,a6,a7,a8⟩:=h9.on hbw
   obtain⟨ux,hvx,hix⟩:=HV.out j hlt
   obtain⟨by',oy,ky,iy,fy,ty,qy,ny,cy,rfl,_,rfl,c0,c1,c2,c3,c4⟩:=(hix.on hbw).lies
   obtain⟨wa,hwa⟩:∃wa,wa=wr.alloc (.cells #[.string s[j].name,.int .i64 k,.slice tp tn tc,.bool s[j].has,.int .i64 vk,.int .i64 vi,.float .f64 vb,.string vt,.slice vp vn vc] 90):=⟨_,rfl⟩
   have hba:Below wr.1.size wr wa:=by rw[hwa];exact xY
   have t1:wa.cell? ⟨wr.1.size,1,none⟩=some (.int .i64 k):=by rw[hwa];simp
   have t2:wa.cell? ⟨wr.1.size,2,none⟩=some (.slice tp tn tc):=by rw[hwa];simp
   have d0:=ae hba c0
   have d1:=ae hba c1
   have d2:=ae hba c2
   have d3:=ae hba c3
   have d4:=ae hba c4
   have m1:=ae hba n1
   have HBa:=xQ hba
   have HBwa:=xQ (hbw.trans (hba.mono hbw.size))
   have HC:Hid (∀w',Below w.1.size w w'->Calls Tryz.prog 96 #[.agg #[.int .i64 k,.slice tp tn tc],.agg #[.int .i64 ky,.int .i64 iy,.float .f64 fy,.string ty,.slice qy ny cy]] w' fun e w''=>e=.returned (.int .i64 (Rw.vErr s[j].ty vs[j]:Nat))∧Below w'.1.size w' w''):=fun w' hb=>ma _ _ w' _ _ (hty.on hb) (hvx.on hb)
   have HV2:Hid (Rw.vErr s[j].ty vs[j]=0->(Sch.vB vs[j]).length<=20000000000∧∀w',Below w.1.size w w'->Wtr w' (w1.1.size+2) (w1.1.size+1) 1024 zs->Calls Tryz.prog 97 #[.pointer (some ⟨w1.1.size+1,0,none⟩),.agg #[.int .i64 ky,.int .i64 iy,.float .f64 fy,.string ty,.slice qy ny cy]] w' (WrA w' (w1.1.size+2) (w1.1.size+1) 1024 zs (Sch.vB vs[j]))):=fun h=>by
    have hck:=(Rw.vErr_zero h).2.1
    have hsm:=Sch.vB_small hck (by omega)
    exact⟨hsm,fun w' hb hW=>HVa _ (List.getElem_mem hlt) 1 hck (HVW.out _ (List.getElem_mem hlt)) w w' _ _ _ _ zs hvx hb (by have:=HS1.out.2;omega) hW (by omega)⟩
   have HAt2:=xQ (HL.out.2.2.2.trans (kz s vs j hls hlt))
   have HZp:=xQ HL.out.1
   have HWa:=xQ (HL.out.2.1.on hba)
   have HAa:Hid (AsW (w1.1.size+1) W3 wa):=HL.out.2.2.1.trans (AsW.new HL.out.2.1.lt hba)
   have HTk:Hid (Rw.bytes (vs.take (j+1))=Rw.bytes (vs.take j)++Sch.vB vs[j]):=by
    show _=_
    unfold Rw.bytes
    rw[Sch.flatten_take Sch.vB vs j hlt]
   obtain⟨z,hz⟩:∃z,z=Rw.vErr s[j].ty vs[j]:=⟨_,rfl⟩
   rw[<-hz] at HC HAt2 HV2
   obtain⟨full,hfull⟩:∃l,l=Sch.vB vs[j]:=⟨_,rfl⟩
   rw[<-hfull] at HV2 HTk
   generalize s[j].name=nm at *
   generalize s[j].has=hs9 at *
   have HEa:=xQ hwa
   clear h9 hty hbw HL hz hvx hix hwa hba hfull hb13 hbW
   go_wp2_with fail
   rw[<-HEa.out]
   clear HEa a0 a1 a2 a3 a4 a5 a6 a7 a8 c0 c1 c2 c3 c4 n1
   go_region_held3 (fun w'=>w'.cell? ⟨wr.1.size,1,none⟩=some (.int .i64 k)∧w'.cell? ⟨wr.1.size,2,none⟩=some (.slice tp tn tc)∧w'.cell? ⟨by',oy+j*5,none⟩=some (.int .i64 ky)∧w'.cell? ⟨by',oy+j*5+1,none⟩=some (.int .i64 iy)∧w'.cell? ⟨by',oy+j*5+2,none⟩=some (.float .f64 fy)∧w'.cell? ⟨by',oy+j*5+3,none⟩=some (.string ty)∧w'.cell? ⟨by',oy+j*5+4,none⟩=some (.slice qy ny cy)∧w'.cell? ⟨w.1.size+1,0,none⟩=some (.slice (some ⟨by',oy,none⟩) vs.length cq)) (go_keep) (first
    | (go_at_call 96;refine(HC.out _ (below_drewN HBwa.out _)).mono ?_;rintro e w4 ⟨rfl,hb4⟩;have hb5:=cT (w:=wa) hb4 (by rfl) (by rfl) (by rfl) (by rfl);have z1:=ae hb5 t1;have z2:=ae hb5 t2;have y0:=ae hb5 d0;have y1:=ae hb5 d1;have y2:=ae hb5 d2;have y3:=ae hb5 d3;have y4:=ae hb5 d4;have z10:=ae hb5 m1;have HB4:=xQ hb5;clear hb4 hb5))
   clear z1 z2 t1 t2 d0 d1 d2 d3 d4 m1
   have HW4:=xQ (HWa.out.on HB4.out)
   have HA4:Hid (AsW (w1.1.size+1) W3 w4):=HAa.out.trans (AsW.new HWa.out.lt HB4.out)
   have HBw4:=xQ (HBwa.out.trans (HB4.out.mono HBwa.out.size))
   by_cases hz0:z=0
   ·have hzb:((z:Int) != 0)=false:=by rw[hz0];rfl
    have hfl:=(HV2.out hz0).1
    have HC2:=xQ ((HV2.out hz0).2 w4 HBw4.out HW4.out)
    have HN:Hid (Rw.colsErr s vs=Rw.colsErr (s.drop (j+1)) (vs.drop (j+1))):=by show _=_;rw[HAt2.out,if_pos hz0]
    clear HB4 HC hz0 HAt2 HV2
    go_wp2_with fail
    refine HC2.out.mono ?_
    rintro e w5 ⟨ys2,hpv,rfl,hw5,ha5⟩
    have HN2:Hid (qw 1024 [] (Rw.bytes (vs.take (j+1))) ys2∧Wtr w5 (w1.1.size+2) (w1.1.size+1) 1024 ys2∧AsW (w1.1.size+1) W3 w5∧Rw.colsErr s vs=Rw.colsErr (s.drop (j+1)) (vs.drop (j+1))):=by
     refine⟨?_,hw5,HA4.out.trans ha5,HN.out⟩
     rw[HTk.out]
     have h7:=HZp.out.len
     have h8:=hpv.len
     have h9:(Rw.bytes (vs.take j)++full).length=(Rw.bytes (vs.take j)).length+full.length:=List.length_append
     have h10:(zs++full).length=zs.length+full.length:=List.length_append
     simp only[List.length_nil,Nat.zero_add] at h7
     refine⟨?_,by simp only[List.length_nil,Nat.zero_add];omega⟩
     rw[List.nil_append]
     rcases HZp.out.eq with h11 | h11
     ·rw[List.nil_append] at h11
      rw[<-h11]
      exact hpv.eq
     ·refine .inr ⟨?_,?_⟩
      ·rcases hpv.eq with h12 | h12
       ·rw[h12];omega
       ·exact h12.1
      ·omega
    have hys:ys2.length<=(j+1)*20000000000:=by have:=hpv.len;omega
    clear hpv hw5 ha5 HC2 y0 y1 y2 y3 y4 z10
    go_wp2
    go_roundw
    case rel=>exact⟨j+1,ys2,by omega,by go_num,hys,HN2.out⟩
    case measure=>simp[intOf];omega
   ·have hzb:((z:Int) != 0)=true:=by rw[bne_iff_ne];omega
    have HE:Hid (R=z):=by
     show _=_
     have e:Rw.colsErr s vs=z:=by rw[HAt2.out,if_neg hz0]
     rw[HR2.out,if_pos (by rw[e];exact hz0),e]
    have HOn:Hid (O=[]):=by show _=_;rw[HO.out,HE.out,if_neg hz0]
    clear HB4 HC hz0 HAt2 HR2 HO y0 y1 y2 y3 y4 z10 HV2
    go_wp2
    go_ret2
    exact⟨none,0,by rw[HOn.out,HE.out];rfl,by rw[HOn.out];exact .inl rfl,by rw[HOn.out];exact xX,HBw4.out⟩
  ·have hjn:¬(j:Int)<(s.length:Int):=by omega
   have hc0:Rw.colsErr s vs=0:=by rw[HL.out.2.2.2,List.drop_eq_nil_of_le (by omega),List.drop_eq_nil_of_le (by have:=HVS.out;omega)];rfl
   have HR3:=xQ (HR2.out.trans (if_neg (by rw[hc0];simp)))
   have hzp:=HL.out.1
   rw[List.take_of_length_le (by have:=HVS.out;omega)] at hzp
   have hzl2:zs.length<=320000000000:=by omega
   obtain⟨T,q4,cap4,h1,-,h3,-,-⟩:=HL.out.2.1.out
   have r1:wr.cell? ⟨w1.1.size+1,1,none⟩=some (.slice q4 zs.length cap4):=aa h1 1
   have HH:=xQ h3
   have HBw:=xQ hbw
   obtain⟨L,hL⟩:∃L,L=Rw.bytes vs:=⟨_,rfl⟩
   rw[<-hL] at HR3 hzp HO
   have HZp:=xQ hzp
   clear HL hbw hL hc0 HR2 h1 h3 hb13 hbW n1 hzp
   by_cases hbig:1024<zs.length
   ·have gb:(1024:Int)<(zs.length:Int):=by omega
    have hL1:1024<L.length:=by
     rcases HZp.out.eq with h1 | h1
     ·rw[List.nil_append] at h1;rw[<-h1];exact hbig
     ·have:=h1.2;rw[List.nil_append] at this;omega
    have HE:Hid (R=2):=by show _=_;rw[HR3.out,if_pos hL1]
    have HOn:Hid (O=[]):=by show _=_;rw[HO.out,HE.out,if_neg (by decide)]
    clear HR3 hbig hL1 HO
    go_wp2
    go_ret2
    exact⟨none,0,by rw[HOn.out,HE.out];rfl,by rw[HOn.out];exact .inl rfl,by rw[HOn.out];exact xX,HBw.out⟩
   ·have gb:¬(1024:Int)<(zs.length:Int):=by omega
    have hzb:zs=L:=by
     rcases HZp.out.eq with h1 | h1
     ·rw[List.nil_append] at h1;exact h1
     ·exact absurd h1.1 (by omega)
    have HE:Hid (R=0):=by show _=_;rw[HR3.out,if_neg (by rw[<-hzb];exact hbig)]
    have HOn:Hid (O=zs):=by show _=_;rw[HO.out,HE.out,if_pos rfl,hzb]
    obtain⟨q',cap',he,hat,hcap⟩:=HH.out.at
    injection he with e1 _ e2
    subst e1 e2
    have HAt:=xQ hat
    clear HR3 hbig hzb HO hat HZp
    go_wp2
    go_ret2
    rw[HOn.out,HE.out]
    exact⟨_,_,rfl,HAt.out,hcap,HBw.out⟩
end
end Go.Proofs.YtceomhodhmcknaaGreatDoor

import Derived.Test.YtlgfdgdlaahpfaaGreatDoorB07
set_option maxRecDepth 100000
set_option maxHeartbeats 2000000
namespace Go.Proofs.YtlgfdgdlaahpfaaGreatDoor
section
open Go.RowKit
attribute [local go_sem] ai
end
section
open Go.RowKit
attribute [local go_sem] ai
theorem fM(s t:List Col)(p q:OA)(c d:Nat)(w:World)(hs:s.length*120<=140737488351232)(hx:bg w p s)(hy:bg w q t):
  Calls Tryz.prog 27 #[.agg #[.slice p s.length c],.agg #[.slice q t.length d]] w fun e w'=>e=.returned (.bool (Sch.same s t))∧Below w.1.size w w':=by
 obtain⟨W0,hW0⟩:∃W0,W0=(w.alloc (.cells #[.slice p s.length c] 30)).alloc (.cells #[.slice q t.length d] 30):=⟨_,rfl⟩
 have HB0:Hid (Below w.1.size w W0):=by rw[hW0];exact vY.alloc (by simp) _
 have HY0:Hid (W0.cell? ⟨w.1.size,0,none⟩=some (.slice p s.length c)∧W0.cell? ⟨w.1.size+1,0,none⟩=some (.slice q t.length d)):=by rw[hW0];exact⟨by simp,by simp⟩
 have HW0:=vQ hW0
 have HX:=vQ hx
 have HY:=vQ hy
 clear hW0 hx hy
 by_cases h5:¬s.length=t.length
 ·have g5:((s.length:Int) != (t.length:Int))=true:=ca (by omega)
  have HE:=vQ (gS s t h5)
  clear h5
  go_enter Tryz.func27,Tryz.ntmps27
  go_wp2
  rw[<-HW0.out]
  go_ret
  exact⟨by rw[HE.out];rfl,HB0.out⟩
 replace h5:s.length=t.length:=Classical.not_not.1 h5
 have g5:((s.length:Int) != (t.length:Int))=false:=cq (by omega)
 have H5:=vQ h5
 clear h5
 go_enter Tryz.func27,Tryz.ntmps27
 go_wp2_with fail
 rw[<-HW0.out]
 clear HW0
 go_loopw [5] (fun v5 wr=>∃j:Nat,j<=s.length∧v5=.int .i64 j∧Hid (Below W0.1.size W0 wr∧∀m (h1:m<s.length) (h2:m<t.length),m<j->Sch.colSame s[m] t[m]=true)) (fun v5 _=>s.length-(intOf v5).toNat)
 case atStart=>exact⟨0,by omega,rfl,vZ,fun m _ _ h=>by omega⟩
 case round=>
  obtain⟨j,hj,rfl,HL⟩:=hrel
  have hbw:Below w.1.size w wr:=HB0.out.trans (HL.out.1.mono HB0.out.size)
  have y1:wr.cell? ⟨w.1.size,0,none⟩=some (.slice p s.length c):=ab HL.out.1 HY0.out.1
  have y2:wr.cell? ⟨w.1.size+1,0,none⟩=some (.slice q t.length d):=ab HL.out.1 HY0.out.2
  by_cases hlt:j<s.length
  ·have hlt2:j<t.length:=by have:=H5.out;omega
   have hj1:(j:Int)<(s.length:Int):=by omega
   have hj2:(j:Int)<(t.length:Int):=by omega
   obtain⟨bx,ox,kx,xp,xn,xc,uk,ui,ub,ut,up,un,uc,rfl,hbx,h9x,htx,hdx⟩:=HX.out.at j hlt
   obtain⟨by',oy,ky,yp,yn,yc,vk,vi,vb,vt,vp,vn,vc,rfl,hby,h9y,hty,hdy⟩:=HY.out.at j hlt2
   have hAs:=h9x.on hbw
   have hBs:=h9y.on hbw
   have HTs:Hid (∀w',Below w.1.size w w'->Calls Tryz.prog 59 #[.agg #[.int .i64 kx,.slice xp xn xc],.agg #[.int .i64 ky,.slice yp yn yc]] w' fun e w''=>e=.returned (.bool (Ty.same s[j].ty t[j].ty))∧Below w'.1.size w' w''):=fun w' hb=>jA _ _ w' _ _ (htx.on hb) (hty.on hb)
   have HXs:Hid (∀w',Below w.1.size w w'->Calls Tryz.prog 60 #[.agg #[.int .i64 uk,.int .i64 ui,.float .f64 ub,.string ut,.slice up un uc],.agg #[.int .i64 vk,.int .i64 vi,.float .f64 vb,.string vt,.slice vp vn vc]] w' fun e w''=>e=.returned (.bool (V.same s[j].dflt t[j].dflt))∧Below w'.1.size w' w''):=fun w' hb=>kA _ _ w' _ _ (hdx.on hb) (hdy.on hb)
   have HCw:Hid (Sch.colSame s[j] t[j]=(decide (s[j].name=t[j].name)&&(s[j].has==t[j].has)&&Ty.same s[j].ty t[j].ty&&V.same s[j].dflt t[j].dflt)):=rfl
   have HAll:=vQ HL.out.2
   have HBW:=vQ HL.out.1
   have HFalse:Hid (Sch.colSame s[j] t[j]=false->Sch.same s t=false):=fun h=>gT s t j hlt hlt2 h
   have HTrue:Hid (Sch.colSame s[j] t[j]=true->∀m (h1:m<s.length) (h2:m<t.length),m<j+1->Sch.colSame s[m] t[m]=true):=fun h m h1 h2 hm=>by
    by_cases hmj:m=j
    ·subst hmj;exact h
    ·exact HAll.out m h1 h2 (by omega)
   obtain⟨cw,hcw⟩:∃cw,cw=Sch.colSame s[j] t[j]:=⟨_,rfl⟩
   rw[<-hcw] at HCw HFalse HTrue
   obtain⟨rt,hrt⟩:∃rt,rt=Ty.same s[j].ty t[j].ty:=⟨_,rfl⟩
   rw[<-hrt] at HTs HCw
   obtain⟨rx,hrx⟩:∃rx,rx=V.same s[j].dflt t[j].dflt:=⟨_,rfl⟩
   rw[<-hrx] at HXs HCw
   clear hcw hrt hrx h9x h9y htx hty hdx hdy HL
   generalize s[j].name=nx at *
   generalize t[j].name=ny at *
   generalize s[j].has=hx at *
   generalize t[j].has=hy at *
   obtain⟨a0,a1,a2,a3,a4,a5,a6,a7,a8⟩:=hAs
   obtain⟨wa,hwa⟩:∃wa,wa=wr.alloc (.cells #[.string nx,.int .i64 kx,.slice xp xn xc,.bool hx,.int .i64 uk,.int .i64 ui,.float .f64 ub,.string ut,.slice up un uc] 89):=⟨_,rfl⟩
   have hba:Below wr.1.size wr wa:=by rw[hwa];exact vY
   have hsa:wa.1.size=wr.1.size+1:=by rw[hwa];simp
   obtain⟨b0,b1,b2,b3,b4,b5,b6,b7,b8⟩:=hBs.on hba
   have y2a:=ab hba y2
   obtain⟨wb,hwb⟩:∃wb,wb=wa.alloc (.cells #[.string ny,.int .i64 ky,.slice yp yn yc,.bool hy,.int .i64 vk,.int .i64 vi,.float .f64 vb,.string vt,.slice vp vn vc] 89):=⟨_,rfl⟩
   have hbb:Below wa.1.size wa wb:=by rw[hwb];exact vY
   have hbrb:Below wr.1.size wr wb:=hba.trans (hbb.mono (by omega))
   have HBwb:=vQ (hbw.trans (hbrb.mono hbw.size))
   have HBWb:=vQ (HBW.out.trans (hbrb.mono HBW.out.size))
   have H9x:Hid (At9 wb wr.1.size 0 nx kx xp xn xc hx uk ui ub ut up un uc):=At9.on (w:=wa) (by rw[hwa];exact⟨by simp,by simp,by simp,by simp,by simp,by simp,by simp,by simp,by simp⟩) hbb
   have H9y:Hid (At9 wb (wr.1.size+1) 0 ny ky yp yn yc hy vk vi vb vt vp vn vc):=by
    rw[<-hsa,hwb]
    exact⟨by simp,by simp,by simp,by simp,by simp,by simp,by simp,by simp,by simp⟩
   have HWa:=vQ hwa
   have HWb:=vQ hwb
   rw[hwa] at b0 b1 b2 b3 b4 b5 b6 b7 b8 y2a
   clear hwa hwb hba hbb hbrb hbw hBs HAll HBW
   go_wp2_with fail
   rw[<-HWa.out,<-HWb.out]
   clear HWa HWb a0 a1 a2 a3 a4 a5 a6 a7 a8 b0 b1 b2 b3 b4 b5 b6 b7 b8 y1 y2 y2a
   refine(HTs.out wb HBwb.out).mono ?_
   rintro e w2 ⟨rfl,hb2⟩
   have HB2:=vQ (HBwb.out.trans (hb2.mono HBwb.out.size))
   have HBW2:=vQ (HBWb.out.trans (hb2.mono HBWb.out.size))
   have H9x2:=vQ (H9x.out.on hb2)
   have H9y2:=vQ (H9y.out.on hb2)
   obtain⟨a0,a1,a2,a3,a4,a5,a6,a7,a8⟩:=H9x2.out
   obtain⟨b0,b1,b2,b3,b4,b5,b6,b7,b8⟩:=H9y2.out
   clear hb2 HTs H9x H9y HBwb HBWb
   go_wp2_with fail
   refine(HXs.out w2 HB2.out).mono ?_
   rintro e w3 ⟨rfl,hb3⟩
   have HB3:=vQ (HB2.out.trans (hb3.mono HB2.out.size))
   have HBW3:=vQ (HBW2.out.trans (hb3.mono HBW2.out.size))
   clear a0 a1 a2 a3 a4 a5 a6 a7 a8 b0 b1 b2 b3 b4 b5 b6 b7 b8
   obtain⟨a0,a1,a2,a3,a4,a5,a6,a7,a8⟩:=H9x2.out.on hb3
   obtain⟨b0,b1,b2,b3,b4,b5,b6,b7,b8⟩:=H9y2.out.on hb3
   clear hb3 H9x2 H9y2 HXs
   by_cases hnm:¬nx=ny
   ·have gn:(nx.toList==ny.toList)=false:=by rw[cF,decide_eq_false hnm]
    have HE:Hid (Sch.same s t=false):=HFalse.out (by rw[HCw.out,decide_eq_false hnm,Bool.false_and,Bool.false_and,Bool.false_and])
    clear hnm HCw HFalse HTrue
    go_wp2
    go_ret
    exact⟨by rw[HE.out];rfl,HB3.out⟩
   replace hnm:nx=ny:=Classical.not_not.1 hnm
   have gn:(nx.toList==ny.toList)=true:=by rw[cF,decide_eq_true hnm]
   have HCw2:Hid (cw=(hx==hy&&rt&&rx)):=by show _=_;rw[HCw.out,decide_eq_true hnm,Bool.true_and]
   clear hnm HCw
   by_cases hhb:¬hx=hy
   ·have HE:Hid (Sch.same s t=false):=HFalse.out (by rw[HCw2.out,beq_eq_false_iff_ne.2 hhb,Bool.false_and,Bool.false_and])
    clear HCw2 HFalse HTrue
    cases hx
    ·cases hy
     ·exact absurd rfl hhb
     ·clear hhb
      go_wp2
      go_ret
      exact⟨by rw[HE.out];rfl,HB3.out⟩
    ·cases hy
     ·clear hhb
      go_wp2
      go_ret
      exact⟨by rw[HE.out];rfl,HB3.out⟩
     ·exact absurd rfl hhb
   replace hhb:hx=hy:=Classical.not_not.1 hhb
   have HCw3:Hid (cw=(rt&&rx)):=by show _=_;rw[HCw2.out,hhb,beq_self_eq_true,Bool.true_and]
   clear HCw2
   subst hhb
   cases hx
   all_goals
    cases rt with
    |false=>
     have HE:Hid (Sch.same s t=false):=HFalse.out (by rw[HCw3.out,Bool.false_and])
     clear HCw3 HFalse HTrue
     go_wp2
     go_ret
     exact⟨by rw[HE.out];rfl,HB3.out⟩
    |true=>
     have HCw4:Hid (cw=rx):=by show _=_;rw[HCw3.out,Bool.true_and]
     clear HCw3
     cases rx with
     |false=>
      have HE:Hid (Sch.same s t=false):=HFalse.out HCw4.out
      clear HCw4 HFalse HTrue
      go_wp2
      go_ret
      exact⟨by rw[HE.out];rfl,HB3.out⟩
     |true=>
      have HN:Hid (Below W0.1.size W0 w3∧∀m (h1:m<s.length) (h2:m<t.length),m<j+1->Sch.colSame s[m] t[m]=true):=⟨HBW3.out,HTrue.out HCw4.out⟩
      clear HCw4 HFalse HTrue
      go_wp2
      go_roundw
      case rel=>exact⟨j+1,by omega,by go_num,HN⟩
      case measure=>simp[intOf];omega
  ·have HF0:Hid (Sch.same s t=true):=fL s t H5.out (fun m h1 h2=>HL.out.2 m h1 h2 (by omega))
   have HF:=vQ hbw
   have hjn:¬(j:Int)<(s.length:Int):=by omega
   clear HL hbw hlt
   go_wp2
   go_ret
   exact⟨by rw[HF0.out];rfl,HF.out⟩
end
end Go.Proofs.YtlgfdgdlaahpfaaGreatDoor

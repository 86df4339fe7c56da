import Derived.Test.YtceomhodhmcknaaGreatDoorA1
import Derived.Test.YtceomhodhmcknaaGreatDoorB18
set_option maxRecDepth 100000
set_option maxHeartbeats 4000000
namespace Go.Proofs.YtceomhodhmcknaaGreatDoor
variable{x:Nat}{i:Int}
section
open Go.RowKit
attribute [local go_sem] af
theorem jW(hF:Flo i x)(p q tp vp:OA)(cp cq tc vc:Nat)(w:World)(hx:bw w p (ay 2))(hy:aW w q cq (bV i)):
    Calls Tryz.prog 148 #[.agg #[.slice p 1 cp],.agg #[.string ⟨#[97]⟩,.int .i64 3,.slice tp 0 tc,.bool false,.int .i64 0,.int .i64 0,.float .f64 0,.string ⟨#[]⟩,.slice vp 0 vc],.agg #[.slice q 1 cq]] w fun e w'=>e=.returned (.tuple #[.agg #[.int .i64 3,.int .i64 0,.float .f64 x,.string ⟨#[]⟩,.slice none 0 0],.int .i64 0])∧Below w.1.size w w':=by
  obtain⟨W0,hW0⟩:∃W0,W0=(((w.alloc (.cells #[.slice p 1 cp] 53)).alloc (.cells #[.string ⟨#[97]⟩,.int .i64 3,.slice tp 0 tc,.bool false,.int .i64 0,.int .i64 0,.float .f64 0,.string ⟨#[]⟩,.slice vp 0 vc] 90)).alloc (.cells #[.slice q 1 cq] 35)).alloc (.cells #[.int .i64 0,.int .i64 0,.float .f64 0,.string ⟨#[]⟩,.slice none 0 0] 47):=⟨_,rfl⟩
  obtain⟨l0,l1,l2,l3,lb,ls⟩:=al4 w (.cells #[.slice p 1 cp] 53) (.cells #[.string ⟨#[97]⟩,.int .i64 3,.slice tp 0 tc,.bool false,.int .i64 0,.int .i64 0,.float .f64 0,.string ⟨#[]⟩,.slice vp 0 vc] 90) (.cells #[.slice q 1 cq] 35) (.cells #[.int .i64 0,.int .i64 0,.float .f64 0,.string ⟨#[]⟩,.slice none 0 0] 47)
  rw[<-hW0] at l0 l1 l2 l3 lb ls
  have HW0:=xQ hW0
  have HB0:=xQ lb
  have HCl:Hid (∀w',Below W0.1.size W0 w'->w'.cell? ⟨w.1.size,0,none⟩=some (.slice p 1 cp)∧(w'.cell? ⟨w.1.size+1,0,none⟩=some (.string ⟨#[97]⟩)∧w'.cell? ⟨w.1.size+1,1,none⟩=some (.int .i64 3)∧w'.cell? ⟨w.1.size+1,2,none⟩=some (.slice tp 0 tc))∧w'.cell? ⟨w.1.size+1+1,0,none⟩=some (.slice q 1 cq)):=fun w' h=>⟨aA l0 h 0,⟨aA l1 h 0,aA l1 h 1,aA l1 h 2⟩,aA l2 h 0⟩
  have HT6:Hid (∀w',Below W0.1.size W0 w'->w'.1[w.1.size+1+1+1]?=some (.cells #[.int .i64 0,.int .i64 0,.float .f64 0,.string ⟨#[]⟩,.slice none 0 0] 47 (0,0))):=fun w' h=>(h.block _ (ao l3)).trans l3
  have HFi:Hid (Calls Tryz.prog 48 #[.agg #[.slice p 1 cp],.string ⟨#[97]⟩] W0 fun e w'=>e=.returned (.tuple #[.int .i64 0,.bool true])∧Below W0.1.size W0 w'):=r7 (ay 2) ⟨#[97]⟩ p cp W0 (by show 1*120<=_;decide) (hx.on lb)
  have HX:=xQ hx
  have HY:=xQ hy
  have HFl:=xQ hF
  clear hW0 l0 l1 l2 l3 lb ls hx hy hF
  go_enter Tryz.func148,Tryz.ntmps148
  go_wp2_with fail
  rw[<-HW0.out]
  clear HW0
  refine HFi.out.mono ?_
  rintro e w1 ⟨rfl,hb1⟩
  have HB1:=xQ hb1
  have HB1w:=xQ (HB0.out.trans (hb1.mono HB0.out.size))
  obtain⟨c0,⟨c1,c2,c3⟩,c9⟩:=HCl.out w1 hb1
  obtain⟨bx,ox,tp',tc',vp',vc',rfl,_,-,a1,a2,-⟩:=(HX.out.on HB1w.out).one16
  obtain⟨by',oy,qy,cy,rfl,_,-,b0,b1,b2,b3,b4⟩:=(HY.out.on HB1w.out).val16
  have d6:=HT6.out w1 hb1
  have HC:Hid (∀w',Calls Tryz.prog 168 #[.agg #[.int .i64 2,.slice tp' 0 tc'],.agg #[.int .i64 3,.slice tp 0 tc],.agg #[.int .i64 2,.int .i64 i,.float .f64 0,.string ⟨#[]⟩,.slice qy 0 cy]] w' fun e w''=>e=.returned (.tuple #[.agg #[.int .i64 3,.int .i64 0,.float .f64 x,.string ⟨#[]⟩,.slice none 0 0],.int .i64 0])∧Below w'.1.size w' w''):=fun w'=>uO HFl.out 0 ⟨#[]⟩ qy tp' tp 0 cy tc' tc w'
  clear hb1 HFi d6
  go_wp2_with fail
  go_region_law (first
    | (refine bK (.tmp 27) (.tmp 29) (.tmp 34) 88 88 47 (by rfl) (by rfl) (by rfl) (by rfl) (by rfl) Tryz.func168 (by kernel_rfl) (by rfl) (HC.out _) ?_
       rintro e w2 ⟨he,hb2⟩
       refine⟨_,he,?_⟩
       have hb5:Below w1.1.size w1 w2:=⟨hb2.os,hb2.tape,hb2.output,hb2.size,hb2.block⟩
       have d6:=HT6.out w2 (HB1.out.trans (hb5.mono HB1.out.size))
       obtain⟨e0,e1,e2,e3,e4⟩:=cQ5 d6
       have ef:=ac d6
       have HD6:=xQ d6
       have HB2:=xQ (HB1w.out.trans (hb5.mono HB1w.out.size))
       clear he hb2 hb5 d6)
    |fail)
  all_goals
    go_wp2
    refine bodyPost_ret (aB rfl _ _ (w.1.size+1+1+1) _ _ _ _ rfl (al (al (al (al (al HD6.out 0 _) 1 _) 2 _) 3 _) 4 _) Tryz.underlying47 rfl (by kernel_rfl)) rfl ?_
    exact⟨rfl,((((HB2.out.setCell (p:=⟨w.1.size+1+1+1,0,none⟩) (by simp;omega) _).setCell (p:=⟨w.1.size+1+1+1,1,none⟩) (by simp;omega) _).setCell (p:=⟨w.1.size+1+1+1,2,none⟩) (by simp;omega) _).setCell (p:=⟨w.1.size+1+1+1,3,none⟩) (by simp;omega) _).setCell (p:=⟨w.1.size+1+1+1,4,none⟩) (by simp;omega) _⟩
end
section
open Go.RowKit
attribute [local go_sem] af
def P16(x:Nat)(u:List Value)(_:World):Prop:=u=[.int .i64 3,.int .i64 0,.float .f64 x,.string ⟨#[]⟩,.slice none 0 0]
theorem tw:(Tryz.prog.info? 47).map (fun i=>(i.zero,i.size,i.bytes))=some (some (.agg #[.int .i64 0,.int .i64 0,.float .f64 0,.string ⟨#[]⟩,.slice none 0 0]),5,64):=by kernel_rfl
theorem te{w:World}{g c:Nat}(hx:x<18446744073709551616)(hc:1<=c)(hg:g<w.1.size)(h0:w.cell? ⟨g,0,none⟩=some (.int .i64 3))(h1:w.cell? ⟨g,1,none⟩=some (.int .i64 0))(h2:w.cell? ⟨g,2,none⟩=some (.float .f64 x))(h3:w.cell? ⟨g,3,none⟩=some (.string ⟨#[]⟩))(h4:w.cell? ⟨g,4,none⟩=some (.slice none 0 0)):aW w (some ⟨g,0,none⟩) c [F16 x]:=by
 refine⟨.mk (xs:=[F16 x]) (fun _=>cells5 3 0 x ⟨#[]⟩ none 0 0) (by show 1*64<=_;decide) hc (fun _=>⟨g,0,rfl,hg,fun j hj m hm=>?_⟩) (fun j hj=>?_),fun v hv=>?_⟩
 ·have:j=0:=by have:j<1:=hj;omega
  subst this
  have hm2:m<5:=hm
  match m,hm2 with
  |0,_=>exact h0
  |1,_=>exact h1
  |2,_=>exact h2
  |3,_=>exact h3
  |4,_=>exact h4
 ·have:j=0:=by have:j<1:=hj;omega
  subst this
  exact .mk (xs:=[]) (fun _=>#[]) (by simp) (by simp) (fun hc=>absurd rfl hc) (fun j hj=>by simp at hj)
 ·rw[List.mem_singleton.1 hv]
  exact V.wf_mk.2 ⟨by omega,by omega,by omega,Nat.zero_le _,fun x hx=>by cases hx⟩
theorem uM(hF:Flo i x)(hxb:x<18446744073709551616)(p q v:OA)(cp cq cv:Nat)(w:World)(hx:bw w p (ay 2))(hy:bw w q (ay 3))(hv:aW w v cv (bV i)):
    Calls Tryz.prog 110 #[.agg #[.slice p 1 cp],.agg #[.slice q 1 cq],.agg #[.slice v 1 cv]] w fun e w'=>∃q' d',e=.returned (.tuple #[.agg #[.slice q' 1 d'],.int .i64 0])∧Below w.1.size w w'∧∀F:Nat->Prop,(∀k,F k->k<w.1.size)->bI F w' (fun W=>aW W q' d' [F16 x]):=by
  obtain⟨W0,hW0⟩:∃W0,W0=(((w.alloc (.cells #[.slice p 1 cp] 53)).alloc (.cells #[.slice q 1 cq] 53)).alloc (.cells #[.slice v 1 cv] 35)).alloc (.cells #[.slice none 0 0] 35):=⟨_,rfl⟩
  obtain⟨l0,l1,l2,l3,lb,ls⟩:=al4 w (.cells #[.slice p 1 cp] 53) (.cells #[.slice q 1 cq] 53) (.cells #[.slice v 1 cv] 35) (.cells #[.slice none 0 0] 35)
  rw[<-hW0] at l0 l1 l2 l3 lb ls
  have HW0:=xQ hW0
  have HB0:=xQ lb
  have HCl:Hid (∀w',Below W0.1.size W0 w'->w'.cell? ⟨w.1.size,0,none⟩=some (.slice p 1 cp)∧w'.cell? ⟨w.1.size+1,0,none⟩=some (.slice q 1 cq)∧w'.cell? ⟨w.1.size+1+1,0,none⟩=some (.slice v 1 cv)):=fun w' h=>⟨aA l0 h 0,aA l1 h 0,aA l2 h 0⟩
  have HT6:Hid (∀w',Below W0.1.size W0 w'->w'.1[w.1.size+1+1+1]?=some (.cells #[.slice none 0 0] 35 (0,0))):=fun w' h=>(h.block _ (ao l3)).trans l3
  have HX:=xQ hx
  have HY:=xQ hy
  have HV:=xQ hv
  have HFl:=xQ hF
  have HZ:=xQ ls
  obtain⟨c0,c1,c2⟩:=HCl.out W0 xZ
  clear hW0 l0 l1 l2 l3 lb ls hx hy hv hF
  go_enter Tryz.func110,Tryz.ntmps110
  go_wp2_with fail
  rw[<-HW0.out]
  clear HW0
  refine(tQ p q cp cq W0 (HX.out.on HB0.out) (HY.out.on HB0.out)).mono ?_
  rintro e w1 ⟨rfl,hb1⟩
  have HB1:=xQ hb1
  have HB1w:=xQ (HB0.out.trans (hb1.mono HB0.out.size))
  clear c0 c1 c2
  obtain⟨c0,c1,c2⟩:=HCl.out w1 hb1
  clear hb1
  go_wp2_with fail
  refine(nO i p v cp cv w1 (HX.out.on HB1w.out) (HV.out.on HB1w.out)).mono ?_
  rintro e w2 ⟨rfl,hb2⟩
  have HB2:=xQ (HB1.out.trans (hb2.mono HB1.out.size))
  have HB2w:=xQ (HB1w.out.trans (hb2.mono HB1w.out.size))
  clear hb2 c0 c1 c2
  obtain⟨c0,c1,c2⟩:=HCl.out w2 HB2.out
  go_wp2_with fail
  go_loopw [10,32] (fun v10 v32 wr=>∃(j:Nat) (zs:List Nat),j<=1∧v32=.int .i64 j∧zs=List.replicate j x∧Hid (Below w2.1.size w2 wr∧Lot 47 5 P16 wr w2.1.size v10 zs)) (fun _ v32 _=>1-(intOf v32).toNat)
  case atStart=>exact⟨0,[],by omega,rfl,rfl,xZ,kd _ _⟩
  case round=>
    obtain⟨j,zs,hj,rfl,rfl,HG⟩:=hrel
    have HK2:=xQ HG.out.1
    have HK:Hid (Below W0.1.size W0 wr):=HB2.out.trans (HK2.out.mono HB2.out.size)
    have HBw:Hid (Below w.1.size w wr):=HB2w.out.trans (HK2.out.mono HB2w.out.size)
    by_cases hlt:j<1
    · obtain rfl:j=0:=by omega
      obtain⟨bx,ox,tp,tc,vp,vc,rfl,_,a0,a1,a2,a3,a4,a5,a6,a7,a8⟩:=(HY.out.on HBw.out).one16
      obtain⟨wr1,hwr1⟩:∃W,W=wr.alloc (.cells #[.string ⟨#[97]⟩,.int .i64 3,.slice tp 0 tc,.bool false,.int .i64 0,.int .i64 0,.float .f64 0,.string ⟨#[]⟩,.slice vp 0 vc] 90):=⟨_,rfl⟩
      have HBa:Hid (Below wr.1.size wr wr1):=by rw[hwr1];exact xY
      have HWr:=xQ hwr1
      have HC0:Hid (∀o,(wr.alloc o).cell? ⟨w.1.size,0,none⟩=some (.slice p 1 cp)∧(wr.alloc o).cell? ⟨w.1.size+1+1,0,none⟩=some (.slice v 1 cv)):=fun o=>by
        have h:=HCl.out (wr.alloc o) (HK.out.alloc HK.out.size o)
        exact⟨h.1,h.2.2⟩
      have m0:=fun o=>(HC0.out o).1
      have m1:=fun o=>(HC0.out o).2
      have HBw1:Hid (Below w.1.size w wr1):=HBw.out.trans (HBa.out.mono HBw.out.size)
      have HCx:=xQ (jW HFl.out p v tp vp cp cv tc vc wr1 (HX.out.on HBw1.out) (HV.out.on HBw1.out))
      clear hwr1 HC0
      go_wp2_with fail
      rw[<-HWr.out]
      clear HWr a0 a1 a2 a3 a4 a5 a6 a7 a8 m0 m1
      refine HCx.out.mono ?_
      rintro e w3 ⟨rfl,hb3⟩
      obtain⟨-,hBk,hB5,-⟩:=al2 w3 (.cells #[.int .i64 3,.int .i64 0,.float .f64 x,.string ⟨#[]⟩,.slice none 0 0] 47) (.cells #[.int .i64 3,.int .i64 0,.float .f64 x,.string ⟨#[]⟩,.slice none 0 0] 47)
      have hb4:Below wr.1.size wr w3:=HBa.out.trans (hb3.mono HBa.out.size)
      have hb5:=hb4.trans (hB5.mono hb4.size)
      have HBk:=xQ hBk
      have HB5:=xQ hb5
      have HLt:=xQ (HG.out.2.on hb5)
      have hs5:=hb5.size
      have hs2:=HK2.out.size
      clear hb3 hb4 hb5 hBk hB5 HCx
      go_wp2_with (first
        | (at_builtin
           refine mq (P:=P16) tw Tryz.underlying33 rfl (by decide) HLt.out x #[.int .i64 3,.int .i64 0,.float .f64 x,.string ⟨#[]⟩,.slice none 0 0] rfl (by intro a ha;simp at ha;rcases ha with rfl | rfl | rfl | rfl | rfl <;> rfl) (fun _ _=>rfl) HBk.out (by simp) (by simp) (by omega) rfl rfl rfl rfl rfl ?_
           intro g5 cap5 w6 hl6 ha6 _
           have HL6:Hid (Below w2.1.size w2 w6∧Lot 47 5 P16 w6 w2.1.size (.slice (some ⟨g5,0,none⟩) 1 cap5) [x]):=⟨(HK2.out.trans (HB5.out.mono HK2.out.size)).trans (ha6.below (by omega) (fun k hk hc=>by have:=(HLt.out.lt k hc).1;omega)),hl6⟩
           clear hl6 ha6)
        |fail)
      go_roundw
      case rel=>exact⟨1,[x],by omega,by go_num,rfl,HL6⟩
      case measure=>simp[intOf]
    · obtain rfl:j=1:=by omega
      clear hlt
      obtain⟨g5,cap5,u,rfl,hcap,hg1,hg2,-,hcl,hP⟩:=HG.out.2.cell 0 (by simp)
      have hu:u=[.int .i64 3,.int .i64 0,.float .f64 x,.string ⟨#[]⟩,.slice none 0 0]:=hP
      subst hu
      have hcap1:1<=cap5:=by simpa using hcap
      have d6:=HT6.out wr HK.out
      have e0:wr.cell? ⟨w.1.size+1+1+1,0,none⟩=some (.slice none 0 0):=aa d6 0
      have ef:=ac d6
      have HD6:=xQ d6
      have hz:=HZ.out
      have hz2:=HB2.out.size
      have HF:Hid (Below w.1.size w (wr.setCell ⟨w.1.size+1+1+1,0,none⟩ (.slice (some ⟨g5,0,none⟩) 1 cap5))∧∀F:Nat->Prop,(∀k,F k->k<w.1.size)->bI F (wr.setCell ⟨w.1.size+1+1+1,0,none⟩ (.slice (some ⟨g5,0,none⟩) 1 cap5)) (fun W=>aW W (some ⟨g5,0,none⟩) cap5 [F16 x])):=by
        refine⟨HBw.out.setCell (p:=⟨w.1.size+1+1+1,0,none⟩) (by simp;omega) _,fun F hF w' ha=>?_⟩
        have h1:=(ai wr (w.1.size+1+1+1) 0 (.slice (some ⟨g5,0,none⟩) 1 cap5))
        have hc:∀m (y:Value),wr.cell? ⟨g5,m,none⟩=some y->w'.cell? ⟨g5,m,none⟩=some y:=fun m y hy=>(ha.cell (p:=⟨g5,m,none⟩) (Nat.lt_of_lt_of_le hg2 h1.size) (fun hf=>by have:=hF _ hf;simp only at this;omega)).trans ((h1.cell (p:=⟨g5,m,none⟩) hg2 (by show ¬g5=_;omega)).trans hy)
        exact te hxb hcap1 (Nat.lt_of_lt_of_le hg2 (Nat.le_trans h1.size ha.size)) (hc 0 _ (hcl 0 (by omega))) (hc 1 _ (hcl 1 (by omega))) (hc 2 _ (hcl 2 (by omega))) (hc 3 _ (hcl 3 (by omega))) (hc 4 _ (hcl 4 (by omega)))
      clear d6 hP hcl hcap
      go_wp2
      refine bodyPost_ret (aB rfl _ _ (w.1.size+1+1+1) _ _ _ _ rfl (al HD6.out 0 _) Tryz.underlying35 rfl (by kernel_rfl)) rfl ?_
      exact⟨_,_,rfl,HF.out.1,HF.out.2⟩
end
end Go.Proofs.YtceomhodhmcknaaGreatDoor

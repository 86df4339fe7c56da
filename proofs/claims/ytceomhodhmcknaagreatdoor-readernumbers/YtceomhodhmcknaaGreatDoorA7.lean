import Derived.Test.YtceomhodhmcknaaGreatDoorA2
import Derived.Test.YtceomhodhmcknaaGreatDoorA3
import Derived.Test.YtceomhodhmcknaaGreatDoorA6
set_option maxRecDepth 100000
set_option maxHeartbeats 2000000
namespace Go.Proofs.YtceomhodhmcknaaGreatDoor
section
open Go.RowKit
attribute [local go_sem] af
def uH:List V->List V
 | [.mk _ i _ _ _]=>if i=1 then [F16 4607182418800017408] else [F16 13835058055282163712]
 |_=>[]
theorem qK{y:List V}(h:y∈cr):∃i x,y=bV i∧uH y=[F16 x]∧Flo i x∧x<18446744073709551616:=by
 unfold cr at h
 rcases List.mem_cons.1 h with rfl | h
 ·exact⟨1,_,rfl,rfl,wX,by decide⟩
 ·rw[List.mem_singleton.1 h]
  exact⟨-2,_,rfl,rfl,vz,by decide⟩
theorem uN{w0:World}{g r a M c:Nat}{uq:OA}(hU:bI (gS g r a M) w0 (fun W=>bw W uq (ay 3))):gu uH w0 g r a M (.slice uq 1 c) bh:=by
 intro W p lv er j n X f ys y sp q sc d hA hblk hgo hat hk hu hy hS hr
 obtain⟨rfl,hwk,-,-⟩:=rq hgo hat hk
 rw[hwk,show bg.number=0 from rfl,qT] at hS hu ⊢
 rw[show bg.block=[0,2,3] from rfl,show bg.rows=2 from rfl,ig] at hu
 injection hu with hu
 rw[<-hu] at hy
 obtain⟨i,x,rfl,htr,hF,hxb⟩:=qK hy
 rw[htr,show(ay 2).length=1 from rfl,show(bV i).length=1 from rfl,show([F16 x]:List V).length=1 from rfl]
 obtain⟨l0,l1,l2,lb,ls⟩:=al3 W (.cells #[.slice sp 1 sc] 53) (.cells #[.slice q 1 d] 35) (.cells #[.slice none 0 0] 35)
 obtain⟨W0,hW0⟩:∃W0,W0=((W.alloc (.cells #[.slice sp 1 sc] 53)).alloc (.cells #[.slice q 1 d] 35)).alloc (.cells #[.slice none 0 0] 35):=⟨_,rfl⟩
 have c3:(((W.alloc (.cells #[.slice sp 1 sc] 53)).alloc (.cells #[.slice q 1 d] 35)).alloc (.cells #[.slice none 0 0] 35)).cell? ⟨r,3,none⟩=some (.slice uq 1 c):=aA hblk lb 3
 rw[<-hW0] at l0 l1 l2 lb ls
 have d0:W0.cell? ⟨W.1.size,0,none⟩=some (.slice sp 1 sc):=aa l0 0
 have d1:W0.cell? ⟨W.1.size+1,0,none⟩=some (.slice q 1 d):=aa l1 0
 have hrlt:=ao hblk
 have HRd:=xQ (fun W' (hb:Below W0.1.size W0 W')=>uM hF hxb sp uq q sc c d W' ((hS.cols.on lb).on hb) (((hU W hA).on lb).on hb) ((hr.on lb).on hb))
 have HB0:=xQ lb
 have HL2:=xQ l2
 have HW0:=xQ hW0
 have HZ:=xQ ls
 have d3:=c3
 rw[<-hW0] at d3
 clear hA hblk hgo hat hk hu hy hS hr hwk htr hF hxb l0 l1 l2 lb ls hW0 hU
 go_enter Tryz.func85,Tryz.ntmps85
 go_wp2_with fail
 rw[<-HW0.out]
 clear HW0 c3
 go_region_held3 (fun w'=>w'.cell? ⟨W.1.size,0,none⟩=some (.slice sp 1 sc)∧w'.cell? ⟨r,3,none⟩=some (.slice uq 1 c)∧w'.cell? ⟨W.1.size+1,0,none⟩=some (.slice q 1 d)) (first | go_keep | exact⟨y0,y1,y2⟩) (first
  | (go_at_call 110;refine(Calls.mono (HRd.out _ (by first | exact xZ.drew | exact xZ)) ?_);rintro e w2 ⟨q',d',rfl,hb2,hst⟩;have hb5:Below W0.1.size W0 w2:=⟨hb2.os,hb2.tape,hb2.output,hb2.size,hb2.block⟩;have z0:=ae hb5 d0;have z1:=ae hb5 d3;have z2:=ae hb5 d1;have hl2:=(hb5.block _ (ao HL2.out)).trans HL2.out;have ha:=ai w2 (W.1.size+1+1) 0 (.slice q' 1 d');have y0:=(ha.cell (p:=⟨W.1.size,0,none⟩) (World.block_lt_of_cell? _ _ z0) (by show ¬W.1.size=_;omega)).trans z0;have y1:=(ha.cell (p:=⟨r,3,none⟩) (World.block_lt_of_cell? _ _ z1) (by show ¬r=_;omega)).trans z1;have y2:=(ha.cell (p:=⟨W.1.size+1,0,none⟩) (World.block_lt_of_cell? _ _ z2) (by show ¬W.1.size+1=_;omega)).trans z2;have x0:w2.cell? ⟨W.1.size+1+1,0,none⟩=some (.slice none 0 0):=aa hl2 0;have xf:=ac hl2;have HL3:=xQ hl2;have HB2:=xQ hb5;have HSt:Hid (∀F:Nat->Prop,(∀k,F k->k<W0.1.size)->bI F w2 (fun W=>aW W q' d' [F16 x])):=hst;clear hb2 hb5 hst hl2 ha))
 go_wp2
 refine bodyPost_ret (aB rfl _ _ (W.1.size+1+1) _ _ _ _ rfl (al HL3.out 0 _) Tryz.underlying35 rfl (by kernel_rfl)) rfl ?_
 have hz:=HZ.out
 have ha:=ai w2 (W.1.size+1+1) 0 (.slice q' 1 d')
 refine⟨q',d',rfl,(HB0.out.trans (HB2.out.mono HB0.out.size)).setCell (p:=⟨W.1.size+1+1,0,none⟩) (by simp;omega) _,fun F hF _=>?_⟩
 exact(HSt.out (fun k=>F k∨k=W.1.size+1+1) (fun k hk=>hk.elim (fun h=>by have:=hF k h;omega) (fun h=>by omega))).step (ha.mono fun k _ hk=>.inr hk) (fun k hk=>.inl (.inl hk))
end
section
open Go.RowKit
attribute [local go_sem] af
theorem pD(p:OA)(cp:Nat)(w:World)(hx:bw w p (ay 3)):Calls Tryz.prog 30 #[.agg #[.slice p 1 cp]] w fun e w'=>∃nb c,e=.returned (.slice (some ⟨nb,0,none⟩) 1 c)∧w'.cell? ⟨nb,0,none⟩=some (.string ⟨#[97]⟩)∧Below w.1.size w w':=by
  have HX:=xQ hx
  have HB0:Hid (Below w.1.size w (w.alloc (.cells #[.slice p 1 cp] 53))):=xY
  clear hx
  go_enter Tryz.func30,Tryz.ntmps30
  go_wp2_with fail
  go_loopw [3,9] (fun v3 v9 wr=>∃(j:Nat) (zs:List Unit),j<=1∧v9=.int .i64 j∧zs=List.replicate j ()∧Hid (Below w.1.size w wr∧Lot 9 1 vY wr w.1.size v3 zs)) (fun _ v9 _=>1-(intOf v9).toNat)
  case atStart=>exact⟨0,[],by omega,rfl,rfl,HB0.out,kd _ _⟩
  case round=>
    obtain⟨j,zs,hj,rfl,rfl,HG⟩:=hrel
    have HBw:=xQ HG.out.1
    by_cases hlt:j<1
    · obtain rfl:j=0:=by omega
      obtain⟨bx,ox,tp,tc,vp,vc,rfl,_,a0,a1,a2,a3,a4,a5,a6,a7,a8⟩:=(HX.out.on HBw.out).one16
      obtain⟨-,hBk,hB5,-⟩:=al2 wr (.cells #[.string ⟨#[97]⟩,.int .i64 3,.slice tp 0 tc,.bool false,.int .i64 0,.int .i64 0,.float .f64 0,.string ⟨#[]⟩,.slice vp 0 vc] 90) (.cells #[.string ⟨#[97]⟩] 9)
      have HBk:=xQ hBk
      have HB5:=xQ hB5
      have HLt:=xQ (HG.out.2.on hB5)
      have hs5:=hB5.size
      have hs2:=HBw.out.size
      clear hBk hB5
      go_wp2_with (first
        | (at_builtin
           refine mq (P:=vY) tA Tryz.underlying96 rfl (by decide) HLt.out () #[.string ⟨#[97]⟩] rfl (by intro a ha;simp at ha;rcases ha with rfl;rfl) (fun _ _=>rfl) HBk.out (by simp) (by simp) (by omega) rfl rfl rfl rfl rfl ?_
           intro g5 cap5 w6 hl6 ha6 _
           have HL6:Hid (Below w.1.size w w6∧Lot 9 1 vY w6 w.1.size (.slice (some ⟨g5,0,none⟩) 1 cap5) [()]):=⟨(HBw.out.trans (HB5.out.mono HBw.out.size)).trans (ha6.below (by omega) (fun k hk hc=>by have:=(HLt.out.lt k hc).1;omega)),hl6⟩
           clear hl6 ha6)
        |fail)
      go_roundw
      case rel=>exact⟨1,[()],by omega,by go_num,rfl,HL6⟩
      case measure=>simp[intOf]
    · obtain rfl:j=1:=by omega
      clear hlt
      obtain⟨g5,cap5,u,rfl,hcap,hg1,hg2,-,hcl,hP⟩:=HG.out.2.cell 0 (by simp)
      have hu:u=[.string ⟨#[97]⟩]:=hP
      subst hu
      have HC:Hid (wr.cell? ⟨g5,0,none⟩=some (.string ⟨#[97]⟩)):=by show _=_;simpa using hcl 0 (by omega)
      clear hcl hP hcap
      go_wp2
      go_ret
      exact⟨_,_,rfl,HC.out,HBw.out⟩
theorem asK(w:World)(g:Nat)(p:OA)(cp:Nat)(G:Nat->Prop)(hG:∀k,G k->k<w.1.size)(hx:bw w p (ay 3)):Calls Tryz.prog 16 #[.pointer (some ⟨g,0,none⟩),.agg #[.slice p 1 cp],.slice none 0 0] w fun e w'=>∃r a M uq uc,e=.returned (.tuple #[.pointer (some ⟨r,0,none⟩),.int .i64 0])∧oO w w' g r a M (.slice uq 1 uc) G∧bI (fun k=>k<w.1.size∨k=r∨k=a∨k=M) w' (fun W=>bw W uq (ay 3)):=by
 have HX:=xQ hx
 have HG:=xQ hG
 have hb0:Below w.1.size w (w.alloc (.cells #[.slice p 1 cp] 53)):=xY
 obtain⟨W0,hW0⟩:∃W0,W0=w.alloc (.cells #[.slice p 1 cp] 53):=⟨_,rfl⟩
 rw[<-hW0] at hb0
 have hk0:W0.1[w.1.size]?=some (.cells #[.slice p 1 cp] 53 (0,0)):=by rw[hW0];exact ap w _
 have HB0:=xQ hb0
 have HK0:=xQ hk0
 have HW0:=xQ hW0
 have c0:=am hk0
 rw[hW0] at c0
 clear hx hG hb0 hW0 hk0
 go_enter Tryz.func16,Tryz.ntmps16
 go_wp2_with fail
 rw[<-HW0.out]
 refine(pD p cp W0 (HX.out.on HB0.out)).mono ?_
 rintro e w1 ⟨nb,nc,rfl,hn,hb1⟩
 have HB1:=xQ hb1
 have HB1w:=xQ (HB0.out.trans (hb1.mono HB0.out.size))
 have HPj:=xQ (pA p cp nb 0 nc w1 (HX.out.on HB1w.out) hn)
 clear c0
 have c1:w1.cell? ⟨w.1.size,0,none⟩=some (.slice p 1 cp):=am ((hb1.block _ (ao HK0.out)).trans HK0.out)
 clear hb1 hn HW0
 go_wp2_with fail
 refine HPj.out.mono ?_
 rintro e w2 ⟨uq,uc,rfl,hb2,hst⟩
 have hb2w:=HB1w.out.trans (hb2.mono HB1w.out.size)
 have hba:Below w2.1.size w2 (w2.alloc (.cells #[.slice uq 1 uc] 53)):=xY
 obtain⟨W2,hW2⟩:∃W2,W2=w2.alloc (.cells #[.slice uq 1 uc] 53):=⟨_,rfl⟩
 rw[<-hW2] at hba
 have hk2:W2.1[w2.1.size]?=some (.cells #[.slice uq 1 uc] 53 (0,0)):=by rw[hW2];exact ap w2 _
 have hb2W:=hb2w.trans (hba.mono hb2w.size)
 have HRw:=xQ (uS W2 g G (fun k hk=>Nat.lt_of_lt_of_le (HG.out k hk) hb2W.size))
 have HSt:Hid (bI (fun k=>k<w.1.size) W2 (fun W=>bw W uq (ay 3))):=(hst (fun k=>k<w.1.size) (fun k hk=>Nat.lt_of_lt_of_le hk HB1w.out.size)).step (ag hba _) (fun k hk=>.inl hk)
 have HB2W:=xQ hb2W
 have HW2:=xQ hW2
 have HK2:=xQ hk2
 clear hb2 hst hb2w hba hW2 hb2W hk2 HPj c1
 go_wp2_with fail
 rw[<-HW2.out]
 refine HRw.out.mono ?_
 rintro e w3 ⟨r,a,M,rfl,hnew⟩
 have hk3:=(hnew.below.block _ (ao HK2.out)).trans HK2.out
 have x0:w3.cell? ⟨w2.1.size,0,none⟩=some (.slice uq 1 uc):=am hk3
 have x3:w3.cell? ⟨r,3,none⟩=some (.slice none 0 0):=aa hnew.blk 3
 have xf:=ac hnew.blk
 have ha:=ai w3 r 3 (.slice uq 1 uc)
 have hzr:=HB2W.out.size
 have hfar:=hnew.far
 have hbase:=hnew.walk.base
 have HF:Hid (oO w (w3.setCell ⟨r,3,none⟩ (.slice uq 1 uc)) g r a M (.slice uq 1 uc) G∧bI (fun k=>k<w.1.size∨k=r∨k=a∨k=M) (w3.setCell ⟨r,3,none⟩ (.slice uq 1 uc)) (fun W=>bw W uq (ay 3))):=by
  have hw:=hnew.walk.aside (G':=fun i=>G i∨i=r) (ha.mono fun i _ hi=>.inr hi) (fun k hk=>.inl hk) (fun k hk=>Nat.lt_of_lt_of_le (hnew.walk.low k hk) ha.size)
  refine⟨⟨al hnew.blk 3 _,⟨hw.lies,hw.map,hw.ents.low hzr,⟨by omega,by omega⟩,hw.good,hw.low,hw.off,hw.sch⟩,(HB2W.out.trans (hnew.below.mono HB2W.out.size)).trans (ha.below (by have:=hnew.below.size;omega) (fun k hk hc=>by omega)),⟨by omega,by have:=ha.size;omega,by have:=ha.size;omega⟩⟩,?_⟩
  refine HSt.out.step (F':=fun k=>k<w.1.size∨k=r∨k=a∨k=M) ((ag hnew.below _).trans ha (fun i hi he=>by omega)) (fun k hk=>?_)
  rcases hk with hk | hk | hk | hk
  ·exact .inl hk
  ·exact .inr (by omega)
  ·exact .inr (by omega)
  ·exact .inr (by omega)
 clear hnew hk3 ha HRw HW2
 go_wp2
 go_ret2
 exact⟨r,a,M,uq,uc,rfl,HF.out.1,HF.out.2⟩
end
end Go.Proofs.YtceomhodhmcknaaGreatDoor

import Derived.Test.YtceomhodhmcknaaGreatDoorA1
import Derived.Test.YtceomhodhmcknaaGreatDoorB18
set_option maxRecDepth 100000
set_option maxHeartbeats 4000000
namespace Go.Proofs.YtceomhodhmcknaaGreatDoor
section
open Go.RowKit
attribute [local go_sem] af
theorem tC(p:OA)(c:Nat)(n:ByteArray)(w:World):Calls Tryz.prog 77 #[.slice p 0 c,.string n] w fun e w'=>e=.returned (.int .i64 (-1))∧w'=w:=by
 go_enter Tryz.func77,Tryz.ntmps77
 go_wp2_with fail
 go_loopw [8] (fun v8 wr=>v8=.int .i64 0∧wr=w) (fun _ _=>0)
 case atStart=>exact⟨rfl,rfl⟩
 case round=>
  obtain⟨rfl,rfl⟩:=hrel
  go_wp2
  go_ret
  exact⟨rfl,rfl⟩
theorem nN(p:OA)(c:Nat)(n:ByteArray)(w:World):Calls Tryz.prog 47 #[.slice p 0 c,.string n] w fun e w'=>e=.returned (.bool false)∧w'=w:=by
 go_enter Tryz.func47,Tryz.ntmps47
 go_wp2_with (go_at_call 77;refine(tC _ _ _ _).mono ?_;rintro e w' ⟨rfl,rfl⟩)
 go_ret
 exact⟨rfl,rfl⟩
theorem nM(k:Int)(p:OA)(c:Nat)(w:World):Calls Tryz.prog 78 #[.agg #[.int .i64 k,.slice p 0 c]] w fun e w'=>e=.returned (.agg #[.int .i64 k,.slice none 0 0])∧Below w.1.size w w':=by
 obtain⟨W0,hW0⟩:∃W0,W0=(w.alloc (.cells #[.int .i64 k,.slice p 0 c] 88)).alloc (.cells #[.int .i64 0,.slice none 0 0] 88):=⟨_,rfl⟩
 obtain⟨l0,l1,lb,ls⟩:=al2 w (.cells #[.int .i64 k,.slice p 0 c] 88) (.cells #[.int .i64 0,.slice none 0 0] 88)
 rw[<-hW0] at l0 l1 lb ls
 have x0:W0.cell? ⟨w.1.size,0,none⟩=some (.int .i64 k):=aa l0 0
 have y0:W0.cell? ⟨w.1.size+1,0,none⟩=some (.int .i64 0):=aa l1 0
 have y1:W0.cell? ⟨w.1.size+1,1,none⟩=some (.slice none 0 0):=aa l1 1
 have yf:=ac l1
 have HL:=xQ l1
 have HB:=xQ lb
 have HW0:=xQ hW0
 clear l0 l1 lb ls hW0
 go_enter Tryz.func78,Tryz.ntmps78
 go_wp2_with fail
 rw[<-HW0.out]
 clear HW0
 go_loopw [3,9] (fun v3 v9 wr=>v3=.slice none 0 0∧v9=.int .i64 0∧wr=W0) (fun _ _ _=>0)
 case atStart=>exact⟨rfl,rfl,rfl⟩
 case round=>
  obtain⟨rfl,rfl,hwr⟩:=hrel
  subst hwr
  go_wp2
  refine bodyPost_ret (results_cell_row rfl _ _ (w.1.size+1) _ _ _ _ rfl (al (al HL.out 0 _) 1 _) Tryz.underlying88 rfl (by kernel_rfl)) rfl ?_
  exact⟨rfl,(HB.out.setCell (p:=⟨w.1.size+1,0,none⟩) (by simp) _).setCell (p:=⟨w.1.size+1,1,none⟩) (by simp) _⟩
theorem w8(p:OA)(c:Nat)(w:World):Calls Tryz.prog 79 #[.agg #[.int .i64 0,.int .i64 0,.float .f64 0,.string ⟨#[]⟩,.slice p 0 c]] w fun e w'=>e=.returned (.agg #[.int .i64 0,.int .i64 0,.float .f64 0,.string ⟨#[]⟩,.slice none 0 0])∧Below w.1.size w w':=by
 obtain⟨W0,hW0⟩:∃W0,W0=(w.alloc (.cells #[.int .i64 0,.int .i64 0,.float .f64 0,.string ⟨#[]⟩,.slice p 0 c] 47)).alloc (.cells #[.int .i64 0,.int .i64 0,.float .f64 0,.string ⟨#[]⟩,.slice none 0 0] 47):=⟨_,rfl⟩
 obtain⟨l0,l1,lb,ls⟩:=al2 w (.cells #[.int .i64 0,.int .i64 0,.float .f64 0,.string ⟨#[]⟩,.slice p 0 c] 47) (.cells #[.int .i64 0,.int .i64 0,.float .f64 0,.string ⟨#[]⟩,.slice none 0 0] 47)
 rw[<-hW0] at l0 l1 lb ls
 have HF:Hid (∀w,Calls Tryz.prog 106 #[.float .f64 0] w fun e w'=>e=.returned (.float .f64 0)∧w'=w):=fun w=>by
  have:=ej 0 w
  rw[show aH 0=0 from Sch.fixB_zero] at this
  exact this
 have HL:=xQ (And.intro l0 l1)
 have HB:=xQ lb
 have HW0:=xQ hW0
 clear l0 l1 lb ls hW0
 go_enter Tryz.func79,Tryz.ntmps79
 go_wp2_with fail
 rw[<-HW0.out]
 clear HW0
 go_loopw [3,9] (fun v3 v9 wr=>v3=.slice none 0 0∧v9=.int .i64 0∧wr=W0) (fun _ _ _=>0)
 case atStart=>exact⟨rfl,rfl,rfl⟩
 case round=>
  obtain⟨rfl,rfl,hwr⟩:=hrel
  subst hwr
  obtain⟨x0,x1,x2,x3,x4⟩:=cQ5 HL.out.1
  have xf:=ac HL.out.1
  obtain⟨y0,y1,y2,y3,y4⟩:=cQ5 HL.out.2
  have yf:=ac HL.out.2
  go_wp2_with fail
  refine(HF.out _).mono ?_
  rintro e w' ⟨rfl,hw'⟩
  rw[hw']
  clear hw' w'
  go_wp2
  refine bodyPost_ret (results_cell_row rfl _ _ (w.1.size+1) _ _ _ _ rfl (al (al (al (al (al (aw (aw HL.out.2 ⟨w.1.size,2,none⟩ _ (by simp)) ⟨w.1.size,4,none⟩ _ (by simp)) 0 _) 1 _) 2 _) 3 _) 4 _) Tryz.underlying47 rfl (by kernel_rfl)) rfl ?_
  exact⟨rfl,((((((HB.out.setCell (p:=⟨w.1.size,2,none⟩) (by simp) _).setCell (p:=⟨w.1.size,4,none⟩) (by simp) _).setCell (p:=⟨w.1.size+1,0,none⟩) (by simp) _).setCell (p:=⟨w.1.size+1,1,none⟩) (by simp) _).setCell (p:=⟨w.1.size+1,2,none⟩) (by simp) _).setCell (p:=⟨w.1.size+1,3,none⟩) (by simp) _).setCell (p:=⟨w.1.size+1,4,none⟩) (by simp) _⟩
theorem gJ{a cur c:World}(h:Below a.1.size a cur)(h2:Below cur.1.size cur c):Below a.1.size a c:=h.trans (h2.mono h.size)
theorem ku(tp vp:OA)(tc vc:Nat)(w:World):Calls Tryz.prog 49 #[.agg #[.string ⟨#[97]⟩,.int .i64 3,.slice tp 0 tc,.bool false,.int .i64 0,.int .i64 0,.float .f64 0,.string ⟨#[]⟩,.slice vp 0 vc]] w fun e w'=>e=.returned (.agg #[.string ⟨#[97]⟩,.int .i64 3,.slice none 0 0,.bool false,.int .i64 0,.int .i64 0,.float .f64 0,.string ⟨#[]⟩,.slice none 0 0])∧Below w.1.size w w':=by
 obtain⟨W0,hW0⟩:∃W0,W0=(w.alloc (.cells #[.string ⟨#[97]⟩,.int .i64 3,.slice tp 0 tc,.bool false,.int .i64 0,.int .i64 0,.float .f64 0,.string ⟨#[]⟩,.slice vp 0 vc] 90)).alloc (.cells #[.string ⟨#[]⟩,.int .i64 0,.slice none 0 0,.bool false,.int .i64 0,.int .i64 0,.float .f64 0,.string ⟨#[]⟩,.slice none 0 0] 90):=⟨_,rfl⟩
 obtain⟨l0,l1,lb,ls⟩:=al2 w (.cells #[.string ⟨#[97]⟩,.int .i64 3,.slice tp 0 tc,.bool false,.int .i64 0,.int .i64 0,.float .f64 0,.string ⟨#[]⟩,.slice vp 0 vc] 90) (.cells #[.string ⟨#[]⟩,.int .i64 0,.slice none 0 0,.bool false,.int .i64 0,.int .i64 0,.float .f64 0,.string ⟨#[]⟩,.slice none 0 0] 90)
 rw[<-hW0] at l0 l1 lb ls
 have HCl:Hid (∀w',Below W0.1.size W0 w'->(w'.cell? ⟨w.1.size,0,none⟩=some (.string ⟨#[97]⟩)∧w'.cell? ⟨w.1.size,1,none⟩=some (.int .i64 3)∧w'.cell? ⟨w.1.size,2,none⟩=some (.slice tp 0 tc)∧w'.cell? ⟨w.1.size,3,none⟩=some (.bool false)∧w'.cell? ⟨w.1.size,4,none⟩=some (.int .i64 0)∧w'.cell? ⟨w.1.size,5,none⟩=some (.int .i64 0)∧w'.cell? ⟨w.1.size,6,none⟩=some (.float .f64 0)∧w'.cell? ⟨w.1.size,7,none⟩=some (.string ⟨#[]⟩)∧w'.cell? ⟨w.1.size,8,none⟩=some (.slice vp 0 vc))∧w'.1[w.1.size+1]?=some (.cells #[.string ⟨#[]⟩,.int .i64 0,.slice none 0 0,.bool false,.int .i64 0,.int .i64 0,.float .f64 0,.string ⟨#[]⟩,.slice none 0 0] 90 (0,0))):=fun w' h=>⟨⟨aA l0 h 0,aA l0 h 1,aA l0 h 2,aA l0 h 3,aA l0 h 4,aA l0 h 5,aA l0 h 6,aA l0 h 7,aA l0 h 8⟩,(h.block _ (ao l1)).trans l1⟩
 obtain⟨⟨x0,x1,x2,x3,x4,x5,x6,x7,x8⟩,-⟩:=HCl.out W0 xZ
 have HB:=xQ lb
 have HW0:=xQ hW0
 clear l0 l1 lb ls hW0
 go_enter Tryz.func49,Tryz.ntmps49
 go_wp2_with fail
 rw[<-HW0.out]
 clear HW0
 go_region_held3 (fun w'=>w'.cell? ⟨w.1.size,0,none⟩=some (.string ⟨#[97]⟩)∧w'.cell? ⟨w.1.size,1,none⟩=some (.int .i64 3)∧w'.cell? ⟨w.1.size,2,none⟩=some (.slice tp 0 tc)∧w'.cell? ⟨w.1.size,3,none⟩=some (.bool false)∧w'.cell? ⟨w.1.size,4,none⟩=some (.int .i64 0)∧w'.cell? ⟨w.1.size,5,none⟩=some (.int .i64 0)∧w'.cell? ⟨w.1.size,6,none⟩=some (.float .f64 0)∧w'.cell? ⟨w.1.size,7,none⟩=some (.string ⟨#[]⟩)∧w'.cell? ⟨w.1.size,8,none⟩=some (.slice vp 0 vc)) (go_keep) (first
  | (go_at_call 78;refine(nM _ _ _ _).mono ?_;rintro e wa ⟨rfl,hba⟩;have HA:=xQ (gJ (by first | exact xZ.drew | exact xZ) hba);obtain⟨⟨z0,z1,z2,z3,z4,z5,z6,z7,z8⟩,-⟩:=HCl.out wa HA.out;clear hba)
  | (go_at_call 79;refine(w8 _ _ _).mono ?_;rintro e wb ⟨rfl,hbb⟩;have HBb:=xQ (gJ (by first | exact HA.out | exact HA.out.drew) hbb);obtain⟨⟨y0,y1,y2,y3,y4,y5,y6,y7,y8⟩,hbk⟩:=HCl.out wb HBb.out;have HBk:=xQ hbk;obtain⟨u0,u1,u2,u3,u4,u5,u6,u7,u8⟩:=cQ9 hbk;have uf:=ac hbk;clear hbb hbk))
 all_goals (try go_wp2)
 all_goals
  refine bodyPost_ret (results_cell_row rfl _ _ (w.1.size+1) _ _ _ _ rfl (al (al (al (al (al (al (al (al (al HBk.out 0 _) 1 _) 2 _) 3 _) 4 _) 5 _) 6 _) 7 _) 8 _) Tryz.underlying90 rfl (by kernel_rfl)) rfl ?_
  have hb:=HB.out.trans (HBb.out.mono HB.out.size)
  exact⟨rfl,((((((((hb.setCell (p:=⟨w.1.size+1,0,none⟩) (by simp) _).setCell (p:=⟨w.1.size+1,1,none⟩) (by simp) _).setCell (p:=⟨w.1.size+1,2,none⟩) (by simp) _).setCell (p:=⟨w.1.size+1,3,none⟩) (by simp) _).setCell (p:=⟨w.1.size+1,4,none⟩) (by simp) _).setCell (p:=⟨w.1.size+1,5,none⟩) (by simp) _).setCell (p:=⟨w.1.size+1,6,none⟩) (by simp) _).setCell (p:=⟨w.1.size+1,7,none⟩) (by simp) _).setCell (p:=⟨w.1.size+1,8,none⟩) (by simp) _⟩
end
section
open Go.RowKit
attribute [local go_sem] af
def C16:AV:=#[.string ⟨#[97]⟩,.int .i64 3,.slice none 0 0,.bool false,.int .i64 0,.int .i64 0,.float .f64 0,.string ⟨#[]⟩,.slice none 0 0]
def vZ(_:Unit)(u:List Value)(_:World):Prop:=u=C16.toList
theorem tB:(Tryz.prog.info? 90).map (fun i=>(i.zero,i.size,i.bytes))=some (some (.agg #[.string ⟨#[]⟩,.int .i64 0,.slice none 0 0,.bool false,.int .i64 0,.int .i64 0,.float .f64 0,.string ⟨#[]⟩,.slice none 0 0]),9,120):=by kernel_rfl
def vY(_:Unit)(u:List Value)(_:World):Prop:=u=[.string ⟨#[97]⟩]
theorem tA:(Tryz.prog.info? 9).map (fun i=>(i.zero,i.size,i.bytes))=some (some (.string ⟨#[]⟩),1,16):=by kernel_rfl
theorem mK(bb o c:Nat)(w:World):(Instr.slice 96 (.slice (some ⟨bb,o,none⟩) 1 c) none (some (.int .i64 0)) none).run Tryz.prog w=.ok (.slice (some ⟨bb,o,none⟩) 0 c) w:=by
 have hs:(sizeOf (Tryz.prog.elem 96)).run Tryz.prog w=.ok 1 w:=by kernel_rfl
 rw[run_slice_h w 96 _ 1 c (by kernel_rfl) .i64 0 (by omega) (by omega),hs]
 by_cases hc:c=0
 ·simp[sliced,hc,Result.andThen]
 ·simp[sliced,hc,Result.andThen,Lib.add_plain]
theorem vP{w:World}{g:Nat}(hg:g<w.1.size)(h:∀m,m<9->w.cell? ⟨g,m,none⟩=C16[m]?):bw w (some ⟨g,0,none⟩) (ay 3):=by
 intro j hj
 have hj2:j<1:=hj
 obtain rfl:j=0:=by omega
 refine⟨aD ⟨#[97]⟩ 3 none 0 0 false 0 0 0 ⟨#[]⟩ none 0 0,⟨3,none,0,0,0,0,0,⟨#[]⟩,none,0,0,rfl,.mk (xs:=[]) (fun _=>#[]) (by simp) (by simp) (fun hc=>absurd rfl hc) (fun j hj=>by simp at hj),.mk (xs:=[]) (fun _=>#[]) (by simp) (by simp) (fun hc=>absurd rfl hc) (fun j hj=>by simp at hj)⟩,⟨g,0,⟨#[97]⟩,3,none,0,0,false,0,0,0,⟨#[]⟩,none,0,0,rfl,hg,rfl,?_⟩⟩
 exact⟨h 0 (by omega),h 1 (by omega),h 2 (by omega),h 3 (by omega),h 4 (by omega),h 5 (by omega),h 6 (by omega),h 7 (by omega),h 8 (by omega)⟩
theorem pA(p:OA)(cp nb no cq:Nat)(w:World)(hx:bw w p (ay 3))(hn:w.cell? ⟨nb,no,none⟩=some (.string ⟨#[97]⟩)):
    Calls Tryz.prog 31 #[.agg #[.slice p 1 cp],.slice (some ⟨nb,no,none⟩) 1 cq] w fun e w'=>∃q' d',e=.returned (.tuple #[.agg #[.slice q' 1 d'],.int .i64 0])∧Below w.1.size w w'∧∀F:Nat->Prop,(∀k,F k->k<w.1.size)->bI F w' (fun W=>bw W q' (ay 3)):=by
  obtain⟨W0,hW0⟩:∃W0,W0=(w.alloc (.cells #[.slice p 1 cp] 53)).alloc (.cells #[.slice none 0 0] 53):=⟨_,rfl⟩
  obtain⟨l0,l1,lb,ls⟩:=al2 w (.cells #[.slice p 1 cp] 53) (.cells #[.slice none 0 0] 53)
  rw[<-hW0] at l0 l1 lb ls
  have HW0:=xQ hW0
  have HB0:=xQ lb
  have HZ:=xQ ls
  have HCl:Hid (∀w',Below W0.1.size W0 w'->w'.cell? ⟨w.1.size,0,none⟩=some (.slice p 1 cp)):=fun w' h=>aA l0 h 0
  have HT6:Hid (∀w',Below W0.1.size W0 w'->w'.1[w.1.size+1]?=some (.cells #[.slice none 0 0] 53 (0,0))):=fun w' h=>(h.block _ (ao l1)).trans l1
  have HCk:Hid (Calls Tryz.prog 46 #[.agg #[.slice p 1 cp]] W0 fun e w''=>e=.returned (.int .i64 0)∧Below W0.1.size W0 w''):=by
    have:=g9 (ay 3) p cp W0 (by show 1*120<=_;decide) (hx.on lb) (eo (.inr rfl))
    rw[dq (.inr rfl)] at this
    exact this
  have HX:=xQ hx
  have HN:=xQ hn
  have c0:=HCl.out W0 xZ
  clear hW0 l0 l1 lb ls hx hn
  go_enter Tryz.func31,Tryz.ntmps31
  go_wp2_with fail
  rw[<-HW0.out]
  clear HW0
  refine HCk.out.mono ?_
  rintro e w1 ⟨rfl,hb1⟩
  have HB1:=xQ hb1
  have HB1w:=xQ (HB0.out.trans (hb1.mono HB0.out.size))
  clear c0
  have c0:=HCl.out w1 hb1
  clear hb1 HCk
  go_wp2_with fail
  go_loopw [7,24] (fun v7 v24 wr=>∃(j:Nat) (zs:List Unit),j<=1∧v24=.int .i64 j∧zs=List.replicate j ()∧Hid (Below w1.1.size w1 wr∧Lot 90 9 vZ wr w1.1.size v7 zs)) (fun _ v24 _=>1-(intOf v24).toNat)
  case atStart=>exact⟨0,[],by omega,rfl,rfl,xZ,kd _ _⟩
  case round=>
    obtain⟨j,zs,hj,rfl,rfl,HG⟩:=hrel
    have HK2:=xQ HG.out.1
    have HK:Hid (Below W0.1.size W0 wr):=HB1.out.trans (HK2.out.mono HB1.out.size)
    have HBw:Hid (Below w.1.size w wr):=HB1w.out.trans (HK2.out.mono HB1w.out.size)
    by_cases hlt:j<1
    · obtain rfl:j=0:=by omega
      have n0:wr.cell? ⟨nb,no,none⟩=some (.string ⟨#[97]⟩):=ae HBw.out HN.out
      have hsl:∀W,(Instr.slice 96 (.slice (some ⟨nb,no,none⟩) 1 cq) none (some (.int .i64 0)) none).run Tryz.prog W=.ok (.slice (some ⟨nb,no,none⟩) 0 cq) W:=fun W=>mK nb no cq W
      have HFd:Hid (Calls Tryz.prog 48 #[.agg #[.slice p 1 cp],.string ⟨#[97]⟩] wr fun e w'=>e=.returned (.tuple #[.int .i64 0,.bool true])∧Below wr.1.size wr w'):=r7 (ay 3) ⟨#[97]⟩ p cp wr (by show 1*120<=_;decide) (HX.out.on HBw.out)
      clear c0
      have c0:=HCl.out wr HK.out
      go_wp2_with fail
      refine(nN _ _ _ _).mono ?_
      rintro e w' ⟨rfl,hw'⟩
      rw[hw']
      clear hw' w'
      go_wp2_with fail
      refine HFd.out.mono ?_
      rintro e w3 ⟨rfl,hb3⟩
      have HB3:=xQ hb3
      have HB3w:=xQ (HBw.out.trans (hb3.mono HBw.out.size))
      clear c0 n0
      have c0:=HCl.out w3 (HK.out.trans (hb3.mono HK.out.size))
      obtain⟨bx,ox,tp,tc,vp,vc,rfl,_,a0,a1,a2,a3,a4,a5,a6,a7,a8⟩:=(HX.out.on HB3w.out).one16
      clear hb3 HFd hsl
      go_wp2_with fail
      refine(ku tp vp tc vc _).mono ?_
      rintro e w4 ⟨rfl,hb4⟩
      have hb5:Below wr.1.size wr w4:=HB3.out.trans (hb4.mono HB3.out.size)
      have hbk:=ap w4 (.cells C16 90)
      have hba:Below w4.1.size w4 (w4.alloc (.cells C16 90)):=xY
      have HBk:=xQ hbk
      have HB5:=xQ (hb5.trans (hba.mono hb5.size))
      have HLt:=xQ (HG.out.2.on (hb5.trans (hba.mono hb5.size)))
      have hs5:=HB5.out.size
      have hs2:=HK2.out.size
      unfold C16 at HBk HB5 HLt hs5
      clear hb4 hb5 hbk hba c0 a0 a1 a2 a3 a4 a5 a6 a7 a8
      go_wp2_with (first
        | (at_builtin
           refine mq (P:=vZ) tB Tryz.underlying51 rfl (by decide) HLt.out () #[.string ⟨#[97]⟩,.int .i64 3,.slice none 0 0,.bool false,.int .i64 0,.int .i64 0,.float .f64 0,.string ⟨#[]⟩,.slice none 0 0] rfl (by intro a ha;simp at ha;rcases ha with rfl | rfl | rfl | rfl | rfl | rfl | rfl | rfl | rfl <;> rfl) (fun _ _=>rfl) HBk.out (by simp) (by simp) (by omega) rfl rfl rfl rfl rfl ?_
           intro g5 cap5 w6 hl6 ha6 _
           have HL6:Hid (Below w1.1.size w1 w6∧Lot 90 9 vZ w6 w1.1.size (.slice (some ⟨g5,0,none⟩) 1 cap5) [()]):=⟨(HK2.out.trans (HB5.out.mono HK2.out.size)).trans (ha6.below (by omega) (fun k hk hc=>by have:=(HLt.out.lt k hc).1;omega)),hl6⟩
           clear hl6 ha6)
        |fail)
      go_roundw
      case rel=>exact⟨1,[()],by omega,by go_num,rfl,HL6⟩
      case measure=>simp[intOf]
    · obtain rfl:j=1:=by omega
      clear hlt
      obtain⟨g5,cap5,u,rfl,hcap,hg1,hg2,-,hcl,hP⟩:=HG.out.2.cell 0 (by simp)
      have hu:u=C16.toList:=hP
      subst hu
      have d6:=HT6.out wr HK.out
      have e0:wr.cell? ⟨w.1.size+1,0,none⟩=some (.slice none 0 0):=aa d6 0
      have ef:=ac d6
      have HD6:=xQ d6
      have hz:=HZ.out
      have hz2:=HB1.out.size
      have HF:Hid (Below w.1.size w (wr.setCell ⟨w.1.size+1,0,none⟩ (.slice (some ⟨g5,0,none⟩) 1 cap5))∧∀F:Nat->Prop,(∀k,F k->k<w.1.size)->bI F (wr.setCell ⟨w.1.size+1,0,none⟩ (.slice (some ⟨g5,0,none⟩) 1 cap5)) (fun W=>bw W (some ⟨g5,0,none⟩) (ay 3))):=by
        refine⟨HBw.out.setCell (p:=⟨w.1.size+1,0,none⟩) (by simp) _,fun F hF w' ha=>?_⟩
        have h1:=(ai wr (w.1.size+1) 0 (.slice (some ⟨g5,0,none⟩) 1 cap5))
        refine vP (Nat.lt_of_lt_of_le hg2 (Nat.le_trans h1.size ha.size)) (fun m hm=>?_)
        rw[ha.cell (p:=⟨g5,m,none⟩) (Nat.lt_of_lt_of_le hg2 h1.size) (fun hf=>by have:=hF _ hf;simp only at this;omega),h1.cell (p:=⟨g5,m,none⟩) hg2 (by show ¬g5=_;omega)]
        have:=hcl m hm
        simpa using this
      clear d6 hP hcl hcap
      go_wp2
      refine bodyPost_ret (aB rfl _ _ (w.1.size+1) _ _ _ _ rfl (al HD6.out 0 _) Tryz.underlying53 rfl (by kernel_rfl)) rfl ?_
      exact⟨_,_,rfl,HF.out.1,HF.out.2⟩
end
end Go.Proofs.YtceomhodhmcknaaGreatDoor

import Derived.Test.YtdgacombdcajmaaGreatDoorL17A
import Derived.Test.YtdgacombdcajmaaGreatDoorA10
import Derived.Test.YtdgacombdcajmaaGreatDoorB13
set_option maxRecDepth 100000
set_option maxHeartbeats 4000000
namespace Go.Proofs.YtdgacombdcajmaaGreatDoor
open Go.RowKit
attribute [local go_sem] af
def li:AV:=#[.string ⟨#[97]⟩,.int .i64 2,.slice none 0 0,.bool false,.int .i64 0,.int .i64 0,.float .f64 0,.string ⟨#[]⟩,.slice none 0 0]
theorem nY{W:World}{b:Nat}(h1:W.1[b]?=some (.cells li 74 (0,0))):bQ W (some ⟨b,0,none⟩) 1 aG:=by
 refine⟨by decide,by decide,?_,jq⟩
 have h3:=aa h1
 intro j hj
 have hj2:j<1:=hj
 obtain rfl:j=0:=by omega
 refine⟨aB ⟨#[97]⟩ 2 none 0 0 false 0 0 0 ⟨#[]⟩ none 0 0,⟨2,none,0,0,0,0,0,⟨#[]⟩,none,0,0,rfl,.mk (xs:=[]) (fun _=>#[]) (by simp) (by simp) (fun hc=>absurd rfl hc) (fun j hj=>by simp at hj),.mk (xs:=[]) (fun _=>#[]) (by simp) (by simp) (fun hc=>absurd rfl hc) (fun j hj=>by simp at hj)⟩,⟨b,0,⟨#[97]⟩,2,none,0,0,false,0,0,0,⟨#[]⟩,none,0,0,rfl,ao h1,rfl,?_⟩⟩
 exact⟨h3 0,h3 1,h3 2,h3 3,h3 4,h3 5,h3 6,h3 7,h3 8⟩
theorem sC(w:World):Calls Tryz.prog 8 #[.int .i64 2] w fun e w'=>∃p,e=.returned (.agg #[.slice p 1 1])∧bQ w' p 1 aG∧Below w.1.size w w':=by
 obtain⟨W,hW⟩:∃W,W=(w.alloc (.cells #[.slice (some ⟨w.1.size+1,0,none⟩) 1 1] 31)).alloc (.cells li 74):=⟨_,rfl⟩
 have h0:W.1[w.1.size]?=some (.cells #[.slice (some ⟨w.1.size+1,0,none⟩) 1 1] 31 (0,0)):=by rw[hW,aw _ _ (by simp)];exact an w _
 have h1:W.1[w.1.size+1]?=some (.cells li 74 (0,0)):=by
  rw[hW]
  have:=an (w.alloc (.cells #[.slice (some ⟨w.1.size+1,0,none⟩) 1 1] 31)) (.cells li 74)
  simpa using this
 have HB:Hid (Below w.1.size w W):=by rw[hW];exact yY.alloc (by simp) _
 have H1:=yQ (nY h1)
 have H0:=yQ h0
 have HW:Hid ((w.alloc (.cells #[.slice (some ⟨w.1.size+1,0,none⟩) 1 1] 31)).alloc (.cells #[.string ⟨#[97]⟩,.int .i64 2,.slice none 0 0,.bool false,.int .i64 0,.int .i64 0,.float .f64 0,.string ⟨#[]⟩,.slice none 0 0] 74)=W):=hW.symm
 clear h0 h1 hW
 go_enter Tryz.func8,Tryz.ntmps8
 go_wp2
 rw[HW.out]
 refine bodyPost_ret (results_cell_row rfl _ _ w.1.size _ _ _ _ rfl H0.out Tryz.underlying31 rfl (by kernel_rfl)) rfl ?_
 exact⟨_,rfl,H1.out,HB.out⟩
theorem nS{W:World}{b:Nat}{T:TypeId}(h:W.1[b]?=some (.cells #[.int .i64 2,.int .i64 5,.float .f64 0,.string ⟨#[]⟩,.slice none 0 0] T (0,0))):fA W (some ⟨b,0,none⟩) 1 bC:=by
 refine⟨.mk (xs:=bC) (fun _=>cells5 2 5 0 ⟨#[]⟩ none 0 0) (by decide) (by decide) (fun _=>⟨b,0,rfl,ao h,fun j hj m hm=>?_⟩) (fun j hj=>?_),mA⟩
 ·have:j=0:=by have:j<1:=hj;omega
  subst this
  rw[aa h]
  simp[cells5]
 ·have:j=0:=by have:j<1:=hj;omega
  subst this
  exact .mk (xs:=[]) (fun _=>#[]) (by simp) (by simp) (fun hc=>absurd rfl hc) (fun j hj=>by simp at hj)
theorem iv{W:World}{b x:Nat}{T:TypeId}(h:W.1[b]?=some (.cells #[.slice (some ⟨x,0,none⟩) 1 1] T (0,0)))(hr:fA W (some ⟨x,0,none⟩) 1 bC):eS W (some ⟨b,0,none⟩) 1 [bC] :=
 ⟨by decide,by decide,fun j hj=>by
  have:j=0:=by have:j<1:=hj;omega
  subst this
  exact⟨b,0,some ⟨x,0,none⟩,1,rfl,ao h,aa h 0,hr⟩⟩
theorem wP{W:World}{p:OA}{c:Nat}(h:bQ W p c aG):cC W (aI 1 3 p 1 c 0 0 0 none 0 0 0 0 0 none 0 0) bR:=⟨p,c,none,0,none,0,rfl,h.len,h.cap,h.cols,by decide,by decide,.inl rfl,by decide,by decide,jB _ _⟩
theorem wQ{W:World}{q:OA}{c:Nat}(h:At W q [0,10])(hc:2<=c):cC W (aI 2 3 none 0 0 9 70 1 q 2 c 0 0 0 none 0 0) cm:=⟨none,0,q,c,none,0,rfl,by decide,by decide,fun j hj=>absurd hj (Nat.not_lt_zero _),by decide,hc,h,by decide,by decide,jB _ _⟩
theorem vT:bR.wf:=by
 refine⟨by simp[bR,Fr.i64],by simp[bR,Fr.i64],jq,by simp[bR,Fr0,Fr.i64],by simp[bR,Fr0,Fr.i64],by simp[bR,Fr0,Fr.i64],by simp[bR,Fr0,lT,Fr.i64],by simp[bR,Fr0,lT]⟩
theorem vU:cm.wf:=by
 refine⟨by simp[cm,Fr.i64],by simp[cm,Fr.i64],by simp[cm,Fr0],by simp[cm,Fr.i64],by simp[cm,Fr.i64],by simp[cm,Fr.i64],by simp[cm,Fr0,lT,Fr.i64],by simp[cm,Fr0,lT]⟩
def tr:L8:=[1,0,2]++(0::(iP++[0]))
def u3:L8:=tr++[7,0]
theorem aC{a cur c:World}(h:Below a.1.size a cur)(h2:Below cur.1.size cur c):Below a.1.size a c:=h.trans (h2.mono h.size)
theorem nz{X cur c:World}{z:Obj}(h:cur.1=(X.alloc z).1)(h2:Below cur.1.size cur c):c.1[X.1.size]?=some z:=(h2.block _ (by rw[h];exact ao (an X z))).trans (by rw[h];exact an X z)
theorem eA{w:World}{B:Nat}{p:OA}{n c:Nat}{l:L8}(h:Has w B (.slice p n c) l):At w p l∧l.length<=c:=by
 obtain⟨p',c',he,h1,h2⟩:=h.at
 injection he with e1 e2 e3
 subst e1 e3
 exact⟨h1,h2⟩
theorem wy{I:World->Prop}(HK:tY I)(HSc:tT I)(HPk:∀(p q:OA) (c d:Nat) (w:World),bQ w p c aG->eS w q d [bC]->Calls Tryz.prog 7 #[.agg #[.slice p 1 c],.slice q 1 d] w (rB w ⟨0,[0,10]⟩))(HEn:∀(f:Fr) (u:AV) (w:World),f.kind=1∨f.kind=2->f.wf->I w->cC w u f->Calls Tryz.prog 9 #[.agg u] w (ki w (Fr.err f) (0::(Fr.run f++[0]))))(w:World)(hI:I w):Calls Tryz.prog 4 #[] w fun e w'=>e=.returned (.bool true)∧Below w.1.size w w':=by
  obtain⟨W1,hW1⟩:∃W,W=(w.alloc (.cells #[.int .i64 2,.int .i64 5,.float .f64 0,.string ⟨#[]⟩,.slice none 0 0] 46)).alloc (.cells #[.slice (some ⟨w.1.size,0,none⟩) 1 1] 48):=⟨_,rfl⟩
  have h1:W1.1[w.1.size]?=some (.cells #[.int .i64 2,.int .i64 5,.float .f64 0,.string ⟨#[]⟩,.slice none 0 0] 46 (0,0)):=by rw[hW1,aw _ _ (by simp)];exact an w _
  have h2:W1.1[w.1.size+1]?=some (.cells #[.slice (some ⟨w.1.size,0,none⟩) 1 1] 48 (0,0)):=by
    rw[hW1]
    have:=an (w.alloc (.cells #[.int .i64 2,.int .i64 5,.float .f64 0,.string ⟨#[]⟩,.slice none 0 0] 46)) (.cells #[.slice (some ⟨w.1.size,0,none⟩) 1 1] 48)
    simpa using this
  have hb1:Below w.1.size w W1:=by rw[hW1];exact yY.alloc (by simp) _
  have HR1:=yQ (nS h1)
  have HRw:=yQ h2
  have HB1:=yQ hb1
  have HI1:=yQ (HK.on hI hb1)
  have HHK:=yQ HK
  have HHS:=yQ HSc
  have HHP:=yQ HPk
  have HHE:=yQ HEn
  have k0:W1.cell? ⟨w.1.size+1,0,none⟩=some (.slice (some ⟨w.1.size,0,none⟩) 1 1):=aa h2 0
  have HW1:=yQ hW1
  have HBx:Hid (Below W1.1.size W1 W1):=yZ
  rw[hW1] at k0
  clear h1 h2 hb1 hW1 HK HSc HPk HEn hI
  go_enter Tryz.func4,Tryz.ntmps4
  go_wp2_with fail
  rw[<-HW1.out]
  rw[<-HW1.out] at k0
  clear HW1
  go_cut [2,3] from 11 (fun v2 v3 wx=>∃(q:OA) (cap:Nat),v2=.slice q 2 cap∧v3=.int .i64 0∧Hid (Below W1.1.size W1 wx∧At wx q [0,10]∧2<=cap))
  case first=>
    go_region_held3 (fun w'=>w'.cell? ⟨w.1.size+1,0,none⟩=some (.slice (some ⟨w.1.size,0,none⟩) 1 1)) (go_keep) (first
      | (go_at_call 8;refine(sC _).mono ?_;rintro e wo ⟨p,rfl,hs,hb⟩;have hx:=aC (by first | exact HBx.out | exact below_drewN HBx.out _ | exact HBx.out.alloc HBx.out.size _ | exact below_drewN (HBx.out.alloc HBx.out.size _) _ | exact(below_drewN HBx.out _).alloc HBx.out.size _ | exact below_drewN ((below_drewN HBx.out _).alloc HBx.out.size _) _) hb;have z0:=ae hx k0;(first | (have HZ:=yQ (nz (by rfl) hb)) | skip);have HS:=yQ hs;have HBo:=yQ hx;clear hb hx hs)
      | (go_at_call 7;refine(HHP.out _ _ _ _ _ (HS.out.on (by first | exact yY | exact below_drewN yY _ | exact(below_drewN yZ _).alloc yX _ | exact below_drewN ((below_drewN yZ _).alloc yX _) _)) (iv (by exact an _ _) (HR1.out.on (by first | exact HBo.out.alloc HBo.out.size _ | exact below_drewN (HBo.out.alloc HBo.out.size _) _ | exact(below_drewN HBo.out _).alloc HBo.out.size _ | exact below_drewN ((below_drewN HBo.out _).alloc HBo.out.size _) _)))).mono ?_;rintro e wp ⟨q,m,cap,rfl,hm,hh,hb⟩;have hm2:m=2:=hm;subst hm2;have hat:=eA hh;have HT:Hid (Below W1.1.size W1 wp∧At wp q [0,10]∧2<=cap):=⟨aC (by first | exact HBo.out | exact below_drewN HBo.out _ | exact HBo.out.alloc HBo.out.size _ | exact below_drewN (HBo.out.alloc HBo.out.size _) _ | exact(below_drewN HBo.out _).alloc HBo.out.size _ | exact below_drewN ((below_drewN HBo.out _).alloc HBo.out.size _) _) hb,hat.1,hat.2⟩;have z1:=ae HT.out.1 k0;clear hm hh hb hat)
      | (go_at_call 7;refine(HHP.out _ _ _ _ _ (HS.out.on (by first | exact yZ | exact below_drewN yZ _)) (iv (by exact HZ.out) (HR1.out.on (by first | exact HBo.out | exact below_drewN HBo.out _)))).mono ?_;rintro e wp ⟨q,m,cap,rfl,hm,hh,hb⟩;have hm2:m=2:=hm;subst hm2;have hat:=eA hh;have HT:Hid (Below W1.1.size W1 wp∧At wp q [0,10]∧2<=cap):=⟨aC (by first | exact HBo.out | exact below_drewN HBo.out _ | exact HBo.out.alloc HBo.out.size _ | exact below_drewN (HBo.out.alloc HBo.out.size _) _ | exact(below_drewN HBo.out _).alloc HBo.out.size _ | exact below_drewN ((below_drewN HBo.out _).alloc HBo.out.size _) _) hb,hat.1,hat.2⟩;have z1:=ae HT.out.1 k0;clear hm hh hb hat))
    all_goals (try go_wp2_with fail)
    all_goals go_meet
    all_goals exact⟨_,_,rfl,rfl,HT⟩
  case rest=>
    obtain⟨q,cap,rfl,rfl,HT⟩:=hcut
    have hbc:Below w.1.size w wc:=HB1.out.trans (HT.out.1.mono HB1.out.size)
    have HIc:=yQ (HHK.out.on HI1.out HT.out.1)
    have HBc:=yQ hbc
    clear k0 HBx HHP hbc
    go_wp2_with fail
    refine(sC _).mono ?_
    rintro e w3 ⟨p3,rfl,hs3,hb3⟩
    have HB3:=yQ hb3
    have HI3:=yQ (HHK.out.on HIc.out hb3)
    have HE3:=yQ (HHE.out bR _ w3 (.inl rfl) vT HI3.out (wP hs3))
    rw[pB,kZ] at HE3
    unfold aI at HE3
    clear hs3 hb3
    go_wp2_with fail
    refine HE3.out.mono ?_
    rintro e w4 (⟨-,qs,cs,rfl,hh4,hb4⟩ | ⟨h,-⟩)
    case inr=>exact absurd rfl h
    have hat4:=eA hh4
    have HB4:=yQ (aC HB3.out hb4)
    have HI4:=yQ (HHK.out.on HI3.out hb4)
    have HS4:=yQ hat4
    have HE4:=yQ (HHE.out cm _ w4 (.inr rfl) vU HI4.out (wQ (HT.out.2.1.on HB4.out) HT.out.2.2))
    rw[pC,k6] at HE4
    unfold aI at HE4
    rw[show(0::(qk++[0])).length=14 from rfl]
    clear hh4 hb4 hat4 HE3
    go_wp2_with fail
    refine HE4.out.mono ?_
    rintro e w5 (⟨-,qx,cx,rfl,hh5,hb5⟩ | ⟨h,-⟩)
    case inr=>exact absurd rfl h
    have hat5:=eA hh5
    have HB5:=yQ (aC HB4.out hb5)
    have HI5:=yQ (HHK.out.on HI4.out hb5)
    have HX5:=yQ hat5
    have HS5:=yQ (And.intro (HS4.out.1.on hb5) HS4.out.2)
    rw[show(0::(iP++[0])).length=14 from rfl]
    clear hh5 hb5 hat5 HE4 HS4
    have HBa:Hid (∀o,Below w5.1.size w5 (w5.alloc o)):=fun o=>yZ.alloc yX o
    go_wp2_with (first
      | (at_builtin
         refine aA (B:=w5.1.size) (xs:=[1,0,2]) (l:=0::(iP++[0])) (p:=qx) (c:=cx) (cH [1,0,2] (by rfl) yX (by decide)) (HX5.out.1.on (HBa.out _)) (by decide) (by simp) rfl rfl rfl rfl rfl ?_
         intro ys q6 c6 W6 HY hh6 ha6 ho6
         have hb6:Below w5.1.size w5 W6:=(HBa.out _).trans (ax ha6 (cH [1,0,2] (by rfl) yX (by decide)) (by simp))
         have hye:ys=tr:=HY.out
         subst hye
         rw[show tr.length=17 from rfl]
         have HH6:Hid (Has W6 w5.1.size (.slice q6 17 c6) tr):=hh6
         have HB6:=yQ hb6
         have HBb:Hid (∀o,Below W6.1.size W6 (W6.alloc o)):=fun o=>yZ.alloc yX o
         clear hh6 ha6 ho6 HY hb6)
      | (at_builtin
         refine aA (B:=w5.1.size) (xs:=tr) (l:=[7,0]) (p:=some ⟨W6.1.size,0,none⟩) (c:=2) (HH6.out.alloc _) (eA (cH (B:=W6.1.size) [7,0] (by rfl) yX (by decide))).1 (by decide) (by have:=HB6.out.size;simp;omega) rfl rfl rfl rfl rfl ?_
         intro ys q7 c7 W7 HY hh7 ha7 ho7
         have hb7:Below w5.1.size w5 W7:=(HB6.out.trans ((HBb.out _).mono HB6.out.size)).trans (ax ha7 (HH6.out.alloc _) (by have:=HB6.out.size;simp;omega))
         have hye:ys=u3:=HY.out
         subst hye
         rw[show u3.length=19 from rfl]
         have HH7:Hid (Has W7 w5.1.size (.slice q7 19 c7) u3):=hh7
         have HB7:=yQ hb7
         clear hh7 ha7 ho7 HY hb7)
      | (at_builtin
         refine aA (B:=w5.1.size) (xs:=u3) (l:=0::(qk++[0])) (p:=qs) (c:=cs) HH7.out (HS5.out.1.on HB7.out) (by decide) (by have:=HB7.out.size;omega) rfl rfl rfl rfl rfl ?_
         intro ys q8 c8 W8 HY hh8 ha8 ho8
         have hb8:Below w5.1.size w5 W8:=HB7.out.trans (ax ha8 HH7.out (by have:=HB7.out.size;omega))
         have hye:ys=dX:=HY.out
         subst hye
         rw[show dX.length=33 from rfl]
         have HH8:Hid (At W8 q8 dX∧dX.length<=c8):=eA hh8
         have HB8:=yQ hb8
         clear hh8 ha8 ho8 HY hb8)
      |fail)
    have HI8:=yQ (HHK.out.on HI5.out HB8.out)
    have HAl:=yQ (HHK.out.all dX q8 c8 W8 (by decide) HH8.out.2 HH8.out.1 HI8.out)
    rw[xf] at HAl
    have HB8w:=yQ (HBc.out.trans ((aC HB5.out HB8.out).mono HBc.out.size))
    refine HAl.out.mono ?_
    rintro e w9 ⟨q9,c9,rfl,hbl9,hb9⟩
    have HBL:=yQ hbl9
    have HB9:=yQ hb9
    have HI9:=yQ (HHK.out.on HI8.out hb9)
    have HSs:=yQ (HHS.out dX q8 c8 w9 (by decide) HH8.out.2 (HH8.out.1.on hb9) HI9.out)
    clear hbl9 hb9 HAl
    go_wp2_with fail
    refine HSs.out.mono ?_
    rintro e w10 ⟨l10,q10,c10,rfl,hsl,hpw10,hmm10,-,hb10⟩
    obtain rfl:=uA hpw10 hmm10
    clear hpw10 hmm10
    have HSL:=yQ hsl
    have HB10:=yQ hb10
    obtain⟨bb,ob,rp,rc,hqe,hbb,x0,x1,x2,x3,x4,hrl⟩:=(HBL.out.on hb10) 0 (by simp)
    subst hqe
    obtain⟨br,orr,vq,vd,hre,hbr,r0,hvl⟩:=hrl.rows 0 (by decide)
    subst hre
    obtain⟨bn,on_,sp,sc,hne,hbn,n0,n1,hsch⟩:=hsl 0 (by simp)
    subst hne
    simp only[Nat.zero_mul,Nat.add_zero,List.getElem_cons_zero] at x0 x1 x2 x3 x4 n0 n1 r0 hvl hsch
    have hbW:Below W1.1.size W1 w10:=aC (aC (aC (aC HT.out.1 HB5.out) HB8.out) HB9.out) HB10.out
    have HBW:=yQ hbW
    have HBw:=yQ (aC HB1.out hbW)
    have k0:w10.cell? ⟨w.1.size+1,0,none⟩=some (.slice (some ⟨w.1.size,0,none⟩) 1 1):=aa ((hbW.block _ (ao HRw.out)).trans HRw.out) 0
    have y0:w10.cell? ⟨bb,ob,none⟩=some (.int .i64 3):=x0
    have y4:w10.cell? ⟨bb,ob+4,none⟩=some (.slice (some ⟨br,orr,none⟩) 1 rc):=x4
    have y5:w10.cell? ⟨br,orr,none⟩=some (.slice vq 1 vd):=r0
    have y6:w10.cell? ⟨bn,on_+1,none⟩=some (.slice sp 1 sc):=n1
    have HCl:Hid (∀w',Below w10.1.size w10 w'->w'.cell? ⟨bb,ob,none⟩=some (.int .i64 3)∧w'.cell? ⟨bb,ob+1,none⟩=some (.int .i64 3)∧w'.cell? ⟨bb,ob+2,none⟩=some (.int .i64 9)∧w'.cell? ⟨bb,ob+3,none⟩=some (.int .i64 70)∧w'.cell? ⟨bb,ob+4,none⟩=some (.slice (some ⟨br,orr,none⟩) 1 rc)∧w'.cell? ⟨br,orr,none⟩=some (.slice vq 1 vd)∧w'.cell? ⟨w.1.size+1,0,none⟩=some (.slice (some ⟨w.1.size,0,none⟩) 1 1)∧w'.cell? ⟨bn,on_,none⟩=some (.int .i64 3)∧w'.cell? ⟨bn,on_+1,none⟩=some (.slice sp 1 sc)):=fun w' hb=>⟨ae hb y0,ae hb x1,ae hb x2,ae hb x3,ae hb y4,ae hb y5,ae hb k0,ae hb n0,ae hb y6⟩
    have HVs:Hid (∀w',Below w10.1.size w10 w'->Calls Tryz.prog 11 #[.agg #[.slice vq 1 vd],.agg #[.slice (some ⟨w.1.size,0,none⟩) 1 1]] w' fun e w''=>e=.returned (.bool true)∧Below w10.1.size w10 w''):=fun w' hb=>by
      have h:=mB bC bC w' vq (some ⟨w.1.size,0,none⟩) vd 1 (hvl.on hb).items.2.2 ((HR1.out.on hbW).on hb).items.2.2 hvl.items.1
      rw[show V.sameL bC bC=true from by unfold bC;rw[V.sameL_cons,pY];rfl] at h
      exact h.mono fun e w'' ⟨h2,h3⟩=>⟨h2,aC hb h3⟩
    have HOn:Hid (∀w',Below w10.1.size w10 w'->Calls Tryz.prog 8 #[.int .i64 2] w' fun e w''=>∃p,e=.returned (.agg #[.slice p 1 1])∧bQ w'' p 1 aG∧Below w10.1.size w10 w''):=fun w' hb=>(sC w').mono fun e w'' ⟨p,h1,h2,h3⟩=>⟨p,h1,h2,aC hb h3⟩
    have HSm:Hid (∀w' p,Below w10.1.size w10 w'->bQ w' p 1 aG->Calls Tryz.prog 12 #[.agg #[.slice sp 1 sc],.agg #[.slice p 1 1]] w' fun e w''=>e=.returned (.bool true)∧Below w10.1.size w10 w''):=fun w' p hb hc=>by
      have h:=qb aG aG sp p sc 1 w' (by decide) (hsch.on hb).cols hc.cols
      rw[show Sch.same aG aG=true from Fr.sameS_refl aG] at h
      exact h.mono fun e w'' ⟨h2,h3⟩=>⟨h2,aC hb h3⟩
    have HI10:=yQ (HHK.out.on HI9.out HB10.out)
    have HX10:=yQ (And.intro (HX5.out.1.on (aC (aC HB8.out HB9.out) HB10.out)) HX5.out.2)
    have HAx:Hid (∀w',Below w10.1.size w10 w'->Calls Tryz.prog 6 #[.slice qx 14 cx] w' fun e w''=>∃q d,e=.returned (.slice q 0 d)∧Below w10.1.size w10 w''):=fun w' hb=>by
      have h:=HHK.out.all (0::(iP++[0])) qx cx w' (by decide) HX10.out.2 (HX10.out.1.on hb) (HHK.out.on HI10.out hb)
      rw[u9] at h
      exact h.mono fun e w'' ⟨q,d,h1,_,h3⟩=>⟨q,d,h1,aC hb h3⟩
    rw[show([(3,aG)]:List (Int×List Col)).length=1 from rfl]
    clear x0 x4 r0 n1 hvl hsch hrl hsl hbW hb10 HSs HSL HBL
    go_wp2_with fail
    simp only[List.append]
    go_region_held3 (fun w'=>w'.cell? ⟨bb,ob,none⟩=some (.int .i64 3)∧w'.cell? ⟨bb,ob+1,none⟩=some (.int .i64 3)∧w'.cell? ⟨bb,ob+2,none⟩=some (.int .i64 9)∧w'.cell? ⟨bb,ob+3,none⟩=some (.int .i64 70)∧w'.cell? ⟨bb,ob+4,none⟩=some (.slice (some ⟨br,orr,none⟩) 1 rc)∧w'.cell? ⟨br,orr,none⟩=some (.slice vq 1 vd)∧w'.cell? ⟨w.1.size+1,0,none⟩=some (.slice (some ⟨w.1.size,0,none⟩) 1 1)∧w'.cell? ⟨bn,on_,none⟩=some (.int .i64 3)∧w'.cell? ⟨bn,on_+1,none⟩=some (.slice sp 1 sc)) (go_keep) (first
      | (go_at_call 11;refine(HVs.out _ (yZ.drew)).mono ?_;rintro e w11 ⟨rfl,hb11⟩;obtain⟨ca,cb,cc,cd,ce,cf,cg,ch,ci⟩:=HCl.out _ hb11;have HBn11:=yQ hb11;clear hb11)
      | (go_at_call 8;refine(HOn.out _ HBn11.out).mono ?_;rintro e w12 ⟨p12,rfl,hs12,hb12⟩;obtain⟨da,db,dc,dd,de,df,dg,dh,di⟩:=HCl.out _ hb12;have HBn12:=yQ hb12;have HSo:=yQ hs12;clear hb12 hs12)
      | (go_at_call 12;refine(HSm.out _ p12 HBn12.out HSo.out).mono ?_;rintro e w13 ⟨rfl,hb13⟩;obtain⟨ea,eb,ec,ed,ee,ef,eg,eh,ei⟩:=HCl.out _ hb13;have HBn13:=yQ hb13;clear hb13)
      | (go_at_call 6;refine(HAx.out _ HBn13.out).mono ?_;rintro e w14 ⟨q14,c14,rfl,hb14⟩;obtain⟨fa,fb,fc,fd,fe,ff,fg,fh,fi⟩:=HCl.out _ hb14;have HBn14:=yQ hb14;clear hb14)
      |fail)
    go_wp2
    go_ret
    exact⟨rfl,aC HBw.out HBn14.out⟩
end Go.Proofs.YtdgacombdcajmaaGreatDoor

import Derived.Test.YtjpgbaiabmiifaaGreatDoorL17A
import Derived.Test.YtjpgbaiabmiifaaGreatDoorB21
import Derived.Test.YtjpgbaiabmiifaaGreatDoorB33
import Derived.Test.YtjpgbaiabmiifaaGreatDoorB13
set_option maxRecDepth 100000
set_option maxHeartbeats 4000000
namespace Go.Proofs.YtjpgbaiabmiifaaGreatDoor
open Go.RowKit
attribute [local go_sem] af
def kJ:Array Value:=#[.string ⟨#[97]⟩,.int .i64 2,.slice none 0 0,.bool false,.int .i64 0,.int .i64 0,.float .f64 0,.string ⟨#[]⟩,.slice none 0 0]
theorem nl {W:World} {b:Nat} (h1:W.heap[b]? = some (.cells kJ 70 (0,0))):bF W (some ⟨b,0,none⟩) 1 aD:=by
 refine ⟨by decide,by decide,?_,iT⟩
 have h3:=aa h1
 intro j hj
 have hj2:j < 1:=hj
 obtain rfl:j = 0:=by omega
 refine ⟨ay ⟨#[97]⟩ 2 none 0 0 false 0 0 0 ⟨#[]⟩ none 0 0,⟨2,none,0,0,0,0,0,⟨#[]⟩,none,0,0,rfl,.mk (xs:=[]) (fun _ => #[]) (by simp) (by simp) (fun hc => absurd rfl hc) (fun j hj => by simp at hj),.mk (xs:=[]) (fun _ => #[]) (by simp) (by simp) (fun hc => absurd rfl hc) (fun j hj => by simp at hj)⟩,⟨b,0,⟨#[97]⟩,2,none,0,0,false,0,0,0,⟨#[]⟩,none,0,0,rfl,ar h1,rfl,?_⟩⟩
 exact ⟨h3 0,h3 1,h3 2,h3 3,h3 4,h3 5,h3 6,h3 7,h3 8⟩
theorem rE (w:World):Calls Tryz.prog 8 #[.int .i64 2] w fun e w' => ∃ p,e = .returned (.agg #[.slice p 1 1]) ∧ bF w' p 1 aD ∧ Below w.heap.size w w':=by
 obtain ⟨W,hW⟩:∃ W,W = (w.alloc (.cells #[.slice (some ⟨w.heap.size + 1,0,none⟩) 1 1] 31)).alloc (.cells kJ 70):=⟨_,rfl⟩
 have h0:W.heap[w.heap.size]? = some (.cells #[.slice (some ⟨w.heap.size + 1,0,none⟩) 1 1] 31 (0,0)):=by rw [hW,aG _ _ (by simp)];exact ap w _
 have h1:W.heap[w.heap.size + 1]? = some (.cells kJ 70 (0,0)):=by
  rw [hW]
  have:=ap (w.alloc (.cells #[.slice (some ⟨w.heap.size + 1,0,none⟩) 1 1] 31)) (.cells kJ 70)
  simpa using this
 have HB:Hid (Below w.heap.size w W):=by rw [hW];exact ((Below.refl _ _).alloc (Nat.le_refl _) _).alloc (by simp) _
 have H1:=Lib.hid (nl h1)
 have H0:=Lib.hid h0
 have HW:Hid ((w.alloc (.cells #[.slice (some ⟨w.heap.size + 1,0,none⟩) 1 1] 31)).alloc (.cells #[.string ⟨#[97]⟩,.int .i64 2,.slice none 0 0,.bool false,.int .i64 0,.int .i64 0,.float .f64 0,.string ⟨#[]⟩,.slice none 0 0] 70) = W):=hW.symm
 clear h0 h1 hW
 go_enter Tryz.func8,Tryz.ntmps8
 go_wp2
 rw [HW.out]
 refine bodyPost_ret (results_cell_row rfl _ _ w.heap.size _ _ _ _ rfl H0.out Tryz.underlying31 rfl (by kernel_rfl)) rfl ?_
 exact ⟨_,rfl,H1.out,HB.out⟩
theorem nf {W:World} {b:Nat} {T:TypeId} (h:W.heap[b]? = some (.cells #[.int .i64 2,.int .i64 5,.float .f64 0,.string ⟨#[]⟩,.slice none 0 0] T (0,0))):eW W (some ⟨b,0,none⟩) 1 bd:=by
 refine ⟨.mk (xs:=bd) (fun _ => cells5 2 5 0 ⟨#[]⟩ none 0 0) (by decide) (by decide) (fun _ => ⟨b,0,rfl,ar h,fun j hj m hm => ?_⟩) (fun j hj => ?_),lQ⟩
 ·have:j = 0:=by have:j < 1:=hj;omega
  subst this
  rw [aa h]
  simp [cells5]
 ·have:j = 0:=by have:j < 1:=hj;omega
  subst this
  exact .mk (xs:=[]) (fun _ => #[]) (by simp) (by simp) (fun hc => absurd rfl hc) (fun j hj => by simp at hj)
theorem gV {W:World} {b x:Nat} {T:TypeId} (h:W.heap[b]? = some (.cells #[.slice (some ⟨x,0,none⟩) 1 1] T (0,0))) (hr:eW W (some ⟨x,0,none⟩) 1 bd):eF W (some ⟨b,0,none⟩) 1 [bd] :=
 ⟨by decide,by decide,fun j hj => by
  have:j = 0:=by have:j < 1:=hj;omega
  subst this
  exact ⟨b,0,some ⟨x,0,none⟩,1,rfl,ar h,aa h 0,hr⟩⟩
theorem ve {W:World} {p:Option Addr} {c:Nat} (h:bF W p c aD):eZ W (bH 1 3 p 1 c 0 0 0 none 0 0 0 0 0 none 0 0) bG:=⟨p,c,none,0,none,0,rfl,h.len,h.cap,h.cols,by decide,by decide,.inl rfl,by decide,by decide,jf _ _⟩
theorem vf {W:World} {q:Option Addr} {c:Nat} (h:At W q [0,10]) (hc:2 ≤ c):eZ W (bH 2 3 none 0 0 9 70 1 q 2 c 0 0 0 none 0 0) bS:=⟨none,0,q,c,none,0,rfl,by decide,by decide,fun j hj => absurd hj (Nat.not_lt_zero _),by decide,hc,h,by decide,by decide,jf _ _⟩
theorem uK:bG.wf:=by
 refine ⟨by simp [bG,Fr.i64],by simp [bG,Fr.i64],iT,by simp [bG,Fr0,Fr.i64],by simp [bG,Fr0,Fr.i64],by simp [bG,Fr0,Fr.i64],by simp [bG,Fr0,lm,Fr.i64],by simp [bG,Fr0,lm]⟩
theorem uL:bS.wf:=by
 refine ⟨by simp [bS,Fr.i64],by simp [bS,Fr.i64],by simp [bS,Fr0],by simp [bS,Fr.i64],by simp [bS,Fr.i64],by simp [bS,Fr.i64],by simp [bS,Fr0,lm,Fr.i64],by simp [bS,Fr0,lm]⟩
def sA:List UInt8:=[1,0,2] ++ (0 :: (io ++ [0]))
def tP:List UInt8:=sA ++ [7,0]
theorem az {a cur c:World} (h:Below a.heap.size a cur) (h2:Below cur.heap.size cur c):Below a.heap.size a c:=h.trans (h2.mono h.size)
theorem mK {X cur c:World} {z:Obj} (h:cur.heap = (X.alloc z).heap) (h2:Below cur.heap.size cur c):c.heap[X.heap.size]? = some z:=(h2.block _ (by rw [h];exact ar (ap X z))).trans (by rw [h];exact ap X z)
theorem dT {w:World} {B:Nat} {p:Option Addr} {n c:Nat} {l:List UInt8} (h:Has w B (.slice p n c) l):At w p l ∧ l.length ≤ c:=by
 obtain ⟨p',c',he,h1,h2⟩:=h.at
 injection he with e1 e2 e3
 subst e1 e3
 exact ⟨h1,h2⟩
theorem u3 {I:World → Prop} (HK:oV I) (HSc:nZ I)
    (HPk:∀ (p q:Option Addr) (c d:Nat) (w:World),bF w p c aD → eF w q d [bd] → Calls Tryz.prog 7 #[.agg #[.slice p 1 c],.slice q 1 d] w (qt w ⟨0,[0,10]⟩))
    (HEn:∀ (f:Fr) (u:Array Value) (w:World),f.kind = 1 ∨ f.kind = 2 → f.wf → I w → eZ w u f → Calls Tryz.prog 9 #[.agg u] w (qA w (Fr.err f) (0 :: (Fr.run f ++ [0]))))
    (w:World) (hI:I w):Calls Tryz.prog 4 #[] w fun e w' => e = .returned (.bool true) ∧ Below w.heap.size w w':=by
  obtain ⟨W1,hW1⟩:∃ W,W = (w.alloc (.cells #[.int .i64 2,.int .i64 5,.float .f64 0,.string ⟨#[]⟩,.slice none 0 0] 44)).alloc (.cells #[.slice (some ⟨w.heap.size,0,none⟩) 1 1] 46):=⟨_,rfl⟩
  have h1:W1.heap[w.heap.size]? = some (.cells #[.int .i64 2,.int .i64 5,.float .f64 0,.string ⟨#[]⟩,.slice none 0 0] 44 (0,0)):=by rw [hW1,aG _ _ (by simp)];exact ap w _
  have h2:W1.heap[w.heap.size + 1]? = some (.cells #[.slice (some ⟨w.heap.size,0,none⟩) 1 1] 46 (0,0)):=by
    rw [hW1]
    have:=ap (w.alloc (.cells #[.int .i64 2,.int .i64 5,.float .f64 0,.string ⟨#[]⟩,.slice none 0 0] 44)) (.cells #[.slice (some ⟨w.heap.size,0,none⟩) 1 1] 46)
    simpa using this
  have hb1:Below w.heap.size w W1:=by rw [hW1];exact ((Below.refl _ _).alloc (Nat.le_refl _) _).alloc (by simp) _
  have HR1:=Lib.hid (nf h1)
  have HRw:=Lib.hid h2
  have HB1:=Lib.hid hb1
  have HI1:=Lib.hid (HK.on hI hb1)
  have HHK:=Lib.hid HK
  have HHS:=Lib.hid HSc
  have HHP:=Lib.hid HPk
  have HHE:=Lib.hid HEn
  have k0:W1.cell? ⟨w.heap.size + 1,0,none⟩ = some (.slice (some ⟨w.heap.size,0,none⟩) 1 1):=aa h2 0
  have HW1:=Lib.hid hW1
  have HBx:Hid (Below W1.heap.size W1 W1):=Below.refl _ _
  rw [hW1] at k0
  clear h1 h2 hb1 hW1 HK HSc HPk HEn hI
  go_enter Tryz.func4,Tryz.ntmps4
  go_wp2_with fail
  rw [← HW1.out]
  rw [← HW1.out] at k0
  clear HW1
  go_cut [2,3] from 11 (fun v2 v3 wx => ∃ (q:Option Addr) (cap:Nat),v2 = .slice q 2 cap ∧ v3 = .int .i64 0 ∧ Hid (Below W1.heap.size W1 wx ∧ At wx q [0,10] ∧ 2 ≤ cap))
  case first =>
    go_region_held3 (fun w' => w'.cell? ⟨w.heap.size + 1,0,none⟩ = some (.slice (some ⟨w.heap.size,0,none⟩) 1 1)) (go_keep) (first
      | (go_at_call 8;refine (rE _).mono ?_;rintro e wo ⟨p,rfl,hs,hb⟩;have hx:=az (by first | exact HBx.out | exact below_drewN HBx.out _ | exact HBx.out.alloc HBx.out.size _ | exact below_drewN (HBx.out.alloc HBx.out.size _) _ | exact (below_drewN HBx.out _).alloc HBx.out.size _ | exact below_drewN ((below_drewN HBx.out _).alloc HBx.out.size _) _) hb;have z0:=ae hx k0;(first | (have HZ:=Lib.hid (mK (by rfl) hb)) | skip);have HS:=Lib.hid hs;have HBo:=Lib.hid hx;clear hb hx hs)
      | (go_at_call 7;refine (HHP.out _ _ _ _ _ (HS.out.on (by first | exact (Below.refl _ _).alloc (Nat.le_refl _) _ | exact below_drewN ((Below.refl _ _).alloc (Nat.le_refl _) _) _ | exact (below_drewN (Below.refl _ _) _).alloc (Nat.le_refl _) _ | exact below_drewN ((below_drewN (Below.refl _ _) _).alloc (Nat.le_refl _) _) _)) (gV (by exact ap _ _) (HR1.out.on (by first | exact HBo.out.alloc HBo.out.size _ | exact below_drewN (HBo.out.alloc HBo.out.size _) _ | exact (below_drewN HBo.out _).alloc HBo.out.size _ | exact below_drewN ((below_drewN HBo.out _).alloc HBo.out.size _) _)))).mono ?_;rintro e wp ⟨q,m,cap,rfl,hm,hh,hb⟩;have hm2:m = 2:=hm;subst hm2;have hat:=dT hh;have HT:Hid (Below W1.heap.size W1 wp ∧ At wp q [0,10] ∧ 2 ≤ cap):=⟨az (by first | exact HBo.out | exact below_drewN HBo.out _ | exact HBo.out.alloc HBo.out.size _ | exact below_drewN (HBo.out.alloc HBo.out.size _) _ | exact (below_drewN HBo.out _).alloc HBo.out.size _ | exact below_drewN ((below_drewN HBo.out _).alloc HBo.out.size _) _) hb,hat.1,hat.2⟩;have z1:=ae HT.out.1 k0;clear hm hh hb hat)
      | (go_at_call 7;refine (HHP.out _ _ _ _ _ (HS.out.on (by first | exact Below.refl _ _ | exact below_drewN (Below.refl _ _) _)) (gV (by exact HZ.out) (HR1.out.on (by first | exact HBo.out | exact below_drewN HBo.out _)))).mono ?_;rintro e wp ⟨q,m,cap,rfl,hm,hh,hb⟩;have hm2:m = 2:=hm;subst hm2;have hat:=dT hh;have HT:Hid (Below W1.heap.size W1 wp ∧ At wp q [0,10] ∧ 2 ≤ cap):=⟨az (by first | exact HBo.out | exact below_drewN HBo.out _ | exact HBo.out.alloc HBo.out.size _ | exact below_drewN (HBo.out.alloc HBo.out.size _) _ | exact (below_drewN HBo.out _).alloc HBo.out.size _ | exact below_drewN ((below_drewN HBo.out _).alloc HBo.out.size _) _) hb,hat.1,hat.2⟩;have z1:=ae HT.out.1 k0;clear hm hh hb hat))
    all_goals (try go_wp2_with fail)
    all_goals go_meet
    all_goals exact ⟨_,_,rfl,rfl,HT⟩
  case rest =>
    obtain ⟨q,cap,rfl,rfl,HT⟩:=hcut
    have hbc:Below w.heap.size w wc:=HB1.out.trans (HT.out.1.mono HB1.out.size)
    have HIc:=Lib.hid (HHK.out.on HI1.out HT.out.1)
    have HBc:=Lib.hid hbc
    clear k0 HBx HHP hbc
    go_wp2_with fail
    refine (rE _).mono ?_
    rintro e w3 ⟨p3,rfl,hs3,hb3⟩
    have HB3:=Lib.hid hb3
    have HI3:=Lib.hid (HHK.out.on HIc.out hb3)
    have HE3:=Lib.hid (HHE.out bG _ w3 (.inl rfl) uK HI3.out (ve hs3))
    rw [oJ,kD] at HE3
    unfold bH at HE3
    clear hs3 hb3
    go_wp2_with fail
    refine HE3.out.mono ?_
    rintro e w4 (⟨-,qs,cs,rfl,hh4,hb4⟩ | ⟨h,-⟩)
    case inr => exact absurd rfl h
    have hat4:=dT hh4
    have HB4:=Lib.hid (az HB3.out hb4)
    have HI4:=Lib.hid (HHK.out.on HI3.out hb4)
    have HS4:=Lib.hid hat4
    have HE4:=Lib.hid (HHE.out bS _ w4 (.inr rfl) uL HI4.out (vf (HT.out.2.1.on HB4.out) HT.out.2.2))
    rw [oK,kE] at HE4
    unfold bH at HE4
    rw [show (0 :: (pB ++ [0])).length = 14 from rfl]
    clear hh4 hb4 hat4 HE3
    go_wp2_with fail
    refine HE4.out.mono ?_
    rintro e w5 (⟨-,qx,cx,rfl,hh5,hb5⟩ | ⟨h,-⟩)
    case inr => exact absurd rfl h
    have hat5:=dT hh5
    have HB5:=Lib.hid (az HB4.out hb5)
    have HI5:=Lib.hid (HHK.out.on HI4.out hb5)
    have HX5:=Lib.hid hat5
    have HS5:=Lib.hid (And.intro (HS4.out.1.on hb5) HS4.out.2)
    rw [show (0 :: (io ++ [0])).length = 14 from rfl]
    clear hh5 hb5 hat5 HE4 HS4
    have HBa:Hid (∀ o,Below w5.heap.size w5 (w5.alloc o)):=fun o => (Below.refl _ _).alloc (Nat.le_refl _) o
    go_wp2_with (first
      | (at_builtin
         refine aA (B:=w5.heap.size) (xs:=[1,0,2]) (l:=0 :: (io ++ [0])) (p:=qx) (c:=cx) (cU [1,0,2] (by rfl) (Nat.le_refl _) (by decide)) (HX5.out.1.on (HBa.out _)) (by decide) (by simp) rfl rfl rfl rfl rfl ?_
         intro ys q6 c6 W6 HY hh6 ha6 ho6
         have hb6:Below w5.heap.size w5 W6:=(HBa.out _).trans (aw ha6 (cU [1,0,2] (by rfl) (Nat.le_refl _) (by decide)) (by simp))
         have hye:ys = sA:=HY.out
         subst hye
         rw [show sA.length = 17 from rfl]
         have HH6:Hid (Has W6 w5.heap.size (.slice q6 17 c6) sA):=hh6
         have HB6:=Lib.hid hb6
         have HBb:Hid (∀ o,Below W6.heap.size W6 (W6.alloc o)):=fun o => (Below.refl _ _).alloc (Nat.le_refl _) o
         clear hh6 ha6 ho6 HY hb6)
      | (at_builtin
         refine aA (B:=w5.heap.size) (xs:=sA) (l:=[7,0]) (p:=some ⟨W6.heap.size,0,none⟩) (c:=2) (HH6.out.alloc _) (dT (cU (B:=W6.heap.size) [7,0] (by rfl) (Nat.le_refl _) (by decide))).1 (by decide) (by have:=HB6.out.size;simp;omega) rfl rfl rfl rfl rfl ?_
         intro ys q7 c7 W7 HY hh7 ha7 ho7
         have hb7:Below w5.heap.size w5 W7:=(HB6.out.trans ((HBb.out _).mono HB6.out.size)).trans (aw ha7 (HH6.out.alloc _) (by have:=HB6.out.size;simp;omega))
         have hye:ys = tP:=HY.out
         subst hye
         rw [show tP.length = 19 from rfl]
         have HH7:Hid (Has W7 w5.heap.size (.slice q7 19 c7) tP):=hh7
         have HB7:=Lib.hid hb7
         clear hh7 ha7 ho7 HY hb7)
      | (at_builtin
         refine aA (B:=w5.heap.size) (xs:=tP) (l:=0 :: (pB ++ [0])) (p:=qs) (c:=cs) HH7.out (HS5.out.1.on HB7.out) (by decide) (by have:=HB7.out.size;omega) rfl rfl rfl rfl rfl ?_
         intro ys q8 c8 W8 HY hh8 ha8 ho8
         have hb8:Below w5.heap.size w5 W8:=HB7.out.trans (aw ha8 HH7.out (by have:=HB7.out.size;omega))
         have hye:ys = dI:=HY.out
         subst hye
         rw [show dI.length = 33 from rfl]
         have HH8:Hid (At W8 q8 dI ∧ dI.length ≤ c8):=dT hh8
         have HB8:=Lib.hid hb8
         clear hh8 ha8 ho8 HY hb8)
      | fail)
    have HI8:=Lib.hid (HHK.out.on HI5.out HB8.out)
    have HAl:=Lib.hid (HHK.out.all dI q8 c8 W8 (by decide) HH8.out.2 HH8.out.1 HI8.out)
    rw [vD] at HAl
    have HB8w:=Lib.hid (HBc.out.trans ((az HB5.out HB8.out).mono HBc.out.size))
    refine HAl.out.mono ?_
    rintro e w9 ⟨q9,c9,rfl,hbl9,hb9⟩
    have HBL:=Lib.hid hbl9
    have HB9:=Lib.hid hb9
    have HI9:=Lib.hid (HHK.out.on HI8.out hb9)
    have HSs:=Lib.hid (HHS.out dI q8 c8 w9 (by decide) HH8.out.2 (HH8.out.1.on hb9) HI9.out)
    clear hbl9 hb9 HAl
    go_wp2_with fail
    refine HSs.out.mono ?_
    rintro e w10 ⟨l10,q10,c10,rfl,hsl,hpw10,hmm10,-,hb10⟩
    obtain rfl:=tm hpw10 hmm10
    clear hpw10 hmm10
    have HSL:=Lib.hid hsl
    have HB10:=Lib.hid hb10
    obtain ⟨bb,ob,rp,rc,hqe,hbb,x0,x1,x2,x3,x4,hrl⟩:=(HBL.out.on hb10) 0 (by simp)
    subst hqe
    obtain ⟨br,orr,vq,vd,hre,hbr,r0,hvl⟩:=hrl.rows 0 (by decide)
    subst hre
    obtain ⟨bn,on_,sp,sc,hne,hbn,n0,n1,hsch⟩:=hsl 0 (by simp)
    subst hne
    simp only [Nat.zero_mul,Nat.add_zero,List.getElem_cons_zero] at x0 x1 x2 x3 x4 n0 n1 r0 hvl hsch
    have hbW:Below W1.heap.size W1 w10:=az (az (az (az HT.out.1 HB5.out) HB8.out) HB9.out) HB10.out
    have HBW:=Lib.hid hbW
    have HBw:=Lib.hid (az HB1.out hbW)
    have k0:w10.cell? ⟨w.heap.size + 1,0,none⟩ = some (.slice (some ⟨w.heap.size,0,none⟩) 1 1):=aa ((hbW.block _ (ar HRw.out)).trans HRw.out) 0
    have y0:w10.cell? ⟨bb,ob,none⟩ = some (.int .i64 3):=x0
    have y4:w10.cell? ⟨bb,ob + 4,none⟩ = some (.slice (some ⟨br,orr,none⟩) 1 rc):=x4
    have y5:w10.cell? ⟨br,orr,none⟩ = some (.slice vq 1 vd):=r0
    have y6:w10.cell? ⟨bn,on_ + 1,none⟩ = some (.slice sp 1 sc):=n1
    have HCl:Hid (∀ w',Below w10.heap.size w10 w' → w'.cell? ⟨bb,ob,none⟩ = some (.int .i64 3) ∧ w'.cell? ⟨bb,ob + 1,none⟩ = some (.int .i64 3) ∧ w'.cell? ⟨bb,ob + 2,none⟩ = some (.int .i64 9) ∧ w'.cell? ⟨bb,ob + 3,none⟩ = some (.int .i64 70) ∧ w'.cell? ⟨bb,ob + 4,none⟩ = some (.slice (some ⟨br,orr,none⟩) 1 rc) ∧ w'.cell? ⟨br,orr,none⟩ = some (.slice vq 1 vd) ∧ w'.cell? ⟨w.heap.size + 1,0,none⟩ = some (.slice (some ⟨w.heap.size,0,none⟩) 1 1) ∧ w'.cell? ⟨bn,on_,none⟩ = some (.int .i64 3) ∧ w'.cell? ⟨bn,on_ + 1,none⟩ = some (.slice sp 1 sc)):=fun w' hb => ⟨ae hb y0,ae hb x1,ae hb x2,ae hb x3,ae hb y4,ae hb y5,ae hb k0,ae hb n0,ae hb y6⟩
    have HVs:Hid (∀ w',Below w10.heap.size w10 w' → Calls Tryz.prog 11 #[.agg #[.slice vq 1 vd],.agg #[.slice (some ⟨w.heap.size,0,none⟩) 1 1]] w' fun e w'' => e = .returned (.bool true) ∧ Below w10.heap.size w10 w''):=fun w' hb => by
      have h:=lR bd bd w' vq (some ⟨w.heap.size,0,none⟩) vd 1 (hvl.on hb).items.2.2 ((HR1.out.on hbW).on hb).items.2.2 hvl.items.1
      rw [show V.sameL bd bd = true from by unfold bd;rw [V.sameL_cons,pi];rfl] at h
      exact h.mono fun e w'' ⟨h2,h3⟩ => ⟨h2,az hb h3⟩
    have HOn:Hid (∀ w',Below w10.heap.size w10 w' → Calls Tryz.prog 8 #[.int .i64 2] w' fun e w'' => ∃ p,e = .returned (.agg #[.slice p 1 1]) ∧ bF w'' p 1 aD ∧ Below w10.heap.size w10 w''):=fun w' hb => (rE w').mono fun e w'' ⟨p,h1,h2,h3⟩ => ⟨p,h1,h2,az hb h3⟩
    have HSm:Hid (∀ w' p,Below w10.heap.size w10 w' → bF w' p 1 aD → Calls Tryz.prog 12 #[.agg #[.slice sp 1 sc],.agg #[.slice p 1 1]] w' fun e w'' => e = .returned (.bool true) ∧ Below w10.heap.size w10 w''):=fun w' p hb hc => by
      have h:=pt aD aD sp p sc 1 w' (by decide) (hsch.on hb).cols hc.cols
      rw [show Sch.same aD aD = true from Fr.sameS_refl aD] at h
      exact h.mono fun e w'' ⟨h2,h3⟩ => ⟨h2,az hb h3⟩
    have HI10:=Lib.hid (HHK.out.on HI9.out HB10.out)
    have HX10:=Lib.hid (And.intro (HX5.out.1.on (az (az HB8.out HB9.out) HB10.out)) HX5.out.2)
    have HAx:Hid (∀ w',Below w10.heap.size w10 w' → Calls Tryz.prog 5 #[.slice qx 14 cx] w' fun e w'' => ∃ q d,e = .returned (.slice q 0 d) ∧ Below w10.heap.size w10 w''):=fun w' hb => by
      have h:=HHK.out.all (0 :: (io ++ [0])) qx cx w' (by decide) HX10.out.2 (HX10.out.1.on hb) (HHK.out.on HI10.out hb)
      rw [tU] at h
      exact h.mono fun e w'' ⟨q,d,h1,_,h3⟩ => ⟨q,d,h1,az hb h3⟩
    rw [show ([(3,aD)]:List (Int × List Col)).length = 1 from rfl]
    clear x0 x4 r0 n1 hvl hsch hrl hsl hbW hb10 HSs HSL HBL
    go_wp2_with fail
    simp only [List.append]
    go_region_held3 (fun w' => w'.cell? ⟨bb,ob,none⟩ = some (.int .i64 3) ∧ w'.cell? ⟨bb,ob + 1,none⟩ = some (.int .i64 3) ∧ w'.cell? ⟨bb,ob + 2,none⟩ = some (.int .i64 9) ∧ w'.cell? ⟨bb,ob + 3,none⟩ = some (.int .i64 70) ∧ w'.cell? ⟨bb,ob + 4,none⟩ = some (.slice (some ⟨br,orr,none⟩) 1 rc) ∧ w'.cell? ⟨br,orr,none⟩ = some (.slice vq 1 vd) ∧ w'.cell? ⟨w.heap.size + 1,0,none⟩ = some (.slice (some ⟨w.heap.size,0,none⟩) 1 1) ∧ w'.cell? ⟨bn,on_,none⟩ = some (.int .i64 3) ∧ w'.cell? ⟨bn,on_ + 1,none⟩ = some (.slice sp 1 sc)) (go_keep) (first
      | (go_at_call 11;refine (HVs.out _ ((Below.refl _ _).drew)).mono ?_;rintro e w11 ⟨rfl,hb11⟩;obtain ⟨ca,cb,cc,cd,ce,cf,cg,ch,ci⟩:=HCl.out _ hb11;have HBn11:=Lib.hid hb11;clear hb11)
      | (go_at_call 8;refine (HOn.out _ HBn11.out).mono ?_;rintro e w12 ⟨p12,rfl,hs12,hb12⟩;obtain ⟨da,db,dc,dd,de,df,dg,dh,di⟩:=HCl.out _ hb12;have HBn12:=Lib.hid hb12;have HSo:=Lib.hid hs12;clear hb12 hs12)
      | (go_at_call 12;refine (HSm.out _ p12 HBn12.out HSo.out).mono ?_;rintro e w13 ⟨rfl,hb13⟩;obtain ⟨ea,eb,ec,ed,ee,ef,eg,eh,ei⟩:=HCl.out _ hb13;have HBn13:=Lib.hid hb13;clear hb13)
      | (go_at_call 5;refine (HAx.out _ HBn13.out).mono ?_;rintro e w14 ⟨q14,c14,rfl,hb14⟩;obtain ⟨fa,fb,fc,fd,fe,ff,fg,fh,fi⟩:=HCl.out _ hb14;have HBn14:=Lib.hid hb14;clear hb14)
      | fail)
    go_wp2
    go_ret
    exact ⟨rfl,az HBw.out HBn14.out⟩
end Go.Proofs.YtjpgbaiabmiifaaGreatDoor

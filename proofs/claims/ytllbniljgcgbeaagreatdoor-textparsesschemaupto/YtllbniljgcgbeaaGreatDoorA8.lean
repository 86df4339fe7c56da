import Derived.Test.YtllbniljgcgbeaaGreatDoorA19
import Derived.Test.YtllbniljgcgbeaaGreatDoorK21K
set_option maxRecDepth 100000
set_option maxHeartbeats 8000000
namespace Go.Proofs.YtllbniljgcgbeaaGreatDoor
section
open Go.RowKit
attribute [local go_sem] ah
def dD(w:World)(R:Nat)(S:ByteArray)(x:Tx.R (V×Tx.Bs))(r:Ending)(w':World):Prop:=∃(k i:Int) (b:Nat) (t:ByteArray) (p:OA) (n c:Nat),r=.returned (.agg #[.int .i64 k,.int .i64 i,.float .f64 b,.string t,.slice p n c])∧aW w' R S x∧Aside (fun j=>j=R) w w'∧∀v l,x=.ok (v,l)->aG w' (fun j=>w.1.size<=j∧j<w'.1.size) (cells5 k i b t p n c) v
theorem aW.aside{α:Type}{w w':World}{R:Nat}{S:ByteArray}{x:Tx.R (α×Tx.Bs)}{F:Nat->Prop}(h:aW w R S x)(ha:Aside F w w')(hF:¬F R):aW w' R S x:=by
 match x,h with
 |.ok (_,r),h=>exact an.aside h ha hF
 |.error (e,m),h=>exact ap.aside h ha hF
theorem aS{w wr:World}{R:Nat}{S:ByteArray}{k i:Int}{b:Nat}{t:ByteArray}{p:OA}{n c:Nat}{X:Tx.R (V×Tx.Bs)}{C:AV}(hR:R<w.1.size)(bN:wr.1[w.1.size]?=some (.cells C 36 (0,0)))(hC:C.size=5)(hrd:aW wr R S X)(ha:Aside (fun i=>i=R) w wr)(hown:∀v l,X=.ok (v,l)->∃F:Nat->Prop,aG wr F (cells5 k i b t p n c) v∧∀j,F j->w.1.size<j∧j<wr.1.size):
  (fS wr w.1.size k i b t p n c).1[w.1.size]?=some (.cells #[.int .i64 k,.int .i64 i,.float .f64 b,.string t,.slice p n c] 36 (0,0))∧dD w R S X (.returned (.agg #[.int .i64 k,.int .i64 i,.float .f64 b,.string t,.slice p n c])) (fS wr w.1.size k i b t p n c):=by
 have h2:Aside (fun i=>i=w.1.size) wr (fS wr w.1.size k i b t p n c):=gu _ _ _ _ _ _ _ _ _
 have hs:(fS wr w.1.size k i b t p n c).1.size=wr.1.size:=iP _ _ _ _ _ _ _ _ _
 refine⟨gr bN hC _ _ _ _ _ _ _,k,i,b,t,p,n,c,rfl,hrd.aside h2 (by omega),ha.trans h2 (fun i hi he=>by rw[he] at hi;omega),fun v l hx=>?_⟩
 obtain⟨F,h3,h4⟩:=hown v l hx
 exact(h3.aside h2 (fun k hk he=>by have:=h4 k hk;omega)).mono (fun k hk=>by have:=h4 k hk;omega)
theorem pX{w w3 w4:World}{R tb:Nat}{S:ByteArray}{k i:Int}{b:Nat}{t:ByteArray}{p:OA}{n c:Nat}{X Y:Tx.R (V×Tx.Bs)}(hR:R<w.1.size)(htb:w.1.size<tb)(htb3:tb<w3.1.size)(hA3:Aside (fun j=>j=R) w w3)(hz4:w4.1[w.1.size]?=some (.cells ar 36 (0,0)))(ht4:w4.1[tb]?=some (.cells #[.int .i64 6,.int .i64 0,.float .f64 0,.string ⟨#[]⟩,.slice none 0 0] 36 (0,0)))(hX:X=aB Y fun x r=>az (Tx.must [41] r) fun r=>.ok (⟨6,0,0,⟨#[]⟩,[x]⟩,r))(hrd:aW w4 R S Y)(ha4:Aside (fun j=>j=R) w3 w4)(hown:∀v l,Y=.ok (v,l)->aG w4 (fun j=>w3.1.size<=j∧j<w4.1.size) (cells5 k i b t p n c) v):
  Calls Tryz.prog 25 #[.pointer (some ⟨R,0,none⟩),.string ⟨#[41]⟩] ((w4.setCell ⟨tb,4,none⟩ (.slice (some ⟨w4.1.size,0,none⟩) 1 1)).alloc (.cells #[.int .i64 k,.int .i64 i,.float .f64 b,.string t,.slice p n c] 36)) fun e w6=>e=.returned (.tuple #[])∧w6.1[w.1.size]?=some (.cells ar 36 (0,0))∧w6.1[tb]?=some (.cells #[.int .i64 6,.int .i64 0,.float .f64 0,.string ⟨#[]⟩,.slice (some ⟨w4.1.size,0,none⟩) 1 1] 36 (0,0))∧aW w6 R S X∧Aside (fun j=>j=R) w w6∧∀v l,X=.ok (v,l)->∃F:Nat->Prop,aG w6 F (cells5 6 0 0 ⟨#[]⟩ (some ⟨w4.1.size,0,none⟩) 1 1) v∧∀j,F j->w.1.size<j∧j<w6.1.size:=by
 obtain⟨V,hV⟩:∃V,w4.setCell ⟨tb,4,none⟩ (.slice (some ⟨w4.1.size,0,none⟩) 1 1)=V:=⟨_,rfl⟩
 have hVs:V.1.size=w4.1.size:=by rw[<-hV];simp only[World.setCell,Array.size_modify]
 have hVa:Aside (fun k=>k=tb) w4 V:=by rw[<-hV];exact(Aside.refl (fun k=>k=tb) w4).setCell (p:=⟨tb,4,none⟩) (.inl rfl) _
 have hVt:V.1[tb]?=some (.cells #[.int .i64 6,.int .i64 0,.float .f64 0,.string ⟨#[]⟩,.slice (some ⟨w4.1.size,0,none⟩) 1 1] 36 (0,0)):=by
  rw[<-hV,ai ht4 4]
  rfl
 rw[hV]
 obtain⟨W,hW⟩:∃W,V.alloc (.cells #[.int .i64 k,.int .i64 i,.float .f64 b,.string t,.slice p n c] 36)=W:=⟨_,rfl⟩
 have hb:Below V.1.size V W:=by rw[<-hW];exact tY
 have hg:W.1[w4.1.size]?=some (.cells #[.int .i64 k,.int .i64 i,.float .f64 b,.string t,.slice p n c] 36 (0,0)):=by rw[<-hW,<-hVs];exact aj V _
 rw[hW]
 have h44:w3.1.size<=w4.1.size:=ha4.size
 have hA5:Aside (fun k=>k=tb) w4 W:=hVa.trans (ag hb _) (fun _ _ h=>h)
 have hz5:W.1[w.1.size]?=some (.cells ar 36 (0,0)):=(hA5.block w.1.size (ae hz4) (by omega)).trans hz4
 have ht5:W.1[tb]?=some (.cells #[.int .i64 6,.int .i64 0,.float .f64 0,.string ⟨#[]⟩,.slice (some ⟨w4.1.size,0,none⟩) 1 1] 36 (0,0)):=(hb.block tb (ae hVt)).trans hVt
 have hAw:Aside (fun k=>k=R) w W:=(hA3.trans ha4 (fun _ _ h=>h)).trans hA5 (fun i hi hc=>by omega)
 cases Y with
 |error y=>
  obtain⟨e,m⟩:=y
  have hB5:ap W R S e m:=ap.aside hrd hA5 (by omega)
  have hX':X=.error (e,m):=hX
  refine(bj hB5 ⟨#[41]⟩ (by decide)).mono fun r w' ⟨q1,q2⟩=>?_
  subst q2
  refine⟨q1,hz5,ht5,?_,hAw,fun v l hc=>?_⟩
  ·rw[hX'];exact hB5
  ·rw[hX'] at hc;cases hc
 |ok y=>
  obtain⟨x,r2⟩:=y
  have hD5:an W R S r2:=an.aside hrd hA5 (by omega)
  have hX':X=az (Tx.must [41] r2) fun r=>.ok (⟨6,0,0,⟨#[]⟩,[x]⟩,r):=hX
  have ho:=hown x r2 rfl
  refine(bb hD5 ⟨#[41]⟩ (by decide)).mono fun r w' ⟨q1,q2,q3⟩=>?_
  have em:(ByteArray.mk #[41]).data.toList=[41]:=rfl
  rw[em] at q2
  have hs3:=q3.size
  have hgl:=ae hg
  have hg7:w'.1[w4.1.size]?=some (.cells #[.int .i64 k,.int .i64 i,.float .f64 b,.string t,.slice p n c] 36 (0,0)):=(q3.block w4.1.size hgl (by omega)).trans hg
  have hT7:=(ho.aside hA5 (fun i hi hc=>by omega)).aside q3 (fun i hi hc=>by omega)
  have hO:=aG.one (G:=fun i=>w.1.size<i∧i<w'.1.size) (k:=6) (i:=0) (b:=0) (t:=⟨#[]⟩) hg7 hT7 (fun k hk=>by omega) (fun hc=>by omega) (by omega)
  refine⟨q1,(q3.block w.1.size (ae hz5) (by omega)).trans hz5,(q3.block tb (ae ht5) (by omega)).trans ht5,?_,hAw.trans q3 (fun _ _ h=>h),fun v l hc=>?_⟩
  ·rw[hX']
   cases hm:Tx.must [41] r2 with
   |error y=>obtain⟨e,m⟩:=y;rw[hm] at q2;exact q2
   |ok r3=>rw[hm] at q2;exact q2
  ·rw[hX'] at hc
   cases hm:Tx.must [41] r2 with
   |error y=>rw[hm] at hc;cases hc
   |ok r3=>rw[hm] at hc;cases hc;exact⟨_,hO,fun j hj=>hj⟩
theorem nk{rf:Tx.Bs->Option Nat}{w:World}{R:Nat}{S:ByteArray}{l:Tx.Bs}(h:an w R S l)(f d:Nat)(hd:d<=4)(hval:∀w' l',an w' R S l'->Calls Tryz.prog 28 #[.pointer (some ⟨R,0,none⟩),.int .i64 ((d:Int)+1)] w' (dD w' R S (Tx.pval rf f l'))):
  Calls Tryz.prog 55 #[.pointer (some ⟨R,0,none⟩),.int .i64 (d:Nat)] w (dD w R S (ii rf f l)):=by
 have hdi:(d:Int)<=4:=by omega
 obtain⟨W0,hW0⟩:∃W0,W0=w.alloc (.cells #[.int .i64 0,.int .i64 0,.float .f64 0,.string ⟨#[]⟩,.slice none 0 0] 36):=⟨_,rfl⟩
 have HB0:Hid (Below w.1.size w W0):=by rw[hW0];exact tY
 have HN0:Hid (W0.1[w.1.size]?=some (.cells ar 36 (0,0))):=by rw[hW0];exact aj w _
 have HW0:=tQ hW0
 have h0:=h.on HB0.out
 have HL:=tQ (dJ h0 0 (by omega))
 rw[show cH 0=Sch.low from rfl] at HL
 obtain⟨wd,hwd⟩:∃wd,wd=l.takeWhile Sch.low:=⟨_,rfl⟩
 obtain⟨r0,hr0⟩:∃r,r=l.dropWhile Sch.low:=⟨_,rfl⟩
 have hsp:l=wd++r0:=by rw[hwd,hr0];exact(List.takeWhile_append_dropWhile).symm
 obtain⟨X,hX⟩:∃X,X=ii rf f l:=⟨_,rfl⟩
 have HRR:Hid (X=if wd=[116,114,117,101] then .ok (⟨1,1,0,⟨#[]⟩,[]⟩,r0) else if wd=[102,97,108,115,101] then .ok (⟨1,0,0,⟨#[]⟩,[]⟩,r0) else if wd=[110,111,110,101] then .ok (⟨6,0,0,⟨#[]⟩,[]⟩,r0)
  else if wd=[115,111,109,101] then az (Tx.must [40] r0) fun r=>aB (Tx.pval rf f r) fun x r=>az (Tx.must [41] r) fun r=>.ok (⟨6,0,0,⟨#[]⟩,[x]⟩,r) else .error (5,l.length)):=by show X=_;rw[hX,hwd,hr0];rfl
 rw[<-hX]
 rw[<-hwd] at HL
 have HRlt:=tQ h.lt
 have HH0:=tQ h0
 have hsm:=h.small
 have hle:=h.le
 have HSp:=tQ hsp
 have HVa:=tQ hval
 have HA0:=tQ (ag HB0.out (fun i=>i=R))
 clear h h0 hW0 hwd hr0 hX hsp hval
 obtain⟨a,ha⟩:∃a,a=S.size-l.length:=⟨_,rfl⟩
 have hal:a+l.length<=140737488351232:=by omega
 have HAS:Hid (a=S.size-l.length):=ha
 have HAL:=tQ hal
 have e9:(ByteArray.mk wd.toArray).toList=wd:=by rw[ByteArray.toList_eq]
 clear ha hle hsm
 go_enter Tryz.func55,Tryz.ntmps55
 go_wp2_with fail
 rw[<-HW0.out]
 refine HL.out.mono ?_
 rintro e w1 ⟨rfl,hb1⟩
 have HH1:=tQ (HH0.out.on hb1)
 have HA1:=tQ (HA0.out.trans (ag hb1 (fun i=>i=R)) (fun _ _ h=>h))
 have HN1:Hid (w1.1[w.1.size]?=some (.cells ar 36 (0,0))):=ay HN0.out hb1 (ae HN0.out)
 clear hb1 HL HB0 HN0 HH0 HA0 HW0
 have hlt1:w.1.size<w1.1.size:=ae HN1.out
 have hP1:R<w1.1.size:=HH1.out.lt
 have hRN:¬w.1.size=R:=by have:=HRlt.out;omega
 have hRN2:¬R=w.1.size:=by omega
 have c1:w1.cell? ⟨R,1,none⟩=some (.int .i64 (a:Int)):=by rw[HAS.out];exact HH1.out.cell 1
 have t1:=HH1.out.thawed 1
 have zf0:=ac HN1.out 0
 have zf1:=ac HN1.out 1
 have zf2:=ac HN1.out 2
 have zf3:=ac HN1.out 3
 have zf4:=ac HN1.out 4
 have z0:w1.cell? ⟨w.1.size,0,none⟩=some (.int .i64 0):=ab HN1.out 0
 have z1:w1.cell? ⟨w.1.size,1,none⟩=some (.int .i64 0):=ab HN1.out 1
 have z2:w1.cell? ⟨w.1.size,2,none⟩=some (.float .f64 0):=ab HN1.out 2
 have z3:w1.cell? ⟨w.1.size,3,none⟩=some (.string ⟨#[]⟩):=ab HN1.out 3
 have z4:w1.cell? ⟨w.1.size,4,none⟩=some (.slice none 0 0):=ab HN1.out 4
 by_cases q1:wd=[116,114,117,101]
 ·have e1:=str_eq q1
  have hst:=HH1.out.step 4 (by have:=HSp.out;rw[this,q1];simp) ((a:Int)+4) (by rw[HAS.out];rfl)
  rw[show l.drop 4=r0 by rw[HSp.out,q1];rfl] at hst
  obtain⟨hr,haV⟩:=hst
  have HRk:Hid (X=.ok (⟨1,1,0,⟨#[]⟩,[]⟩,r0)):=by show X=_;rw[HRR.out];rw[if_pos q1]
  have HFin:=tQ (aS (k:=1) (i:=1) (b:=0) (t:=⟨#[]⟩) (p:=none) (n:=0) (c:=0) (X:=.ok (⟨1,1,0,⟨#[]⟩,[]⟩,r0)) HRlt.out ((haV.block _ hlt1 hRN).trans HN1.out) rfl hr (HA1.out.trans haV (fun _ _ h=>h)) (fun v l hc=>by cases hc;exact⟨fun _=>False,.none,fun _ h=>h.elim⟩))
  have f5:(a:Int)+4<=140737488351232:=by have:=HSp.out;rw[q1] at this;have hl:=congrArg List.length this;simp at hl;omega
  have f6:(0:Int)<=(a:Int)+4:=by omega
  clear HRR HVa HH1 HA1 HN1 q1 hr haV HSp HAL hal
  go_wp2
  refine bodyPost_ret (v:=.agg (cells5 1 1 0 ⟨#[]⟩ none 0 0)) (results_cell_row rfl _ _ w.1.size _ _ _ _ rfl HFin.out.1 Tryz.underlying36 rfl (by kernel_rfl)) rfl ?_
  rw[HRk.out]
  exact HFin.out.2
 have e1:=cz q1
 have N1:=tQ q1
 clear q1
 by_cases q1:wd=[102,97,108,115,101]
 ·have e2:=str_eq q1
  have hst:=HH1.out.step 5 (by have:=HSp.out;rw[this,q1];simp) ((a:Int)+5) (by rw[HAS.out];rfl)
  rw[show l.drop 5=r0 by rw[HSp.out,q1];rfl] at hst
  obtain⟨hr,haV⟩:=hst
  have HRk:Hid (X=.ok (⟨1,0,0,⟨#[]⟩,[]⟩,r0)):=by show X=_;rw[HRR.out];rw[if_neg N1.out,if_pos q1]
  have HFin:=tQ (aS (k:=1) (i:=0) (b:=0) (t:=⟨#[]⟩) (p:=none) (n:=0) (c:=0) (X:=.ok (⟨1,0,0,⟨#[]⟩,[]⟩,r0)) HRlt.out ((haV.block _ hlt1 hRN).trans HN1.out) rfl hr (HA1.out.trans haV (fun _ _ h=>h)) (fun v l hc=>by cases hc;exact⟨fun _=>False,.none,fun _ h=>h.elim⟩))
  have f5:(a:Int)+5<=140737488351232:=by have:=HSp.out;rw[q1] at this;have hl:=congrArg List.length this;simp at hl;omega
  have f6:(0:Int)<=(a:Int)+5:=by omega
  clear HRR HVa HH1 HA1 HN1 q1 hr haV HSp HAL hal
  go_wp2
  refine bodyPost_ret (v:=.agg (cells5 1 0 0 ⟨#[]⟩ none 0 0)) (results_cell_row rfl _ _ w.1.size _ _ _ _ rfl HFin.out.1 Tryz.underlying36 rfl (by kernel_rfl)) rfl ?_
  rw[HRk.out]
  exact HFin.out.2
 have e2:=cz q1
 have N2:=tQ q1
 clear q1
 by_cases q1:wd=[110,111,110,101]
 ·have e3:=str_eq q1
  have hst:=HH1.out.step 4 (by have:=HSp.out;rw[this,q1];simp) ((a:Int)+4) (by rw[HAS.out];rfl)
  rw[show l.drop 4=r0 by rw[HSp.out,q1];rfl] at hst
  obtain⟨hr,haV⟩:=hst
  have HRk:Hid (X=.ok (⟨6,0,0,⟨#[]⟩,[]⟩,r0)):=by show X=_;rw[HRR.out];rw[if_neg N1.out,if_neg N2.out,if_pos q1]
  have HFin:=tQ (aS (k:=6) (i:=0) (b:=0) (t:=⟨#[]⟩) (p:=none) (n:=0) (c:=0) (X:=.ok (⟨6,0,0,⟨#[]⟩,[]⟩,r0)) HRlt.out ((haV.block _ hlt1 hRN).trans HN1.out) rfl hr (HA1.out.trans haV (fun _ _ h=>h)) (fun v l hc=>by cases hc;exact⟨fun _=>False,.none,fun _ h=>h.elim⟩))
  have f5:(a:Int)+4<=140737488351232:=by have:=HSp.out;rw[q1] at this;have hl:=congrArg List.length this;simp at hl;omega
  have f6:(0:Int)<=(a:Int)+4:=by omega
  clear HRR HVa HH1 HA1 HN1 q1 hr haV HSp HAL hal
  go_wp2
  refine bodyPost_ret (v:=.agg (cells5 6 0 0 ⟨#[]⟩ none 0 0)) (results_cell_row rfl _ _ w.1.size _ _ _ _ rfl HFin.out.1 Tryz.underlying36 rfl (by kernel_rfl)) rfl ?_
  rw[HRk.out]
  exact HFin.out.2
 have e3:=cz q1
 have N3:=tQ q1
 clear q1
 by_cases q1:wd=[115,111,109,101]
 case neg=>
  have e4:=cz q1
  have HRe:Hid (X=.error (5,l.length)):=by show X=_;rw[HRR.out,if_neg N1.out,if_neg N2.out,if_neg N3.out,if_neg q1]
  have HF:=tQ (aP HH1.out 5 l.length (by decide))
  rw[<-HAS.out] at HF
  clear HRR HVa q1 HSp HAL hal
  go_wp2_with fail
  refine HF.out.mono ?_
  rintro e w2 ⟨rfl,hb2,ha2⟩
  have hN2:=(ha2.block _ hlt1 hRN).trans HN1.out
  have HFin:=tQ (aS (k:=0) (i:=0) (b:=0) (t:=⟨#[]⟩) (p:=none) (n:=0) (c:=0) (X:=.error (5,l.length)) HRlt.out hN2 rfl hb2 (HA1.out.trans ha2 (fun _ _ h=>h)) (fun v l hc=>by cases hc))
  have zf0:=ac hN2 0
  have zf1:=ac hN2 1
  have zf2:=ac hN2 2
  have zf3:=ac hN2 3
  have zf4:=ac hN2 4
  have z0:w2.cell? ⟨w.1.size,0,none⟩=some (.int .i64 0):=ab hN2 0
  have z1:w2.cell? ⟨w.1.size,1,none⟩=some (.int .i64 0):=ab hN2 1
  have z2:w2.cell? ⟨w.1.size,2,none⟩=some (.float .f64 0):=ab hN2 2
  have z3:w2.cell? ⟨w.1.size,3,none⟩=some (.string ⟨#[]⟩):=ab hN2 3
  have z4:w2.cell? ⟨w.1.size,4,none⟩=some (.slice none 0 0):=ab hN2 4
  clear hb2 ha2 hN2 HF HH1 HA1 HN1
  go_wp2
  refine bodyPost_ret (v:=.agg (cells5 0 0 0 ⟨#[]⟩ none 0 0)) (results_cell_row rfl _ _ w.1.size _ _ _ _ rfl HFin.out.1 Tryz.underlying36 rfl (by kernel_rfl)) rfl ?_
  rw[HRe.out]
  exact HFin.out.2
 have e4:=str_eq q1
 have HR2:Hid (X=az (Tx.must [40] r0) fun r=>aB (Tx.pval rf f r) fun x r=>az (Tx.must [41] r) fun r=>.ok (⟨6,0,0,⟨#[]⟩,[x]⟩,r)):=by show X=_;rw[HRR.out,if_neg N1.out,if_neg N2.out,if_neg N3.out,if_pos q1]
 have hst:=HH1.out.step 4 (by have:=HSp.out;rw[this,q1];simp) ((a:Int)+4) (by rw[HAS.out];rfl)
 rw[show l.drop 4=r0 by rw[HSp.out,q1];rfl] at hst
 obtain⟨hr,haV⟩:=hst
 have f5:(a:Int)+4<=140737488351232:=by have:=HSp.out;rw[q1] at this;have hl:=congrArg List.length this;simp at hl;omega
 have f6:(0:Int)<=(a:Int)+4:=by omega
 have HM:=tQ (bb hr ⟨#[40]⟩ (by decide))
 rw[show(ByteArray.mk #[40]).data.toList=[40] from rfl] at HM
 have HAV:=tQ (HA1.out.trans haV (fun _ _ h=>h))
 have HNV:Hid ((w1.setCell ⟨R,1,none⟩ (.int .i64 ((a:Int)+4))).1[w.1.size]?=some (.cells ar 36 (0,0))):=(haV.block _ hlt1 hRN).trans HN1.out
 obtain⟨G,hG⟩:∃G,G=Tx.must [40] r0:=⟨_,rfl⟩
 rw[<-hG] at HM HR2
 clear hG HRR q1 hr haV HSp HAL hal HH1 HN1 HA1 zf0 zf1 zf2 zf3 zf4 z0 z1 z2 z3 z4
 go_wp2_with fail
 refine HM.out.mono ?_
 rintro e w3 ⟨rfl,hq,ha3⟩
 have hN3:=(ha3.block _ (ae HNV.out) hRN).trans HNV.out
 have hA3:=HAV.out.trans ha3 (fun _ _ h=>h)
 have hl3:w.1.size<w3.1.size:=ae hN3
 obtain⟨W4,hW4⟩:∃W4,W4=w3.alloc (.cells #[.int .i64 6,.int .i64 0,.float .f64 0,.string ⟨#[]⟩,.slice none 0 0] 36):=⟨_,rfl⟩
 have hb4:Below w3.1.size w3 W4:=by rw[hW4];exact tY
 have hN4:W4.1[w.1.size]?=some (.cells ar 36 (0,0)):=ay hN3 hb4 hl3
 have hT4:W4.1[w3.1.size]?=some (.cells #[.int .i64 6,.int .i64 0,.float .f64 0,.string ⟨#[]⟩,.slice none 0 0] 36 (0,0)):=by rw[hW4];exact aj w3 _
 have hA4:=hA3.trans (ag hb4 (fun i=>i=R)) (fun _ _ h=>h)
 have hT3:¬w3.1.size=w.1.size:=by omega
 have hT3':¬w.1.size=w3.1.size:=by omega
 have hl4:=ae hT4
 have HN4:=tQ hN4
 have HT4:=tQ hT4
 have HA4:=tQ hA4
 have HW4:=tQ hW4
 have HL3:=tQ hl3
 have HL4:=tQ hl4
 clear HM HNV HAV ha3 hN3 hA3 c1 t1
 cases G with
 |error er=>
  obtain⟨ek,en⟩:=er
  have hq:ap w3 R S ek en:=hq
  have HRe:Hid (X=.error (ek,en)):=HR2.out
  have hB4:ap W4 R S ek en:=hq.aside (ag hb4 (fun _=>False)) (fun h=>h)
  have c2:W4.cell? ⟨R,2,none⟩=some (.int .i64 (ek:Int)):=hB4.cell2
  have g0:=hB4.bad
  have g1:((ek:Int)==0)=false:=by rw[beq_eq_false_iff_ne];omega
  have g2:(ek==0)=false:=by rw[beq_eq_false_iff_ne];exact g0
  have HB:=tQ (bj hB4 ⟨#[41]⟩ (by decide))
  have HFin:=tQ (aS (k:=6) (i:=0) (b:=0) (t:=⟨#[]⟩) (p:=none) (n:=0) (c:=0) (X:=.error (ek,en)) HRlt.out hN4 rfl hB4 hA4 (fun v l hc=>by cases hc))
  have zf0:=ac hN4 0
  have zf1:=ac hN4 1
  have zf2:=ac hN4 2
  have zf3:=ac hN4 3
  have zf4:=ac hN4 4
  have z0:W4.cell? ⟨w.1.size,0,none⟩=some (.int .i64 0):=ab hN4 0
  have z1:W4.cell? ⟨w.1.size,1,none⟩=some (.int .i64 0):=ab hN4 1
  have z2:W4.cell? ⟨w.1.size,2,none⟩=some (.float .f64 0):=ab hN4 2
  have z3:W4.cell? ⟨w.1.size,3,none⟩=some (.string ⟨#[]⟩):=ab hN4 3
  have z4:W4.cell? ⟨w.1.size,4,none⟩=some (.slice none 0 0):=ab hN4 4
  have y0:W4.cell? ⟨w3.1.size,0,none⟩=some (.int .i64 6):=ab hT4 0
  have y1:W4.cell? ⟨w3.1.size,1,none⟩=some (.int .i64 0):=ab hT4 1
  have y2:W4.cell? ⟨w3.1.size,2,none⟩=some (.float .f64 0):=ab hT4 2
  have y3:W4.cell? ⟨w3.1.size,3,none⟩=some (.string ⟨#[]⟩):=ab hT4 3
  have y4:W4.cell? ⟨w3.1.size,4,none⟩=some (.slice none 0 0):=ab hT4 4
  rw[hW4] at c2
  clear HR2 hq hB4 hb4 hN4 hT4 hA4 hW4 hl3 hl4 HVa g0
  go_wp2_with fail
  rw[<-HW4.out]
  refine HB.out.mono ?_
  rintro e w5 ⟨rfl,hw5⟩
  subst hw5
  clear HB
  go_wp2
  refine bodyPost_ret (v:=.agg (cells5 6 0 0 ⟨#[]⟩ none 0 0)) (results_cell_row rfl _ _ w.1.size _ _ _ _ rfl HFin.out.1 Tryz.underlying36 rfl (by kernel_rfl)) rfl ?_
  rw[HRe.out]
  exact HFin.out.2
 |ok r1=>
  have hq:an w3 R S r1:=hq
  have HR3:Hid (X=aB (Tx.pval rf f r1) fun x r=>az (Tx.must [41] r) fun r=>.ok (⟨6,0,0,⟨#[]⟩,[x]⟩,r)):=HR2.out
  have hD4:an W4 R S r1:=hq.on hb4
  have c2:W4.cell? ⟨R,2,none⟩=some (.int .i64 0):=hD4.cell 2
  rw[hW4] at c2
  have HCa:=tQ (HVa.out W4 r1 hD4)
  obtain⟨Y,hY⟩:∃Y,Y=Tx.pval rf f r1:=⟨_,rfl⟩
  rw[<-hY] at HCa HR3
  clear HR2 hq hD4 hb4 hN4 hT4 hA4 hW4 hl3 hl4 HVa hY
  go_wp2_with fail
  rw[<-HW4.out]
  refine HCa.out.mono ?_
  rintro e w5 ⟨k,i,b,t,p,n,c,rfl,hrd,ha5,hown⟩
  have hN5:w5.1[w.1.size]?=some (.cells ar 36 (0,0)):=(ha5.block _ (ae HN4.out) hRN).trans HN4.out
  have hT5:w5.1[w3.1.size]?=some (.cells #[.int .i64 6,.int .i64 0,.float .f64 0,.string ⟨#[]⟩,.slice none 0 0] 36 (0,0)):=(ha5.block _ HL4.out (by have:=HRlt.out;have:=HL3.out;omega)).trans HT4.out
  have HCl:=tQ (pX (k:=k) (i:=i) (b:=b) (t:=t) (p:=p) (n:=n) (c:=c) HRlt.out HL3.out HL4.out HA4.out hN5 hT5 HR3.out hrd ha5 hown)
  have y4:w5.cell? ⟨w3.1.size,4,none⟩=some (.slice none 0 0):=ab hT5 4
  have yf4:=ac hT5 4
  have hl5:w3.1.size<w5.1.size:=ae hT5
  have hT5':¬w3.1.size=w5.1.size:=by omega
  have hT5'':¬w5.1.size=w3.1.size:=by omega
  clear HR3 hrd ha5 hown hN5 hT5 HCa HN4 HT4 HA4 HW4
  go_wp2_with fail
  refine HCl.out.mono ?_
  rintro e w6 ⟨rfl,hN6,hT6,hrd6,hA6,ho6⟩
  have HFin:=tQ (aS (k:=6) (i:=0) (b:=0) (t:=⟨#[]⟩) (p:=some ⟨w5.1.size,0,none⟩) (n:=1) (c:=1) (X:=X) HRlt.out hN6 rfl hrd6 hA6 ho6)
  have zf0:=ac hN6 0
  have zf1:=ac hN6 1
  have zf2:=ac hN6 2
  have zf3:=ac hN6 3
  have zf4:=ac hN6 4
  have z0:w6.cell? ⟨w.1.size,0,none⟩=some (.int .i64 0):=ab hN6 0
  have z1:w6.cell? ⟨w.1.size,1,none⟩=some (.int .i64 0):=ab hN6 1
  have z2:w6.cell? ⟨w.1.size,2,none⟩=some (.float .f64 0):=ab hN6 2
  have z3:w6.cell? ⟨w.1.size,3,none⟩=some (.string ⟨#[]⟩):=ab hN6 3
  have z4:w6.cell? ⟨w.1.size,4,none⟩=some (.slice none 0 0):=ab hN6 4
  have y0:w6.cell? ⟨w3.1.size,0,none⟩=some (.int .i64 6):=ab hT6 0
  have y1:w6.cell? ⟨w3.1.size,1,none⟩=some (.int .i64 0):=ab hT6 1
  have y2:w6.cell? ⟨w3.1.size,2,none⟩=some (.float .f64 0):=ab hT6 2
  have y3:w6.cell? ⟨w3.1.size,3,none⟩=some (.string ⟨#[]⟩):=ab hT6 3
  have y4:w6.cell? ⟨w3.1.size,4,none⟩=some (.slice (some ⟨w5.1.size,0,none⟩) 1 1):=ab hT6 4
  clear hN6 hT6 hrd6 hA6 ho6 HCl yf4
  go_wp2
  refine bodyPost_ret (v:=.agg (cells5 6 0 0 ⟨#[]⟩ (some ⟨w5.1.size,0,none⟩) 1 1)) (results_cell_row rfl _ _ w.1.size _ _ _ _ rfl HFin.out.1 Tryz.underlying36 rfl (by kernel_rfl)) rfl ?_
  exact HFin.out.2
end
section
open Go.RowKit
attribute [local go_sem] ah
structure fg(w wr:World)(R:Nat)(q:OA)(n c:Nat):Prop where
 z:wr.1[w.1.size]?=some (.cells ar 36 (0,0))
 t:wr.1[w.1.size+1]?=some (.cells #[.int .i64 7,.int .i64 0,.float .f64 0,.string ⟨#[]⟩,.slice q n c] 36 (0,0))
 a:Aside (fun j=>j=R) w wr
def lsq(ys:List V)(y:Tx.R (List V×Tx.Bs)):Tx.R (V×Tx.Bs):=match y with
 |.error e=>.error e
 |.ok (xs,r)=>match Tx.must [93] r with
  |.error e=>.error e
  |.ok r=>.ok (⟨7,0,0,⟨#[]⟩,ys++xs⟩,r)
theorem qE(p:Tx.Bs->Tx.R (V×Tx.Bs))(m:Nat)(l:Tx.Bs):Tx.pits p (m+1) l=aB (p l) fun x r=>if r.head?=some 93 then .ok ([x],r) else az (Tx.must [44,32] r) fun r=>aB (Tx.pits p m r) fun xs r=>.ok (x::xs,r):=by
 rw[Tx.pits]
 cases p l with
 |error e=>rfl
 |ok y=>
  obtain⟨x,r⟩:=y
  show _=if r.head?=some 93 then _ else _
  by_cases h:r.head?=some 93
  ·simp only[h,if_true]
  ·simp only[h,if_false]
   generalize Tx.must [44,32] r=G
   cases G with
   |error e=>rfl
   |ok r=>
    show(match Tx.pits p m r with
     |.error e=>.error e
     |.ok (xs,r)=>.ok (x::xs,r))=aB (Tx.pits p m r) _
    generalize Tx.pits p m r=H
    cases H with
    |error e=>rfl
    |ok y=>rfl
theorem pw(ys:List V)(x:V)(y:Tx.R (List V×Tx.Bs)):lsq (ys++[x]) y=lsq ys (aB y fun xs r=>.ok (x::xs,r)):=by
 match y with
 |.error e=>rfl
 |.ok (xs,r)=>
  show lsq (ys++[x]) (.ok (xs,r))=lsq ys (.ok (x::xs,r))
  unfold lsq
  simp
def cP(w:World)(R:Nat)(S:ByteArray):Nat:=match w.cell? ⟨R,2,none⟩ with
 |some (.int _ e)=>if e=0 then S.size-atOf21 w R+1 else 0
 |_=>0
theorem an.msr{w:World}{R:Nat}{S:ByteArray}{l:Tx.Bs}(h:an w R S l):cP w R S=l.length+1:=by
 have c2:w.cell? ⟨R,2,none⟩=some (.int .i64 0):=h.cell 2
 have hle:=h.le
 unfold cP
 rw[c2,h.atOf21]
 simp
 omega
theorem ap.msr{w:World}{R:Nat}{S:ByteArray}{e n:Nat}(h:ap w R S e n):cP w R S=0:=by
 have:=h.bad
 unfold cP
 rw[h.cell2]
 simp
 omega
theorem rB(k i:Int)(b:Nat)(t:ByteArray)(p:OA)(n c:Nat):∀a∈(#[.int .i64 k,.int .i64 i,.float .f64 b,.string t,.slice p n c]:AV).toList,a.oneCell'=true:=by
 intro a ha
 simp at ha
 rcases ha with rfl | rfl | rfl | rfl | rfl <;> rfl
theorem rX{w wr w3:World}{R:Nat}{q:OA}{c:Nat}{ys:List V}{us:Nat->AV}{Fs:Nat->Nat->Prop}{u:AV}(hR:R<w.1.size)(h:fg w wr R q ys.length c)(hbt:aL wr (w.1.size+2) (.slice q ys.length c) ys.length us Fs ys)(ha:Aside (fun j=>j=R) wr w3):
  ((w3.alloc (.cells u 36)).alloc (.cells u 36)).ownsRow (w.1.size+2) 36 5 (.slice q ys.length c) ys.length (flat us ys.length) ∧
  ∀g cap w6,w6.ownsRow (w.1.size+2) 36 5 (.slice (some ⟨g,0,none⟩) (ys.length+1) cap) (ys.length+1) (flat us ys.length++u.toList)->((w3.alloc (.cells u 36)).alloc (.cells u 36)).grownBy w6 (Value.ownBlock (.slice q ys.length c))->(Value.ownBlock (.slice q ys.length c)=some g∨g=w3.1.size+2) ->
   w6.1[w.1.size+1]?=some (.cells #[.int .i64 7,.int .i64 0,.float .f64 0,.string ⟨#[]⟩,.slice q ys.length c] 36 (0,0))∧(∀(S:ByteArray) (x:Tx.R (V×Tx.Bs)),aW w3 R S x->aW w6 R S x∧aW (w6.setCell ⟨w.1.size+1,4,none⟩ (.slice (some ⟨g,0,none⟩) (ys.length+1) cap)) R S x) ∧
   fg w (w6.setCell ⟨w.1.size+1,4,none⟩ (.slice (some ⟨g,0,none⟩) (ys.length+1) cap)) R (some ⟨g,0,none⟩) (ys.length+1) cap ∧
   ∀x,aG w3 (fun k=>wr.1.size<=k∧k<w3.1.size) u x->∃us' Fs',aL (w6.setCell ⟨w.1.size+1,4,none⟩ (.slice (some ⟨g,0,none⟩) (ys.length+1) cap)) (w.1.size+2) (.slice (some ⟨g,0,none⟩) (ys.length+1) cap) (ys.length+1) us' Fs' (ys++[x]):=by
 have hT:=ae h.t
 have hs3:=ha.size
 have hb4:Below w3.1.size w3 (w3.alloc (.cells u 36)):=tY
 have hb5:Below w3.1.size w3 ((w3.alloc (.cells u 36)).alloc (.cells u 36)):=hb4.alloc (by simp) _
 obtain⟨wx,hx1,hx2,hx3⟩:=ha.split (by omega)
 have hlt:=hbt.lt
 have hbx:aL wx (w.1.size+2) (.slice q ys.length c) ys.length us Fs ys:=hbt.aside hx1 (fun g hg he=>by have:=(hlt g hg).1;omega) (fun j hj k hk he=>by have:=(hbt.range j hj k hk).1;omega)
 refine⟨((hbx.on hx3).on hb5).row,fun g cap w6 hr hg hn=>?_⟩
 have hag:Aside (fun k=>Value.ownBlock (.slice q ys.length c)=some k) w3 w6:=(ag hb5 _).trans (bR hg) (fun _ _ h=>h)
 have hs6:=hag.size
 have a7:Aside (fun k=>k=w.1.size+1) w6 (w6.setCell ⟨w.1.size+1,4,none⟩ (.slice (some ⟨g,0,none⟩) (ys.length+1) cap)):=(Aside.refl (fun k=>k=w.1.size+1) w6).setCell (p:=⟨w.1.size+1,4,none⟩) (.inl rfl) _
 have keep:∀k,k<w.1.size+2->k≠R->w6.1[k]?=wr.1[k]?:=fun k hk hne=>by
  rw[hag.block k (by omega) (fun hc=>by have:=(hlt k hc).1;omega),ha.block k (by omega) hne]
 have ht6:w6.1[w.1.size+1]?=some (.cells #[.int .i64 7,.int .i64 0,.float .f64 0,.string ⟨#[]⟩,.slice q ys.length c] 36 (0,0)):=(keep _ (by omega) (by omega)).trans h.t
 have hz6:=(keep w.1.size (by omega) (by omega)).trans h.z
 refine⟨ht6,fun S x hx=>?_,⟨(a7.block _ (by omega) (by omega)).trans hz6,by rw[ai ht6 4];rfl,((h.a.trans ha (fun _ _ h=>h)).trans hag (fun i hi hc=>by have:=(hlt i hc).1;omega)).trans a7 (fun i hi hc=>by omega)⟩,fun x hx=>?_⟩
 ·have h6:=hx.aside hag (fun hc=>by have:=(hlt R hc).1;omega)
  exact⟨h6,h6.aside a7 (by omega)⟩
 ·have hst:=hbx.step hx3 hx (fun k hk=>⟨by rw[hx2];exact hk.1,hk.2⟩) hb5 (by rw[hx2];omega) hr hg (by
   rcases hn with hn | hn
   ·exact .inl hn
   ·exact .inr (by rw[hn];simp))
  exact⟨_,_,hst.set ⟨w.1.size+1,4,none⟩ _ (by show w.1.size+1<_;omega)⟩
theorem f9{w wx w9:World}{R:Nat}{S:ByteArray}{q:OA}{n c:Nat}{X:Tx.R (V×Tx.Bs)}(hR:R<w.1.size)(h:fg w wx R q n c)(hy:aW w9 R S X)(ha:Aside (fun j=>j=R) wx w9)(ho:∀v l,X=.ok (v,l)->aG wx (fun k=>w.1.size<k∧k<wx.1.size) (cells5 7 0 0 ⟨#[]⟩ q n c) v):
  w9.1[w.1.size]?=some (.cells ar 36 (0,0))∧w9.1[w.1.size+1]?=some (.cells #[.int .i64 7,.int .i64 0,.float .f64 0,.string ⟨#[]⟩,.slice q n c] 36 (0,0)) ∧
  (fS w9 w.1.size 7 0 0 ⟨#[]⟩ q n c).1[w.1.size]?=some (.cells #[.int .i64 7,.int .i64 0,.float .f64 0,.string ⟨#[]⟩,.slice q n c] 36 (0,0))∧dD w R S X (.returned (.agg #[.int .i64 7,.int .i64 0,.float .f64 0,.string ⟨#[]⟩,.slice q n c])) (fS w9 w.1.size 7 0 0 ⟨#[]⟩ q n c):=by
 have hz:=(ha.block _ (ae h.z) (by omega)).trans h.z
 have ht:=(ha.block _ (ae h.t) (by omega)).trans h.t
 have hs:=ha.size
 refine⟨hz,ht,aS hR hz rfl hy (h.a.trans ha (fun _ _ h=>h)) (fun v l hx=>⟨fun k=>w.1.size<k∧k<wx.1.size,(ho v l hx).aside ha (fun k hk hc=>by omega),fun j hj=>by omega⟩)⟩
theorem qK{w wx:World}{q:OA}{c:Nat}{ys:List V}{us:Nat->AV}{Fs:Nat->Nat->Prop}(h:aL wx (w.1.size+2) (.slice q ys.length c) ys.length us Fs ys)(hl:ys.length*64<=140737488351232):aG wx (fun k=>w.1.size<k∧k<wx.1.size) (cells5 7 0 0 ⟨#[]⟩ q ys.length c) ⟨7,0,0,⟨#[]⟩,ys⟩:=by
 obtain⟨p2,c2,hv,ho⟩:=h.done hl 7 0 0 ⟨#[]⟩
 injection hv with h1 h2 h3
 subst h1 h3
 exact ho.mono (fun k hk=>by omega)
theorem ns{rf:Tx.Bs->Option Nat}{w:World}{R:Nat}{S:ByteArray}{c0:UInt8}{t:Tx.Bs}(h:an w R S (c0::t))(f d:Nat)(hd:d<=4)(hS:S.size<=1099511627776)(hp:∀l x r,Tx.pval rf f l=.ok (x,r)->r.length<=l.length)(hval:∀w' l',an w' R S l'->Calls Tryz.prog 28 #[.pointer (some ⟨R,0,none⟩),.int .i64 ((d:Int)+1)] w' (dD w' R S (Tx.pval rf f l'))):
  Calls Tryz.prog 60 #[.pointer (some ⟨R,0,none⟩),.int .i64 (d:Nat)] w (dD w R S (if t.head?=some 93 then .ok (⟨7,0,0,⟨#[]⟩,[]⟩,t.tail) else lsq [] (Tx.pits (Tx.pval rf f) (t.length+1) t))):=by
 have hdi:(d:Int)<=4:=by omega
 obtain⟨X,hX⟩:∃X,X=(if t.head?=some 93 then .ok (⟨7,0,0,⟨#[]⟩,[]⟩,t.tail) else lsq [] (Tx.pits (Tx.pval rf f) (t.length+1) t):Tx.R (V×Tx.Bs)):=⟨_,rfl⟩
 rw[<-hX]
 have HX:=tQ hX
 obtain⟨W0,hW0⟩:∃W0,W0=w.alloc (.cells #[.int .i64 0,.int .i64 0,.float .f64 0,.string ⟨#[]⟩,.slice none 0 0] 36):=⟨_,rfl⟩
 obtain⟨W1,hW1⟩:∃W1,W1=W0.alloc (.cells #[.int .i64 7,.int .i64 0,.float .f64 0,.string ⟨#[]⟩,.slice none 0 0] 36):=⟨_,rfl⟩
 have hs0:W0.1.size=w.1.size+1:=by rw[hW0];simp
 have hs1:W1.1.size=w.1.size+2:=by rw[hW1];simp[hs0]
 have hb0:Below w.1.size w W0:=by rw[hW0];exact tY
 have hb1:Below w.1.size w W1:=by rw[hW1];exact hb0.alloc (by omega) _
 have hz1:W1.1[w.1.size]?=some (.cells ar 36 (0,0)):=by rw[hW1,ao W0 _ (by omega),hW0];exact aj w _
 have ht1:W1.1[w.1.size+1]?=some (.cells #[.int .i64 7,.int .i64 0,.float .f64 0,.string ⟨#[]⟩,.slice none 0 0] 36 (0,0)):=by rw[hW1,<-hs0];exact aj W0 _
 have hr1:=h.on hb1
 have hRl:=h.lt
 obtain⟨a,ha⟩:∃a,a=S.size-(c0::t).length:=⟨_,rfl⟩
 have hle:=h.le
 have c1:W1.cell? ⟨R,1,none⟩=some (.int .i64 (a:Int)):=by rw[ha];exact hr1.cell 1
 have t1:=hr1.thawed 1
 obtain⟨hr2,ha2⟩:=hr1.step 1 (by simp) ((a:Int)+1) (by rw[ha];rfl)
 rw[show(c0::t).drop 1=t from rfl] at hr2
 have f5:(a:Int)+1<=140737488351232:=by simp at hle ha;omega
 have f6:(0:Int)<=(a:Int)+1:=by omega
 have hL2:fg w (W1.setCell ⟨R,1,none⟩ (.int .i64 ((a:Int)+1))) R none 0 0:=⟨(ha2.block _ (by omega) (by omega)).trans hz1,(ha2.block _ (by omega) (by omega)).trans ht1,(ag hb1 _).trans ha2 (fun _ _ h=>h)⟩
 obtain⟨W2,hW2⟩:∃W2,W2=W1.setCell ⟨R,1,none⟩ (.int .i64 ((a:Int)+1)):=⟨_,rfl⟩
 rw[<-hW2] at hr2 hL2
 have HI:=tQ (eP hr2 93)
 have HR2:=tQ hr2
 have HL2:=tQ hL2
 have HW2:=tQ hW2
 have HWe:Hid (W2=((w.setCell ⟨R,1,none⟩ (.int .i64 ((a:Int)+1))).alloc (.cells #[.int .i64 0,.int .i64 0,.float .f64 0,.string ⟨#[]⟩,.slice none 0 0] 36)).alloc (.cells #[.int .i64 7,.int .i64 0,.float .f64 0,.string ⟨#[]⟩,.slice none 0 0] 36)):=by show _=_;rw[hW2,hW1,dW (by omega),hW0,dW hRl]
 have HRl:=tQ hRl
 have HS:=tQ hS
 have HP:=tQ hp
 have HVa:=tQ hval
 have hs2:W2.1.size=w.1.size+2:=by rw[hW2];simp[World.setCell,hs1]
 have HS2:=tQ hs2
 rw[hW1,hW0] at c1 t1
 clear h hX hW0 hW1 hs0 hs1 hb0 hb1 hz1 ht1 hr1 hle hr2 ha2 hL2 hW2 hS hp hval ha hs2
 have hRN:¬w.1.size=R:=by omega
 have hRN2:¬R=w.1.size:=by omega
 have hRT:¬w.1.size+1=R:=by omega
 have hRT2:¬R=w.1.size+1:=by omega
 have hTN:¬w.1.size+1=w.1.size:=by omega
 have hTN2:¬w.1.size=w.1.size+1:=by omega
 go_enter Tryz.func60,Tryz.ntmps60
 go_wp2_with fail
 rw[<-HWe.out]
 refine HI.out.mono ?_
 rintro e w2 ⟨rfl,nd,hw2⟩
 have hR2:an w2 R S t:=by rw[hw2];exact HR2.out.drewN nd
 have hL2:fg w w2 R none 0 0:=by rw[hw2];exact⟨HL2.out.z,HL2.out.t,HL2.out.a.drewN nd⟩
 have hs2:w2.1.size=w.1.size+2:=by rw[hw2];exact HS2.out
 clear hw2 HI HR2 HL2 HW2 HWe HS2 c1 t1 f5 f6
 by_cases hh:t.head?=some 93
 ·have g1:decide (t.head?=some 93)=true:=decide_eq_true hh
  rw[g1]
  obtain⟨t',rfl⟩:∃t',t=93::t':=by
   cases t with
   |nil=>cases hh
   |cons x y=>simp at hh;exact⟨y,by rw[hh]⟩
  have HXe:Hid (X=.ok (⟨7,0,0,⟨#[]⟩,[]⟩,t')):=by show X=_;rw[HX.out,if_pos hh];rfl
  obtain⟨b,hb⟩:∃b,b=S.size-(93::t').length:=⟨_,rfl⟩
  have hle:=hR2.le
  have c1:w2.cell? ⟨R,1,none⟩=some (.int .i64 (b:Int)):=by rw[hb];exact hR2.cell 1
  have t1:=hR2.thawed 1
  obtain⟨hr3,ha3⟩:=hR2.step 1 (by simp) ((b:Int)+1) (by rw[hb];rfl)
  rw[show(93::t').drop 1=t' from rfl] at hr3
  have f5:(b:Int)+1<=140737488351232:=by simp at hle hb;have:=HS.out;omega
  have f6:(0:Int)<=(b:Int)+1:=by omega
  have hz2:=hL2.z
  have ht2:=hL2.t
  have y0:w2.cell? ⟨w.1.size+1,0,none⟩=some (.int .i64 7):=ab ht2 0
  have y1:w2.cell? ⟨w.1.size+1,1,none⟩=some (.int .i64 0):=ab ht2 1
  have y2:w2.cell? ⟨w.1.size+1,2,none⟩=some (.float .f64 0):=ab ht2 2
  have y3:w2.cell? ⟨w.1.size+1,3,none⟩=some (.string ⟨#[]⟩):=ab ht2 3
  have y4:w2.cell? ⟨w.1.size+1,4,none⟩=some (.slice none 0 0):=ab ht2 4
  have z0:w2.cell? ⟨w.1.size,0,none⟩=some (.int .i64 0):=ab hz2 0
  have z1:w2.cell? ⟨w.1.size,1,none⟩=some (.int .i64 0):=ab hz2 1
  have z2:w2.cell? ⟨w.1.size,2,none⟩=some (.float .f64 0):=ab hz2 2
  have z3:w2.cell? ⟨w.1.size,3,none⟩=some (.string ⟨#[]⟩):=ab hz2 3
  have z4:w2.cell? ⟨w.1.size,4,none⟩=some (.slice none 0 0):=ab hz2 4
  have zf0:=ac hz2 0
  have zf1:=ac hz2 1
  have zf2:=ac hz2 2
  have zf3:=ac hz2 3
  have zf4:=ac hz2 4
  have HFin:=tQ (f9 (S:=S) (X:=.ok (⟨7,0,0,⟨#[]⟩,[]⟩,t')) HRl.out hL2 hr3 ha3 (fun v l hc=>by cases hc;exact .none))
  clear hR2 hL2 hr3 ha3 hz2 ht2 HX hle hb hh g1
  go_wp2
  refine bodyPost_ret (v:=.agg (cells5 7 0 0 ⟨#[]⟩ none 0 0)) (results_cell_row rfl _ _ w.1.size _ _ _ _ rfl HFin.out.2.2.1 Tryz.underlying36 rfl (by kernel_rfl)) rfl ?_
  rw[HXe.out]
  exact HFin.out.2.2.2
 have g1:decide (t.head?=some 93)=false:=decide_eq_false hh
 rw[g1]
 have HXe:Hid (X=lsq [] (Tx.pits (Tx.pval rf f) (t.length+1) t)):=by show X=_;rw[HX.out,if_neg hh]
 have HR2:=tQ hR2
 have HL2:=tQ hL2
 have HS2:=tQ hs2
 clear hh g1 HX hR2 hL2 hs2
 go_wp2_with fail
 go_loopw [] (fun wr=>∃(q:OA) (n c:Nat),Hid (fg w wr R q n c)∧(Hid (∃(ys:List V) (l:Tx.Bs) (m:Nat),n=ys.length∧(∃us Fs,aL wr (w.1.size+2) (.slice q n c) n us Fs ys)∧an wr R S l∧l.length<m∧ys.length+l.length<=S.size∧X=lsq ys (Tx.pits (Tx.pval rf f) m l))∨Hid (∃e k,ap wr R S e k∧X=.error (e,k)))) (fun wr=>cP wr R S)
 case atStart=>exact⟨none,0,0,HL2,.inl ⟨[],t,t.length+1,rfl,⟨_,_,fB w2 _⟩,HR2.out,by omega,by have:=HR2.out.le;simpa using this,HXe.out⟩⟩
 case round=>
  obtain⟨q,n,c,HL,hgb⟩:=hrel
  rcases hgb with HG | HB
  case inr=>
   obtain⟨e,k,hb,hx⟩:=HB.out
   have c2:=hb.cell2
   have g0:=hb.bad
   have g2:((e:Int)==0)=false:=by rw[beq_eq_false_iff_ne];omega
   have g3:(e==0)=false:=by rw[beq_eq_false_iff_ne];exact g0
   have HM:=tQ (bj hb ⟨#[93]⟩ (by decide))
   have hy:aW wr R S X:=by rw[hx];exact hb
   have hend:=f9 HRl.out HL.out hy (Aside.refl _ _) (fun v l hc=>by rw[hx] at hc;cases hc)
   have HEnd:=tQ hend
   clear HB hb hx hy hend g0 HXe HP HVa HL HR2 HL2 HS2
   go_wp2_with fail
   refine HM.out.mono ?_
   rintro e w9 ⟨rfl,hw9⟩
   subst hw9
   clear HM c2
   obtain⟨hz9,ht9,hfin⟩:=HEnd.out
   have y0:w9.cell? ⟨w.1.size+1,0,none⟩=some (.int .i64 7):=ab ht9 0
   have y1:w9.cell? ⟨w.1.size+1,1,none⟩=some (.int .i64 0):=ab ht9 1
   have y2:w9.cell? ⟨w.1.size+1,2,none⟩=some (.float .f64 0):=ab ht9 2
   have y3:w9.cell? ⟨w.1.size+1,3,none⟩=some (.string ⟨#[]⟩):=ab ht9 3
   have y4:w9.cell? ⟨w.1.size+1,4,none⟩=some (.slice q n c):=ab ht9 4
   have z0:w9.cell? ⟨w.1.size,0,none⟩=some (.int .i64 0):=ab hz9 0
   have zf0:=ac hz9 0
   have z1:w9.cell? ⟨w.1.size,1,none⟩=some (.int .i64 0):=ab hz9 1
   have zf1:=ac hz9 1
   have z2:w9.cell? ⟨w.1.size,2,none⟩=some (.float .f64 0):=ab hz9 2
   have zf2:=ac hz9 2
   have z3:w9.cell? ⟨w.1.size,3,none⟩=some (.string ⟨#[]⟩):=ab hz9 3
   have zf3:=ac hz9 3
   have z4:w9.cell? ⟨w.1.size,4,none⟩=some (.slice none 0 0):=ab hz9 4
   have zf4:=ac hz9 4
   have HFin:=tQ hfin
   clear hz9 ht9 hfin
   go_wp2
   refine bodyPost_ret (v:=.agg (cells5 7 0 0 ⟨#[]⟩ q n c)) (results_cell_row rfl _ _ w.1.size _ _ _ _ rfl HFin.out.1 Tryz.underlying36 rfl (by kernel_rfl)) rfl ?_
   exact HFin.out.2
  obtain⟨ys,l,m,hn,⟨us,Fs,hbt⟩,hrd,hlm,hyl,hx⟩:=HG.out
  subst hn
  have c2:wr.cell? ⟨R,2,none⟩=some (.int .i64 0):=hrd.cell 2
  obtain⟨m,rfl⟩:∃m',m=m'+1:=⟨m-1,by omega⟩
  have HC:=tQ (HVa.out wr l hrd)
  have HMs:Hid (cP wr R S=l.length+1):=hrd.msr
  obtain⟨Y,hY⟩:∃Y,Y=Tx.pval rf f l:=⟨_,rfl⟩
  have HX2:Hid (X=lsq ys (aB Y fun x r=>if r.head?=some 93 then .ok ([x],r) else az (Tx.must [44,32] r) fun r=>aB (Tx.pits (Tx.pval rf f) m r) fun xs r=>.ok (x::xs,r))):=by show X=_;rw[hx,qE,<-hY]
  have HLen:Hid (∀x r,Y=.ok (x,r)->r.length<=l.length):=fun x r hc=>HP.out l x r (hY.symm.trans hc)
  rw[<-hY] at HC
  have HBt:=tQ hbt
  have HLm:=tQ hlm
  have HYl:=tQ hyl
  clear HG hrd hx hY hbt hlm hyl HXe HR2 HL2 HS2
  go_wp2_with fail
  refine HC.out.mono ?_
  rintro e w3 ⟨k,i,b,t3,p,n,c3,rfl,hrd3,ha3,hown3⟩
  have hM:=rX (u:=#[.int .i64 k,.int .i64 i,.float .f64 b,.string t3,.slice p n c3]) HRl.out HL.out HBt.out ha3
  have hT3:w3.1[w.1.size+1]?=some (.cells #[.int .i64 7,.int .i64 0,.float .f64 0,.string ⟨#[]⟩,.slice q ys.length c] 36 (0,0)):=(ha3.block _ (ae HL.out.t) hRT).trans HL.out.t
  have x4:w3.cell? ⟨w.1.size+1,4,none⟩=some (.slice q ys.length c):=ab hT3 4
  have hl3:w.1.size+1<w3.1.size:=ae hT3
  have hl3':¬w.1.size+1=w3.1.size:=by omega
  have hl3'':¬w3.1.size=w.1.size+1:=by omega
  have HRow:=tQ hM.1
  have HNx:=tQ hM.2
  have HRd3:=tQ hrd3
  have HOw:=tQ hown3
  have hsz:(ys.length+1)*64<=140737488355328:=by have:=HYl.out;have:=HS.out;omega
  have hbs:w.1.size+2<=((w3.alloc (.cells #[.int .i64 k,.int .i64 i,.float .f64 b,.string t3,.slice p n c3] 36)).alloc (.cells #[.int .i64 k,.int .i64 i,.float .f64 b,.string t3,.slice p n c3] 36)).1.size:=by simp;omega
  have hnb:((w3.alloc (.cells #[.int .i64 k,.int .i64 i,.float .f64 b,.string t3,.slice p n c3] 36)).alloc (.cells #[.int .i64 k,.int .i64 i,.float .f64 b,.string t3,.slice p n c3] 36)).1[w3.1.size+1]?=some (.cells #[.int .i64 k,.int .i64 i,.float .f64 b,.string t3,.slice p n c3] 36 (0,0)):=by have:=aj (w3.alloc (.cells #[.int .i64 k,.int .i64 i,.float .f64 b,.string t3,.slice p n c3] 36)) (.cells #[.int .i64 k,.int .i64 i,.float .f64 b,.string t3,.slice p n c3] 36);simpa using this
  have HSz:=tQ hsz
  have HBs:=tQ hbs
  have HNb:=tQ hnb
  clear hM hrd3 hown3 hT3 HC c2 hsz hbs hnb ha3 HBt HL
  cases Y with
  |error er=>
   obtain⟨ek,en⟩:=er
   have HXe:Hid (X=.error (ek,en)):=HX2.out
   have g0:ek≠0:=ap.bad HRd3.out
   have g2:((ek:Int) != 0)=true:=by rw[bne_iff_ne];omega
   have g3:(ek != 0)=true:=by rw[bne_iff_ne];exact g0
   clear HX2 g0
   go_wp2_with (at_builtin;refine jn (B:=w.1.size+2) (us:=us) (v:=.slice q ys.length c) (n:=ys.length) HRow.out (u:=#[.int .i64 k,.int .i64 i,.float .f64 b,.string t3,.slice p n c3]) rfl (rB _ _ _ _ _ _ _) (ad:=w3.1.size+1) HNb.out HSz.out HBs.out (H:=w3.1.size+2) (by simp) rfl rfl rfl rfl ?_;intro g cap w6 hr6 hg6 hn6;obtain⟨ht6,hrd6,hL7,hB7⟩:=HNx.out g cap w6 hr6 hg6 (by simpa using hn6);have x6:w6.cell? ⟨w.1.size+1,4,none⟩=some (.slice q ys.length c):=ab ht6 4;have xf6:=ac ht6 4;obtain⟨hd6,hd7⟩:=hrd6 S _ HRd3.out;have c6:w6.cell? ⟨R,2,none⟩=some (.int .i64 (ek:Int)):=ap.cell2 hd6;obtain⟨W7,hW7⟩:∃W7,W7=w6.setCell ⟨w.1.size+1,4,none⟩ (.slice (some ⟨g,0,none⟩) (ys.length+1) cap):=⟨_,rfl⟩;rw[<-hW7] at hd7 hL7 hB7;have HW7:=tQ hW7;have HD7:=tQ hd7;have HL7:=tQ hL7;clear hr6 hg6 hn6 ht6 hrd6 hL7 hB7 hd6 hd7 hW7)
   rw[<-HW7.out]
   have HM:=tQ (bj HD7.out ⟨#[93]⟩ (by decide))
   have HEnd:=tQ (f9 (X:=X) HRl.out HL7.out (by rw[HXe.out];exact HD7.out) (Aside.refl _ _) (fun v l hc=>by rw[HXe.out] at hc;cases hc))
   clear HD7 HL7 HW7 x6 xf6 c6 x4 HRow HNx HRd3 HOw HSz HBs HNb HP HVa
   refine HM.out.mono ?_
   rintro e w9 ⟨rfl,hw9⟩
   subst hw9
   clear HM
   obtain⟨hz9,ht9,hfin⟩:=HEnd.out
   have y0:w9.cell? ⟨w.1.size+1,0,none⟩=some (.int .i64 7):=ab ht9 0
   have y1:w9.cell? ⟨w.1.size+1,1,none⟩=some (.int .i64 0):=ab ht9 1
   have y2:w9.cell? ⟨w.1.size+1,2,none⟩=some (.float .f64 0):=ab ht9 2
   have y3:w9.cell? ⟨w.1.size+1,3,none⟩=some (.string ⟨#[]⟩):=ab ht9 3
   have y4:w9.cell? ⟨w.1.size+1,4,none⟩=some (.slice (some ⟨g,0,none⟩) (ys.length+1) cap):=ab ht9 4
   have z0:w9.cell? ⟨w.1.size,0,none⟩=some (.int .i64 0):=ab hz9 0
   have zf0:=ac hz9 0
   have z1:w9.cell? ⟨w.1.size,1,none⟩=some (.int .i64 0):=ab hz9 1
   have zf1:=ac hz9 1
   have z2:w9.cell? ⟨w.1.size,2,none⟩=some (.float .f64 0):=ab hz9 2
   have zf2:=ac hz9 2
   have z3:w9.cell? ⟨w.1.size,3,none⟩=some (.string ⟨#[]⟩):=ab hz9 3
   have zf3:=ac hz9 3
   have z4:w9.cell? ⟨w.1.size,4,none⟩=some (.slice none 0 0):=ab hz9 4
   have zf4:=ac hz9 4
   have HFin:=tQ hfin
   clear hz9 ht9 hfin
   go_wp2
   refine bodyPost_ret (v:=.agg (cells5 7 0 0 ⟨#[]⟩ (some ⟨g,0,none⟩) (ys.length+1) cap)) (results_cell_row rfl _ _ w.1.size _ _ _ _ rfl HFin.out.1 Tryz.underlying36 rfl (by kernel_rfl)) rfl ?_
   exact HFin.out.2
  |ok xr=>
   obtain⟨x,r⟩:=xr
   have HX3:Hid (X=lsq ys (if r.head?=some 93 then .ok ([x],r) else az (Tx.must [44,32] r) fun r=>aB (Tx.pits (Tx.pval rf f) m r) fun xs r=>.ok (x::xs,r))):=HX2.out
   have HLr:Hid (r.length<=l.length):=HLen.out x r rfl
   clear HX2 HLen
   go_wp2_with (at_builtin;refine jn (B:=w.1.size+2) (us:=us) (v:=.slice q ys.length c) (n:=ys.length) HRow.out (u:=#[.int .i64 k,.int .i64 i,.float .f64 b,.string t3,.slice p n c3]) rfl (rB _ _ _ _ _ _ _) (ad:=w3.1.size+1) HNb.out HSz.out HBs.out (H:=w3.1.size+2) (by simp) rfl rfl rfl rfl ?_;intro g cap w6 hr6 hg6 hn6;obtain⟨ht6,hrd6,hL7,hB7⟩:=HNx.out g cap w6 hr6 hg6 (by simpa using hn6);have x6:w6.cell? ⟨w.1.size+1,4,none⟩=some (.slice q ys.length c):=ab ht6 4;have xf6:=ac ht6 4;obtain⟨hd6,hd7⟩:=hrd6 S _ HRd3.out;have c6:w6.cell? ⟨R,2,none⟩=some (.int .i64 0):=an.cell hd6 2;obtain⟨W7,hW7⟩:∃W7,W7=w6.setCell ⟨w.1.size+1,4,none⟩ (.slice (some ⟨g,0,none⟩) (ys.length+1) cap):=⟨_,rfl⟩;rw[<-hW7] at hd7 hL7 hB7;have HW7:=tQ hW7;have HD7:=tQ hd7;have HL7:=tQ hL7;have HB7:=tQ (hB7 x (HOw.out x r rfl));clear hr6 hg6 hn6 ht6 hrd6 hL7 hB7 hd6 hd7 hW7)
   rw[<-HW7.out]
   have HIs:=tQ (eP HD7.out 93)
   clear HW7 x6 xf6 c6 x4 HRow HNx HRd3 HOw HBs HNb
   refine HIs.out.mono ?_
   rintro e w8 ⟨rfl,nd,hw8⟩
   have HD8:Hid (an w8 R S r):=by rw[hw8];exact an.drewN HD7.out nd
   have HL8:Hid (fg w w8 R (some ⟨g,0,none⟩) (ys.length+1) cap):=by rw[hw8];exact⟨HL7.out.z,HL7.out.t,HL7.out.a.drewN nd⟩
   have HB8:Hid (∃us' Fs',aL w8 (w.1.size+2) (.slice (some ⟨g,0,none⟩) (ys.length+1) cap) (ys.length+1) us' Fs' (ys++[x])):=by
    obtain⟨us',Fs',hb⟩:=HB7.out
    rw[hw8]
    exact⟨us',Fs',hb.aside (am (fun _=>False) W7 nd) (fun _ _ h=>h) (fun _ _ _ _ h=>h)⟩
   clear hw8 HIs HD7 HL7 HB7
   by_cases hh:r.head?=some 93
   ·have g1:decide (r.head?=some 93)=true:=decide_eq_true hh
    rw[g1]
    have HX4:Hid (X=lsq ys (.ok ([x],r))):=by show X=_;rw[HX3.out,if_pos hh]
    have HM:=tQ (bb HD8.out ⟨#[93]⟩ (by decide))
    rw[show(ByteArray.mk #[93]).data.toList=[93] from rfl] at HM
    have HOwn:Hid (aG w8 (fun k=>w.1.size<k∧k<w8.1.size) (cells5 7 0 0 ⟨#[]⟩ (some ⟨g,0,none⟩) (ys.length+1) cap) ⟨7,0,0,⟨#[]⟩,ys++[x]⟩):=by
     obtain⟨us',Fs',hb⟩:=HB8.out
     have el:(ys++[x]).length=ys.length+1:=by simp
     have:=qK (w:=w) (wx:=w8) (q:=some ⟨g,0,none⟩) (c:=cap) (ys:=ys++[x]) (by rw[el];exact hb) (by rw[el];have:=HYl.out;have:=HS.out;omega)
     rw[el] at this
     exact this
    clear hh g1 HX3 HD8 HB8
    go_wp2_with fail
    refine HM.out.mono ?_
    rintro e w9 ⟨rfl,hq,ha9⟩
    have hy:aW w9 R S X∧∀v l,X=.ok (v,l)->v=⟨7,0,0,⟨#[]⟩,ys++[x]⟩:=by
     have hx4:X=match Tx.must [93] r with
       |.error e=>.error e
       |.ok r=>.ok (⟨7,0,0,⟨#[]⟩,ys++[x]⟩,r):=HX4.out
     rw[hx4]
     cases hm:Tx.must [93] r with
     |error y=>obtain⟨e,m⟩:=y;rw[hm] at hq;exact⟨hq,fun v l hc=>by cases hc⟩
     |ok r3=>rw[hm] at hq;exact⟨hq,fun v l hc=>by cases hc;rfl⟩
    have HEnd:=tQ (f9 (X:=X) HRl.out HL8.out hy.1 ha9 (fun v l hc=>by rw[hy.2 v l hc];exact HOwn.out))
    clear hq ha9 hy HM HX4 HOwn HL8 HP HVa
    obtain⟨hz9,ht9,hfin⟩:=HEnd.out
    have y0:w9.cell? ⟨w.1.size+1,0,none⟩=some (.int .i64 7):=ab ht9 0
    have y1:w9.cell? ⟨w.1.size+1,1,none⟩=some (.int .i64 0):=ab ht9 1
    have y2:w9.cell? ⟨w.1.size+1,2,none⟩=some (.float .f64 0):=ab ht9 2
    have y3:w9.cell? ⟨w.1.size+1,3,none⟩=some (.string ⟨#[]⟩):=ab ht9 3
    have y4:w9.cell? ⟨w.1.size+1,4,none⟩=some (.slice (some ⟨g,0,none⟩) (ys.length+1) cap):=ab ht9 4
    have z0:w9.cell? ⟨w.1.size,0,none⟩=some (.int .i64 0):=ab hz9 0
    have zf0:=ac hz9 0
    have z1:w9.cell? ⟨w.1.size,1,none⟩=some (.int .i64 0):=ab hz9 1
    have zf1:=ac hz9 1
    have z2:w9.cell? ⟨w.1.size,2,none⟩=some (.float .f64 0):=ab hz9 2
    have zf2:=ac hz9 2
    have z3:w9.cell? ⟨w.1.size,3,none⟩=some (.string ⟨#[]⟩):=ab hz9 3
    have zf3:=ac hz9 3
    have z4:w9.cell? ⟨w.1.size,4,none⟩=some (.slice none 0 0):=ab hz9 4
    have zf4:=ac hz9 4
    have HFin:=tQ hfin
    clear hz9 ht9 hfin
    go_wp2
    refine bodyPost_ret (v:=.agg (cells5 7 0 0 ⟨#[]⟩ (some ⟨g,0,none⟩) (ys.length+1) cap)) (results_cell_row rfl _ _ w.1.size _ _ _ _ rfl HFin.out.1 Tryz.underlying36 rfl (by kernel_rfl)) rfl ?_
    exact HFin.out.2
   ·have g1:decide (r.head?=some 93)=false:=decide_eq_false hh
    rw[g1]
    have HX4:Hid (X=lsq ys (az (Tx.must [44,32] r) fun r=>aB (Tx.pits (Tx.pval rf f) m r) fun xs r=>.ok (x::xs,r))):=by show X=_;rw[HX3.out,if_neg hh]
    have HM:=tQ (bb HD8.out ⟨#[44,32]⟩ (by decide))
    rw[show(ByteArray.mk #[44,32]).data.toList=[44,32] from rfl] at HM
    clear hh g1 HX3
    go_wp2_with fail
    refine HM.out.mono ?_
    rintro e w9 ⟨rfl,hq,ha9⟩
    have hL9:fg w w9 R (some ⟨g,0,none⟩) (ys.length+1) cap:=⟨(ha9.block _ (ae HL8.out.z) hRN).trans HL8.out.z,(ha9.block _ (ae HL8.out.t) hRT).trans HL8.out.t,HL8.out.a.trans ha9 (fun _ _ h=>h)⟩
    have HRel:Hid ((∃(q:OA) (n c:Nat),Hid (fg w w9 R q n c)∧(Hid (∃(ys:List V) (l:Tx.Bs) (m:Nat),n=ys.length∧(∃us Fs,aL w9 (w.1.size+2) (.slice q n c) n us Fs ys)∧an w9 R S l∧l.length<m∧ys.length+l.length<=S.size∧X=lsq ys (Tx.pits (Tx.pval rf f) m l))∨Hid (∃e k,ap w9 R S e k∧X=.error (e,k))))∧cP w9 R S<cP wr R S):=by
     show _∧_
     rw[HMs.out]
     cases hm:Tx.must [44,32] r with
     |error y=>
      obtain⟨e,m'⟩:=y
      rw[hm] at hq
      have hq:ap w9 R S e m':=hq
      refine⟨⟨_,_,_,hL9,.inr ⟨e,m',hq,?_⟩⟩,by rw[hq.msr];omega⟩
      rw[HX4.out,hm];rfl
     |ok r3=>
      rw[hm] at hq
      have hq:an w9 R S r3:=hq
      obtain⟨us',Fs',hb⟩:=HB8.out
      have hr3:=Tx.must_ok _ _ _ hm
      have hl3:=congrArg List.length hr3
      rw[List.length_append] at hl3
      have hl4:r.length=2+r3.length:=hl3
      have h1:=HLr.out
      have h2:=HLm.out
      have h3:=HYl.out
      have hRl:=HRl.out
      refine⟨⟨_,_,_,hL9,.inl ⟨ys++[x],r3,m,by simp,⟨us',Fs',hb.aside ha9 (fun g hg he=>by have:=(hb.lt g hg).1;omega) (fun j hj k hk he=>by have:=(hb.range j hj k hk).1;omega)⟩,hq,by omega,by rw[List.length_append,List.length_singleton];omega,?_⟩⟩,by rw[hq.msr];omega⟩
      rw[HX4.out,hm,pw]
      rfl
    clear hq ha9 hL9 HM HX4 HD8 HL8 HB8 HLr HLm HYl HMs
    go_wp2
    go_roundw
    case rel=>exact HRel.out.1
    case measure=>exact HRel.out.2
end
end Go.Proofs.YtllbniljgcgbeaaGreatDoor

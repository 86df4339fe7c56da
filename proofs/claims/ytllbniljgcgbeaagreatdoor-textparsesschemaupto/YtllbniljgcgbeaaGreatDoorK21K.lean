import Derived.Test.YtllbniljgcgbeaaGreatDoorA15
set_option maxRecDepth 100000
set_option maxHeartbeats 8000000
namespace Go.Proofs.YtllbniljgcgbeaaGreatDoor
open Go.RowKit
attribute [local go_sem] ah
theorem aG.one{w:World}{F G:Nat->Prop}{k i:Int}{b:Nat}{t:ByteArray}{g:Nat}{u:AV}{x:V}{T:TypeId}(hg:w.1[g]?=Option.some (.cells u T (0,0)))(h:aG w F u x)(hF:∀k,F k->G k)(hgF:¬F g)(hGg:G g):aG w G (cells5 k i b t (.some ⟨g,0,.none⟩) 1 1) (.mk k i b t [x]):=by
 have h5:=h.five
 refine aG.some (xs:=[x]) (fun _=>u) (fun _=>F) (by simp) (by simp) (fun _ _=>h5) ⟨ae hg,fun j hj m hm=>?_⟩ (fun j hj m hm=>by simp[World.frozen?,hg]) hGg (fun j hj=>hgF) (fun j m hj hm hjm=>by simp at hj hm;omega) (fun j hj k hk=>hF k hk) (fun j hj=>?_) ⟨u,T,hg,by omega,by unfold maxLen;omega⟩
 ·simp at hj
  subst hj
  rw[ab hg]
  simp
 ·simp at hj
  subst hj
  exact h
theorem eG{w w5:World}{P:Nat}{S:ByteArray}{C:AV}{x:V}{l:Tx.Bs}(h:w5.1[w.1.size]?=some (.cells C 36 (0,0))∧bl w x (.agg C) w5∧Prs w5 P S l∧Aside (fun i=>i=P) w w5)(o:Obj):(w5.alloc o).1[w.1.size]?=some (.cells C 36 (0,0))∧bl w x (.agg C) (w5.alloc o)∧Prs (w5.alloc o) P S l∧Aside (fun i=>i=P) w (w5.alloc o):=by
 obtain⟨h1,⟨u,hu,h2⟩,h3,h4⟩:=h
 have hb:Below w5.1.size w5 (w5.alloc o):=tY
 refine⟨ay h1 hb (ae h1),⟨u,hu,(h2.under hb (fun k hk=>hk.2)).mono (fun k hk=>⟨hk.1,Nat.lt_of_lt_of_le hk.2 hb.size⟩)⟩,h3.on hb,h4.alloc o⟩
theorem str_eq{a b:Tx.Bs}(h:a=b):(a==b)=true:=by rw[beq_iff_eq];exact h
theorem cz{a b:Tx.Bs}(h:a≠b):(a==b)=false:=by rw[beq_eq_false_iff_ne];exact h
theorem sx{rf:Tx.Bs->Option Nat}{w:World}{P:Nat}{S:ByteArray}{l:Tx.Bs}(h:Prs w P S l)(f d:Nat)(hd:d<=4)(hval:∀w' l',Prs w' P S l'->Calls Tryz.prog 64 #[.pointer (some ⟨P,0,none⟩),.int .i64 ((d:Int)+1)] w' (PsA w' P S (Tx.pval rf f l') (bl w'))):
  Calls Tryz.prog 99 #[.pointer (some ⟨P,0,none⟩),.int .i64 (d:Nat)] w (PsA w P S (ii rf f l) (bl w)):=by
 have hdi:(d:Int)<=4:=by omega
 obtain⟨W0,hW0⟩:∃W0,W0=w.alloc (.cells #[.int .i64 0,.int .i64 0,.float .f64 0,.string ⟨#[]⟩,.slice none 0 0] 36):=⟨_,rfl⟩
 have HB0:Hid (Below w.1.size w W0):=by rw[hW0];exact tY
 have HN0:Hid (W0.1[w.1.size]?=some (.cells ar 36 (0,0))):=by rw[hW0];exact aj w _
 have HW0:=tQ hW0
 have h0:=h.on HB0.out
 have HL:=tQ (fK h0)
 obtain⟨wd,hwd⟩:∃wd,wd=l.takeWhile Sch.low:=⟨_,rfl⟩
 obtain⟨r0,hr0⟩:∃r,r=l.dropWhile Sch.low:=⟨_,rfl⟩
 have hsp:l=wd++r0:=by rw[hwd,hr0];exact(List.takeWhile_append_dropWhile).symm
 obtain⟨R,hR⟩:∃R,R=ii rf f l:=⟨_,rfl⟩
 have HRR:Hid (R=if wd=[116,114,117,101] then .ok (⟨1,1,0,⟨#[]⟩,[]⟩,r0) else if wd=[102,97,108,115,101] then .ok (⟨1,0,0,⟨#[]⟩,[]⟩,r0) else if wd=[110,111,110,101] then .ok (⟨6,0,0,⟨#[]⟩,[]⟩,r0)
  else if wd=[115,111,109,101] then az (Tx.must [40] r0) fun r=>aB (Tx.pval rf f r) fun x r=>az (Tx.must [41] r) fun r=>.ok (⟨6,0,0,⟨#[]⟩,[x]⟩,r) else .error (5,l.length)):=by show R=_;rw[hR,hwd,hr0];rfl
 rw[<-hR]
 rw[<-hwd] at HL
 have HPlt:=tQ h.lt
 have HH0:=tQ h0
 have hll:l.length=wd.length+r0.length:=by rw[hsp,List.length_append]
 have hsm:=h.small
 have hle:=h.le
 have HSp:=tQ hsp
 have HVa:=tQ hval
 have HA0:=tQ (ag HB0.out (fun i=>i=P))
 clear h h0 hW0 hwd hr0 hR hsp hval
 obtain⟨a,ha⟩:∃a,S.size-l.length=a:=⟨_,rfl⟩
 have HAL:Hid (a+wd.length=S.size-r0.length):=by show _=_;omega
 have HAS:Hid (S.size-l.length=a):=ha
 have g5:(a:Int)+(wd.length:Int)<=140737488351232:=by omega
 have e9:(ByteArray.mk wd.toArray).toList=wd:=by rw[ByteArray.toList_eq]
 clear ha hll hle hsm
 go_enter Tryz.func99,Tryz.ntmps99
 go_wp2_with fail
 rw[<-HW0.out]
 refine HL.out.mono ?_
 rintro e w1 ⟨rfl,hb1⟩
 have HH1:=tQ (HH0.out.on hb1)
 have HA1:=tQ (HA0.out.trans (ag hb1 (fun i=>i=P)) (fun _ _ h=>h))
 have HN1:Hid (w1.1[w.1.size]?=some (.cells ar 36 (0,0))):=ay HN0.out hb1 (ae HN0.out)
 clear hb1 HL HB0 HN0 HH0 HA0 HW0
 have hlt1:w.1.size<w1.1.size:=ae HN1.out
 have hP1:P<w1.1.size:=HH1.out.lt
 have hPT:¬w1.1.size=P:=by omega
 have hPT2:¬P=w1.1.size:=by omega
 have hPN:¬w.1.size=P:=by have:=HPlt.out;omega
 have hPN2:¬P=w.1.size:=by omega
 have hTN:¬w1.1.size=w.1.size:=by omega
 have hTN2:¬w.1.size=w1.1.size:=by omega
 have c1:w1.cell? ⟨P,1,none⟩=some (.int .i64 (a:Int)):=by rw[<-HAS.out];exact HH1.out.cell 1
 have t1:=HH1.out.thawed 1
 have zf0:=ac HN1.out 0
 have zf1:=ac HN1.out 1
 have zf2:=ac HN1.out 2
 have zf3:=ac HN1.out 3
 have zf4:=ac HN1.out 4
 have z0:w1.cell? ⟨w.1.size,0,none⟩=some (.int .i64 0):=ab HN1.out 0
 have z1:w1.cell? ⟨w.1.size,1,none⟩=some (.int .i64 0):=ab HN1.out 1
 have z2:w1.cell? ⟨w.1.size,2,none⟩=some (.float .f64 0):=ab HN1.out 2
 have z3:w1.cell? ⟨w.1.size,3,none⟩=some (.string ⟨#[]⟩):=ab HN1.out 3
 have z4:w1.cell? ⟨w.1.size,4,none⟩=some (.slice none 0 0):=ab HN1.out 4
 obtain⟨V,hV⟩:∃V,V=w1.setCell ⟨P,1,none⟩ (.int .i64 ((a:Int)+(wd.length:Int))):=⟨_,rfl⟩
 have HPV:Hid (Prs V P S r0):=by
  have hh:Prs w1 P S (wd++r0):=by rw[<-HSp.out];exact HH1.out
  rw[hV];exact hh.skip (by have:=HAL.out;omega)
 have haV:Aside (fun i=>i=P) w1 V:=by rw[hV];exact bu _ _ _
 have HAV:=tQ (HA1.out.trans haV (fun _ _ h=>h))
 have HNV:Hid (V.1[w.1.size]?=some (.cells ar 36 (0,0))):=(haV.block _ hlt1 hPN).trans HN1.out
 have hsV:V.1.size=w1.1.size:=by rw[hV];simp[World.setCell]
 have HVe:=tQ hV
 clear hV haV
 by_cases q1:wd=[116,114,117,101]
 ·have e1:=str_eq q1
  have es:(wd==[115,111,109,101])=false:=by rw[q1];decide
  have HRk:Hid (R=.ok (⟨1,1,0,⟨#[]⟩,[]⟩,r0)):=by show R=_;rw[HRR.out,if_pos q1]
  have HFin:=tQ (fun w5 hw5=>ee (w5:=w5) (k:=1) (i:=1) (b:=0) (t:=⟨#[]⟩) (q:=none) (n:=0) (c:=0) (x:=⟨1,1,0,⟨#[]⟩,[]⟩) (F:=fun _=>False) HPlt.out HNV.out .none (fun _ h=>h.elim) HPV.out HAV.out hw5)
  clear HRR HVa HH1 HA1 HN1 q1
  go_wp2
  rw[<-HVe.out]
  obtain⟨f1,f2,f3,f4⟩:=eG (HFin.out _ rfl) (.cells #[.int .i64 1,.int .i64 1,.float .f64 0,.string ⟨#[]⟩,.slice none 0 0] 36)
  refine bodyPost_ret (v:=.agg (cells5 1 1 0 ⟨#[]⟩ none 0 0)) (results_cell_row rfl _ _ w.1.size _ _ _ _ rfl f1 Tryz.underlying36 rfl (by kernel_rfl)) rfl ?_
  rw[HRk.out]
  exact⟨_,rfl,f2,f3,f4⟩
 have e1:=cz q1
 by_cases q2:wd=[102,97,108,115,101]
 ·have e2:=str_eq q2
  have es:(wd==[115,111,109,101])=false:=by rw[q2];decide
  have HRk:Hid (R=.ok (⟨1,0,0,⟨#[]⟩,[]⟩,r0)):=by show R=_;rw[HRR.out,if_neg q1,if_pos q2]
  have HFin:=tQ (fun w5 hw5=>ee (w5:=w5) (k:=1) (i:=0) (b:=0) (t:=⟨#[]⟩) (q:=none) (n:=0) (c:=0) (x:=⟨1,0,0,⟨#[]⟩,[]⟩) (F:=fun _=>False) HPlt.out HNV.out .none (fun _ h=>h.elim) HPV.out HAV.out hw5)
  clear HRR HVa HH1 HA1 HN1 q1 q2
  go_wp2
  rw[<-HVe.out]
  obtain⟨f1,f2,f3,f4⟩:=eG (HFin.out _ rfl) (.cells #[.int .i64 1,.int .i64 0,.float .f64 0,.string ⟨#[]⟩,.slice none 0 0] 36)
  refine bodyPost_ret (v:=.agg (cells5 1 0 0 ⟨#[]⟩ none 0 0)) (results_cell_row rfl _ _ w.1.size _ _ _ _ rfl f1 Tryz.underlying36 rfl (by kernel_rfl)) rfl ?_
  rw[HRk.out]
  exact⟨_,rfl,f2,f3,f4⟩
 have e2:=cz q2
 by_cases q3:wd=[110,111,110,101]
 ·have e3:=str_eq q3
  have es:(wd==[115,111,109,101])=false:=by rw[q3];decide
  have HRk:Hid (R=.ok (⟨6,0,0,⟨#[]⟩,[]⟩,r0)):=by show R=_;rw[HRR.out,if_neg q1,if_neg q2,if_pos q3]
  have HFin:=tQ (fun w5 hw5=>ee (w5:=w5) (k:=6) (i:=0) (b:=0) (t:=⟨#[]⟩) (q:=none) (n:=0) (c:=0) (x:=⟨6,0,0,⟨#[]⟩,[]⟩) (F:=fun _=>False) HPlt.out HNV.out .none (fun _ h=>h.elim) HPV.out HAV.out hw5)
  clear HRR HVa HH1 HA1 HN1 q1 q2 q3
  go_wp2
  rw[<-HVe.out]
  obtain⟨f1,f2,f3,f4⟩:=eG (HFin.out _ rfl) (.cells #[.int .i64 6,.int .i64 0,.float .f64 0,.string ⟨#[]⟩,.slice none 0 0] 36)
  refine bodyPost_ret (v:=.agg (cells5 6 0 0 ⟨#[]⟩ none 0 0)) (results_cell_row rfl _ _ w.1.size _ _ _ _ rfl f1 Tryz.underlying36 rfl (by kernel_rfl)) rfl ?_
  rw[HRk.out]
  exact⟨_,rfl,f2,f3,f4⟩
 have e3:=cz q3
 by_cases q4:wd=[115,111,109,101]
 case neg=>
  have e4:=cz q4
  have HRe:Hid (R=.error (5,l.length)):=by show R=_;rw[HRR.out,if_neg q1,if_neg q2,if_neg q3,if_neg q4]
  have hbT:Below w1.1.size w1 (w1.alloc (.cells #[.int .i64 1,.int .i64 0,.float .f64 0,.string ⟨#[]⟩,.slice none 0 0] 36)):=tY
  have HNd:=tQ (aN (HH1.out.on hbT) 5 l.length rfl)
  have HAT:=tQ (HA1.out.trans (ag hbT (fun i=>i=P)) (fun _ _ h=>h))
  clear HRR HVa hbT q1 q2 q3 q4
  go_wp2_with fail
  refine HNd.out.mono ?_
  rintro e w2 ⟨rfl,hw2⟩
  rw[hw2]
  clear hw2 w2 HNd
  go_wp2
  rw[HRe.out]
  exact⟨rfl,rfl,HAT.out⟩
 have e4:=str_eq q4
 have HR2:Hid (R=az (Tx.must [40] r0) fun r=>aB (Tx.pval rf f r) fun x r=>az (Tx.must [41] r) fun r=>.ok (⟨6,0,0,⟨#[]⟩,[x]⟩,r)):=by show R=_;rw[HRR.out,if_neg q1,if_neg q2,if_neg q3,if_pos q4]
 obtain⟨W1,hW1⟩:∃W1,W1=V.alloc (.cells #[.int .i64 6,.int .i64 0,.float .f64 0,.string ⟨#[]⟩,.slice none 0 0] 36):=⟨_,rfl⟩
 have hb1:Below V.1.size V W1:=by rw[hW1];exact tY
 have p1:Prs W1 P S r0:=HPV.out.on hb1
 have HP1:=tQ p1
 have HA1:=tQ (HAV.out.trans (ag hb1 (fun i=>i=P)) (fun _ _ h=>h))
 have HN1:Hid (W1.1[w.1.size]?=some (.cells ar 36 (0,0))):=ay HNV.out hb1 (ae HNV.out)
 have HT1:Hid (W1.1[w1.1.size]?=some (.cells #[.int .i64 6,.int .i64 0,.float .f64 0,.string ⟨#[]⟩,.slice none 0 0] 36 (0,0))):=by rw[hW1,<-hsV];exact aj V _
 have HW1:Hid (W1=(w1.setCell ⟨P,1,none⟩ (.int .i64 ((a:Int)+(wd.length:Int)))).alloc (.cells #[.int .i64 6,.int .i64 0,.float .f64 0,.string ⟨#[]⟩,.slice none 0 0] 36)):=by show _=_;rw[hW1,HVe.out]
 have HPa:=tQ (cO p1 ⟨#[40]⟩ (by decide))
 rw[show(ByteArray.mk #[40]).data.toList=[40] from rfl] at HPa
 obtain⟨G,hG⟩:∃G,G=Tx.must [40] r0:=⟨_,rfl⟩
 rw[<-hG] at HPa HR2
 clear hG p1 hW1 hb1 HRR q1 q2 q3 q4 HPV HAV HNV hsV HVe HH1
 cases G with
 |error er=>
  obtain⟨ek,en⟩:=er
  have HRe:Hid (R=.error (ek,en)):=HR2.out
  clear HR2
  go_wp2_with fail
  rw[<-HW1.out]
  refine HPa.out.mono ?_
  intro e w3 hh
  obtain⟨he,ha3⟩:=hh.bad
  subst he
  have HA3:=tQ (HA1.out.trans ha3 (fun _ _ h=>h))
  clear hh ha3 HPa
  go_wp2
  rw[HRe.out]
  exact⟨rfl,rfl,HA3.out⟩
 |ok r1=>
  have HR3:Hid (R=aB (Tx.pval rf f r1) fun x r=>az (Tx.must [41] r) fun r=>.ok (⟨6,0,0,⟨#[]⟩,[x]⟩,r)):=HR2.out
  clear HR2
  go_wp2_with fail
  rw[<-HW1.out]
  refine HPa.out.mono ?_
  intro e w3 hh
  obtain⟨he,hp3,ha3⟩:=hh.good
  subst he
  have HA3:=tQ (HA1.out.trans ha3 (fun _ _ h=>h))
  have HT3:Hid (w3.1[w1.1.size]?=some (.cells #[.int .i64 6,.int .i64 0,.float .f64 0,.string ⟨#[]⟩,.slice none 0 0] 36 (0,0))):=(ha3.block _ (ae HT1.out) hPT).trans HT1.out
  have HN3:Hid (w3.1[w.1.size]?=some (.cells ar 36 (0,0))):=(ha3.block _ (ae HN1.out) hPN).trans HN1.out
  have HCa:=tQ (HVa.out w3 r1 hp3)
  obtain⟨Y,hY⟩:∃Y,Y=Tx.pval rf f r1:=⟨_,rfl⟩
  rw[<-hY] at HCa HR3
  clear hh hp3 ha3 HPa HVa hY HW1 HP1 HN1 HT1 c1 t1 z0 z1 z2 z3 z4 zf0 zf1 zf2 zf3 zf4
  cases Y with
  |error er=>
   obtain⟨ek,en⟩:=er
   have HRe:Hid (R=.error (ek,en)):=HR3.out
   clear HR3
   go_wp2_with fail
   refine HCa.out.mono ?_
   intro e w4 hh
   obtain⟨he,ha4⟩:=hh.bad
   subst he
   have HA4:=tQ (HA3.out.trans ha4 (fun _ _ h=>h))
   clear hh ha4 HCa
   go_wp2
   rw[HRe.out]
   exact⟨rfl,rfl,HA4.out⟩
  |ok xr=>
   obtain⟨x,r2⟩:=xr
   have HR4:Hid (R=az (Tx.must [41] r2) fun r=>.ok (⟨6,0,0,⟨#[]⟩,[x]⟩,r)):=HR3.out
   clear HR3
   go_wp2_with fail
   refine HCa.out.mono ?_
   intro e w4 hh
   obtain⟨v4,he,hv4,hp4,ha4⟩:=hh.good
   obtain⟨u4,hu4,hown4⟩:=hv4.open
   obtain⟨k4,i4,b4,x4,p4,n4,c4,hsh⟩:=hown4.shape
   subst hsh
   unfold cells5 at hu4 hown4
   subst hu4
   subst he
   have hT4:w4.1[w1.1.size]?=some (.cells #[.int .i64 6,.int .i64 0,.float .f64 0,.string ⟨#[]⟩,.slice none 0 0] 36 (0,0)):=(ha4.block _ (ae HT3.out) hPT).trans HT3.out
   have hN4:w4.1[w.1.size]?=some (.cells ar 36 (0,0)):=(ha4.block _ (ae HN3.out) hPN).trans HN3.out
   have hl4:w1.1.size<w4.1.size:=ae hT4
   have hTe:¬w1.1.size=w4.1.size:=by omega
   have hTe2:¬w4.1.size=w1.1.size:=by omega
   obtain⟨W5,hW6⟩:∃W5,W5=(w4.setCell ⟨w1.1.size,4,none⟩ (.slice (some ⟨w4.1.size,0,none⟩) 1 1)).alloc (.cells #[.int .i64 k4,.int .i64 i4,.float .f64 b4,.string x4,.slice p4 n4 c4] 36):=⟨_,rfl⟩
   have hW5:W5=(w4.alloc (.cells #[.int .i64 k4,.int .i64 i4,.float .f64 b4,.string x4,.slice p4 n4 c4] 36)).setCell ⟨w1.1.size,4,none⟩ (.slice (some ⟨w4.1.size,0,none⟩) 1 1):=by rw[hW6];exact(dW hl4 _).symm
   obtain⟨w4a,hw4a⟩:∃w4a,w4a=w4.alloc (.cells #[.int .i64 k4,.int .i64 i4,.float .f64 b4,.string x4,.slice p4 n4 c4] 36):=⟨_,rfl⟩
   rw[<-hw4a] at hW5
   have hbA:Below w4.1.size w4 w4a:=by rw[hw4a];exact tY
   have hsA:w4a.1.size=w4.1.size+1:=by rw[hw4a];simp
   have hTA:=ay hT4 hbA hl4
   have ha5:Aside (fun i=>i=w1.1.size) w4a W5:=by rw[hW5];exact(Aside.refl (fun k=>k=w1.1.size) _).setCell (p:=⟨w1.1.size,4,none⟩) (.inl rfl) _
   have hs5:W5.1.size=w4.1.size+1:=by rw[hW5];simp[World.setCell,hsA]
   have HT5:Hid (W5.1[w1.1.size]?=some (.cells #[.int .i64 6,.int .i64 0,.float .f64 0,.string ⟨#[]⟩,.slice (some ⟨w4.1.size,0,none⟩) 1 1] 36 (0,0))):=by rw[hW5,ai hTA 4];rfl
   have HN5:Hid (W5.1[w.1.size]?=some (.cells ar 36 (0,0))):=(ha5.block _ (by omega) hTN2).trans (ay hN4 hbA (ae hN4))
   have hG5:W5.1[w4.1.size]?=some (.cells #[.int .i64 k4,.int .i64 i4,.float .f64 b4,.string x4,.slice p4 n4 c4] 36 (0,0)):=(ha5.block _ (by omega) hTe2).trans (by rw[hw4a];exact aj w4 _)
   have hPlt:=HPlt.out
   have HP5:=tQ ((hp4.on hbA).aside ha5 (fun k hk=>by omega))
   have hs4:=ha4.size
   have ha45:Aside (fun i=>i=w1.1.size) w4 W5:=(ag hbA _).trans ha5 (fun _ _ h=>h)
   have hs3:w1.1.size<w3.1.size:=ae HT3.out
   have hO5:aG W5 (fun k=>w.1.size<k∧k<W5.1.size) (cells5 6 0 0 ⟨#[]⟩ (some ⟨w4.1.size,0,none⟩) 1 1) ⟨6,0,0,⟨#[]⟩,[x]⟩:=by
    refine aG.one hG5 (hown4.aside ha45 (fun k hk he=>by omega)) (fun k hk=>?_) (fun hc=>?_) ?_
    ·omega
    ·omega
    ·omega
   have HO5:=tQ hO5
   have HA5:=tQ ((HA3.out.trans ha4 (fun _ _ h=>h)).trans ha45 (fun i hi he=>by omega))
   have tc1:w4.cell? ⟨w1.1.size,4,none⟩=some (.slice none 0 0):=ab hT4 4
   have tf1:=ac hT4 4
   have HPb:=tQ (cO HP5.out ⟨#[41]⟩ (by decide))
   rw[show(ByteArray.mk #[41]).data.toList=[41] from rfl] at HPb
   obtain⟨Z,hZ⟩:∃Z,Z=Tx.must [41] r2:=⟨_,rfl⟩
   rw[<-hZ] at HR4 HPb
   have HW5:=tQ hW6
   clear hh hv4 hp4 ha4 hown4 hW5 hW6 hw4a hbA hsA hTA ha5 hG5 hPlt hs4 ha45 hs3 hO5 hZ HCa hT4 hN4 hs5
   go_wp2_with fail
   rw[<-HW5.out]
   cases Z with
   |error er=>
    obtain⟨ek,en⟩:=er
    have HRe:Hid (R=.error (ek,en)):=HR4.out
    clear HR4
    refine HPb.out.mono ?_
    intro e w6 hh
    obtain⟨he,ha6⟩:=hh.bad
    subst he
    have HA6:=tQ (HA5.out.trans ha6 (fun _ _ h=>h))
    clear hh ha6 HPb
    go_wp2
    rw[HRe.out]
    exact⟨rfl,rfl,HA6.out⟩
   |ok r3=>
    have HRk:Hid (R=.ok (⟨6,0,0,⟨#[]⟩,[x]⟩,r3)):=HR4.out
    clear HR4
    refine HPb.out.mono ?_
    intro e w6 hh
    obtain⟨he,hp6,ha6⟩:=hh.good
    subst he
    have HA6:=tQ (HA5.out.trans ha6 (fun _ _ h=>h))
    have hT6:w6.1[w1.1.size]?=some (.cells #[.int .i64 6,.int .i64 0,.float .f64 0,.string ⟨#[]⟩,.slice (some ⟨w4.1.size,0,none⟩) 1 1] 36 (0,0)):=(ha6.block _ (ae HT5.out) hPT).trans HT5.out
    have HN6:Hid (w6.1[w.1.size]?=some (.cells ar 36 (0,0))):=(ha6.block _ (ae HN5.out) hPN).trans HN5.out
    have y0:w6.cell? ⟨w1.1.size,0,none⟩=some (.int .i64 6):=ab hT6 0
    have y1:w6.cell? ⟨w1.1.size,1,none⟩=some (.int .i64 0):=ab hT6 1
    have y2:w6.cell? ⟨w1.1.size,2,none⟩=some (.float .f64 0):=ab hT6 2
    have y3:w6.cell? ⟨w1.1.size,3,none⟩=some (.string ⟨#[]⟩):=ab hT6 3
    have y4:w6.cell? ⟨w1.1.size,4,none⟩=some (.slice (some ⟨w4.1.size,0,none⟩) 1 1):=ab hT6 4
    have zf0:=ac HN6.out 0
    have zf1:=ac HN6.out 1
    have zf2:=ac HN6.out 2
    have zf3:=ac HN6.out 3
    have zf4:=ac HN6.out 4
    have z0:w6.cell? ⟨w.1.size,0,none⟩=some (.int .i64 0):=ab HN6.out 0
    have z1:w6.cell? ⟨w.1.size,1,none⟩=some (.int .i64 0):=ab HN6.out 1
    have z2:w6.cell? ⟨w.1.size,2,none⟩=some (.float .f64 0):=ab HN6.out 2
    have z3:w6.cell? ⟨w.1.size,3,none⟩=some (.string ⟨#[]⟩):=ab HN6.out 3
    have z4:w6.cell? ⟨w.1.size,4,none⟩=some (.slice none 0 0):=ab HN6.out 4
    have hPl:=HPlt.out
    have hO6:aG w6 (fun k=>w.1.size<k∧k<W5.1.size) (cells5 6 0 0 ⟨#[]⟩ (some ⟨w4.1.size,0,none⟩) 1 1) ⟨6,0,0,⟨#[]⟩,[x]⟩:=HO5.out.aside ha6 (fun k hk he=>by omega)
    have hs6:=ha6.size
    have HFin:=tQ (fun w7 hw7=>ee (w5:=w7) HPlt.out HN6.out hO6 (fun k hk=>⟨hk.1,by omega⟩) hp6 HA6.out hw7)
    clear hh ha6 hp6 HPb hT6 hO6 hs6 hPl tc1 tf1
    go_wp2
    obtain⟨f1,f2,f3,f4⟩:=HFin.out _ rfl
    refine bodyPost_ret (v:=.agg (cells5 6 0 0 ⟨#[]⟩ (some ⟨w4.1.size,0,none⟩) 1 1)) (results_cell_row rfl _ _ w.1.size _ _ _ _ rfl f1 Tryz.underlying36 rfl (by kernel_rfl)) rfl ?_
    rw[HRk.out]
    exact⟨_,rfl,f2,f3,f4⟩
end Go.Proofs.YtllbniljgcgbeaaGreatDoor

import Derived.Test.YtllbniljgcgbeaaGreatDoorK21K
set_option maxRecDepth 100000
set_option maxHeartbeats 8000000
namespace Go.Proofs.YtllbniljgcgbeaaGreatDoor
section
open Go.RowKit
attribute [local go_sem] ah
theorem fc.at{q:Int->Bool}{p:UInt8->Bool}(h:fc q p)(c:UInt8):q (c.toNat:Int)=p c:=by
 by_cases hc:c.toNat<128
 ·exact h.low c hc
 ·rw[h.hig c (by omega),h.out _ (by omega)]
theorem sO{rf:Tx.Bs->Option Nat}{w:World}{P:Nat}{S:ByteArray}{l:Tx.Bs}(h:Prs w P S l)(f d:Nat)(hd:d<=4)(hvals:∀w' l',Prs w' P S l'->Calls Tryz.prog 69 #[.pointer (some ⟨P,0,none⟩),.int .i64 ((d:Int)+1)] w' (PsA w' P S (Tx.pseq (Tx.pval rf f) (l'.length+1) l') (gN w'))):
  Calls Tryz.prog 104 #[.pointer (some ⟨P,0,none⟩),.int .i64 (d:Nat)] w (PsA w P S (nE rf f l) (bl w)):=by
 have hdi:(d:Int)<=4:=by omega
 obtain⟨W0,hW0⟩:∃W0,W0=w.alloc (.cells #[.int .i64 0,.int .i64 0,.float .f64 0,.string ⟨#[]⟩,.slice none 0 0] 36):=⟨_,rfl⟩
 have HB0:Hid (Below w.1.size w W0):=by rw[hW0];exact tY
 have HN0:Hid (W0.1[w.1.size]?=some (.cells ar 36 (0,0))):=by rw[hW0];exact aj w _
 have HW0:=tQ hW0
 have h0:=h.on HB0.out
 have HPa:=tQ (cO h0 ⟨#[91]⟩ (by decide))
 rw[show(ByteArray.mk #[91]).data.toList=[91] from rfl] at HPa
 obtain⟨R,hR⟩:∃R,R=nE rf f l:=⟨_,rfl⟩
 have HRR:Hid (R=az (Tx.must [91] l) fun t=>if t.head?=some 93 then az (Tx.must [93] t) fun r=>.ok (⟨7,0,0,⟨#[]⟩,[]⟩,r)
  else aB (Tx.pseq (Tx.pval rf f) (t.length+1) t) fun xs r=>az (Tx.must [93] r) fun r=>.ok (⟨7,0,0,⟨#[]⟩,xs⟩,r)):=hR
 rw[<-hR]
 have HPlt:=tQ h.lt
 have HVs:=tQ hvals
 have HA0:=tQ (ag HB0.out (fun i=>i=P))
 have hPN:¬w.1.size=P:=by have:=h.lt;omega
 have hPN2:¬P=w.1.size:=by omega
 obtain⟨G,hG⟩:∃G,G=Tx.must [91] l:=⟨_,rfl⟩
 rw[<-hG] at HPa HRR
 clear h h0 hW0 hR hvals hG
 cases G with
 |error er=>
  obtain⟨ek,en⟩:=er
  have HRe:Hid (R=.error (ek,en)):=HRR.out
  clear HRR
  go_enter Tryz.func104,Tryz.ntmps104
  go_wp2_with fail
  rw[<-HW0.out]
  refine HPa.out.mono ?_
  intro e w1 hh
  obtain⟨he,ha1⟩:=hh.bad
  subst he
  have HA1:=tQ (HA0.out.trans ha1 (fun _ _ h=>h))
  clear hh ha1 HPa
  go_wp2
  rw[HRe.out]
  exact⟨rfl,rfl,HA1.out⟩
 |ok t=>
  have HR2:Hid (R=if t.head?=some 93 then az (Tx.must [93] t) fun r=>.ok (⟨7,0,0,⟨#[]⟩,[]⟩,r)
   else aB (Tx.pseq (Tx.pval rf f) (t.length+1) t) fun xs r=>az (Tx.must [93] r) fun r=>.ok (⟨7,0,0,⟨#[]⟩,xs⟩,r)):=HRR.out
  clear HRR
  go_enter Tryz.func104,Tryz.ntmps104
  go_wp2_with fail
  rw[<-HW0.out]
  refine HPa.out.mono ?_
  intro e w1 hh
  obtain⟨he,hp1,ha1⟩:=hh.good
  subst he
  have hN1:w1.1[w.1.size]?=some (.cells ar 36 (0,0)):=(ha1.block _ (ae HN0.out) hPN).trans HN0.out
  obtain⟨W,hW⟩:∃W,W=w1.alloc (.cells #[.int .i64 7,.int .i64 0,.float .f64 0,.string ⟨#[]⟩,.slice none 0 0] 36):=⟨_,rfl⟩
  have hbW:Below w1.1.size w1 W:=by rw[hW];exact tY
  have HTW:Hid (W.1[w1.1.size]?=some (.cells #[.int .i64 7,.int .i64 0,.float .f64 0,.string ⟨#[]⟩,.slice none 0 0] 36 (0,0))):=by rw[hW];exact aj w1 _
  have HNW:Hid (W.1[w.1.size]?=some (.cells ar 36 (0,0))):=ay hN1 hbW (ae hN1)
  have hPW:=hp1.on hbW
  have HPW:=tQ hPW
  have HAW:=tQ ((HA0.out.trans ha1 (fun _ _ h=>h)).trans (ag hbW (fun i=>i=P)) (fun _ _ h=>h))
  have HSt:=tQ (dV hPW 93)
  have hlt1:w.1.size<w1.1.size:=ae hN1
  have hPT:¬w1.1.size=P:=by have:=HPlt.out;omega
  have hPT2:¬P=w1.1.size:=by omega
  have hTN:¬w1.1.size=w.1.size:=by omega
  have hTN2:¬w.1.size=w1.1.size:=by omega
  have HW:=tQ hW
  clear hh hp1 ha1 HPa hN1 hW hbW hPW HN0 HA0 HB0 HW0
  by_cases hc:t.head?=some 93
  ·rw[decide_eq_true hc] at HSt
   have HR3:Hid (R=az (Tx.must [93] t) fun r=>.ok (⟨7,0,0,⟨#[]⟩,[]⟩,r)):=HR2.out.trans (if_pos hc)
   clear HR2 hc HVs
   go_wp2_with fail
   rw[<-HW.out]
   refine HSt.out.mono ?_
   rintro e w2 ⟨rfl,n,hw2⟩
   have hP2:=HPW.out.drewN n
   have HA2:=tQ (HAW.out.trans (ax (fun i=>i=P) W n) (fun _ _ h=>h))
   have HT2:Hid ((W.drewN n).1[w1.1.size]?=some (.cells #[.int .i64 7,.int .i64 0,.float .f64 0,.string ⟨#[]⟩,.slice none 0 0] 36 (0,0))):=HTW.out
   have HN2:Hid ((W.drewN n).1[w.1.size]?=some (.cells ar 36 (0,0))):=HNW.out
   rw[<-hw2] at hP2 HA2 HT2 HN2
   have HPb:=tQ (cO hP2 ⟨#[93]⟩ (by decide))
   rw[show(ByteArray.mk #[93]).data.toList=[93] from rfl] at HPb
   obtain⟨Z,hZ⟩:∃Z,Z=Tx.must [93] t:=⟨_,rfl⟩
   rw[<-hZ] at HPb HR3
   clear hw2 hP2 HSt HAW HTW HNW HPW hZ HW
   cases Z with
   |error er=>
    obtain⟨ek,en⟩:=er
    have HRe:Hid (R=.error (ek,en)):=HR3.out
    clear HR3
    go_wp2_with fail
    refine HPb.out.mono ?_
    intro e w3 hh
    obtain⟨he,ha3⟩:=hh.bad
    subst he
    have HA3:=tQ (HA2.out.trans ha3 (fun _ _ h=>h))
    clear hh ha3 HPb
    go_wp2
    rw[HRe.out]
    exact⟨rfl,rfl,HA3.out⟩
   |ok r=>
    have HRk:Hid (R=.ok (⟨7,0,0,⟨#[]⟩,[]⟩,r)):=HR3.out
    clear HR3
    go_wp2_with fail
    refine HPb.out.mono ?_
    intro e w3 hh
    obtain⟨he,hp3,ha3⟩:=hh.good
    subst he
    have hT3:w3.1[w1.1.size]?=some (.cells #[.int .i64 7,.int .i64 0,.float .f64 0,.string ⟨#[]⟩,.slice none 0 0] 36 (0,0)):=(ha3.block _ (ae HT2.out) hPT).trans HT2.out
    have HN3:Hid (w3.1[w.1.size]?=some (.cells ar 36 (0,0))):=(ha3.block _ (ae HN2.out) hPN).trans HN2.out
    have y0:w3.cell? ⟨w1.1.size,0,none⟩=some (.int .i64 7):=ab hT3 0
    have y1:w3.cell? ⟨w1.1.size,1,none⟩=some (.int .i64 0):=ab hT3 1
    have y2:w3.cell? ⟨w1.1.size,2,none⟩=some (.float .f64 0):=ab hT3 2
    have y3:w3.cell? ⟨w1.1.size,3,none⟩=some (.string ⟨#[]⟩):=ab hT3 3
    have y4:w3.cell? ⟨w1.1.size,4,none⟩=some (.slice none 0 0):=ab hT3 4
    have zf0:=ac HN3.out 0
    have zf1:=ac HN3.out 1
    have zf2:=ac HN3.out 2
    have zf3:=ac HN3.out 3
    have zf4:=ac HN3.out 4
    have z0:w3.cell? ⟨w.1.size,0,none⟩=some (.int .i64 0):=ab HN3.out 0
    have z1:w3.cell? ⟨w.1.size,1,none⟩=some (.int .i64 0):=ab HN3.out 1
    have z2:w3.cell? ⟨w.1.size,2,none⟩=some (.float .f64 0):=ab HN3.out 2
    have z3:w3.cell? ⟨w.1.size,3,none⟩=some (.string ⟨#[]⟩):=ab HN3.out 3
    have z4:w3.cell? ⟨w.1.size,4,none⟩=some (.slice none 0 0):=ab HN3.out 4
    have HFin:=tQ (fun w5 hw5=>ee (w5:=w5) (k:=7) (i:=0) (b:=0) (t:=⟨#[]⟩) (q:=none) (n:=0) (c:=0) (x:=⟨7,0,0,⟨#[]⟩,[]⟩) (F:=fun _=>False) HPlt.out HN3.out .none (fun _ h=>h.elim) hp3 (HA2.out.trans ha3 (fun _ _ h=>h)) hw5)
    clear hh hp3 ha3 HPb hT3
    go_wp2
    obtain⟨f1,f2,f3,f4⟩:=HFin.out _ rfl
    refine bodyPost_ret (v:=.agg (cells5 7 0 0 ⟨#[]⟩ none 0 0)) (results_cell_row rfl _ _ w.1.size _ _ _ _ rfl f1 Tryz.underlying36 rfl (by kernel_rfl)) rfl ?_
    rw[HRk.out]
    exact⟨_,rfl,f2,f3,f4⟩
  ·rw[decide_eq_false hc] at HSt
   have HR3:Hid (R=aB (Tx.pseq (Tx.pval rf f) (t.length+1) t) fun xs r=>az (Tx.must [93] r) fun r=>.ok (⟨7,0,0,⟨#[]⟩,xs⟩,r)):=HR2.out.trans (if_neg hc)
   clear HR2 hc
   go_wp2_with fail
   rw[<-HW.out]
   refine HSt.out.mono ?_
   rintro e w2 ⟨rfl,n,hw2⟩
   have hP2:=HPW.out.drewN n
   have HA2:=tQ (HAW.out.trans (ax (fun i=>i=P) W n) (fun _ _ h=>h))
   have HT2:Hid ((W.drewN n).1[w1.1.size]?=some (.cells #[.int .i64 7,.int .i64 0,.float .f64 0,.string ⟨#[]⟩,.slice none 0 0] 36 (0,0))):=HTW.out
   have HN2:Hid ((W.drewN n).1[w.1.size]?=some (.cells ar 36 (0,0))):=HNW.out
   rw[<-hw2] at hP2 HA2 HT2 HN2
   have HCa:=tQ (HVs.out w2 t hP2)
   obtain⟨Y,hY⟩:∃Y,Y=Tx.pseq (Tx.pval rf f) (t.length+1) t:=⟨_,rfl⟩
   rw[<-hY] at HCa HR3
   clear hw2 hP2 HSt HAW HTW HNW HPW HVs hY HW
   cases Y with
   |error er=>
    obtain⟨ek,en⟩:=er
    have HRe:Hid (R=.error (ek,en)):=HR3.out
    clear HR3
    go_wp2_with fail
    refine HCa.out.mono ?_
    intro e w3 hh
    obtain⟨he,ha3⟩:=hh.bad
    subst he
    have HA3:=tQ (HA2.out.trans ha3 (fun _ _ h=>h))
    clear hh ha3 HCa
    go_wp2
    rw[HRe.out]
    exact⟨rfl,rfl,HA3.out⟩
   |ok z=>
    obtain⟨xs,r⟩:=z
    have HR4:Hid (R=az (Tx.must [93] r) fun r=>.ok (⟨7,0,0,⟨#[]⟩,xs⟩,r)):=HR3.out
    clear HR3
    go_wp2_with fail
    refine HCa.out.mono ?_
    intro e w3 hh
    obtain⟨v3,he,hv3,hp3,ha3⟩:=hh.good
    obtain⟨⟨us,Fs,hbu⟩,hl3⟩:=hv3.open
    obtain⟨q3,c3,hvs,hown3⟩:=hbu.done (by omega) 7 0 0 ⟨#[]⟩
    subst hvs
    subst he
    have hT3:w3.1[w1.1.size]?=some (.cells #[.int .i64 7,.int .i64 0,.float .f64 0,.string ⟨#[]⟩,.slice none 0 0] 36 (0,0)):=(ha3.block _ (ae HT2.out) hPT).trans HT2.out
    have hN3:w3.1[w.1.size]?=some (.cells ar 36 (0,0)):=(ha3.block _ (ae HN2.out) hPN).trans HN2.out
    have tc1:w3.cell? ⟨w1.1.size,4,none⟩=some (.slice none 0 0):=ab hT3 4
    have tf1:=ac hT3 4
    obtain⟨V,hV⟩:∃V,V=w3.setCell ⟨w1.1.size,4,none⟩ (.slice q3 xs.length c3):=⟨_,rfl⟩
    have haV:Aside (fun i=>i=w1.1.size) w3 V:=by rw[hV];exact(Aside.refl (fun i=>i=w1.1.size) w3).setCell (p:=⟨w1.1.size,4,none⟩) (.inl rfl) _
    have hsV:V.1.size=w3.1.size:=by rw[hV];simp[World.setCell]
    have HTV:Hid (V.1[w1.1.size]?=some (.cells #[.int .i64 7,.int .i64 0,.float .f64 0,.string ⟨#[]⟩,.slice q3 xs.length c3] 36 (0,0))):=by rw[hV,ai hT3 4];rfl
    have HNV:Hid (V.1[w.1.size]?=some (.cells ar 36 (0,0))):=(haV.block _ (ae hN3) hTN2).trans hN3
    have hl2:w1.1.size<w2.1.size:=ae HT2.out
    have HOV:Hid (aG V (fun k=>w.1.size<k∧k<V.1.size) (cells5 7 0 0 ⟨#[]⟩ q3 xs.length c3) ⟨7,0,0,⟨#[]⟩,xs⟩):=(hown3.aside haV (fun k hk he=>by omega)).mono (fun k hk=>by omega)
    have hPlt:=HPlt.out
    have HPV:=tQ (hp3.aside haV (fun k hk=>by omega))
    have HAV:=tQ ((HA2.out.trans ha3 (fun _ _ h=>h)).trans haV (fun i hi he=>by omega))
    have HPb:=tQ (cO HPV.out ⟨#[93]⟩ (by decide))
    rw[show(ByteArray.mk #[93]).data.toList=[93] from rfl] at HPb
    obtain⟨Z,hZ⟩:∃Z,Z=Tx.must [93] r:=⟨_,rfl⟩
    rw[<-hZ] at HPb HR4
    have HVe:=tQ hV
    clear hh hv3 hbu hown3 hp3 ha3 HCa hT3 hN3 hV haV hsV hl2 hPlt hZ
    go_wp2_with fail
    rw[<-HVe.out]
    cases Z with
    |error er=>
     obtain⟨ek,en⟩:=er
     have HRe:Hid (R=.error (ek,en)):=HR4.out
     clear HR4
     refine HPb.out.mono ?_
     intro e w4 hh
     obtain⟨he,ha4⟩:=hh.bad
     subst he
     have HA4:=tQ (HAV.out.trans ha4 (fun _ _ h=>h))
     clear hh ha4 HPb
     go_wp2
     rw[HRe.out]
     exact⟨rfl,rfl,HA4.out⟩
    |ok r2=>
     have HRk:Hid (R=.ok (⟨7,0,0,⟨#[]⟩,xs⟩,r2)):=HR4.out
     clear HR4
     refine HPb.out.mono ?_
     intro e w4 hh
     obtain⟨he,hp4,ha4⟩:=hh.good
     subst he
     have hT4:w4.1[w1.1.size]?=some (.cells #[.int .i64 7,.int .i64 0,.float .f64 0,.string ⟨#[]⟩,.slice q3 xs.length c3] 36 (0,0)):=(ha4.block _ (ae HTV.out) hPT).trans HTV.out
     have HN4:Hid (w4.1[w.1.size]?=some (.cells ar 36 (0,0))):=(ha4.block _ (ae HNV.out) hPN).trans HNV.out
     have y0:w4.cell? ⟨w1.1.size,0,none⟩=some (.int .i64 7):=ab hT4 0
     have y1:w4.cell? ⟨w1.1.size,1,none⟩=some (.int .i64 0):=ab hT4 1
     have y2:w4.cell? ⟨w1.1.size,2,none⟩=some (.float .f64 0):=ab hT4 2
     have y3:w4.cell? ⟨w1.1.size,3,none⟩=some (.string ⟨#[]⟩):=ab hT4 3
     have y4:w4.cell? ⟨w1.1.size,4,none⟩=some (.slice q3 xs.length c3):=ab hT4 4
     have zf0:=ac HN4.out 0
     have zf1:=ac HN4.out 1
     have zf2:=ac HN4.out 2
     have zf3:=ac HN4.out 3
     have zf4:=ac HN4.out 4
     have z0:w4.cell? ⟨w.1.size,0,none⟩=some (.int .i64 0):=ab HN4.out 0
     have z1:w4.cell? ⟨w.1.size,1,none⟩=some (.int .i64 0):=ab HN4.out 1
     have z2:w4.cell? ⟨w.1.size,2,none⟩=some (.float .f64 0):=ab HN4.out 2
     have z3:w4.cell? ⟨w.1.size,3,none⟩=some (.string ⟨#[]⟩):=ab HN4.out 3
     have z4:w4.cell? ⟨w.1.size,4,none⟩=some (.slice none 0 0):=ab HN4.out 4
     have hPl:=HPlt.out
     have hs4:=ha4.size
     have hO4:=HOV.out.aside ha4 (fun k hk he=>by omega)
     have HFin:=tQ (fun w5 hw5=>ee (w5:=w5) HPlt.out HN4.out hO4 (fun k hk=>⟨hk.1,by omega⟩) hp4 (HAV.out.trans ha4 (fun _ _ h=>h)) hw5)
     clear hh hp4 ha4 HPb hT4 hO4 hs4 hPl tc1 tf1
     go_wp2
     obtain⟨f1,f2,f3,f4⟩:=HFin.out _ rfl
     refine bodyPost_ret (v:=.agg (cells5 7 0 0 ⟨#[]⟩ q3 xs.length c3)) (results_cell_row rfl _ _ w.1.size _ _ _ _ rfl f1 Tryz.underlying36 rfl (by kernel_rfl)) rfl ?_
     rw[HRk.out]
     exact⟨_,rfl,f2,f3,f4⟩
theorem lw{rf:Tx.Bs->Option Nat}(hRf:bP rf):∀(f d:Nat) (l:Tx.Bs) (P:Nat) (S:ByteArray) (w:World),d+f=5->S.size<=1099511627776->Prs w P S l->Calls Tryz.prog 64 #[.pointer (some ⟨P,0,none⟩),.int .i64 d] w (PsA w P S (Tx.pval rf f l) (bl w)):=by
 intro f
 induction f with
 |zero=>
  intro d l P S w hd _ h
  have g0:decide ((d:Int)<=4)=false:=decide_eq_false (by omega)
  have hb0:Below w.1.size w (w.alloc (.cells #[.int .i64 0,.int .i64 0,.float .f64 0,.string ⟨#[]⟩,.slice none 0 0] 36)):=tY
  have HN:=tQ (aN (h.on hb0) 62 l.length rfl)
  have HA:=tQ (ag hb0 (fun i=>i=P))
  have e1:Tx.pval rf 0 l=.error (62,l.length):=by rw[Tx.pval]
  rw[e1]
  clear h e1 hb0
  go_enter Tryz.func64,Tryz.ntmps64
  go_wp2_with fail
  try rw[g0]
  refine HN.out.mono ?_
  rintro e w2 ⟨rfl,hw2⟩
  rw[hw2]
  clear hw2 w2 HN
  go_wp2
  exact⟨rfl,rfl,HA.out⟩
 |succ f ih=>
  intro d l P S w hd hS h
  have g0:decide ((d:Int)<=4)=true:=decide_eq_true (by omega)
  have hdi:(d:Int)<=4:=by omega
  have hd4:d<=4:=by omega
  obtain⟨W0,hW0⟩:∃W0,W0=w.alloc (.cells #[.int .i64 0,.int .i64 0,.float .f64 0,.string ⟨#[]⟩,.slice none 0 0] 36):=⟨_,rfl⟩
  have HB0:Hid (Below w.1.size w W0):=by rw[hW0];exact tY
  have HN0:Hid (W0.1[w.1.size]?=some (.cells ar 36 (0,0))):=by rw[hW0];exact aj w _
  have HW0:=tQ hW0
  have h0:=h.on HB0.out
  have HH0:=tQ h0
  have HA0:=tQ (ag HB0.out (fun i=>i=P))
  have HPlt:=tQ h.lt
  have hPN:¬w.1.size=P:=by have:=h.lt;omega
  have hPN2:¬P=w.1.size:=by omega
  have hsm:=h.small
  have hle:=h.le
  have hc0:W0.cell? ⟨P,0,none⟩=some (.string S):=h0.cell 0
  have hc1:W0.cell? ⟨P,1,none⟩=some (.int .i64 ((S.size-l.length:Nat):Int)):=h0.cell 1
  obtain⟨a,ha⟩:∃a,S.size-l.length=a:=⟨_,rfl⟩
  rw[ha] at hc1
  have f0:∀z:Ext W0,z.val.cell? ⟨P,0,none⟩=some (.string S):=fun z=>af z.2 hc0
  have f1:∀z:Ext W0,z.val.cell? ⟨P,1,none⟩=some (.int .i64 (a:Int)):=fun z=>af z.2 hc1
  obtain⟨R,hR⟩:∃R,R=Tx.pval rf (f+1) l:=⟨_,rfl⟩
  have HRR:=tQ hR
  rw[<-hR]
  have HVal:Hid (∀w' l',Prs w' P S l'->Calls Tryz.prog 64 #[.pointer (some ⟨P,0,none⟩),.int .i64 ((d:Int)+1)] w' (PsA w' P S (Tx.pval rf f l') (bl w'))):=fun w' l' h'=>by
   have:=ih (d+1) l' P S w' (by omega) hS h'
   rw[show((d+1:Nat):Int)=(d:Int)+1 by omega] at this
   exact this
  have HRf:=tQ hRf
  have HS:=tQ hS
  clear h h0 hW0 hR ih hRf hS
  go_enter Tryz.func64,Tryz.ntmps64
  go_wp2_with fail
  rw[<-HW0.out]
  try rw[g0]
  refine(aV _ 62 _).mono ?_
  rintro e w2 ⟨rfl,hw2⟩
  rw[hw2]
  clear hw2 w2 HW0
  go_wp2_with fail
  cases l with
  |nil=>
   have HRe:Hid (R=.error (5,0)):=by show R=_;rw[HRR.out,Tx.pval]
   have haS:a=S.size:=by rw[<-ha];simp
   have g1:decide ((a:Int)<(S.size:Int))=false:=decide_eq_false (by omega)
   have g2:decide (a<S.size)=false:=decide_eq_false (by omega)
   have g3:¬a<S.size:=by omega
   have HNd:Hid (Calls Tryz.prog 48 #[.pointer (some ⟨P,0,none⟩),.bool false,.int .i64 5] W0.drew fun e w'=>e=.panicked (dN 5 (S.size-0))∧w'=W0.drew):=aN (HH0.out.drewN 1) 5 0 rfl
   have HAd:Hid (Aside (fun i=>i=P) w W0.drew):=HA0.out.trans (ax _ W0 1) (fun _ _ h=>h)
   clear haS ha HRR
   refine dF (u:=W0) [(true,0),(true,1),(true,2),(true,3),(true,4),(true,5),(true,6),(true,7),(true,8),(true,9),(true,10),(false,11)] (by kernel_rfl) (by kernel_rfl) (fun c d v a w h=>by cases d <;> exact h) ?_
   iterate 11
    refine fC ?_
    simp only[List.getElem?_cons_succ,List.getElem?_cons_zero]
    apply Exists.intro
    refine⟨fun z=>?_,?_⟩
    ·go_simp
     try with_reducible rfl
    try simp only[Act.put,List.setIfInBounds_toArray,List.set_cons_zero,List.set_cons_succ]
   refine iH ?_
   simp only[List.getElem?_cons_succ,List.getElem?_cons_zero]
   intro K hK
   go_simp
   refine HNd.out.mono ?_
   rintro e w2 ⟨rfl,hw2⟩
   rw[hw2]
   clear hw2 w2 HNd hK
   go_wp2
   rw[HRe.out]
   exact⟨rfl,rfl,HAd.out⟩
  |cons c t=>
   have haS:a<S.size:=by simp only[List.length_cons] at ha hle;omega
   have g1:decide ((a:Int)<(S.size:Int))=true:=decide_eq_true (by omega)
   have g2:decide (a<S.size)=true:=decide_eq_true (by omega)
   have g4:(a:Int)<(S.size:Int):=by omega
   obtain⟨hq1,hq2⟩:=HH0.out.head
   have hq3:∃hlt:a<S.size,S[a]'hlt=c:=by subst ha;exact⟨hq1,hq2⟩
   clear hq1 hq2
   obtain⟨hal,had⟩:=hq3
   have c8:(c.toNat:Int)<256:=by have:=c.toNat_lt;omega
   have HRc:=tQ (HRR.out.trans (d9 rf f c t))
   have HWn:Hid (∀n,Prs (W0.drewN n) P S (c::t)∧Aside (fun i=>i=P) w (W0.drewN n)∧(W0.drewN n).1[w.1.size]?=some (.cells ar 36 (0,0))):=fun n=>⟨HH0.out.drewN n,HA0.out.trans (ax _ W0 n) (fun _ _ h=>h),HN0.out⟩
   have k0:∀n,(W0.drewN n).cell? ⟨P,0,none⟩=some (.string S):=fun n=>hc0
   have k1:∀n,(W0.drewN n).cell? ⟨P,1,none⟩=some (.int .i64 (a:Int)):=fun n=>hc1
   have HWd:Hid (W0.drew=W0.drewN 1):=rfl
   clear ha HRR HH0 HA0 HN0
   refine dF (u:=W0) [(true,0),(true,1),(true,2),(true,3),(true,4),(true,5),(true,6),(true,7),(true,8),(true,9),(true,10),(false,11)] (by kernel_rfl) (by kernel_rfl) (fun c d v a w h=>by cases d <;> exact h) ?_
   iterate 11
    refine fC ?_
    simp only[List.getElem?_cons_succ,List.getElem?_cons_zero]
    apply Exists.intro
    refine⟨fun z=>?_,?_⟩
    ·go_simp
     try with_reducible rfl
    try simp only[Act.put,List.setIfInBounds_toArray,List.set_cons_zero,List.set_cons_succ]
   refine iH ?_
   simp only[List.getElem?_cons_succ,List.getElem?_cons_zero]
   intro K hK
   go_simp
   refine(aV _ 5 _).mono ?_
   rintro e w2 ⟨rfl,hw2⟩
   rw[hw2]
   clear hw2 w2
   refine hK _ _ ⟨⟨W0.drew,tZ.drew⟩,rfl⟩ ?_
   clear hK K
   try simp only[Act.put,List.setIfInBounds_toArray,List.set_cons_zero,List.set_cons_succ]
   refine lq ?_
   rw[HWd.out]
   clear f0 f1 HWd
   go_wp2_with fail
   go_quiet (fail)
   go_wp2_with fail
   obtain⟨hP3,hA3,hN3⟩:=HWn.out (1+nq)
   generalize W0.drewN (1+nq)=w3 at *
   have HP3:=tQ hP3
   have HA3:=tQ hA3
   have HN3:=tQ hN3
   have HIl:=tQ (ec (c.toNat:Int) w3)
   have HIi:=tQ (lY (c.toNat:Int) w3)
   rw[bC.at c] at HIl
   rw[dX.at c] at HIi
   clear hP3 hA3 hN3 HWn k0 k1 hc0 hc1 hal had
   by_cases q1:Sch.low c=true
   ·have HRq:Hid (R=ii rf f (c::t)):=HRc.out.trans (if_pos q1)
    rw[q1] at HIl
    clear HRc
    obtain⟨Y,hY⟩:∃Y,Y=ii rf f (c::t):=⟨_,rfl⟩
    have HCa:=tQ (sx HP3.out f d hd4 HVal.out)
    rw[<-hY] at HCa HRq
    clear hY
    cases Y with
    |error er=>
     obtain⟨ek,en⟩:=er
     have HRe:Hid (R=.error (ek,en)):=HRq.out
     clear HRq
     refine(HIl.out).mono ?_
     rintro e w5 ⟨rfl,hw5⟩
     rw[hw5]
     clear hw5 w5
     go_wp2_with fail
     refine HCa.out.mono ?_
     intro e w4 hh
     obtain⟨he,ha4⟩:=hh.bad
     subst he
     have HA4:=tQ (HA3.out.trans ha4 (fun _ _ h=>h))
     clear hh ha4 HCa
     go_wp2
     rw[HRe.out]
     exact⟨rfl,rfl,HA4.out⟩
    |ok z=>
     obtain⟨x,r⟩:=z
     have HRk:Hid (R=.ok (x,r)):=HRq.out
     clear HRq
     refine(HIl.out).mono ?_
     rintro e w5 ⟨rfl,hw5⟩
     rw[hw5]
     clear hw5 w5
     go_wp2_with fail
     refine HCa.out.mono ?_
     intro e w4 hh
     obtain⟨v4,he,hv4,hp4,ha4⟩:=hh.good
     obtain⟨u4,hu4,hown4⟩:=hv4.open
     obtain⟨k4,i4,b4,x4,p4,n4,c4,hsh⟩:=hown4.shape
     subst hsh
     subst hu4
     subst he
     have HN4:Hid (w4.1[w.1.size]?=some (.cells ar 36 (0,0))):=(ha4.block _ (ae HN3.out) hPN).trans HN3.out
     have hl3:=ae HN3.out
     have HFin:=tQ (fun w5 hw5=>ee (w5:=w5) HPlt.out HN4.out hown4 (fun k hk=>⟨by omega,hk.2⟩) hp4 (HA3.out.trans ha4 (fun _ _ h=>h)) hw5)
     unfold cells5
     have zf0:=ac HN4.out 0
     have zf1:=ac HN4.out 1
     have zf2:=ac HN4.out 2
     have zf3:=ac HN4.out 3
     have zf4:=ac HN4.out 4
     have z0:w4.cell? ⟨w.1.size,0,none⟩=some (.int .i64 0):=ab HN4.out 0
     have z1:w4.cell? ⟨w.1.size,1,none⟩=some (.int .i64 0):=ab HN4.out 1
     have z2:w4.cell? ⟨w.1.size,2,none⟩=some (.float .f64 0):=ab HN4.out 2
     have z3:w4.cell? ⟨w.1.size,3,none⟩=some (.string ⟨#[]⟩):=ab HN4.out 3
     have z4:w4.cell? ⟨w.1.size,4,none⟩=some (.slice none 0 0):=ab HN4.out 4
     clear hh hv4 hown4 hp4 ha4 HCa hl3
     go_wp2
     obtain⟨f1,f2,f3,f4⟩:=HFin.out _ rfl
     refine bodyPost_ret (v:=.agg (cells5 k4 i4 b4 x4 p4 n4 c4)) (results_cell_row rfl _ _ w.1.size _ _ _ _ rfl f1 Tryz.underlying36 rfl (by kernel_rfl)) rfl ?_
     rw[HRk.out]
     exact⟨_,rfl,f2,f3,f4⟩
   have HRc2:=tQ (HRc.out.trans (if_neg q1))
   rw[Bool.eq_false_iff.2 q1] at HIl
   clear HRc q1
   by_cases q2:Tx.iset c=true
   ·have HRq:Hid (R=pc (c::t)):=HRc2.out.trans (if_pos q2)
    rw[q2] at HIi
    clear HRc2
    obtain⟨Y,hY⟩:∃Y,Y=pc (c::t):=⟨_,rfl⟩
    have HCa:=tQ (qI HP3.out)
    rw[<-hY] at HCa HRq
    clear hY
    cases Y with
    |error er=>
     obtain⟨ek,en⟩:=er
     have HRe:Hid (R=.error (ek,en)):=HRq.out
     clear HRq
     refine(HIl.out).mono ?_
     rintro e w5 ⟨rfl,hw5⟩
     rw[hw5]
     clear hw5 w5
     go_wp2_with fail
     refine(HIi.out).mono ?_
     rintro e w5 ⟨rfl,hw5⟩
     rw[hw5]
     clear hw5 w5
     go_wp2_with fail
     refine HCa.out.mono ?_
     intro e w4 hh
     obtain⟨he,ha4⟩:=hh.bad
     subst he
     have HA4:=tQ (HA3.out.trans ha4 (fun _ _ h=>h))
     clear hh ha4 HCa
     go_wp2
     rw[HRe.out]
     exact⟨rfl,rfl,HA4.out⟩
    |ok z=>
     obtain⟨x,r⟩:=z
     have HRk:Hid (R=.ok (x,r)):=HRq.out
     clear HRq
     refine(HIl.out).mono ?_
     rintro e w5 ⟨rfl,hw5⟩
     rw[hw5]
     clear hw5 w5
     go_wp2_with fail
     refine(HIi.out).mono ?_
     rintro e w5 ⟨rfl,hw5⟩
     rw[hw5]
     clear hw5 w5
     go_wp2_with fail
     refine HCa.out.mono ?_
     intro e w4 hh
     obtain⟨v4,he,hv4,hp4,ha4⟩:=hh.good
     obtain⟨u4,hu4,hown4⟩:=hv4.open
     obtain⟨k4,i4,b4,x4,p4,n4,c4,hsh⟩:=hown4.shape
     subst hsh
     subst hu4
     subst he
     have HN4:Hid (w4.1[w.1.size]?=some (.cells ar 36 (0,0))):=(ha4.block _ (ae HN3.out) hPN).trans HN3.out
     have hl3:=ae HN3.out
     have HFin:=tQ (fun w5 hw5=>ee (w5:=w5) HPlt.out HN4.out hown4 (fun k hk=>⟨by omega,hk.2⟩) hp4 (HA3.out.trans ha4 (fun _ _ h=>h)) hw5)
     unfold cells5
     have zf0:=ac HN4.out 0
     have zf1:=ac HN4.out 1
     have zf2:=ac HN4.out 2
     have zf3:=ac HN4.out 3
     have zf4:=ac HN4.out 4
     have z0:w4.cell? ⟨w.1.size,0,none⟩=some (.int .i64 0):=ab HN4.out 0
     have z1:w4.cell? ⟨w.1.size,1,none⟩=some (.int .i64 0):=ab HN4.out 1
     have z2:w4.cell? ⟨w.1.size,2,none⟩=some (.float .f64 0):=ab HN4.out 2
     have z3:w4.cell? ⟨w.1.size,3,none⟩=some (.string ⟨#[]⟩):=ab HN4.out 3
     have z4:w4.cell? ⟨w.1.size,4,none⟩=some (.slice none 0 0):=ab HN4.out 4
     clear hh hv4 hown4 hp4 ha4 HCa hl3
     go_wp2
     obtain⟨f1,f2,f3,f4⟩:=HFin.out _ rfl
     refine bodyPost_ret (v:=.agg (cells5 k4 i4 b4 x4 p4 n4 c4)) (results_cell_row rfl _ _ w.1.size _ _ _ _ rfl f1 Tryz.underlying36 rfl (by kernel_rfl)) rfl ?_
     rw[HRk.out]
     exact⟨_,rfl,f2,f3,f4⟩
   have HRc3:=tQ (HRc2.out.trans (if_neg q2))
   rw[Bool.eq_false_iff.2 q2] at HIi
   clear HRc2 q2
   by_cases q3:c=126
   ·have HRq:Hid (R=nF rf (c::t)):=HRc3.out.trans (if_pos q3)
    have e1:((c.toNat:Int)==126)=true:=by rw[q3];rfl
    clear HRc3 q3
    obtain⟨Y,hY⟩:∃Y,Y=nF rf (c::t):=⟨_,rfl⟩
    have HCa:=tQ (sb HRf.out HP3.out)
    rw[<-hY] at HCa HRq
    clear hY
    cases Y with
    |error er=>
     obtain⟨ek,en⟩:=er
     have HRe:Hid (R=.error (ek,en)):=HRq.out
     clear HRq
     refine(HIl.out).mono ?_
     rintro e w5 ⟨rfl,hw5⟩
     rw[hw5]
     clear hw5 w5
     go_wp2_with fail
     refine(HIi.out).mono ?_
     rintro e w5 ⟨rfl,hw5⟩
     rw[hw5]
     clear hw5 w5
     go_wp2_with fail
     refine HCa.out.mono ?_
     intro e w4 hh
     obtain⟨he,ha4⟩:=hh.bad
     subst he
     have HA4:=tQ (HA3.out.trans ha4 (fun _ _ h=>h))
     clear hh ha4 HCa
     go_wp2
     rw[HRe.out]
     exact⟨rfl,rfl,HA4.out⟩
    |ok z=>
     obtain⟨x,r⟩:=z
     have HRk:Hid (R=.ok (x,r)):=HRq.out
     clear HRq
     refine(HIl.out).mono ?_
     rintro e w5 ⟨rfl,hw5⟩
     rw[hw5]
     clear hw5 w5
     go_wp2_with fail
     refine(HIi.out).mono ?_
     rintro e w5 ⟨rfl,hw5⟩
     rw[hw5]
     clear hw5 w5
     go_wp2_with fail
     refine HCa.out.mono ?_
     intro e w4 hh
     obtain⟨v4,he,hv4,hp4,ha4⟩:=hh.good
     obtain⟨u4,hu4,hown4⟩:=hv4.open
     obtain⟨k4,i4,b4,x4,p4,n4,c4,hsh⟩:=hown4.shape
     subst hsh
     subst hu4
     subst he
     have HN4:Hid (w4.1[w.1.size]?=some (.cells ar 36 (0,0))):=(ha4.block _ (ae HN3.out) hPN).trans HN3.out
     have hl3:=ae HN3.out
     have HFin:=tQ (fun w5 hw5=>ee (w5:=w5) HPlt.out HN4.out hown4 (fun k hk=>⟨by omega,hk.2⟩) hp4 (HA3.out.trans ha4 (fun _ _ h=>h)) hw5)
     unfold cells5
     have zf0:=ac HN4.out 0
     have zf1:=ac HN4.out 1
     have zf2:=ac HN4.out 2
     have zf3:=ac HN4.out 3
     have zf4:=ac HN4.out 4
     have z0:w4.cell? ⟨w.1.size,0,none⟩=some (.int .i64 0):=ab HN4.out 0
     have z1:w4.cell? ⟨w.1.size,1,none⟩=some (.int .i64 0):=ab HN4.out 1
     have z2:w4.cell? ⟨w.1.size,2,none⟩=some (.float .f64 0):=ab HN4.out 2
     have z3:w4.cell? ⟨w.1.size,3,none⟩=some (.string ⟨#[]⟩):=ab HN4.out 3
     have z4:w4.cell? ⟨w.1.size,4,none⟩=some (.slice none 0 0):=ab HN4.out 4
     clear hh hv4 hown4 hp4 ha4 HCa hl3
     go_wp2
     obtain⟨f1,f2,f3,f4⟩:=HFin.out _ rfl
     refine bodyPost_ret (v:=.agg (cells5 k4 i4 b4 x4 p4 n4 c4)) (results_cell_row rfl _ _ w.1.size _ _ _ _ rfl f1 Tryz.underlying36 rfl (by kernel_rfl)) rfl ?_
     rw[HRk.out]
     exact⟨_,rfl,f2,f3,f4⟩
   have HRc4:=tQ (HRc3.out.trans (if_neg q3))
   have e1:((c.toNat:Int)==126)=false:=bh (fun hc=>q3 (UInt8.toNat_inj.1 (by show c.toNat=126;omega)))
   clear HRc3 q3
   by_cases q4:c=34
   ·have HRq:Hid (R=aB (jD 34 (c::t)) fun x r=>.ok (⟨4,0,0,⟨x.toArray⟩,[]⟩,r)):=HRc4.out.trans (if_pos q4)
    have e2:((c.toNat:Int)==34)=true:=by rw[q4];rfl
    clear HRc4 q4
    obtain⟨Y,hY⟩:∃Y,Y=jD 34 (c::t):=⟨_,rfl⟩
    have HCa:=tQ (my HP3.out 34 (by decide))
    rw[<-hY] at HCa HRq
    clear hY
    cases Y with
    |error er=>
     obtain⟨ek,en⟩:=er
     have HRe:Hid (R=.error (ek,en)):=HRq.out
     clear HRq
     refine(HIl.out).mono ?_
     rintro e w5 ⟨rfl,hw5⟩
     rw[hw5]
     clear hw5 w5
     go_wp2_with fail
     refine(HIi.out).mono ?_
     rintro e w5 ⟨rfl,hw5⟩
     rw[hw5]
     clear hw5 w5
     go_wp2_with fail
     refine HCa.out.mono ?_
     intro e w4 hh
     obtain⟨he,ha4⟩:=hh.bad
     subst he
     have HA4:=tQ (HA3.out.trans ha4 (fun _ _ h=>h))
     clear hh ha4 HCa
     go_wp2
     rw[HRe.out]
     exact⟨rfl,rfl,HA4.out⟩
    |ok z=>
     obtain⟨x,r⟩:=z
     have HRk:Hid (R=.ok (⟨4,0,0,⟨x.toArray⟩,[]⟩,r)):=HRq.out
     clear HRq
     refine(HIl.out).mono ?_
     rintro e w5 ⟨rfl,hw5⟩
     rw[hw5]
     clear hw5 w5
     go_wp2_with fail
     refine(HIi.out).mono ?_
     rintro e w5 ⟨rfl,hw5⟩
     rw[hw5]
     clear hw5 w5
     go_wp2_with fail
     refine HCa.out.mono ?_
     intro e w4 hh
     obtain⟨v4,he,hv4,hp4,ha4⟩:=hh.good
     have hv4:=hv4.open
     subst hv4
     subst he
     have HN4:Hid (w4.1[w.1.size]?=some (.cells ar 36 (0,0))):=(ha4.block _ (ae HN3.out) hPN).trans HN3.out
     have HFin:=tQ (fun w5 hw5=>ee (w5:=w5) (k:=4) (i:=0) (b:=0) (t:=⟨x.toArray⟩) (q:=none) (n:=0) (c:=0) (x:=⟨4,0,0,⟨x.toArray⟩,[]⟩) (F:=fun _=>False) HPlt.out HN4.out .none (fun _ h=>h.elim) hp4 (HA3.out.trans ha4 (fun _ _ h=>h)) hw5)
     have zf0:=ac HN4.out 0
     have zf1:=ac HN4.out 1
     have zf2:=ac HN4.out 2
     have zf3:=ac HN4.out 3
     have zf4:=ac HN4.out 4
     have z0:w4.cell? ⟨w.1.size,0,none⟩=some (.int .i64 0):=ab HN4.out 0
     have z1:w4.cell? ⟨w.1.size,1,none⟩=some (.int .i64 0):=ab HN4.out 1
     have z2:w4.cell? ⟨w.1.size,2,none⟩=some (.float .f64 0):=ab HN4.out 2
     have z3:w4.cell? ⟨w.1.size,3,none⟩=some (.string ⟨#[]⟩):=ab HN4.out 3
     have z4:w4.cell? ⟨w.1.size,4,none⟩=some (.slice none 0 0):=ab HN4.out 4
     clear hh hp4 ha4 HCa
     go_wp2
     obtain⟨f1,f2,f3,f4⟩:=HFin.out _ rfl
     refine bodyPost_ret (v:=.agg (cells5 4 0 0 ⟨x.toArray⟩ none 0 0)) (results_cell_row rfl _ _ w.1.size _ _ _ _ rfl f1 Tryz.underlying36 rfl (by kernel_rfl)) rfl ?_
     rw[HRk.out]
     exact⟨_,rfl,f2,f3,f4⟩
   have HRc5:=tQ (HRc4.out.trans (if_neg q4))
   have e2:((c.toNat:Int)==34)=false:=bh (fun hc=>q4 (UInt8.toNat_inj.1 (by show c.toNat=34;omega)))
   clear HRc4 q4
   by_cases q5:c=39
   ·have HRq:Hid (R=aB (jD 39 (c::t)) fun x r=>.ok (⟨5,0,0,⟨x.toArray⟩,[]⟩,r)):=HRc5.out.trans (if_pos q5)
    have e3:((c.toNat:Int)==39)=true:=by rw[q5];rfl
    clear HRc5 q5
    obtain⟨Y,hY⟩:∃Y,Y=jD 39 (c::t):=⟨_,rfl⟩
    have HCa:=tQ (my HP3.out 39 (by decide))
    rw[<-hY] at HCa HRq
    clear hY
    cases Y with
    |error er=>
     obtain⟨ek,en⟩:=er
     have HRe:Hid (R=.error (ek,en)):=HRq.out
     clear HRq
     refine(HIl.out).mono ?_
     rintro e w5 ⟨rfl,hw5⟩
     rw[hw5]
     clear hw5 w5
     go_wp2_with fail
     refine(HIi.out).mono ?_
     rintro e w5 ⟨rfl,hw5⟩
     rw[hw5]
     clear hw5 w5
     go_wp2_with fail
     refine HCa.out.mono ?_
     intro e w4 hh
     obtain⟨he,ha4⟩:=hh.bad
     subst he
     have HA4:=tQ (HA3.out.trans ha4 (fun _ _ h=>h))
     clear hh ha4 HCa
     go_wp2
     rw[HRe.out]
     exact⟨rfl,rfl,HA4.out⟩
    |ok z=>
     obtain⟨x,r⟩:=z
     have HRk:Hid (R=.ok (⟨5,0,0,⟨x.toArray⟩,[]⟩,r)):=HRq.out
     clear HRq
     refine(HIl.out).mono ?_
     rintro e w5 ⟨rfl,hw5⟩
     rw[hw5]
     clear hw5 w5
     go_wp2_with fail
     refine(HIi.out).mono ?_
     rintro e w5 ⟨rfl,hw5⟩
     rw[hw5]
     clear hw5 w5
     go_wp2_with fail
     refine HCa.out.mono ?_
     intro e w4 hh
     obtain⟨v4,he,hv4,hp4,ha4⟩:=hh.good
     have hv4:=hv4.open
     subst hv4
     subst he
     have HN4:Hid (w4.1[w.1.size]?=some (.cells ar 36 (0,0))):=(ha4.block _ (ae HN3.out) hPN).trans HN3.out
     have HFin:=tQ (fun w5 hw5=>ee (w5:=w5) (k:=5) (i:=0) (b:=0) (t:=⟨x.toArray⟩) (q:=none) (n:=0) (c:=0) (x:=⟨5,0,0,⟨x.toArray⟩,[]⟩) (F:=fun _=>False) HPlt.out HN4.out .none (fun _ h=>h.elim) hp4 (HA3.out.trans ha4 (fun _ _ h=>h)) hw5)
     have zf0:=ac HN4.out 0
     have zf1:=ac HN4.out 1
     have zf2:=ac HN4.out 2
     have zf3:=ac HN4.out 3
     have zf4:=ac HN4.out 4
     have z0:w4.cell? ⟨w.1.size,0,none⟩=some (.int .i64 0):=ab HN4.out 0
     have z1:w4.cell? ⟨w.1.size,1,none⟩=some (.int .i64 0):=ab HN4.out 1
     have z2:w4.cell? ⟨w.1.size,2,none⟩=some (.float .f64 0):=ab HN4.out 2
     have z3:w4.cell? ⟨w.1.size,3,none⟩=some (.string ⟨#[]⟩):=ab HN4.out 3
     have z4:w4.cell? ⟨w.1.size,4,none⟩=some (.slice none 0 0):=ab HN4.out 4
     clear hh hp4 ha4 HCa
     go_wp2
     obtain⟨f1,f2,f3,f4⟩:=HFin.out _ rfl
     refine bodyPost_ret (v:=.agg (cells5 5 0 0 ⟨x.toArray⟩ none 0 0)) (results_cell_row rfl _ _ w.1.size _ _ _ _ rfl f1 Tryz.underlying36 rfl (by kernel_rfl)) rfl ?_
     rw[HRk.out]
     exact⟨_,rfl,f2,f3,f4⟩
   have HRq:Hid (R=nE rf f (c::t)):=HRc5.out.trans (if_neg q5)
   have e3:((c.toNat:Int)==39)=false:=bh (fun hc=>q5 (UInt8.toNat_inj.1 (by show c.toNat=39;omega)))
   have HVs:Hid (∀w' l',Prs w' P S l'->Calls Tryz.prog 69 #[.pointer (some ⟨P,0,none⟩),.int .i64 ((d:Int)+1)] w' (PsA w' P S (Tx.pseq (Tx.pval rf f) (l'.length+1) l') (gN w'))):=fun w' l' h'=>mq h' HS.out _ (Tx.pval rf f) (fun l x r hp=>by
    have:=congrArg List.length (Tx.pval_fore (cQ HRf.out) f l x r hp).text
    rw[List.length_append] at this
    omega) HVal.out
   clear HRc5 q5
   obtain⟨Y,hY⟩:∃Y,Y=nE rf f (c::t):=⟨_,rfl⟩
   have HCa:=tQ (sO HP3.out f d hd4 HVs.out)
   rw[<-hY] at HCa HRq
   clear hY
   cases Y with
   |error er=>
    obtain⟨ek,en⟩:=er
    have HRe:Hid (R=.error (ek,en)):=HRq.out
    clear HRq
    refine(HIl.out).mono ?_
    rintro e w5 ⟨rfl,hw5⟩
    rw[hw5]
    clear hw5 w5
    go_wp2_with fail
    refine(HIi.out).mono ?_
    rintro e w5 ⟨rfl,hw5⟩
    rw[hw5]
    clear hw5 w5
    go_wp2_with fail
    refine HCa.out.mono ?_
    intro e w4 hh
    obtain⟨he,ha4⟩:=hh.bad
    subst he
    have HA4:=tQ (HA3.out.trans ha4 (fun _ _ h=>h))
    clear hh ha4 HCa
    go_wp2
    rw[HRe.out]
    exact⟨rfl,rfl,HA4.out⟩
   |ok z=>
    obtain⟨x,r⟩:=z
    have HRk:Hid (R=.ok (x,r)):=HRq.out
    clear HRq
    refine(HIl.out).mono ?_
    rintro e w5 ⟨rfl,hw5⟩
    rw[hw5]
    clear hw5 w5
    go_wp2_with fail
    refine(HIi.out).mono ?_
    rintro e w5 ⟨rfl,hw5⟩
    rw[hw5]
    clear hw5 w5
    go_wp2_with fail
    refine HCa.out.mono ?_
    intro e w4 hh
    obtain⟨v4,he,hv4,hp4,ha4⟩:=hh.good
    obtain⟨u4,hu4,hown4⟩:=hv4.open
    obtain⟨k4,i4,b4,x4,p4,n4,c4,hsh⟩:=hown4.shape
    subst hsh
    subst hu4
    subst he
    have HN4:Hid (w4.1[w.1.size]?=some (.cells ar 36 (0,0))):=(ha4.block _ (ae HN3.out) hPN).trans HN3.out
    have hl3:=ae HN3.out
    have HFin:=tQ (fun w5 hw5=>ee (w5:=w5) HPlt.out HN4.out hown4 (fun k hk=>⟨by omega,hk.2⟩) hp4 (HA3.out.trans ha4 (fun _ _ h=>h)) hw5)
    unfold cells5
    have zf0:=ac HN4.out 0
    have zf1:=ac HN4.out 1
    have zf2:=ac HN4.out 2
    have zf3:=ac HN4.out 3
    have zf4:=ac HN4.out 4
    have z0:w4.cell? ⟨w.1.size,0,none⟩=some (.int .i64 0):=ab HN4.out 0
    have z1:w4.cell? ⟨w.1.size,1,none⟩=some (.int .i64 0):=ab HN4.out 1
    have z2:w4.cell? ⟨w.1.size,2,none⟩=some (.float .f64 0):=ab HN4.out 2
    have z3:w4.cell? ⟨w.1.size,3,none⟩=some (.string ⟨#[]⟩):=ab HN4.out 3
    have z4:w4.cell? ⟨w.1.size,4,none⟩=some (.slice none 0 0):=ab HN4.out 4
    clear hh hv4 hown4 hp4 ha4 HCa hl3
    go_wp2
    obtain⟨f1,f2,f3,f4⟩:=HFin.out _ rfl
    refine bodyPost_ret (v:=.agg (cells5 k4 i4 b4 x4 p4 n4 c4)) (results_cell_row rfl _ _ w.1.size _ _ _ _ rfl f1 Tryz.underlying36 rfl (by kernel_rfl)) rfl ?_
    rw[HRk.out]
    exact⟨_,rfl,f2,f3,f4⟩
end
section
open Go.RowKit
attribute [local go_sem] ah
theorem so(s:ByteArray)(hs:s.size<=281474976710656)(w:World):Calls Tryz.prog 83 #[.string s] w fun e w'=>e=.returned (.string s)∧Below w.1.size w w':=by
 have HC:=tQ (Tryz.stringslite_Clone s w hs)
 go_enter Tryz.func83,Tryz.ntmps83
 go_wp2_with fail
 refine HC.out.mono ?_
 rintro e w1 ⟨rfl,hb⟩
 have HB:=tQ hb
 clear hb HC
 go_wp2
 go_ret
 exact⟨rfl,HB.out⟩
def pG(w:World)(x:Col)(v:Value)(w':World):Prop:=∃u,v=.agg u∧bB w' (fun k=>w.1.size<=k∧k<w'.1.size) u x
theorem pG.open{w w':World}{x:Col}{v:Value}(h:pG w x v w'):∃u,v=.agg u∧bB w' (fun k=>w.1.size<=k∧k<w'.1.size) u x:=h
theorem bB.shape{w:World}{F:Nat->Prop}{u:AV}{c:Col}(h:bB w F u c):∃nm k tp tn tc hs vk vi vb vt vp vn vc,u=aR nm k tp tn tc hs vk vi vb vt vp vn vc:=by
 obtain⟨_,_,k,tp,tn,tc,vk,vi,vb,vt,vp,vn,vc,h1,_⟩:=h.out
 exact⟨_,k,tp,tn,tc,_,vk,vi,vb,vt,vp,vn,vc,h1⟩
def cM:AV:=#[.string ⟨#[]⟩,.int .i64 0,.slice none 0 0,.bool false,.int .i64 0,.int .i64 0,.float .f64 0,.string ⟨#[]⟩,.slice none 0 0]
def kg(w:World)(N:Nat)(hs:Bool)(vk vi:Int)(vb:Nat)(vt:ByteArray)(vp:OA)(vn vc:Nat):World:=(((((w.setCell ⟨N,3,none⟩ (.bool hs)).setCell ⟨N,4,none⟩ (.int .i64 vk)).setCell ⟨N,5,none⟩ (.int .i64 vi)).setCell ⟨N,6,none⟩ (.float .f64 vb)).setCell ⟨N,7,none⟩ (.string vt)).setCell ⟨N,8,none⟩ (.slice vp vn vc)
def na(w:World)(N:Nat)(nm:ByteArray)(k:Int)(tp:OA)(tn tc:Nat)(hs:Bool)(vk vi:Int)(vb:Nat)(vt:ByteArray)(vp:OA)(vn vc:Nat):World:=kg (((w.setCell ⟨N,0,none⟩ (.string nm)).setCell ⟨N,1,none⟩ (.int .i64 k)).setCell ⟨N,2,none⟩ (.slice tp tn tc)) N hs vk vi vb vt vp vn vc
section
variable {w:World} {N:Nat} {T:TypeId} {nm:ByteArray} {k:Int} {tp:OA} {tn tc:Nat} {hs:Bool} {vk vi:Int} {vb:Nat} {vt:ByteArray} {vp:OA} {vn vc:Nat}
theorem lC{a b c d e f g h i:Value}(hb:w.1[N]?=some (.cells #[a,b,c,d,e,f,g,h,i] T (0,0))):(kg w N hs vk vi vb vt vp vn vc).1[N]?=some (.cells #[a,b,c,.bool hs,.int .i64 vk,.int .i64 vi,.float .f64 vb,.string vt,.slice vp vn vc] T (0,0)):=by
 unfold kg
 rw[ai (ai (ai (ai (ai (ai hb 3 _) 4 _) 5 _) 6 _) 7 _) 8 _]
 rfl
theorem lA(hb:w.1[N]?=some (.cells cM T (0,0))):(na w N nm k tp tn tc hs vk vi vb vt vp vn vc).1[N]?=some (.cells (aR nm k tp tn tc hs vk vi vb vt vp vn vc) T (0,0)):=by
 unfold na
 have h3:(((w.setCell ⟨N,0,none⟩ (.string nm)).setCell ⟨N,1,none⟩ (.int .i64 k)).setCell ⟨N,2,none⟩ (.slice tp tn tc)).1[N]?=some (.cells #[.string nm,.int .i64 k,.slice tp tn tc,.bool false,.int .i64 0,.int .i64 0,.float .f64 0,.string ⟨#[]⟩,.slice none 0 0] T (0,0)):=by
  rw[ai (ai (ai hb 0 _) 1 _) 2 _]
  rfl
 exact lC h3
theorem gq:Aside (fun j=>j=N) w (kg w N hs vk vi vb vt vp vn vc) :=
 (((((((Aside.refl (fun j=>j=N) w).setCell (p:=⟨N,3,none⟩) (.inl rfl) _).setCell (p:=⟨N,4,none⟩) (.inl rfl) _).setCell (p:=⟨N,5,none⟩) (.inl rfl) _).setCell (p:=⟨N,6,none⟩) (.inl rfl) _).setCell (p:=⟨N,7,none⟩) (.inl rfl) _).setCell (p:=⟨N,8,none⟩) (.inl rfl) _)
theorem lB:Aside (fun j=>j=N) w (na w N nm k tp tn tc hs vk vi vb vt vp vn vc) :=
 ((((Aside.refl (fun j=>j=N) w).setCell (p:=⟨N,0,none⟩) (.inl rfl) _).setCell (p:=⟨N,1,none⟩) (.inl rfl) _).setCell (p:=⟨N,2,none⟩) (.inl rfl) _).trans gq (fun _ _ h=>h)
theorem nb:(kg w N hs vk vi vb vt vp vn vc).1.size=w.1.size:=by simp[kg,World.setCell]
theorem m9:(na w N nm k tp tn tc hs vk vi vb vt vp vn vc).1.size=w.1.size:=by simp[na,kg,World.setCell]
end
theorem sW{w wr:World}{P:Nat}{S:ByteArray}{nm:ByteArray}{k:Int}{tp:OA}{tn tc:Nat}{hs:Bool}{vk vi:Int}{vb:Nat}{vt:ByteArray}{vp:OA}{vn vc:Nat}{x:Col}{l:Tx.Bs}{F:Nat->Prop}(hP:P<w.1.size)(bN:wr.1[w.1.size]?=some (.cells cM 38 (0,0)))(hown:bB wr F (aR nm k tp tn tc hs vk vi vb vt vp vn vc) x)(hF:∀k,F k->w.1.size<k∧k<wr.1.size)(hrd:Prs wr P S l)(ha:Aside (fun i=>i=P) w wr){w5:World}(hw5:w5=na wr w.1.size nm k tp tn tc hs vk vi vb vt vp vn vc):
  w5.1[w.1.size]?=some (.cells (aR nm k tp tn tc hs vk vi vb vt vp vn vc) 38 (0,0))∧pG w x (.agg (aR nm k tp tn tc hs vk vi vb vt vp vn vc)) w5∧Prs w5 P S l∧Aside (fun i=>i=P) w w5:=by
 have h2:Aside (fun i=>i=w.1.size) wr w5:=by rw[hw5];exact lB
 have hs:w5.1.size=wr.1.size:=by rw[hw5];exact m9
 refine⟨?_,⟨_,rfl,?_⟩,hrd.aside h2 (fun k hk=>by rw[hk];exact hP),ha.trans h2 (fun i hi he=>by rw[he] at hi;omega)⟩
 ·rw[hw5];exact lA bN
 ·exact(hown.aside h2 (fun k hk he=>by have:=hF k hk;omega)).mono (fun k hk=>by have:=hF k hk;omega)
theorem mA(rf:Tx.Bs->Option Nat)(l wd r:Tx.Bs)(hwd:wd=l.takeWhile Sch.ch)(hr:r=l.dropWhile Sch.ch):Tx.pcol rf l=if wd=[] then .error (5,l.length) else az (Tx.must [32] r) fun r=>aB (Tx.pty 4 r) fun t r=>if r.head?=some 32 then az (Tx.must [32,61,32] r) fun r=>aB (Tx.pval rf 4 r) fun v r=>.ok (⟨⟨wd.toArray⟩,t,true,v⟩,r) else .ok (⟨⟨wd.toArray⟩,t,false,V0⟩,r):=by
 rw[hwd,hr]
 unfold Tx.pcol
 by_cases h0:l.takeWhile Sch.ch=[]
 ·rw[if_pos h0,if_pos h0]
 rw[if_neg h0,if_neg h0]
 cases Tx.must [32] (l.dropWhile Sch.ch) with
 |error e=>rfl
 |ok r=>
  dsimp only[az]
  cases Tx.pty 4 r with
  |error e=>rfl
  |ok z=>
   dsimp only[aB]
   by_cases h1:z.2.head?=some 32
   ·rw[if_pos h1,if_pos h1]
    cases Tx.must [32,61,32] z.2 with
    |error e=>rfl
    |ok r=>
     dsimp only
     cases Tx.pval rf 4 r with
     |error e=>rfl
     |ok z=>rfl
   ·rw[if_neg h1,if_neg h1]
theorem rl{rf:Tx.Bs->Option Nat}(hRf:bP rf){w:World}{P:Nat}{S:ByteArray}{l:Tx.Bs}(h:Prs w P S l)(hS:S.size<=1099511627776):Calls Tryz.prog 50 #[.pointer (some ⟨P,0,none⟩)] w (PsA w P S (Tx.pcol rf l) (pG w)):=by
 obtain⟨W0,hW0⟩:∃W0,W0=w.alloc (.cells #[.string ⟨#[]⟩,.int .i64 0,.slice none 0 0,.bool false,.int .i64 0,.int .i64 0,.float .f64 0,.string ⟨#[]⟩,.slice none 0 0] 38):=⟨_,rfl⟩
 have HB0:Hid (Below w.1.size w W0):=by rw[hW0];exact tY
 have HN0:Hid (W0.1[w.1.size]?=some (.cells cM 38 (0,0))):=by rw[hW0];exact aj w _
 have HW0:=tQ hW0
 have h0:=h.on HB0.out
 have HL:=tQ (kJ h0)
 obtain⟨wd,hwd⟩:∃wd,wd=l.takeWhile Sch.ch:=⟨_,rfl⟩
 obtain⟨r0,hr0⟩:∃r,r=l.dropWhile Sch.ch:=⟨_,rfl⟩
 have hsp:l=wd++r0:=by rw[hwd,hr0];exact(List.takeWhile_append_dropWhile).symm
 obtain⟨R,hR⟩:∃R,R=Tx.pcol rf l:=⟨_,rfl⟩
 have HRR:=tQ (hR.trans (mA rf l wd r0 hwd hr0))
 rw[<-hR]
 rw[<-hwd] at HL
 have HPlt:=tQ h.lt
 have HH0:=tQ h0
 have hll:l.length=wd.length+r0.length:=by rw[hsp,List.length_append]
 have hsm:=h.small
 have hle:=h.le
 have HSp:=tQ hsp
 have HRf:=tQ hRf
 have HS:=tQ hS
 have HA0:=tQ (ag HB0.out (fun i=>i=P))
 have hPN:¬w.1.size=P:=by have:=h.lt;omega
 have hPN2:¬P=w.1.size:=by omega
 clear h h0 hW0 hwd hr0 hR hsp hRf hS
 obtain⟨a,ha⟩:∃a,S.size-l.length=a:=⟨_,rfl⟩
 have HAL:Hid (a+wd.length=S.size-r0.length):=by show _=_;omega
 have HAS:Hid (S.size-l.length=a):=ha
 have g5:(a:Int)+(wd.length:Int)<=140737488351232:=by omega
 have e9:(ByteArray.mk wd.toArray).toList=wd:=by rw[ByteArray.toList_eq]
 have hwl:(ByteArray.mk wd.toArray).size<=281474976710656:=by show wd.toArray.size<=_;simp;omega
 have HCl:=tQ (fun w'=>so (ByteArray.mk wd.toArray) hwl w')
 clear ha hll hle hsm hwl
 go_enter Tryz.func50,Tryz.ntmps50
 go_wp2_with fail
 rw[<-HW0.out]
 refine HL.out.mono ?_
 rintro e w1 ⟨rfl,hb1⟩
 have HH1:=tQ (HH0.out.on hb1)
 have HA1:=tQ (HA0.out.trans (ag hb1 (fun i=>i=P)) (fun _ _ h=>h))
 have HN1:Hid (w1.1[w.1.size]?=some (.cells cM 38 (0,0))):=ay HN0.out hb1 (ae HN0.out)
 clear hb1 HL HB0 HN0 HH0 HA0 HW0
 by_cases q0:wd=[]
 ·have HRe:Hid (R=.error (5,l.length)):=HRR.out.trans (if_pos q0)
  have e0:(wd != [])=false:=by rw[q0];rfl
  have e1:(wd==[])=true:=by rw[q0];rfl
  have HNd:=tQ (aN HH1.out 5 l.length rfl)
  clear q0 HRR
  go_wp2_with fail
  refine HNd.out.mono ?_
  rintro e w2 ⟨rfl,hw2⟩
  rw[hw2]
  clear hw2 w2 HNd
  go_wp2
  rw[HRe.out]
  exact⟨rfl,rfl,HA1.out⟩
 have HR1:=tQ (HRR.out.trans (if_neg q0))
 have e0:(wd != [])=true:=by rw[bne_iff_ne];exact q0
 have e1:(wd==[])=false:=cz q0
 have c1:w1.cell? ⟨P,1,none⟩=some (.int .i64 (a:Int)):=by rw[<-HAS.out];exact HH1.out.cell 1
 have t1:=HH1.out.thawed 1
 obtain⟨V,hV⟩:∃V,V=w1.setCell ⟨P,1,none⟩ (.int .i64 ((a:Int)+(wd.length:Int))):=⟨_,rfl⟩
 have hPV:Prs V P S r0:=by
  have hh:Prs w1 P S (wd++r0):=by rw[<-HSp.out];exact HH1.out
  rw[hV];exact hh.skip (by have:=HAL.out;omega)
 have haV:Aside (fun i=>i=P) w1 V:=by rw[hV];exact bu _ _ _
 have HAV:=tQ (HA1.out.trans haV (fun _ _ h=>h))
 have HNV:Hid (V.1[w.1.size]?=some (.cells cM 38 (0,0))):=(haV.block _ (ae HN1.out) hPN).trans HN1.out
 have HVe:=tQ hV
 have HPa:=tQ (cO hPV ⟨#[32]⟩ (by decide))
 rw[show(ByteArray.mk #[32]).data.toList=[32] from rfl] at HPa
 obtain⟨G,hG⟩:∃G,G=Tx.must [32] r0:=⟨_,rfl⟩
 rw[<-hG] at HPa HR1
 clear hV hPV haV q0 HRR hG HH1 HA1 HN1
 go_wp2_with fail
 refine(aV _ 5 _).mono ?_
 rintro e w2 ⟨rfl,hw2⟩
 rw[hw2]
 clear hw2 w2
 go_wp2_with fail
 rw[<-HVe.out]
 cases G with
 |error er=>
  obtain⟨ek,en⟩:=er
  have HRe:Hid (R=.error (ek,en)):=HR1.out
  clear HR1
  refine HPa.out.mono ?_
  intro e w2 hh
  obtain⟨he,ha2⟩:=hh.bad
  subst he
  have HA2:=tQ (HAV.out.trans ha2 (fun _ _ h=>h))
  clear hh ha2 HPa
  go_wp2
  rw[HRe.out]
  exact⟨rfl,rfl,HA2.out⟩
 |ok r1=>
  have HR2:Hid (R=aB (Tx.pty 4 r1) fun t r=>if r.head?=some 32 then az (Tx.must [32,61,32] r) fun r=>aB (Tx.pval rf 4 r) fun v r=>.ok (⟨⟨wd.toArray⟩,t,true,v⟩,r) else .ok (⟨⟨wd.toArray⟩,t,false,V0⟩,r)):=HR1.out
  clear HR1
  refine HPa.out.mono ?_
  intro e w2 hh
  obtain⟨he,hp2,ha2⟩:=hh.good
  subst he
  have HP2:=tQ hp2
  have HA2:=tQ (HAV.out.trans ha2 (fun _ _ h=>h))
  have HN2:Hid (w2.1[w.1.size]?=some (.cells cM 38 (0,0))):=(ha2.block _ (ae HNV.out) hPN).trans HNV.out
  clear hh hp2 ha2 HPa HAV HNV HVe c1 t1
  go_wp2_with fail
  refine(HCl.out _).mono ?_
  rintro e w3 ⟨rfl,hb3⟩
  have hp3:=HP2.out.on hb3
  have HA3:=tQ (HA2.out.trans (ag hb3 (fun i=>i=P)) (fun _ _ h=>h))
  have HN3:Hid (w3.1[w.1.size]?=some (.cells cM 38 (0,0))):=ay HN2.out hb3 (ae HN2.out)
  have HTy:Hid (Calls Tryz.prog 77 #[.pointer (some ⟨P,0,none⟩),.int .i64 1] w3 (PsA w3 P S (Tx.pty 4 r1) (cG w3))):=mr 4 1 r1 P S w3 (by omega) hp3
  obtain⟨Y,hY⟩:∃Y,Y=Tx.pty 4 r1:=⟨_,rfl⟩
  rw[<-hY] at HTy HR2
  clear hb3 hp3 HCl HP2 HA2 HN2 hY
  cases Y with
  |error er=>
   obtain⟨ek,en⟩:=er
   have HRe:Hid (R=.error (ek,en)):=HR2.out
   clear HR2
   go_wp2_with fail
   refine HTy.out.mono ?_
   intro e w4 hh
   obtain⟨he,ha4⟩:=hh.bad
   subst he
   have HA4:=tQ (HA3.out.trans ha4 (fun _ _ h=>h))
   clear hh ha4 HTy
   go_wp2
   rw[HRe.out]
   exact⟨rfl,rfl,HA4.out⟩
  |ok z=>
   obtain⟨ty,r2⟩:=z
   have HR3:Hid (R=if r2.head?=some 32 then az (Tx.must [32,61,32] r2) fun r=>aB (Tx.pval rf 4 r) fun v r=>.ok (⟨⟨wd.toArray⟩,ty,true,v⟩,r) else .ok (⟨⟨wd.toArray⟩,ty,false,V0⟩,r2)):=HR2.out
   clear HR2
   go_wp2_with fail
   refine HTy.out.mono ?_
   intro e w4 hh
   obtain⟨v4,he,hv4,hp4,ha4⟩:=hh.good
   obtain⟨u4,hu4,hown4⟩:=hv4.open
   obtain⟨k4,p4,n4,c4,hsh⟩:=hown4.shape
   subst hsh
   unfold al at hu4 hown4
   subst hu4
   subst he
   have HN4:Hid (w4.1[w.1.size]?=some (.cells cM 38 (0,0))):=(ha4.block _ (ae HN3.out) hPN).trans HN3.out
   have hA4:=HA3.out.trans ha4 (fun _ _ h=>h)
   obtain⟨W,hW⟩:∃W,W=w4.alloc (.cells #[.string ⟨wd.toArray⟩,.int .i64 k4,.slice p4 n4 c4,.bool false,.int .i64 0,.int .i64 0,.float .f64 0,.string ⟨#[]⟩,.slice none 0 0] 38):=⟨_,rfl⟩
   have hbW:Below w4.1.size w4 W:=by rw[hW];exact tY
   have HCW:Hid (W.1[w4.1.size]?=some (.cells #[.string ⟨wd.toArray⟩,.int .i64 k4,.slice p4 n4 c4,.bool false,.int .i64 0,.int .i64 0,.float .f64 0,.string ⟨#[]⟩,.slice none 0 0] 38 (0,0))):=by rw[hW];exact aj w4 _
   have HNW:Hid (W.1[w.1.size]?=some (.cells cM 38 (0,0))):=ay HN4.out hbW (ae HN4.out)
   have hPW:=hp4.on hbW
   have HPW:=tQ hPW
   have HAW:=tQ (hA4.trans (ag hbW (fun i=>i=P)) (fun _ _ h=>h))
   have hl3:=ae HN3.out
   have HOW:Hid (aT W (fun k=>w.1.size<k∧k<w4.1.size) (al k4 p4 n4 c4) ty):=(hown4.under hbW (fun k hk=>hk.2)).mono (fun k hk=>by omega)
   have hlt4:w.1.size<w4.1.size:=ae HN4.out
   have hPC:¬w4.1.size=P:=by have:=HPlt.out;omega
   have hPC2:¬P=w4.1.size:=by omega
   have hCN:¬w4.1.size=w.1.size:=by omega
   have hCN2:¬w.1.size=w4.1.size:=by omega
   have HSt:=tQ (dV hPW 32)
   have HW:=tQ hW
   clear hh hv4 hown4 hp4 ha4 HTy hA4 hW hbW hPW hl3 HA3 HN3 HN4
   by_cases hc:r2.head?=some 32
   case neg=>
    rw[decide_eq_false hc] at HSt
    have HRk:Hid (R=.ok (⟨⟨wd.toArray⟩,ty,false,V0⟩,r2)):=HR3.out.trans (if_neg hc)
    clear HR3 hc
    go_wp2_with fail
    rw[<-HW.out]
    refine HSt.out.mono ?_
    rintro e w5 ⟨rfl,n,hw5⟩
    have hP5:=HPW.out.drewN n
    have hA5:=HAW.out.trans (ax (fun i=>i=P) W n) (fun _ _ h=>h)
    have hC5:(W.drewN n).1[w4.1.size]?=some (.cells #[.string ⟨wd.toArray⟩,.int .i64 k4,.slice p4 n4 c4,.bool false,.int .i64 0,.int .i64 0,.float .f64 0,.string ⟨#[]⟩,.slice none 0 0] 38 (0,0)):=HCW.out
    have HN5:Hid ((W.drewN n).1[w.1.size]?=some (.cells cM 38 (0,0))):=HNW.out
    have hO5:aT (W.drewN n) (fun k=>w.1.size<k∧k<w4.1.size) (al k4 p4 n4 c4) ty:=HOW.out.aside (ax (fun _=>False) W n) (fun _ _ h=>h)
    rw[<-hw5] at hP5 hA5 hC5 HN5 hO5
    have hl5:=ae hC5
    have hCO:bB w5 (fun k=>w.1.size<k∧k<w4.1.size) (aR ⟨wd.toArray⟩ k4 p4 n4 c4 false 0 0 0 ⟨#[]⟩ none 0 0) ⟨⟨wd.toArray⟩,ty,false,V0⟩:=⟨_,fun _=>False,k4,p4,n4,c4,0,0,0,⟨#[]⟩,none,0,0,rfl,hO5,.none,fun _ h=>h,fun _ h=>h.elim,fun _ _ h=>h⟩
    have HFin:=tQ (fun w7 hw7=>sW (w5:=w7) HPlt.out HN5.out hCO (fun k hk=>⟨hk.1,by omega⟩) hP5 hA5 hw7)
    have y0:w5.cell? ⟨w4.1.size,0,none⟩=some (.string ⟨wd.toArray⟩):=ab hC5 0
    have y1:w5.cell? ⟨w4.1.size,1,none⟩=some (.int .i64 k4):=ab hC5 1
    have y2:w5.cell? ⟨w4.1.size,2,none⟩=some (.slice p4 n4 c4):=ab hC5 2
    have y3:w5.cell? ⟨w4.1.size,3,none⟩=some (.bool false):=ab hC5 3
    have y4:w5.cell? ⟨w4.1.size,4,none⟩=some (.int .i64 0):=ab hC5 4
    have y5:w5.cell? ⟨w4.1.size,5,none⟩=some (.int .i64 0):=ab hC5 5
    have y6:w5.cell? ⟨w4.1.size,6,none⟩=some (.float .f64 0):=ab hC5 6
    have y7:w5.cell? ⟨w4.1.size,7,none⟩=some (.string ⟨#[]⟩):=ab hC5 7
    have y8:w5.cell? ⟨w4.1.size,8,none⟩=some (.slice none 0 0):=ab hC5 8
    have z0:w5.cell? ⟨w.1.size,0,none⟩=some (.string ⟨#[]⟩):=ab HN5.out 0
    have z1:w5.cell? ⟨w.1.size,1,none⟩=some (.int .i64 0):=ab HN5.out 1
    have z2:w5.cell? ⟨w.1.size,2,none⟩=some (.slice none 0 0):=ab HN5.out 2
    have z3:w5.cell? ⟨w.1.size,3,none⟩=some (.bool false):=ab HN5.out 3
    have z4:w5.cell? ⟨w.1.size,4,none⟩=some (.int .i64 0):=ab HN5.out 4
    have z5:w5.cell? ⟨w.1.size,5,none⟩=some (.int .i64 0):=ab HN5.out 5
    have z6:w5.cell? ⟨w.1.size,6,none⟩=some (.float .f64 0):=ab HN5.out 6
    have z7:w5.cell? ⟨w.1.size,7,none⟩=some (.string ⟨#[]⟩):=ab HN5.out 7
    have z8:w5.cell? ⟨w.1.size,8,none⟩=some (.slice none 0 0):=ab HN5.out 8
    have zf0:=ac HN5.out 0
    have zf1:=ac HN5.out 1
    have zf2:=ac HN5.out 2
    have zf3:=ac HN5.out 3
    have zf4:=ac HN5.out 4
    have zf5:=ac HN5.out 5
    have zf6:=ac HN5.out 6
    have zf7:=ac HN5.out 7
    have zf8:=ac HN5.out 8
    clear hw5 hP5 hA5 hC5 hO5 hCO hl5 HSt HPW HAW HCW HNW HOW HW
    go_wp2
    obtain⟨f1,f2,f3,f4⟩:=HFin.out _ rfl
    refine bodyPost_ret (v:=.agg (aR ⟨wd.toArray⟩ k4 p4 n4 c4 false 0 0 0 ⟨#[]⟩ none 0 0)) (results_cell_row rfl _ _ w.1.size _ _ _ _ rfl f1 Tryz.underlying38 rfl (by kernel_rfl)) rfl ?_
    rw[HRk.out]
    exact⟨_,rfl,f2,f3,f4⟩
   rw[decide_eq_true hc] at HSt
   have HR4:Hid (R=az (Tx.must [32,61,32] r2) fun r=>aB (Tx.pval rf 4 r) fun v r=>.ok (⟨⟨wd.toArray⟩,ty,true,v⟩,r)):=HR3.out.trans (if_pos hc)
   clear HR3 hc
   go_wp2_with fail
   rw[<-HW.out]
   refine HSt.out.mono ?_
   rintro e w5 ⟨rfl,n,hw5⟩
   have hP5:=HPW.out.drewN n
   have HA5:=tQ (HAW.out.trans (ax (fun i=>i=P) W n) (fun _ _ h=>h))
   have HC5:Hid ((W.drewN n).1[w4.1.size]?=some (.cells #[.string ⟨wd.toArray⟩,.int .i64 k4,.slice p4 n4 c4,.bool false,.int .i64 0,.int .i64 0,.float .f64 0,.string ⟨#[]⟩,.slice none 0 0] 38 (0,0))):=HCW.out
   have HN5:Hid ((W.drewN n).1[w.1.size]?=some (.cells cM 38 (0,0))):=HNW.out
   have HO5:Hid (aT (W.drewN n) (fun k=>w.1.size<k∧k<w4.1.size) (al k4 p4 n4 c4) ty):=HOW.out.aside (ax (fun _=>False) W n) (fun _ _ h=>h)
   rw[<-hw5] at hP5 HA5 HC5 HN5 HO5
   have HPb:=tQ (cO hP5 ⟨#[32,61,32]⟩ (by decide))
   rw[show(ByteArray.mk #[32,61,32]).data.toList=[32,61,32] from rfl] at HPb
   obtain⟨Z,hZ⟩:∃Z,Z=Tx.must [32,61,32] r2:=⟨_,rfl⟩
   rw[<-hZ] at HPb HR4
   clear hw5 hP5 HSt HPW HAW HCW HNW HOW HW hZ
   cases Z with
   |error er=>
    obtain⟨ek,en⟩:=er
    have HRe:Hid (R=.error (ek,en)):=HR4.out
    clear HR4
    go_wp2_with fail
    refine HPb.out.mono ?_
    intro e w6 hh
    obtain⟨he,ha6⟩:=hh.bad
    subst he
    have HA6:=tQ (HA5.out.trans ha6 (fun _ _ h=>h))
    clear hh ha6 HPb
    go_wp2
    rw[HRe.out]
    exact⟨rfl,rfl,HA6.out⟩
   |ok r3=>
    have HR5:Hid (R=aB (Tx.pval rf 4 r3) fun v r=>.ok (⟨⟨wd.toArray⟩,ty,true,v⟩,r)):=HR4.out
    clear HR4
    go_wp2_with fail
    refine HPb.out.mono ?_
    intro e w6 hh
    obtain⟨he,hp6,ha6⟩:=hh.good
    subst he
    have hPl:=HPlt.out
    have HA6:=tQ (HA5.out.trans ha6 (fun _ _ h=>h))
    have HC6:Hid (w6.1[w4.1.size]?=some (.cells #[.string ⟨wd.toArray⟩,.int .i64 k4,.slice p4 n4 c4,.bool false,.int .i64 0,.int .i64 0,.float .f64 0,.string ⟨#[]⟩,.slice none 0 0] 38 (0,0))):=(ha6.block _ (ae HC5.out) hPC).trans HC5.out
    have HN6:Hid (w6.1[w.1.size]?=some (.cells cM 38 (0,0))):=(ha6.block _ (ae HN5.out) hPN).trans HN5.out
    have HO6:=tQ (HO5.out.aside ha6 (fun k hk he=>by omega))
    have HVa:Hid (Calls Tryz.prog 64 #[.pointer (some ⟨P,0,none⟩),.int .i64 1] w6 (PsA w6 P S (Tx.pval rf 4 r3) (bl w6))):=lw HRf.out 4 1 r3 P S w6 (by omega) HS.out hp6
    obtain⟨Y,hY⟩:∃Y,Y=Tx.pval rf 4 r3:=⟨_,rfl⟩
    rw[<-hY] at HVa HR5
    clear hh hp6 ha6 HPb HA5 HC5 HN5 HO5 hY hPl
    cases Y with
    |error er=>
     obtain⟨ek,en⟩:=er
     have HRe:Hid (R=.error (ek,en)):=HR5.out
     clear HR5
     go_wp2_with fail
     refine HVa.out.mono ?_
     intro e w7 hh
     obtain⟨he,ha7⟩:=hh.bad
     subst he
     have HA7:=tQ (HA6.out.trans ha7 (fun _ _ h=>h))
     clear hh ha7 HVa
     go_wp2
     rw[HRe.out]
     exact⟨rfl,rfl,HA7.out⟩
    |ok z=>
     obtain⟨x,r4⟩:=z
     have HRk:Hid (R=.ok (⟨⟨wd.toArray⟩,ty,true,x⟩,r4)):=HR5.out
     clear HR5
     go_wp2_with fail
     refine HVa.out.mono ?_
     intro e w7 hh
     obtain⟨v7,he,hv7,hp7,ha7⟩:=hh.good
     obtain⟨u7,hu7,hown7⟩:=hv7.open
     obtain⟨k7,i7,b7,x7,p7,n7,c7,hsh⟩:=hown7.shape
     subst hsh
     unfold cells5 at hu7 hown7
     subst hu7
     subst he
     have hPl:=HPlt.out
     have hC7:w7.1[w4.1.size]?=some (.cells #[.string ⟨wd.toArray⟩,.int .i64 k4,.slice p4 n4 c4,.bool false,.int .i64 0,.int .i64 0,.float .f64 0,.string ⟨#[]⟩,.slice none 0 0] 38 (0,0)):=(ha7.block _ (ae HC6.out) hPC).trans HC6.out
     have HN7:Hid (w7.1[w.1.size]?=some (.cells cM 38 (0,0))):=(ha7.block _ (ae HN6.out) hPN).trans HN6.out
     obtain⟨V7,hV7⟩:∃V7,V7=kg w7 w4.1.size true k7 i7 b7 x7 p7 n7 c7:=⟨_,rfl⟩
     have haV:Aside (fun i=>i=w4.1.size) w7 V7:=by rw[hV7];exact gq
     have hsV:V7.1.size=w7.1.size:=by rw[hV7];exact nb
     have HNV:Hid (V7.1[w.1.size]?=some (.cells cM 38 (0,0))):=(haV.block _ (ae HN7.out) hCN2).trans HN7.out
     have hl6:=ae HC6.out
     have hs7:=ha7.size
     have hTV:=(HO6.out.aside ha7 (fun k hk he=>by omega)).aside haV (fun k hk he=>by omega)
     have hVV:=hown7.aside haV (fun k hk he=>by omega)
     have hCO:bB V7 (fun k=>w.1.size<k∧k<V7.1.size) (aR ⟨wd.toArray⟩ k4 p4 n4 c4 true k7 i7 b7 x7 p7 n7 c7) ⟨⟨wd.toArray⟩,ty,true,x⟩:=⟨_,_,k4,p4,n4,c4,k7,i7,b7,x7,p7,n7,c7,rfl,hTV,hVV,fun k hk=>by omega,fun k hk=>by omega,fun k hk hc=>by omega⟩
     have hPV:=hp7.aside haV (fun k hk=>by omega)
     have hAV:=(HA6.out.trans ha7 (fun _ _ h=>h)).trans haV (fun i hi he=>by omega)
     have HFin:=tQ (fun w9 hw9=>sW (w5:=w9) HPlt.out HNV.out hCO (fun k hk=>hk) hPV hAV hw9)
     rw[hV7] at HFin
     have y0:w7.cell? ⟨w4.1.size,0,none⟩=some (.string ⟨wd.toArray⟩):=ab hC7 0
     have y1:w7.cell? ⟨w4.1.size,1,none⟩=some (.int .i64 k4):=ab hC7 1
     have y2:w7.cell? ⟨w4.1.size,2,none⟩=some (.slice p4 n4 c4):=ab hC7 2
     have y3:w7.cell? ⟨w4.1.size,3,none⟩=some (.bool false):=ab hC7 3
     have y4:w7.cell? ⟨w4.1.size,4,none⟩=some (.int .i64 0):=ab hC7 4
     have y5:w7.cell? ⟨w4.1.size,5,none⟩=some (.int .i64 0):=ab hC7 5
     have y6:w7.cell? ⟨w4.1.size,6,none⟩=some (.float .f64 0):=ab hC7 6
     have y7:w7.cell? ⟨w4.1.size,7,none⟩=some (.string ⟨#[]⟩):=ab hC7 7
     have y8:w7.cell? ⟨w4.1.size,8,none⟩=some (.slice none 0 0):=ab hC7 8
     have yf0:=ac hC7 0
     have yf1:=ac hC7 1
     have yf2:=ac hC7 2
     have yf3:=ac hC7 3
     have yf4:=ac hC7 4
     have yf5:=ac hC7 5
     have yf6:=ac hC7 6
     have yf7:=ac hC7 7
     have yf8:=ac hC7 8
     have z0:w7.cell? ⟨w.1.size,0,none⟩=some (.string ⟨#[]⟩):=ab HN7.out 0
     have z1:w7.cell? ⟨w.1.size,1,none⟩=some (.int .i64 0):=ab HN7.out 1
     have z2:w7.cell? ⟨w.1.size,2,none⟩=some (.slice none 0 0):=ab HN7.out 2
     have z3:w7.cell? ⟨w.1.size,3,none⟩=some (.bool false):=ab HN7.out 3
     have z4:w7.cell? ⟨w.1.size,4,none⟩=some (.int .i64 0):=ab HN7.out 4
     have z5:w7.cell? ⟨w.1.size,5,none⟩=some (.int .i64 0):=ab HN7.out 5
     have z6:w7.cell? ⟨w.1.size,6,none⟩=some (.float .f64 0):=ab HN7.out 6
     have z7:w7.cell? ⟨w.1.size,7,none⟩=some (.string ⟨#[]⟩):=ab HN7.out 7
     have z8:w7.cell? ⟨w.1.size,8,none⟩=some (.slice none 0 0):=ab HN7.out 8
     have zf0:=ac HN7.out 0
     have zf1:=ac HN7.out 1
     have zf2:=ac HN7.out 2
     have zf3:=ac HN7.out 3
     have zf4:=ac HN7.out 4
     have zf5:=ac HN7.out 5
     have zf6:=ac HN7.out 6
     have zf7:=ac HN7.out 7
     have zf8:=ac HN7.out 8
     clear hh hv7 hown7 hp7 ha7 HVa hC7 hV7 haV hsV hl6 hs7 hTV hVV hCO hPV hAV hPl HC6 HN6 HO6
     go_wp2
     obtain⟨f1,f2,f3,f4⟩:=HFin.out _ rfl
     refine bodyPost_ret (v:=.agg (aR ⟨wd.toArray⟩ k4 p4 n4 c4 true k7 i7 b7 x7 p7 n7 c7)) (results_cell_row rfl _ _ w.1.size _ _ _ _ rfl f1 Tryz.underlying38 rfl (by kernel_rfl)) rfl ?_
     rw[HRk.out]
     exact⟨_,rfl,f2,f3,f4⟩
end
end Go.Proofs.YtllbniljgcgbeaaGreatDoor

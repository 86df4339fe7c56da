import Derived.Test.YtllbniljgcgbeaaGreatDoorA3
set_option maxRecDepth 100000
set_option maxHeartbeats 4000000
namespace Go.Proofs.YtllbniljgcgbeaaGreatDoor
section
open Go.RowKit
theorem an.skip{w w':World}{R:Nat}{S:ByteArray}{a r:Tx.Bs}(h:an w R S (a++r))(hl:w'.1[R]?=some (.cells (rdC S ((S.size-r.length:Nat):Int) 0 0) 61)):an w' R S r:=by
 have hle:=h.le
 have hs:=h.suf
 simp only[List.length_append] at hle hs
 refine⟨hl,?_,by omega,h.small⟩
 have e:S.size-r.length=(S.size-(a.length+r.length))+a.length:=by omega
 rw[e,<-List.drop_drop,hs,List.drop_left]
theorem rm{w wr w3 w4:World}{R:Nat}{S:ByteArray}{K k:Int}{p:OA}{n c:Nat}{X Y:Tx.R (Ty×Tx.Bs)}(hR:R<w.1.size)(hzw:w.1.size<wr.1.size)(ht3:w3.1[wr.1.size]?=some (.cells #[.int .i64 K,.slice none 0 0] 32))(hA3:Aside (fun k=>k=R) w w3)(hA4:Aside (fun k=>k=R) w3 w4)(hz4:w4.1[w.1.size]?=some (.cells #[.int .i64 0,.slice none 0 0] 32))(ht4:w4.1[wr.1.size]?=some (.cells #[.int .i64 K,.slice none 0 0] 32))(hX:X=match Y with
   |.error e=>.error e
   |.ok (t,r)=>match Tx.must [41] r with
    |.error e=>.error e
    |.ok r=>.ok (⟨K,[t]⟩,r))(hO:dc w3 R S Y (.returned (.agg #[.int .i64 k,.slice p n c])) w4):
  Calls Tryz.prog 25 #[.pointer (some ⟨R,0,none⟩),.string ⟨#[41]⟩] ((w4.setCell ⟨wr.1.size,1,none⟩ (.slice (some ⟨w4.1.size,0,none⟩) 1 1)).alloc (.cells #[.int .i64 k,.slice p n c] 32)) fun e w6=>e=.returned (.tuple #[])∧w6.1[w.1.size]?=some (.cells #[.int .i64 0,.slice none 0 0] 32)∧w6.1[wr.1.size]?=some (.cells #[.int .i64 K,.slice (some ⟨w4.1.size,0,none⟩) 1 1] 32)∧∀w7,Aside (fun k=>k=w.1.size) w6 w7->dc w R S X (.returned (.agg #[.int .i64 K,.slice (some ⟨w4.1.size,0,none⟩) 1 1])) w7:=by
 obtain⟨V,hV⟩:∃V,w4.setCell ⟨wr.1.size,1,none⟩ (.slice (some ⟨w4.1.size,0,none⟩) 1 1)=V:=⟨_,rfl⟩
 have hVs:V.1.size=w4.1.size:=by rw[<-hV];simp only[World.setCell,Array.size_modify]
 have hVa:Aside (fun k=>k=wr.1.size) w4 V:=by rw[<-hV];exact(Aside.refl (fun k=>k=wr.1.size) w4).setCell (p:=⟨wr.1.size,1,none⟩) (.inl rfl) _
 have hVt:V.1[wr.1.size]?=some (.cells #[.int .i64 K,.slice (some ⟨w4.1.size,0,none⟩) 1 1] 32):=by
  rw[<-hV]
  simp only[World.setCell,Array.getElem?_modify,ht4,if_true,Option.map_some]
  rfl
 rw[hV]
 obtain⟨W,hW⟩:∃W,V.alloc (.cells #[.int .i64 k,.slice p n c] 32)=W:=⟨_,rfl⟩
 have hb:Below V.1.size V W:=by rw[<-hW];exact tY
 have hg:W.1[w4.1.size]?=some (.cells #[.int .i64 k,.slice p n c] 32):=by rw[<-hW,<-hVs];exact aj V _
 rw[hW]
 have h34:wr.1.size<w3.1.size:=ae ht3
 have h44:w3.1.size<=w4.1.size:=hA4.size
 have hA5:Aside (fun k=>k=wr.1.size) w4 W:=hVa.trans (ag hb _) (fun _ _ h=>h)
 have hz5:W.1[w.1.size]?=some (.cells #[.int .i64 0,.slice none 0 0] 32):=(hA5.block w.1.size (ae hz4) (by omega)).trans hz4
 have ht5:W.1[wr.1.size]?=some (.cells #[.int .i64 K,.slice (some ⟨w4.1.size,0,none⟩) 1 1] 32):=(hb.block wr.1.size (ae hVt)).trans hVt
 have hAw:Aside (fun k=>k=R) w W:=(hA3.trans hA4 (fun _ _ h=>h)).trans hA5 (fun i hi hc=>by omega)
 obtain⟨_,hO⟩:=hO
 cases Y with
 |error y=>
  obtain⟨e,m⟩:=y
  obtain⟨_,_,_,_,_,hB⟩:=hO
  have hB5:=hB.aside hA5 (by omega)
  refine(bj hB5 ⟨#[41]⟩ (by decide)).mono fun r w' ⟨q1,q2⟩=>?_
  subst q2
  refine⟨q1,hz5,ht5,fun w7 h7=>?_⟩
  rw[hX]
  exact⟨hAw.trans h7 (fun i hi hc=>by omega),K,_,_,_,rfl,hB5.aside h7 (by omega)⟩
 |ok y=>
  obtain⟨t,r2⟩:=y
  obtain⟨k',p',n',c',F,q,hT,hF,hD⟩:=hO
  injection q with q
  injection q with q
  rw[<-q] at hT
  have hD5:=hD.aside hA5 (by omega)
  refine(bb hD5 ⟨#[41]⟩ (by decide)).mono fun r w' ⟨q1,q2,q3⟩=>?_
  have em:(ByteArray.mk #[41]).data.toList=[41]:=rfl
  rw[em] at q2
  refine⟨q1,(q3.block w.1.size (ae hz5) (by omega)).trans hz5,(q3.block wr.1.size (ae ht5) (by omega)).trans ht5,fun w7 h7=>?_⟩
  have hA7:Aside (fun k=>k=R) w w7:=(hAw.trans q3 (fun _ _ h=>h)).trans h7 (fun i hi hc=>by omega)
  have hg7:w7.1[w4.1.size]?=some (.cells #[.int .i64 k,.slice p n c] 32):=by
   have g1:=(q3.block w4.1.size (ae hg) (by omega)).trans hg
   exact(h7.block w4.1.size (ae g1) (by omega)).trans g1
  have hT7:aT w7 F #[.int .i64 k,.slice p n c] t :=
   ((hT.aside hA5 (fun i hi hc=>by have:=hF i hi;omega)).aside q3 (fun i hi hc=>by have:=hF i hi;omega)).aside h7 (fun i hi hc=>by have:=hF i hi;omega)
  rw[hX]
  dsimp only
  cases hm:Tx.must [41] r2 with
  |error y=>
   obtain⟨e,m⟩:=y
   rw[hm] at q2
   exact⟨hA7,K,_,_,_,rfl,ap.aside q2 h7 (by omega)⟩
  |ok r3=>
   rw[hm] at q2
   refine⟨hA7,K,_,_,_,fun i=>F i∨i=w4.1.size,rfl,aT.one hg7 hT7 (fun _ h=>.inl h) (fun hc=>by have:=hF _ hc;omega) (.inr rfl),fun i hi=>?_,an.aside q2 h7 (by omega)⟩
   have:=ae hg7
   rcases hi with hi | hi
   ·have:=hF i hi;omega
   ·omega
section
variable {w w':World} {R:Nat} {S:ByteArray} {l:Tx.Bs}
theorem ko:∀(f:Nat) (w:World) (l:Tx.Bs),f<=4->an w R S l->Calls Tryz.prog 26 #[.pointer (some ⟨R,0,none⟩),.int .i64 ((5-f:Nat):Int)] w (dc w R S (Tx.pty f l))
 |0,w,l,_,h=>jy h
 |f+1,w,l,hf,h=>by
  obtain⟨W0,hW0⟩:∃W0,w.alloc (.cells #[.int .i64 0,.slice none 0 0] 32)=W0:=⟨_,rfl⟩
  have hb0:Below w.1.size w W0:=by rw[<-hW0];exact tY
  have hz0:W0.1[w.1.size]?=some (.cells #[.int .i64 0,.slice none 0 0] 32):=by rw[<-hW0];exact aj w _
  have h0:=h.on hb0
  have g4:¬(4:Int)<((5-(f+1):Nat):Int):=by omega
  obtain⟨dp,hdp⟩:∃dp,dp=5-(f+1):=⟨_,rfl⟩
  rw[<-hdp] at g4 ⊢
  obtain⟨X,hX⟩:∃X,X=Tx.pty (f+1) l:=⟨_,rfl⟩
  rw[<-hX]
  have HX:=tQ hX
  clear hX
  have HDP:=tQ hdp
  have HRw:=tQ (dJ h0 0 (by omega))
  have e0:cH 0=Sch.low:=rfl
  rw[e0] at HRw
  obtain⟨wd,hwd⟩:∃wd,wd=l.takeWhile Sch.low:=⟨_,rfl⟩
  rw[<-hwd] at HRw
  have HKs:=tQ (fun w'=>lL w')
  have HH0:=tQ h0
  have HB0:=tQ hb0
  have HZ0:=tQ hz0
  have HW0:=tQ hW0
  have HH:=tQ h
  have HWD:=tQ hwd
  clear hdp h h0 hb0 hz0 e0 hwd
  go_enter Tryz.func26,Tryz.ntmps26
  go_wp2_with fail
  refine HRw.out.mono ?_
  rintro e w1 ⟨rfl,hb1⟩
  have HB1:=tQ hb1
  clear hb1 HRw
  go_wp2_with fail
  refine(HKs.out w1).mono ?_
  rintro e w2 ⟨rfl,hw2⟩
  have hk2:w2.1[w1.1.size]?=some (.cells gK 9):=by rw[hw2];exact aj w1 _
  have hb2:Below w1.1.size w1 w2:=by rw[hw2];exact tY
  have HK2:=tQ hk2
  have HB2:=tQ hb2
  clear hw2 hk2 hb2 HKs
  go_wp2_with fail
  go_loopw [6,23] (fun v6 v23 wr=>wr=w2∧∃j:Nat,j<=8∧v23=.int .i64 (j:Nat)∧v6=.int .i64 (kf wd j)) (fun _ v23 _=>8-(intOf v23).toNat)
  case atStart=>exact⟨rfl,0,Nat.zero_le _,rfl,rfl⟩
  case round=>
   obtain⟨hwr,j,hj,rfl,rfl⟩:=hrel
   subst hwr
   by_cases hlt:j<8
   ·have f1:(j:Int)<8:=by omega
    have y0:wr.cell? ⟨w1.1.size,j,none⟩=gK[j]?:=by
     unfold World.cell?
     rw[HK2.out]
     rfl
    by_cases hj0:j=0
    ·have y1:gK[j]?=some (.string ⟨#[]⟩):=by rw[hj0];rfl
     rw[y1] at y0
     have g1:¬(0:Int)<(j:Int):=by omega
     have g2:decide ((0:Int)<(j:Int))=false:=decide_eq_false g1
     have g3:decide (0<j)=false:=decide_eq_false (by omega)
     have HN:Hid (kf wd (j+1)=kf wd j):=by show _=_;rw[kf,if_neg (by omega)]
     clear y1 hj0
     go_wp2
     go_roundw
     case rel=>exact⟨trivial,j+1,by omega,by go_num,by rw[HN.out]⟩
     case measure=>simp[intOf];omega
    ·rw[pA (m:=j) (by omega)] at y0
     have g1:(0:Int)<(j:Int):=by omega
     have g2:decide ((0:Int)<(j:Int))=true:=decide_eq_true g1
     have g3:decide (0<j)=true:=decide_eq_true (by omega)
     obtain⟨X,hX⟩:∃X,X=Tx.word (j:Int):=⟨_,rfl⟩
     rw[<-hX] at y0
     have e9:∀a:Tx.Bs,(ByteArray.mk a.toArray).toList=a:=fun a=>by rw[ByteArray.toList_eq]
     have e8:=e9 X
     have e7:=e9 wd
     clear e9
     by_cases hx:X=wd
     ·have HN:Hid (kf wd (j+1)=(j:Int)):=by show _=_;rw[kf,if_pos ⟨by omega,by rw[<-hX];exact hx⟩]
      have e6:(X==wd)=true:=by rw[beq_iff_eq];exact hx
      clear hX hx hj0
      go_wp2
      go_roundw
      case rel=>exact⟨trivial,j+1,by omega,by go_num,by rw[HN.out]⟩
      case measure=>simp[intOf];omega
     ·have HN:Hid (kf wd (j+1)=kf wd j):=by show _=_;rw[kf,if_neg (fun hc=>hx (by rw[hX];exact hc.2))]
      have e6:(X==wd)=false:=by rw[beq_eq_false_iff_ne];exact hx
      clear hX hx hj0
      go_wp2
      go_roundw
      case rel=>exact⟨trivial,j+1,by omega,by go_num,by rw[HN.out]⟩
      case measure=>simp[intOf];omega
   ·obtain rfl:j=8:=by omega
    have hkf:=r6 wd
    obtain⟨K,hK⟩:∃K,K=Tx.kindOf wd:=⟨_,rfl⟩
    rw[hkf,<-hK]
    have HK:=tQ hK
    have hzs:W0.1.size=w.1.size+1:=by rw[<-HW0.out];exact Array.size_push _
    have hbw:Below w.1.size w wr:=by
     have q1:=(HB1.out).mono (show w.1.size<=W0.1.size by omega)
     have q2:=(HB2.out).mono (show w.1.size<=w1.1.size by have:=HB1.out.size;omega)
     exact(HB0.out.trans q1).trans q2
    have hz:wr.1[w.1.size]?=some (.cells #[.int .i64 0,.slice none 0 0] 32):=by
     rw[HB2.out.block w.1.size (by have:=HB1.out.size;omega),HB1.out.block w.1.size (by omega)]
     exact HZ0.out
    have HBW:=tQ hbw
    have HZ:=tQ hz
    have HR:=tQ (HH.out.on hbw)
    have c1:wr.cell? ⟨R,1,none⟩=some (.int .i64 ((S.size-l.length:Nat):Int)):=HR.out.cell 1
    have HRl:=tQ HH.out.lt
    have hRz:¬w.1.size=R:=by have:=HRl.out;omega
    clear hkf hK hbw hz HB1 HB2 HB0 HK2 HH0 HZ0 HW0 hW0
    by_cases hK0:K=0
    ·subst hK0
     have HXe:Hid (X=.error (5,l.length)):=by
      show X=_
      rw[HX.out,Tx.pty,<-HWD.out,<-HK.out,if_pos rfl]
     have HF:Hid (Calls Tryz.prog 24 #[.pointer (some ⟨R,0,none⟩),.int .i64 5,.int .i64 ((S.size-l.length:Nat):Int)] wr fun r w'=>r=.returned (.tuple #[])∧w'.1[w.1.size]?=some (.cells #[.int .i64 0,.slice none 0 0] 32)∧dc w R S (.error (5,l.length)) (.returned (.agg #[.int .i64 0,.slice none 0 0])) w'):=by
      refine(aP HR.out 5 l.length (by decide)).mono fun r w' ⟨q1,q2,q3⟩=>⟨q1,?_,?_,⟨_,_,_,_,rfl,q2⟩⟩
      ·exact(q3.block w.1.size (ae HZ.out) hRz).trans HZ.out
      ·exact(ag HBW.out _).trans q3 (fun _ _ h=>h)
     clear HR HZ HBW HX
     go_wp2_with fail
     refine HF.out.mono ?_
     rintro e w3 ⟨rfl,hz1,hp1⟩
     have y0:w3.cell? ⟨w.1.size,0,none⟩=some (.int .i64 0):=ab hz1 0
     have y1:w3.cell? ⟨w.1.size,1,none⟩=some (.slice none 0 0):=ab hz1 1
     have t0:=ac hz1 0
     have t1:=ac hz1 1
     have HZ1:=tQ hz1
     have HP1:=tQ hp1
     clear hz1 hp1 HF
     obtain⟨hz2,ha2⟩:=eO HZ1.out (.int .i64 0) (.slice none 0 0) rfl
     have HZ2:=tQ hz2
     have HP2:=tQ (pk HP1.out HRl.out ha2 (ae HZ1.out))
     clear hz2 ha2
     go_wp2
     refine bodyPost_ret (v:=.agg #[.int .i64 0,.slice none 0 0]) (results_cell_row rfl _ _ w.1.size _ _ _ _ rfl HZ2.out Tryz.underlying32 rfl (by kernel_rfl)) rfl ?_
     rw[HXe.out]
     exact HP2.out
    ·have b1:(K==0)=false:=by rw[beq_eq_false_iff_ne];exact hK0
     obtain⟨r,hr⟩:∃r,r=l.dropWhile Sch.low:=⟨_,rfl⟩
     have hlr:l=wd++r:=by rw[HWD.out,hr];exact(List.takeWhile_append_dropWhile).symm
     have HR':an wr R S (wd++r):=by rw[<-hlr];exact HR.out
     have hle:=HR'.le
     have hsm:=HR'.small
     have hll:l.length=wd.length+r.length:=by rw[hlr,List.length_append]
     rw[List.length_append] at hle
     obtain⟨a,ha⟩:∃a,S.size-l.length=a:=⟨_,rfl⟩
     rw[ha] at c1
     have hra:((S.size-r.length:Nat):Int)=(a:Int)+(wd.length:Int):=by omega
     have t1:=HR.out.thawed 1
     have g5:(a:Int)+(wd.length:Int)<=140737488351232:=by omega
     have g6:(0:Int)<=(a:Int)+(wd.length:Int):=by omega
     obtain⟨W1,hW1⟩:∃W1,wr.setCell ⟨R,1,none⟩ (.int .i64 ((a:Int)+(wd.length:Int)))=W1:=⟨_,rfl⟩
     have hR1:an W1 R S r:=by
      refine HR'.skip ?_
      rw[hra,<-hW1]
      simp only[World.setCell,Array.getElem?_modify,HR.out.lies,if_true,Option.map_some]
      rw[ha]
      rfl
     have hA1:Aside (fun k=>k=R) w W1:=by
      rw[<-hW1]
      exact(ag HBW.out _).trans ((Aside.refl (fun k=>k=R) wr).setCell (p:=⟨R,1,none⟩) (.inl rfl) _) (fun _ _ h=>h)
     have hAw:Aside (fun k=>k=R) wr W1:=by
      rw[<-hW1]
      exact(Aside.refl (fun k=>k=R) wr).setCell (p:=⟨R,1,none⟩) (.inl rfl) _
     have hz1:W1.1[w.1.size]?=some (.cells #[.int .i64 0,.slice none 0 0] 32):=(hAw.block w.1.size (ae HZ.out) hRz).trans HZ.out
     obtain⟨W2,hW2⟩:∃W2,W1.alloc (.cells #[.int .i64 K,.slice none 0 0] 32)=W2:=⟨_,rfl⟩
     have hb2:Below W1.1.size W1 W2:=by rw[<-hW2];exact tY
     have hz2:W2.1[w.1.size]?=some (.cells #[.int .i64 0,.slice none 0 0] 32):=(hb2.block w.1.size (ae hz1)).trans hz1
     have hR2:=hR1.on hb2
     have hA2:Aside (fun k=>k=R) w W2:=hA1.trans (ag hb2 _) (fun _ _ h=>h)
     have ht2:W2.1[W1.1.size]?=some (.cells #[.int .i64 K,.slice none 0 0] 32):=by rw[<-hW2];exact aj W1 _
     by_cases hK6:K<6
     ·have b2:¬(6:Int)<=K:=by omega
      have b3:decide ((6:Int)<=K)=false:=decide_eq_false b2
      have HXe:Hid (X=.ok (⟨K,[]⟩,r)):=by
       show X=_
       rw[HX.out,Tx.pty,<-HWD.out,<-HK.out,if_neg hK0,if_pos hK6,<-hr]
      have y0:W2.cell? ⟨w.1.size,0,none⟩=some (.int .i64 0):=ab hz2 0
      have y1:W2.cell? ⟨w.1.size,1,none⟩=some (.slice none 0 0):=ab hz2 1
      have v0:=ac hz2 0
      have v1:=ac hz2 1
      obtain⟨hz3,ha3⟩:=eO hz2 (.int .i64 K) (.slice none 0 0) rfl
      have HP:Hid (dc w R S (.ok (⟨K,[]⟩,r)) (.returned (.agg #[.int .i64 K,.slice none 0 0])) ((W2.setCell ⟨w.1.size,0,none⟩ (.int .i64 K)).setCell ⟨w.1.size,1,none⟩ (.slice none 0 0))):=by
       refine⟨hA2.trans ha3 (fun i hi hc=>by omega),K,none,0,0,fun _=>False,rfl,aT.none,fun i hi=>hi.elim,hR2.aside ha3 (fun hc=>hRz hc.symm)⟩
      have HZ3:=tQ hz3
      rw[<-hW2,<-hW1] at y0 y1 v0 v1 HP HZ3
      clear hz3 ha3 hz2 hb2 hR2 hA2 ht2 hW2 hz1 hAw hA1 hR1 hW1 hra hll hle HR' hlr hr HR HZ HBW HX ha
      go_wp2
      refine bodyPost_ret (v:=.agg #[.int .i64 K,.slice none 0 0]) (results_cell_row rfl _ _ w.1.size _ _ _ _ rfl HZ3.out Tryz.underlying32 rfl (by kernel_rfl)) rfl ?_
      rw[HXe.out]
      exact HP.out
     ·have b2:(6:Int)<=K:=by omega
      have b3:decide ((6:Int)<=K)=true:=decide_eq_true b2
      have HXe:Hid (X=match Tx.must [40] r with
        |.error e=>.error e
        |.ok r=>match Tx.pty f r with
         |.error e=>.error e
         |.ok (t,r)=>match Tx.must [41] r with
          |.error e=>.error e
          |.ok r=>.ok (⟨K,[t]⟩,r)):=by
       show X=_
       rw[HX.out,Tx.pty,<-HWD.out,<-HK.out,if_neg hK0,if_neg hK6,<-hr]
       rfl
      have hWs:W1.1.size=wr.1.size:=by rw[<-hW1];simp only[World.setCell,Array.size_modify]
      rw[hWs] at ht2
      have hzw:w.1.size<wr.1.size:=ae HZ.out
      have HM:=tQ (bb hR2 ⟨#[40]⟩ (by decide))
      have em:(ByteArray.mk #[40]).data.toList=[40]:=rfl
      rw[em] at HM
      have HA2:=tQ hA2
      have HZ2:=tQ hz2
      have HT2:=tQ ht2
      have HN:Hid (∀w',Aside (fun k=>k=R) W2 w'->w'.1[w.1.size]?=some (.cells #[.int .i64 0,.slice none 0 0] 32)∧w'.1[wr.1.size]?=some (.cells #[.int .i64 K,.slice none 0 0] 32)∧Aside (fun k=>k=R) w w'):=fun w' q=>by
       refine⟨(q.block w.1.size (ae hz2) hRz).trans hz2,(q.block wr.1.size (ae ht2) (by have:=HRl.out;omega)).trans ht2,hA2.trans q (fun _ _ h=>h)⟩
      have HMb:Hid (∀w',Hid (rM w' R S (Tx.must [40] r)∧Aside (fun k=>k=R) W2 w')->True):=fun _ _=>trivial
      rw[<-hW2,<-hW1] at HM HN
      clear hz2 hb2 hR2 hA2 ht2 hW2 hz1 hAw hA1 hR1 hW1 hra hll hle HR' hlr hr HR HZ HBW HX ha HA2 HZ2 HT2 HMb em hWs
      go_wp2_with fail
      refine HM.out.mono ?_
      rintro e w3 ⟨rfl,hq1,hq2⟩
      obtain⟨hz3,ht3,hA3⟩:=HN.out w3 hq2
      clear HM HN hq2
      cases hm:Tx.must [40] r with
      |error em=>
       obtain⟨e,n⟩:=em
       rw[hm] at hq1 HXe
       have hq1:ap w3 R S e n:=hq1
       have HXe:Hid (X=.error (e,n)):=HXe
       have c2:=hq1.cell2
       have he:=hq1.bad
       have b4:((e:Int)==0)=false:=by rw[beq_eq_false_iff_ne];omega
       have b5:(e==0)=false:=by rw[beq_eq_false_iff_ne];exact he
       have HB:=tQ (bj hq1 ⟨#[41]⟩ (by decide))
       have y0:w3.cell? ⟨w.1.size,0,none⟩=some (.int .i64 0):=ab hz3 0
       have y1:w3.cell? ⟨w.1.size,1,none⟩=some (.slice none 0 0):=ab hz3 1
       have v0:=ac hz3 0
       have v1:=ac hz3 1
       have x0:w3.cell? ⟨wr.1.size,0,none⟩=some (.int .i64 K):=ab ht3 0
       have x1:w3.cell? ⟨wr.1.size,1,none⟩=some (.slice none 0 0):=ab ht3 1
       obtain⟨hz4,ha4⟩:=eO hz3 (.int .i64 K) (.slice none 0 0) rfl
       have HZ4:=tQ hz4
       have HP:Hid (dc w R S (.error (e,n)) (.returned (.agg #[.int .i64 K,.slice none 0 0])) ((w3.setCell ⟨w.1.size,0,none⟩ (.int .i64 K)).setCell ⟨w.1.size,1,none⟩ (.slice none 0 0))):=by
        refine⟨hA3.trans ha4 (fun i hi hc=>by omega),K,none,0,0,rfl,hq1.aside ha4 (fun hc=>hRz hc.symm)⟩
       have HC2:=tQ c2
       clear hz4 ha4 hz3 ht3 hA3 hq1 hm he
       go_wp2_with fail
       refine HB.out.mono ?_
       rintro e2 w4 ⟨rfl,hw4⟩
       subst hw4
       go_wp2
       refine bodyPost_ret (v:=.agg #[.int .i64 K,.slice none 0 0]) (results_cell_row rfl _ _ w.1.size _ _ _ _ rfl HZ4.out Tryz.underlying32 rfl (by kernel_rfl)) rfl ?_
       rw[HXe.out]
       exact HP.out
      |ok r1=>
       rw[hm] at hq1 HXe
       have hq1:an w3 R S r1:=hq1
       have HXe:Hid (X=match Tx.pty f r1 with
         |.error e=>.error e
         |.ok (t,r)=>match Tx.must [41] r with
          |.error e=>.error e
          |.ok r=>.ok (⟨K,[t]⟩,r)):=HXe
       have c2:w3.cell? ⟨R,2,none⟩=some (.int .i64 0):=hq1.cell 2
       have HQ:=tQ hq1
       have HZ3:=tQ hz3
       have HT3:=tQ ht3
       have HA3:=tQ hA3
       clear hm hq1 hz3 ht3 hA3
       have hdp:=HDP.out
       have e5:(dp:Int)+1=((5-f:Nat):Int):=by omega
       have HO:=tQ (ko f w3 r1 (by omega) HQ.out)
       rw[<-e5] at HO
       obtain⟨Y,hY⟩:∃Y,Y=Tx.pty f r1:=⟨_,rfl⟩
       rw[<-hY] at HO HXe
       clear hdp e5 hY
       go_wp2_with fail
       refine HO.out.mono ?_
       intro e w4 hO
       have hsh:∃k p n c,e=.returned (.agg #[.int .i64 k,.slice p n c]):=by
        obtain⟨_,hO⟩:=hO
        cases Y with
        |ok y=>obtain⟨t,l⟩:=y;obtain⟨k,p,n,c,F,q,_⟩:=hO;exact⟨k,p,n,c,q⟩
        |error y=>obtain⟨t,l⟩:=y;obtain⟨k,p,n,c,q,_⟩:=hO;exact⟨k,p,n,c,q⟩
       obtain⟨k,p,n,c,rfl⟩:=hsh
       have hA4:=hO.1
       have hz4:w4.1[w.1.size]?=some (.cells #[.int .i64 0,.slice none 0 0] 32):=(hA4.block w.1.size (ae HZ3.out) hRz).trans HZ3.out
       have ht4:w4.1[wr.1.size]?=some (.cells #[.int .i64 K,.slice none 0 0] 32):=(hA4.block wr.1.size (ae HT3.out) (by have:=HRl.out;omega)).trans HT3.out
       have HO4:=tQ hO
       have HA4:=tQ hA4
       have HZ4:=tQ hz4
       have HT4:=tQ ht4
       have x0:w4.cell? ⟨wr.1.size,0,none⟩=some (.int .i64 K):=ab ht4 0
       have x1:w4.cell? ⟨wr.1.size,1,none⟩=some (.slice none 0 0):=ab ht4 1
       have v0:=ac ht4 0
       have v1:=ac ht4 1
       have hlt4:wr.1.size<w4.1.size:=ae ht4
       have HC:Hid (Calls Tryz.prog 25 #[.pointer (some ⟨R,0,none⟩),.string ⟨#[41]⟩] ((w4.setCell ⟨wr.1.size,1,none⟩ (.slice (some ⟨w4.1.size,0,none⟩) 1 1)).alloc (.cells #[.int .i64 k,.slice p n c] 32)) fun e w6=>e=.returned (.tuple #[])∧w6.1[w.1.size]?=some (.cells #[.int .i64 0,.slice none 0 0] 32)∧w6.1[wr.1.size]?=some (.cells #[.int .i64 K,.slice (some ⟨w4.1.size,0,none⟩) 1 1] 32)∧∀w7,Aside (fun k=>k=w.1.size) w6 w7->dc w R S X (.returned (.agg #[.int .i64 K,.slice (some ⟨w4.1.size,0,none⟩) 1 1])) w7) :=
        rm HRl.out hzw HT3.out HA3.out HA4.out hz4 ht4 HXe.out hO
       clear hO hA4 hz4 ht4 HO HO4 HA4 HA3 HXe
       go_wp2_with fail
       refine HC.out.mono ?_
       rintro e w6 ⟨rfl,hz6,ht6,hl6⟩
       have y0:w6.cell? ⟨w.1.size,0,none⟩=some (.int .i64 0):=ab hz6 0
       have y1:w6.cell? ⟨w.1.size,1,none⟩=some (.slice none 0 0):=ab hz6 1
       have s0:=ac hz6 0
       have s1:=ac hz6 1
       have d0:w6.cell? ⟨wr.1.size,0,none⟩=some (.int .i64 K):=ab ht6 0
       have d1:w6.cell? ⟨wr.1.size,1,none⟩=some (.slice (some ⟨w4.1.size,0,none⟩) 1 1):=ab ht6 1
       obtain⟨hz7,ha7⟩:=eO hz6 (.int .i64 K) (.slice (some ⟨w4.1.size,0,none⟩) 1 1) rfl
       have HZ7:=tQ hz7
       have HP:=tQ (hl6 _ ha7)
       clear hz7 ha7 hl6 hz6 ht6 HC
       go_wp2
       refine bodyPost_ret (v:=.agg #[.int .i64 K,.slice (some ⟨w4.1.size,0,none⟩) 1 1]) (results_cell_row rfl _ _ w.1.size _ _ _ _ rfl HZ7.out Tryz.underlying32 rfl (by kernel_rfl)) rfl ?_
       exact HP.out
end
end
section
open Go.RowKit
theorem iU(c:UInt8)(w:World):Calls Tryz.prog 90 #[.int .u8 (c.toNat:Int)] w fun e w'=>e=.returned (.int .i64 (Tx.half c:Int))∧w'=w:=by
 have HD:=tQ (cV c w)
 have hc:c.toNat<256:=c.toNat_lt
 have hcI:(c.toNat:Int)<256:=by omega
 have HV:Hid (Tx.dig c=true->48<=c.toNat∧c.toNat<=57):=fun h=>by
  have h:Tx.dig c=true:=h
  rw[<-mE c,Bool.and_eq_true,decide_eq_true_eq,decide_eq_true_eq] at h
  omega
 cases hd:Tx.dig c with
 |true=>
  have hv:=HV.out hd
  have HR:Hid ((Tx.half c:Int)=(c.toNat:Int)-48):=by
   show _=_
   unfold Tx.half
   rw[hd,if_pos rfl]
   omega
  rw[hd] at HD
  have n1:(48:Int)<=(c.toNat:Int):=by omega
  have n2:(c.toNat:Int)<=57:=by omega
  clear HV hd hv
  go_enter Tryz.func90,Tryz.ntmps90
  go_wp2_with fail
  refine HD.out.mono ?_
  rintro e w1 ⟨rfl,hw1⟩
  subst hw1
  go_wp2
  go_ret
  exact⟨by rw[HR.out];go_num,rfl⟩
 |false=>
  rw[hd] at HD
  by_cases h1:97<=c.toNat
  ·have n1:(97:Int)<=(c.toNat:Int):=by omega
   by_cases h2:c.toNat<=102
   ·have n2:(c.toNat:Int)<=102:=by omega
    have HR:Hid ((Tx.half c:Int)=(c.toNat:Int)-97+10):=by
     show _=_
     unfold Tx.half
     rw[hd,if_neg (by decide),if_pos ⟨h1,h2⟩]
     omega
    clear HV hd
    go_enter Tryz.func90,Tryz.ntmps90
    go_wp2_with fail
    refine HD.out.mono ?_
    rintro e w1 ⟨rfl,hw1⟩
    subst hw1
    go_wp2
    go_ret
    exact⟨by rw[HR.out];go_num,rfl⟩
   ·have n2:¬(c.toNat:Int)<=102:=by omega
    have HR:Hid ((Tx.half c:Int)=16):=by
     show _=_
     unfold Tx.half
     rw[hd,if_neg (by decide),if_neg (fun hc=>h2 hc.2)]
     rfl
    clear HV hd
    go_enter Tryz.func90,Tryz.ntmps90
    go_wp2_with fail
    refine HD.out.mono ?_
    rintro e w1 ⟨rfl,hw1⟩
    subst hw1
    go_wp2
    go_ret
    exact⟨by rw[HR.out];rfl,rfl⟩
  ·have n1:¬(97:Int)<=(c.toNat:Int):=by omega
   have HR:Hid ((Tx.half c:Int)=16):=by
    show _=_
    unfold Tx.half
    rw[hd,if_neg (by decide),if_neg (fun hc=>h1 hc.1)]
    rfl
   clear HV hd
   go_enter Tryz.func90,Tryz.ntmps90
   go_wp2_with fail
   refine HD.out.mono ?_
   rintro e w1 ⟨rfl,hw1⟩
   subst hw1
   go_wp2
   go_ret
   exact⟨by rw[HR.out];rfl,rfl⟩
end
section
open Go.RowKit
def fa{α:Type}(y:Tx.R (α×Tx.Bs)):Tx.R α:=match y with
 |.error e=>.error e
 |.ok (x,r)=>if r=[] then .ok x else .error (5,r.length)
def aW{α:Type}(w:World)(R:Nat)(S:ByteArray):Tx.R (α×Tx.Bs)->Prop
 |.ok (_,r)=>an w R S r
 |.error (e,n)=>ap w R S e n
def rN{α:Type}(w:World)(R:Nat)(S:ByteArray):Tx.R α->Prop
 |.ok _=>an w R S []
 |.error (e,n)=>ap w R S e n
section
variable {w w':World} {R:Nat} {S:ByteArray} {l:Tx.Bs}
theorem ap.lt{e n:Nat}(h:ap w R S e n):R<w.1.size:=by
 obtain⟨a,_,h2⟩:=h.lies
 exact ae h2
theorem ap.drewN{e n:Nat}(h:ap w R S e n)(k:Nat):ap (w.drewN k) R S e n:=⟨h.lies,h.bad,h.small⟩
theorem jA{e n:Nat}(h:ap w R S e n)(a b:Int):Calls Tryz.prog 24 #[.pointer (some ⟨R,0,none⟩),.int .i64 a,.int .i64 b] w fun r w'=>r=.returned (.tuple #[])∧w'=w:=by
 have c2:=h.cell2
 have he:=h.bad
 have b1:((e:Int)==0)=false:=by rw[beq_eq_false_iff_ne];omega
 clear h
 go_enter Tryz.func24,Tryz.ntmps24
 go_wp2
 go_end0
 exact⟨rfl,rfl⟩
theorem bp{α:Type}(y:Tx.R (α×Tx.Bs))(h:aW w R S y):Calls Tryz.prog 29 #[.pointer (some ⟨R,0,none⟩)] w fun r w'=>r=.returned (.tuple #[])∧rN w' R S (fa y)∧Aside (fun k=>k=R) w w':=by
 cases y with
 |error y=>
  obtain⟨e,n⟩:=y
  have h:ap w R S e n:=h
  obtain⟨a,ha,hl⟩:=h.lies
  have c0:w.cell? ⟨R,0,none⟩=some (.string S):=ab hl 0
  have c1:w.cell? ⟨R,1,none⟩=some (.int .i64 (a:Int)):=ab hl 1
  have hsm:=h.small
  have HF:=tQ (fun k=>jA (h.drewN k) 5 (a:Int))
  have HB:=tQ (fun k=>h.drewN k)
  clear h hl
  by_cases hlt:a<S.size
  ·have f1:(a:Int)<(S.size:Int):=by omega
   go_enter Tryz.func29,Tryz.ntmps29
   go_wp2_with fail
   go_quiet (fail)
   go_wp2_with fail
   refine(HF.out _).mono ?_
   rintro e w1 ⟨rfl,rfl⟩
   go_wp2
   go_end0
   exact⟨rfl,HB.out _,am _ _ _⟩
  ·have f1:¬(a:Int)<(S.size:Int):=by omega
   go_enter Tryz.func29,Tryz.ntmps29
   go_wp2_with fail
   go_quiet (fail)
   go_wp2
   go_end0
   exact⟨rfl,HB.out _,am _ _ _⟩
 |ok y=>
  obtain⟨x,l⟩:=y
  have h:an w R S l:=h
  have c0:w.cell? ⟨R,0,none⟩=some (.string S):=h.cell 0
  have c1:w.cell? ⟨R,1,none⟩=some (.int .i64 ((S.size-l.length:Nat):Int)):=h.cell 1
  have hsm:=h.small
  have hle:=h.le
  by_cases hl:l=[]
  ·subst hl
   have HB:=tQ (fun k=>h.drewN k)
   have f1:¬((S.size-([]:Tx.Bs).length:Nat):Int)<(S.size:Int):=by simp
   obtain⟨a,ha⟩:∃a,a=S.size-([]:Tx.Bs).length:=⟨_,rfl⟩
   rw[<-ha] at c1 f1
   clear h ha hle
   go_enter Tryz.func29,Tryz.ntmps29
   go_wp2_with fail
   go_quiet (fail)
   go_wp2
   go_end0
   exact⟨rfl,HB.out _,am _ _ _⟩
  ·have hn:0<l.length:=List.length_pos_iff.2 hl
   have HF:=tQ (fun k=>aP (h.drewN k) 5 l.length (by decide))
   have HE:Hid (∀w',ap w' R S 5 l.length->rN w' R S (fa (.ok (x,l):Tx.R (α×Tx.Bs)))):=fun w' hb=>by
    have e:fa (.ok (x,l):Tx.R (α×Tx.Bs))=.error (5,l.length):=if_neg hl
    rw[e]
    exact hb
   have f1:((S.size-l.length:Nat):Int)<(S.size:Int):=by omega
   obtain⟨a,ha⟩:∃a,a=S.size-l.length:=⟨_,rfl⟩
   rw[<-ha] at c1 f1 HF
   clear h ha hle hl hn
   go_enter Tryz.func29,Tryz.ntmps29
   go_wp2_with fail
   go_quiet (fail)
   go_wp2_with fail
   refine(HF.out _).mono ?_
   rintro e w1 ⟨rfl,hb,ha1⟩
   have HB:=tQ hb
   have HA:=tQ ((am (fun k=>k=R) _ _).trans ha1 (fun _ _ h=>h))
   clear hb ha1
   go_wp2
   go_end0
   exact⟨rfl,HE.out _ HB.out,HA.out⟩
end
end
end Go.Proofs.YtllbniljgcgbeaaGreatDoor

import Derived.Test.YtllbniljgcgbeaaGreatDoorA11
import Derived.Test.YtllbniljgcgbeaaGreatDoorA18
set_option maxRecDepth 100000
set_option maxHeartbeats 4000000
namespace Go.Proofs.YtllbniljgcgbeaaGreatDoor
section
open Go.RowKit
theorem bU{P : Program}{f : FuncId}{fn : Func}{c : Code}(hf : P.funcs[f]?=some fn)(hname : (fn.name== "runtime.NumGoroutine")=false)(hb : fn.body=some c)(args : AV)(w : World):
  (callFunc f args).run P w=.ok (.enter f args) w:=by
 have h1 : fn.name≠ "runtime.NumGoroutine" := by simpa using hname
 simp[callFunc,hf,h1,hb]
section
variable {w w':World} {P:Nat} {S:ByteArray} {l:Tx.Bs}
theorem fK(h:Prs w P S l):Calls Tryz.prog 81 #[.pointer (some ⟨P,0,none⟩),.func (.func 98) #[] #[]] w fun e w'=>e=.returned (.string ⟨(l.takeWhile Sch.low).toArray⟩)∧Below w.1.size w w' :=
 dM h bC 98 #[] (bU Tryz.func98 (by kernel_rfl) rfl) fun r w' _=>(ec r w').mono fun _ _ ⟨h1,h2⟩=>⟨h1,0,h2⟩
theorem kJ(h:Prs w P S l):Calls Tryz.prog 81 #[.pointer (some ⟨P,0,none⟩),.func (.func 82) #[] #[]] w fun e w'=>e=.returned (.string ⟨(l.takeWhile Sch.ch).toArray⟩)∧Below w.1.size w w' :=
 dM h ng 82 #[] (bU Tryz.func82 (by kernel_rfl) rfl) fun r w' _=>(qV r w').mono fun _ _ ⟨h1,h2⟩=>⟨h1,0,h2⟩
theorem kK(h:Prs w P S l):Calls Tryz.prog 81 #[.pointer (some ⟨P,0,none⟩),.func (.func 100) #[] #[]] w fun e w'=>e=.returned (.string ⟨(l.takeWhile Tx.iset).toArray⟩)∧Below w.1.size w w' :=
 dM h dX 100 #[] (bU Tryz.func100 (by kernel_rfl) rfl) fun r w' _=>(lY r w').mono fun _ _ ⟨h1,h2⟩=>⟨h1,0,h2⟩
theorem kL(h:Prs w P S l):Calls Tryz.prog 81 #[.pointer (some ⟨P,0,none⟩),.func (.func 140) #[] #[]] w fun e w'=>e=.returned (.string ⟨(l.takeWhile Tx.fset).toArray⟩)∧Below w.1.size w w' :=
 dM h nh 140 #[] (bU Tryz.func140 (by kernel_rfl) rfl) fun r w' _=>(pI r w').mono fun _ _ ⟨h1,h2⟩=>⟨h1,0,h2⟩
end
def cG(w:World)(t:Ty)(v:Value)(w':World):Prop:=∃u,v=.agg u∧aT w' (fun k=>w.1.size<=k∧k<w'.1.size) u t
theorem cG.open{w w':World}{t:Ty}{v:Value}(h:cG w t v w'):∃u,v=.agg u∧aT w' (fun k=>w.1.size<=k∧k<w'.1.size) u t:=h
theorem sl{w wr:World}{P:Nat}{S:ByteArray}{b:Int}{q:OA}{n c:Nat}{x:Ty}{l:Tx.Bs}{F:Nat->Prop}(hP:P<w.1.size)(bN:wr.1[w.1.size]?=some (.cells #[.int .i64 0,.slice none 0 0] 32 (0,0)))(hown:aT wr F (al b q n c) x)(hF:∀k,F k->w.1.size<k∧k<wr.1.size)(hrd:Prs wr P S l)(ha:Aside (fun i=>i=P) w wr){w5:World}(hw5:w5=(wr.setCell ⟨w.1.size,0,none⟩ (.int .i64 b)).setCell ⟨w.1.size,1,none⟩ (.slice q n c)):
  w5.1[w.1.size]?=some (.cells (al b q n c) 32 (0,0))∧cG w x (.agg (al b q n c)) w5∧Prs w5 P S l∧Aside (fun i=>i=P) w w5:=by
 have h2:Aside (fun i=>i=w.1.size) wr w5:=by rw[hw5];exact((Aside.refl (fun k=>k=w.1.size) wr).setCell (p:=⟨w.1.size,0,none⟩) (.inl rfl) _).setCell (p:=⟨w.1.size,1,none⟩) (.inl rfl) _
 have hs:w5.1.size=wr.1.size:=by rw[hw5];simp[World.setCell]
 refine⟨?_,⟨_,rfl,?_⟩,hrd.aside h2 (fun k hk=>by rw[hk];exact hP),ha.trans h2 (fun i hi he=>by rw[he] at hi;omega)⟩
 ·rw[hw5,ai (ai bN 0 _) 1];rfl
 ·exact(hown.aside h2 (fun k hk he=>by have:=hF k hk;omega)).mono (fun k hk=>by have:=hF k hk;omega)
theorem dW{w:World}{b i:Nat}{v:Value}(h:b<w.1.size)(o:Obj):(w.alloc o).setCell ⟨b,i,none⟩ v=(w.setCell ⟨b,i,none⟩ v).alloc o:=by
 exact World.setCell_alloc_past o b i v h
def az{β:Type}(x:Tx.R Tx.Bs)(g:Tx.Bs->Tx.R β):Tx.R β:=match x with
 |.error e=>.error e
 |.ok r=>g r
def aB{α β:Type}(x:Tx.R (α×Tx.Bs))(g:α->Tx.Bs->Tx.R β):Tx.R β:=match x with
 |.error e=>.error e
 |.ok (a,r)=>g a r
theorem rT(f:Nat)(l wd r:Tx.Bs)(hwd:wd=l.takeWhile Sch.low)(hr:r=l.dropWhile Sch.low):Tx.pty (f+1) l=if Tx.kindOf wd=0 then .error (5,l.length) else if Tx.kindOf wd<6 then .ok (⟨Tx.kindOf wd,[]⟩,r) else
  az (Tx.must [40] r) fun r=>aB (Tx.pty f r) fun t r=>az (Tx.must [41] r) fun r=>.ok (⟨Tx.kindOf wd,[t]⟩,r):=by
 rw[hwd,hr,Tx.pty]
 by_cases h0:Tx.kindOf (l.takeWhile Sch.low)=0
 ·rw[if_pos h0,if_pos h0]
 rw[if_neg h0,if_neg h0]
 by_cases h6:Tx.kindOf (l.takeWhile Sch.low)<6
 ·rw[if_pos h6,if_pos h6]
 rw[if_neg h6,if_neg h6]
 cases Tx.must [40] (l.dropWhile Sch.low) with
 |error e=>rfl
 |ok r=>
  dsimp only[az]
  cases Tx.pty f r with
  |error e=>rfl
  |ok p=>rfl
theorem PsU.bad{w w':World}{P:Nat}{S:ByteArray}{k n:Nat}{e:Ending}(h:PsU w P S (.error (k,n)) e w'):e=.panicked (dN k (S.size-n))∧Aside (fun i=>i=P) w w':=h
theorem PsU.good{w w':World}{P:Nat}{S:ByteArray}{l:Tx.Bs}{e:Ending}(h:PsU w P S (.ok l) e w'):e=.returned (.tuple #[])∧Prs w' P S l∧Aside (fun i=>i=P) w w':=h
theorem bh{a b:Int}(h:a≠b):(a==b)=false:=by rw[beq_eq_false_iff_ne];exact h
theorem jU{a b:Int}(h:a≠b):(a != b)=true:=by rw[bne_iff_ne];exact h
theorem mr:∀(f d:Nat) (l:Tx.Bs) (P:Nat) (S:ByteArray) (w:World),d+f=5->Prs w P S l->Calls Tryz.prog 77 #[.pointer (some ⟨P,0,none⟩),.int .i64 d] w (PsA w P S (Tx.pty f l) (cG w)):=by
 intro f
 induction f with
 |zero=>
  intro d l P S w hd h
  have g0:decide ((d:Int)<=4)=false:=decide_eq_false (by omega)
  have hb0:Below w.1.size w (w.alloc (.cells #[.int .i64 0,.slice none 0 0] 32)):=tY
  have HN:=tQ (aN (h.on hb0) 62 l.length rfl)
  have HA:=tQ (ag hb0 (fun i=>i=P))
  have e1:Tx.pty 0 l=.error (62,l.length):=rfl
  rw[e1]
  clear h e1 hb0
  go_enter Tryz.func77,Tryz.ntmps77
  go_wp2_with fail
  try rw[g0]
  refine HN.out.mono ?_
  rintro e w2 ⟨rfl,hw2⟩
  rw[hw2]
  clear hw2 w2 HN
  go_wp2
  exact⟨rfl,rfl,HA.out⟩
 |succ f ih=>
  intro d l P S w hd h
  have g0:decide ((d:Int)<=4)=true:=decide_eq_true (by omega)
  have hdi:(d:Int)<=4:=by omega
  obtain⟨W0,hW0⟩:∃W0,W0=w.alloc (.cells #[.int .i64 0,.slice none 0 0] 32):=⟨_,rfl⟩
  have HB0:Hid (Below w.1.size w W0):=by rw[hW0];exact tY
  have HN0:Hid (W0.1[w.1.size]?=some (.cells #[.int .i64 0,.slice none 0 0] 32 (0,0))):=by rw[hW0];exact aj w _
  have HW0:=tQ hW0
  have HL:=tQ (fK (h.on HB0.out))
  obtain⟨wd,hwd⟩:∃wd,wd=l.takeWhile Sch.low:=⟨_,rfl⟩
  obtain⟨r0,hr0⟩:∃r,r=l.dropWhile Sch.low:=⟨_,rfl⟩
  have hsp:l=wd++r0:=by rw[hwd,hr0];exact(List.takeWhile_append_dropWhile).symm
  obtain⟨R,hR⟩:∃R,R=Tx.pty (f+1) l:=⟨_,rfl⟩
  have HR:=tQ (hR.trans (rT f l wd r0 hwd hr0))
  rw[<-hR]
  rw[<-hwd] at HL
  have HPlt:=tQ h.lt
  have HH:=tQ (h.on HB0.out)
  have HIH:=tQ ih
  have HSp:=tQ hsp
  clear h hW0 ih hwd hr0 hR hsp
  go_enter Tryz.func77,Tryz.ntmps77
  go_wp2_with fail
  rw[<-HW0.out]
  try rw[g0]
  refine(aV _ 62 _).mono ?_
  rintro e w2 ⟨rfl,hw2⟩
  rw[hw2]
  clear hw2 w2 HW0
  go_wp2_with fail
  refine HL.out.mono ?_
  rintro e w1 ⟨rfl,hb1⟩
  have HB1:=tQ hb1
  have HH1:=tQ (HH.out.on hb1)
  have HA1:=tQ ((ag HB0.out (fun i=>i=P)).trans (ag hb1 (fun i=>i=P)) (fun _ _ h=>h))
  have HN1:Hid (w1.1[w.1.size]?=some (.cells #[.int .i64 0,.slice none 0 0] 32 (0,0))):=ay HN0.out hb1 (ae HN0.out)
  have HK:=tQ (qQ wd w1 HH1.out.hv)
  obtain⟨K,hK⟩:∃K,K=Tx.kindOf wd:=⟨_,rfl⟩
  rw[<-hK] at HK HR
  have HKe:=tQ hK
  clear hb1 hK HL HB0 HN0 HH
  go_wp2_with fail
  refine HK.out.mono ?_
  rintro e w2 ⟨rfl,hw2⟩
  rw[hw2]
  clear hw2 w2 HK
  obtain⟨W,hW⟩:∃W,W=w1.alloc (.cells #[.int .i64 K,.slice none 0 0] 32):=⟨_,rfl⟩
  have HBW:Hid (Below w1.1.size w1 W):=by rw[hW];exact tY
  have HTb:Hid (W.1[w1.1.size]?=some (.cells #[.int .i64 K,.slice none 0 0] 32 (0,0))):=by rw[hW];exact aj w1 _
  have HW:=tQ hW
  have HHW:=tQ (HH1.out.on HBW.out)
  have HAW:=tQ (HA1.out.trans (ag HBW.out (fun i=>i=P)) (fun _ _ h=>h))
  have HNW:Hid (W.1[w.1.size]?=some (.cells #[.int .i64 0,.slice none 0 0] 32 (0,0))):=ay HN1.out HBW.out (ae HN1.out)
  have hlt1:w.1.size<w1.1.size:=ae HN1.out
  have hltW:w1.1.size<W.1.size:=ae HTb.out
  have c0:W.cell? ⟨w1.1.size,0,none⟩=some (.int .i64 K):=ab HTb.out 0
  have c01:W.cell? ⟨w1.1.size,1,none⟩=some (.slice none 0 0):=ab HTb.out 1
  clear hW HN1 HA1
  by_cases hK0:K=0
  ·have g1:(K != 0)=false:=by rw[hK0];rfl
   have HRe:Hid (R=.error (5,l.length)):=HR.out.trans (if_pos hK0)
   have HNd:=tQ (aN HHW.out 5 l.length rfl)
   clear hK0 HR
   go_wp2_with fail
   rw[<-HW.out]
   go_wp2_with fail
   try rw[g1]
   refine HNd.out.mono ?_
   rintro e w2 ⟨rfl,hw2⟩
   rw[hw2]
   clear hw2 w2 HNd
   go_wp2
   rw[HRe.out]
   exact⟨rfl,rfl,HAW.out⟩
  have g1:(K != 0)=true:=jU hK0
  have HR1:=tQ (HR.out.trans (if_neg hK0))
  have hK1:1<=K∧K<=7:=by have:=Tx.word_kind (l:=wd) (by rw[<-HKe.out];exact hK0);rw[<-HKe.out] at this;exact this.2
  have HHs:Hid (Prs W P S (wd++r0)):=by show Prs W P S (wd++r0);rw[<-HSp.out];exact HHW.out
  have hsm:=HHW.out.small
  have hle:=HHW.out.le
  have hll:l.length=wd.length+r0.length:=by rw[HSp.out,List.length_append]
  have c1:W.cell? ⟨P,1,none⟩=some (.int .i64 ((S.size-l.length:Nat):Int)):=HHW.out.cell 1
  have t1:=HHW.out.thawed 1
  obtain⟨a,ha⟩:∃a,S.size-l.length=a:=⟨_,rfl⟩
  rw[ha] at c1
  have g5:(a:Int)+(wd.length:Int)<=140737488351232:=by omega
  obtain⟨W1,hW1⟩:∃W1,W1=W.setCell ⟨P,1,none⟩ (.int .i64 ((a:Int)+(wd.length:Int))):=⟨_,rfl⟩
  have HP1:Hid (Prs W1 P S r0):=by rw[hW1];exact HHs.out.skip (by omega)
  have hA1:Aside (fun i=>i=P) W W1:=by rw[hW1];exact bu _ _ _
  have hPT:¬w1.1.size=P:=by have:=HPlt.out;omega
  have hPN:¬w.1.size=P:=by have:=HPlt.out;omega
  have HA1:=tQ (HAW.out.trans hA1 (fun _ _ h=>h))
  have HT1:Hid (W1.1[w1.1.size]?=some (.cells #[.int .i64 K,.slice none 0 0] 32 (0,0))):=(hA1.block _ (ae HTb.out) hPT).trans HTb.out
  have HN1:Hid (W1.1[w.1.size]?=some (.cells #[.int .i64 0,.slice none 0 0] 32 (0,0))):=(hA1.block _ (ae HNW.out) hPN).trans HNW.out
  have hs1:W1.1.size=W.1.size:=by rw[hW1];simp[World.setCell]
  have hlt2:w1.1.size<W1.1.size:=by omega
  have d0:W1.cell? ⟨w1.1.size,0,none⟩=some (.int .i64 K):=ab HT1.out 0
  have d1:W1.cell? ⟨w1.1.size,1,none⟩=some (.slice none 0 0):=ab HT1.out 1
  have HW1:=tQ hW1
  clear hW1 hA1 HHs HHW HTb HAW HB1 HH1 ha hll hle HSp HKe HR hs1
  go_wp2_with fail
  rw[<-HW.out]
  go_wp2_with fail
  try rw[g1]
  refine(aV _ 5 _).mono ?_
  rintro e w2 ⟨rfl,hw2⟩
  rw[hw2]
  clear hw2 w2 HW HBW
  by_cases h6:K<6
  ·have HRk:Hid (R=.ok (⟨K,[]⟩,r0)):=HR1.out.trans (if_pos h6)
   have e6:(K==6)=false:=bh (by omega)
   have e7:(K==7)=false:=bh (by omega)
   have z0:W.cell? ⟨w.1.size,0,none⟩=some (.int .i64 0):=ab HNW.out 0
   have z1:W.cell? ⟨w.1.size,1,none⟩=some (.slice none 0 0):=ab HNW.out 1
   have zf0:=ac HNW.out 0
   have zf1:=ac HNW.out 1
   have HFin:=tQ (fun w5 hw5=>sl (w5:=w5) (b:=K) (q:=none) (n:=0) (c:=0) (x:=⟨K,[]⟩) (F:=fun _=>False) HPlt.out HN1.out .none (fun _ h=>h.elim) HP1.out HA1.out hw5)
   clear HR1 h6 hK1 hK0 HIH
   go_wp2
   rw[<-HW1.out]
   obtain⟨f1,f2,f3,f4⟩:=HFin.out _ rfl
   refine bodyPost_ret (v:=.agg (al K none 0 0)) (results_cell_row rfl _ _ w.1.size _ _ _ _ rfl f1 Tryz.underlying32 rfl (by kernel_rfl)) rfl ?_
   rw[HRk.out]
   exact⟨_,rfl,f2,f3,f4⟩
  have HR2:=tQ (HR1.out.trans (if_neg h6))
  have HPa:=tQ (cO HP1.out ⟨#[40]⟩ (by decide))
  have em:(ByteArray.mk #[40]).data.toList=[40]:=rfl
  rw[em] at HPa
  have e67:K=6∨K=7:=by omega
  have HC:Hid (∀w3 r1,Prs w3 P S r1->Calls Tryz.prog 77 #[.pointer (some ⟨P,0,none⟩),.int .i64 ((d:Int)+1)] w3 (PsA w3 P S (Tx.pty f r1) (cG w3))):=fun w3 r1 h3=>by
   have:=HIH.out (d+1) r1 P S w3 (by omega) h3
   rw[show((d+1:Nat):Int)=(d:Int)+1 by omega] at this
   exact this
  obtain⟨G,hG⟩:∃G,G=Tx.must [40] r0:=⟨_,rfl⟩
  rw[<-hG] at HR2 HPa
  have HK67:=tQ e67
  clear HR1 em h6 hK1 hK0 hG HIH
  have et:((K==6)=true)∨((K==6)=false∧(K==7)=true):=by
   rcases e67 with h | h
   ·exact .inl (by rw[h];rfl)
   ·exact .inr ⟨by rw[h];rfl,by rw[h];rfl⟩
  clear e67
  rcases et with e6 | ⟨e6,e7⟩
  all_goals
   cases G with
   |error er=>
    obtain⟨ek,en⟩:=er
    have HRe:Hid (R=.error (ek,en)):=HR2.out
    clear HR2
    go_wp2_with fail
    rw[<-HW1.out]
    refine HPa.out.mono ?_
    intro e w3 hh
    obtain⟨he,ha3⟩:=hh.bad
    subst he
    have HA3:=tQ (HA1.out.trans ha3 (fun _ _ h=>h))
    clear hh ha3 HPa
    go_wp2
    rw[HRe.out]
    exact⟨rfl,rfl,HA3.out⟩
   |ok r1=>
    go_wp2_with fail
    rw[<-HW1.out]
    refine HPa.out.mono ?_
    intro e w3 hh
    obtain⟨he,hp3,ha3⟩:=hh.good
    subst he
    have HP3:=tQ hp3
    have HA3:=tQ (HA1.out.trans ha3 (fun _ _ h=>h))
    have HT3:Hid (w3.1[w1.1.size]?=some (.cells #[.int .i64 K,.slice none 0 0] 32 (0,0))):=(ha3.block _ (ae HT1.out) hPT).trans HT1.out
    have HN3:Hid (w3.1[w.1.size]?=some (.cells #[.int .i64 0,.slice none 0 0] 32 (0,0))):=(ha3.block _ (ae HN1.out) hPN).trans HN1.out
    clear hh ha3 hp3 HPa
    have HCa:=tQ (HC.out w3 r1 HP3.out)
    obtain⟨Y,hY⟩:∃Y,Y=Tx.pty f r1:=⟨_,rfl⟩
    have HR3:Hid (R=aB Y fun t r=>az (Tx.must [41] r) fun r=>.ok (⟨K,[t]⟩,r)):=by rw[hY];exact HR2.out
    rw[<-hY] at HCa
    clear hY HR2 HC
    cases Y with
    |error er=>
     obtain⟨ek,en⟩:=er
     have HRe:Hid (R=.error (ek,en)):=HR3.out
     clear HR3
     go_wp2_with fail
     refine HCa.out.mono ?_
     intro e w4 hh
     obtain⟨he,ha4⟩:=hh.bad
     subst he
     have HA4:=tQ (HA3.out.trans ha4 (fun _ _ h=>h))
     clear hh ha4 HCa
     go_wp2
     rw[HRe.out]
     exact⟨rfl,rfl,HA4.out⟩
    |ok tr=>
     obtain⟨t,r2⟩:=tr
     go_wp2_with fail
     refine HCa.out.mono ?_
     intro e w4 hh
     obtain⟨v4,he,hv4,hp4,ha4⟩:=hh.good
     obtain⟨u4,hu4,hown4⟩:=hv4.open
     obtain⟨k4,p4,n4,c4,hsh⟩:=hown4.shape
     subst hsh
     unfold al at hu4 hown4
     subst hu4
     subst he
     have HT4:Hid (w4.1[w1.1.size]?=some (.cells #[.int .i64 K,.slice none 0 0] 32 (0,0))):=(ha4.block _ (ae HT3.out) hPT).trans HT3.out
     have HN4:Hid (w4.1[w.1.size]?=some (.cells #[.int .i64 0,.slice none 0 0] 32 (0,0))):=(ha4.block _ (ae HN3.out) hPN).trans HN3.out
     have hT4:w1.1.size<w4.1.size:=ae HT4.out
     have hTe:¬w1.1.size=w4.1.size:=by omega
     have hTe2:¬w4.1.size=w1.1.size:=by omega
     obtain⟨W5,hW6⟩:∃W5,W5=(w4.setCell ⟨w1.1.size,1,none⟩ (.slice (some ⟨w4.1.size,0,none⟩) 1 1)).alloc (.cells #[.int .i64 k4,.slice p4 n4 c4] 32):=⟨_,rfl⟩
     have hW5:W5=(w4.alloc (.cells #[.int .i64 k4,.slice p4 n4 c4] 32)).setCell ⟨w1.1.size,1,none⟩ (.slice (some ⟨w4.1.size,0,none⟩) 1 1):=by rw[hW6];exact(dW hT4 _).symm
     have hbA:Below w4.1.size w4 (w4.alloc (.cells #[.int .i64 k4,.slice p4 n4 c4] 32)):=tY
     have hsA:(w4.alloc (.cells #[.int .i64 k4,.slice p4 n4 c4] 32)).1.size=w4.1.size+1:=by simp
     have hTA:=ay HT4.out hbA hT4
     have ha5:Aside (fun i=>i=w1.1.size) (w4.alloc (.cells #[.int .i64 k4,.slice p4 n4 c4] 32)) W5:=by rw[hW5];exact(Aside.refl (fun k=>k=w1.1.size) _).setCell (p:=⟨w1.1.size,1,none⟩) (.inl rfl) _
     have hs5:W5.1.size=w4.1.size+1:=by rw[hW5];simp[World.setCell]
     have HT5:Hid (W5.1[w1.1.size]?=some (.cells #[.int .i64 K,.slice (some ⟨w4.1.size,0,none⟩) 1 1] 32 (0,0))):=by rw[hW5,ai hTA 1];rfl
     have HN5:Hid (W5.1[w.1.size]?=some (.cells #[.int .i64 0,.slice none 0 0] 32 (0,0))):=(ha5.block _ (by omega) (by show ¬w.1.size=w1.1.size;omega)).trans (ay HN4.out hbA (ae HN4.out))
     have hG5:W5.1[w4.1.size]?=some (.cells #[.int .i64 k4,.slice p4 n4 c4] 32 (0,0)):=(ha5.block _ (by omega) (by show ¬w4.1.size=w1.1.size;omega)).trans (aj w4 _)
     have hPlt:=HPlt.out
     have HP5:=tQ ((hp4.on hbA).aside ha5 (fun k hk=>by omega))
     have hs4:=ha4.size
     have ha45:Aside (fun i=>i=w1.1.size) w4 W5:=(ag hbA _).trans ha5 (fun _ _ h=>h)
     have hs3:w1.1.size<w3.1.size:=ae HT3.out
     have hO5:aT W5 (fun k=>w.1.size<k∧k<W5.1.size) (al K (some ⟨w4.1.size,0,none⟩) 1 1) ⟨K,[t]⟩:=by
      refine aT.one hG5 (hown4.aside ha45 (fun k hk he=>by omega)) (fun k hk=>?_) (fun hc=>?_) ?_
      ·omega
      ·omega
      ·omega
     have HO5:=tQ hO5
     have HA5:=tQ ((HA3.out.trans ha4 (fun _ _ h=>h)).trans ha45 (fun i hi he=>by omega))
     have tc1:w4.cell? ⟨w1.1.size,1,none⟩=some (.slice none 0 0):=ab HT4.out 1
     have tf1:=ac HT4.out 1
     have HPb:=tQ (cO HP5.out ⟨#[41]⟩ (by decide))
     rw[show(ByteArray.mk #[41]).data.toList=[41] from rfl] at HPb
     obtain⟨Z,hZ⟩:∃Z,Z=Tx.must [41] r2:=⟨_,rfl⟩
     have HR4:Hid (R=az (Tx.must [41] r2) fun r=>.ok (⟨K,[t]⟩,r)):=HR3.out
     rw[<-hZ] at HR4 HPb
     have HW5:=tQ hW6
     have HS5:Hid (w4.1.size<W5.1.size):=by show _<_;omega
     clear hh hv4 hp4 ha4 hown4 hW5 hW6 hbA hsA hTA ha5 hs5 hG5 hPlt hs4 ha45 hs3 hO5 hZ HR3 HCa HT4 HN4 hsm
     go_wp2_with fail
     rw[<-HW5.out]
     cases Z with
     |error er=>
      obtain⟨ek,en⟩:=er
      have HRe:Hid (R=.error (ek,en)):=HR4.out
      clear HR4
      refine HPb.out.mono ?_
      intro e w6 hh
      obtain⟨he,ha6⟩:=hh.bad
      subst he
      have HA6:=tQ (HA5.out.trans ha6 (fun _ _ h=>h))
      clear hh ha6 HPb
      go_wp2
      rw[HRe.out]
      exact⟨rfl,rfl,HA6.out⟩
     |ok r3=>
      have HRk:Hid (R=.ok (⟨K,[t]⟩,r3)):=HR4.out
      clear HR4
      refine HPb.out.mono ?_
      intro e w6 hh
      obtain⟨he,hp6,ha6⟩:=hh.good
      subst he
      have HA6:=tQ (HA5.out.trans ha6 (fun _ _ h=>h))
      have hT6:w6.1[w1.1.size]?=some (.cells #[.int .i64 K,.slice (some ⟨w4.1.size,0,none⟩) 1 1] 32 (0,0)):=(ha6.block _ (ae HT5.out) hPT).trans HT5.out
      have HN6:Hid (w6.1[w.1.size]?=some (.cells #[.int .i64 0,.slice none 0 0] 32 (0,0))):=(ha6.block _ (ae HN5.out) hPN).trans HN5.out
      have y0:w6.cell? ⟨w1.1.size,0,none⟩=some (.int .i64 K):=ab hT6 0
      have y1:w6.cell? ⟨w1.1.size,1,none⟩=some (.slice (some ⟨w4.1.size,0,none⟩) 1 1):=ab hT6 1
      have z0:w6.cell? ⟨w.1.size,0,none⟩=some (.int .i64 0):=ab HN6.out 0
      have z1:w6.cell? ⟨w.1.size,1,none⟩=some (.slice none 0 0):=ab HN6.out 1
      have zf0:=ac HN6.out 0
      have zf1:=ac HN6.out 1
      have hPl:=HPlt.out
      have hO6:aT w6 (fun k=>w.1.size<k∧k<W5.1.size) (al K (some ⟨w4.1.size,0,none⟩) 1 1) ⟨K,[t]⟩:=HO5.out.aside ha6 (fun k hk he=>by omega)
      have hs6:=ha6.size
      have HFin:=tQ (fun w7 hw7=>sl (w5:=w7) HPlt.out HN6.out hO6 (fun k hk=>⟨hk.1,by omega⟩) hp6 HA6.out hw7)
      clear hh ha6 hp6 HPb hT6 hO6 hs6 hPl tc1 tf1
      go_wp2
      obtain⟨f1,f2,f3,f4⟩:=HFin.out _ rfl
      refine bodyPost_ret (v:=.agg (al K (some ⟨w4.1.size,0,none⟩) 1 1)) (results_cell_row rfl _ _ w.1.size _ _ _ _ rfl f1 Tryz.underlying32 rfl (by kernel_rfl)) rfl ?_
      rw[HRk.out]
      exact⟨_,rfl,f2,f3,f4⟩
end
section
open Go.RowKit
attribute [local go_sem] ah
def bl(w:World)(x:V)(v:Value)(w':World):Prop:=∃u,v=.agg u∧aG w' (fun k=>w.1.size<=k∧k<w'.1.size) u x
theorem bl.open{w w':World}{x:V}{v:Value}(h:bl w x v w'):∃u,v=.agg u∧aG w' (fun k=>w.1.size<=k∧k<w'.1.size) u x:=h
def ar:AV:=#[.int .i64 0,.int .i64 0,.float .f64 0,.string ⟨#[]⟩,.slice none 0 0]
def fS(w:World)(N:Nat)(k i:Int)(b:Nat)(t:ByteArray)(q:OA)(n c:Nat):World:=((((w.setCell ⟨N,0,none⟩ (.int .i64 k)).setCell ⟨N,1,none⟩ (.int .i64 i)).setCell ⟨N,2,none⟩ (.float .f64 b)).setCell ⟨N,3,none⟩ (.string t)).setCell ⟨N,4,none⟩ (.slice q n c)
theorem gr{w:World}{N:Nat}{C:AV}{T:TypeId}(h:w.1[N]?=some (.cells C T (0,0)))(hC:C.size=5)(k i:Int)(b:Nat)(t:ByteArray)(q:OA)(n c:Nat):(fS w N k i b t q n c).1[N]?=some (.cells (cells5 k i b t q n c) T (0,0)):=by
 unfold fS
 rw[ai (ai (ai (ai (ai h 0 _) 1 _) 2 _) 3 _) 4 _]
 obtain⟨l⟩:=C
 match l,hC with
 | [a,b,c,d,e],_=>rfl
theorem gu(w:World)(N:Nat)(k i:Int)(b:Nat)(t:ByteArray)(q:OA)(n c:Nat):Aside (fun j=>j=N) w (fS w N k i b t q n c) :=
 ((((((Aside.refl (fun j=>j=N) w).setCell (p:=⟨N,0,none⟩) (.inl rfl) _).setCell (p:=⟨N,1,none⟩) (.inl rfl) _).setCell (p:=⟨N,2,none⟩) (.inl rfl) _).setCell (p:=⟨N,3,none⟩) (.inl rfl) _).setCell (p:=⟨N,4,none⟩) (.inl rfl) _)
theorem iP(w:World)(N:Nat)(k i:Int)(b:Nat)(t:ByteArray)(q:OA)(n c:Nat):(fS w N k i b t q n c).1.size=w.1.size:=by simp[fS,World.setCell]
theorem ee{w wr:World}{P:Nat}{S:ByteArray}{k i:Int}{b:Nat}{t:ByteArray}{q:OA}{n c:Nat}{x:V}{l:Tx.Bs}{F:Nat->Prop}(hP:P<w.1.size)(bN:wr.1[w.1.size]?=some (.cells ar 36 (0,0)))(hown:aG wr F (cells5 k i b t q n c) x)(hF:∀k,F k->w.1.size<k∧k<wr.1.size)(hrd:Prs wr P S l)(ha:Aside (fun i=>i=P) w wr){w5:World}(hw5:w5=fS wr w.1.size k i b t q n c):
  w5.1[w.1.size]?=some (.cells (cells5 k i b t q n c) 36 (0,0))∧bl w x (.agg (cells5 k i b t q n c)) w5∧Prs w5 P S l∧Aside (fun i=>i=P) w w5:=by
 have h2:Aside (fun i=>i=w.1.size) wr w5:=by rw[hw5];exact gu _ _ _ _ _ _ _ _ _
 have hs:w5.1.size=wr.1.size:=by rw[hw5];exact iP _ _ _ _ _ _ _ _ _
 refine⟨?_,⟨_,rfl,?_⟩,hrd.aside h2 (fun k hk=>by rw[hk];exact hP),ha.trans h2 (fun i hi he=>by rw[he] at hi;omega)⟩
 ·rw[hw5];exact gr bN rfl _ _ _ _ _ _ _
 ·exact(hown.aside h2 (fun k hk he=>by have:=hF k hk;omega)).mono (fun k hk=>by have:=hF k hk;omega)
def pc(l:Tx.Bs):Tx.R (V×Tx.Bs):=match Tx.num (l.takeWhile Tx.iset) with
 |none=>.error (5,l.length)
 |some n=>.ok (⟨2,n,0,⟨#[]⟩,[]⟩,l.dropWhile Tx.iset)
def nF(rf:Tx.Bs->Option Nat)(l:Tx.Bs):Tx.R (V×Tx.Bs):=az (Tx.must [126] l) fun t=>match rf (t.takeWhile Tx.fset) with
 |none=>.error (5,t.length)
 |some b=>.ok (⟨3,0,b,⟨#[]⟩,[]⟩,t.dropWhile Tx.fset)
theorem il(s:ByteArray)(hlim:s.size<=281474976710656)(w:World)(hs:Sen w):
  Calls Tryz.prog 139 #[.string s,.int .i64 10,.int .i64 64] w fun e w'=>
   ((∃n:Int,Lib.parseIntB 64 s.data.toList=.ok n∧e=.returned (.tuple #[.int .i64 n,.nilIface]))∨((∀n,Lib.parseIntB 64 s.data.toList≠.ok n)∧∃(v:Int) (N:Nat),e=.returned (.tuple #[.int .i64 v,.iface 185 (.pointer (some ⟨N,0,none⟩))])))∧Below w.1.size w w':=by
 obtain⟨⟨tp,p,h1⟩,⟨tq,q,h2⟩⟩:=hs
 cases h:Lib.parseIntB 64 s.data.toList
 ·rename_i n
  refine(Tryz.strconv_ParseInt_10_at64_ok s (by omega) n h w).mono ?_
  rintro e w' ⟨rfl,hg⟩
  refine⟨.inl ⟨n,rfl,rfl⟩,?_⟩
  rcases hg with rfl | ⟨t,rfl⟩
  ·exact tZ
  ·exact Lib.bytesWorld_below w 5 t
 ·have c:Calls Tryz.prog 139 #[.string s,.int .i64 10,.int .i64 64] w fun e w'=>∃N,e=.returned (.tuple #[.int .i64 (0),.iface 185 (.pointer (some ⟨N,0,none⟩))])∧w.1.size<=N∧w'.1[N]?=some (.cells #[.string ⟨#[80,97,114,115,101,73,110,116]⟩,.string s,.iface tp p] 203 (0,0))∧Below w.1.size w w':=Any.strconv_ParseInt_10_at64_syntax_var Tryz.laysC174 s hlim h tp p w h1
  refine c.mono ?_
  rintro e w' ⟨N,rfl,_,_,hb⟩
  exact⟨.inr ⟨fun n hn=>(by cases hn),_,N,rfl⟩,hb⟩
 ·have c:Calls Tryz.prog 139 #[.string s,.int .i64 10,.int .i64 64] w fun e w'=>∃N,e=.returned (.tuple #[.int .i64 (Lib.intSat 64 s.data.toList),.iface 185 (.pointer (some ⟨N,0,none⟩))])∧w.1.size<=N∧w'.1[N]?=some (.cells #[.string ⟨#[80,97,114,115,101,73,110,116]⟩,.string s,.iface tq q] 203 (0,0))∧Below w.1.size w w':=Any.strconv_ParseInt_10_at64_range_var Tryz.laysC174 s hlim h tq q w h2
  refine c.mono ?_
  rintro e w' ⟨N,rfl,_,_,hb⟩
  exact⟨.inr ⟨fun n hn=>(by cases hn),_,N,rfl⟩,hb⟩
theorem qI{w:World}{P:Nat}{S:ByteArray}{l:Tx.Bs}(h:Prs w P S l):Calls Tryz.prog 101 #[.pointer (some ⟨P,0,none⟩)] w (PsA w P S (pc l) (bl w)):=by
 obtain⟨W0,hW0⟩:∃W0,W0=w.alloc (.cells #[.int .i64 0,.int .i64 0,.float .f64 0,.string ⟨#[]⟩,.slice none 0 0] 36):=⟨_,rfl⟩
 have HB0:Hid (Below w.1.size w W0):=by rw[hW0];exact tY
 have HN0:Hid (W0.1[w.1.size]?=some (.cells ar 36 (0,0))):=by rw[hW0];exact aj w _
 have HW0:=tQ hW0
 have h0:=h.on HB0.out
 have HL:=tQ (kK h0)
 obtain⟨wd,hwd⟩:∃wd,wd=l.takeWhile Tx.iset:=⟨_,rfl⟩
 obtain⟨r0,hr0⟩:∃r,r=l.dropWhile Tx.iset:=⟨_,rfl⟩
 have hsp:l=wd++r0:=by rw[hwd,hr0];exact(List.takeWhile_append_dropWhile).symm
 obtain⟨R,hR⟩:∃R,R=pc l:=⟨_,rfl⟩
 have hR1:R=match Tx.num wd with
  |none=>.error (5,l.length)
  |some n=>.ok (⟨2,n,0,⟨#[]⟩,[]⟩,r0):=by rw[hR,hwd,hr0];rfl
 rw[<-hR]
 rw[<-hwd] at HL
 have HPlt:=tQ h.lt
 have HH0:=tQ h0
 have hll:l.length=wd.length+r0.length:=by rw[hsp,List.length_append]
 have hsm:=h.small
 have hle:=h.le
 have HSp:=tQ hsp
 have hwl:(ByteArray.mk wd.toArray).size<=281474976710656:=by show wd.toArray.size<=_;simp;omega
 have HPI:=tQ (fun w' hs=>il (ByteArray.mk wd.toArray) hwl w' hs)
 have HRR:=tQ hR1
 clear h h0 hW0 hwd hr0 hR hR1 hwl hsp
 go_enter Tryz.func101,Tryz.ntmps101
 go_wp2_with fail
 rw[<-HW0.out]
 refine HL.out.mono ?_
 rintro e w1 ⟨rfl,hb1⟩
 have HB1:=tQ hb1
 have HH1:=tQ (HH0.out.on hb1)
 have HA1:=tQ ((ag HB0.out (fun i=>i=P)).trans (ag hb1 (fun i=>i=P)) (fun _ _ h=>h))
 have HN1:Hid (w1.1[w.1.size]?=some (.cells ar 36 (0,0))):=ay HN0.out hb1 (ae HN0.out)
 have HPi:=tQ (HPI.out w1 HH1.out.hv.sen)
 clear hb1 HL HB0 HN0 HH0 HW0 HPI
 have HSp1:Hid (Prs w1 P S (wd++r0)):=by show Prs w1 P S (wd++r0);rw[<-HSp.out];exact HH1.out
 obtain⟨a,ha⟩:∃a,S.size-l.length=a:=⟨_,rfl⟩
 have HAL:Hid (a+wd.length=S.size-r0.length):=by show _=_;omega
 have HAS:Hid (S.size-l.length=a):=ha
 have g5:(a:Int)+(wd.length:Int)<=140737488351232:=by omega
 clear ha hll hle hsm
 go_wp2_with fail
 refine HPi.out.mono ?_
 rintro e w2 ⟨hcase,hb2⟩
 have HH2:=tQ (HH1.out.on hb2)
 have HS2:=tQ (HSp1.out.on hb2)
 have HA2:=tQ (HA1.out.trans (ag hb2 (fun i=>i=P)) (fun _ _ h=>h))
 have HN2:Hid (w2.1[w.1.size]?=some (.cells ar 36 (0,0))):=ay HN1.out hb2 (ae HN1.out)
 have HT2:=tQ HH2.out.hv.tab
 clear hb2 HH1 HA1 HN1 HB1 HPi HSp1
 rcases hcase with ⟨n,hn,rfl⟩ | ⟨hno,v,N,rfl⟩
 ·have hbd:=Lib.parseIntB_bounds hn
  have hbd2:-9223372036854775808<=n∧n<=9223372036854775807:=by
   have e:((2 ^ (64-1):Nat):Int)=9223372036854775808:=by decide
   rw[e] at hbd
   omega
  have hnum:=jH hn
  have HF:Hid (∀w',Tab w'->Calls Tryz.prog 118 #[.int .i64 n,.int .i64 10] w' fun e w''=>e=.returned (.string ⟨(Lib.itoa n).toArray⟩)∧Below w'.1.size w' w''):=fun w' ht=>(Tryz.strconv_FormatInt_10 n hbd2.1 hbd2.2 w' ht).mono fun e w'' ⟨q1,q2⟩=>⟨q1,ej q2⟩
  obtain⟨X,hX⟩:∃X,X=Lib.itoa n:=⟨_,rfl⟩
  rw[<-hX] at HF hnum
  have e8:(ByteArray.mk X.toArray).toList=X:=by rw[ByteArray.toList_eq]
  have e7:(ByteArray.mk wd.toArray).toList=wd:=by rw[ByteArray.toList_eq]
  by_cases hx:X=wd
  ·have e6:(X==wd)=true:=by rw[beq_iff_eq];exact hx
   have HRk:Hid (R=.ok (⟨2,n,0,⟨#[]⟩,[]⟩,r0)):=by show R=_;rw[HRR.out,hnum,if_pos hx]
   clear hx hX hnum hn hbd hbd2 HRR
   go_wp2_with fail
   refine(HF.out _ HT2.out).mono ?_
   rintro e w3 ⟨rfl,hb3⟩
   have HA3:=tQ (HA2.out.trans (ag hb3 (fun i=>i=P)) (fun _ _ h=>h))
   have HN3:Hid (w3.1[w.1.size]?=some (.cells ar 36 (0,0))):=ay HN2.out hb3 (ae HN2.out)
   have HS3:=tQ (HS2.out.on hb3)
   have c1:w3.cell? ⟨P,1,none⟩=some (.int .i64 (a:Int)):=by rw[<-HAS.out];exact(HH2.out.on hb3).cell 1
   have t1:=(HH2.out.on hb3).thawed 1
   have hPN:¬w.1.size=P:=by have:=HPlt.out;omega
   have hPN2:¬P=w.1.size:=by have:=HPlt.out;omega
   have HP4:Hid (Prs (w3.setCell ⟨P,1,none⟩ (.int .i64 ((a:Int)+(wd.length:Int)))) P S r0):=HS3.out.skip (by have:=HAL.out;omega)
   have HA4:=tQ (HA3.out.trans (bu w3 P (.int .i64 ((a:Int)+(wd.length:Int)))) (fun _ _ h=>h))
   have HN4:Hid ((w3.setCell ⟨P,1,none⟩ (.int .i64 ((a:Int)+(wd.length:Int)))).1[w.1.size]?=some (.cells ar 36 (0,0))):=((bu w3 P (.int .i64 ((a:Int)+(wd.length:Int)))).block _ (ae HN3.out) hPN).trans HN3.out
   have HFin:=tQ (fun w5 hw5=>ee (w5:=w5) (k:=2) (i:=n) (b:=0) (t:=⟨#[]⟩) (q:=none) (n:=0) (c:=0) (x:=⟨2,n,0,⟨#[]⟩,[]⟩) (F:=fun _=>False) HPlt.out HN4.out .none (fun _ h=>h.elim) HP4.out HA4.out hw5)
   have zf0:=ac HN3.out 0
   have zf1:=ac HN3.out 1
   have zf2:=ac HN3.out 2
   have zf3:=ac HN3.out 3
   have zf4:=ac HN3.out 4
   have z0:w3.cell? ⟨w.1.size,0,none⟩=some (.int .i64 0):=ab HN3.out 0
   have z1:w3.cell? ⟨w.1.size,1,none⟩=some (.int .i64 0):=ab HN3.out 1
   have z2:w3.cell? ⟨w.1.size,2,none⟩=some (.float .f64 0):=ab HN3.out 2
   have z3:w3.cell? ⟨w.1.size,3,none⟩=some (.string ⟨#[]⟩):=ab HN3.out 3
   have z4:w3.cell? ⟨w.1.size,4,none⟩=some (.slice none 0 0):=ab HN3.out 4
   clear hb3 HF HT2 HA2 HN2 HS2 HH2
   go_wp2_with fail
   refine(aV _ 5 _).mono ?_
   rintro e w4 ⟨rfl,hw4⟩
   rw[hw4]
   clear hw4 w4
   go_wp2
   obtain⟨f1,f2,f3,f4⟩:=HFin.out _ rfl
   refine bodyPost_ret (v:=.agg (cells5 2 n 0 ⟨#[]⟩ none 0 0)) (results_cell_row rfl _ _ w.1.size _ _ _ _ rfl f1 Tryz.underlying36 rfl (by kernel_rfl)) rfl ?_
   rw[HRk.out]
   exact⟨_,rfl,f2,f3,f4⟩
  ·have e6:(X==wd)=false:=by rw[beq_eq_false_iff_ne];exact hx
   have HRe:Hid (R=.error (5,l.length)):=by show R=_;rw[HRR.out,hnum,if_neg hx]
   clear hx hX hnum hn hbd hbd2 HRR
   go_wp2_with fail
   refine(HF.out _ HT2.out).mono ?_
   rintro e w3 ⟨rfl,hb3⟩
   have HA3:=tQ (HA2.out.trans (ag hb3 (fun i=>i=P)) (fun _ _ h=>h))
   have HNd:=tQ (aN (HH2.out.on hb3) 5 l.length rfl)
   clear hb3 HF HT2 HA2 HN2 HS2 HH2
   go_wp2_with fail
   refine HNd.out.mono ?_
   rintro e w4 ⟨rfl,hw4⟩
   rw[hw4]
   clear hw4 w4 HNd
   go_wp2
   rw[HRe.out]
   exact⟨rfl,rfl,HA3.out⟩
 ·have hnum:=pp hno
  have HRe:Hid (R=.error (5,l.length)):=by show R=_;rw[HRR.out,hnum]
  have HNd:=tQ (aN HH2.out 5 l.length rfl)
  clear hnum hno HRR
  go_wp2_with fail
  refine HNd.out.mono ?_
  rintro e w4 ⟨rfl,hw4⟩
  rw[hw4]
  clear hw4 w4 HNd
  go_wp2
  rw[HRe.out]
  exact⟨rfl,rfl,HA2.out⟩
end
end Go.Proofs.YtllbniljgcgbeaaGreatDoor

import Derived.Test.YtllbniljgcgbeaaGreatDoorTx9
set_option maxRecDepth 100000
set_option maxHeartbeats 4000000
namespace Go.Proofs.YtllbniljgcgbeaaGreatDoor
open Go.RowKit
attribute [local go_sem] ah
theorem sb{rf:Tx.Bs->Option Nat}(hRf:bP rf){w:World}{P:Nat}{S:ByteArray}{l:Tx.Bs}(h:Prs w P S l):Calls Tryz.prog 102 #[.pointer (some ⟨P,0,none⟩)] w (PsA w P S (nF rf l) (bl w)):=by
 obtain⟨W0,hW0⟩:∃W0,W0=w.alloc (.cells #[.int .i64 0,.int .i64 0,.float .f64 0,.string ⟨#[]⟩,.slice none 0 0] 36):=⟨_,rfl⟩
 have HB0:Hid (Below w.1.size w W0):=by rw[hW0];exact tY
 have HN0:Hid (W0.1[w.1.size]?=some (.cells ar 36 (0,0))):=by rw[hW0];exact aj w _
 have HW0:=tQ hW0
 have h0:=h.on HB0.out
 have HPa:=tQ (cO h0 ⟨#[126]⟩ (by decide))
 rw[show(ByteArray.mk #[126]).data.toList=[126] from rfl] at HPa
 obtain⟨R,hR⟩:∃R,R=nF rf l:=⟨_,rfl⟩
 have HRR:Hid (R=az (Tx.must [126] l) fun t=>match rf (t.takeWhile Tx.fset) with
  |none=>.error (5,t.length)
  |some b=>.ok (⟨3,0,b,⟨#[]⟩,[]⟩,t.dropWhile Tx.fset)):=hR
 rw[<-hR]
 have HPlt:=tQ h.lt
 have HRf:=tQ hRf
 have HA0:=tQ (ag HB0.out (fun i=>i=P))
 have hPN:¬w.1.size=P:=by have:=h.lt;omega
 have hPN2:¬P=w.1.size:=by omega
 obtain⟨G,hG⟩:∃G,G=Tx.must [126] l:=⟨_,rfl⟩
 rw[<-hG] at HPa HRR
 clear h h0 hW0 hR hRf hG
 cases G with
 |error er=>
  obtain⟨ek,en⟩:=er
  have HRe:Hid (R=.error (ek,en)):=HRR.out
  clear HRR
  go_enter Tryz.func102,Tryz.ntmps102
  go_wp2_with fail
  rw[<-HW0.out]
  refine HPa.out.mono ?_
  intro e w1 hh
  obtain⟨he,ha1⟩:=hh.bad
  subst he
  have HA1:=tQ (HA0.out.trans ha1 (fun _ _ h=>h))
  clear hh ha1 HPa
  go_wp2
  rw[HRe.out]
  exact⟨rfl,rfl,HA1.out⟩
 |ok t=>
  obtain⟨wd,hwd⟩:∃wd,wd=t.takeWhile Tx.fset:=⟨_,rfl⟩
  obtain⟨r0,hr0⟩:∃r,r=t.dropWhile Tx.fset:=⟨_,rfl⟩
  have hsp:t=wd++r0:=by rw[hwd,hr0];exact(List.takeWhile_append_dropWhile).symm
  have HRt:Hid (R=match rf wd with
   |none=>.error (5,t.length)
   |some b=>.ok (⟨3,0,b,⟨#[]⟩,[]⟩,r0)):=by show R=_;rw[HRR.out,hwd,hr0];rfl
  have hll:t.length=wd.length+r0.length:=by rw[hsp,List.length_append]
  have HSp:=tQ hsp
  have HL:=tQ (fun w' (h':Prs w' P S t)=>kL h')
  rw[<-hwd] at HL
  clear hwd hr0 hsp HRR
  go_enter Tryz.func102,Tryz.ntmps102
  go_wp2_with fail
  rw[<-HW0.out]
  refine HPa.out.mono ?_
  intro e w1 hh
  obtain⟨he,hp1,ha1⟩:=hh.good
  subst he
  have HP1:=tQ hp1
  have HA1:=tQ (HA0.out.trans ha1 (fun _ _ h=>h))
  have HN1:Hid (w1.1[w.1.size]?=some (.cells ar 36 (0,0))):=(ha1.block _ (ae HN0.out) hPN).trans HN0.out
  have HLa:=tQ (HL.out w1 hp1)
  have hsm:=hp1.small
  have hle:=hp1.le
  clear hh hp1 ha1 HPa HN0 HA0 HL
  go_wp2_with fail
  refine HLa.out.mono ?_
  rintro e w2 ⟨rfl,hb2⟩
  have HP2:=tQ (HP1.out.on hb2)
  have HA2:=tQ (HA1.out.trans (ag hb2 (fun i=>i=P)) (fun _ _ h=>h))
  have HN2:Hid (w2.1[w.1.size]?=some (.cells ar 36 (0,0))):=ay HN1.out hb2 (ae HN1.out)
  have hwl:(ByteArray.mk wd.toArray).size<=281474976710656:=by show wd.toArray.size<=_;simp;omega
  have HRp:=tQ (ie (ByteArray.mk wd.toArray) hwl w2 HP2.out.hv.tab HP2.out.hv.tz HP2.out.hv.sen)
  obtain⟨a,ha⟩:∃a,S.size-t.length=a:=⟨_,rfl⟩
  have HAL:Hid (a+wd.length=S.size-r0.length):=by show _=_;omega
  have HAS:Hid (S.size-t.length=a):=ha
  have g5:(a:Int)+(wd.length:Int)<=140737488351232:=by omega
  clear hb2 HLa HP1 HA1 HN1 hwl ha hll hle hsm
  go_wp2_with fail
  refine HRp.out.mono ?_
  rintro e w3 ⟨hcase,hb3⟩
  have HP3:=tQ (HP2.out.on hb3)
  have HA3:=tQ (HA2.out.trans (ag hb3 (fun i=>i=P)) (fun _ _ h=>h))
  have HN3:Hid (w3.1[w.1.size]?=some (.cells ar 36 (0,0))):=ay HN2.out hb3 (ae HN2.out)
  clear hb3 HRp HP2 HA2 HN2
  rcases hcase with ⟨z,hz,htx,rfl⟩ | ⟨hno,rfl⟩
  ·have HRk:Hid (R=.ok (⟨3,0,ak z,⟨#[]⟩,[]⟩,r0)):=by show R=_;rw[HRt.out,show wd=text z from htx,HRf.out.yes z hz]
   obtain⟨fz,hfz⟩:∃fz,fz=ak z:=⟨_,rfl⟩
   rw[<-hfz] at HRk ⊢
   have HS3:Hid (Prs w3 P S (wd++r0)):=by show Prs w3 P S (wd++r0);rw[<-HSp.out];exact HP3.out
   have c1:w3.cell? ⟨P,1,none⟩=some (.int .i64 (a:Int)):=by rw[<-HAS.out];exact HP3.out.cell 1
   have t1:=HP3.out.thawed 1
   have HP4:Hid (Prs (w3.setCell ⟨P,1,none⟩ (.int .i64 ((a:Int)+(wd.length:Int)))) P S r0):=HS3.out.skip (by have:=HAL.out;omega)
   have HA4:=tQ (HA3.out.trans (bu w3 P (.int .i64 ((a:Int)+(wd.length:Int)))) (fun _ _ h=>h))
   have HN4:Hid ((w3.setCell ⟨P,1,none⟩ (.int .i64 ((a:Int)+(wd.length:Int)))).1[w.1.size]?=some (.cells ar 36 (0,0))):=((bu w3 P (.int .i64 ((a:Int)+(wd.length:Int)))).block _ (ae HN3.out) hPN).trans HN3.out
   have HFin:=tQ (fun w5 hw5=>ee (w5:=w5) (k:=3) (i:=0) (b:=fz) (t:=⟨#[]⟩) (q:=none) (n:=0) (c:=0) (x:=⟨3,0,fz,⟨#[]⟩,[]⟩) (F:=fun _=>False) HPlt.out HN4.out .none (fun _ h=>h.elim) HP4.out HA4.out hw5)
   have zf0:=ac HN3.out 0
   have zf1:=ac HN3.out 1
   have zf2:=ac HN3.out 2
   have zf3:=ac HN3.out 3
   have zf4:=ac HN3.out 4
   have z0:w3.cell? ⟨w.1.size,0,none⟩=some (.int .i64 0):=ab HN3.out 0
   have z1:w3.cell? ⟨w.1.size,1,none⟩=some (.int .i64 0):=ab HN3.out 1
   have z2:w3.cell? ⟨w.1.size,2,none⟩=some (.float .f64 0):=ab HN3.out 2
   have z3:w3.cell? ⟨w.1.size,3,none⟩=some (.string ⟨#[]⟩):=ab HN3.out 3
   have z4:w3.cell? ⟨w.1.size,4,none⟩=some (.slice none 0 0):=ab HN3.out 4
   clear htx hz hfz HRt HP3 HA3 HS3
   go_wp2_with fail
   refine(aV _ 5 _).mono ?_
   rintro e w4 ⟨rfl,hw4⟩
   rw[hw4]
   clear hw4 w4
   go_wp2
   obtain⟨f1,f2,f3,f4⟩:=HFin.out _ rfl
   refine bodyPost_ret (v:=.agg (cells5 3 0 fz ⟨#[]⟩ none 0 0)) (results_cell_row rfl _ _ w.1.size _ _ _ _ rfl f1 Tryz.underlying36 rfl (by kernel_rfl)) rfl ?_
   rw[HRk.out]
   exact⟨_,rfl,f2,f3,f4⟩
  ·have HRe:Hid (R=.error (5,t.length)):=by show R=_;rw[HRt.out,HRf.out.no wd (fun z hz hc=>hno z hz hc)]
   have HNd:=tQ (aN HP3.out 5 t.length rfl)
   clear hno HRt
   go_wp2_with fail
   refine HNd.out.mono ?_
   rintro e w4 ⟨rfl,hw4⟩
   rw[hw4]
   clear hw4 w4 HNd
   go_wp2
   rw[HRe.out]
   exact⟨rfl,rfl,HA3.out⟩
theorem lX:∀c:Fin 256,Lib.indexByte [48,49,50,51,52,53,54,55,56,57,97,98,99,100,101,102] (UInt8.ofNat c.val)=if Tx.half (UInt8.ofNat c.val)<16 then (Tx.half (UInt8.ofNat c.val):Int) else -1:=by decide +kernel
theorem im(c:UInt8):Lib.indexByte [48,49,50,51,52,53,54,55,56,57,97,98,99,100,101,102] c=if Tx.half c<16 then (Tx.half c:Int) else -1:=by
 have:=lX ⟨c.toNat,c.toNat_lt⟩
 simpa using this
theorem qF:∀a b:Fin 16,bits .or .i64 ((a.val:Int)*16) (b.val:Int)=((16*a.val+b.val:Nat):Int):=by decide +kernel
theorem pH(c:UInt8)(w:World):Calls Tryz.prog 187 #[.string ⟨#[48,49,50,51,52,53,54,55,56,57,97,98,99,100,101,102]⟩,.int .u8 (c.toNat:Int)] w fun e w'=>e=.returned (.int .i64 (if Tx.half c<16 then (Tx.half c:Int) else -1))∧∃n,w'=w.drewN n:=by
 refine(Tryz.strings_IndexByte ⟨#[48,49,50,51,52,53,54,55,56,57,97,98,99,100,101,102]⟩ (c.toNat:Int) w).mono ?_
 rintro e w' ⟨rfl,rfl⟩
 refine⟨?_,0,rfl⟩
 rw[<-im]
 have e:((c.toNat:Int)).toNat.toUInt8=c:=by simp
 rw[e]
def su(w:World)(s:Tx.Bs)(e:Ending)(w':World):Prop:=∃(c:UInt8) (ok:Bool),e=.returned (.tuple #[.int .u8 (c.toNat:Int),.bool ok])∧(eE s=if ok then some c else none)∧∃n,w'=w.drewN n
theorem mC{w:World}{s:Tx.Bs}(h:eE s=none)(n:Nat):su w s (.returned (.tuple #[.int .u8 0,.bool false])) (w.drewN n):=⟨0,false,rfl,h,n,rfl⟩
theorem kU{w:World}{s:Tx.Bs}(h:eE s=none):su w s (.returned (.tuple #[.int .u8 0,.bool false])) w:=⟨0,false,rfl,h,0,rfl⟩
theorem pK(s:Tx.Bs)(t:ByteArray)(ht:t=⟨s.toArray⟩)(hlt:t.size<=140737488351232)(w:World):Calls Tryz.prog 166 #[.string t] w (su w s):=by
 have hsz:t.size=s.length:=by rw[ht];show s.toArray.size=_;simp
 by_cases h3:s.length<3
 ·have HN:Hid (eE s=none):=by
   match s,h3 with
   | [],_=>rfl
   | [_],_=>rfl
   | [_,_],_=>rfl
   |_::_::_::_,h=>simp at h;omega
  have s3:(t.size:Int)<3:=by omega
  clear ht hsz h3
  go_enter Tryz.func166,Tryz.ntmps166
  go_wp2
  go_ret2
  exact kU HN.out
 obtain⟨x,a,b,r,rfl⟩:∃x a b r,s=x::a::b::r:=by
  match s,h3 with
  | [],h=>simp at h
  | [_],h=>simp at h
  | [_,_],h=>simp at h
  |x::a::b::r,_=>exact⟨x,a,b,r,rfl⟩
 simp only[List.length_cons] at hsz
 have s3:¬(t.size:Int)<3:=by omega
 have q0:∃h:0<t.size,t[0]'h=x:=⟨by omega,by subst ht;rfl⟩
 have q1:∃h:1<t.size,t[1]'h=a:=⟨by omega,by subst ht;rfl⟩
 have q2:∃h:2<t.size,t[2]'h=b:=⟨by omega,by subst ht;rfl⟩
 obtain⟨k0,q0⟩:=q0
 obtain⟨k1,q1⟩:=q1
 obtain⟨k2,q2⟩:=q2
 have i0:(0:Int)<(t.size:Int):=by omega
 have i1:(1:Int)<(t.size:Int):=by omega
 have i2:(2:Int)<(t.size:Int):=by omega
 obtain⟨B,hB⟩:∃B,B=eE (x::a::b::r):=⟨_,rfl⟩
 have HB:Hid (B=if x=120∧Tx.half a<16∧Tx.half b<16∧¬(32<=16*Tx.half a+Tx.half b∧16*Tx.half a+Tx.half b<=126) then some (UInt8.ofNat (16*Tx.half a+Tx.half b)) else none):=hB
 have HBs:=tQ hB
 clear ht hsz h3 hB
 by_cases hx:x=120
 case neg=>
  have e1:((x.toNat:Int) != 120)=true:=jU (fun hc=>hx (UInt8.toNat_inj.1 (by show x.toNat=120;omega)))
  have HN:Hid (eE (x::a::b::r)=none):=by show _=_;rw[<-HBs.out,HB.out,if_neg (fun hc=>hx hc.1)]
  clear hx HB
  go_enter Tryz.func166,Tryz.ntmps166
  go_wp2
  go_ret2
  exact kU HN.out
 have e1:((x.toNat:Int) != 120)=false:=by rw[hx];rfl
 have HIa:=tQ (fun w'=>pH a w')
 have HIb:=tQ (fun w'=>pH b w')
 by_cases ha:Tx.half a<16
 case neg=>
  have HN:Hid (eE (x::a::b::r)=none):=by show _=_;rw[<-HBs.out,HB.out,if_neg (fun hc=>ha hc.2.1)]
  rw[if_neg ha] at HIa
  obtain⟨hb,hhb⟩:∃hb:Int,hb=if Tx.half b<16 then (Tx.half b:Int) else -1:=⟨_,rfl⟩
  rw[<-hhb] at HIb
  clear hhb hx HB ha
  go_enter Tryz.func166,Tryz.ntmps166
  go_wp2_with fail
  go_quiet (first | (go_at_call 187;first | exact Calls.quiet_of (HIa.out _) | exact Calls.quiet_of (HIb.out _)))
  go_wp2
  go_ret2
  exact mC HN.out _
 by_cases hb:Tx.half b<16
 case neg=>
  have HN:Hid (eE (x::a::b::r)=none):=by show _=_;rw[<-HBs.out,HB.out,if_neg (fun hc=>hb hc.2.2.1)]
  rw[if_pos ha] at HIa
  rw[if_neg hb] at HIb
  obtain⟨u,hu⟩:∃u,u=Tx.half a:=⟨_,rfl⟩
  rw[<-hu] at HIa
  have u0:¬(u:Int)<0:=by omega
  clear hx HB ha hb hu
  go_enter Tryz.func166,Tryz.ntmps166
  go_wp2_with fail
  go_quiet (first | (go_at_call 187;first | exact Calls.quiet_of (HIa.out _) | exact Calls.quiet_of (HIb.out _)))
  go_wp2
  go_ret2
  exact mC HN.out _
 rw[if_pos ha] at HIa
 rw[if_pos hb] at HIb
 obtain⟨u,hu⟩:∃u,u=Tx.half a:=⟨_,rfl⟩
 obtain⟨v,hv⟩:∃v,v=Tx.half b:=⟨_,rfl⟩
 rw[<-hu] at HIa HB ha
 rw[<-hv] at HIb HB hb
 have u0:¬(u:Int)<0:=by omega
 have v0:¬(v:Int)<0:=by omega
 have u1:(0:Int)<=(u:Int):=by omega
 have v1:(0:Int)<=(v:Int):=by omega
 have u2:(u:Int)<16:=by omega
 have v2:(v:Int)<16:=by omega
 have HPl:=tQ (fun w'=>gO (16*(u:Int)+(v:Int)) w')
 obtain⟨pl,hpl⟩:∃pl,pl=ez (16*(u:Int)+(v:Int)):=⟨_,rfl⟩
 rw[<-hpl] at HPl
 have HEnd:Hid ((((UInt8.ofNat (16*u+v)).toNat:Int)=16*(u:Int)+(v:Int))∧eE (120::a::b::r)=if (!pl)=true then some (UInt8.ofNat (16*u+v)) else none):=by
  refine⟨by rw[UInt8.toNat_ofNat'];omega,?_⟩
  have h1:eE (120::a::b::r)=B:=by rw[HBs.out,hx]
  rw[h1,HB.out,hpl]
  unfold ez
  by_cases hp:32<=16*u+v∧16*u+v<=126
  ·rw[if_neg (fun hc=>hc.2.2.2 hp),decide_eq_true (by omega)]
   rfl
  ·rw[if_pos ⟨hx,ha,hb,hp⟩,decide_eq_false (by omega)]
   rfl
 clear hpl
 have hor:=qF ⟨u,ha⟩ ⟨v,hb⟩
 dsimp only at hor
 clear hu hv
 go_enter Tryz.func166,Tryz.ntmps166
 go_wp2_with fail
 go_quiet (first | (go_at_call 187;first | exact Calls.quiet_of (HIa.out _) | exact Calls.quiet_of (HIb.out _)))
 go_wp2_with fail
 refine(HPl.out _).mono ?_
 rintro e w1 ⟨rfl,hw1⟩
 rw[hw1]
 clear hw1 w1 HPl
 go_wp2
 go_ret2
 obtain⟨n1,n2⟩:=HEnd.out
 exact⟨UInt8.ofNat (16*u+v),!pl,by rw[n1];rfl,by rw[hx];exact n2,_,rfl⟩
theorem gS(w:World)(a b:Nat):(w.drewN a).drewN b=w.drewN (a+b):=by simp[World.drewN,Nat.add_assoc]
def is8(c:UInt8)(v:Value)(_:World):Prop:=v=.int .u8 (c.toNat:Int)
theorem is8.open{c:UInt8}{v:Value}{w:World}(h:is8 c v w):v=.int .u8 (c.toNat:Int):=h
theorem pQ{w:World}{P:Nat}{S:ByteArray}{r:Tx.Bs}(h:Prs w P S (92::r))(q:UInt8):Calls Tryz.prog 143 #[.pointer (some ⟨P,0,none⟩),.int .u8 (q.toNat:Int)] w (PsA w P S (fo q r) is8):=by
 have hsm:=h.small
 have hle:=h.le
 have hsf:=h.suf
 have c0:w.cell? ⟨P,0,none⟩=some (.string S):=h.cell 0
 have c1:w.cell? ⟨P,1,none⟩=some (.int .i64 ((S.size-(92::r).length:Nat):Int)):=h.cell 1
 obtain⟨a,ha⟩:∃a,S.size-(92::r).length=a:=⟨_,rfl⟩
 rw[ha] at c1 hsf
 simp only[List.length_cons] at hle ha
 have haS:a+1<=S.size:=by omega
 have haI:(a:Int)+1<=(S.size:Int):=by omega
 have haJ:(a:Int)+1<=140737488351232:=by omega
 have hcut:S.extract (a+1) S.size=⟨r.toArray⟩:=kX (by have:=congrArg List.tail hsf;rwa [List.tail_drop] at this) S.size tX
 obtain⟨t,ht⟩:∃t,t=ByteArray.mk r.toArray:=⟨_,rfl⟩
 rw[<-ht] at hcut
 have hts:t.size=r.length:=by rw[ht];show r.toArray.size=_;simp
 have htl:t.size<=140737488351232:=by omega
 have HT:=tQ ht
 have HX:=tQ (fun w'=>pK r t ht htl w')
 have hAe:(ByteArray.mk r.toArray).toList=r:=by rw[ByteArray.toList_eq]
 have e9:t.toList=r:=by rw[ht];exact hAe
 have HH:=tQ h
 have HNd:Hid (∀n,Calls Tryz.prog 48 #[.pointer (some ⟨P,0,none⟩),.bool false,.int .i64 5] (w.drewN n) fun e w'=>e=.panicked (dN 5 (S.size-(r.length+1)))∧Aside (fun k=>k=P) w w'):=fun n=>
  (aN (h.drewN n) 5 (r.length+1) rfl).mono fun e w' ⟨q1,q2⟩=>⟨q1,by rw[q2];exact ax _ w n⟩
 have HSk:Hid (∀n k (d r':Tx.Bs),92::r=d++r'->d.length=k->Prs ((w.drewN n).setCell ⟨P,1,none⟩ (.int .i64 ((a:Int)+(k:Int)))) P S r'∧Aside (fun i=>i=P) w ((w.drewN n).setCell ⟨P,1,none⟩ (.int .i64 ((a:Int)+(k:Int))))):=fun n k d r' hd hk=>by
  have hh:Prs (w.drewN n) P S (d++r'):=by rw[<-hd];exact h.drewN n
  have hl:=congrArg List.length hd
  simp only[List.length_cons,List.length_append] at hl
  exact⟨hh.skip (by omega),(ax _ w n).trans (bu _ _ _) (fun _ _ h=>h)⟩
 have hc1:∀n,(w.drewN n).cell? ⟨P,1,none⟩=some (.int .i64 (a:Int)):=fun n=>by have:=(h.drewN n).cell 1;rw[show S.size-(92::r).length=a by simp only[List.length_cons];omega] at this;exact this
 have ht1:∀n,(w.drewN n).frozen? ⟨P,1,none⟩=false:=fun n=>(h.drewN n).thawed 1
 clear h hsf ht hAe
 cases r with
 |nil=>
  have HRe:Hid (fo q []=.error (5,1)):=rfl
  obtain⟨R,hR⟩:∃R,R=fo q []:=⟨_,rfl⟩
  rw[<-hR] at HRe ⊢
  have HX2:Hid (∀n,Calls Tryz.prog 166 #[.string t] (w.drewN n) fun e w'=>∃c:UInt8,e=.returned (.tuple #[.int .u8 (c.toNat:Int),.bool false])∧∃n,w'=w.drewN n):=fun n=>(HX.out _).mono fun e w' hh=>by
   obtain⟨c,ok,q1,q2,m,q3⟩:=hh
   cases ok with
   |true=>cases q2
   |false=>exact⟨c,q1,n+m,by rw[q3,gS]⟩
  clear HX HSk hc1 ht1 hR
  go_enter Tryz.func143,Tryz.ntmps143
  go_wp2_with fail
  go_quiet (fail)
  go_wp2_with fail
  refine(HX2.out _).mono ?_
  rintro e w1 ⟨c,rfl,n,hw1⟩
  rw[hw1]
  clear hw1 w1 HX2
  go_wp2_with fail
  refine(HNd.out _).mono ?_
  rintro e w2 ⟨rfl,ha2⟩
  have HA2:=tQ ha2
  clear ha2 HNd
  go_wp2
  rw[HRe.out]
  exact⟨rfl,rfl,HA2.out⟩
 |cons d r1=>
  have q0:∃h:0<t.size,t[0]'h=d:=⟨by rw[hts];simp,by have:=HT.out;subst this;rfl⟩
  obtain⟨k0,q0⟩:=q0
  have i0:(0:Int)<(t.size:Int):=by omega
  obtain⟨R,hR⟩:∃R,R=fo q (d::r1):=⟨_,rfl⟩
  have HRR:Hid (R=if d=92∨d=q then .ok (d,r1) else match eE (d::r1) with
   |some c=>.ok (c,r1.drop 2)
   |none=>.error (5,r1.length+2)):=hR
  rw[<-hR]
  clear hR hle ha hts
  by_cases hd:d=92∨d=q
  ·have HRk:Hid (R=.ok (d,r1)):=HRR.out.trans (if_pos hd)
   have HS2:=tQ (fun n=>HSk.out n 2 [92,d] r1 rfl rfl)
   clear HRR HX HNd HSk
   have et:((d.toNat:Int)==92)=true∨(((d.toNat:Int)==92)=false∧((d.toNat:Int)==(q.toNat:Int))=true):=by
    by_cases h92:d=92
    ·exact .inl (by rw[h92];rfl)
    ·refine .inr ⟨bh (fun hc=>h92 (UInt8.toNat_inj.1 (by show d.toNat=92;omega))),?_⟩
     rcases hd with hd | hd
     ·exact absurd hd h92
     ·rw[hd];exact beq_self_eq_true _
   clear hd
   rcases et with e1 | ⟨e1,e2⟩
   all_goals
    go_enter Tryz.func143,Tryz.ntmps143
    go_wp2_with fail
    go_quiet (fail)
    go_wp2
    go_ret
    rw[HRk.out]
    exact⟨_,rfl,rfl,(HS2.out _).1,(HS2.out _).2⟩
  ·have e1:((d.toNat:Int)==92)=false:=bh (fun hc=>hd (.inl (UInt8.toNat_inj.1 (by show d.toNat=92;omega))))
   have e2:((d.toNat:Int)==(q.toNat:Int))=false:=bh (fun hc=>hd (.inr (UInt8.toNat_inj.1 (by omega))))
   have HRh:=tQ (HRR.out.trans (if_neg hd))
   clear HRR hd
   obtain⟨B,hB⟩:∃B,B=eE (d::r1):=⟨_,rfl⟩
   rw[<-hB] at HRh
   cases B with
   |none=>
    have HRe:Hid (R=.error (5,(d::r1).length+1)):=HRh.out
    have HX2:Hid (∀n,Calls Tryz.prog 166 #[.string t] (w.drewN n) fun e w'=>∃c:UInt8,e=.returned (.tuple #[.int .u8 (c.toNat:Int),.bool false])∧∃n,w'=w.drewN n):=fun n=>(HX.out _).mono fun e w' hh=>by
     obtain⟨c,ok,q1,q2,m,q3⟩:=hh
     rw[<-hB] at q2
     cases ok with
     |true=>cases q2
     |false=>exact⟨c,q1,n+m,by rw[q3,gS]⟩
    clear HX HSk hc1 ht1 hB HRh
    go_enter Tryz.func143,Tryz.ntmps143
    go_wp2_with fail
    go_quiet (fail)
    go_wp2_with fail
    refine(HX2.out _).mono ?_
    rintro e w1 ⟨c,rfl,n,hw1⟩
    rw[hw1]
    clear hw1 w1 HX2
    go_wp2_with fail
    refine(HNd.out _).mono ?_
    rintro e w2 ⟨rfl,ha2⟩
    have HA2:=tQ ha2
    clear ha2 HNd
    go_wp2
    rw[HRe.out]
    exact⟨rfl,rfl,HA2.out⟩
   |some c=>
    have HRk:Hid (R=.ok (c,r1.drop 2)):=HRh.out
    obtain⟨x,y,r2,rfl⟩:∃x y r2,r1=x::y::r2:=by
     match r1,hB with
     | [],hB=>cases hB
     | [_],hB=>cases hB
     |x::y::r2,_=>exact⟨x,y,r2,rfl⟩
    have HS2:=tQ (fun n=>HSk.out n 4 [92,d,x,y] r2 rfl rfl)
    have HX2:Hid (∀n,Calls Tryz.prog 166 #[.string t] (w.drewN n) fun e w'=>e=.returned (.tuple #[.int .u8 (c.toNat:Int),.bool true])∧∃n,w'=w.drewN n):=fun n=>(HX.out _).mono fun e w' hh=>by
     obtain⟨c',ok,q1,q2,m,q3⟩:=hh
     rw[<-hB] at q2
     cases ok with
     |false=>cases q2
     |true=>
      injection q2 with q2
      rw[q2]
      exact⟨q1,n+m,by rw[q3,gS]⟩
    clear HX HSk hB HRh HNd
    go_enter Tryz.func143,Tryz.ntmps143
    go_wp2_with fail
    go_quiet (fail)
    go_wp2_with fail
    refine(HX2.out _).mono ?_
    rintro e w1 ⟨rfl,n,hw1⟩
    rw[hw1]
    clear hw1 w1 HX2
    go_wp2_with fail
    refine(aV _ 5 _).mono ?_
    rintro e w2 ⟨rfl,hw2⟩
    rw[hw2]
    clear hw2 w2
    go_wp2
    go_ret
    rw[HRk.out]
    exact⟨_,rfl,rfl,(HS2.out _).1,(HS2.out _).2⟩
end Go.Proofs.YtllbniljgcgbeaaGreatDoor

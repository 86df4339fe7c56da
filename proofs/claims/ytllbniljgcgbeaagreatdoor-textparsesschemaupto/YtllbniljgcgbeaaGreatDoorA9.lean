import Derived.Test.YtllbniljgcgbeaaGreatDoorA8
import Derived.Test.YtllbniljgcgbeaaGreatDoorA5
import Derived.Test.YtllbniljgcgbeaaGreatDoorWT21S
import Derived.Test.YtllbniljgcgbeaaGreatDoorA7
import Derived.Test.YtllbniljgcgbeaaGreatDoorTx11
import Derived.Test.YtllbniljgcgbeaaGreatDoorWT21N0
set_option maxRecDepth 100000
set_option maxHeartbeats 8000000
namespace Go.Proofs.YtllbniljgcgbeaaGreatDoor
section
open Go.RowKit
attribute [local go_sem] ah
theorem dD.wide{w W w':World}{X:Tx.R (V×Tx.Bs)}{k i:Int}{b:Nat}{t:ByteArray}{p:OA}{n c:Nat}(hw:w.1.size+1<W.1.size)(hown:∀v l,X=.ok (v,l)->aG w' (fun j=>W.1.size<=j∧j<w'.1.size) (cells5 k i b t p n c) v):∀v l,X=.ok (v,l)->∃F:Nat->Prop,aG w' F (cells5 k i b t p n c) v∧∀j,F j->w.1.size<j∧j<w'.1.size :=
 fun v l hx=>⟨_,hown v l hx,fun j hj=>by omega⟩
theorem lG{rf:Tx.Bs->Option Nat}(hRf:bP rf):∀(f d:Nat) (l:Tx.Bs) (R:Nat) (S:ByteArray) (w:World),d+f=5->S.size<=1099511627776->an w R S l->Calls Tryz.prog 28 #[.pointer (some ⟨R,0,none⟩),.int .i64 (d:Nat)] w (dD w R S (Tx.pval rf f l)):=by
 intro f
 induction f with
 |zero=>
  intro d l R S w hd hS h
  obtain⟨W1,hW1⟩:∃W1,W1=(w.alloc (.cells #[.int .i64 0,.int .i64 0,.float .f64 0,.string ⟨#[]⟩,.slice none 0 0] 36)).alloc (.cells #[.int .i64 0,.int .i64 0,.float .f64 0,.string ⟨#[]⟩,.slice none 0 0] 36):=⟨_,rfl⟩
  have hb1:Below w.1.size w W1:=by rw[hW1];exact tY.alloc (by simp) _
  have hz1:W1.1[w.1.size]?=some (.cells ar 36 (0,0)):=by rw[hW1,ao _ _ (by simp)];exact aj w _
  have hn1:W1.1[w.1.size+1]?=some (.cells ar 36 (0,0)):=by rw[hW1];have:=aj (w.alloc (.cells #[.int .i64 0,.int .i64 0,.float .f64 0,.string ⟨#[]⟩,.slice none 0 0] 36)) (.cells #[.int .i64 0,.int .i64 0,.float .f64 0,.string ⟨#[]⟩,.slice none 0 0] 36);rw[show(w.alloc (.cells #[.int .i64 0,.int .i64 0,.float .f64 0,.string ⟨#[]⟩,.slice none 0 0] 36)).1.size=w.1.size+1 by simp] at this;exact this
  have hr1:=h.on hb1
  have HRl:=tQ h.lt
  have hRl:=h.lt
  have hRN:¬w.1.size=R:=by omega
  have hRN2:¬R=w.1.size:=by omega
  have hRT:¬w.1.size+1=R:=by omega
  have hRT2:¬R=w.1.size+1:=by omega
  have c1:W1.cell? ⟨R,1,none⟩=some (.int .i64 ((S.size-l.length:Nat):Int)):=hr1.cell 1
  have HF:=tQ (aP hr1 62 l.length (by decide))
  have HW:Hid (W1.1[w.1.size]?=some (.cells ar 36 (0,0))∧W1.1[w.1.size+1]?=some (.cells ar 36 (0,0))∧Aside (fun j=>j=R) w W1):=⟨hz1,hn1,ag hb1 _⟩
  have HW1:=tQ hW1
  have HXe:Hid (Tx.pval rf 0 l=.error (62,l.length)):=by show _=_;rw[Tx.pval]
  obtain⟨X,hX⟩:∃X,X=Tx.pval rf 0 l:=⟨_,rfl⟩
  rw[<-hX] at HXe ⊢
  obtain⟨a,ha⟩:∃a,a=S.size-l.length:=⟨_,rfl⟩
  rw[<-ha] at c1 HF
  obtain rfl:d=5:=by omega
  rw[hW1] at c1
  clear h hW1 hb1 hz1 hn1 hr1 hX ha hS hRl
  go_enter Tryz.func28,Tryz.ntmps28
  go_wp2_with fail
  rw[<-HW1.out]
  skip
  refine HF.out.mono ?_
  rintro e w9 ⟨rfl,hb9,ha9⟩
  have hz9:=(ha9.block _ (ae HW.out.1) hRN).trans HW.out.1
  have hn9:=(ha9.block _ (ae HW.out.2.1) hRT).trans HW.out.2.1
  have HFin:=tQ (aS (k:=0) (i:=0) (b:=0) (t:=⟨#[]⟩) (p:=none) (n:=0) (c:=0) (X:=.error (62,l.length)) HRl.out hz9 rfl hb9 (HW.out.2.2.trans ha9 (fun _ _ h=>h)) (fun v l hc=>by cases hc))
  have y0:w9.cell? ⟨w.1.size+1,0,none⟩=some (.int .i64 0):=ab hn9 0
  have y1:w9.cell? ⟨w.1.size+1,1,none⟩=some (.int .i64 0):=ab hn9 1
  have y2:w9.cell? ⟨w.1.size+1,2,none⟩=some (.float .f64 0):=ab hn9 2
  have y3:w9.cell? ⟨w.1.size+1,3,none⟩=some (.string ⟨#[]⟩):=ab hn9 3
  have y4:w9.cell? ⟨w.1.size+1,4,none⟩=some (.slice none 0 0):=ab hn9 4
  have z0:w9.cell? ⟨w.1.size,0,none⟩=some (.int .i64 0):=ab hz9 0
  have zf0:=ac hz9 0
  have z1:w9.cell? ⟨w.1.size,1,none⟩=some (.int .i64 0):=ab hz9 1
  have zf1:=ac hz9 1
  have z2:w9.cell? ⟨w.1.size,2,none⟩=some (.float .f64 0):=ab hz9 2
  have zf2:=ac hz9 2
  have z3:w9.cell? ⟨w.1.size,3,none⟩=some (.string ⟨#[]⟩):=ab hz9 3
  have zf3:=ac hz9 3
  have z4:w9.cell? ⟨w.1.size,4,none⟩=some (.slice none 0 0):=ab hz9 4
  have zf4:=ac hz9 4
  clear hb9 ha9 hz9 hn9 HW HW1 HF c1
  go_wp2
  refine bodyPost_ret (v:=.agg (cells5 0 0 0 ⟨#[]⟩ none 0 0)) (results_cell_row rfl _ _ w.1.size _ _ _ _ rfl HFin.out.1 Tryz.underlying36 rfl (by kernel_rfl)) rfl ?_
  rw[HXe.out]
  exact HFin.out.2
 |succ f ih=>
  intro d l R S w hd hS h
  have hd4:d<=4:=by omega
  have hdi:¬(4:Int)<(d:Int):=by omega
  have hdj:decide ((4:Int)<(d:Int))=false:=decide_eq_false hdi
  have hdk:decide (4<d)=false:=decide_eq_false (by omega)
  have HVal:Hid (∀w' l',an w' R S l'->Calls Tryz.prog 28 #[.pointer (some ⟨R,0,none⟩),.int .i64 ((d:Int)+1)] w' (dD w' R S (Tx.pval rf f l'))):=fun w' l' h'=>by
   have:=ih (d+1) l' R S w' (by omega) hS h'
   rw[show((d+1:Nat):Int)=(d:Int)+1 by omega] at this
   exact this
  have HRf:=tQ hRf
  have HS:=tQ hS
  have HD4:=tQ hd4
  obtain⟨W1,hW1⟩:∃W1,W1=(w.alloc (.cells #[.int .i64 0,.int .i64 0,.float .f64 0,.string ⟨#[]⟩,.slice none 0 0] 36)).alloc (.cells #[.int .i64 0,.int .i64 0,.float .f64 0,.string ⟨#[]⟩,.slice none 0 0] 36):=⟨_,rfl⟩
  have hb1:Below w.1.size w W1:=by rw[hW1];exact tY.alloc (by simp) _
  have hz1:W1.1[w.1.size]?=some (.cells ar 36 (0,0)):=by rw[hW1,ao _ _ (by simp)];exact aj w _
  have hn1:W1.1[w.1.size+1]?=some (.cells ar 36 (0,0)):=by rw[hW1];have:=aj (w.alloc (.cells #[.int .i64 0,.int .i64 0,.float .f64 0,.string ⟨#[]⟩,.slice none 0 0] 36)) (.cells #[.int .i64 0,.int .i64 0,.float .f64 0,.string ⟨#[]⟩,.slice none 0 0] 36);rw[show(w.alloc (.cells #[.int .i64 0,.int .i64 0,.float .f64 0,.string ⟨#[]⟩,.slice none 0 0] 36)).1.size=w.1.size+1 by simp] at this;exact this
  have hr1:=h.on hb1
  have HRl:=tQ h.lt
  have hRl:=h.lt
  have hRN:¬w.1.size=R:=by omega
  have hRN2:¬R=w.1.size:=by omega
  have hRT:¬w.1.size+1=R:=by omega
  have hRT2:¬R=w.1.size+1:=by omega
  have hTN:¬w.1.size+1=w.1.size:=by omega
  have hTN2:¬w.1.size=w.1.size+1:=by omega
  obtain⟨a,ha⟩:∃a,a=S.size-l.length:=⟨_,rfl⟩
  have c0:W1.cell? ⟨R,0,none⟩=some (.string S):=hr1.cell 0
  have c1:W1.cell? ⟨R,1,none⟩=some (.int .i64 (a:Int)):=by rw[ha];exact hr1.cell 1
  have hle:=h.le
  have HWn:Hid (∀n,an (W1.drewN n) R S l∧(W1.drewN n).1[w.1.size]?=some (.cells ar 36 (0,0))∧(W1.drewN n).1[w.1.size+1]?=some (.cells ar 36 (0,0))∧Aside (fun j=>j=R) w (W1.drewN n)):=fun n=>⟨hr1.drewN n,hz1,hn1,(ag hb1 _).trans (am (fun j=>j=R) W1 n) (fun _ _ h=>h)⟩
  have HW1:=tQ hW1
  obtain⟨X,hX⟩:∃X,X=Tx.pval rf (f+1) l:=⟨_,rfl⟩
  have HX:=tQ hX
  have HAe:=tQ ha
  rw[<-hX]
  have hsm:=h.small
  clear hX ih hRf hS hd hd4 h hW1 hb1 hz1 hn1 hr1 hRl
  go_enter Tryz.func28,Tryz.ntmps28
  go_wp2_with fail
  rw[<-HW1.out]
  cases l with
  |nil=>
   have haS:a=S.size:=by rw[ha];simp
   have g1:((a:Int)==(S.size:Int))=true:=by rw[haS];exact beq_self_eq_true _
   have HXe:Hid (X=.error (5,([]:Tx.Bs).length)):=by show X=_;rw[HX.out,Tx.pval];rfl
   clear ha haS HX hle
   go_quiet (fail)
   obtain⟨hr2,hz2,hn2,ha2⟩:=HWn.out nq
   have HW:Hid ((W1.drewN nq).1[w.1.size]?=some (.cells ar 36 (0,0))∧(W1.drewN nq).1[w.1.size+1]?=some (.cells ar 36 (0,0))∧Aside (fun j=>j=R) w (W1.drewN nq)):=⟨hz2,hn2,ha2⟩
   have HF:=tQ (aP hr2 5 ([]:Tx.Bs).length (by decide))
   rw[<-HAe.out] at HF
   have c2:(W1.drewN nq).cell? ⟨R,1,none⟩=some (.int .i64 (a:Int)):=by rw[HAe.out];exact hr2.cell 1
   clear hr2 hz2 hn2 ha2 c0 c1 HWn HW1
   generalize W1.drewN nq=w3 at *
   go_wp2_with fail
   refine HF.out.mono ?_
   rintro e w9 ⟨rfl,hb9,ha9⟩
   have hz9:=(ha9.block _ (ae HW.out.1) hRN).trans HW.out.1
   have hn9:=(ha9.block _ (ae HW.out.2.1) hRT).trans HW.out.2.1
   have HFin:=tQ (aS (k:=0) (i:=0) (b:=0) (t:=⟨#[]⟩) (p:=none) (n:=0) (c:=0) (X:=.error (5,([]:Tx.Bs).length)) HRl.out hz9 rfl hb9 (HW.out.2.2.trans ha9 (fun _ _ h=>h)) (fun v l hc=>by cases hc))
   have y0:w9.cell? ⟨w.1.size+1,0,none⟩=some (.int .i64 0):=ab hn9 0
   have y1:w9.cell? ⟨w.1.size+1,1,none⟩=some (.int .i64 0):=ab hn9 1
   have y2:w9.cell? ⟨w.1.size+1,2,none⟩=some (.float .f64 0):=ab hn9 2
   have y3:w9.cell? ⟨w.1.size+1,3,none⟩=some (.string ⟨#[]⟩):=ab hn9 3
   have y4:w9.cell? ⟨w.1.size+1,4,none⟩=some (.slice none 0 0):=ab hn9 4
   have z0:w9.cell? ⟨w.1.size,0,none⟩=some (.int .i64 0):=ab hz9 0
   have zf0:=ac hz9 0
   have z1:w9.cell? ⟨w.1.size,1,none⟩=some (.int .i64 0):=ab hz9 1
   have zf1:=ac hz9 1
   have z2:w9.cell? ⟨w.1.size,2,none⟩=some (.float .f64 0):=ab hz9 2
   have zf2:=ac hz9 2
   have z3:w9.cell? ⟨w.1.size,3,none⟩=some (.string ⟨#[]⟩):=ab hz9 3
   have zf3:=ac hz9 3
   have z4:w9.cell? ⟨w.1.size,4,none⟩=some (.slice none 0 0):=ab hz9 4
   have zf4:=ac hz9 4
   clear hb9 ha9 hz9 hn9 HW HF c2
   go_wp2
   refine bodyPost_ret (v:=.agg (cells5 0 0 0 ⟨#[]⟩ none 0 0)) (results_cell_row rfl _ _ w.1.size _ _ _ _ rfl HFin.out.1 Tryz.underlying36 rfl (by kernel_rfl)) rfl ?_
   rw[HXe.out]
   exact HFin.out.2
  |cons c t=>
   have haS:a<S.size:=by simp only[List.length_cons] at ha hle;omega
   have g1:((a:Int)==(S.size:Int))=false:=by rw[beq_eq_false_iff_ne];omega
   obtain⟨hlt,hd'⟩:∃hlt:a<S.size,S[a]'hlt=c:=(HWn.out 0).1.gets ha 0 (by simp)
   have f1:(a:Int)<(S.size:Int):=by omega
   have HC8:=tQ (UInt8.toNat_lt c)
   have hsz:a+t.length+1=S.size:=by simp only[List.length_cons] at ha hle;omega
   have HSz:=tQ hsz
   clear ha hle hsz
   go_quiet (fail)
   go_wp2_with fail
   go_quiet (fail)
   go_wp2_with fail
   refine(gy c _).mono ?_
   rintro e w2 ⟨rfl,hw2⟩
   obtain⟨hr2,hz2,hn2,ha2⟩:an w2 R S (c::t)∧w2.1[w.1.size]?=some (.cells ar 36 (0,0))∧w2.1[w.1.size+1]?=some (.cells ar 36 (0,0))∧Aside (fun j=>j=R) w w2:=by rw[hw2];exact HWn.out _
   have c2:w2.cell? ⟨R,1,none⟩=some (.int .i64 (a:Int)):=by rw[HAe.out];exact hr2.cell 1
   have t2:=hr2.thawed 1
   have HR2:=tQ hr2
   have HW:Hid (w2.1[w.1.size]?=some (.cells ar 36 (0,0))∧w2.1[w.1.size+1]?=some (.cells ar 36 (0,0))∧Aside (fun j=>j=R) w w2):=⟨hz2,hn2,ha2⟩
   have HF:=tQ (aP hr2 5 (c::t).length (by decide))
   rw[<-HAe.out] at HF
   have z0:w2.cell? ⟨w.1.size,0,none⟩=some (.int .i64 0):=ab hz2 0
   have zf0:=ac hz2 0
   have z1:w2.cell? ⟨w.1.size,1,none⟩=some (.int .i64 0):=ab hz2 1
   have zf1:=ac hz2 1
   have z2:w2.cell? ⟨w.1.size,2,none⟩=some (.float .f64 0):=ab hz2 2
   have zf2:=ac hz2 2
   have z3:w2.cell? ⟨w.1.size,3,none⟩=some (.string ⟨#[]⟩):=ab hz2 3
   have zf3:=ac hz2 3
   have z4:w2.cell? ⟨w.1.size,4,none⟩=some (.slice none 0 0):=ab hz2 4
   have zf4:=ac hz2 4
   clear hw2 hr2 hz2 hn2 ha2 c0 c1 HWn HW1 hlt hd' f1 g1 hsm haS
   by_cases q1:Sch.low c=true
   ·have HXe:Hid (X=ii rf f (c::t)):=by show X=_;rw[HX.out,d9,if_pos q1]
    have HCa:=tQ (nk HR2.out f d HD4.out HVal.out)
    obtain⟨Y,hY⟩:∃Y,Y=ii rf f (c::t):=⟨_,rfl⟩
    rw[<-hY] at HXe HCa
    clear hY HX HVal HF HR2 HRf HS HSz HC8 c2 t2 z0 z1 z2 z3 z4 zf0 zf1 zf2 zf3 zf4
    rw[q1]
    go_wp2_with fail
    refine HCa.out.mono ?_
    rintro e w9 ⟨k,i,b,t9,p,n,c9,rfl,hrd9,ha9,hown9⟩
    have hz9:=(ha9.block _ (ae HW.out.1) hRN).trans HW.out.1
    have HFin:=tQ (aS (k:=k) (i:=i) (b:=b) (t:=t9) (p:=p) (n:=n) (c:=c9) (X:=Y) HRl.out hz9 rfl hrd9 (HW.out.2.2.trans ha9 (fun _ _ h=>h)) (dD.wide (ae HW.out.2.1) hown9))
    have z0:w9.cell? ⟨w.1.size,0,none⟩=some (.int .i64 0):=ab hz9 0
    have zf0:=ac hz9 0
    have z1:w9.cell? ⟨w.1.size,1,none⟩=some (.int .i64 0):=ab hz9 1
    have zf1:=ac hz9 1
    have z2:w9.cell? ⟨w.1.size,2,none⟩=some (.float .f64 0):=ab hz9 2
    have zf2:=ac hz9 2
    have z3:w9.cell? ⟨w.1.size,3,none⟩=some (.string ⟨#[]⟩):=ab hz9 3
    have zf3:=ac hz9 3
    have z4:w9.cell? ⟨w.1.size,4,none⟩=some (.slice none 0 0):=ab hz9 4
    have zf4:=ac hz9 4
    clear hrd9 ha9 hown9 hz9 HCa HW
    go_wp2
    refine bodyPost_ret (v:=.agg (cells5 k i b t9 p n c9)) (results_cell_row rfl _ _ w.1.size _ _ _ _ rfl HFin.out.1 Tryz.underlying36 rfl (by kernel_rfl)) rfl ?_
    rw[HXe.out]
    exact HFin.out.2
   have q1':Sch.low c=false:=by simpa using q1
   rw[q1']
   have N1:=tQ q1
   clear q1
   by_cases q2:Tx.iset c=true
   ·have hk:Tx.dig c=true∨(Tx.dig c=false∧((c.toNat:Int)==45)=true):=by
     unfold Tx.iset at q2
     rw[Bool.or_eq_true] at q2
     cases hd:Tx.dig c with
     |true=>exact .inl rfl
     |false=>
      rcases q2 with h | h
      ·rw[hd] at h;cases h
      ·exact .inr ⟨rfl,by rw[of_decide_eq_true h];rfl⟩
    obtain⟨wd,hwd⟩:∃wd,wd=(c::t).takeWhile Tx.iset:=⟨_,rfl⟩
    obtain⟨r0,hr0⟩:∃r,r=(c::t).dropWhile Tx.iset:=⟨_,rfl⟩
    have hsp:c::t=wd++r0:=by rw[hwd,hr0];exact(List.takeWhile_append_dropWhile).symm
    have HXe:Hid (X=match Tx.num wd with
      |none=>.error (5,(c::t).length)
      |some n=>.ok (⟨2,n,0,⟨#[]⟩,[]⟩,r0)):=by show X=_;rw[HX.out,d9,if_neg N1.out,if_pos q2,hwd,hr0];rfl
    have hwl:wd.length<=(c::t).length:=by rw[hsp,List.length_append];omega
    have HSp:=tQ hsp
    have HRw:=tQ (dJ HR2.out 1 (by omega))
    rw[show cH 1=Tx.iset from rfl,<-hwd] at HRw
    have HNm:Hid (∀w',Calls Tryz.prog 57 #[.string ⟨wd.toArray⟩] w' (qg w' wd)):=fun w'=>kr ⟨wd.toArray⟩ (by show wd.toArray.size<=_;have:=HSz.out;have:=HS.out;simp at hwl ⊢;omega) w'
    have HWl:=tQ hwl
    have e9:(ByteArray.mk wd.toArray).size=wd.length:=by show wd.toArray.size=_;simp
    clear hwd hr0 hsp hwl HX HVal HRf q2 HF
    rcases hk with k1 | ⟨k1,k2⟩
    all_goals
     go_wp2_with fail
     refine(cV c _).mono ?_
     rintro e w3 ⟨rfl,hw3⟩
     subst hw3
     rw[k1]
     go_wp2_with fail
     refine HRw.out.mono ?_
     rintro e w4 ⟨rfl,hb4⟩
     go_wp2_with fail
     refine(HNm.out _).mono ?_
     rintro e w5 ⟨kn,bn,rfl,hm,hb5⟩
     have hr5:=(HR2.out.on hb4).on hb5
     have hb45:=hb4.trans (hb5.mono hb4.size)
     have hz5:=ay HW.out.1 hb45 (ae HW.out.1)
     have hn5:=ay HW.out.2.1 hb45 (ae HW.out.2.1)
     have ha5:=HW.out.2.2.trans (ag hb45 (fun i=>i=R)) (fun _ _ h=>h)
     have c5:w5.cell? ⟨R,1,none⟩=some (.int .i64 (a:Int)):=by rw[HAe.out];exact hr5.cell 1
     have t5:=hr5.thawed 1
     have hl5:w.1.size+1<w5.1.size:=ae hn5
     have HR5:=tQ hr5
     have HW5:Hid (w5.1[w.1.size]?=some (.cells ar 36 (0,0))∧w5.1[w.1.size+1]?=some (.cells ar 36 (0,0))∧Aside (fun j=>j=R) w w5):=⟨hz5,hn5,ha5⟩
     clear hb4 hb5 hb45 hz5 hn5 ha5 hr5 HRw HNm HW HR2 c2 t2 z0 z1 z2 z3 z4 zf0 zf1 zf2 zf3 zf4
     cases hnum:Tx.num wd with
     |none=>
      rw[hnum] at hm HXe
      have hm:bn=false:=hm
      have HXe:Hid (X=.error (5,(c::t).length)):=HXe
      subst hm
      have HF:=tQ (aP HR5.out 5 (c::t).length (by decide))
      rw[<-HAe.out] at HF
      clear hnum
      go_wp2_with fail
      refine HF.out.mono ?_
      rintro e w9 ⟨rfl,hb9,ha9⟩
      have hz9:=(ha9.block _ (ae HW5.out.1) hRN).trans HW5.out.1
      have hn9:=(ha9.block _ (ae HW5.out.2.1) hRT).trans HW5.out.2.1
      have HFin:=tQ (aS (k:=0) (i:=0) (b:=0) (t:=⟨#[]⟩) (p:=none) (n:=0) (c:=0) (X:=.error (5,(c::t).length)) HRl.out hz9 rfl hb9 (HW5.out.2.2.trans ha9 (fun _ _ h=>h)) (fun v l hc=>by cases hc))
      have y0:w9.cell? ⟨w.1.size+1,0,none⟩=some (.int .i64 0):=ab hn9 0
      have y1:w9.cell? ⟨w.1.size+1,1,none⟩=some (.int .i64 0):=ab hn9 1
      have y2:w9.cell? ⟨w.1.size+1,2,none⟩=some (.float .f64 0):=ab hn9 2
      have y3:w9.cell? ⟨w.1.size+1,3,none⟩=some (.string ⟨#[]⟩):=ab hn9 3
      have y4:w9.cell? ⟨w.1.size+1,4,none⟩=some (.slice none 0 0):=ab hn9 4
      have z0:w9.cell? ⟨w.1.size,0,none⟩=some (.int .i64 0):=ab hz9 0
      have zf0:=ac hz9 0
      have z1:w9.cell? ⟨w.1.size,1,none⟩=some (.int .i64 0):=ab hz9 1
      have zf1:=ac hz9 1
      have z2:w9.cell? ⟨w.1.size,2,none⟩=some (.float .f64 0):=ab hz9 2
      have zf2:=ac hz9 2
      have z3:w9.cell? ⟨w.1.size,3,none⟩=some (.string ⟨#[]⟩):=ab hz9 3
      have zf3:=ac hz9 3
      have z4:w9.cell? ⟨w.1.size,4,none⟩=some (.slice none 0 0):=ab hz9 4
      have zf4:=ac hz9 4
      clear hb9 ha9 hz9 hn9 HF c5 t5 HW5 HR5 HSp HWl HS HSz
      go_wp2
      refine bodyPost_ret (v:=.agg (cells5 0 0 0 ⟨#[]⟩ none 0 0)) (results_cell_row rfl _ _ w.1.size _ _ _ _ rfl HFin.out.1 Tryz.underlying36 rfl (by kernel_rfl)) rfl ?_
      rw[HXe.out]
      exact HFin.out.2
     |some m=>
      rw[hnum] at hm HXe
      obtain⟨hm1,hm2⟩:kn=m∧bn=true:=hm
      have HXe:Hid (X=.ok (⟨2,m,0,⟨#[]⟩,[]⟩,r0)):=HXe
      subst hm1
      subst hm2
      have hst:=HR5.out.step wd.length HWl.out ((a:Int)+(wd.length:Int)) (by rw[HAe.out])
      rw[show(c::t).drop wd.length=r0 by rw[HSp.out,List.drop_left]] at hst
      obtain⟨hr6,ha6⟩:=hst
      have f5:(a:Int)+(wd.length:Int)<=140737488351232:=by have:=HSz.out;have:=HS.out;have:=HWl.out;simp at this;omega
      have f6:(0:Int)<=(a:Int)+(wd.length:Int):=by omega
      have HFin:=tQ (aS (k:=2) (i:=kn) (b:=0) (t:=⟨#[]⟩) (p:=none) (n:=0) (c:=0) (X:=.ok (⟨2,kn,0,⟨#[]⟩,[]⟩,r0)) HRl.out ((ha6.block _ (by omega) hRN).trans HW5.out.1) rfl hr6 (HW5.out.2.2.trans ha6 (fun _ _ h=>h)) (fun v l hc=>by cases hc;exact⟨fun _=>False,.none,fun _ h=>h.elim⟩))
      have hz5:=HW5.out.1
      have z0:w5.cell? ⟨w.1.size,0,none⟩=some (.int .i64 0):=ab hz5 0
      have zf0:=ac hz5 0
      have z1:w5.cell? ⟨w.1.size,1,none⟩=some (.int .i64 0):=ab hz5 1
      have zf1:=ac hz5 1
      have z2:w5.cell? ⟨w.1.size,2,none⟩=some (.float .f64 0):=ab hz5 2
      have zf2:=ac hz5 2
      have z3:w5.cell? ⟨w.1.size,3,none⟩=some (.string ⟨#[]⟩):=ab hz5 3
      have zf3:=ac hz5 3
      have z4:w5.cell? ⟨w.1.size,4,none⟩=some (.slice none 0 0):=ab hz5 4
      have zf4:=ac hz5 4
      clear hnum hr6 ha6 hz5 HSp HWl HW5 HR5
      go_wp2
      refine bodyPost_ret (v:=.agg (cells5 2 kn 0 ⟨#[]⟩ none 0 0)) (results_cell_row rfl _ _ w.1.size _ _ _ _ rfl HFin.out.1 Tryz.underlying36 rfl (by kernel_rfl)) rfl ?_
      rw[HXe.out]
      exact HFin.out.2
   have hkd:Tx.dig c=false∧c≠45:=by
    unfold Tx.iset at q2
    rw[Bool.or_eq_true] at q2
    refine⟨?_,fun h=>q2 (.inr (decide_eq_true h))⟩
    cases hd:Tx.dig c with
    |true=>exact absurd (.inl hd) q2
    |false=>rfl
   have N2:=tQ q2
   have HE9:Hid (∀y:UInt8,c≠y->((c.toNat:Int)==(y.toNat:Int))=false):=fun y h=>by rw[beq_eq_false_iff_ne];intro hc;exact h (UInt8.toNat_inj.1 (by omega))
   have g45:((c.toNat:Int)==45)=false:=HE9.out 45 hkd.2
   have k1:=hkd.1
   clear hkd q2
   go_wp2_with fail
   refine(cV c _).mono ?_
   rintro e w3 ⟨rfl,hw3⟩
   subst hw3
   rw[k1]
   by_cases q3:c=126
   ·have g126:((c.toNat:Int)==126)=true:=by rw[q3];rfl
    obtain⟨wd,hwd⟩:∃wd,wd=t.takeWhile Tx.fset:=⟨_,rfl⟩
    obtain⟨r0,hr0⟩:∃r,r=t.dropWhile Tx.fset:=⟨_,rfl⟩
    have hsp:t=wd++r0:=by rw[hwd,hr0];exact(List.takeWhile_append_dropWhile).symm
    have HXe:Hid (X=match rf wd with
      |none=>.error (5,t.length)
      |some b=>.ok (⟨3,0,b,⟨#[]⟩,[]⟩,r0)):=by show X=_;rw[HX.out,d9,if_neg N1.out,if_neg N2.out,if_pos q3,hwd,hr0,q3];rfl
    have hwl:wd.length<=t.length:=by rw[hsp,List.length_append];omega
    obtain⟨hr3,ha3⟩:=HR2.out.step 1 (by simp) ((a:Int)+1) (by rw[HAe.out];rfl)
    rw[show(c::t).drop 1=t from rfl] at hr3
    have HRw:=tQ (dJ hr3 2 (by omega))
    rw[show cH 2=Tx.fset from rfl,<-hwd] at HRw
    have HFl:Hid (∀w',Calls Tryz.prog 58 #[.string ⟨wd.toArray⟩] w' (rO w' (rf wd))):=fun w'=>oU HRf.out ⟨wd.toArray⟩ (by show wd.toArray.size<=_;have:=HSz.out;have:=HS.out;simp at hwl ⊢;omega) w'
    have HW3:Hid ((w3.setCell ⟨R,1,none⟩ (.int .i64 ((a:Int)+1))).1[w.1.size]?=some (.cells ar 36 (0,0))∧(w3.setCell ⟨R,1,none⟩ (.int .i64 ((a:Int)+1))).1[w.1.size+1]?=some (.cells ar 36 (0,0))∧Aside (fun j=>j=R) w (w3.setCell ⟨R,1,none⟩ (.int .i64 ((a:Int)+1)))):=⟨(ha3.block _ (ae HW.out.1) hRN).trans HW.out.1,(ha3.block _ (ae HW.out.2.1) hRT).trans HW.out.2.1,HW.out.2.2.trans ha3 (fun _ _ h=>h)⟩
    have HR3:=tQ hr3
    have HSp:=tQ hsp
    have HWl:=tQ hwl
    have f5:(a:Int)+1<=140737488351232:=by have:=HSz.out;have:=HS.out;omega
    have f6:(0:Int)<=(a:Int)+1:=by omega
    have e9:(ByteArray.mk wd.toArray).size=wd.length:=by show wd.toArray.size=_;simp
    clear hwd hr0 hsp hwl HX HVal HRf HF hr3 ha3 HW HR2 z0 z1 z2 z3 z4 zf0 zf1 zf2 zf3 zf4 q3
    go_wp2_with fail
    refine HRw.out.mono ?_
    rintro e w4 ⟨rfl,hb4⟩
    go_wp2_with fail
    refine(HFl.out _).mono ?_
    rintro e w5 ⟨hm,hb5⟩
    have hr5:=(HR3.out.on hb4).on hb5
    have hb45:=hb4.trans (hb5.mono hb4.size)
    have hz5:=ay HW3.out.1 hb45 (ae HW3.out.1)
    have hn5:=ay HW3.out.2.1 hb45 (ae HW3.out.2.1)
    have ha5:=HW3.out.2.2.trans (ag hb45 (fun i=>i=R)) (fun _ _ h=>h)
    have ea:((S.size-t.length:Nat):Int)=(a:Int)+1:=by have:=HSz.out;omega
    have c5:w5.cell? ⟨R,1,none⟩=some (.int .i64 ((a:Int)+1)):=by rw[<-ea];exact hr5.cell 1
    have t5:=hr5.thawed 1
    have hl5:w.1.size+1<w5.1.size:=ae hn5
    have HR5:=tQ hr5
    have HW5:Hid (w5.1[w.1.size]?=some (.cells ar 36 (0,0))∧w5.1[w.1.size+1]?=some (.cells ar 36 (0,0))∧Aside (fun j=>j=R) w w5):=⟨hz5,hn5,ha5⟩
    have HEa:=tQ ea
    clear hb4 hb5 hb45 hz5 hn5 ha5 hr5 HRw HFl HW3 HR3 c2 t2 ea
    cases hrf:rf wd with
    |none=>
     rw[hrf] at hm HXe
     have hm:e=.returned (.tuple #[.float .f64 0,.int .i64 11]):=hm
     have HXe:Hid (X=.error (5,t.length)):=HXe
     subst hm
     have HF:=tQ (aP HR5.out 5 t.length (by decide))
     rw[HEa.out] at HF
     clear hrf
     go_wp2_with fail
     refine HF.out.mono ?_
     rintro e w9 ⟨rfl,hb9,ha9⟩
     have hz9:=(ha9.block _ (ae HW5.out.1) hRN).trans HW5.out.1
     have hn9:=(ha9.block _ (ae HW5.out.2.1) hRT).trans HW5.out.2.1
     have HFin:=tQ (aS (k:=0) (i:=0) (b:=0) (t:=⟨#[]⟩) (p:=none) (n:=0) (c:=0) (X:=.error (5,t.length)) HRl.out hz9 rfl hb9 (HW5.out.2.2.trans ha9 (fun _ _ h=>h)) (fun v l hc=>by cases hc))
     have y0:w9.cell? ⟨w.1.size+1,0,none⟩=some (.int .i64 0):=ab hn9 0
     have y1:w9.cell? ⟨w.1.size+1,1,none⟩=some (.int .i64 0):=ab hn9 1
     have y2:w9.cell? ⟨w.1.size+1,2,none⟩=some (.float .f64 0):=ab hn9 2
     have y3:w9.cell? ⟨w.1.size+1,3,none⟩=some (.string ⟨#[]⟩):=ab hn9 3
     have y4:w9.cell? ⟨w.1.size+1,4,none⟩=some (.slice none 0 0):=ab hn9 4
     have z0:w9.cell? ⟨w.1.size,0,none⟩=some (.int .i64 0):=ab hz9 0
     have zf0:=ac hz9 0
     have z1:w9.cell? ⟨w.1.size,1,none⟩=some (.int .i64 0):=ab hz9 1
     have zf1:=ac hz9 1
     have z2:w9.cell? ⟨w.1.size,2,none⟩=some (.float .f64 0):=ab hz9 2
     have zf2:=ac hz9 2
     have z3:w9.cell? ⟨w.1.size,3,none⟩=some (.string ⟨#[]⟩):=ab hz9 3
     have zf3:=ac hz9 3
     have z4:w9.cell? ⟨w.1.size,4,none⟩=some (.slice none 0 0):=ab hz9 4
     have zf4:=ac hz9 4
     clear hb9 ha9 hz9 hn9 HF c5 t5 HW5 HR5 HSp HWl HS HSz
     go_wp2
     refine bodyPost_ret (v:=.agg (cells5 0 0 0 ⟨#[]⟩ none 0 0)) (results_cell_row rfl _ _ w.1.size _ _ _ _ rfl HFin.out.1 Tryz.underlying36 rfl (by kernel_rfl)) rfl ?_
     rw[HXe.out]
     exact HFin.out.2
    |some b=>
     rw[hrf] at hm HXe
     have hm:e=.returned (.tuple #[.float .f64 b,.int .i64 0]):=hm
     have HXe:Hid (X=.ok (⟨3,0,b,⟨#[]⟩,[]⟩,r0)):=HXe
     subst hm
     have hst:=HR5.out.step wd.length HWl.out ((a:Int)+1+(wd.length:Int)) (by rw[HEa.out])
     rw[show t.drop wd.length=r0 by rw[HSp.out,List.drop_left]] at hst
     obtain⟨hr6,ha6⟩:=hst
     have f5':(a:Int)+1+(wd.length:Int)<=140737488351232:=by have:=HSz.out;have:=HS.out;have:=HWl.out;omega
     have f6':(0:Int)<=(a:Int)+1+(wd.length:Int):=by omega
     have HFin:=tQ (aS (k:=3) (i:=0) (b:=b) (t:=⟨#[]⟩) (p:=none) (n:=0) (c:=0) (X:=.ok (⟨3,0,b,⟨#[]⟩,[]⟩,r0)) HRl.out ((ha6.block _ (by omega) hRN).trans HW5.out.1) rfl hr6 (HW5.out.2.2.trans ha6 (fun _ _ h=>h)) (fun v l hc=>by cases hc;exact⟨fun _=>False,.none,fun _ h=>h.elim⟩))
     have hz5:=HW5.out.1
     have z0:w5.cell? ⟨w.1.size,0,none⟩=some (.int .i64 0):=ab hz5 0
     have zf0:=ac hz5 0
     have z1:w5.cell? ⟨w.1.size,1,none⟩=some (.int .i64 0):=ab hz5 1
     have zf1:=ac hz5 1
     have z2:w5.cell? ⟨w.1.size,2,none⟩=some (.float .f64 0):=ab hz5 2
     have zf2:=ac hz5 2
     have z3:w5.cell? ⟨w.1.size,3,none⟩=some (.string ⟨#[]⟩):=ab hz5 3
     have zf3:=ac hz5 3
     have z4:w5.cell? ⟨w.1.size,4,none⟩=some (.slice none 0 0):=ab hz5 4
     have zf4:=ac hz5 4
     clear hrf hr6 ha6 hz5 HSp HWl HW5 HR5
     go_wp2
     refine bodyPost_ret (v:=.agg (cells5 3 0 b ⟨#[]⟩ none 0 0)) (results_cell_row rfl _ _ w.1.size _ _ _ _ rfl HFin.out.1 Tryz.underlying36 rfl (by kernel_rfl)) rfl ?_
     rw[HXe.out]
     exact HFin.out.2
   have g126:((c.toNat:Int)==126)=false:=HE9.out 126 q3
   have N3:=tQ q3
   clear q3
   by_cases q4:c=34
   ·have g34:((c.toNat:Int)==34)=true:=by rw[q4];rfl
    have HXe:Hid (X=aB (Tx.pq c t) fun x r=>.ok (⟨4,0,0,⟨x.toArray⟩,[]⟩,r)):=by
     show X=_
     rw[HX.out,d9,if_neg N1.out,if_neg N2.out,if_neg N3.out,if_pos q4,q4]
     rfl
    have HQ:=tQ (kl c c t w3 R S HR2.out)
    generalize Tx.pq c t=Y at HXe HQ
    clear HX HVal HRf HF HR2 q4 z0 z1 z2 z3 z4 zf0 zf1 zf2 zf3 zf4 c2 t2
    go_wp2_with fail
    refine HQ.out.mono ?_
    rintro e w9 ⟨T9,rfl,hy9,hT9,ha9⟩
    have hz9:=(ha9.block _ (ae HW.out.1) hRN).trans HW.out.1
    have hyX:aW w9 R S X∧∀v l,X=.ok (v,l)->v=⟨4,0,0,T9,[]⟩:=by
     rw[HXe.out]
     match Y,hy9,hT9 with
     |.error (e,m),h1,_=>exact⟨h1,fun v l hc=>by cases hc⟩
     |.ok (x,r),h1,h2=>exact⟨h1,fun v l hc=>by cases hc;rw[h2 x r rfl]⟩
    have HFin:=tQ (aS (k:=4) (i:=0) (b:=0) (t:=T9) (p:=none) (n:=0) (c:=0) (X:=X) HRl.out hz9 rfl hyX.1 (HW.out.2.2.trans ha9 (fun _ _ h=>h)) (fun v l hc=>by rw[hyX.2 v l hc];exact⟨fun _=>False,.none,fun _ h=>h.elim⟩))
    have z0:w9.cell? ⟨w.1.size,0,none⟩=some (.int .i64 0):=ab hz9 0
    have zf0:=ac hz9 0
    have z1:w9.cell? ⟨w.1.size,1,none⟩=some (.int .i64 0):=ab hz9 1
    have zf1:=ac hz9 1
    have z2:w9.cell? ⟨w.1.size,2,none⟩=some (.float .f64 0):=ab hz9 2
    have zf2:=ac hz9 2
    have z3:w9.cell? ⟨w.1.size,3,none⟩=some (.string ⟨#[]⟩):=ab hz9 3
    have zf3:=ac hz9 3
    have z4:w9.cell? ⟨w.1.size,4,none⟩=some (.slice none 0 0):=ab hz9 4
    have zf4:=ac hz9 4
    clear hyX hy9 hT9 ha9 hz9 HQ HW HXe
    go_wp2
    refine bodyPost_ret (v:=.agg (cells5 4 0 0 T9 none 0 0)) (results_cell_row rfl _ _ w.1.size _ _ _ _ rfl HFin.out.1 Tryz.underlying36 rfl (by kernel_rfl)) rfl ?_
    exact HFin.out.2
   have g34:((c.toNat:Int)==34)=false:=HE9.out 34 q4
   have N4:=tQ q4
   clear q4
   by_cases q5:c=39
   ·have g39:((c.toNat:Int)==39)=true:=by rw[q5];rfl
    have HXe:Hid (X=aB (Tx.pq c t) fun x r=>.ok (⟨5,0,0,⟨x.toArray⟩,[]⟩,r)):=by
     show X=_
     rw[HX.out,d9,if_neg N1.out,if_neg N2.out,if_neg N3.out,if_neg N4.out,if_pos q5,q5]
     rfl
    have HQ:=tQ (kl c c t w3 R S HR2.out)
    generalize Tx.pq c t=Y at HXe HQ
    clear HX HVal HRf HF HR2 q5 z0 z1 z2 z3 z4 zf0 zf1 zf2 zf3 zf4 c2 t2
    go_wp2_with fail
    refine HQ.out.mono ?_
    rintro e w9 ⟨T9,rfl,hy9,hT9,ha9⟩
    have hz9:=(ha9.block _ (ae HW.out.1) hRN).trans HW.out.1
    have hyX:aW w9 R S X∧∀v l,X=.ok (v,l)->v=⟨5,0,0,T9,[]⟩:=by
     rw[HXe.out]
     match Y,hy9,hT9 with
     |.error (e,m),h1,_=>exact⟨h1,fun v l hc=>by cases hc⟩
     |.ok (x,r),h1,h2=>exact⟨h1,fun v l hc=>by cases hc;rw[h2 x r rfl]⟩
    have HFin:=tQ (aS (k:=5) (i:=0) (b:=0) (t:=T9) (p:=none) (n:=0) (c:=0) (X:=X) HRl.out hz9 rfl hyX.1 (HW.out.2.2.trans ha9 (fun _ _ h=>h)) (fun v l hc=>by rw[hyX.2 v l hc];exact⟨fun _=>False,.none,fun _ h=>h.elim⟩))
    have z0:w9.cell? ⟨w.1.size,0,none⟩=some (.int .i64 0):=ab hz9 0
    have zf0:=ac hz9 0
    have z1:w9.cell? ⟨w.1.size,1,none⟩=some (.int .i64 0):=ab hz9 1
    have zf1:=ac hz9 1
    have z2:w9.cell? ⟨w.1.size,2,none⟩=some (.float .f64 0):=ab hz9 2
    have zf2:=ac hz9 2
    have z3:w9.cell? ⟨w.1.size,3,none⟩=some (.string ⟨#[]⟩):=ab hz9 3
    have zf3:=ac hz9 3
    have z4:w9.cell? ⟨w.1.size,4,none⟩=some (.slice none 0 0):=ab hz9 4
    have zf4:=ac hz9 4
    clear hyX hy9 hT9 ha9 hz9 HQ HW HXe
    go_wp2
    refine bodyPost_ret (v:=.agg (cells5 5 0 0 T9 none 0 0)) (results_cell_row rfl _ _ w.1.size _ _ _ _ rfl HFin.out.1 Tryz.underlying36 rfl (by kernel_rfl)) rfl ?_
    exact HFin.out.2
   have g39:((c.toNat:Int)==39)=false:=HE9.out 39 q5
   have N5:=tQ q5
   clear q5
   by_cases q6:c=91
   ·have g91:((c.toNat:Int)==91)=true:=by rw[q6];rfl
    have HXe:Hid (X=if t.head?=some 93 then .ok (⟨7,0,0,⟨#[]⟩,[]⟩,t.tail) else lsq [] (Tx.pits (Tx.pval rf f) (t.length+1) t)):=by
     show X=_
     rw[HX.out,Tx.pval,if_neg N1.out,if_neg N2.out,if_neg N3.out,if_neg N4.out,if_neg N5.out,if_pos q6]
     rfl
    have HCa:=tQ (ns HR2.out f d HD4.out HS.out (fun l x r h=>lO HRf.out f l x r h) HVal.out)
    obtain⟨Y,hY⟩:∃Y,Y=(if t.head?=some 93 then .ok (⟨7,0,0,⟨#[]⟩,[]⟩,t.tail) else lsq [] (Tx.pits (Tx.pval rf f) (t.length+1) t):Tx.R (V×Tx.Bs)):=⟨_,rfl⟩
    rw[<-hY] at HXe HCa
    clear hY HX HVal HRf HF HR2 q6 z0 z1 z2 z3 z4 zf0 zf1 zf2 zf3 zf4 c2 t2
    go_wp2_with fail
    refine HCa.out.mono ?_
    rintro e w9 ⟨k,i,b,t9,p,n,c9,rfl,hrd9,ha9,hown9⟩
    have hz9:=(ha9.block _ (ae HW.out.1) hRN).trans HW.out.1
    have HFin:=tQ (aS (k:=k) (i:=i) (b:=b) (t:=t9) (p:=p) (n:=n) (c:=c9) (X:=Y) HRl.out hz9 rfl hrd9 (HW.out.2.2.trans ha9 (fun _ _ h=>h)) (dD.wide (ae HW.out.2.1) hown9))
    have z0:w9.cell? ⟨w.1.size,0,none⟩=some (.int .i64 0):=ab hz9 0
    have zf0:=ac hz9 0
    have z1:w9.cell? ⟨w.1.size,1,none⟩=some (.int .i64 0):=ab hz9 1
    have zf1:=ac hz9 1
    have z2:w9.cell? ⟨w.1.size,2,none⟩=some (.float .f64 0):=ab hz9 2
    have zf2:=ac hz9 2
    have z3:w9.cell? ⟨w.1.size,3,none⟩=some (.string ⟨#[]⟩):=ab hz9 3
    have zf3:=ac hz9 3
    have z4:w9.cell? ⟨w.1.size,4,none⟩=some (.slice none 0 0):=ab hz9 4
    have zf4:=ac hz9 4
    clear hrd9 ha9 hown9 hz9 HCa HW
    go_wp2
    refine bodyPost_ret (v:=.agg (cells5 k i b t9 p n c9)) (results_cell_row rfl _ _ w.1.size _ _ _ _ rfl HFin.out.1 Tryz.underlying36 rfl (by kernel_rfl)) rfl ?_
    rw[HXe.out]
    exact HFin.out.2
   have g91:((c.toNat:Int)==91)=false:=HE9.out 91 q6
   have HXe:Hid (X=.error (5,(c::t).length)):=by
    show X=_
    rw[HX.out,Tx.pval,if_neg N1.out,if_neg N2.out,if_neg N3.out,if_neg N4.out,if_neg N5.out,if_neg q6]
    rfl
   clear HX HVal HRf HR2 q6 z0 z1 z2 z3 z4 zf0 zf1 zf2 zf3 zf4
   go_wp2_with fail
   refine HF.out.mono ?_
   rintro e w9 ⟨rfl,hb9,ha9⟩
   have hz9:=(ha9.block _ (ae HW.out.1) hRN).trans HW.out.1
   have hn9:=(ha9.block _ (ae HW.out.2.1) hRT).trans HW.out.2.1
   have HFin:=tQ (aS (k:=0) (i:=0) (b:=0) (t:=⟨#[]⟩) (p:=none) (n:=0) (c:=0) (X:=.error (5,(c::t).length)) HRl.out hz9 rfl hb9 (HW.out.2.2.trans ha9 (fun _ _ h=>h)) (fun v l hc=>by cases hc))
   have y0:w9.cell? ⟨w.1.size+1,0,none⟩=some (.int .i64 0):=ab hn9 0
   have y1:w9.cell? ⟨w.1.size+1,1,none⟩=some (.int .i64 0):=ab hn9 1
   have y2:w9.cell? ⟨w.1.size+1,2,none⟩=some (.float .f64 0):=ab hn9 2
   have y3:w9.cell? ⟨w.1.size+1,3,none⟩=some (.string ⟨#[]⟩):=ab hn9 3
   have y4:w9.cell? ⟨w.1.size+1,4,none⟩=some (.slice none 0 0):=ab hn9 4
   have z0:w9.cell? ⟨w.1.size,0,none⟩=some (.int .i64 0):=ab hz9 0
   have zf0:=ac hz9 0
   have z1:w9.cell? ⟨w.1.size,1,none⟩=some (.int .i64 0):=ab hz9 1
   have zf1:=ac hz9 1
   have z2:w9.cell? ⟨w.1.size,2,none⟩=some (.float .f64 0):=ab hz9 2
   have zf2:=ac hz9 2
   have z3:w9.cell? ⟨w.1.size,3,none⟩=some (.string ⟨#[]⟩):=ab hz9 3
   have zf3:=ac hz9 3
   have z4:w9.cell? ⟨w.1.size,4,none⟩=some (.slice none 0 0):=ab hz9 4
   have zf4:=ac hz9 4
   clear hb9 ha9 hz9 hn9 HF c2 t2 HW HS HSz
   go_wp2
   refine bodyPost_ret (v:=.agg (cells5 0 0 0 ⟨#[]⟩ none 0 0)) (results_cell_row rfl _ _ w.1.size _ _ _ _ rfl HFin.out.1 Tryz.underlying36 rfl (by kernel_rfl)) rfl ?_
   rw[HXe.out]
   exact HFin.out.2
end
section
open Go.RowKit
attribute [local go_sem] ah
end
section
open Go.RowKit
attribute [local go_sem] ah
theorem qC{α:Type}(p:Tx.Bs->Tx.R (α×Tx.Bs))(m:Nat)(l:Tx.Bs):Tx.pseq p (m+1) l=aB (p l) fun x r=>if r.head?=some 44 then az (Tx.must [44,32] r) fun r=>aB (Tx.pseq p m r) fun xs r=>.ok (x::xs,r) else .ok ([x],r):=by
 rw[Tx.pseq]
 cases p l with
 |error e=>rfl
 |ok y=>
  obtain⟨x,r⟩:=y
  show _=if r.head?=some 44 then _ else _
  by_cases h:r.head?=some 44
  ·simp only[h,if_true]
   generalize Tx.must [44,32] r=G
   cases G with
   |error e=>rfl
   |ok r=>
    show(match Tx.pseq p m r with
     |.error e=>.error e
     |.ok (xs,r)=>.ok (x::xs,r))=aB (Tx.pseq p m r) _
    generalize Tx.pseq p m r=H
    cases H with
    |error e=>rfl
    |ok y=>rfl
  ·simp only[h,if_false]
def gJ{α:Type}(ys:List α)(y:Tx.R (List α×Tx.Bs)):Tx.R (List α×Tx.Bs):=aB y fun xs r=>.ok (ys++xs,r)
theorem je{α:Type}(ys:List α)(x:α)(y:Tx.R (List α×Tx.Bs)):gJ (ys++[x]) y=gJ ys (aB y fun xs r=>.ok (x::xs,r)):=by
 match y with
 |.error e=>rfl
 |.ok (xs,r)=>
  show Except.ok (ys++[x]++xs,r)=Except.ok (ys++x::xs,r)
  simp
theorem pz{α:Type}(y:Tx.R (List α×Tx.Bs)):gJ [] y=y:=by
 match y with
 |.error e=>rfl
 |.ok (xs,r)=>rfl
def qf(T:Except (Nat×Nat) (List V))(w:World)(e:Ending)(w':World):Prop:=∃q c,e=.returned (.tuple #[.agg #[.slice q (aY [] T).length c],.int .i64 (ei T:Nat),.int .i64 (ik T:Nat)])∧bv w' q (aY [] T)∧(aY [] T).length*64<=140737488351232∧Below w.1.size w w'
theorem qf.of{T:Except (Nat×Nat) (List V)}{w w':World}{q:OA}{n c:Nat}(hn:(aY [] T).length=n)(hi:bv w' q (aY [] T))(hl:n*64<=140737488351232)(hb:Below w.1.size w w'):qf T w (.returned (.tuple #[.agg #[.slice q n c],.int .i64 (ei T:Nat),.int .i64 (ik T:Nat)])) w':=by
 subst hn
 exact⟨q,c,rfl,hi,hl,hb⟩
structure om(w wr:World)(q:OA)(n c:Nat):Prop where
 z:wr.1[w.1.size]?=some (.cells #[.slice none 0 0] 44 (0,0))
 t:wr.1[w.1.size+2]?=some (.cells #[.slice q n c] 44 (0,0))
 b:Below w.1.size w wr
theorem om.step{w wr wx:World}{q:OA}{n c:Nat}(h:om w wr q n c)(ha:Aside (fun j=>j=w.1.size+1) wr wx):om w wx q n c :=
 ⟨(ha.block _ (ae h.z) (by omega)).trans h.z,(ha.block _ (ae h.t) (by omega)).trans h.t,h.b.trans (ha.below h.b.size (fun k hk he=>by omega))⟩
theorem om.on{w wr wx:World}{q:OA}{n c:Nat}(h:om w wr q n c)(hb:Below wr.1.size wr wx):om w wx q n c:=h.step (ag hb _)
end
section
open Go.RowKit
attribute [local go_sem] ah
def bm(T:Except (Nat×Nat) (List Col))(w:World)(e:Ending)(w':World):Prop:=∃q c,e=.returned (.tuple #[.agg #[.slice q (aY [] T).length c],.int .i64 (ei T:Nat),.int .i64 (ik T:Nat)])∧bA w' q (aY [] T)∧(aY [] T).length*120<=140737488351232∧Below w.1.size w w'
theorem bm.of{T:Except (Nat×Nat) (List Col)}{w w':World}{q:OA}{n c:Nat}(hn:(aY [] T).length=n)(hi:bA w' q (aY [] T))(hl:n*120<=140737488351232)(hb:Below w.1.size w w'):bm T w (.returned (.tuple #[.agg #[.slice q n c],.int .i64 (ei T:Nat),.int .i64 (ik T:Nat)])) w':=by
 subst hn
 exact⟨q,c,rfl,hi,hl,hb⟩
theorem bV{w:World}{B:Nat}{q:OA}{n c:Nat}{us:Nat->AV}{Fs:Nat->Nat->Prop}{xs:List Col}(h:aC w B (.slice q n c) n us Fs xs)(hl:n*120<=140737488351232):bA w q xs:=by
 obtain⟨p2,c2,hv2,-,hc⟩:=h.cols hl
 injection hv2 with h1 h2 h3
 rw[h1]
 exact hc
structure ff(w wr:World)(q:OA)(n c:Nat):Prop where
 z:wr.1[w.1.size]?=some (.cells #[.slice none 0 0] 25 (0,0))
 t:wr.1[w.1.size+2]?=some (.cells #[.slice q n c] 25 (0,0))
 b:Below w.1.size w wr
theorem ff.step{w wr wx:World}{q:OA}{n c:Nat}(h:ff w wr q n c)(ha:Aside (fun j=>j=w.1.size+1) wr wx):ff w wx q n c :=
 ⟨(ha.block _ (ae h.z) (by omega)).trans h.z,(ha.block _ (ae h.t) (by omega)).trans h.t,h.b.trans (ha.below h.b.size (fun k hk he=>by omega))⟩
theorem ff.on{w wr wx:World}{q:OA}{n c:Nat}(h:ff w wr q n c)(hb:Below wr.1.size wr wx):ff w wx q n c:=h.step (ag hb _)
theorem nG(rf:Tx.Bs->Option Nat)(l wd r0:Tx.Bs)(hwd:wd=l.takeWhile Sch.ch)(hr:r0=l.dropWhile Sch.ch):Tx.pcol rf l=if wd=[] then .error (5,l.length) else az (Tx.must [32] r0) fun r=>aB (Tx.pty 4 r) fun t r=>if r.head?=some 32 then az (Tx.must [32,61,32] r) fun r=>aB (Tx.pval rf 4 r) fun v r=>.ok (⟨⟨wd.toArray⟩,t,true,v⟩,r) else .ok (⟨⟨wd.toArray⟩,t,false,V0⟩,r):=mA rf l wd r0 hwd hr
theorem iY(nm:ByteArray)(k:Int)(tp:OA)(tn tc:Nat)(hs:Bool)(vk vi:Int)(vb:Nat)(vt:ByteArray)(vp:OA)(vn vc:Nat):∀a∈(#[.string nm,.int .i64 k,.slice tp tn tc,.bool hs,.int .i64 vk,.int .i64 vi,.float .f64 vb,.string vt,.slice vp vn vc]:AV).toList,a.oneCell'=true:=by
 intro a ha
 simp at ha
 rcases ha with rfl | rfl | rfl | rfl | rfl | rfl | rfl | rfl | rfl <;> rfl
theorem i8{w wr w3:World}{q:OA}{c:Nat}{ys:List Col}{us:Nat->AV}{Fs:Nat->Nat->Prop}{u:AV}(h:ff w wr q ys.length c)(hbt:aC wr (w.1.size+3) (.slice q ys.length c) ys.length us Fs ys)(ha:Aside (fun j=>j=w.1.size+1) wr w3):
  (w3.alloc (.cells u 38)).ownsRow (w.1.size+3) 38 9 (.slice q ys.length c) ys.length (flat us ys.length)∧w3.1[w.1.size+2]?=some (.cells #[.slice q ys.length c] 25 (0,0)) ∧
  ∀g cap w6,w6.ownsRow (w.1.size+3) 38 9 (.slice (some ⟨g,0,none⟩) (ys.length+1) cap) (ys.length+1) (flat us ys.length++u.toList)->(w3.alloc (.cells u 38)).grownBy w6 (Value.ownBlock (.slice q ys.length c))->(Value.ownBlock (.slice q ys.length c)=some g∨g=w3.1.size+1) ->
   w6.1[w.1.size+2]?=some (.cells #[.slice q ys.length c] 25 (0,0))∧(∀(S:ByteArray) (x:Tx.R (Col×Tx.Bs)),aW w3 (w.1.size+1) S x->aW w6 (w.1.size+1) S x∧aW (w6.setCell ⟨w.1.size+2,0,none⟩ (.slice (some ⟨g,0,none⟩) (ys.length+1) cap)) (w.1.size+1) S x) ∧
   ff w (w6.setCell ⟨w.1.size+2,0,none⟩ (.slice (some ⟨g,0,none⟩) (ys.length+1) cap)) (some ⟨g,0,none⟩) (ys.length+1) cap ∧
   ∀x,bB w3 (fun k=>wr.1.size<=k∧k<w3.1.size) u x->∃us' Fs',aC (w6.setCell ⟨w.1.size+2,0,none⟩ (.slice (some ⟨g,0,none⟩) (ys.length+1) cap)) (w.1.size+3) (.slice (some ⟨g,0,none⟩) (ys.length+1) cap) (ys.length+1) us' Fs' (ys++[x]):=by
 have hT:=ae h.t
 have hs3:=ha.size
 have hb5:Below w3.1.size w3 (w3.alloc (.cells u 38)):=tY
 obtain⟨wx,hx1,hx2,hx3⟩:=ha.split (by omega)
 have hlt:=hbt.lt
 have hbx:aC wx (w.1.size+3) (.slice q ys.length c) ys.length us Fs ys:=hbt.aside hx1 (fun g hg he=>by have:=(hlt g hg).1;omega) (fun j hj k hk he=>by have:=(hbt.range j hj k hk).1;omega)
 refine⟨((hbx.on hx3).on hb5).row,(ha.block _ hT (by omega)).trans h.t,fun g cap w6 hr hg hn=>?_⟩
 have hag:Aside (fun k=>Value.ownBlock (.slice q ys.length c)=some k) w3 w6:=(ag hb5 _).trans (bR hg) (fun _ _ h=>h)
 have hs6:=hag.size
 have a7:Aside (fun k=>k=w.1.size+2) w6 (w6.setCell ⟨w.1.size+2,0,none⟩ (.slice (some ⟨g,0,none⟩) (ys.length+1) cap)):=(Aside.refl (fun k=>k=w.1.size+2) w6).setCell (p:=⟨w.1.size+2,0,none⟩) (.inl rfl) _
 have keep:∀k,k<w.1.size+3->k≠w.1.size+1->w6.1[k]?=wr.1[k]?:=fun k hk hne=>by
  rw[hag.block k (by omega) (fun hc=>by have:=(hlt k hc).1;omega),ha.block k (by omega) hne]
 have ht6:w6.1[w.1.size+2]?=some (.cells #[.slice q ys.length c] 25 (0,0)):=(keep _ (by omega) (by omega)).trans h.t
 have hz6:=(keep w.1.size (by omega) (by omega)).trans h.z
 have hw6:Below w.1.size w w6:=(h.b.trans (ha.below h.b.size (fun k hk he=>by omega))).trans (hag.below (by have:=h.b.size;omega) (fun k hk hc=>by have:=(hlt k hc).1;omega))
 refine⟨ht6,fun S x hx=>?_,⟨(a7.block _ (by omega) (by omega)).trans hz6,by rw[ai ht6 0];rfl,hw6.trans (a7.below (by omega) (fun k hk he=>by omega))⟩,fun x hx=>?_⟩
 ·have h6:=hx.aside hag (fun hc=>by have:=(hlt _ hc).1;omega)
  exact⟨h6,h6.aside a7 (by omega)⟩
 ·have hst:=hbx.step hx3 hx (fun k hk=>⟨by rw[hx2];exact hk.1,hk.2⟩) hb5 (by rw[hx2];omega) hr hg (by
   rcases hn with hn | hn
   ·exact .inl hn
   ·exact .inr (by rw[hn];simp))
  exact⟨_,_,hst.set ⟨w.1.size+2,0,none⟩ _ (by show w.1.size+2<_;omega)⟩
theorem fl{rf:Tx.Bs->Option Nat}(hRf:bP rf)(S:ByteArray)(hS:S.size<=1099511627776)(w:World):Calls Tryz.prog 8 #[.string S] w (bm (aA S (Tx.pseq (Tx.pcol rf) (S.data.toList.length+1) S.data.toList) Sch.err) w):=by
 obtain⟨W0,hW0⟩:∃W,W=w.alloc (.cells #[.slice none 0 0] 25):=⟨_,rfl⟩
 obtain⟨W1,hW1⟩:∃W,W=W0.alloc (.cells #[.string S,.int .i64 0,.int .i64 0,.int .i64 0] 61):=⟨_,rfl⟩
 obtain⟨W2,hW2⟩:∃W,W=W1.alloc (.cells #[.slice none 0 0] 25):=⟨_,rfl⟩
 have hs0:W0.1.size=w.1.size+1:=by rw[hW0];simp
 have hs1:W1.1.size=w.1.size+2:=by rw[hW1];simp[hs0]
 have hR1:an W1 (w.1.size+1) S S.data.toList:=by rw[hW1,<-hs0];exact an.made (by omega)
 have hb0:Below w.1.size w W0:=by rw[hW0];exact tY
 have hb2:Below w.1.size w W2:=by rw[hW2,hW1];exact(hb0.alloc (by omega) _).alloc (by simp;omega) _
 have hb12:Below W1.1.size W1 W2:=by rw[hW2];exact tY
 have hR2:=hR1.on hb12
 have hz2:W2.1[w.1.size]?=some (.cells #[.slice none 0 0] 25 (0,0)):=by rw[hW2,ao W1 _ (by omega),hW1,ao W0 _ (by omega),hW0];exact aj w _
 have ht2:W2.1[w.1.size+2]?=some (.cells #[.slice none 0 0] 25 (0,0)):=by rw[hW2,<-hs1];exact aj W1 _
 have HR2:=tQ hR2
 have HL2:Hid (ff w W2 none 0 0):=⟨hz2,ht2,hb2⟩
 have HW:Hid (W2=((w.alloc (.cells #[.slice none 0 0] 25)).alloc (.cells #[.string S,.int .i64 0,.int .i64 0,.int .i64 0] 61)).alloc (.cells #[.slice none 0 0] 25)):=by show _=_;rw[hW2,hW1,hW0]
 obtain⟨Y,hY⟩:∃Y,Y=Tx.pseq (Tx.pcol rf) (S.data.toList.length+1) S.data.toList:=⟨_,rfl⟩
 obtain⟨T,hT⟩:∃T,T=aA S Y Sch.err:=⟨_,rfl⟩
 rw[<-hY,<-hT]
 rw[oI] at hT
 have HT:=tQ hT
 have HY:=tQ hY
 have HS:=tQ hS
 have HP:Hid (∀l x r,Tx.pcol rf l=.ok (x,r)->r.length<=l.length):=fun l x r h=>lQ hRf l x r h
 have HRf:=tQ hRf
 have HVa:Hid (∀w' l',an w' (w.1.size+1) S l'->Calls Tryz.prog 28 #[.pointer (some ⟨w.1.size+1,0,none⟩),.int .i64 1] w' (dD w' (w.1.size+1) S (Tx.pval rf 4 l'))):=fun w' l' h'=>lG hRf 4 1 l' (w.1.size+1) S w' (by omega) hS h'
 clear hT hY hS hRf hW0 hW1 hW2 hs0 hs1 hR1 hb0 hb2 hb12 hR2 hz2 ht2
 have hRT:¬w.1.size+2=w.1.size+1:=by omega
 have hRT2:¬w.1.size+1=w.1.size+2:=by omega
 have hTN:¬w.1.size+2=w.1.size:=by omega
 have hTN2:¬w.1.size=w.1.size+2:=by omega
 have hRN:¬w.1.size+1=w.1.size:=by omega
 have hRN2:¬w.1.size=w.1.size+1:=by omega
 go_enter Tryz.func8,Tryz.ntmps8
 go_wp2_with fail
 rw[<-HW.out]
 go_loopw [] (fun wr=>∃(q:OA) (n c:Nat),Hid (ff w wr q n c)∧(Hid (∃(ys:List Col) (l:Tx.Bs) (m:Nat),n=ys.length∧(∃us Fs,aC wr (w.1.size+3) (.slice q n c) n us Fs ys)∧an wr (w.1.size+1) S l∧l.length<m∧ys.length+l.length<=S.size∧Y=gJ ys (Tx.pseq (Tx.pcol rf) m l))∨Hid (∃e k,ap wr (w.1.size+1) S e k∧Y=.error (e,k)))) (fun wr=>cP wr (w.1.size+1) S)
 case atStart=>exact⟨none,0,0,HL2,.inl ⟨[],S.data.toList,S.data.toList.length+1,rfl,⟨_,_,gW W2 _⟩,HR2.out,by omega,by simp,by rw[HY.out,pz]⟩⟩
 case round=>
  obtain⟨q,n,c,HL,hgb⟩:=hrel
  rcases hgb with HG | HB
  case inr=>
   obtain⟨ek,en,hb,hx⟩:=HB.out
   have c2:=hb.cell2
   have g0:=hb.bad
   have g2:((ek:Int)==0)=false:=by rw[beq_eq_false_iff_ne];omega
   have g3:(ek==0)=false:=by rw[beq_eq_false_iff_ne];exact g0
   have HBd:=tQ hb
   have HYe:=tQ hx
   have hy:aW wr (w.1.size+1) S Y:=by rw[HYe.out];exact HBd.out
   have HEnd:=tQ (bp Y hy)
   have HT2:Hid (T=.error (ek,S.size-en)):=by show _=_;rw[HT.out,HYe.out];rfl
   rw[HYe.out] at HEnd
   have HL0:=HL
   clear hy
   clear HB hb hx g0 HP HVa HL2 HR2 HY HW
   go_wp2_with fail
   refine HEnd.out.mono ?_
   rintro e w4 ⟨rfl,hf,ha4⟩
   have hf:ap w4 (w.1.size+1) S ek en:=hf
   have hL4:=HL0.out.step ha4
   obtain⟨aa,-,hl⟩:=hf.lies
   have c2:w4.cell? ⟨w.1.size+1,2,none⟩=some (.int .i64 (ek:Int)):=ab hl 2
   have c3:w4.cell? ⟨w.1.size+1,3,none⟩=some (.int .i64 ((S.size-en:Nat):Int)):=ab hl 3
   have g1:((ek:Int) != 0)=true:=by have:=hf.bad;rw[bne_iff_ne];omega
   have g2:((ek:Int)==0)=false:=by have:=hf.bad;rw[beq_eq_false_iff_ne];omega
   have m0:w4.cell? ⟨w.1.size,0,none⟩=some (.slice none 0 0):=ab hL4.z 0
   have mf0:=ac hL4.z 0
   obtain⟨sp,hsp⟩:∃sp:Nat,sp=S.size-en:=⟨_,rfl⟩
   rw[<-hsp] at c3
   have HT3:Hid (T=.error (ek,sp)):=by show _=_;rw[HT2.out,hsp]
   obtain⟨X,hX⟩:∃X,X=w4.setCell ⟨w.1.size,0,none⟩ (.slice none 0 0):=⟨_,rfl⟩
   have HX:Hid (X.drew.1[w.1.size]?=some (.cells #[.slice none 0 0] 25 (0,0))∧Below w.1.size w X.drew):=by
    refine⟨?_,?_⟩
    ·show X.1[w.1.size]?=_
     rw[hX,ai hL4.z 0];rfl
    ·rw[hX];exact(hL4.b.setCell tX _).drew
   have HXe2:=tQ hX
   clear hf hl hsp hL4 ha4 hX HT HT2 HEnd
   go_wp2_with fail
   go_region_held3 (fun w'=>w'.cell? ⟨w.1.size+1,2,none⟩=some (.int .i64 (ek:Int))∧w'.cell? ⟨w.1.size+1,3,none⟩=some (.int .i64 (sp:Int))) (go_keep) (fail)
   go_wp2
   rw[<-HXe2.out]
   refine bodyPost_ret (au rfl _ _ w.1.size _ _ _ _ rfl HX.out.1 Tryz.underlying25 rfl (by kernel_rfl)) rfl ?_
   rw[HT3.out]
   exact bm.of rfl (fun j hj=>by simp[aY] at hj) (by omega) HX.out.2
  obtain⟨ys,l,m,hn,⟨us,Fs,hbt⟩,hrd,hlm,hyl,hx⟩:=HG.out
  subst hn
  have c2:wr.cell? ⟨w.1.size+1,2,none⟩=some (.int .i64 0):=hrd.cell 2
  obtain⟨m,rfl⟩:∃m',m=m'+1:=⟨m-1,by omega⟩
  have HMs:Hid (cP wr (w.1.size+1) S=l.length+1):=hrd.msr
  obtain⟨wd,hwd⟩:∃wd,wd=l.takeWhile Sch.ch:=⟨_,rfl⟩
  obtain⟨r0,hr0⟩:∃r,r=l.dropWhile Sch.ch:=⟨_,rfl⟩
  have hsp:l=wd++r0:=by rw[hwd,hr0];exact(List.takeWhile_append_dropWhile).symm
  obtain⟨Q,hQ⟩:∃Q,Q=Tx.pcol rf l:=⟨_,rfl⟩
  have HY2:Hid (Y=gJ ys (aB Q fun x r=>if r.head?=some 44 then az (Tx.must [44,32] r) fun r=>aB (Tx.pseq (Tx.pcol rf) m r) fun xs r=>.ok (x::xs,r) else .ok ([x],r))):=by show Y=_;rw[hx,qC,<-hQ]
  have HQl:Hid (∀x r,Q=.ok (x,r)->r.length<=l.length):=fun x r hc=>HP.out l x r (hQ.symm.trans hc)
  have HX2:Hid (Q=if wd=[] then .error (5,l.length) else az (Tx.must [32] r0) fun r=>aB (Tx.pty 4 r) fun t r=>if r.head?=some 32 then az (Tx.must [32,61,32] r) fun r=>aB (Tx.pval rf 4 r) fun v r=>.ok (⟨⟨wd.toArray⟩,t,true,v⟩,r) else .ok (⟨⟨wd.toArray⟩,t,false,V0⟩,r)):=by show Q=_;rw[hQ,nG rf l wd r0 hwd hr0]
  have HRw:=tQ (dJ hrd 3 (by omega))
  rw[show cH 3=Sch.ch from rfl,<-hwd] at HRw
  have HBt:=tQ hbt
  have HLm:=tQ hlm
  have HYl:=tQ hyl
  have HRd:=tQ hrd
  have HSp:=tQ hsp
  have hle:=hrd.le
  obtain⟨a,ha⟩:∃a,a=S.size-l.length:=⟨_,rfl⟩
  have HAe:=tQ ha
  have HLe:=tQ hle
  have e9:(ByteArray.mk wd.toArray).toList=wd:=by rw[ByteArray.toList_eq]
  have e8:(ByteArray.mk wd.toArray).size=wd.length:=by show wd.toArray.size=_;simp
  clear HG hrd hx hbt hlm hyl hwd hr0 hsp hle ha HL2 HR2 HW hQ
  go_wp2_with fail
  refine HRw.out.mono ?_
  rintro e w3 ⟨rfl,hb3⟩
  obtain⟨W4,hW4⟩:∃W,W=w3.alloc (.cells #[.string ⟨wd.toArray⟩,.int .i64 0,.slice none 0 0,.bool false,.int .i64 0,.int .i64 0,.float .f64 0,.string ⟨#[]⟩,.slice none 0 0] 38):=⟨_,rfl⟩
  have hb34:Below w3.1.size w3 W4:=by rw[hW4];exact tY
  have hb4:Below wr.1.size wr W4:=hb3.trans (hb34.mono hb3.size)
  have hk4:W4.1[w3.1.size]?=some (.cells #[.string ⟨wd.toArray⟩,.int .i64 0,.slice none 0 0,.bool false,.int .i64 0,.int .i64 0,.float .f64 0,.string ⟨#[]⟩,.slice none 0 0] 38 (0,0)):=by rw[hW4];exact aj w3 _
  have hR4:=HRd.out.on hb4
  have hL4:=HL.out.on hb4
  have hbt4:=HBt.out.on hb4
  have hl3:w.1.size+2<w3.1.size:=Nat.lt_of_lt_of_le (ae HL.out.t) hb3.size
  have c1:W4.cell? ⟨w.1.size+1,1,none⟩=some (.int .i64 (a:Int)):=by rw[HAe.out];exact hR4.cell 1
  have t1:=hR4.thawed 1
  have k0:W4.cell? ⟨w3.1.size,0,none⟩=some (.string ⟨wd.toArray⟩):=ab hk4 0
  have HW4:=tQ hW4
  have HK4:=tQ hk4
  have HR4:=tQ hR4
  have HL4:=tQ hL4
  have HBt4:=tQ hbt4
  have HL3:=tQ hl3
  have hcN:¬w3.1.size=w.1.size+1:=by omega
  have hcN2:¬w.1.size+1=w3.1.size:=by omega
  rw[hW4] at k0 c1
  have HA4:=tQ (ag hb4 (fun i=>i=w.1.size+1))
  have HC1:Hid (W4.cell? ⟨w.1.size+1,1,none⟩=some (.int .i64 (a:Int))∧W4.cell? ⟨w3.1.size,0,none⟩=some (.string ⟨wd.toArray⟩)):=by show _∧_;rw[hW4];exact⟨c1,k0⟩
  have HW34:Hid (wr.1.size<=w3.1.size):=hb3.size
  clear hb3 hb34 hb4 hW4 hk4 hR4 hL4 hbt4 hl3 HRw HRd c2
  by_cases h0:wd=[]
  ·have e1:=str_eq h0
   have HYe:Hid (Y=.error (5,l.length)):=by show Y=_;rw[HY2.out,HX2.out,if_pos h0];rfl
   have HF:=tQ (aP HR4.out 5 l.length (by decide))
   rw[<-HAe.out] at HF
   obtain⟨ek,hek⟩:∃ek:Nat,ek=5:=⟨_,rfl⟩
   obtain⟨en,hen⟩:∃en,en=l.length:=⟨_,rfl⟩
   rw[<-hek,<-hen] at HYe
   have HFx:Hid (∀w',ap w' (w.1.size+1) S 5 l.length->ap w' (w.1.size+1) S ek en):=fun w' h=>by rw[hek,hen];exact h
   clear HX2 HY2 HQl h0 hek hen HP HVa HSp HMs HLm HYl
   go_wp2_with fail
   rw[<-HW4.out]
   refine HF.out.mono ?_
   rintro e w5 ⟨rfl,hb5,ha5⟩
   have HL5:=tQ (HL4.out.step ha5)
   have HBd:=tQ (HFx.out _ hb5)
   clear hb5 ha5 HF HFx HL4 HR4 HK4 HBt4 HW4 c1 t1 k0
   have hy:aW w5 (w.1.size+1) S Y:=by rw[HYe.out];exact HBd.out
   have HEnd:=tQ (bp Y hy)
   have HT2:Hid (T=.error (ek,S.size-en)):=by show _=_;rw[HT.out,HYe.out];rfl
   rw[HYe.out] at HEnd
   have HL0:=HL5
   clear hy
   go_wp2_with fail
   refine HEnd.out.mono ?_
   rintro e w4 ⟨rfl,hf,ha4⟩
   have hf:ap w4 (w.1.size+1) S ek en:=hf
   have hL4:=HL0.out.step ha4
   obtain⟨aa,-,hl⟩:=hf.lies
   have c2:w4.cell? ⟨w.1.size+1,2,none⟩=some (.int .i64 (ek:Int)):=ab hl 2
   have c3:w4.cell? ⟨w.1.size+1,3,none⟩=some (.int .i64 ((S.size-en:Nat):Int)):=ab hl 3
   have g1:((ek:Int) != 0)=true:=by have:=hf.bad;rw[bne_iff_ne];omega
   have g2:((ek:Int)==0)=false:=by have:=hf.bad;rw[beq_eq_false_iff_ne];omega
   have m0:w4.cell? ⟨w.1.size,0,none⟩=some (.slice none 0 0):=ab hL4.z 0
   have mf0:=ac hL4.z 0
   obtain⟨sp,hsp⟩:∃sp:Nat,sp=S.size-en:=⟨_,rfl⟩
   rw[<-hsp] at c3
   have HT3:Hid (T=.error (ek,sp)):=by show _=_;rw[HT2.out,hsp]
   obtain⟨X,hX⟩:∃X,X=w4.setCell ⟨w.1.size,0,none⟩ (.slice none 0 0):=⟨_,rfl⟩
   have HX:Hid (X.drew.1[w.1.size]?=some (.cells #[.slice none 0 0] 25 (0,0))∧Below w.1.size w X.drew):=by
    refine⟨?_,?_⟩
    ·show X.1[w.1.size]?=_
     rw[hX,ai hL4.z 0];rfl
    ·rw[hX];exact(hL4.b.setCell tX _).drew
   have HXe2:=tQ hX
   clear hf hl hsp hL4 ha4 hX HT HT2 HEnd
   go_wp2_with fail
   go_region_held3 (fun w'=>w'.cell? ⟨w.1.size+1,2,none⟩=some (.int .i64 (ek:Int))∧w'.cell? ⟨w.1.size+1,3,none⟩=some (.int .i64 (sp:Int))) (go_keep) (fail)
   go_wp2
   rw[<-HXe2.out]
   refine bodyPost_ret (au rfl _ _ w.1.size _ _ _ _ rfl HX.out.1 Tryz.underlying25 rfl (by kernel_rfl)) rfl ?_
   rw[HT3.out]
   exact bm.of rfl (fun j hj=>by simp[aY] at hj) (by omega) HX.out.2
  have e1:=cz h0
  have N0:=tQ h0
  clear h0
  go_wp2_with fail
  rw[<-HW4.out]
  have z1:∀z:Ext W4,z.val.cell? ⟨w.1.size+1,1,none⟩=some (.int .i64 (a:Int)):=fun z=>af z.2 HC1.out.1
  have z2:∀z:Ext W4,z.val.cell? ⟨w3.1.size,0,none⟩=some (.string ⟨wd.toArray⟩):=fun z=>af z.2 HC1.out.2
  have d1:W4.drew.cell? ⟨w.1.size+1,1,none⟩=some (.int .i64 (a:Int)):=HC1.out.1
  have dt1:W4.drew.frozen? ⟨w.1.size+1,1,none⟩=false:=HR4.out.thawed 1
  have f5:(a:Int)+(wd.length:Int)<=140737488351232:=by have h1:=HSp.out;have h2:=congrArg List.length h1;rw[List.length_append] at h2;have:=HAe.out;have:=HLe.out;have:=HS.out;omega
  have f6:(0:Int)<=(a:Int)+(wd.length:Int):=by omega
  have ewr:IntKind.i64.wrap ((a:Int)+(wd.length:Int))=(a:Int)+(wd.length:Int):=by rw[IntKind.wrap_i64];omega
  refine gg (u:=W4) 10 0 (by kernel_rfl) (by kernel_rfl) rfl (fun c d v a w h=>by cases d <;> exact h) ?_
  simp only[List.take_succ_cons,List.take_zero,List.drop_succ_cons,List.drop_zero]
  iterate 10
   refine qn ?_
   apply Exists.intro
   refine⟨fun z=>?_,?_⟩
   ·go_simp
    try with_reducible rfl
   try simp only[Act.put,List.setIfInBounds_toArray,List.set_cons_zero,List.set_cons_succ]
  refine ot ?_
  refine oq (fun K hK=>?_)
  go_simp
  refine hK _ _ ?_
  clear hK K
  try simp only[Act.put,List.setIfInBounds_toArray,List.set_cons_zero,List.set_cons_succ]
  obtain⟨hr5,ha5⟩:=(HR4.out.drewN 1).step wd.length (by have h1:=HSp.out;have h2:=congrArg List.length h1;rw[List.length_append] at h2;omega) ((a:Int)+(wd.length:Int)) (by rw[HAe.out])
  rw[show l.drop wd.length=r0 by rw[HSp.out,List.drop_left]] at hr5
  obtain⟨W5,hW5⟩:∃W5,W5=(W4.setCell ⟨w.1.size+1,1,none⟩ (.int .i64 ((a:Int)+(wd.length:Int)))).drew:=⟨_,rfl⟩
  have hr5:an W5 (w.1.size+1) S r0:=by rw[hW5];exact hr5
  have ha5:Aside (fun i=>i=w.1.size+1) W4 W5:=by rw[hW5];exact(am _ W4 1).trans ha5 (fun _ _ h=>h)
  have HA5:=tQ (HA4.out.trans ha5 (fun _ _ h=>h))
  have HK5:Hid (W5.1[w3.1.size]?=some (.cells #[.string ⟨wd.toArray⟩,.int .i64 0,.slice none 0 0,.bool false,.int .i64 0,.int .i64 0,.float .f64 0,.string ⟨#[]⟩,.slice none 0 0] 38 (0,0))):=(ha5.block _ (ae HK4.out) hcN).trans HK4.out
  have HM:=tQ (bb hr5 ⟨#[32]⟩ (by decide))
  rw[show(ByteArray.mk #[32]).data.toList=[32] from rfl] at HM
  rw[<-hW5]
  have HX3:Hid (Q=az (Tx.must [32] r0) fun r=>aB (Tx.pty 4 r) fun t r=>if r.head?=some 32 then az (Tx.must [32,61,32] r) fun r=>aB (Tx.pval rf 4 r) fun v r=>.ok (⟨⟨wd.toArray⟩,t,true,v⟩,r) else .ok (⟨⟨wd.toArray⟩,t,false,V0⟩,r)):=by show Q=_;rw[HX2.out,if_neg N0.out]
  obtain⟨G,hG⟩:∃G,G=Tx.must [32] r0:=⟨_,rfl⟩
  rw[<-hG] at HM HX3
  clear hW5 hr5 ha5 z1 z2 d1 dt1 HX2 HC1 HR4 HK4 HL4 HBt4 HW4 hG c1 t1 k0 HA4
  go_wp2_with fail
  refine HM.out.mono ?_
  rintro e w6 ⟨rfl,hq,ha6⟩
  have HA6:=tQ (HA5.out.trans ha6 (fun _ _ h=>h))
  have HK6:Hid (w6.1[w3.1.size]?=some (.cells #[.string ⟨wd.toArray⟩,.int .i64 0,.slice none 0 0,.bool false,.int .i64 0,.int .i64 0,.float .f64 0,.string ⟨#[]⟩,.slice none 0 0] 38 (0,0))):=(ha6.block _ (ae HK5.out) hcN).trans HK5.out
  clear ha6 HM HA5 HK5
  cases G with
  |error er=>
   obtain⟨ek,en⟩:=er
   have HBd:Hid (ap w6 (w.1.size+1) S ek en):=hq
   have HYe:Hid (Y=.error (ek,en)):=by show Y=_;rw[HY2.out,HX3.out];rfl
   have HAx:=HA6
   have hk:=HK6.out
   have c6:=HBd.out.cell2
   have g0':=HBd.out.bad
   have g4:((ek:Int)==0)=false:=by rw[beq_eq_false_iff_ne];omega
   have g5:(ek==0)=false:=by rw[beq_eq_false_iff_ne];exact g0'
   have k0:w6.cell? ⟨w3.1.size,0,none⟩=some (.string ⟨wd.toArray⟩):=ab hk 0
   have k1:w6.cell? ⟨w3.1.size,1,none⟩=some (.int .i64 0):=ab hk 1
   have k2:w6.cell? ⟨w3.1.size,2,none⟩=some (.slice none 0 0):=ab hk 2
   have k3:w6.cell? ⟨w3.1.size,3,none⟩=some (.bool false):=ab hk 3
   have k4:w6.cell? ⟨w3.1.size,4,none⟩=some (.int .i64 0):=ab hk 4
   have k5:w6.cell? ⟨w3.1.size,5,none⟩=some (.int .i64 0):=ab hk 5
   have k6:w6.cell? ⟨w3.1.size,6,none⟩=some (.float .f64 0):=ab hk 6
   have k7:w6.cell? ⟨w3.1.size,7,none⟩=some (.string ⟨#[]⟩):=ab hk 7
   have k8:w6.cell? ⟨w3.1.size,8,none⟩=some (.slice none 0 0):=ab hk 8
   clear hq HX3 HY2 HQl HA6 HK6 g0' HP HVa HSp HMs HLm
   have hM:=i8 (u:=#[.string ⟨wd.toArray⟩,.int .i64 0,.slice none 0 0,.bool false,.int .i64 0,.int .i64 0,.float .f64 0,.string ⟨#[]⟩,.slice none 0 0]) HL.out HBt.out HAx.out
   have hsx:=HAx.out.size
   have x0:w6.cell? ⟨w.1.size+2,0,none⟩=some (.slice q ys.length c):=ab hM.2.1 0
   have HRow:=tQ hM.1
   have HNx:=tQ hM.2.2
   have HSz:Hid ((ys.length+1)*120<=140737488355328):=by show _<=_;have:=HYl.out;have:=HS.out;omega
   have HBs:Hid (w.1.size+3<=(w6.alloc (.cells #[.string ⟨wd.toArray⟩,.int .i64 0,.slice none 0 0,.bool false,.int .i64 0,.int .i64 0,.float .f64 0,.string ⟨#[]⟩,.slice none 0 0] 38)).1.size):=by show _<=_;have:=ae HL.out.t;simp;omega
   have hlx:w3.1.size<w6.1.size:=ae hk
   have hlx2:w.1.size+2<w6.1.size:=ae hM.2.1
   have hcx:¬w3.1.size=w6.1.size:=by omega
   have htx:¬w.1.size+2=w6.1.size:=by omega
   have g0:=HBd.out.bad
   have g2:((ek:Int) != 0)=true:=by rw[bne_iff_ne];omega
   have g3:(ek != 0)=true:=by rw[bne_iff_ne];exact g0
   clear hM hsx hk g0
   go_wp2_with (at_builtin;refine cn (B:=w.1.size+3) (us:=us) (v:=.slice q ys.length c) (n:=ys.length) HRow.out (u:=#[.string ⟨wd.toArray⟩,.int .i64 0,.slice none 0 0,.bool false,.int .i64 0,.int .i64 0,.float .f64 0,.string ⟨#[]⟩,.slice none 0 0]) rfl (iY _ _ _ _ _ _ _ _ _ _ _ _ _) (ad:=w6.1.size) (aj w6 _) HSz.out HBs.out (H:=w6.1.size+1) (by simp) rfl rfl rfl rfl ?_;intro g cap w8 hr8 hg8 hn8;obtain⟨ht8,hrd8,hL8,hB8⟩:=HNx.out g cap w8 hr8 hg8 (by simpa using hn8);have x8:w8.cell? ⟨w.1.size+2,0,none⟩=some (.slice q ys.length c):=ab ht8 0;have xf8:=ac ht8 0;obtain⟨hd8,hd9⟩:=hrd8 S (.error (ek,en)) HBd.out;have c8:w8.cell? ⟨w.1.size+1,2,none⟩=some (.int .i64 (ek:Int)):=ap.cell2 hd8;obtain⟨W9,hW9⟩:∃W9,W9=w8.setCell ⟨w.1.size+2,0,none⟩ (.slice (some ⟨g,0,none⟩) (ys.length+1) cap):=⟨_,rfl⟩;rw[<-hW9] at hd9 hL8 hB8;have HW9:=tQ hW9;have HD9:Hid (ap W9 (w.1.size+1) S ek en):=hd9;have HL9:=tQ hL8;clear hr8 hg8 hn8 ht8 hrd8 hL8 hB8 hd8 hd9 hW9)
   rw[<-HW9.out]
   have hy:aW W9 (w.1.size+1) S Y:=by rw[HYe.out];exact HD9.out
   have HEnd:=tQ (bp Y hy)
   have HT2:Hid (T=.error (ek,S.size-en)):=by show _=_;rw[HT.out,HYe.out];rfl
   rw[HYe.out] at HEnd
   have HL0:=HL9
   clear hy
   clear HD9 HL9 HW9 x0 xf8 x8 c8 HRow HNx HSz HBs
   refine HEnd.out.mono ?_
   rintro e w4 ⟨rfl,hf,ha4⟩
   have hf:ap w4 (w.1.size+1) S ek en:=hf
   have hL4:=HL0.out.step ha4
   obtain⟨aa,-,hl⟩:=hf.lies
   have c2:w4.cell? ⟨w.1.size+1,2,none⟩=some (.int .i64 (ek:Int)):=ab hl 2
   have c3:w4.cell? ⟨w.1.size+1,3,none⟩=some (.int .i64 ((S.size-en:Nat):Int)):=ab hl 3
   have g1:((ek:Int) != 0)=true:=by have:=hf.bad;rw[bne_iff_ne];omega
   have g2:((ek:Int)==0)=false:=by have:=hf.bad;rw[beq_eq_false_iff_ne];omega
   have m0:w4.cell? ⟨w.1.size,0,none⟩=some (.slice none 0 0):=ab hL4.z 0
   have mf0:=ac hL4.z 0
   obtain⟨sp,hsp⟩:∃sp:Nat,sp=S.size-en:=⟨_,rfl⟩
   rw[<-hsp] at c3
   have HT3:Hid (T=.error (ek,sp)):=by show _=_;rw[HT2.out,hsp]
   obtain⟨X,hX⟩:∃X,X=w4.setCell ⟨w.1.size,0,none⟩ (.slice none 0 0):=⟨_,rfl⟩
   have HX:Hid (X.drew.1[w.1.size]?=some (.cells #[.slice none 0 0] 25 (0,0))∧Below w.1.size w X.drew):=by
    refine⟨?_,?_⟩
    ·show X.1[w.1.size]?=_
     rw[hX,ai hL4.z 0];rfl
    ·rw[hX];exact(hL4.b.setCell tX _).drew
   have HXe2:=tQ hX
   clear hf hl hsp hL4 ha4 hX HT HT2 HEnd
   go_wp2_with fail
   go_region_held3 (fun w'=>w'.cell? ⟨w.1.size+1,2,none⟩=some (.int .i64 (ek:Int))∧w'.cell? ⟨w.1.size+1,3,none⟩=some (.int .i64 (sp:Int))) (go_keep) (fail)
   go_wp2
   rw[<-HXe2.out]
   refine bodyPost_ret (au rfl _ _ w.1.size _ _ _ _ rfl HX.out.1 Tryz.underlying25 rfl (by kernel_rfl)) rfl ?_
   rw[HT3.out]
   exact bm.of rfl (fun j hj=>by simp[aY] at hj) (by omega) HX.out.2
  |ok r1=>
   have hd6:an w6 (w.1.size+1) S r1:=hq
   have HX4:Hid (Q=aB (Tx.pty 4 r1) fun t r=>if r.head?=some 32 then az (Tx.must [32,61,32] r) fun r=>aB (Tx.pval rf 4 r) fun v r=>.ok (⟨⟨wd.toArray⟩,t,true,v⟩,r) else .ok (⟨⟨wd.toArray⟩,t,false,V0⟩,r)):=HX3.out
   have c6:w6.cell? ⟨w.1.size+1,2,none⟩=some (.int .i64 0):=hd6.cell 2
   have HO:=tQ (ko 4 w6 r1 (by omega) hd6)
   obtain⟨Z,hZ⟩:∃Z,Z=Tx.pty 4 r1:=⟨_,rfl⟩
   rw[<-hZ] at HO HX4
   clear hq hd6 HX3 hZ
   go_wp2_with fail
   refine HO.out.mono ?_
   intro e w7 hone
   obtain⟨k,p,n,c7,rfl,hrd7,ha7,hty⟩:=hone.told
   have hk7:w7.1[w3.1.size]?=some (.cells #[.string ⟨wd.toArray⟩,.int .i64 0,.slice none 0 0,.bool false,.int .i64 0,.int .i64 0,.float .f64 0,.string ⟨#[]⟩,.slice none 0 0] 38 (0,0)):=(ha7.block _ (ae HK6.out) hcN).trans HK6.out
   have hl63:w3.1.size<w6.1.size:=ae HK6.out
   obtain⟨W8,hW8⟩:∃W8,W8=(w7.setCell ⟨w3.1.size,1,none⟩ (.int .i64 k)).setCell ⟨w3.1.size,2,none⟩ (.slice p n c7):=⟨_,rfl⟩
   have ha8:Aside (fun i=>i=w3.1.size) w7 W8:=by rw[hW8];exact((Aside.refl (fun i=>i=w3.1.size) w7).setCell (p:=⟨w3.1.size,1,none⟩) (.inl rfl) _).setCell (p:=⟨w3.1.size,2,none⟩) (.inl rfl) _
   have hk:W8.1[w3.1.size]?=some (.cells #[.string ⟨wd.toArray⟩,.int .i64 k,.slice p n c7,.bool false,.int .i64 0,.int .i64 0,.float .f64 0,.string ⟨#[]⟩,.slice none 0 0] 38 (0,0)):=by rw[hW8,ai (ai hk7 1 _) 2 _];rfl
   have hw34:=HW34.out
   have HAx:Hid (Aside (fun i=>i=w.1.size+1) wr W8):=(HA6.out.trans ha7 (fun _ _ h=>h)).trans ha8 (fun i hi he=>by omega)
   have hrd8:=hrd7.aside ha8 (fun h=>hcN h.symm)
   have HTy:Hid (∀x l,Z=.ok (x,l)->aT W8 (fun i=>w6.1.size<=i∧i<w7.1.size) #[.int .i64 k,.slice p n c7] x):=fun x l hx=>by
    obtain⟨F,h1,h2⟩:=hty x l hx
    exact(h1.aside ha8 (fun i hi he=>by have:=h2 i hi;omega)).mono h2
   have HS78:Hid (W8.1.size=w7.1.size∧w6.1.size<=w7.1.size∧w3.1.size<w6.1.size):=⟨by rw[hW8];simp[World.setCell],ha7.size,hl63⟩
   have HW8:=tQ hW8
   have m1:w7.cell? ⟨w3.1.size,1,none⟩=some (.int .i64 0):=ab hk7 1
   have m2:w7.cell? ⟨w3.1.size,2,none⟩=some (.slice none 0 0):=ab hk7 2
   have mf1:=ac hk7 1
   have mf2:=ac hk7 2
   clear hone ha7 hty hrd7 hW8 ha8 HO hl63 hw34 c6 HA6 HK6 hk7
   go_upto_region 11 with fail
   rw[<-HW8.out]
   clear m1 m2 mf1 mf2 HW8
   cases Z with
   |error er=>
    obtain⟨ek,en⟩:=er
    have HBd:Hid (ap W8 (w.1.size+1) S ek en):=hrd8
    have HYe:Hid (Y=.error (ek,en)):=by show Y=_;rw[HY2.out,HX4.out];rfl
    have c6:W8.cell? ⟨w.1.size+1,2,none⟩=some (.int .i64 (ek:Int)):=HBd.out.cell2
    have g0':=HBd.out.bad
    have g4:((ek:Int)==0)=false:=by rw[beq_eq_false_iff_ne];omega
    have g5:(ek==0)=false:=by rw[beq_eq_false_iff_ne];exact g0'
    have k0:W8.cell? ⟨w3.1.size,0,none⟩=some (.string ⟨wd.toArray⟩):=ab hk 0
    have k1:W8.cell? ⟨w3.1.size,1,none⟩=some (.int .i64 k):=ab hk 1
    have k2:W8.cell? ⟨w3.1.size,2,none⟩=some (.slice p n c7):=ab hk 2
    have k3:W8.cell? ⟨w3.1.size,3,none⟩=some (.bool false):=ab hk 3
    have k4:W8.cell? ⟨w3.1.size,4,none⟩=some (.int .i64 0):=ab hk 4
    have k5:W8.cell? ⟨w3.1.size,5,none⟩=some (.int .i64 0):=ab hk 5
    have k6:W8.cell? ⟨w3.1.size,6,none⟩=some (.float .f64 0):=ab hk 6
    have k7:W8.cell? ⟨w3.1.size,7,none⟩=some (.string ⟨#[]⟩):=ab hk 7
    have k8:W8.cell? ⟨w3.1.size,8,none⟩=some (.slice none 0 0):=ab hk 8
    clear hrd8 HX4 HY2 HQl g0' HP HVa HSp HMs HLm HTy HS78
    have hM:=i8 (u:=#[.string ⟨wd.toArray⟩,.int .i64 k,.slice p n c7,.bool false,.int .i64 0,.int .i64 0,.float .f64 0,.string ⟨#[]⟩,.slice none 0 0]) HL.out HBt.out HAx.out
    have hsx:=HAx.out.size
    have x0:W8.cell? ⟨w.1.size+2,0,none⟩=some (.slice q ys.length c):=ab hM.2.1 0
    have HRow:=tQ hM.1
    have HNx:=tQ hM.2.2
    have HSz:Hid ((ys.length+1)*120<=140737488355328):=by show _<=_;have:=HYl.out;have:=HS.out;omega
    have HBs:Hid (w.1.size+3<=(W8.alloc (.cells #[.string ⟨wd.toArray⟩,.int .i64 k,.slice p n c7,.bool false,.int .i64 0,.int .i64 0,.float .f64 0,.string ⟨#[]⟩,.slice none 0 0] 38)).1.size):=by show _<=_;have:=ae HL.out.t;simp;omega
    have hlx:w3.1.size<W8.1.size:=ae hk
    have hlx2:w.1.size+2<W8.1.size:=ae hM.2.1
    have hcx:¬w3.1.size=W8.1.size:=by omega
    have htx:¬w.1.size+2=W8.1.size:=by omega
    have g0:=HBd.out.bad
    have g2:((ek:Int) != 0)=true:=by rw[bne_iff_ne];omega
    have g3:(ek != 0)=true:=by rw[bne_iff_ne];exact g0
    clear hM hsx hk g0
    go_wp2_with (at_builtin;refine cn (B:=w.1.size+3) (us:=us) (v:=.slice q ys.length c) (n:=ys.length) HRow.out (u:=#[.string ⟨wd.toArray⟩,.int .i64 k,.slice p n c7,.bool false,.int .i64 0,.int .i64 0,.float .f64 0,.string ⟨#[]⟩,.slice none 0 0]) rfl (iY _ _ _ _ _ _ _ _ _ _ _ _ _) (ad:=W8.1.size) (aj W8 _) HSz.out HBs.out (H:=W8.1.size+1) (by simp) rfl rfl rfl rfl ?_;intro g cap w8 hr8 hg8 hn8;obtain⟨ht8,hrd8,hL8,hB8⟩:=HNx.out g cap w8 hr8 hg8 (by simpa using hn8);have x8:w8.cell? ⟨w.1.size+2,0,none⟩=some (.slice q ys.length c):=ab ht8 0;have xf8:=ac ht8 0;obtain⟨hd8,hd9⟩:=hrd8 S (.error (ek,en)) HBd.out;have c8:w8.cell? ⟨w.1.size+1,2,none⟩=some (.int .i64 (ek:Int)):=ap.cell2 hd8;obtain⟨W9,hW9⟩:∃W9,W9=w8.setCell ⟨w.1.size+2,0,none⟩ (.slice (some ⟨g,0,none⟩) (ys.length+1) cap):=⟨_,rfl⟩;rw[<-hW9] at hd9 hL8 hB8;have HW9:=tQ hW9;have HD9:Hid (ap W9 (w.1.size+1) S ek en):=hd9;have HL9:=tQ hL8;clear hr8 hg8 hn8 ht8 hrd8 hL8 hB8 hd8 hd9 hW9)
    rw[<-HW9.out]
    have hy:aW W9 (w.1.size+1) S Y:=by rw[HYe.out];exact HD9.out
    have HEnd:=tQ (bp Y hy)
    have HT2:Hid (T=.error (ek,S.size-en)):=by show _=_;rw[HT.out,HYe.out];rfl
    rw[HYe.out] at HEnd
    have HL0:=HL9
    clear hy
    clear HD9 HL9 HW9 x0 xf8 x8 c8 HRow HNx HSz HBs
    refine HEnd.out.mono ?_
    rintro e w4 ⟨rfl,hf,ha4⟩
    have hf:ap w4 (w.1.size+1) S ek en:=hf
    have hL4:=HL0.out.step ha4
    obtain⟨aa,-,hl⟩:=hf.lies
    have c2:w4.cell? ⟨w.1.size+1,2,none⟩=some (.int .i64 (ek:Int)):=ab hl 2
    have c3:w4.cell? ⟨w.1.size+1,3,none⟩=some (.int .i64 ((S.size-en:Nat):Int)):=ab hl 3
    have g1:((ek:Int) != 0)=true:=by have:=hf.bad;rw[bne_iff_ne];omega
    have g2:((ek:Int)==0)=false:=by have:=hf.bad;rw[beq_eq_false_iff_ne];omega
    have m0:w4.cell? ⟨w.1.size,0,none⟩=some (.slice none 0 0):=ab hL4.z 0
    have mf0:=ac hL4.z 0
    obtain⟨sp,hsp⟩:∃sp:Nat,sp=S.size-en:=⟨_,rfl⟩
    rw[<-hsp] at c3
    have HT3:Hid (T=.error (ek,sp)):=by show _=_;rw[HT2.out,hsp]
    obtain⟨X,hX⟩:∃X,X=w4.setCell ⟨w.1.size,0,none⟩ (.slice none 0 0):=⟨_,rfl⟩
    have HX:Hid (X.drew.1[w.1.size]?=some (.cells #[.slice none 0 0] 25 (0,0))∧Below w.1.size w X.drew):=by
     refine⟨?_,?_⟩
     ·show X.1[w.1.size]?=_
      rw[hX,ai hL4.z 0];rfl
     ·rw[hX];exact(hL4.b.setCell tX _).drew
    have HXe2:=tQ hX
    clear hf hl hsp hL4 ha4 hX HT HT2 HEnd
    go_wp2_with fail
    go_region_held3 (fun w'=>w'.cell? ⟨w.1.size+1,2,none⟩=some (.int .i64 (ek:Int))∧w'.cell? ⟨w.1.size+1,3,none⟩=some (.int .i64 (sp:Int))) (go_keep) (fail)
    go_wp2
    rw[<-HXe2.out]
    refine bodyPost_ret (au rfl _ _ w.1.size _ _ _ _ rfl HX.out.1 Tryz.underlying25 rfl (by kernel_rfl)) rfl ?_
    rw[HT3.out]
    exact bm.of rfl (fun j hj=>by simp[aY] at hj) (by omega) HX.out.2
   |ok tr=>
    obtain⟨t,r2⟩:=tr
    have hd8:an W8 (w.1.size+1) S r2:=hrd8
    have HX5:Hid (Q=if r2.head?=some 32 then az (Tx.must [32,61,32] r2) fun r=>aB (Tx.pval rf 4 r) fun v r=>.ok (⟨⟨wd.toArray⟩,t,true,v⟩,r) else .ok (⟨⟨wd.toArray⟩,t,false,V0⟩,r2)):=HX4.out
    have cE:W8.cell? ⟨w.1.size+1,2,none⟩=some (.int .i64 0):=hd8.cell 2
    have HIs:=tQ (eP hd8 32)
    have HTt:=tQ (HTy.out t r2 rfl)
    have HK8:=tQ hk
    have HD8:=tQ hd8
    clear hrd8 HX4 HTy hk hd8
    go_wp2_with fail
    refine HIs.out.mono ?_
    rintro e w9 ⟨rfl,nd,hw9⟩
    have ha9:Aside (fun i=>i=w.1.size+1) W8 w9:=by rw[hw9];exact am _ W8 nd
    have HD9:Hid (an w9 (w.1.size+1) S r2):=by rw[hw9];exact HD8.out.drewN nd
    have HA9:=tQ (HAx.out.trans ha9 (fun _ _ h=>h))
    have hk9:w9.1[w3.1.size]?=some (.cells #[.string ⟨wd.toArray⟩,.int .i64 k,.slice p n c7,.bool false,.int .i64 0,.int .i64 0,.float .f64 0,.string ⟨#[]⟩,.slice none 0 0] 38 (0,0)):=(ha9.block _ (ae HK8.out) hcN).trans HK8.out
    have hs78:=HS78.out
    have hl3:=HL3.out
    have HT9:=tQ (HTt.out.aside ha9 (fun i hi he=>by omega))
    have HS9:Hid (w7.1.size<=w9.1.size∧w6.1.size<=w7.1.size∧w3.1.size<w6.1.size∧wr.1.size<=w3.1.size):=⟨by have:=ha9.size;omega,hs78.2.1,hs78.2.2,HW34.out⟩
    clear hw9 HIs HD8 HK8 HTt ha9 cE HAx hs78 hl3 HS78
    by_cases hh:r2.head?=some 32
    case neg=>
     rw[decide_eq_false hh]
     have HQ:Hid (Q=.ok (⟨⟨wd.toArray⟩,t,false,V0⟩,r2)):=by show Q=_;rw[HX5.out,if_neg hh]
     have HCo:Hid (bB w9 (fun k=>wr.1.size<=k∧k<w9.1.size) #[.string ⟨wd.toArray⟩,.int .i64 k,.slice p n c7,.bool false,.int .i64 0,.int .i64 0,.float .f64 0,.string ⟨#[]⟩,.slice none 0 0] ⟨⟨wd.toArray⟩,t,false,V0⟩):=by
      have h9:=HS9.out
      exact⟨⟨fun i=>w6.1.size<=i∧i<w7.1.size,fun _=>False,k,p,n,c7,0,0,0,⟨#[]⟩,none,0,0,rfl,HT9.out,aG.none,fun i hi=>by omega,fun _ h=>h.elim,fun _ _ h=>h⟩⟩
     have HDx:=HD9
     have HAx:=HA9
     have hk:=hk9
     have k0:w9.cell? ⟨w3.1.size,0,none⟩=some (.string ⟨wd.toArray⟩):=ab hk 0
     have k1:w9.cell? ⟨w3.1.size,1,none⟩=some (.int .i64 k):=ab hk 1
     have k2:w9.cell? ⟨w3.1.size,2,none⟩=some (.slice p n c7):=ab hk 2
     have k3:w9.cell? ⟨w3.1.size,3,none⟩=some (.bool false):=ab hk 3
     have k4:w9.cell? ⟨w3.1.size,4,none⟩=some (.int .i64 0):=ab hk 4
     have k5:w9.cell? ⟨w3.1.size,5,none⟩=some (.int .i64 0):=ab hk 5
     have k6:w9.cell? ⟨w3.1.size,6,none⟩=some (.float .f64 0):=ab hk 6
     have k7:w9.cell? ⟨w3.1.size,7,none⟩=some (.string ⟨#[]⟩):=ab hk 7
     have k8:w9.cell? ⟨w3.1.size,8,none⟩=some (.slice none 0 0):=ab hk 8
     clear hk9 HD9 HA9 HT9 HX5 hh
     obtain⟨x,hxc⟩:∃x:Col,x=⟨⟨wd.toArray⟩,t,false,V0⟩:=⟨_,rfl⟩
     rw[<-hxc] at HQ HCo
     have HLr:=tQ (HQl.out _ _ HQ.out)
     have HXg:Hid (Y=gJ ys (if r2.head?=some 44 then az (Tx.must [44,32] r2) fun r=>aB (Tx.pseq (Tx.pcol rf) m r) fun xs r=>.ok (x::xs,r) else .ok ([x],r2))):=by show Y=_;rw[HY2.out,HQ.out];rfl
     have hM:=i8 (u:=#[.string ⟨wd.toArray⟩,.int .i64 k,.slice p n c7,.bool false,.int .i64 0,.int .i64 0,.float .f64 0,.string ⟨#[]⟩,.slice none 0 0]) HL.out HBt.out HAx.out
     have hsx:=HAx.out.size
     have x0:w9.cell? ⟨w.1.size+2,0,none⟩=some (.slice q ys.length c):=ab hM.2.1 0
     have HRow:=tQ hM.1
     have HNx:=tQ hM.2.2
     have HSz:Hid ((ys.length+1)*120<=140737488355328):=by show _<=_;have:=HYl.out;have:=HS.out;omega
     have HBs:Hid (w.1.size+3<=(w9.alloc (.cells #[.string ⟨wd.toArray⟩,.int .i64 k,.slice p n c7,.bool false,.int .i64 0,.int .i64 0,.float .f64 0,.string ⟨#[]⟩,.slice none 0 0] 38)).1.size):=by show _<=_;have:=ae HL.out.t;simp;omega
     have hlx:w3.1.size<w9.1.size:=ae hk
     have hlx2:w.1.size+2<w9.1.size:=ae hM.2.1
     have hcx:¬w3.1.size=w9.1.size:=by omega
     have htx:¬w.1.size+2=w9.1.size:=by omega
     clear hM hsx hk hxc HQ HQl HY2
     go_wp2_with (at_builtin;refine cn (B:=w.1.size+3) (us:=us) (v:=.slice q ys.length c) (n:=ys.length) HRow.out (u:=#[.string ⟨wd.toArray⟩,.int .i64 k,.slice p n c7,.bool false,.int .i64 0,.int .i64 0,.float .f64 0,.string ⟨#[]⟩,.slice none 0 0]) rfl (iY _ _ _ _ _ _ _ _ _ _ _ _ _) (ad:=w9.1.size) (aj w9 _) HSz.out HBs.out (H:=w9.1.size+1) (by simp) rfl rfl rfl rfl ?_;intro g cap wA hr8 hg8 hn8;obtain⟨ht8,hrd8,hL8,hB8⟩:=HNx.out g cap wA hr8 hg8 (by simpa using hn8);have x8:wA.cell? ⟨w.1.size+2,0,none⟩=some (.slice q ys.length c):=ab ht8 0;have xf8:=ac ht8 0;obtain⟨hd8,hd9⟩:=hrd8 S (.ok (x,r2)) HDx.out;have c8:wA.cell? ⟨w.1.size+1,2,none⟩=some (.int .i64 0):=an.cell hd8 2;obtain⟨WB,hWB⟩:∃WB,WB=wA.setCell ⟨w.1.size+2,0,none⟩ (.slice (some ⟨g,0,none⟩) (ys.length+1) cap):=⟨_,rfl⟩;rw[<-hWB] at hd9 hL8 hB8;have HWB:=tQ hWB;have HDB:Hid (an WB (w.1.size+1) S r2):=hd9;have HLB:=tQ hL8;have HBB:=tQ (hB8 x HCo.out);clear hr8 hg8 hn8 ht8 hrd8 hL8 hB8 hd8 hd9 hWB)
     rw[<-HWB.out]
     have HI2:=tQ (eP HDB.out 44)
     clear HWB x0 xf8 x8 c8 HRow HNx HBs HCo HDx
     refine HI2.out.mono ?_
     rintro e wC ⟨rfl,nd2,hwC⟩
     have HDC:Hid (an wC (w.1.size+1) S r2):=by rw[hwC];exact an.drewN HDB.out nd2
     have HLC:Hid (ff w wC (some ⟨g,0,none⟩) (ys.length+1) cap):=by rw[hwC];exact HLB.out.step (am _ WB nd2)
     have HBC:Hid (∃us' Fs',aC wC (w.1.size+3) (.slice (some ⟨g,0,none⟩) (ys.length+1) cap) (ys.length+1) us' Fs' (ys++[x])):=by
      obtain⟨us',Fs',hb⟩:=HBB.out
      rw[hwC]
      exact⟨us',Fs',hb.aside (am (fun _=>False) WB nd2) (fun _ _ h=>h) (fun _ _ _ _ h=>h)⟩
     clear hwC HI2 HDB HLB HBB
     by_cases h44:r2.head?=some 44
     ·have g1:decide (r2.head?=some 44)=true:=decide_eq_true h44
      rw[g1]
      have HX6:Hid (Y=gJ ys (az (Tx.must [44,32] r2) fun r=>aB (Tx.pseq (Tx.pcol rf) m r) fun xs r=>.ok (x::xs,r))):=by show Y=_;rw[HXg.out,if_pos h44]
      have HM2:=tQ (bb HDC.out ⟨#[44,32]⟩ (by decide))
      rw[show(ByteArray.mk #[44,32]).data.toList=[44,32] from rfl] at HM2
      clear h44 g1 HXg
      go_wp2_with fail
      refine HM2.out.mono ?_
      rintro e w9 ⟨rfl,hq,ha9⟩
      have hL9:=HLC.out.step ha9
      have HRel:Hid ((∃(q:OA) (n c:Nat),Hid (ff w w9 q n c)∧(Hid (∃(ys:List Col) (l:Tx.Bs) (m:Nat),n=ys.length∧(∃us Fs,aC w9 (w.1.size+3) (.slice q n c) n us Fs ys)∧an w9 (w.1.size+1) S l∧l.length<m∧ys.length+l.length<=S.size∧Y=gJ ys (Tx.pseq (Tx.pcol rf) m l))∨Hid (∃e k,ap w9 (w.1.size+1) S e k∧Y=.error (e,k))))∧cP w9 (w.1.size+1) S<cP wr (w.1.size+1) S):=by
       show _∧_
       rw[HMs.out]
       cases hm:Tx.must [44,32] r2 with
       |error y=>
        obtain⟨e,m'⟩:=y
        rw[hm] at hq
        have hq:ap w9 (w.1.size+1) S e m':=hq
        refine⟨⟨_,_,_,hL9,.inr ⟨e,m',hq,?_⟩⟩,by rw[hq.msr];omega⟩
        rw[HX6.out,hm];rfl
       |ok r9=>
        rw[hm] at hq
        have hq:an w9 (w.1.size+1) S r9:=hq
        obtain⟨us',Fs',hb⟩:=HBC.out
        have hr3:=Tx.must_ok _ _ _ hm
        have hl3:=congrArg List.length hr3
        rw[List.length_append] at hl3
        have hl4:r2.length=2+r9.length:=hl3
        have h1:=HLr.out
        have h2:=HLm.out
        have h3:=HYl.out
        refine⟨⟨_,_,_,hL9,.inl ⟨ys++[x],r9,m,by simp,⟨us',Fs',hb.aside ha9 (fun g hg he=>by have:=(hb.lt g hg).1;omega) (fun j hj k hk he=>by have:=(hb.range j hj k hk).1;omega)⟩,hq,by omega,by rw[List.length_append,List.length_singleton];omega,?_⟩⟩,by rw[hq.msr];omega⟩
        rw[HX6.out,hm,je]
        rfl
      clear hq ha9 hL9 HM2 HX6 HDC HLC HBC HLr HLm HYl HMs
      go_wp2
      go_roundw
      case rel=>exact HRel.out.1
      case measure=>exact HRel.out.2
     ·have g1:decide (r2.head?=some 44)=false:=decide_eq_false h44
      rw[g1]
      have HYe:Hid (Y=.ok (ys++[x],r2)):=by show Y=_;rw[HXg.out,if_neg h44];rfl
      obtain⟨xs,hxs⟩:∃xs,xs=ys++[x]:=⟨_,rfl⟩
      rw[<-hxs] at HYe
      have HL5:=HLC
      have HB5:Hid (∃us Fs,aC wC (w.1.size+3) (.slice (some ⟨g,0,none⟩) (ys.length+1) cap) (ys.length+1) us Fs xs):=by rw[hxs];exact HBC.out
      have HN:Hid (xs.length=ys.length+1):=by show _=_;rw[hxs];simp
      have HBo:Hid ((ys.length+1)*120<=140737488351232):=by show _<=_;have:=HYl.out;have:=HS.out;omega
      have HWf:Hid (∀c∈xs,c.wf):=jP HRf.out (HY.out.symm.trans HYe.out) (by simp;have:=HS.out;omega)
      clear hxs HLC HBC HYl HLr HSz h44 g1 HXg HP HVa HMs HLm HRf
      by_cases hr0:r2=[]
      ·have HEnd:=tQ (bp (.ok (xs,[]):Tx.R (List Col×Tx.Bs)) (by rw[<-hr0];exact HDC.out))
       rw[show fa (.ok (xs,[]):Tx.R (List Col×Tx.Bs))=.ok xs from rfl] at HEnd
       have HT2:Hid (T=if Sch.err xs=0 then .ok xs else .error (Sch.err xs,0)):=by show T=_;rw[HT.out,HYe.out,hr0];rfl
       clear HYe HT HDC hr0
       go_wp2_with fail
       refine HEnd.out.mono ?_
       rintro e w4 ⟨rfl,hf,ha4⟩
       have hf:an w4 (w.1.size+1) S []:=hf
       have hL4:=HL5.out.step ha4
       have c2:w4.cell? ⟨w.1.size+1,2,none⟩=some (.int .i64 0):=hf.cell 2
       obtain⟨us4,Fs4,hb0⟩:=HB5.out
       have hbt4:=hb0.aside ha4 (fun g hg he=>by have:=(hb0.lt g hg).1;omega) (fun j hj k hk he=>by have:=(hb0.range j hj k hk).1;omega)
       obtain⟨p9,c9,hv9,hnc,-⟩:=hbt4.cols HBo.out
       have hnc:(ys.length+1)<=cap:=by injection hv9 with e1 e2 e3;rw[e3];exact hnc
       have hcl:=bV hbt4 HBo.out
       have HC:=tQ (iV xs (some ⟨g,0,none⟩) cap w4 (by rw[HN.out];exact HBo.out) (by rw[HN.out];exact hnc) hcl HWf.out)
       rw[HN.out] at HC
       have y0:w4.cell? ⟨w.1.size+2,0,none⟩=some (.slice (some ⟨g,0,none⟩) (ys.length+1) cap):=ab hL4.t 0
       have HL4:=tQ hL4
       have HBt4:=tQ hbt4
       obtain⟨er,her⟩:∃er,er=Sch.err xs:=⟨_,rfl⟩
       rw[<-her] at HC HT2
       clear hf ha4 hL4 hb0 hbt4 HEnd HL5 HB5 hv9 hnc hcl HWf her
       go_wp2_with fail
       refine HC.out.mono ?_
       rintro e w5 ⟨rfl,hb5⟩
       have hz1:=ay HL4.out.z hb5 (ae HL4.out.z)
       have ht1:=ay HL4.out.t hb5 (ae HL4.out.t)
       have y1:w5.cell? ⟨w.1.size+2,0,none⟩=some (.slice (some ⟨g,0,none⟩) (ys.length+1) cap):=ab ht1 0
       have m0:w5.cell? ⟨w.1.size,0,none⟩=some (.slice none 0 0):=ab hz1 0
       have mf0:=ac hz1 0
       by_cases h0:er=0
       ·have HT3:Hid (T=.ok xs):=by show T=_;rw[HT2.out,if_pos h0]
        obtain⟨X,hX⟩:∃X,X=w5.setCell ⟨w.1.size,0,none⟩ (.slice (some ⟨g,0,none⟩) (ys.length+1) cap):=⟨_,rfl⟩
        have HX:Hid (X.1[w.1.size]?=some (.cells #[.slice (some ⟨g,0,none⟩) (ys.length+1) cap] 25 (0,0))∧Below w.1.size w X∧bA X (some ⟨g,0,none⟩) xs):=by
         refine⟨by rw[hX,ai hz1 0];rfl,?_,?_⟩
         ·rw[hX];exact(HL4.out.b.trans (hb5.mono HL4.out.b.size)).setCell tX _
         ·rw[hX];exact bV ((HBt4.out.on hb5).set ⟨w.1.size,0,none⟩ _ (by show w.1.size<_;omega)) HBo.out
        have HXe2:=tQ hX
        subst h0
        clear hz1 ht1 hX hb5 HC HT2 y0 c2
        go_wp2
        rw[<-HXe2.out]
        refine bodyPost_ret (au rfl _ _ w.1.size _ _ _ _ rfl HX.out.1 Tryz.underlying25 rfl (by kernel_rfl)) rfl ?_
        rw[HT3.out]
        exact bm.of HN.out HX.out.2.2 HBo.out HX.out.2.1
       ·have HT3:Hid (T=.error (er,0)):=by show T=_;rw[HT2.out,if_neg h0]
        have g0:((er:Int) != 0)=true:=by rw[bne_iff_ne];omega
        obtain⟨X,hX⟩:∃X,X=w5.setCell ⟨w.1.size,0,none⟩ (.slice none 0 0):=⟨_,rfl⟩
        have HX:Hid (X.1[w.1.size]?=some (.cells #[.slice none 0 0] 25 (0,0))∧Below w.1.size w X):=by
         refine⟨by rw[hX,ai hz1 0];rfl,?_⟩
         rw[hX];exact(HL4.out.b.trans (hb5.mono HL4.out.b.size)).setCell tX _
        have HXe2:=tQ hX
        clear hz1 ht1 hX hb5 HC HT2 h0 y0 c2
        go_wp2
        rw[<-HXe2.out]
        refine bodyPost_ret (au rfl _ _ w.1.size _ _ _ _ rfl HX.out.1 Tryz.underlying25 rfl (by kernel_rfl)) rfl ?_
        rw[HT3.out]
        exact bm.of rfl (fun j hj=>by simp[aY] at hj) (by omega) HX.out.2
      ·have e5:fa (.ok (xs,r2):Tx.R (List Col×Tx.Bs))=.error (5,r2.length):=if_neg hr0
       have HEnd:=tQ (bp (.ok (xs,r2):Tx.R (List Col×Tx.Bs)) HDC.out)
       rw[e5] at HEnd
       obtain⟨ek,hek⟩:∃ek:Nat,ek=5:=⟨_,rfl⟩
       obtain⟨en,hen⟩:∃en,en=r2.length:=⟨_,rfl⟩
       have HT2:Hid (T=.error (ek,S.size-en)):=by show T=_;rw[HT.out,HYe.out,e5,hek,hen]
       rw[<-hek,<-hen] at HEnd
       have HL0:=HL5
       clear HYe HT HDC hr0 e5 hek hen HL5 HB5 HN HBo HWf
       go_wp2_with fail
       refine HEnd.out.mono ?_
       rintro e w4 ⟨rfl,hf,ha4⟩
       have hf:ap w4 (w.1.size+1) S ek en:=hf
       have hL4:=HL0.out.step ha4
       obtain⟨aa,-,hl⟩:=hf.lies
       have c2:w4.cell? ⟨w.1.size+1,2,none⟩=some (.int .i64 (ek:Int)):=ab hl 2
       have c3:w4.cell? ⟨w.1.size+1,3,none⟩=some (.int .i64 ((S.size-en:Nat):Int)):=ab hl 3
       have g1:((ek:Int) != 0)=true:=by have:=hf.bad;rw[bne_iff_ne];omega
       have g2:((ek:Int)==0)=false:=by have:=hf.bad;rw[beq_eq_false_iff_ne];omega
       have m0:w4.cell? ⟨w.1.size,0,none⟩=some (.slice none 0 0):=ab hL4.z 0
       have mf0:=ac hL4.z 0
       obtain⟨sp,hsp⟩:∃sp:Nat,sp=S.size-en:=⟨_,rfl⟩
       rw[<-hsp] at c3
       have HT3:Hid (T=.error (ek,sp)):=by show _=_;rw[HT2.out,hsp]
       obtain⟨X,hX⟩:∃X,X=w4.setCell ⟨w.1.size,0,none⟩ (.slice none 0 0):=⟨_,rfl⟩
       have HX:Hid (X.drew.1[w.1.size]?=some (.cells #[.slice none 0 0] 25 (0,0))∧Below w.1.size w X.drew):=by
        refine⟨?_,?_⟩
        ·show X.1[w.1.size]?=_
         rw[hX,ai hL4.z 0];rfl
        ·rw[hX];exact(hL4.b.setCell tX _).drew
       have HXe2:=tQ hX
       clear hf hl hsp hL4 ha4 hX HT2 HEnd
       go_wp2_with fail
       go_region_held3 (fun w'=>w'.cell? ⟨w.1.size+1,2,none⟩=some (.int .i64 (ek:Int))∧w'.cell? ⟨w.1.size+1,3,none⟩=some (.int .i64 (sp:Int))) (go_keep) (fail)
       go_wp2
       rw[<-HXe2.out]
       refine bodyPost_ret (au rfl _ _ w.1.size _ _ _ _ rfl HX.out.1 Tryz.underlying25 rfl (by kernel_rfl)) rfl ?_
       rw[HT3.out]
       exact bm.of rfl (fun j hj=>by simp[aY] at hj) (by omega) HX.out.2
    rw[decide_eq_true hh]
    have HX6:Hid (Q=az (Tx.must [32,61,32] r2) fun r=>aB (Tx.pval rf 4 r) fun v r=>.ok (⟨⟨wd.toArray⟩,t,true,v⟩,r)):=by show Q=_;rw[HX5.out,if_pos hh]
    have HM3:=tQ (bb HD9.out ⟨#[32,61,32]⟩ (by decide))
    rw[show(ByteArray.mk #[32,61,32]).data.toList=[32,61,32] from rfl] at HM3
    obtain⟨G3,hG3⟩:∃G,G=Tx.must [32,61,32] r2:=⟨_,rfl⟩
    rw[<-hG3] at HM3 HX6
    have HK9:=tQ hk9
    clear hG3 HX5 hh HD9 hk9
    go_wp2_with fail
    refine HM3.out.mono ?_
    rintro e w10 ⟨rfl,hq,ha10⟩
    have h9:=HS9.out
    have hl3:=HL3.out
    have HA10:=tQ (HA9.out.trans ha10 (fun _ _ h=>h))
    have hk10:w10.1[w3.1.size]?=some (.cells #[.string ⟨wd.toArray⟩,.int .i64 k,.slice p n c7,.bool false,.int .i64 0,.int .i64 0,.float .f64 0,.string ⟨#[]⟩,.slice none 0 0] 38 (0,0)):=(ha10.block _ (ae HK9.out) hcN).trans HK9.out
    have HT10:=tQ (HT9.out.aside ha10 (fun i hi he=>by omega))
    have HS10:Hid (w7.1.size<=w10.1.size∧w6.1.size<=w7.1.size∧w3.1.size<w6.1.size∧wr.1.size<=w3.1.size):=⟨by have:=ha10.size;omega,h9.2.1,h9.2.2.1,h9.2.2.2⟩
    clear ha10 HM3 HA9 HK9 HT9 HS9 h9 hl3
    cases G3 with
    |error er=>
     obtain⟨ek,en⟩:=er
     have HBd:Hid (ap w10 (w.1.size+1) S ek en):=hq
     have HYe:Hid (Y=.error (ek,en)):=by show Y=_;rw[HY2.out,HX6.out];rfl
     have HAx:=HA10
     have hk:=hk10
     have c6:w10.cell? ⟨w.1.size+1,2,none⟩=some (.int .i64 (ek:Int)):=HBd.out.cell2
     have g0':=HBd.out.bad
     have g4:((ek:Int)==0)=false:=by rw[beq_eq_false_iff_ne];omega
     have g5:(ek==0)=false:=by rw[beq_eq_false_iff_ne];exact g0'
     have k0:w10.cell? ⟨w3.1.size,0,none⟩=some (.string ⟨wd.toArray⟩):=ab hk 0
     have k1:w10.cell? ⟨w3.1.size,1,none⟩=some (.int .i64 k):=ab hk 1
     have k2:w10.cell? ⟨w3.1.size,2,none⟩=some (.slice p n c7):=ab hk 2
     have k3:w10.cell? ⟨w3.1.size,3,none⟩=some (.bool false):=ab hk 3
     have k4:w10.cell? ⟨w3.1.size,4,none⟩=some (.int .i64 0):=ab hk 4
     have k5:w10.cell? ⟨w3.1.size,5,none⟩=some (.int .i64 0):=ab hk 5
     have k6:w10.cell? ⟨w3.1.size,6,none⟩=some (.float .f64 0):=ab hk 6
     have k7:w10.cell? ⟨w3.1.size,7,none⟩=some (.string ⟨#[]⟩):=ab hk 7
     have k8:w10.cell? ⟨w3.1.size,8,none⟩=some (.slice none 0 0):=ab hk 8
     clear hq hk10 HX6 HY2 HQl g0' HP HVa HSp HMs HLm HT10 HS10 HA10
     have hM:=i8 (u:=#[.string ⟨wd.toArray⟩,.int .i64 k,.slice p n c7,.bool false,.int .i64 0,.int .i64 0,.float .f64 0,.string ⟨#[]⟩,.slice none 0 0]) HL.out HBt.out HAx.out
     have hsx:=HAx.out.size
     have x0:w10.cell? ⟨w.1.size+2,0,none⟩=some (.slice q ys.length c):=ab hM.2.1 0
     have HRow:=tQ hM.1
     have HNx:=tQ hM.2.2
     have HSz:Hid ((ys.length+1)*120<=140737488355328):=by show _<=_;have:=HYl.out;have:=HS.out;omega
     have HBs:Hid (w.1.size+3<=(w10.alloc (.cells #[.string ⟨wd.toArray⟩,.int .i64 k,.slice p n c7,.bool false,.int .i64 0,.int .i64 0,.float .f64 0,.string ⟨#[]⟩,.slice none 0 0] 38)).1.size):=by show _<=_;have:=ae HL.out.t;simp;omega
     have hlx:w3.1.size<w10.1.size:=ae hk
     have hlx2:w.1.size+2<w10.1.size:=ae hM.2.1
     have hcx:¬w3.1.size=w10.1.size:=by omega
     have htx:¬w.1.size+2=w10.1.size:=by omega
     have g0:=HBd.out.bad
     have g2:((ek:Int) != 0)=true:=by rw[bne_iff_ne];omega
     have g3:(ek != 0)=true:=by rw[bne_iff_ne];exact g0
     clear hM hsx hk g0
     go_wp2_with (at_builtin;refine cn (B:=w.1.size+3) (us:=us) (v:=.slice q ys.length c) (n:=ys.length) HRow.out (u:=#[.string ⟨wd.toArray⟩,.int .i64 k,.slice p n c7,.bool false,.int .i64 0,.int .i64 0,.float .f64 0,.string ⟨#[]⟩,.slice none 0 0]) rfl (iY _ _ _ _ _ _ _ _ _ _ _ _ _) (ad:=w10.1.size) (aj w10 _) HSz.out HBs.out (H:=w10.1.size+1) (by simp) rfl rfl rfl rfl ?_;intro g cap w8 hr8 hg8 hn8;obtain⟨ht8,hrd8,hL8,hB8⟩:=HNx.out g cap w8 hr8 hg8 (by simpa using hn8);have x8:w8.cell? ⟨w.1.size+2,0,none⟩=some (.slice q ys.length c):=ab ht8 0;have xf8:=ac ht8 0;obtain⟨hd8,hd9⟩:=hrd8 S (.error (ek,en)) HBd.out;have c8:w8.cell? ⟨w.1.size+1,2,none⟩=some (.int .i64 (ek:Int)):=ap.cell2 hd8;obtain⟨W9,hW9⟩:∃W9,W9=w8.setCell ⟨w.1.size+2,0,none⟩ (.slice (some ⟨g,0,none⟩) (ys.length+1) cap):=⟨_,rfl⟩;rw[<-hW9] at hd9 hL8 hB8;have HW9:=tQ hW9;have HD9:Hid (ap W9 (w.1.size+1) S ek en):=hd9;have HL9:=tQ hL8;clear hr8 hg8 hn8 ht8 hrd8 hL8 hB8 hd8 hd9 hW9)
     rw[<-HW9.out]
     have hy:aW W9 (w.1.size+1) S Y:=by rw[HYe.out];exact HD9.out
     have HEnd:=tQ (bp Y hy)
     have HT2:Hid (T=.error (ek,S.size-en)):=by show _=_;rw[HT.out,HYe.out];rfl
     rw[HYe.out] at HEnd
     have HL0:=HL9
     clear hy
     clear HD9 HL9 HW9 x0 xf8 x8 c8 HRow HNx HSz HBs
     refine HEnd.out.mono ?_
     rintro e w4 ⟨rfl,hf,ha4⟩
     have hf:ap w4 (w.1.size+1) S ek en:=hf
     have hL4:=HL0.out.step ha4
     obtain⟨aa,-,hl⟩:=hf.lies
     have c2:w4.cell? ⟨w.1.size+1,2,none⟩=some (.int .i64 (ek:Int)):=ab hl 2
     have c3:w4.cell? ⟨w.1.size+1,3,none⟩=some (.int .i64 ((S.size-en:Nat):Int)):=ab hl 3
     have g1:((ek:Int) != 0)=true:=by have:=hf.bad;rw[bne_iff_ne];omega
     have g2:((ek:Int)==0)=false:=by have:=hf.bad;rw[beq_eq_false_iff_ne];omega
     have m0:w4.cell? ⟨w.1.size,0,none⟩=some (.slice none 0 0):=ab hL4.z 0
     have mf0:=ac hL4.z 0
     obtain⟨sp,hsp⟩:∃sp:Nat,sp=S.size-en:=⟨_,rfl⟩
     rw[<-hsp] at c3
     have HT3:Hid (T=.error (ek,sp)):=by show _=_;rw[HT2.out,hsp]
     obtain⟨X,hX⟩:∃X,X=w4.setCell ⟨w.1.size,0,none⟩ (.slice none 0 0):=⟨_,rfl⟩
     have HX:Hid (X.drew.1[w.1.size]?=some (.cells #[.slice none 0 0] 25 (0,0))∧Below w.1.size w X.drew):=by
      refine⟨?_,?_⟩
      ·show X.1[w.1.size]?=_
       rw[hX,ai hL4.z 0];rfl
      ·rw[hX];exact(hL4.b.setCell tX _).drew
     have HXe2:=tQ hX
     clear hf hl hsp hL4 ha4 hX HT HT2 HEnd
     go_wp2_with fail
     go_region_held3 (fun w'=>w'.cell? ⟨w.1.size+1,2,none⟩=some (.int .i64 (ek:Int))∧w'.cell? ⟨w.1.size+1,3,none⟩=some (.int .i64 (sp:Int))) (go_keep) (fail)
     go_wp2
     rw[<-HXe2.out]
     refine bodyPost_ret (au rfl _ _ w.1.size _ _ _ _ rfl HX.out.1 Tryz.underlying25 rfl (by kernel_rfl)) rfl ?_
     rw[HT3.out]
     exact bm.of rfl (fun j hj=>by simp[aY] at hj) (by omega) HX.out.2
    |ok r3=>
     have hd10:an w10 (w.1.size+1) S r3:=hq
     have HX7:Hid (Q=aB (Tx.pval rf 4 r3) fun v r=>.ok (⟨⟨wd.toArray⟩,t,true,v⟩,r)):=HX6.out
     have cE:w10.cell? ⟨w.1.size+1,2,none⟩=some (.int .i64 0):=hd10.cell 2
     have m3:w10.cell? ⟨w3.1.size,3,none⟩=some (.bool false):=ab hk10 3
     have mf3:=ac hk10 3
     obtain⟨W11,hW11⟩:∃W,W=w10.setCell ⟨w3.1.size,3,none⟩ (.bool true):=⟨_,rfl⟩
     have ha11:Aside (fun i=>i=w3.1.size) w10 W11:=by rw[hW11];exact(Aside.refl (fun i=>i=w3.1.size) w10).setCell (p:=⟨w3.1.size,3,none⟩) (.inl rfl) _
     have hk11:W11.1[w3.1.size]?=some (.cells #[.string ⟨wd.toArray⟩,.int .i64 k,.slice p n c7,.bool true,.int .i64 0,.int .i64 0,.float .f64 0,.string ⟨#[]⟩,.slice none 0 0] 38 (0,0)):=by rw[hW11,ai hk10 3];rfl
     have hd11:an W11 (w.1.size+1) S r3:=hd10.aside ha11 (fun h=>hcN h.symm)
     have hs10:=HS10.out
     have hl3:=HL3.out
     have HA11:Hid (Aside (fun i=>i=w.1.size+1) wr W11):=HA10.out.trans ha11 (fun i hi he=>by omega)
     have HT11:=tQ (HT10.out.aside ha11 (fun i hi he=>by omega))
     have HS11:Hid (w7.1.size<=W11.1.size∧w6.1.size<=w7.1.size∧w3.1.size<w6.1.size∧wr.1.size<=w3.1.size):=⟨by have:=ha11.size;omega,hs10.2.1,hs10.2.2.1,hs10.2.2.2⟩
     have HK11:=tQ hk11
     have HW11:=tQ hW11
     have HC:=tQ (HVa.out W11 r3 hd11)
     obtain⟨Z2,hZ2⟩:∃Z,Z=Tx.pval rf 4 r3:=⟨_,rfl⟩
     rw[<-hZ2] at HC HX7
     clear hq hd10 HX6 hk10 hW11 ha11 hk11 hd11 hs10 hl3 HA10 HT10 HS10 hZ2
     go_wp2_with fail
     rw[<-HW11.out]
     refine HC.out.mono ?_
     rintro e w12 ⟨vk,vi,vb,vt,vp,vn,vc,rfl,hrd12,ha12,hown12⟩
     have hs11:=HS11.out
     have hl3:=HL3.out
     have hk12:w12.1[w3.1.size]?=some (.cells #[.string ⟨wd.toArray⟩,.int .i64 k,.slice p n c7,.bool true,.int .i64 0,.int .i64 0,.float .f64 0,.string ⟨#[]⟩,.slice none 0 0] 38 (0,0)):=(ha12.block _ (ae HK11.out) hcN).trans HK11.out
     obtain⟨W13,hW13⟩:∃W,W=((((w12.setCell ⟨w3.1.size,4,none⟩ (.int .i64 vk)).setCell ⟨w3.1.size,5,none⟩ (.int .i64 vi)).setCell ⟨w3.1.size,6,none⟩ (.float .f64 vb)).setCell ⟨w3.1.size,7,none⟩ (.string vt)).setCell ⟨w3.1.size,8,none⟩ (.slice vp vn vc):=⟨_,rfl⟩
     have ha13:Aside (fun i=>i=w3.1.size) w12 W13:=by rw[hW13];exact(((((Aside.refl (fun i=>i=w3.1.size) w12).setCell (p:=⟨w3.1.size,4,none⟩) (.inl rfl) _).setCell (p:=⟨w3.1.size,5,none⟩) (.inl rfl) _).setCell (p:=⟨w3.1.size,6,none⟩) (.inl rfl) _).setCell (p:=⟨w3.1.size,7,none⟩) (.inl rfl) _).setCell (p:=⟨w3.1.size,8,none⟩) (.inl rfl) _
     have hk:W13.1[w3.1.size]?=some (.cells #[.string ⟨wd.toArray⟩,.int .i64 k,.slice p n c7,.bool true,.int .i64 vk,.int .i64 vi,.float .f64 vb,.string vt,.slice vp vn vc] 38 (0,0)):=by rw[hW13,ai (ai (ai (ai (ai hk12 4 _) 5 _) 6 _) 7 _) 8 _];rfl
     have HAx:Hid (Aside (fun i=>i=w.1.size+1) wr W13):=(HA11.out.trans ha12 (fun _ _ h=>h)).trans ha13 (fun i hi he=>by omega)
     have hrd13:=hrd12.aside ha13 (fun h=>hcN h.symm)
     have HT13:=tQ ((HT11.out.aside ha12 (fun i hi he=>by omega)).aside ha13 (fun i hi he=>by omega))
     have HV13:Hid (∀v l,Z2=.ok (v,l)->aG W13 (fun j=>W11.1.size<=j∧j<w12.1.size) (cells5 vk vi vb vt vp vn vc) v):=fun v l hx=>(hown12 v l hx).aside ha13 (fun i hi he=>by omega)
     have HS13:Hid (w7.1.size<=W11.1.size∧W11.1.size<=w12.1.size∧w12.1.size<=W13.1.size∧w6.1.size<=w7.1.size∧w3.1.size<w6.1.size∧wr.1.size<=w3.1.size):=⟨hs11.1,ha12.size,ha13.size,hs11.2.1,hs11.2.2.1,hs11.2.2.2⟩
     have HW13:=tQ hW13
     have m4:w12.cell? ⟨w3.1.size,4,none⟩=some (.int .i64 0):=ab hk12 4
     have m5:w12.cell? ⟨w3.1.size,5,none⟩=some (.int .i64 0):=ab hk12 5
     have m6:w12.cell? ⟨w3.1.size,6,none⟩=some (.float .f64 0):=ab hk12 6
     have m7:w12.cell? ⟨w3.1.size,7,none⟩=some (.string ⟨#[]⟩):=ab hk12 7
     have m8:w12.cell? ⟨w3.1.size,8,none⟩=some (.slice none 0 0):=ab hk12 8
     have mf4:=ac hk12 4
     have mf5:=ac hk12 5
     have mf6:=ac hk12 6
     have mf7:=ac hk12 7
     have mf8:=ac hk12 8
     clear hrd12 ha12 hown12 hk12 hW13 ha13 hs11 hl3 HA11 HT11 HS11 HK11 HW11 HC cE m3 mf3
     go_upto_region 16 with fail
     rw[<-HW13.out]
     clear m4 m5 m6 m7 m8 mf4 mf5 mf6 mf7 mf8 HW13
     cases Z2 with
     |error er=>
      obtain⟨ek,en⟩:=er
      have HBd:Hid (ap W13 (w.1.size+1) S ek en):=hrd13
      have HYe:Hid (Y=.error (ek,en)):=by show Y=_;rw[HY2.out,HX7.out];rfl
      have k0:W13.cell? ⟨w3.1.size,0,none⟩=some (.string ⟨wd.toArray⟩):=ab hk 0
      have k1:W13.cell? ⟨w3.1.size,1,none⟩=some (.int .i64 k):=ab hk 1
      have k2:W13.cell? ⟨w3.1.size,2,none⟩=some (.slice p n c7):=ab hk 2
      have k3:W13.cell? ⟨w3.1.size,3,none⟩=some (.bool true):=ab hk 3
      have k4:W13.cell? ⟨w3.1.size,4,none⟩=some (.int .i64 vk):=ab hk 4
      have k5:W13.cell? ⟨w3.1.size,5,none⟩=some (.int .i64 vi):=ab hk 5
      have k6:W13.cell? ⟨w3.1.size,6,none⟩=some (.float .f64 vb):=ab hk 6
      have k7:W13.cell? ⟨w3.1.size,7,none⟩=some (.string vt):=ab hk 7
      have k8:W13.cell? ⟨w3.1.size,8,none⟩=some (.slice vp vn vc):=ab hk 8
      clear hrd13 HX7 HY2 HQl HP HVa HSp HMs HLm HT13 HV13 HS13
      have hM:=i8 (u:=#[.string ⟨wd.toArray⟩,.int .i64 k,.slice p n c7,.bool true,.int .i64 vk,.int .i64 vi,.float .f64 vb,.string vt,.slice vp vn vc]) HL.out HBt.out HAx.out
      have hsx:=HAx.out.size
      have x0:W13.cell? ⟨w.1.size+2,0,none⟩=some (.slice q ys.length c):=ab hM.2.1 0
      have HRow:=tQ hM.1
      have HNx:=tQ hM.2.2
      have HSz:Hid ((ys.length+1)*120<=140737488355328):=by show _<=_;have:=HYl.out;have:=HS.out;omega
      have HBs:Hid (w.1.size+3<=(W13.alloc (.cells #[.string ⟨wd.toArray⟩,.int .i64 k,.slice p n c7,.bool true,.int .i64 vk,.int .i64 vi,.float .f64 vb,.string vt,.slice vp vn vc] 38)).1.size):=by show _<=_;have:=ae HL.out.t;simp;omega
      have hlx:w3.1.size<W13.1.size:=ae hk
      have hlx2:w.1.size+2<W13.1.size:=ae hM.2.1
      have hcx:¬w3.1.size=W13.1.size:=by omega
      have htx:¬w.1.size+2=W13.1.size:=by omega
      have g0:=HBd.out.bad
      have g2:((ek:Int) != 0)=true:=by rw[bne_iff_ne];omega
      have g3:(ek != 0)=true:=by rw[bne_iff_ne];exact g0
      clear hM hsx hk g0
      go_wp2_with (at_builtin;refine cn (B:=w.1.size+3) (us:=us) (v:=.slice q ys.length c) (n:=ys.length) HRow.out (u:=#[.string ⟨wd.toArray⟩,.int .i64 k,.slice p n c7,.bool true,.int .i64 vk,.int .i64 vi,.float .f64 vb,.string vt,.slice vp vn vc]) rfl (iY _ _ _ _ _ _ _ _ _ _ _ _ _) (ad:=W13.1.size) (aj W13 _) HSz.out HBs.out (H:=W13.1.size+1) (by simp) rfl rfl rfl rfl ?_;intro g cap w8 hr8 hg8 hn8;obtain⟨ht8,hrd8,hL8,hB8⟩:=HNx.out g cap w8 hr8 hg8 (by simpa using hn8);have x8:w8.cell? ⟨w.1.size+2,0,none⟩=some (.slice q ys.length c):=ab ht8 0;have xf8:=ac ht8 0;obtain⟨hd8,hd9⟩:=hrd8 S (.error (ek,en)) HBd.out;have c8:w8.cell? ⟨w.1.size+1,2,none⟩=some (.int .i64 (ek:Int)):=ap.cell2 hd8;obtain⟨W9,hW9⟩:∃W9,W9=w8.setCell ⟨w.1.size+2,0,none⟩ (.slice (some ⟨g,0,none⟩) (ys.length+1) cap):=⟨_,rfl⟩;rw[<-hW9] at hd9 hL8 hB8;have HW9:=tQ hW9;have HD9:Hid (ap W9 (w.1.size+1) S ek en):=hd9;have HL9:=tQ hL8;clear hr8 hg8 hn8 ht8 hrd8 hL8 hB8 hd8 hd9 hW9)
      rw[<-HW9.out]
      have hy:aW W9 (w.1.size+1) S Y:=by rw[HYe.out];exact HD9.out
      have HEnd:=tQ (bp Y hy)
      have HT2:Hid (T=.error (ek,S.size-en)):=by show _=_;rw[HT.out,HYe.out];rfl
      rw[HYe.out] at HEnd
      have HL0:=HL9
      clear hy
      clear HD9 HL9 HW9 x0 xf8 x8 c8 HRow HNx HSz HBs
      refine HEnd.out.mono ?_
      rintro e w4 ⟨rfl,hf,ha4⟩
      have hf:ap w4 (w.1.size+1) S ek en:=hf
      have hL4:=HL0.out.step ha4
      obtain⟨aa,-,hl⟩:=hf.lies
      have c2:w4.cell? ⟨w.1.size+1,2,none⟩=some (.int .i64 (ek:Int)):=ab hl 2
      have c3:w4.cell? ⟨w.1.size+1,3,none⟩=some (.int .i64 ((S.size-en:Nat):Int)):=ab hl 3
      have g1:((ek:Int) != 0)=true:=by have:=hf.bad;rw[bne_iff_ne];omega
      have g2:((ek:Int)==0)=false:=by have:=hf.bad;rw[beq_eq_false_iff_ne];omega
      have m0:w4.cell? ⟨w.1.size,0,none⟩=some (.slice none 0 0):=ab hL4.z 0
      have mf0:=ac hL4.z 0
      obtain⟨sp,hsp⟩:∃sp:Nat,sp=S.size-en:=⟨_,rfl⟩
      rw[<-hsp] at c3
      have HT3:Hid (T=.error (ek,sp)):=by show _=_;rw[HT2.out,hsp]
      obtain⟨X,hX⟩:∃X,X=w4.setCell ⟨w.1.size,0,none⟩ (.slice none 0 0):=⟨_,rfl⟩
      have HX:Hid (X.drew.1[w.1.size]?=some (.cells #[.slice none 0 0] 25 (0,0))∧Below w.1.size w X.drew):=by
       refine⟨?_,?_⟩
       ·show X.1[w.1.size]?=_
        rw[hX,ai hL4.z 0];rfl
       ·rw[hX];exact(hL4.b.setCell tX _).drew
      have HXe2:=tQ hX
      clear hf hl hsp hL4 ha4 hX HT HT2 HEnd
      go_wp2_with fail
      go_region_held3 (fun w'=>w'.cell? ⟨w.1.size+1,2,none⟩=some (.int .i64 (ek:Int))∧w'.cell? ⟨w.1.size+1,3,none⟩=some (.int .i64 (sp:Int))) (go_keep) (fail)
      go_wp2
      rw[<-HXe2.out]
      refine bodyPost_ret (au rfl _ _ w.1.size _ _ _ _ rfl HX.out.1 Tryz.underlying25 rfl (by kernel_rfl)) rfl ?_
      rw[HT3.out]
      exact bm.of rfl (fun j hj=>by simp[aY] at hj) (by omega) HX.out.2
     |ok vr=>
      obtain⟨v,r4⟩:=vr
      have HDx:Hid (an W13 (w.1.size+1) S r4):=hrd13
      have HQ:Hid (Q=.ok (⟨⟨wd.toArray⟩,t,true,v⟩,r4)):=HX7.out
      have HCo:Hid (bB W13 (fun k=>wr.1.size<=k∧k<W13.1.size) #[.string ⟨wd.toArray⟩,.int .i64 k,.slice p n c7,.bool true,.int .i64 vk,.int .i64 vi,.float .f64 vb,.string vt,.slice vp vn vc] ⟨⟨wd.toArray⟩,t,true,v⟩):=by
       have h9:=HS13.out
       exact⟨⟨fun i=>w6.1.size<=i∧i<w7.1.size,fun j=>W11.1.size<=j∧j<w12.1.size,k,p,n,c7,vk,vi,vb,vt,vp,vn,vc,rfl,HT13.out,HV13.out v r4 rfl,fun i hi=>by omega,fun i hi=>by omega,fun i hi hc=>by omega⟩⟩
      have k0:W13.cell? ⟨w3.1.size,0,none⟩=some (.string ⟨wd.toArray⟩):=ab hk 0
      have k1:W13.cell? ⟨w3.1.size,1,none⟩=some (.int .i64 k):=ab hk 1
      have k2:W13.cell? ⟨w3.1.size,2,none⟩=some (.slice p n c7):=ab hk 2
      have k3:W13.cell? ⟨w3.1.size,3,none⟩=some (.bool true):=ab hk 3
      have k4:W13.cell? ⟨w3.1.size,4,none⟩=some (.int .i64 vk):=ab hk 4
      have k5:W13.cell? ⟨w3.1.size,5,none⟩=some (.int .i64 vi):=ab hk 5
      have k6:W13.cell? ⟨w3.1.size,6,none⟩=some (.float .f64 vb):=ab hk 6
      have k7:W13.cell? ⟨w3.1.size,7,none⟩=some (.string vt):=ab hk 7
      have k8:W13.cell? ⟨w3.1.size,8,none⟩=some (.slice vp vn vc):=ab hk 8
      clear hrd13 HX7 HT13 HV13 HS13
      obtain⟨x,hxc⟩:∃x:Col,x=⟨⟨wd.toArray⟩,t,true,v⟩:=⟨_,rfl⟩
      rw[<-hxc] at HQ HCo
      have HLr:=tQ (HQl.out _ _ HQ.out)
      have HXg:Hid (Y=gJ ys (if r4.head?=some 44 then az (Tx.must [44,32] r4) fun r=>aB (Tx.pseq (Tx.pcol rf) m r) fun xs r=>.ok (x::xs,r) else .ok ([x],r4))):=by show Y=_;rw[HY2.out,HQ.out];rfl
      have hM:=i8 (u:=#[.string ⟨wd.toArray⟩,.int .i64 k,.slice p n c7,.bool true,.int .i64 vk,.int .i64 vi,.float .f64 vb,.string vt,.slice vp vn vc]) HL.out HBt.out HAx.out
      have hsx:=HAx.out.size
      have x0:W13.cell? ⟨w.1.size+2,0,none⟩=some (.slice q ys.length c):=ab hM.2.1 0
      have HRow:=tQ hM.1
      have HNx:=tQ hM.2.2
      have HSz:Hid ((ys.length+1)*120<=140737488355328):=by show _<=_;have:=HYl.out;have:=HS.out;omega
      have HBs:Hid (w.1.size+3<=(W13.alloc (.cells #[.string ⟨wd.toArray⟩,.int .i64 k,.slice p n c7,.bool true,.int .i64 vk,.int .i64 vi,.float .f64 vb,.string vt,.slice vp vn vc] 38)).1.size):=by show _<=_;have:=ae HL.out.t;simp;omega
      have hlx:w3.1.size<W13.1.size:=ae hk
      have hlx2:w.1.size+2<W13.1.size:=ae hM.2.1
      have hcx:¬w3.1.size=W13.1.size:=by omega
      have htx:¬w.1.size+2=W13.1.size:=by omega
      clear hM hsx hk hxc HQ HQl HY2
      go_wp2_with (at_builtin;refine cn (B:=w.1.size+3) (us:=us) (v:=.slice q ys.length c) (n:=ys.length) HRow.out (u:=#[.string ⟨wd.toArray⟩,.int .i64 k,.slice p n c7,.bool true,.int .i64 vk,.int .i64 vi,.float .f64 vb,.string vt,.slice vp vn vc]) rfl (iY _ _ _ _ _ _ _ _ _ _ _ _ _) (ad:=W13.1.size) (aj W13 _) HSz.out HBs.out (H:=W13.1.size+1) (by simp) rfl rfl rfl rfl ?_;intro g cap wA hr8 hg8 hn8;obtain⟨ht8,hrd8,hL8,hB8⟩:=HNx.out g cap wA hr8 hg8 (by simpa using hn8);have x8:wA.cell? ⟨w.1.size+2,0,none⟩=some (.slice q ys.length c):=ab ht8 0;have xf8:=ac ht8 0;obtain⟨hd8,hd9⟩:=hrd8 S (.ok (x,r4)) HDx.out;have c8:wA.cell? ⟨w.1.size+1,2,none⟩=some (.int .i64 0):=an.cell hd8 2;obtain⟨WB,hWB⟩:∃WB,WB=wA.setCell ⟨w.1.size+2,0,none⟩ (.slice (some ⟨g,0,none⟩) (ys.length+1) cap):=⟨_,rfl⟩;rw[<-hWB] at hd9 hL8 hB8;have HWB:=tQ hWB;have HDB:Hid (an WB (w.1.size+1) S r4):=hd9;have HLB:=tQ hL8;have HBB:=tQ (hB8 x HCo.out);clear hr8 hg8 hn8 ht8 hrd8 hL8 hB8 hd8 hd9 hWB)
      rw[<-HWB.out]
      have HI2:=tQ (eP HDB.out 44)
      clear HWB x0 xf8 x8 c8 HRow HNx HBs HCo HDx
      refine HI2.out.mono ?_
      rintro e wC ⟨rfl,nd2,hwC⟩
      have HDC:Hid (an wC (w.1.size+1) S r4):=by rw[hwC];exact an.drewN HDB.out nd2
      have HLC:Hid (ff w wC (some ⟨g,0,none⟩) (ys.length+1) cap):=by rw[hwC];exact HLB.out.step (am _ WB nd2)
      have HBC:Hid (∃us' Fs',aC wC (w.1.size+3) (.slice (some ⟨g,0,none⟩) (ys.length+1) cap) (ys.length+1) us' Fs' (ys++[x])):=by
       obtain⟨us',Fs',hb⟩:=HBB.out
       rw[hwC]
       exact⟨us',Fs',hb.aside (am (fun _=>False) WB nd2) (fun _ _ h=>h) (fun _ _ _ _ h=>h)⟩
      clear hwC HI2 HDB HLB HBB
      by_cases h44:r4.head?=some 44
      ·have g1:decide (r4.head?=some 44)=true:=decide_eq_true h44
       rw[g1]
       have HX6:Hid (Y=gJ ys (az (Tx.must [44,32] r4) fun r=>aB (Tx.pseq (Tx.pcol rf) m r) fun xs r=>.ok (x::xs,r))):=by show Y=_;rw[HXg.out,if_pos h44]
       have HM2:=tQ (bb HDC.out ⟨#[44,32]⟩ (by decide))
       rw[show(ByteArray.mk #[44,32]).data.toList=[44,32] from rfl] at HM2
       clear h44 g1 HXg
       go_wp2_with fail
       refine HM2.out.mono ?_
       rintro e w9 ⟨rfl,hq,ha9⟩
       have hL9:=HLC.out.step ha9
       have HRel:Hid ((∃(q:OA) (n c:Nat),Hid (ff w w9 q n c)∧(Hid (∃(ys:List Col) (l:Tx.Bs) (m:Nat),n=ys.length∧(∃us Fs,aC w9 (w.1.size+3) (.slice q n c) n us Fs ys)∧an w9 (w.1.size+1) S l∧l.length<m∧ys.length+l.length<=S.size∧Y=gJ ys (Tx.pseq (Tx.pcol rf) m l))∨Hid (∃e k,ap w9 (w.1.size+1) S e k∧Y=.error (e,k))))∧cP w9 (w.1.size+1) S<cP wr (w.1.size+1) S):=by
        show _∧_
        rw[HMs.out]
        cases hm:Tx.must [44,32] r4 with
        |error y=>
         obtain⟨e,m'⟩:=y
         rw[hm] at hq
         have hq:ap w9 (w.1.size+1) S e m':=hq
         refine⟨⟨_,_,_,hL9,.inr ⟨e,m',hq,?_⟩⟩,by rw[hq.msr];omega⟩
         rw[HX6.out,hm];rfl
        |ok r9=>
         rw[hm] at hq
         have hq:an w9 (w.1.size+1) S r9:=hq
         obtain⟨us',Fs',hb⟩:=HBC.out
         have hr3:=Tx.must_ok _ _ _ hm
         have hl3:=congrArg List.length hr3
         rw[List.length_append] at hl3
         have hl4:r4.length=2+r9.length:=hl3
         have h1:=HLr.out
         have h2:=HLm.out
         have h3:=HYl.out
         refine⟨⟨_,_,_,hL9,.inl ⟨ys++[x],r9,m,by simp,⟨us',Fs',hb.aside ha9 (fun g hg he=>by have:=(hb.lt g hg).1;omega) (fun j hj k hk he=>by have:=(hb.range j hj k hk).1;omega)⟩,hq,by omega,by rw[List.length_append,List.length_singleton];omega,?_⟩⟩,by rw[hq.msr];omega⟩
         rw[HX6.out,hm,je]
         rfl
       clear hq ha9 hL9 HM2 HX6 HDC HLC HBC HLr HLm HYl HMs
       go_wp2
       go_roundw
       case rel=>exact HRel.out.1
       case measure=>exact HRel.out.2
      ·have g1:decide (r4.head?=some 44)=false:=decide_eq_false h44
       rw[g1]
       have HYe:Hid (Y=.ok (ys++[x],r4)):=by show Y=_;rw[HXg.out,if_neg h44];rfl
       obtain⟨xs,hxs⟩:∃xs,xs=ys++[x]:=⟨_,rfl⟩
       rw[<-hxs] at HYe
       have HL5:=HLC
       have HB5:Hid (∃us Fs,aC wC (w.1.size+3) (.slice (some ⟨g,0,none⟩) (ys.length+1) cap) (ys.length+1) us Fs xs):=by rw[hxs];exact HBC.out
       have HN:Hid (xs.length=ys.length+1):=by show _=_;rw[hxs];simp
       have HBo:Hid ((ys.length+1)*120<=140737488351232):=by show _<=_;have:=HYl.out;have:=HS.out;omega
       have HWf:Hid (∀c∈xs,c.wf):=jP HRf.out (HY.out.symm.trans HYe.out) (by simp;have:=HS.out;omega)
       clear hxs HLC HBC HYl HLr HSz h44 g1 HXg HP HVa HMs HLm HRf
       by_cases hr0:r4=[]
       ·have HEnd:=tQ (bp (.ok (xs,[]):Tx.R (List Col×Tx.Bs)) (by rw[<-hr0];exact HDC.out))
        rw[show fa (.ok (xs,[]):Tx.R (List Col×Tx.Bs))=.ok xs from rfl] at HEnd
        have HT2:Hid (T=if Sch.err xs=0 then .ok xs else .error (Sch.err xs,0)):=by show T=_;rw[HT.out,HYe.out,hr0];rfl
        clear HYe HT HDC hr0
        go_wp2_with fail
        refine HEnd.out.mono ?_
        rintro e w4 ⟨rfl,hf,ha4⟩
        have hf:an w4 (w.1.size+1) S []:=hf
        have hL4:=HL5.out.step ha4
        have c2:w4.cell? ⟨w.1.size+1,2,none⟩=some (.int .i64 0):=hf.cell 2
        obtain⟨us4,Fs4,hb0⟩:=HB5.out
        have hbt4:=hb0.aside ha4 (fun g hg he=>by have:=(hb0.lt g hg).1;omega) (fun j hj k hk he=>by have:=(hb0.range j hj k hk).1;omega)
        obtain⟨p9,c9,hv9,hnc,-⟩:=hbt4.cols HBo.out
        have hnc:(ys.length+1)<=cap:=by injection hv9 with e1 e2 e3;rw[e3];exact hnc
        have hcl:=bV hbt4 HBo.out
        have HC:=tQ (iV xs (some ⟨g,0,none⟩) cap w4 (by rw[HN.out];exact HBo.out) (by rw[HN.out];exact hnc) hcl HWf.out)
        rw[HN.out] at HC
        have y0:w4.cell? ⟨w.1.size+2,0,none⟩=some (.slice (some ⟨g,0,none⟩) (ys.length+1) cap):=ab hL4.t 0
        have HL4:=tQ hL4
        have HBt4:=tQ hbt4
        obtain⟨er,her⟩:∃er,er=Sch.err xs:=⟨_,rfl⟩
        rw[<-her] at HC HT2
        clear hf ha4 hL4 hb0 hbt4 HEnd HL5 HB5 hv9 hnc hcl HWf her
        go_wp2_with fail
        refine HC.out.mono ?_
        rintro e w5 ⟨rfl,hb5⟩
        have hz1:=ay HL4.out.z hb5 (ae HL4.out.z)
        have ht1:=ay HL4.out.t hb5 (ae HL4.out.t)
        have y1:w5.cell? ⟨w.1.size+2,0,none⟩=some (.slice (some ⟨g,0,none⟩) (ys.length+1) cap):=ab ht1 0
        have m0:w5.cell? ⟨w.1.size,0,none⟩=some (.slice none 0 0):=ab hz1 0
        have mf0:=ac hz1 0
        by_cases h0:er=0
        ·have HT3:Hid (T=.ok xs):=by show T=_;rw[HT2.out,if_pos h0]
         obtain⟨X,hX⟩:∃X,X=w5.setCell ⟨w.1.size,0,none⟩ (.slice (some ⟨g,0,none⟩) (ys.length+1) cap):=⟨_,rfl⟩
         have HX:Hid (X.1[w.1.size]?=some (.cells #[.slice (some ⟨g,0,none⟩) (ys.length+1) cap] 25 (0,0))∧Below w.1.size w X∧bA X (some ⟨g,0,none⟩) xs):=by
          refine⟨by rw[hX,ai hz1 0];rfl,?_,?_⟩
          ·rw[hX];exact(HL4.out.b.trans (hb5.mono HL4.out.b.size)).setCell tX _
          ·rw[hX];exact bV ((HBt4.out.on hb5).set ⟨w.1.size,0,none⟩ _ (by show w.1.size<_;omega)) HBo.out
         have HXe2:=tQ hX
         subst h0
         clear hz1 ht1 hX hb5 HC HT2 y0 c2
         go_wp2
         rw[<-HXe2.out]
         refine bodyPost_ret (au rfl _ _ w.1.size _ _ _ _ rfl HX.out.1 Tryz.underlying25 rfl (by kernel_rfl)) rfl ?_
         rw[HT3.out]
         exact bm.of HN.out HX.out.2.2 HBo.out HX.out.2.1
        ·have HT3:Hid (T=.error (er,0)):=by show T=_;rw[HT2.out,if_neg h0]
         have g0:((er:Int) != 0)=true:=by rw[bne_iff_ne];omega
         obtain⟨X,hX⟩:∃X,X=w5.setCell ⟨w.1.size,0,none⟩ (.slice none 0 0):=⟨_,rfl⟩
         have HX:Hid (X.1[w.1.size]?=some (.cells #[.slice none 0 0] 25 (0,0))∧Below w.1.size w X):=by
          refine⟨by rw[hX,ai hz1 0];rfl,?_⟩
          rw[hX];exact(HL4.out.b.trans (hb5.mono HL4.out.b.size)).setCell tX _
         have HXe2:=tQ hX
         clear hz1 ht1 hX hb5 HC HT2 h0 y0 c2
         go_wp2
         rw[<-HXe2.out]
         refine bodyPost_ret (au rfl _ _ w.1.size _ _ _ _ rfl HX.out.1 Tryz.underlying25 rfl (by kernel_rfl)) rfl ?_
         rw[HT3.out]
         exact bm.of rfl (fun j hj=>by simp[aY] at hj) (by omega) HX.out.2
       ·have e5:fa (.ok (xs,r4):Tx.R (List Col×Tx.Bs))=.error (5,r4.length):=if_neg hr0
        have HEnd:=tQ (bp (.ok (xs,r4):Tx.R (List Col×Tx.Bs)) HDC.out)
        rw[e5] at HEnd
        obtain⟨ek,hek⟩:∃ek:Nat,ek=5:=⟨_,rfl⟩
        obtain⟨en,hen⟩:∃en,en=r4.length:=⟨_,rfl⟩
        have HT2:Hid (T=.error (ek,S.size-en)):=by show T=_;rw[HT.out,HYe.out,e5,hek,hen]
        rw[<-hek,<-hen] at HEnd
        have HL0:=HL5
        clear HYe HT HDC hr0 e5 hek hen HL5 HB5 HN HBo HWf
        go_wp2_with fail
        refine HEnd.out.mono ?_
        rintro e w4 ⟨rfl,hf,ha4⟩
        have hf:ap w4 (w.1.size+1) S ek en:=hf
        have hL4:=HL0.out.step ha4
        obtain⟨aa,-,hl⟩:=hf.lies
        have c2:w4.cell? ⟨w.1.size+1,2,none⟩=some (.int .i64 (ek:Int)):=ab hl 2
        have c3:w4.cell? ⟨w.1.size+1,3,none⟩=some (.int .i64 ((S.size-en:Nat):Int)):=ab hl 3
        have g1:((ek:Int) != 0)=true:=by have:=hf.bad;rw[bne_iff_ne];omega
        have g2:((ek:Int)==0)=false:=by have:=hf.bad;rw[beq_eq_false_iff_ne];omega
        have m0:w4.cell? ⟨w.1.size,0,none⟩=some (.slice none 0 0):=ab hL4.z 0
        have mf0:=ac hL4.z 0
        obtain⟨sp,hsp⟩:∃sp:Nat,sp=S.size-en:=⟨_,rfl⟩
        rw[<-hsp] at c3
        have HT3:Hid (T=.error (ek,sp)):=by show _=_;rw[HT2.out,hsp]
        obtain⟨X,hX⟩:∃X,X=w4.setCell ⟨w.1.size,0,none⟩ (.slice none 0 0):=⟨_,rfl⟩
        have HX:Hid (X.drew.1[w.1.size]?=some (.cells #[.slice none 0 0] 25 (0,0))∧Below w.1.size w X.drew):=by
         refine⟨?_,?_⟩
         ·show X.1[w.1.size]?=_
          rw[hX,ai hL4.z 0];rfl
         ·rw[hX];exact(hL4.b.setCell tX _).drew
        have HXe2:=tQ hX
        clear hf hl hsp hL4 ha4 hX HT2 HEnd
        go_wp2_with fail
        go_region_held3 (fun w'=>w'.cell? ⟨w.1.size+1,2,none⟩=some (.int .i64 (ek:Int))∧w'.cell? ⟨w.1.size+1,3,none⟩=some (.int .i64 (sp:Int))) (go_keep) (fail)
        go_wp2
        rw[<-HXe2.out]
        refine bodyPost_ret (au rfl _ _ w.1.size _ _ _ _ rfl HX.out.1 Tryz.underlying25 rfl (by kernel_rfl)) rfl ?_
        rw[HT3.out]
        exact bm.of rfl (fun j hj=>by simp[aY] at hj) (by omega) HX.out.2
end
end Go.Proofs.YtllbniljgcgbeaaGreatDoor

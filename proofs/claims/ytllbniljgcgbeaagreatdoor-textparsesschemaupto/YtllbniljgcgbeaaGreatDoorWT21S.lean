import Derived.Test.YtllbniljgcgbeaaGreatDoorA19
set_option maxRecDepth 100000
set_option maxHeartbeats 8000000
namespace Go.Proofs.YtllbniljgcgbeaaGreatDoor
open Go.RowKit Go.BigFrame
theorem aK{P:Program}{f:FuncId}{args:AV}{w:World}{v:Value}{N a:Nat}(h:∀w',Calls P f args w' fun e w''=>e=.returned v∧w''=w'):Calls P f args (w.drewN (N+a)) fun e w''=>e=.returned v∧∃n,w''=w.drewN (N+n):=(h _).mono fun _ _ h=>⟨h.1,a,h.2⟩
theorem kl(q c0:UInt8)(l0:Tx.Bs)(w:World)(R:Nat)(S:ByteArray)(h:an w R S (c0::l0)):Calls Tryz.prog 59 #[.pointer (some ⟨R,0,none⟩),.int .u8 (q.toNat:Int)] w (dS w R S (Tx.pq q l0)):=by
 have c1:w.cell? ⟨R,1,none⟩=some (.int .i64 ((S.size-(c0::l0).length:Nat):Int)):=h.cell 1
 have t1:=h.thawed 1
 have hsm:=h.small
 have hRw:=h.lt
 obtain⟨a0,ha0⟩:∃a,a=S.size-(c0::l0).length:=⟨_,rfl⟩
 obtain⟨hr1,hA1⟩:=h.step 1 (by simp) ((a0:Int)+1) (by rw[ha0];rfl)
 rw[<-ha0] at c1
 have ha9:a0<=S.size:=by omega
 rw[show(c0::l0).drop 1=l0 from rfl] at hr1
 have HR1:=tQ hr1
 have HA1:=tQ hA1
 have HRw:=tQ hRw
 clear h ha0 hr1 hA1 hRw
 go_enter Tryz.func59,Tryz.ntmps59
 go_wp2_with fail
 go_loopw [5] (fun v5 wr=>∃(xs l:Tx.Bs) (p:OA) (cap:Nat),v5=.slice p xs.length cap∧xs.length+l.length<=S.size∧Hid (Has wr w.1.size (.slice p xs.length cap) xs)∧Hid (an wr R S l)∧Hid (pre xs (Tx.pq q l)=Tx.pq q l0)∧Hid (Aside (fun k=>k=R) w wr)) (fun _ wr=>S.size-atOf21 wr R)
 case atStart=>exact⟨[],l0,none,0,rfl,by have:=HR1.out.le;simpa using this,cj _ _,HR1,pre_nil _,HA1⟩
 case round=>
  obtain⟨xs,l,p,cap,rfl,hxl,HH,HR,HP,HA⟩:=hrel
  have y0:wr.cell? ⟨R,0,none⟩=some (.string S):=HR.out.cell 0
  have y1:wr.cell? ⟨R,1,none⟩=some (.int .i64 ((S.size-l.length:Nat):Int)):=HR.out.cell 1
  have hle:=HR.out.le
  obtain⟨a,ha⟩:∃a,a=S.size-l.length:=⟨_,rfl⟩
  have has:a+l.length=S.size:=by omega
  rw[<-ha] at y1
  have HF:=tQ (fun k=>aP (HR.out.drewN k) 5 l.length (by decide))
  rw[<-ha] at HF
  have HBad:Hid (∀k w',(∃n,Tx.pq q l=.error (5,n)∧ap w' R S 5 n)->Aside (fun k=>k=R) (wr.drewN k) w'->dS w R S (Tx.pq q l0) (.returned (.string ⟨#[]⟩)) w'):=fun k w' ⟨n,h1,h2⟩ h3=>by
   refine⟨_,rfl,?_,fun y r hc=>?_,(HA.out.trans (am _ wr k) (fun _ _ h=>h)).trans h3 (fun _ _ h=>h)⟩
   ·rw[<-HP.out,h1];exact h2
   ·rw[<-HP.out,h1] at hc;cases hc
  match l with
  | []=>
   have e0:((S.size:Int)-(a:Int))=0:=by simp at has;omega
   have e1:S.size-a=0:=by simp at has;omega
   have HB2:Hid (∀k w',ap w' R S 5 ([]:Tx.Bs).length->Aside (fun k=>k=R) (wr.drewN k) w'->dS w R S (Tx.pq q l0) (.returned (.string ⟨#[]⟩)) w'):=fun k w' h1 h2=>HBad.out k w' ⟨0,rfl,h1⟩ h2
   clear HBad HP HH HR HA ha
   as_aux_lemma=>
    go_wp2_with fail
    go_quiet (fail)
    go_wp2_with fail
    refine(HF.out _).mono ?_
    rintro e w1 ⟨rfl,hb,ha1⟩
    have HE:=tQ (HB2.out _ _ hb ha1)
    clear hb ha1 HF HB2
    go_wp2
    go_ret
    exact HE.out
  |c::r=>
   have hd':∃hlt:a<S.size,S[a]'hlt=c:=HR.out.gets ha 0 (by simp)
   obtain⟨hlt,hd⟩:=hd'
   have f1:(a:Int)<(S.size:Int):=by omega
   obtain⟨n,hn⟩:∃n,n=(c::r).length:=⟨_,rfl⟩
   have e0:(S.size:Int)-(a:Int)=(n:Int):=by omega
   have e1:((n:Int)==0)=false:=by rw[beq_eq_false_iff_ne];simp at hn;omega
   have e2:(n==0)=false:=by rw[beq_eq_false_iff_ne];simp at hn;omega
   have yt:=HR.out.thawed 1
   have HStep:=tQ (fun k j (hj:j<=(c::r).length)=>(HR.out.drewN k).step j hj ((a:Int)+j) (by rw[ha]))
   have HL:=tQ hxl
   have HLs:=tQ has
   have hc1:=UInt8.toNat_lt c
   have hq1:=UInt8.toNat_lt q
   have e9:∀x y:UInt8,x≠y->((x.toNat:Int)==(y.toNat:Int))=false:=fun x y h=>by rw[beq_eq_false_iff_ne];intro hc;exact h (UInt8.toNat_inj.1 (by omega))
   have HE9:=tQ e9
   have HN:=tQ hn
   clear e9
   by_cases hcq:c=q
   ·have g1:((c.toNat:Int)==(q.toNat:Int))=true:=by rw[hcq];exact beq_self_eq_true _
    have hcv:∀k,(convert 79 9 (.slice p xs.length cap)).run Tryz.prog ((wr.drewN k).setCell ⟨R,1,none⟩ (.int .i64 ((a:Int)+1)))=.ok (.string (textOf xs)) ((wr.drewN k).setCell ⟨R,1,none⟩ (.int .i64 ((a:Int)+1))):=fun k=>by
     have h1:=(HH.out.drewN k).aside (HStep.out k 1 (by simp)).2 (fun i hi he=>by have:=(HH.out.lt i hi).1;have:=HRw.out;omega)
     obtain⟨p',cap',he,hat,-⟩:=h1.at
     injection he with h2 h3 h4
     subst h2
     exact cZ hat cap
    have HE:Hid (∀k,dS w R S (Tx.pq q l0) (.returned (.string (textOf xs))) ((wr.drewN k).setCell ⟨R,1,none⟩ (.int .i64 ((a:Int)+1)))):=fun k=>by
     obtain⟨h1,h2⟩:=HStep.out k 1 (by simp)
     have h3:Tx.pq q l0=.ok (xs,r):=by rw[<-HP.out,hcq,tg];show Except.ok (xs++[],r)=_;rw[List.append_nil]
     rw[h3]
     exact⟨_,rfl,h1,fun y r' hc=>by cases hc;rfl,(HA.out.trans (am _ wr k) (fun _ _ h=>h)).trans h2 (fun _ _ h=>h)⟩
    clear ha hn hcq hle has hxl HStep HF HBad
    as_aux_lemma=>
     go_wp2_with fail
     go_quiet (fail)
     go_wp2_with fail
     go_quiet (fail)
     go_wp2
     go_ret
     exact HE.out _
   ·have g1:((c.toNat:Int)==(q.toNat:Int))=false:=HE9.out c q hcq
    by_cases hout:c.toNat<32∨126<c.toNat
    ·have HB2:Hid (∀k w',ap w' R S 5 (c::r).length->Aside (fun k=>k=R) (wr.drewN k) w'->dS w R S (Tx.pq q l0) (.returned (.string ⟨#[]⟩)) w'):=fun k w' h1 h2=>HBad.out k w' ⟨r.length+1,rU hcq hout,h1⟩ h2
     rcases hout with hout | hout
     ·have g2:(c.toNat:Int)<32:=by omega
      have g3:decide ((c.toNat:Int)<32)=true:=decide_eq_true g2
      have g4:decide (c.toNat<32)=true:=decide_eq_true hout
      clear ha hn hcq hle has hxl HStep HBad hout
      as_aux_lemma=>
       go_wp2_with fail
       go_quiet (fail)
       go_wp2_with fail
       go_quiet (fail)
       go_wp2_with fail
       go_quiet (fail)
       go_wp2_with fail
       refine(HF.out _).mono ?_
       rintro e w1 ⟨rfl,hb,ha1⟩
       have HE:=tQ (HB2.out _ _ hb ha1)
       clear hb ha1 HF HB2
       go_wp2
       go_ret
       exact HE.out
     ·have g2:¬(c.toNat:Int)<32:=by omega
      have g3:decide ((c.toNat:Int)<32)=false:=decide_eq_false g2
      have g4:decide (c.toNat<32)=false:=decide_eq_false (by omega)
      have g5:(126:Int)<(c.toNat:Int):=by omega
      have g6:decide ((126:Int)<(c.toNat:Int))=true:=decide_eq_true g5
      have g7:decide (126<c.toNat)=true:=decide_eq_true hout
      clear ha hn hcq hle has hxl HStep HBad hout
      as_aux_lemma=>
       go_wp2_with fail
       go_quiet (fail)
       go_wp2_with fail
       go_quiet (fail)
       go_wp2_with fail
       go_quiet (fail)
       go_wp2_with fail
       refine(HF.out _).mono ?_
       rintro e w1 ⟨rfl,hb,ha1⟩
       have HE:=tQ (HB2.out _ _ hb ha1)
       clear hb ha1 HF HB2
       go_wp2
       go_ret
       exact HE.out
    ·have g2:¬(c.toNat:Int)<32:=by omega
     have g3:decide ((c.toNat:Int)<32)=false:=decide_eq_false g2
     have g4:decide (c.toNat<32)=false:=decide_eq_false (by omega)
     have g5:¬(126:Int)<(c.toNat:Int):=by omega
     have g6:decide ((126:Int)<(c.toNat:Int))=false:=decide_eq_false g5
     have g7:decide (126<c.toNat)=false:=decide_eq_false (by omega)
     by_cases h92:c=92
     ·have g8:((c.toNat:Int) != 92)=false:=by rw[h92];rfl
      have g9:((c.toNat:Int)==92)=true:=by rw[h92];rfl
      have hq92:(92:UInt8)≠q:=by rw[<-h92];exact hcq
      match r with
      | []=>
       have n1:¬(1:Int)<(n:Int):=by simp at hn;omega
       have n2:decide ((1:Int)<(n:Int))=false:=decide_eq_false n1
       have n3:decide (1<n)=false:=decide_eq_false (by omega)
       have n4:¬(3:Int)<(n:Int):=by omega
       have n5:decide ((3:Int)<(n:Int))=false:=decide_eq_false n4
       have n6:decide (3<n)=false:=decide_eq_false (by omega)
       have HB2:Hid (∀k w',ap w' R S 5 (c::[]).length->Aside (fun k=>k=R) (wr.drewN k) w'->dS w R S (Tx.pq q l0) (.returned (.string ⟨#[]⟩)) w'):=fun k w' h1 h2=>HBad.out k w' ⟨_,(by rw[h92];exact pb hq92),h1⟩ h2
       clear ha hn hcq hle has hxl HBad HStep hout h92 hq92
       as_aux_lemma=>
        go_wp2_with fail
        go_quiet (fail)
        go_wp2_with fail
        go_quiet (fail)
        go_wp2_with fail
        go_quiet (fail)
        go_wp2_with fail
        go_quiet (fail)
        go_wp2_with fail
        go_quiet (fail)
        go_wp2_with fail
        go_quiet (fail)
        go_wp2_with fail
        refine(HF.out _).mono ?_
        rintro e w1 ⟨rfl,hb,ha1⟩
        have HE:=tQ (HB2.out _ _ hb ha1)
        clear hb ha1 HF HB2
        go_wp2
        go_ret
        exact HE.out
      |d::r1=>
       obtain⟨hlt1,hd1⟩:∃hlt:a+1<S.size,S[a+1]'hlt=d:=HR.out.gets ha 1 (by simp)
       have f2:(a:Int)+1<(S.size:Int):=by omega
       have n1:(1:Int)<(n:Int):=by simp at hn;omega
       have n2:decide ((1:Int)<(n:Int))=true:=decide_eq_true n1
       have n3:decide (1<n)=true:=decide_eq_true (by omega)
       have hd9:=UInt8.toNat_lt d
       by_cases hde:d=q∨d=92
       ·have HPq:Hid (pre (xs++[d]) (Tx.pq q r1)=Tx.pq q l0):=by
         show _=_
         rw[<-HP.out,h92,pa hq92 hde,eb]
        have HK:Hid (((d.toNat:Int)==(q.toNat:Int))=true∨(((d.toNat:Int)==(q.toNat:Int))=false∧((d.toNat:Int)==92)=true)):=by
         by_cases h1:d=q
         ·exact .inl (by rw[h1];exact beq_self_eq_true _)
         ·exact .inr ⟨HE9.out d q h1,by rw[hde.resolve_left h1];rfl⟩
        have HHa:=tQ ha
        have ewa:IntKind.i64.wrap ((a:Int)+1)=(a:Int)+1:=by rw[IntKind.wrap_i64];omega
        have fz:(0:Int)<=(a:Int)+1:=by omega
        clear ha hn hcq hle has hxl HBad HF HStep hout h92 hq92 hde
        rcases HK.out with k1 | ⟨k1,k2⟩
        all_goals
         as_aux_lemma=>
          go_wp2_with fail
          go_quiet (fail)
          go_wp2_with fail
          go_quiet (fail)
          go_wp2_with fail
          go_quiet (fail)
          go_wp2_with fail
          go_quiet (fail)
          go_wp2_with fail
          go_quiet (fail)
          go_wp2_with fail
          refine dx (RdS R S a) [(true,0),(true,1),(true,2),(true,3),(true,4),(true,5),(true,6),(true,7),(true,8),(true,9),(true,10),(false,11),(false,12),(true,13)] (by kernel_rfl) (by kernel_rfl) (fun c d v a w h=>by cases d <;> exact h) ⟨y0,y1⟩ ?_
          iterate 11
           refine bZ ?_
           simp only[List.getElem?_cons_succ,List.getElem?_cons_zero]
           apply Exists.intro
           refine⟨fun z hz=>?_,?_⟩
           ·obtain⟨z0,z1⟩:=hz
            go_simp
            try with_reducible rfl
           try simp only[Act.put,List.setIfInBounds_toArray,List.set_cons_zero,List.set_cons_succ]
          refine de ?_
          simp only[List.getElem?_cons_succ,List.getElem?_cons_zero]
          intro K hK
          go_simp
          have hba:∀k,Below w.1.size wr ((wr.drewN k).drew.alloc (.cells #[.int .u8 (d.toNat:Int)] 5)):=fun k=>((gX HA.out.size k).drew).alloc HA.out.size _
          refine hK _ _ (RdS.on ⟨y0,y1⟩ HRw.out (hba _)) ?_
          clear hK K
          try simp only[Act.put,List.setIfInBounds_toArray,List.set_cons_zero,List.set_cons_succ]
          refine de ?_
          simp only[List.getElem?_cons_succ,List.getElem?_cons_zero]
          intro K hK
          refine kD (B:=w.1.size) (xs:=xs) (l:=[d]) (p:=some ⟨wr.1.size,0,none⟩) (c:=1) (((HH.out.drewN _).drew).alloc _) (mi (w:=(wr.drewN _).drew) [d] (C:=#[.int .u8 (d.toNat:Int)]) rfl) (by have:=HL.out;simp at this ⊢;omega) (Nat.le_trans HA.out.size (hba _).size) (.tmp 150) (.tmp 161) rfl rfl rfl rfl ?_
          intro ys q3 cap3 W HY hH3 hb3
          have hbW:=(hba _).trans hb3
          refine hK _ _ (RdS.on ⟨y0,y1⟩ HRw.out hbW) ?_
          clear hK K
          try simp only[Act.put,List.setIfInBounds_toArray,List.set_cons_zero,List.set_cons_succ]
          refine bZ ?_
          simp only[List.getElem?_cons_succ,List.getElem?_cons_zero]
          apply Exists.intro
          refine⟨fun z hz=>?_,?_⟩
          ·go_simp
           try with_reducible rfl
          try simp only[Act.put,List.setIfInBounds_toArray,List.set_cons_zero,List.set_cons_succ]
          refine fD ?_
          obtain⟨m0,m1,mt,HR3,HH3,HA3⟩:=gC rfl HRw.out HHa.out HR.out HA.out hbW hH3 2 (by simp)
          clear hba hb3 hbW hH3
          go_wp2
          go_roundw
          case rel=>exact⟨ys,_,_,_,rfl,(by have:=HL.out;rw[HY.out];simp at this ⊢;omega),HH3,HR3,(show _=_ by rw[HY.out];exact HPq.out),HA3⟩
          case measure=>show S.size-atOf21 (W.setCell ⟨R,1,none⟩ (.int .i64 ((a:Int)+((2:Nat):Int)))) R<_;rw[an.atOf21 HR3.out,an.atOf21 HR.out];have:=HR.out.le;simp at this ⊢;omega
       ·have k1:((d.toNat:Int)==(q.toNat:Int))=false:=HE9.out d q (fun h=>hde (.inl h))
        have k2:((d.toNat:Int)==92)=false:=HE9.out d 92 (fun h=>hde (.inr h))
        by_cases h4:3<n
        ·match r1,h4 with
         | [],h4=>exact absurd h4 (by simp at hn;omega)
         | [x],h4=>exact absurd h4 (by simp at hn;omega)
         |x::y::r2,h4=>
          obtain⟨hlt2,hd2⟩:∃hlt:a+2<S.size,S[a+2]'hlt=x:=HR.out.gets ha 2 (by simp)
          obtain⟨hlt3,hd3⟩:∃hlt:a+3<S.size,S[a+3]'hlt=y:=HR.out.gets ha 3 (by simp)
          have f3:(a:Int)+2<(S.size:Int):=by omega
          have f4:(a:Int)+3<(S.size:Int):=by omega
          have n4:(3:Int)<(n:Int):=by omega
          have n5:decide ((3:Int)<(n:Int))=true:=decide_eq_true n4
          have n6:decide (3<n)=true:=decide_eq_true h4
          have HX:=tQ (fun w'=>iU x w')
          have HY:=tQ (fun w'=>iU y w')
          obtain⟨X,hX⟩:∃X,X=Tx.half x:=⟨_,rfl⟩
          obtain⟨Y,hY⟩:∃Y,Y=Tx.half y:=⟨_,rfl⟩
          rw[<-hX] at HX
          rw[<-hY] at HY
          by_cases h120:d=120
          ·have k3:((d.toNat:Int)==120)=true:=by rw[h120];rfl
           by_cases hx16:X<16
           ·have m1:(X:Int)<16:=by omega
            have m2:decide ((X:Int)<16)=true:=decide_eq_true m1
            have m3:decide (X<16)=true:=decide_eq_true hx16
            by_cases hy16:Y<16
            ·have m4:(Y:Int)<16:=by omega
             have m5:decide ((Y:Int)<16)=true:=decide_eq_true m4
             have m6:decide (Y<16)=true:=decide_eq_true hy16
             by_cases hv:32<=16*X+Y∧16*X+Y<=126
             ·obtain⟨v,hv0⟩:∃v,v=16*X+Y:=⟨_,rfl⟩
              have e7:16*(X:Int)+(Y:Int)=(v:Int):=by omega
              have v1:(32:Int)<=(v:Int):=by omega
              have v2:(v:Int)<=126:=by omega
              have v3:decide ((32:Int)<=(v:Int))=true:=decide_eq_true v1
              have v4:decide ((v:Int)<=126)=true:=decide_eq_true v2
              have v5:decide (32<=v)=true:=decide_eq_true (by omega)
              have v6:decide (v<=126)=true:=decide_eq_true (by omega)
              have HB2:Hid (∀k w',ap w' R S 5 (c::d::x::y::r2).length->Aside (fun k=>k=R) (wr.drewN k) w'->dS w R S (Tx.pq q l0) (.returned (.string ⟨#[]⟩)) w'):=fun k w' h1 h2=>HBad.out k w' ⟨_,(by rw[h92];exact dK hq92 hde (fun x' y' r' hc hh=>by cases hc;exact hh.2.2.2 (by rw[<-hX,<-hY];exact hv))),h1⟩ h2
              clear ha hn hcq hle has hxl HBad HStep hout h92 hq92 hde h4 hX hY hv h120 hv0
              have HV:=tQ (And.intro e7 (And.intro v1 (And.intro v2 (And.intro v3 (And.intro v4 (And.intro v5 v6))))))
              clear e7 v1 v2 v3 v4 v5 v6
              as_aux_lemma=>
               go_wp2_with fail
               go_quiet (fail)
               go_wp2_with fail
               go_quiet (fail)
               go_wp2_with fail
               go_quiet (fail)
               go_wp2_with fail
               go_quiet (fail)
               go_wp2_with fail
               go_quiet (fail)
               go_wp2_with fail
               have zz1:(0:Int)<=(a:Int)+1:=by omega
               have zz2:(0:Int)<=(a:Int)+2:=by omega
               have zz3:(0:Int)<=(a:Int)+3:=by omega
               have dd1:∀h,S[((a:Int)+1).toNat]'h=d:=fun h=>by
                have t:((a:Int)+1).toNat=a+1:=by omega
                simp only[t];exact hd1
               have dd2:∀h,S[((a:Int)+2).toNat]'h=x:=fun h=>by
                have t:((a:Int)+2).toNat=a+2:=by omega
                simp only[t];exact hd2
               have dd3:∀h,S[((a:Int)+3).toNat]'h=y:=fun h=>by
                have t:((a:Int)+3).toNat=a+3:=by omega
                simp only[t];exact hd3
               refine wp_region_quiet_lit (by kernel_rfl) (by kernel_rfl) ?_
               repeat (go_big_quiet_step (first | (go_at_call 90;first | with_reducible exact aK HX.out | with_reducible exact aK HY.out)))
               refine wpQuiet_nil ?_
               intro _ hw'
               obtain⟨nq,hw''⟩:=hw'
               subst hw''
               obtain⟨e7,v1,v2,v3,v4,v5,v6⟩:=HV.out
               go_wp2_with fail
               refine wp_region_quiet_lit (by kernel_rfl) (by kernel_rfl) ?_
               repeat (go_big_quiet_step (first | (go_at_call 90;first | with_reducible exact aK HX.out | with_reducible exact aK HY.out)))
               refine wpQuiet_nil ?_
               intro _ hw'
               obtain⟨nq,hw''⟩:=hw'
               subst hw''
               go_wp2_with fail
               refine(HF.out _).mono ?_
               rintro e w1 ⟨rfl,hb,ha1⟩
               have HE:=tQ (HB2.out _ _ hb ha1)
               clear hb ha1 HF HB2
               go_wp2
               go_ret
               exact HE.out
             ·obtain⟨bt,hbt⟩:∃b,b=UInt8.ofNat (16*X+Y):=⟨_,rfl⟩
              have hbn:bt.toNat=16*X+Y:=by rw[hbt,UInt8.toNat_ofNat'];omega
              have e7:16*(X:Int)+(Y:Int)=(bt.toNat:Int):=by omega
              have ew:IntKind.u8.wrap (bt.toNat:Int)=(bt.toNat:Int):=by rw[IntKind.wrap_u8];omega
              have HPq:Hid (pre (xs++[bt]) (Tx.pq q r2)=Tx.pq q l0):=by
               show _=_
               rw[<-HP.out,h92,h120,o9 hq92 (by rw[<-h120];exact hde) (by omega) (by omega) (by rw[<-hX,<-hY];exact hv),eb,<-hX,<-hY,<-hbt]
              have hvv:((32:Int)<=(bt.toNat:Int)∧¬(bt.toNat:Int)<=126)∨¬(32:Int)<=(bt.toNat:Int):=by omega
              have HVv:Hid ((decide ((32:Int)<=(bt.toNat:Int))=true∧decide (32<=bt.toNat)=true∧decide ((bt.toNat:Int)<=126)=false∧decide (bt.toNat<=126)=false)∨(decide ((32:Int)<=(bt.toNat:Int))=false∧decide (32<=bt.toNat)=false)):=by
               rcases hvv with ⟨h1,h2⟩ | h1
               ·exact .inl ⟨decide_eq_true h1,decide_eq_true (by omega),decide_eq_false h2,decide_eq_false (by omega)⟩
               ·exact .inr ⟨decide_eq_false h1,decide_eq_false (by omega)⟩
              have HHa:=tQ ha
              have hba:∀k,Below w.1.size wr ((wr.drewN k).alloc (.cells #[.int .u8 (bt.toNat:Int)] 5)):=fun k=>(gX HA.out.size k).alloc HA.out.size _
              have HBa:=tQ hba
              clear ha hn hcq hle has hxl HBad HStep hout h92 hq92 hde h4 hX hY hv h120 hbt hbn hvv hba HF
              have HV:=tQ (And.intro e7 ew)
              clear e7 ew
              as_aux_lemma=>
               go_wp2_with fail
               go_quiet (fail)
               go_wp2_with fail
               go_quiet (fail)
               go_wp2_with fail
               go_quiet (fail)
               go_wp2_with fail
               go_quiet (fail)
               go_wp2_with fail
               go_quiet (fail)
               go_wp2_with fail
               have zz1:(0:Int)<=(a:Int)+1:=by omega
               have zz2:(0:Int)<=(a:Int)+2:=by omega
               have zz3:(0:Int)<=(a:Int)+3:=by omega
               have dd1:∀h,S[((a:Int)+1).toNat]'h=d:=fun h=>by
                have t:((a:Int)+1).toNat=a+1:=by omega
                simp only[t];exact hd1
               have dd2:∀h,S[((a:Int)+2).toNat]'h=x:=fun h=>by
                have t:((a:Int)+2).toNat=a+2:=by omega
                simp only[t];exact hd2
               have dd3:∀h,S[((a:Int)+3).toNat]'h=y:=fun h=>by
                have t:((a:Int)+3).toNat=a+3:=by omega
                simp only[t];exact hd3
               refine wp_region_quiet_lit (by kernel_rfl) (by kernel_rfl) ?_
               repeat (go_big_quiet_step (first | (go_at_call 90;first | with_reducible exact aK HX.out | with_reducible exact aK HY.out)))
               refine wpQuiet_nil ?_
               intro _ hw'
               obtain⟨nq,hw''⟩:=hw'
               subst hw''
               obtain⟨e7,ew⟩:=HV.out
               rcases HVv.out with ⟨v1,v2,v3,v4⟩ | ⟨v1,v2⟩
               all_goals
                go_wp2_with fail
                refine wp_region_quiet_lit (by kernel_rfl) (by kernel_rfl) ?_
                repeat (go_big_quiet_step (first | (go_at_call 90;first | with_reducible exact aK HX.out | with_reducible exact aK HY.out)))
                refine wpQuiet_nil ?_
                intro _ hw'
                obtain⟨nq,hw''⟩:=hw'
                subst hw''
                go_wp2_with (at_builtin;refine aJ (B:=w.1.size) (xs:=xs) (l:=[bt]) (p:=some ⟨wr.1.size,0,none⟩) ((HH.out.drewN _).alloc _) (mi (w:=wr.drewN _) [bt] (C:=#[.int .u8 (bt.toNat:Int)]) rfl) (by have:=HL.out;simp at this ⊢;omega) (Nat.le_trans HA.out.size (HBa.out _).size) rfl rfl rfl rfl rfl ?_;intro ys q3 cap3 W HYs hH3 ha3 hb3;have hbW:=(HBa.out _).trans (aH ha3 ((HH.out.drewN _).alloc _) (Nat.le_trans HA.out.size (HBa.out _).size));obtain⟨m0,m1',mt,HR3,HH3,HA3⟩:=gC rfl HRw.out HHa.out HR.out HA.out hbW hH3 4 (by simp);clear hH3 ha3 hb3 hbW)
                go_roundw
                case rel=>exact⟨ys,_,_,_,rfl,(by have:=HL.out;rw[HYs.out];simp at this ⊢;omega),HH3,HR3,(show _=_ by rw[HYs.out];exact HPq.out),HA3⟩
                case measure=>show S.size-atOf21 (W.setCell ⟨R,1,none⟩ (.int .i64 ((a:Int)+((4:Nat):Int)))) R<_;rw[an.atOf21 HR3.out,an.atOf21 HR.out];have:=HR.out.le;simp at this ⊢;omega
            ·have m4:¬(Y:Int)<16:=by omega
             have m5:decide ((Y:Int)<16)=false:=decide_eq_false m4
             have m6:decide (Y<16)=false:=decide_eq_false hy16
             have HB2:Hid (∀k w',ap w' R S 5 (c::d::x::y::r2).length->Aside (fun k=>k=R) (wr.drewN k) w'->dS w R S (Tx.pq q l0) (.returned (.string ⟨#[]⟩)) w'):=fun k w' h1 h2=>HBad.out k w' ⟨_,(by rw[h92];exact dK hq92 hde (fun x' y' r' hc hh=>by cases hc;exact hy16 (by rw[hY];exact hh.2.2.1))),h1⟩ h2
             clear ha hn hcq hle has hxl HBad HStep hout h92 hq92 hde h4 hX hY hy16 h120
             as_aux_lemma=>
              go_wp2_with fail
              go_quiet (fail)
              go_wp2_with fail
              go_quiet (fail)
              go_wp2_with fail
              go_quiet (fail)
              go_wp2_with fail
              go_quiet (fail)
              go_wp2_with fail
              go_quiet (fail)
              go_wp2_with fail
              have zz1:(0:Int)<=(a:Int)+1:=by omega
              have zz2:(0:Int)<=(a:Int)+2:=by omega
              have zz3:(0:Int)<=(a:Int)+3:=by omega
              have dd1:∀h,S[((a:Int)+1).toNat]'h=d:=fun h=>by
               have t:((a:Int)+1).toNat=a+1:=by omega
               simp only[t];exact hd1
              have dd2:∀h,S[((a:Int)+2).toNat]'h=x:=fun h=>by
               have t:((a:Int)+2).toNat=a+2:=by omega
               simp only[t];exact hd2
              have dd3:∀h,S[((a:Int)+3).toNat]'h=y:=fun h=>by
               have t:((a:Int)+3).toNat=a+3:=by omega
               simp only[t];exact hd3
              go_quiet (first | (go_at_call 90;first | with_reducible exact aK HX.out | with_reducible exact aK HY.out))
              go_wp2_with fail
              refine(HF.out _).mono ?_
              rintro e w1 ⟨rfl,hb,ha1⟩
              have HE:=tQ (HB2.out _ _ hb ha1)
              clear hb ha1 HF HB2
              go_wp2
              go_ret
              exact HE.out
           ·have m1:¬(X:Int)<16:=by omega
            have m2:decide ((X:Int)<16)=false:=decide_eq_false m1
            have m3:decide (X<16)=false:=decide_eq_false hx16
            have HB2:Hid (∀k w',ap w' R S 5 (c::d::x::y::r2).length->Aside (fun k=>k=R) (wr.drewN k) w'->dS w R S (Tx.pq q l0) (.returned (.string ⟨#[]⟩)) w'):=fun k w' h1 h2=>HBad.out k w' ⟨_,(by rw[h92];exact dK hq92 hde (fun x' y' r' hc hh=>by cases hc;exact hx16 (by rw[hX];exact hh.2.1))),h1⟩ h2
            clear ha hn hcq hle has hxl HBad HStep hout h92 hq92 hde h4 hX hY hx16 h120
            as_aux_lemma=>
             go_wp2_with fail
             go_quiet (fail)
             go_wp2_with fail
             go_quiet (fail)
             go_wp2_with fail
             go_quiet (fail)
             go_wp2_with fail
             go_quiet (fail)
             go_wp2_with fail
             go_quiet (fail)
             go_wp2_with fail
             have zz1:(0:Int)<=(a:Int)+1:=by omega
             have zz2:(0:Int)<=(a:Int)+2:=by omega
             have zz3:(0:Int)<=(a:Int)+3:=by omega
             have dd1:∀h,S[((a:Int)+1).toNat]'h=d:=fun h=>by
              have t:((a:Int)+1).toNat=a+1:=by omega
              simp only[t];exact hd1
             have dd2:∀h,S[((a:Int)+2).toNat]'h=x:=fun h=>by
              have t:((a:Int)+2).toNat=a+2:=by omega
              simp only[t];exact hd2
             have dd3:∀h,S[((a:Int)+3).toNat]'h=y:=fun h=>by
              have t:((a:Int)+3).toNat=a+3:=by omega
              simp only[t];exact hd3
             go_quiet (first | (go_at_call 90;first | with_reducible exact aK HX.out | with_reducible exact aK HY.out))
             go_wp2_with fail
             refine(HF.out _).mono ?_
             rintro e w1 ⟨rfl,hb,ha1⟩
             have HE:=tQ (HB2.out _ _ hb ha1)
             clear hb ha1 HF HB2
             go_wp2
             go_ret
             exact HE.out
          ·have k3:((d.toNat:Int)==120)=false:=HE9.out d 120 h120
           have HB2:Hid (∀k w',ap w' R S 5 (c::d::x::y::r2).length->Aside (fun k=>k=R) (wr.drewN k) w'->dS w R S (Tx.pq q l0) (.returned (.string ⟨#[]⟩)) w'):=fun k w' h1 h2=>HBad.out k w' ⟨_,(by rw[h92];exact dK hq92 hde (fun x' y' r' hc hh=>by cases hc;exact h120 hh.1)),h1⟩ h2
           clear ha hn hcq hle has hxl HBad HStep hout h92 hq92 hde h4 hX hY h120
           as_aux_lemma=>
            go_wp2_with fail
            go_quiet (fail)
            go_wp2_with fail
            go_quiet (fail)
            go_wp2_with fail
            go_quiet (fail)
            go_wp2_with fail
            go_quiet (fail)
            go_wp2_with fail
            go_quiet (fail)
            go_wp2_with fail
            go_quiet (first | (go_at_call 90;first | with_reducible exact aK HX.out | with_reducible exact aK HY.out))
            go_wp2_with fail
            refine(HF.out _).mono ?_
            rintro e w1 ⟨rfl,hb,ha1⟩
            have HE:=tQ (HB2.out _ _ hb ha1)
            clear hb ha1 HF HB2
            go_wp2
            go_ret
            exact HE.out
        ·have n4:¬(3:Int)<(n:Int):=by omega
         have n5:decide ((3:Int)<(n:Int))=false:=decide_eq_false n4
         have n6:decide (3<n)=false:=decide_eq_false h4
         have HB2:Hid (∀k w',ap w' R S 5 (c::d::r1).length->Aside (fun k=>k=R) (wr.drewN k) w'->dS w R S (Tx.pq q l0) (.returned (.string ⟨#[]⟩)) w'):=fun k w' h1 h2=>HBad.out k w' ⟨_,(by rw[h92];exact dK hq92 hde (fun x y r2 hc _=>by rw[hc] at hn;simp at hn;omega)),h1⟩ h2
         clear ha hn hcq hle has hxl HBad HStep hout h92 hq92 hde h4
         as_aux_lemma=>
          go_wp2_with fail
          go_quiet (fail)
          go_wp2_with fail
          go_quiet (fail)
          go_wp2_with fail
          go_quiet (fail)
          go_wp2_with fail
          go_quiet (fail)
          go_wp2_with fail
          go_quiet (fail)
          go_wp2_with fail
          go_quiet (fail)
          go_wp2_with fail
          refine(HF.out _).mono ?_
          rintro e w1 ⟨rfl,hb,ha1⟩
          have HE:=tQ (HB2.out _ _ hb ha1)
          clear hb ha1 HF HB2
          go_wp2
          go_ret
          exact HE.out
     ·have g8:((c.toNat:Int) != 92)=true:=by rw[bne_iff_ne];intro hc;exact h92 (UInt8.toNat_inj.1 (by show c.toNat=92;omega))
      have g9:((c.toNat:Int)==92)=false:=HE9.out c 92 h92
      have HPq:Hid (pre (xs++[c]) (Tx.pq q r)=Tx.pq q l0):=by
       show _=_
       rw[<-HP.out,o8 q c r (by unfold plq;simp;exact⟨⟨by omega,h92⟩,hcq⟩),eb]
      have HHa:=tQ ha
      clear ha hn hcq hle has hxl HBad HF hout h92 HStep
      as_aux_lemma=>
       go_wp2_with fail
       go_quiet (fail)
       go_wp2_with fail
       go_quiet (fail)
       go_wp2_with fail
       go_quiet (fail)
       go_wp2_with fail
       go_quiet (fail)
       go_wp2_with fail
       refine dx (RdS R S a) [(true,0),(true,1),(true,2),(true,3),(true,4),(true,5),(true,6),(true,7),(true,8),(true,9),(false,10),(false,11),(true,12)] (by kernel_rfl) (by kernel_rfl) (fun c d v a w h=>by cases d <;> exact h) ⟨y0,y1⟩ ?_
       iterate 10
        refine bZ ?_
        simp only[List.getElem?_cons_succ,List.getElem?_cons_zero]
        apply Exists.intro
        refine⟨fun z hz=>?_,?_⟩
        ·obtain⟨z0,z1⟩:=hz
         go_simp
         try with_reducible rfl
        try simp only[Act.put,List.setIfInBounds_toArray,List.set_cons_zero,List.set_cons_succ]
       refine de ?_
       simp only[List.getElem?_cons_succ,List.getElem?_cons_zero]
       intro K hK
       go_simp
       have hba:∀k,Below w.1.size wr ((wr.drewN k).drew.alloc (.cells #[.int .u8 (c.toNat:Int)] 5)):=fun k=>((gX HA.out.size k).drew).alloc HA.out.size _
       refine hK _ _ (RdS.on ⟨y0,y1⟩ HRw.out (hba _)) ?_
       clear hK K
       try simp only[Act.put,List.setIfInBounds_toArray,List.set_cons_zero,List.set_cons_succ]
       refine de ?_
       simp only[List.getElem?_cons_succ,List.getElem?_cons_zero]
       intro K hK
       refine kD (B:=w.1.size) (xs:=xs) (l:=[c]) (p:=some ⟨wr.1.size,0,none⟩) (c:=1) (((HH.out.drewN _).drew).alloc _) (mi (w:=(wr.drewN _).drew) [c] (C:=#[.int .u8 (c.toNat:Int)]) rfl) (by have:=HL.out;simp at this ⊢;omega) (Nat.le_trans HA.out.size (hba _).size) (.tmp 101) (.tmp 111) rfl rfl rfl rfl ?_
       intro ys q3 cap3 W HY hH3 hb3
       have hbW:=(hba _).trans hb3
       refine hK _ _ (RdS.on ⟨y0,y1⟩ HRw.out hbW) ?_
       clear hK K
       try simp only[Act.put,List.setIfInBounds_toArray,List.set_cons_zero,List.set_cons_succ]
       refine bZ ?_
       simp only[List.getElem?_cons_succ,List.getElem?_cons_zero]
       apply Exists.intro
       refine⟨fun z hz=>?_,?_⟩
       ·go_simp
        try with_reducible rfl
       try simp only[Act.put,List.setIfInBounds_toArray,List.set_cons_zero,List.set_cons_succ]
       refine fD ?_
       obtain⟨m0,m1,mt,HR3,HH3,HA3⟩:=gC rfl HRw.out HHa.out HR.out HA.out hbW hH3 1 (by simp)
       clear hba hb3 hbW hH3
       go_wp2
       go_roundw
       case rel=>exact⟨ys,_,_,_,rfl,(by have:=HL.out;rw[HY.out];simp at this ⊢;omega),HH3,HR3,(show _=_ by rw[HY.out];exact HPq.out),HA3⟩
       case measure=>show S.size-atOf21 (W.setCell ⟨R,1,none⟩ (.int .i64 ((a:Int)+((1:Nat):Int)))) R<_;rw[an.atOf21 HR3.out,an.atOf21 HR.out];have:=HR.out.le;simp at this ⊢;omega
end Go.Proofs.YtllbniljgcgbeaaGreatDoor

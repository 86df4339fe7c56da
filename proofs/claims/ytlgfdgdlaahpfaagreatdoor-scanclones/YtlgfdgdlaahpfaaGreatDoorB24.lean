import Derived.Test.YtlgfdgdlaahpfaaGreatDoorB23
set_option maxRecDepth 100000
set_option maxHeartbeats 4000000
namespace Go.Proofs.YtlgfdgdlaahpfaaGreatDoor
open Go.RowKit
def mD(a b c:Nat)(es:List Ent):Fr:={ Fr0 with kind:=3,index:=⟨a,b,c,es⟩ }
theorem tt(l:L8):Fr.rdI l=am (Fr.nb 1099511627776 l) fun a k=>am (Fr.nb 1099511627776 (l.drop k)) fun b k2=>am (Fr.nb 1099511627776 ((l.drop k).drop k2)) fun c k3=>am (Fr.nb 65 (((l.drop k).drop k2).drop k3)) fun m k4=>am (Fr.rdE m ((((l.drop k).drop k2).drop k3).drop k4)) fun es j=>if (((((l.drop k).drop k2).drop k3).drop k4).drop j).length=0 then .ok (mD a b c es) else .error 5:=by
 have hle:∀{lim:Nat} {l:L8} {n k:Nat},Fr.nb lim l=.ok (n,k)->k<=l.length:=by
  intro lim l n k h
  obtain⟨_,r,h1,h2⟩:=Fr.nb_ok h
  rw[h1,h2,List.length_append]
  omega
 unfold Fr.rdI
 rw[uD]
 cases h1:Fr.nb 1099511627776 l with
 |error e=>rfl
 |ok p=>
  obtain⟨x,k⟩:=p
  dsimp only[am]
  cases h2:Fr.nb 1099511627776 (l.drop k) with
  |error e=>rfl
  |ok p=>
   obtain⟨y,k2⟩:=p
   dsimp only[am]
   cases h3:Fr.nb 1099511627776 ((l.drop k).drop k2) with
   |error e=>rfl
   |ok p=>
    obtain⟨z,k3⟩:=p
    dsimp only[am]
    cases h4:Fr.nb 65 (((l.drop k).drop k2).drop k3) with
    |error e=>rfl
    |ok p=>
     obtain⟨t,k4⟩:=p
     dsimp only[am]
     rw[tf]
     simp only[List.getD_cons_zero,List.getD_cons_succ]
     cases h5:Fr.rdE t ((((l.drop k).drop k2).drop k3).drop k4) with
     |error e=>rfl
     |ok p=>
      obtain⟨es,j⟩:=p
      dsimp only
      have g1:=hle h1
      have g2:=hle h2
      have g3:=hle h3
      have g4:=hle h4
      obtain⟨_,_,rr,g5,g6⟩:=Fr.rdE_ok _ _ _ _ h5
      have g7:=congrArg List.length g5
      simp only[List.length_append,List.length_drop] at g1 g2 g3 g4 g7
      have hiff:(k+(k2+(k3+(k4+0)))+j=l.length)↔((((((l.drop k).drop k2).drop k3).drop k4).drop j).length=0):=by
       simp only[List.length_drop]
       omega
      by_cases hq:k+(k2+(k3+(k4+0)))+j=l.length
      ·rw[if_pos hq,if_pos (hiff.1 hq)];rfl
      ·rw[if_neg hq,if_neg (fun hc=>hq (hiff.2 hc))]
def shE(es:List Ent)(J:Nat):Except Nat (List Ent×Nat)->Except Nat (List Ent×Nat)
 |.error e=>.error e
 |.ok (fs,j)=>.ok (es++fs,J+j)
theorem rY(a b:List Ent)(i j:Nat)(r:Except Nat (List Ent×Nat)):shE a i (shE b j r)=shE (a++b) (i+j) r:=by
 cases r with
 |error e=>rfl
 |ok p=>simp[shE,Nat.add_assoc]
theorem kE(m:Nat)(l:L8):Fr.rdE (m+1) l=am (Fr.nb 1099511627776 l) fun a k=>am (Fr.nb 1099511627776 (l.drop k)) fun b k2=>am (Fr.nb 1099511627776 ((l.drop k).drop k2)) fun c k3=>shE [⟨a,b,c⟩] (k+(k2+k3)) (Fr.rdE m (((l.drop k).drop k2).drop k3)):=by
 rw[Fr.rdE]
 unfold Fr.nbs
 cases Fr.nb 1099511627776 l with
 |error e=>rfl
 |ok p=>
  obtain⟨x,k⟩:=p
  dsimp only[am]
  unfold Fr.nbs
  cases Fr.nb 1099511627776 (l.drop k) with
  |error e=>rfl
  |ok p=>
   obtain⟨y,k2⟩:=p
   dsimp only[am]
   unfold Fr.nbs
   cases Fr.nb 1099511627776 ((l.drop k).drop k2) with
   |error e=>rfl
   |ok p=>
    obtain⟨z,k3⟩:=p
    dsimp only[am]
    unfold Fr.nbs
    dsimp only
    rw[show l.drop (k+(k2+(k3+0)))=((l.drop k).drop k2).drop k3 by rw[List.drop_drop,List.drop_drop,Nat.add_zero]]
    cases Fr.rdE m (((l.drop k).drop k2).drop k3) with
    |error e=>rfl
    |ok q=>rfl
theorem RdB.undrew{α:Type}{w w':World}{A R:Nat}{l:L8}{r:Except Nat (α×Nat)}{V:α->Value->World->Prop}{e:Ending}(h:RdB w.drew A R l r V e w'):RdB w A R l r V e w':=by
 cases r with
 |error k=>
  obtain⟨h1,h2⟩:=h.bad
  exact⟨h1,⟨h2.os,h2.tape,h2.output,h2.size,h2.block⟩⟩
 |ok aj=>
  obtain⟨a,j⟩:=aj
  obtain⟨v,h1,h2,h3,h4⟩:=h.good
  exact⟨v,h1,h2,h3,⟨h4.os,h4.tape,h4.output,h4.size,h4.block⟩⟩
structure gp(w wr:World)(A R X:Nat)(a b c:Nat)(v:Value)(es:List Ent)(l:L8):Prop where
 bO:wr.1[w.1.size]?=some (.cells #[.int .i64 0,.int .i64 0,.int .i64 0,.slice none 0 0] 128 (0,0))
 bX:wr.1[X]?=some (.cells #[.int .i64 a,.int .i64 b,.int .i64 c,v] 34 (0,0))
 own:bf wr (X+1) v es
 rd:bS wr A R l
 aside:Aside (fun i=>i=R) w wr
 size:X+1<=wr.1.size
 low:w.1.size<X∧R<w.1.size
theorem gp.step{w wr w2:World}{A R X a b c:Nat}{v:Value}{es:List Ent}{l l2:L8}(h:gp w wr A R X a b c v es l)(ha:Aside (fun i=>i=R) wr w2)(hr:bS w2 A R l2):gp w w2 A R X a b c v es l2:=by
 have hl:=h.low
 have hs:=h.size
 exact⟨(ha.block _ (by omega) (by omega)).trans h.bO,(ha.block _ (by omega) (by omega)).trans h.bX,h.own.aside ha (fun k hk he=>by have:=(h.own.lt k hk).1;omega),hr,h.aside.trans ha (fun _ _ h=>h),Nat.le_trans hs ha.size,hl⟩
theorem gp.more{w w3 w4:World}{A R X a b c g cap:Nat}{v:Value}{es:List Ent}{l:L8}{x:Ent}{o:Obj}(h:gp w w3 A R X a b c v es l)(hn:bf w4 (X+1) (.slice (some ⟨g,0,none⟩) (es.length+1) cap) (es++[x]))(hg:(w3.alloc o).grownBy w4 v.ownBlock):
  w4.1[X]?=some (.cells #[.int .i64 a,.int .i64 b,.int .i64 c,v] 34 (0,0))∧gp w (w4.setCell ⟨X,3,none⟩ (.slice (some ⟨g,0,none⟩) (es.length+1) cap)) A R X a b c (.slice (some ⟨g,0,none⟩) (es.length+1) cap) (es++[x]) l:=by
 have hl:=h.low
 have hs:=h.size
 have hs1:(w3.alloc o).1.size=w3.1.size+1:=by simp
 have hgs:=hg.size
 have hlow:∀k,k<=X->w4.1[k]?=w3.1[k]?:=fun k hk=>by
  rw[hg.block k (by omega) (fun hc=>by have:=(h.own.lt k hc.symm).1;omega)]
  exact aD _ _ (by omega)
 have hX4:=(hlow X vX).trans h.bX
 have ha4:Aside (fun i=>i=X) w4 (w4.setCell ⟨X,3,none⟩ (.slice (some ⟨g,0,none⟩) (es.length+1) cap)):=af _ _ _ _
 refine⟨hX4,?_,?_,?_,?_,?_,?_,hl⟩
 ·rw[ha4.block _ (by omega) (by omega),hlow _ (by omega)];exact h.bO
 ·have:=ap hX4 3 (.slice (some ⟨g,0,none⟩) (es.length+1) cap)
  exact this
 ·exact hn.aside ha4 (fun k hk he=>by have:=(hn.lt k hk).1;omega)
 ·exact(h.rd.keep (w':=w4) (fun k hk=>hlow k (by omega)) (by omega)).aside ha4 (fun k hk=>by omega)
 ·refine⟨?_,?_,?_,?_,fun k hk hf=>?_⟩
  ·exact hg.os.trans h.aside.os
  ·exact hg.tape.trans h.aside.tape
  ·exact hg.output.trans h.aside.output
  ·have:=h.aside.size;have:=ha4.size;omega
  ·have:=h.aside.size
   rw[ha4.block _ (by omega) (by omega),hlow _ (by omega)]
   exact h.aside.block k hk hf
 ·have:=ha4.size;omega
theorem jF(l:L8)(A R:Nat)(w:World)(h:bS w A R l):Calls Tryz.prog 118 #[.pointer (some ⟨R,0,none⟩)] w (eT w R (Fr.rdI l) (qM w.1.size)):=by
  obtain⟨w0,hw0⟩:∃w0,w0=w.alloc (.cells #[.int .i64 0,.int .i64 0,.int .i64 0,.slice none 0 0] 128):=⟨_,rfl⟩
  have hz0:w0.1.size=w.1.size+1:=by rw[hw0];simp
  have HB0:Hid (Below w.1.size w w0):=by rw[hw0];exact vY
  have HK0:Hid (w0.1[w.1.size]?=some (.cells #[.int .i64 0,.int .i64 0,.int .i64 0,.slice none 0 0] 128 (0,0))):=by show _=_;rw[hw0];exact ag w _
  have HW:Hid (w.alloc (.cells #[.int .i64 0,.int .i64 0,.int .i64 0,.slice none 0 0] 128)=w0):=by rw[hw0];exact rfl
  have HRd:=vQ (h.on HB0.out)
  have hRlt:=h.lt
  obtain⟨r,hr⟩:∃r,r=Fr.rdI l:=⟨_,rfl⟩
  have HR0:=vQ (hr.trans (tt l))
  rw[<-hr]
  have HA0:Hid (Aside (fun i=>i=R) w w0):=ae HB0.out _
  obtain⟨L0,hL0⟩:∃L0,L0=l:=⟨_,rfl⟩
  rw[<-hL0] at HRd HR0
  clear hr h hw0 hL0
  go_enter Tryz.func118,Tryz.ntmps118
  have HN:=vQ (dZ L0 A R w0 HRd.out)
  obtain⟨m0,hm0⟩:∃m,m=Fr.nb 1099511627776 L0:=⟨_,rfl⟩
  rw[<-hm0] at HN HR0
  clear hm0
  go_wp2_with fail
  rw[HW.out]
  refine HN.out.mono ?_
  intro e w1 hh
  cases m0 with
  |error er=>
    have HRe:Hid (r=.error er):=HR0.out
    obtain⟨he,ha⟩:=hh.bad
    subst he
    have HA:=vQ (HA0.out.trans ha (fun _ _ h=>h))
    clear hh ha HN
    go_wp2
    rw[HRe.out]
    exact⟨rfl,rfl,HA.out⟩
  |ok nk=>
    obtain⟨a,k0⟩:=nk
    obtain⟨v,he,hv,hrd,ha⟩:=hh.good
    replace hv:v=.int .i64 (a:Nat):=hv
    subst hv
    subst he
    have HA1:=vQ (HA0.out.trans ha (fun _ _ h=>h))
    have HK1:Hid (w1.1[w.1.size]?=some (.cells #[.int .i64 0,.int .i64 0,.int .i64 0,.slice none 0 0] 128 (0,0))):=(ha.block _ (by omega) (by omega)).trans HK0.out
    have hz1:w.1.size+1<=w1.1.size:=by have:=ha.size;omega
    have HR1:=vQ (show r=_ from HR0.out)
    dsimp only[am] at HR1
    obtain⟨L1,hL1⟩:∃L,L=L0.drop k0:=⟨_,rfl⟩
    rw[<-hL1] at HR1 hrd
    have HRd1:=vQ hrd
    clear hh ha hrd HN hL1 HR0 HA0 HK0
    have HN:=vQ (dZ L1 A R w1 HRd1.out)
    obtain⟨m1,hm1⟩:∃m,m=Fr.nb 1099511627776 L1:=⟨_,rfl⟩
    rw[<-hm1] at HN HR1
    clear hm1
    go_wp2_with fail
    refine HN.out.mono ?_
    intro e w2 hh
    cases m1 with
    |error er=>
      have HRe:Hid (r=.error er):=HR1.out
      obtain⟨he,ha⟩:=hh.bad
      subst he
      have HA:=vQ (HA1.out.trans ha (fun _ _ h=>h))
      clear hh ha HN
      go_wp2
      rw[HRe.out]
      exact⟨rfl,rfl,HA.out⟩
    |ok nk=>
      obtain⟨b,k1⟩:=nk
      obtain⟨v,he,hv,hrd,ha⟩:=hh.good
      replace hv:v=.int .i64 (b:Nat):=hv
      subst hv
      subst he
      have HA2:=vQ (HA1.out.trans ha (fun _ _ h=>h))
      have HK2:Hid (w2.1[w.1.size]?=some (.cells #[.int .i64 0,.int .i64 0,.int .i64 0,.slice none 0 0] 128 (0,0))):=(ha.block _ (by omega) (by omega)).trans HK1.out
      have hz2:w.1.size+1<=w2.1.size:=by have:=ha.size;omega
      have HR2:=vQ (show r=_ from HR1.out)
      dsimp only[am] at HR2
      obtain⟨L2,hL2⟩:∃L,L=L1.drop k1:=⟨_,rfl⟩
      rw[<-hL2] at HR2 hrd
      have HRd2:=vQ hrd
      clear hh ha hrd HN hL2 HR1 HA1 HK1
      have HN:=vQ (dZ L2 A R w2 HRd2.out)
      obtain⟨m2,hm2⟩:∃m,m=Fr.nb 1099511627776 L2:=⟨_,rfl⟩
      rw[<-hm2] at HN HR2
      clear hm2
      go_wp2_with fail
      refine HN.out.mono ?_
      intro e w3 hh
      cases m2 with
      |error er=>
        have HRe:Hid (r=.error er):=HR2.out
        obtain⟨he,ha⟩:=hh.bad
        subst he
        have HA:=vQ (HA2.out.trans ha (fun _ _ h=>h))
        clear hh ha HN
        go_wp2
        rw[HRe.out]
        exact⟨rfl,rfl,HA.out⟩
      |ok nk=>
        obtain⟨c,k2⟩:=nk
        obtain⟨v,he,hv,hrd,ha⟩:=hh.good
        replace hv:v=.int .i64 (c:Nat):=hv
        subst hv
        subst he
        have HA3:=vQ (HA2.out.trans ha (fun _ _ h=>h))
        have HK3:Hid (w3.1[w.1.size]?=some (.cells #[.int .i64 0,.int .i64 0,.int .i64 0,.slice none 0 0] 128 (0,0))):=(ha.block _ (by omega) (by omega)).trans HK2.out
        have hz3:w.1.size+1<=w3.1.size:=by have:=ha.size;omega
        have HR3:=vQ (show r=_ from HR2.out)
        dsimp only[am] at HR3
        obtain⟨L3,hL3⟩:∃L,L=L2.drop k2:=⟨_,rfl⟩
        rw[<-hL3] at HR3 hrd
        have HRd3:=vQ hrd
        clear hh ha hrd HN hL3 HR2 HA2 HK2
        obtain⟨wx,hwx⟩:∃wx,wx=w3.alloc (.cells #[.int .i64 a,.int .i64 b,.int .i64 c,.slice none 0 0] 34):=⟨_,rfl⟩
        have HWx:Hid (w3.alloc (.cells #[.int .i64 a,.int .i64 b,.int .i64 c,.slice none 0 0] 34)=wx):=by rw[hwx];exact rfl
        have HIx:Hid (gp w wx A R w3.1.size a b c (.slice none 0 0) [] L3):=by
          have hb:Below w3.1.size w3 wx:=by rw[hwx];exact vY
          refine⟨(hb.block _ (by omega)).trans HK3.out,by rw[hwx];exact ag w3 _,dx _ _,HRd3.out.on hb,HA3.out.trans (ae hb (fun i=>i=R)) (fun _ _ h=>h),by rw[hwx];simp,by omega,hRlt⟩
        obtain⟨X,hX⟩:∃X,X=w3.1.size:=⟨_,rfl⟩
        rw[<-hX] at HIx
        clear hwx
        have HN:=vQ (fg 65 (by omega) L3 A R wx HIx.out.rd)
        obtain⟨m3,hm3⟩:∃m,m=Fr.nb 65 L3:=⟨_,rfl⟩
        rw[<-hm3] at HN HR3
        have HM:=vQ hm3
        clear hm3
        go_wp2_with fail
        rw[HWx.out]
        refine HN.out.mono ?_
        intro e w4 hh
        cases m3 with
        |error er=>
          have HRe:Hid (r=.error er):=HR3.out
          obtain⟨he,ha⟩:=hh.bad
          subst he
          have HA:=vQ (HIx.out.aside.trans ha (fun _ _ h=>h))
          clear hh ha HN
          go_wp2
          rw[HRe.out]
          exact⟨rfl,rfl,HA.out⟩
        |ok nk=>
          obtain⟨m,k3⟩:=nk
          obtain⟨v,he,hv,hrd,ha⟩:=hh.good
          replace hv:v=.int .i64 (m:Nat):=hv
          subst hv
          subst he
          have hm65:m<65:=(Fr.nb_ok HM.out.symm).1
          obtain⟨L4,hL4⟩:∃L,L=L3.drop k3:=⟨_,rfl⟩
          rw[<-hL4] at hrd
          have HI4:=vQ (HIx.out.step ha hrd)
          have HR4:Hid (r=am (Fr.rdE m L4) fun es j=>if (L4.drop j).length=0 then .ok (mD a b c es) else .error 5):=by
            show _=_
            rw[hL4]
            exact HR3.out
          clear hh ha hrd HN hL4 HR3 HA3 HK3 HIx HWx HM HRd3
          go_wp2_with fail
          rw[<-hX]
          clear hX
          go_loopw [13] (fun v13 wr=>∃(es:List Ent) (J:Nat) (q:OA) (d:Nat),es.length<=m∧v13=.int .i64 es.length∧Hid (gp w wr A R X a b c (.slice q es.length d) es (L4.drop J)∧Fr.rdE m L4=shE es J (Fr.rdE (m-es.length) (L4.drop J)))) (fun v13 _=>m-(intOf v13).toNat)
          case atStart=>
            refine⟨[],0,none,0,by simp,rfl,HI4.out,?_⟩
            rw[List.length_nil,Nat.sub_zero,List.drop_zero]
            cases Fr.rdE m L4 with
            |error e=>rfl
            |ok q=>simp[shE]
          case round=>
            obtain⟨es,J,q,d,hem,rfl,HK⟩:=hrel
            have HI:=vQ HK.out.1
            have HG:=vQ HK.out.2
            have hX3:=aa HI.out.bX 3
            replace hX3:wr.cell? ⟨X,3,none⟩=some (.slice q es.length d):=hX3
            have hXf:=ac HI.out.bX 3
            have hlow:=HI.out.low
            have hsX:=HI.out.size
            have hXa:∀o,(wr.alloc o).cell? ⟨X,3,none⟩=some (.slice q es.length d):=fun o=>ab (vZ.alloc vX o) hX3
            have hXfa:∀o,(wr.alloc o).frozen? ⟨X,3,none⟩=false:=fun o=>(((Below.refl wr.1.size wr).alloc vX o).frozen (p:=⟨X,3,none⟩) (by show X<_;omega)).trans hXf
            by_cases hlt:es.length<m
            · have hlt':(es.length:Int)<(m:Int):=by omega
              obtain⟨Q0,hQ0⟩:∃Q0,Q0=L4.drop J:=⟨_,rfl⟩
              have HRe0:Hid (r=am (shE es J (am (Fr.nb 1099511627776 Q0) fun a k=>am (Fr.nb 1099511627776 (Q0.drop k)) fun b k2=>am (Fr.nb 1099511627776 ((Q0.drop k).drop k2)) fun c k3=>shE [⟨a,b,c⟩] (k+(k2+k3)) (Fr.rdE (m-(es.length+1)) (((Q0.drop k).drop k2).drop k3)))) fun es j=>if (L4.drop j).length=0 then .ok (mD a b c es) else .error 5):=by
                show _=_
                rw[HR4.out,HG.out,show m-es.length=(m-(es.length+1))+1 by omega,kE,hQ0]
              have HGe:Hid (Fr.rdE m L4=shE es J (am (Fr.nb 1099511627776 Q0) fun a k=>am (Fr.nb 1099511627776 (Q0.drop k)) fun b k2=>am (Fr.nb 1099511627776 ((Q0.drop k).drop k2)) fun c k3=>shE [⟨a,b,c⟩] (k+(k2+k3)) (Fr.rdE (m-(es.length+1)) (((Q0.drop k).drop k2).drop k3)))):=by
                show _=_
                rw[HG.out,show m-es.length=(m-(es.length+1))+1 by omega,kE,hQ0]
              have HQ:=vQ hQ0
              rw[<-hQ0] at HI
              have HC1:Hid (Calls Tryz.prog 144 #[.pointer (some ⟨R,0,none⟩)] wr.drew (RdB wr A R Q0 (Fr.nb 1099511627776 Q0) isI)):=(dZ Q0 A R wr.drew HI.out.rd.drew).mono fun _ _ h=>h.undrew
              clear hQ0 HK HG
              cases h1:Fr.nb 1099511627776 Q0 with
              |error er=>
                rw[h1] at HC1
                have HErr:Hid (∀w2,Aside (fun i=>i=R) wr w2->eT w R r (qM w.1.size) (.panicked (dS er)) w2):=fun w2 ha=>by
                  have e:r=.error er:=by rw[HRe0.out,h1];rfl
                  rw[e]
                  exact⟨rfl,HI.out.aside.trans ha (fun _ _ h=>h)⟩
                clear h1 HRe0 HGe
                go_wp2_with fail
                go_region_law (first
                  | (refine de (.tmp 17) 164 (by rfl) (by rfl) (by rfl) Tryz.func144 (by kernel_rfl) (by rfl) HC1.out (fun e w2 hh=>⟨_,hh.bad.1,rfl,HErr.out w2 hh.bad.2⟩) (.int .i64 0) ?_
                     intro HF)
                  | (refine cz HF (.int .i64 0) ?_)
                  |fail)
                all_goals exact HF.out.elim
              |ok ak=>
                obtain⟨xa,ka⟩:=ak
                rw[h1] at HC1
                obtain⟨Q1,hQ1⟩:∃Q1,Q1=Q0.drop ka:=⟨_,rfl⟩
                have HC2:Hid (∀w1,bS w1 A R Q1->Calls Tryz.prog 144 #[.pointer (some ⟨R,0,none⟩)] w1 (RdB w1 A R Q1 (Fr.nb 1099511627776 Q1) isI)):=fun w1 h=>dZ Q1 A R w1 h
                have HRe1:Hid (r=am (shE es J (am (Fr.nb 1099511627776 Q1) fun b k2=>am (Fr.nb 1099511627776 (Q1.drop k2)) fun c k3=>shE [⟨xa,b,c⟩] (ka+(k2+k3)) (Fr.rdE (m-(es.length+1)) ((Q1.drop k2).drop k3)))) fun es j=>if (L4.drop j).length=0 then .ok (mD a b c es) else .error 5):=by
                  show _=_
                  rw[HRe0.out,h1,hQ1]
                  rfl
                have HGe1:Hid (Fr.rdE m L4=shE es J (am (Fr.nb 1099511627776 Q1) fun b k2=>am (Fr.nb 1099511627776 (Q1.drop k2)) fun c k3=>shE [⟨xa,b,c⟩] (ka+(k2+k3)) (Fr.rdE (m-(es.length+1)) ((Q1.drop k2).drop k3)))):=by
                  show _=_
                  rw[HGe.out,h1,hQ1]
                  rfl
                have HQ1:=vQ hQ1
                clear h1 HRe0 HGe hQ1
                cases h2:Fr.nb 1099511627776 Q1 with
                |error er=>
                  rw[h2] at HC2
                  have HErr:Hid (∀w1 w2,Aside (fun i=>i=R) wr w1->Aside (fun i=>i=R) w1 w2->eT w R r (qM w.1.size) (.panicked (dS er)) w2):=fun w1 w2 ha ha2=>by
                    have e:r=.error er:=by rw[HRe1.out,h2];rfl
                    rw[e]
                    exact⟨rfl,(HI.out.aside.trans ha (fun _ _ h=>h)).trans ha2 (fun _ _ h=>h)⟩
                  clear h2 HRe1 HGe1
                  go_wp2_with fail
                  go_region_law (first
                    | (refine bu (.tmp 17) 164 (by rfl) (by rfl) (by rfl) Tryz.func144 (by kernel_rfl) (by rfl) HC1.out ?_
                       intro e w1 hh
                       obtain⟨v,he,hv,hrd,ha⟩:=hh.good
                       clear hh
                       replace hv:v=.int .i64 (xa:Nat):=hv
                       subst hv
                       refine⟨_,he,?_⟩
                       clear he
                       rw[<-HQ1.out] at hrd
                       have HI1:=vQ (HI.out.step ha hrd)
                       have HA1:=vQ ha
                       have y3:w1.cell? ⟨X,3,none⟩=some (.slice q es.length d):=aa HI1.out.bX 3
                       have yf3:=ac HI1.out.bX 3
                       have y3a:∀o,(w1.alloc o).cell? ⟨X,3,none⟩=some (.slice q es.length d):=fun o=>ab (vZ.alloc vX o) y3
                       have yf3a:∀o,(w1.alloc o).frozen? ⟨X,3,none⟩=false:=fun o=>(((Below.refl w1.1.size w1).alloc vX o).frozen (p:=⟨X,3,none⟩) (by show X<_;have:=HI1.out.size;omega)).trans yf3
                       clear ha hrd)
                    | (refine de (.tmp 19) 164 (by rfl) (by rfl) (by rfl) Tryz.func144 (by kernel_rfl) (by rfl) (HC2.out w1 HI1.out.rd) (fun e w2 hh=>⟨_,hh.bad.1,rfl,HErr.out w1 w2 HA1.out hh.bad.2⟩) (.int .i64 0) ?_
                       intro HF)
                    | (refine cz HF (.int .i64 0) ?_)
                    |fail)
                  all_goals exact HF.out.elim
                |ok bk=>
                  obtain⟨xb,kb⟩:=bk
                  rw[h2] at HC2
                  obtain⟨Q2,hQ2⟩:∃Q2,Q2=Q1.drop kb:=⟨_,rfl⟩
                  have HC3:Hid (∀w2,bS w2 A R Q2->Calls Tryz.prog 144 #[.pointer (some ⟨R,0,none⟩)] w2 (RdB w2 A R Q2 (Fr.nb 1099511627776 Q2) isI)):=fun w2 h=>dZ Q2 A R w2 h
                  have HRe2:Hid (r=am (shE es J (am (Fr.nb 1099511627776 Q2) fun c k3=>shE [⟨xa,xb,c⟩] (ka+(kb+k3)) (Fr.rdE (m-(es.length+1)) (Q2.drop k3)))) fun es j=>if (L4.drop j).length=0 then .ok (mD a b c es) else .error 5):=by
                    show _=_
                    rw[HRe1.out,h2,hQ2]
                    rfl
                  have HGe2:Hid (Fr.rdE m L4=shE es J (am (Fr.nb 1099511627776 Q2) fun c k3=>shE [⟨xa,xb,c⟩] (ka+(kb+k3)) (Fr.rdE (m-(es.length+1)) (Q2.drop k3)))):=by
                    show _=_
                    rw[HGe1.out,h2,hQ2]
                    rfl
                  have HQ2:=vQ hQ2
                  clear h2 HRe1 HGe1 hQ2
                  cases h3:Fr.nb 1099511627776 Q2 with
                  |error er=>
                    rw[h3] at HC3
                    have HErr:Hid (∀w1 w2,Aside (fun i=>i=R) wr w1->Aside (fun i=>i=R) w1 w2->eT w R r (qM w.1.size) (.panicked (dS er)) w2):=fun w1 w2 ha ha2=>by
                      have e:r=.error er:=by rw[HRe2.out,h3];rfl
                      rw[e]
                      exact⟨rfl,(HI.out.aside.trans ha (fun _ _ h=>h)).trans ha2 (fun _ _ h=>h)⟩
                    clear h3 HRe2 HGe2
                    go_wp2_with fail
                    go_region_law (first
                      | (refine bu (.tmp 17) 164 (by rfl) (by rfl) (by rfl) Tryz.func144 (by kernel_rfl) (by rfl) HC1.out ?_
                         intro e w1 hh
                         obtain⟨v,he,hv,hrd,ha⟩:=hh.good
                         clear hh
                         replace hv:v=.int .i64 (xa:Nat):=hv
                         subst hv
                         refine⟨_,he,?_⟩
                         clear he
                         rw[<-HQ1.out] at hrd
                         have HI1:=vQ (HI.out.step ha hrd)
                         have HA1:=vQ ha
                         have y3:w1.cell? ⟨X,3,none⟩=some (.slice q es.length d):=aa HI1.out.bX 3
                         have yf3:=ac HI1.out.bX 3
                         have y3a:∀o,(w1.alloc o).cell? ⟨X,3,none⟩=some (.slice q es.length d):=fun o=>ab (vZ.alloc vX o) y3
                         have yf3a:∀o,(w1.alloc o).frozen? ⟨X,3,none⟩=false:=fun o=>(((Below.refl w1.1.size w1).alloc vX o).frozen (p:=⟨X,3,none⟩) (by show X<_;have:=HI1.out.size;omega)).trans yf3
                         clear ha hrd)
                      | (refine bu (.tmp 19) 164 (by rfl) (by rfl) (by rfl) Tryz.func144 (by kernel_rfl) (by rfl) (HC2.out w1 HI1.out.rd) ?_
                         intro e w2 hh
                         obtain⟨v,he,hv,hrd,ha⟩:=hh.good
                         clear hh
                         replace hv:v=.int .i64 (xb:Nat):=hv
                         subst hv
                         refine⟨_,he,?_⟩
                         clear he
                         rw[<-HQ2.out] at hrd
                         have HI2:=vQ (HI1.out.step ha hrd)
                         have HA2:=vQ (HA1.out.trans ha (fun _ _ h=>h))
                         have z3:w2.cell? ⟨X,3,none⟩=some (.slice q es.length d):=aa HI2.out.bX 3
                         have zf3:=ac HI2.out.bX 3
                         have z3a:∀o,(w2.alloc o).cell? ⟨X,3,none⟩=some (.slice q es.length d):=fun o=>ab (vZ.alloc vX o) z3
                         have zf3a:∀o,(w2.alloc o).frozen? ⟨X,3,none⟩=false:=fun o=>(((Below.refl w2.1.size w2).alloc vX o).frozen (p:=⟨X,3,none⟩) (by show X<_;have:=HI2.out.size;omega)).trans zf3
                         clear ha hrd)
                      | (refine de (.tmp 21) 164 (by rfl) (by rfl) (by rfl) Tryz.func144 (by kernel_rfl) (by rfl) (HC3.out w2 HI2.out.rd) (fun e w3 hh=>⟨_,hh.bad.1,rfl,HErr.out w2 w3 HA2.out hh.bad.2⟩) (.int .i64 0) ?_
                         intro HF)
                      | (refine cz HF (.int .i64 0) ?_)
                      |fail)
                    all_goals exact HF.out.elim
                  |ok ck=>
                    obtain⟨xc,kc⟩:=ck
                    rw[h3] at HC3
                    have HGe3:Hid (Fr.rdE m L4=shE (es++[⟨xa,xb,xc⟩]) (J+(ka+(kb+kc))) (Fr.rdE (m-(es++[(⟨xa,xb,xc⟩:Ent)]).length) (L4.drop (J+(ka+(kb+kc)))))):=by
                      show _=_
                      have e:Fr.rdE m L4=shE es J (shE [⟨xa,xb,xc⟩] (ka+(kb+kc)) (Fr.rdE (m-(es.length+1)) (Q2.drop kc))):=by
                        rw[HGe2.out,h3]
                        rfl
                      rw[e,rY,List.length_append,List.length_singleton,HQ2.out,HQ1.out,HQ.out,List.drop_drop,List.drop_drop,List.drop_drop]
                    have HQ3:Hid (Q2.drop kc=L4.drop (J+(ka+(kb+kc)))):=by
                      show _=_
                      rw[HQ2.out,HQ1.out,HQ.out,List.drop_drop,List.drop_drop,List.drop_drop]
                    clear h3 HRe2 HGe2
                    go_wp2_with fail
                    go_region_law (first
                      | (refine bu (.tmp 17) 164 (by rfl) (by rfl) (by rfl) Tryz.func144 (by kernel_rfl) (by rfl) HC1.out ?_
                         intro e w1 hh
                         obtain⟨v,he,hv,hrd,ha⟩:=hh.good
                         clear hh
                         replace hv:v=.int .i64 (xa:Nat):=hv
                         subst hv
                         refine⟨_,he,?_⟩
                         clear he
                         rw[<-HQ1.out] at hrd
                         have HI1:=vQ (HI.out.step ha hrd)
                         have y3:w1.cell? ⟨X,3,none⟩=some (.slice q es.length d):=aa HI1.out.bX 3
                         clear ha hrd)
                      | (refine bu (.tmp 19) 164 (by rfl) (by rfl) (by rfl) Tryz.func144 (by kernel_rfl) (by rfl) (HC2.out w1 HI1.out.rd) ?_
                         intro e w2 hh
                         obtain⟨v,he,hv,hrd,ha⟩:=hh.good
                         clear hh
                         replace hv:v=.int .i64 (xb:Nat):=hv
                         subst hv
                         refine⟨_,he,?_⟩
                         clear he
                         rw[<-HQ2.out] at hrd
                         have HI2:=vQ (HI1.out.step ha hrd)
                         have z3:w2.cell? ⟨X,3,none⟩=some (.slice q es.length d):=aa HI2.out.bX 3
                         clear ha hrd)
                      | (refine bu (.tmp 21) 164 (by rfl) (by rfl) (by rfl) Tryz.func144 (by kernel_rfl) (by rfl) (HC3.out w2 HI2.out.rd) ?_
                         intro e w3 hh
                         obtain⟨v,he,hv,hrd,ha⟩:=hh.good
                         clear hh
                         replace hv:v=.int .i64 (xc:Nat):=hv
                         subst hv
                         refine⟨_,he,?_⟩
                         clear he
                         have HI3:=vQ (HI2.out.step ha hrd)
                         have t3:w3.cell? ⟨X,3,none⟩=some (.slice q es.length d):=aa HI3.out.bX 3
                         have t4:∀o,(w3.alloc o).cell? ⟨X,3,none⟩=some (.slice q es.length d):=fun o=>ab (vZ.alloc vX o) t3
                         have hs3:=HI3.out.size
                         clear ha hrd)
                      | (refine gP (B:=X+1) (es:=es) (v:=.slice q es.length d) (by exact HI3.out.own.on vY) ⟨xa,xb,xc⟩ (ad:=w3.1.size) (by exact ag w3 _) (by omega) (by simp;omega) (H:=w3.1.size+1) (by simp) (.tmp 16) (.tmp 24) (by rfl) (by rfl) (by rfl) (by rfl) ?_
                         intro g4 cap4 w4 hn4 hg4 _
                         have hm4:=HI3.out.more hn4 hg4
                         have s3:w4.cell? ⟨X,3,none⟩=some (.slice q es.length d):=aa hm4.1 3
                         have sf3:=ac hm4.1 3
                         have HM4:=vQ hm4.2
                         clear hm4 hn4 hg4)
                      |fail)
                    all_goals
                      go_wp2
                      go_roundw
                      case rel=>
                        refine⟨es++[⟨xa,xb,xc⟩],J+(ka+(kb+kc)),some ⟨g4,0,none⟩,cap4,by simp;omega,by rw[List.length_append,List.length_singleton];go_num,?_,HGe3.out⟩
                        have:=HM4.out
                        rw[HQ3.out] at this
                        simpa using this
                      case measure=>simp[intOf];omega
            · have hjn:¬(es.length:Int)<(m:Int):=by omega
              have hsm:es.length=m:=by omega
              have HR5:Hid (r=if (L4.drop J).length=0 then .ok (mD a b c es) else .error 5):=by
                show _=_
                rw[HR4.out,HG.out,hsm,Nat.sub_self]
                simp[Fr.rdE,shE,am]
              obtain⟨p1,c1,hb1,-,-,-⟩:=HI.out.rd.out
              obtain⟨N1,hN1⟩:∃N1,N1=(L4.drop J).length:=⟨_,rfl⟩
              rw[<-hN1] at hb1 HR5
              have r0:wr.cell? ⟨R,0,none⟩=some (.slice p1 N1 c1):=aa hb1 0
              have hXb:=HI.out.bX
              have u0:wr.cell? ⟨X,0,none⟩=some (.int .i64 a):=aa hXb 0
              have u1:wr.cell? ⟨X,1,none⟩=some (.int .i64 b):=aa hXb 1
              have u2:wr.cell? ⟨X,2,none⟩=some (.int .i64 c):=aa hXb 2
              have hO:=HI.out.bO
              have x0:wr.cell? ⟨w.1.size,0,none⟩=some (.int .i64 0):=aa hO 0
              have x1:wr.cell? ⟨w.1.size,1,none⟩=some (.int .i64 0):=aa hO 1
              have x2:wr.cell? ⟨w.1.size,2,none⟩=some (.int .i64 0):=aa hO 2
              have x3:wr.cell? ⟨w.1.size,3,none⟩=some (.slice none 0 0):=aa hO 3
              have xf0:=ac hO 0
              have xf1:=ac hO 1
              have xf2:=ac hO 2
              have xf3:=ac hO 3
              have HO:=vQ hO
              clear hN1 hb1 hXb hO HK HG hsm
              by_cases hN:N1=0
              · have HRo:Hid (r=.ok (mD a b c es)):=HR5.out.trans (if_pos hN)
                subst hN
                clear HR5
                go_wp2_with fail
                refine(gC _ 5 _).mono ?_
                rintro e w5 ⟨rfl,hw5⟩
                rw[hw5]
                clear hw5 w5
                go_wp2
                have b0:(wr.setCell ⟨w.1.size,0,none⟩ (.int .i64 a)).1[w.1.size]?=some (.cells #[.int .i64 a,.int .i64 0,.int .i64 0,.slice none 0 0] 128 (0,0)):=ap HO.out 0 _
                have b1:((wr.setCell ⟨w.1.size,0,none⟩ (.int .i64 a)).setCell ⟨w.1.size,1,none⟩ (.int .i64 b)).1[w.1.size]?=some (.cells #[.int .i64 a,.int .i64 b,.int .i64 0,.slice none 0 0] 128 (0,0)):=ap b0 1 _
                have b2:(((wr.setCell ⟨w.1.size,0,none⟩ (.int .i64 a)).setCell ⟨w.1.size,1,none⟩ (.int .i64 b)).setCell ⟨w.1.size,2,none⟩ (.int .i64 c)).1[w.1.size]?=some (.cells #[.int .i64 a,.int .i64 b,.int .i64 c,.slice none 0 0] 128 (0,0)):=ap b1 2 _
                have b3:((((wr.setCell ⟨w.1.size,0,none⟩ (.int .i64 a)).setCell ⟨w.1.size,1,none⟩ (.int .i64 b)).setCell ⟨w.1.size,2,none⟩ (.int .i64 c)).setCell ⟨w.1.size,3,none⟩ (.slice q es.length d)).1[w.1.size]?=some (.cells #[.int .i64 a,.int .i64 b,.int .i64 c,.slice q es.length d] 128 (0,0)):=ap b2 3 _
                have hAf:Aside (fun i=>i=w.1.size) wr ((((wr.setCell ⟨w.1.size,0,none⟩ (.int .i64 a)).setCell ⟨w.1.size,1,none⟩ (.int .i64 b)).setCell ⟨w.1.size,2,none⟩ (.int .i64 c)).setCell ⟨w.1.size,3,none⟩ (.slice q es.length d)):=(((af wr w.1.size 0 _).trans (af _ w.1.size 1 _) (fun _ _ h=>h)).trans (af _ w.1.size 2 _) (fun _ _ h=>h)).trans (af _ w.1.size 3 _) (fun _ _ h=>h)
                refine bodyPost_ret (v:=.agg #[.int .i64 a,.int .i64 b,.int .i64 c,.slice q es.length d]) (results_cell_row rfl _ _ w.1.size _ _ _ _ rfl b3 Tryz.underlying128 rfl (by kernel_rfl)) rfl ?_
                rw[HRo.out]
                refine⟨_,rfl,⟨q,d,rfl,?_⟩,?_⟩
                · exact(HI.out.own.aside hAf (fun k hk hc=>by have:=(HI.out.own.lt k hk).1;omega)).low (by omega)
                · exact HI.out.aside.trans hAf (fun i hi h=>by omega)
              · have HRe:Hid (r=.error 5):=HR5.out.trans (if_neg hN)
                have gN:((N1:Int)==0)=false:=aH (by omega)
                clear HR5 hN
                go_wp2_with fail
                refine(fh _ 5 _).mono ?_
                rintro e w5 ⟨rfl,hw5⟩
                rw[hw5]
                clear hw5 w5
                go_wp2
                rw[HRe.out]
                exact⟨rfl,rfl,HI.out.aside⟩
end Go.Proofs.YtlgfdgdlaahpfaaGreatDoor

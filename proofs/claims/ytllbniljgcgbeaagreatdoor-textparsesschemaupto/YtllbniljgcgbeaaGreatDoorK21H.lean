import Derived.Test.YtllbniljgcgbeaaGreatDoorK21G
import Derived.Test.YtllbniljgcgbeaaGreatDoorB12
set_option maxRecDepth 100000
set_option maxHeartbeats 8000000
namespace Go.Proofs.YtllbniljgcgbeaaGreatDoor
open Go.RowKit
theorem oY(q:UInt8)(Q:ByteArray)(hQ:Q=⟨#[q]⟩)(g:Nat)(r:Int)(w:World)(hg:w.cell? ⟨g,0,none⟩=some (.string Q)):Calls Tryz.prog 142 #[.int .i32 r,.pointer (some ⟨g,0,none⟩)] w fun e w'=>e=.returned (.bool (oX q r))∧∃n,w'=w.drewN n:=by
 have HP:=tQ (fun w'=>gO r w')
 have hqz:∃h:0<Q.size,Q[0]'h=q:=⟨by rw[hQ];show 0<1;omega,by subst hQ;rfl⟩
 obtain⟨kq,hq0⟩:=hqz
 have iq:(0:Int)<(Q.size:Int):=by omega
 have q8:(q.toNat:Int)<256:=by have:=q.toNat_lt;omega
 have q9:(0:Int)<=(q.toNat:Int):=by omega
 obtain⟨b,hb⟩:∃b,b=oX q r:=⟨_,rfl⟩
 have HB:Hid (b=(ez r&&!(r==92)&&!(r==(q.toNat:Int)))):=hb
 rw[<-hb]
 clear hb hQ
 cases hp:ez r with
 |false=>
  rw[hp] at HP HB
  clear hp
  go_enter Tryz.func142,Tryz.ntmps142
  go_wp2_with fail
  refine(HP.out _).mono ?_
  rintro e w1 ⟨rfl,hw1⟩
  subst hw1
  go_wp2
  go_ret
  exact⟨by rw[HB.out];rfl,0,rfl⟩
 |true=>
  rw[hp] at HP HB
  clear hp
  by_cases h92:r=92
  ·have e1:(r != 92)=false:=by rw[h92];rfl
   have HB0:Hid (b=false):=by show _=_;rw[HB.out,h92];rfl
   clear h92 HB
   go_enter Tryz.func142,Tryz.ntmps142
   go_wp2_with fail
   refine(HP.out _).mono ?_
   rintro e w1 ⟨rfl,hw1⟩
   subst hw1
   go_wp2
   go_ret
   exact⟨by rw[HB0.out];rfl,0,rfl⟩
  ·have e1:(r != 92)=true:=jU h92
   have HB0:Hid (b=(r != (q.toNat:Int))):=by show _=_;rw[HB.out,bh h92];rfl
   obtain⟨m,hm⟩:∃m,m=(r != (q.toNat:Int)):=⟨_,rfl⟩
   have hm2:=hm.symm
   rw[<-hm] at HB0
   clear h92 HB hm
   go_enter Tryz.func142,Tryz.ntmps142
   go_wp2_with fail
   refine(HP.out _).mono ?_
   rintro e w1 ⟨rfl,hw1⟩
   subst hw1
   go_wp2
   go_ret
   exact⟨by rw[HB0.out];rfl,0,rfl⟩
def atOf(w:World)(P:Nat):Nat:=match w.cell? ⟨P,1,none⟩ with
 |some (.int _ a)=>a.toNat
 |_=>0
theorem Prs.atOf{w:World}{P:Nat}{S:ByteArray}{l:Tx.Bs}(h:Prs w P S l):atOf w P=S.size-l.length:=by
 unfold Go.Proofs.YtllbniljgcgbeaaGreatDoor.atOf
 rw[h.cell 1]
 show(((S.size-l.length:Nat):Int)).toNat=_
 simp
theorem pg{q c:UInt8}{r r2:Tx.Bs}(h:fo q r=.ok (c,r2)):r2.length<r.length:=by
 unfold fo at h
 split at h
 ·cases h
 ·split at h
  ·injection h with h
   injection h with h1 h2
   rw[<-h2];simp
  ·split at h
   ·injection h with h
    injection h with h1 h2
    rw[<-h2];simp;omega
   ·cases h
def r7(x:Tx.Bs)(v:Value)(_:World):Prop:=v=.string ⟨x.toArray⟩
theorem r7.open{x:Tx.Bs}{v:Value}{w:World}(h:r7 x v w):v=.string ⟨x.toArray⟩:=h
structure QuI(w wr:World)(P g B:Nat)(S:ByteArray)(q:UInt8)(R:Tx.R (Tx.Bs×Tx.Bs))(v:Value)(xs cur:Tx.Bs):Prop where
 has:Has wr B v xs
 prs:Prs wr P S cur
 res:R=pre xs (Tx.pq q cur)
 box:wr.cell? ⟨g,0,none⟩=some (.string ⟨#[q]⟩)
 asd:Aside (fun i=>i=P) w wr
 len:xs.length+cur.length<=S.size
 siz:B<=wr.1.size
theorem my{w:World}{P:Nat}{S:ByteArray}{l:Tx.Bs}(h:Prs w P S l)(q:UInt8)(hq:q=34∨q=39):Calls Tryz.prog 103 #[.pointer (some ⟨P,0,none⟩),.string ⟨#[q]⟩] w (PsA w P S (jD q l) r7):=by
  obtain⟨W0,hW0⟩:∃W0,W0=w.alloc (.cells #[.string ⟨#[q]⟩] 9):=⟨_,rfl⟩
  have HB0:Hid (Below w.1.size w W0):=by rw[hW0];exact tY
  have HG0:Hid (W0.1[w.1.size]?=some (.cells #[.string ⟨#[q]⟩] 9 (0,0))):=by rw[hW0];exact aj w _
  have HW0:=tQ hW0
  have h0:=h.on HB0.out
  have HPa:=tQ (cO h0 ⟨#[q]⟩ (by show 1<=10;omega))
  rw[show(ByteArray.mk #[q]).data.toList=[q] from rfl] at HPa
  obtain⟨R,hR⟩:∃R,R=jD q l:=⟨_,rfl⟩
  have HRR:Hid (R=az (Tx.must [q] l) (Tx.pq q)):=hR
  rw[<-hR]
  have HPlt:=tQ h.lt
  have HA0:=tQ (ag HB0.out (fun i=>i=P))
  have hPN:¬w.1.size=P:=by have:=h.lt;omega
  have HQn:Hid (q≠92):=by show q≠92;rcases hq with h | h <;> rw[h] <;> decide
  obtain⟨G,hG⟩:∃G,G=Tx.must [q] l:=⟨_,rfl⟩
  rw[<-hG] at HPa HRR
  clear h h0 hW0 hR hG hq
  cases G with
  |error er=>
    obtain⟨ek,en⟩:=er
    have HRe:Hid (R=.error (ek,en)):=HRR.out
    clear HRR
    go_enter Tryz.func103,Tryz.ntmps103
    go_wp2_with fail
    rw[<-HW0.out]
    refine HPa.out.mono ?_
    intro e w1 hh
    obtain⟨he,ha1⟩:=hh.bad
    subst he
    have HA1:=tQ (HA0.out.trans ha1 (fun _ _ h=>h))
    clear hh ha1 HPa
    go_wp2
    rw[HRe.out]
    exact⟨rfl,rfl,HA1.out⟩
  |ok t=>
    have HRt:Hid (R=Tx.pq q t):=HRR.out
    clear HRR
    go_enter Tryz.func103,Tryz.ntmps103
    go_wp2_with fail
    rw[<-HW0.out]
    refine HPa.out.mono ?_
    intro e w1 hh
    obtain⟨he,hp1,ha1⟩:=hh.good
    subst he
    have hG1:w1.1[w.1.size]?=some (.cells #[.string ⟨#[q]⟩] 9 (0,0)):=(ha1.block _ (ae HG0.out) hPN).trans HG0.out
    obtain⟨B,hB⟩:∃B,B=w.1.size+1:=⟨_,rfl⟩
    have HI0:Hid (QuI w w1 P w.1.size B S q R (.slice none 0 0) [] t):=⟨cj _ _,hp1,by rw[pre_nil];exact HRt.out,ab hG1 0,HA0.out.trans ha1 (fun _ _ h=>h),by have:=hp1.le;simpa using this,by have:=ae hG1;omega⟩
    have HBe:=tQ hB
    clear hh hp1 ha1 HPa hG1 HRt HG0 HA0 HW0 HB0 hB
    go_wp2_with fail
    go_loopw [6,7] (fun v6 _ wr=>∃(qp:OA) (cap:Nat) (xs cur:Tx.Bs),v6=.slice qp xs.length cap∧Hid (QuI w wr P w.1.size B S q R (.slice qp xs.length cap) xs cur)) (fun _ _ wr=>S.size-atOf wr P)
    case atStart=>exact⟨none,0,[],t,rfl,HI0⟩
    case round=>
      obtain⟨qp,cap,xs,cur,rfl,HI⟩:=hrel
      have hpr:=HI.out.prs
      have hbox:∀w',Below wr.1.size wr w'->w'.cell? ⟨w.1.size,0,none⟩=some (.string ⟨#[q]⟩):=fun w' hb=>by
        have hs:=HI.out.siz
        have hB:=HBe.out
        rw[World.cell?_of_block (w:=wr) (hb.block w.1.size (by omega))]
        exact HI.out.box
      have HL:=tQ (dM hpr (nf q) 142 #[.pointer (some ⟨w.1.size,0,none⟩)] (bU Tryz.func142 (by kernel_rfl) rfl) fun r w' hb=>oY q ⟨#[q]⟩ rfl w.1.size r w' (hbox w' hb))
      have HBox:=tQ hbox
      obtain⟨pl,hpl⟩:∃pl,pl=cur.takeWhile (plq q):=⟨_,rfl⟩
      obtain⟨r0,hr0⟩:∃r,r=cur.dropWhile (plq q):=⟨_,rfl⟩
      have hsp:cur=pl++r0:=by rw[hpl,hr0];exact(List.takeWhile_append_dropWhile).symm
      have hplall:∀c∈pl,plq q c=true:=fun c hc=>by rw[hpl] at hc;exact List.all_eq_true.1 List.all_takeWhile c hc
      have hr0h:∀c,r0.head?=some c->plq q c=false:=fun c hc=>by
        rw[hr0] at hc
        have:=List.head?_dropWhile_not (plq q) cur
        rw[hc] at this
        simpa using this
      rw[<-hpl] at HL
      have hres:R=pre (xs++pl) (Tx.pq q r0):=by rw[HI.out.res,hsp,kA q pl r0 hplall,eb]
      have HRes:=tQ hres
      have HR0:=tQ hr0h
      have HSp:=tQ hsp
      have hlen:=HI.out.len
      have hcl:cur.length=pl.length+r0.length:=by rw[hsp,List.length_append]
      have hsm:=hpr.small
      have hle:=hpr.le
      have HAt:Hid (atOf wr P=S.size-cur.length):=hpr.atOf
      have HC0:Hid (cur.length<=S.size):=hle
      clear hpl hr0 hsp hplall hr0h hres hpr hbox
      obtain⟨a,ha⟩:∃a,S.size-cur.length=a:=⟨_,rfl⟩
      have HAL:Hid (a+pl.length=S.size-r0.length):=by show _=_;omega
      have g5:(a:Int)+(pl.length:Int)<=140737488351232:=by omega
      have hts:(ByteArray.mk pl.toArray).size=pl.length:=by show pl.toArray.size=_;simp
      have hxl:xs.length+(ByteArray.mk pl.toArray).size<=140737488355328:=by omega
      have HCA:Hid (S.size-cur.length=a):=ha
      have HLn:Hid (xs.length+pl.length+r0.length<=S.size):=by show _<=_;omega
      have HCl:=tQ hcl
      have hPB:P<B:=by have:=HPlt.out;have:=HBe.out;omega
      clear ha hcl hle hlen hts
      go_wp2_with fail
      refine HL.out.mono ?_
      rintro e w2 ⟨rfl,hb2⟩
      have HV2:=tQ (HI.out.has.on hb2)
      have HP2:Hid (Prs w2 P S (pl++r0)):=by show Prs w2 P S (pl++r0);rw[<-HSp.out];exact HI.out.prs.on hb2
      have HA2:=tQ (HI.out.asd.trans (ag hb2 (fun i=>i=P)) (fun _ _ h=>h))
      have HX2:=tQ (HBox.out w2 hb2)
      have hB2:B<=w2.1.size:=Nat.le_trans HI.out.siz hb2.size
      have hP2c:w2.cell? ⟨P,1,none⟩=some (.int .i64 (a:Int)):=by rw[<-HCA.out];exact(HI.out.prs.on hb2).cell 1
      have hP2t:w2.frozen? ⟨P,1,none⟩=false:=(HI.out.prs.on hb2).thawed 1
      clear hb2 HL HI HBox
      go_wp2_with (first
        | (at_builtin;refine aI (B:=B) (t:=⟨pl.toArray⟩) HV2.out hxl hB2 rfl rfl rfl rfl rfl ?_;intro ys q4 cap4 W HY hH4 ha4 hb4
           have hPW:∀k,k<B->W.1[k]?=w2.1[k]?:=fun k hk=>ha4.block k (by omega) (fun hc=>by have:=(HV2.out.lt _ hc).1;omega)
           have cW:W.cell? ⟨P,1,none⟩=some (.int .i64 (a:Int)):=by(rw[World.cell?_of_block (w:=w2) (hPW P hPB)];exact hP2c)
           have fW:W.frozen? ⟨P,1,none⟩=false:=by(rw[World.frozen?_of_block (w:=w2) (hPW P hPB)];exact hP2t)
           have HPW:=tQ hPW
           have HH4:=tQ hH4
           have HA4:=tQ ha4
           clear hH4 ha4 hb4 hPW)
        |fail)
      obtain⟨W3,hW3⟩:∃W3,W3=W.setCell ⟨P,1,none⟩ (.int .i64 ((a:Int)+(pl.length:Int))):=⟨_,rfl⟩
      have hPr3:Prs W3 P S r0:=by
        have hW:Prs W P S (pl++r0):=HP2.out.aside HA4.out (fun k hk=>by have:=(HV2.out.lt _ hk).1;omega)
        rw[hW3];exact hW.skip (by have:=HAL.out;omega)
      have ha3:Aside (fun i=>i=P) W W3:=by rw[hW3];exact bu _ _ _
      have hs3:W3.1.size=W.1.size:=by rw[hW3];simp[World.setCell]
      have hsW:=HA4.out.size
      have hV3:Has W3 B (.slice q4 ys.length cap4) ys:=HH4.out.aside ha3 (fun k hk he=>by have:=(HH4.out.lt k hk).1;omega)
      have hBx3:W3.cell? ⟨w.1.size,0,none⟩=some (.string ⟨#[q]⟩):=by
        rw[World.cell?_of_block (w:=W) (ha3.block w.1.size (by have:=HBe.out;omega) hPN),World.cell?_of_block (w:=w2) (HPW.out w.1.size (by have:=HBe.out;omega))]
        exact HX2.out
      have hA3:Aside (fun i=>i=P) w W3:=(HA2.out.trans HA4.out (fun i hi hc=>by have:=(HV2.out.lt _ hc).1;have:=HBe.out;omega)).trans ha3 (fun _ _ h=>h)
      have hYl:ys.length=xs.length+pl.length:=by rw[HY.out,List.length_append]
      have HQ3:Hid (QuI w W3 P w.1.size B S q R (.slice q4 ys.length cap4) ys r0):=⟨hV3,hPr3,by rw[HRes.out,HY.out],hBx3,hA3,by have:=HLn.out;omega,by omega⟩
      have HSt:=tQ (dV hPr3 92)
      have HW3:=tQ hW3
      clear hW3 hPr3 ha3 hs3 hsW hV3 hBx3 hA3 hYl HP2 HV2 HA2 HX2 hP2c hP2t cW fW HPW HH4 HA4 HRes HY HLn
      rw[<-HW3.out]
      clear HW3
      by_cases hh:r0.head?=some 92
      · obtain⟨r1,rfl⟩:∃r1,r0=92::r1:=by
          cases r0 with
          |nil=>cases hh
          |cons d r1=>injection hh with hh;exact⟨r1,by rw[hh]⟩
        rw[decide_eq_true hh] at HSt
        have HQn3:Hid (∀n,QuI w (W3.drewN n) P w.1.size B S q R (.slice q4 ys.length cap4) ys (92::r1)):=fun n=>⟨HQ3.out.has,HQ3.out.prs.drewN n,HQ3.out.res,HQ3.out.box,HQ3.out.asd.trans (ax _ _ n) (fun _ _ h=>h),HQ3.out.len,HQ3.out.siz⟩
        refine HSt.out.mono ?_
        rintro e w4 ⟨rfl,n,hw4⟩
        have HQ4:=tQ (HQn3.out n)
        rw[<-hw4] at HQ4
        have b4:w4.cell? ⟨w.1.size,0,none⟩=some (.string ⟨#[q]⟩):=HQ4.out.box
        have HEs:=tQ (pQ HQ4.out.prs q)
        have HR4:Hid (R=pre ys (aB (fo q r1) fun c r=>pre [c] (Tx.pq q r))):=by show R=_;rw[HQ4.out.res,rV q HQn.out]
        obtain⟨E,hE⟩:∃E,E=fo q r1:=⟨_,rfl⟩
        rw[<-hE] at HEs HR4
        have HE:=tQ hE
        clear hw4 HSt hh HQ3 HQn3 hE
        cases E with
        |error er=>
          obtain⟨ek,en⟩:=er
          have HRe:Hid (R=.error (ek,en)):=HR4.out
          have HA4:=tQ HQ4.out.asd
          clear HR4
          go_wp2_with fail
          refine HEs.out.mono ?_
          intro e w5 hh
          obtain⟨he,ha5⟩:=hh.bad
          subst he
          have HA5:=tQ (HA4.out.trans ha5 (fun _ _ h=>h))
          clear hh ha5 HEs
          go_wp2
          rw[HRe.out]
          exact⟨rfl,rfl,HA5.out⟩
        |ok cr=>
          obtain⟨c,r2⟩:=cr
          have HR5:Hid (R=pre (ys++[c]) (Tx.pq q r2)):=by show R=_;rw[HR4.out,<-eb];rfl
          have HLr:=tQ (pg HE.out.symm)
          clear HR4
          go_wp2_with fail
          refine HEs.out.mono ?_
          intro e w5 hh
          obtain⟨v5,he,hv5,hp5,ha5⟩:=hh.good
          have hv5:=hv5.open
          subst hv5
          subst he
          have HV5:=tQ (HQ4.out.has.aside ha5 (fun k hk he=>by have:=(HQ4.out.has.lt k hk).1;omega))
          have hB5:B<=w5.1.size:=Nat.le_trans HQ4.out.siz ha5.size
          have HP5:=tQ hp5
          have HA5:=tQ (HQ4.out.asd.trans ha5 (fun _ _ h=>h))
          have HX5:Hid (w5.cell? ⟨w.1.size,0,none⟩=some (.string ⟨#[q]⟩)):=by
            show _=_
            rw[World.cell?_of_block (w:=w4) (ha5.block w.1.size (by have:=HQ4.out.siz;have:=HBe.out;omega) hPN)]
            exact HQ4.out.box
          have hyl:ys.length+1<=140737488355328:=by have:=HQ4.out.len;have:=HQ4.out.prs.small;omega
          have HLn:=tQ HQ4.out.len
          clear hh hp5 ha5 HEs HE b4 HQ4
          go_wp2_with (first
            | (at_builtin;refine bo rfl HV5.out c hyl hB5 rfl rfl rfl rfl rfl rfl ?_
               intro q6 cap6 W6 zs HZ hg6
               have HG6:=tQ hg6
               clear hg6)
            |fail)
          go_roundw
          case rel=>
            refine⟨q6,cap6,zs,r2,rfl,HG6.out.has,HP5.out.aside HG6.out.aside (fun k hk=>by have:=(HV5.out.lt k hk).1;omega),by rw[HR5.out,HZ.out],?_,HA5.out.trans HG6.out.aside (fun i hi hc=>by have:=(HV5.out.lt i hc).1;have:=HBe.out;omega),?_,Nat.le_trans hB5 HG6.out.aside.size⟩
            · rw[World.cell?_of_block (w:=w5) (HG6.out.aside.block w.1.size (by have:=HBe.out;omega) (fun hc=>by have:=(HV5.out.lt _ hc).1;have:=HBe.out;omega))]
              exact HX5.out
            · have:=HLn.out;have:=HLr.out;rw[HZ.out];simp only[List.length_append,List.length_cons,List.length_nil] at this ⊢;simp only[List.length_cons] at *;omega
          case measure=>
            have h6:=(HP5.out.aside HG6.out.aside (fun k hk=>by have:=(HV5.out.lt k hk).1;omega)).atOf
            have h7:=HP5.out.le
            have h8:=HCl.out
            have h9:=HLr.out
            rw[h6,HAt.out]
            simp only[List.length_cons] at h8
            have h10:cur.length<=S.size:=HC0.out
            omega
      · rw[decide_eq_false hh] at HSt
        have HQn3:Hid (∀n,QuI w (W3.drewN n) P w.1.size B S q R (.slice q4 ys.length cap4) ys r0):=fun n=>⟨HQ3.out.has,HQ3.out.prs.drewN n,HQ3.out.res,HQ3.out.box,HQ3.out.asd.trans (ax _ _ n) (fun _ _ h=>h),HQ3.out.len,HQ3.out.siz⟩
        have HR4:Hid (R=pre ys (az (Tx.must [q] r0) fun r=>.ok ([],r))):=by show R=_;rw[HQ3.out.res,qD q r0 HR0.out hh]
        refine HSt.out.mono ?_
        rintro e w4 ⟨rfl,n,hw4⟩
        have HQ4:=tQ (HQn3.out n)
        rw[<-hw4] at HQ4
        have b4:w4.cell? ⟨w.1.size,0,none⟩=some (.string ⟨#[q]⟩):=HQ4.out.box
        have HPs:=tQ (cO HQ4.out.prs ⟨#[q]⟩ (by show 1<=10;omega))
        rw[show(ByteArray.mk #[q]).data.toList=[q] from rfl] at HPs
        obtain⟨E,hE⟩:∃E,E=Tx.must [q] r0:=⟨_,rfl⟩
        rw[<-hE] at HPs HR4
        clear hw4 HSt hh HQ3 HQn3 hE
        cases E with
        |error er=>
          obtain⟨ek,en⟩:=er
          have HRe:Hid (R=.error (ek,en)):=HR4.out
          have HA4:=tQ HQ4.out.asd
          clear HR4
          go_wp2_with fail
          refine HPs.out.mono ?_
          intro e w5 hh
          obtain⟨he,ha5⟩:=hh.bad
          subst he
          have HA5:=tQ (HA4.out.trans ha5 (fun _ _ h=>h))
          clear hh ha5 HPs
          go_wp2
          rw[HRe.out]
          exact⟨rfl,rfl,HA5.out⟩
        |ok r2=>
          have HRk:Hid (R=.ok (ys,r2)):=by show R=_;rw[HR4.out];show Except.ok (ys++[],r2)=_;rw[List.append_nil]
          clear HR4
          go_wp2_with fail
          refine HPs.out.mono ?_
          intro e w5 hh
          obtain⟨he,hp5,ha5⟩:=hh.good
          subst he
          have hV5:=HQ4.out.has.aside ha5 (fun k hk he=>by have:=(HQ4.out.has.lt k hk).1;omega)
          obtain⟨p5,cap5,he5,hat5,-⟩:=hV5.at
          injection he5 with he6 he7 he8
          have hcv:=cZ hat5 cap4
          rw[<-he6] at hcv
          have HP5:=tQ hp5
          have HA5:=tQ (HQ4.out.asd.trans ha5 (fun _ _ h=>h))
          clear hh hp5 ha5 HPs hV5 hat5 he6 he7 he8 b4 HQ4
          go_wp2
          go_ret
          rw[HRk.out]
          exact⟨_,rfl,rfl,HP5.out,HA5.out⟩
end Go.Proofs.YtllbniljgcgbeaaGreatDoor

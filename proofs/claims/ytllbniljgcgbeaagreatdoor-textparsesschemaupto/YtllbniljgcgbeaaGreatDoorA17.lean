import Derived.Test.YtllbniljgcgbeaaGreatDoorA16
set_option maxRecDepth 100000
set_option maxHeartbeats 8000000
namespace Go.Proofs.YtllbniljgcgbeaaGreatDoor
section
open Go.RowKit
attribute [local go_sem] ah
def nQ(w:World)(xs:List Col)(v:Value)(w':World):Prop:=(∃us Fs,aC w' w.1.size v xs.length us Fs xs)∧xs.length<=1099511627777
theorem nQ.open{w w':World}{xs:List Col}{v:Value}(h:nQ w xs v w'):(∃us Fs,aC w' w.1.size v xs.length us Fs xs)∧xs.length<=1099511627777:=h
structure j0(w wr:World)(P:Nat)(S:ByteArray)(p:Tx.Bs->Tx.R (Col×Tx.Bs))(R:Tx.R (List Col×Tx.Bs))(v:Value)(xs:List Col)(n:Nat)(r:Tx.Bs):Prop where
 built:∃us Fs,aC wr w.1.size v xs.length us Fs xs
 prs:Prs wr P S r
 res:R=sqc p xs n r
 few:r.length<=n
 asd:Aside (fun i=>i=P) w wr
 len:xs.length+r.length<=S.size+1
theorem j0.more{w wr w2 w4:World}{P:Nat}{S:ByteArray}{p:Tx.Bs->Tx.R (Col×Tx.Bs)}{R':Tx.R (List Col×Tx.Bs)}{v:Value}{xs:List Col}{m:Nat}{r2:Tx.Bs}{us:Nat->AV}{Fs:Nat->Nat->Prop}{x:Col}{u:AV}{g cap:Nat}(hP:P<w.1.size)(h:aC wr w.1.size v xs.length us Fs xs)(ha0:Aside (fun i=>i=P) w wr)(ha:Aside (fun i=>i=P) wr w2)(hx:bB w2 (fun k=>wr.1.size<=k∧k<w2.1.size) u x)(hp:Prs w2 P S r2)(hr:w4.ownsRow w.1.size 38 9 (.slice (some ⟨g,0,none⟩) (xs.length+1) cap) (xs.length+1) (flat us xs.length++u.toList))(hg:(w2.alloc (.cells u 38)).grownBy w4 v.ownBlock)(hn:v.ownBlock=some g∨g=w2.1.size+1)(hres:R'=sqc p (xs++[x]) m r2)(hfew:r2.length<=m)(hlen:(xs++[x]).length+r2.length<=S.size+1):j0 w w4 P S p R' (.slice (some ⟨g,0,none⟩) (xs++[x]).length cap) (xs++[x]) m r2:=by
 have hb3:Below w2.1.size w2 (w2.alloc (.cells u 38)):=tY
 have hs0:=ha0.size
 have hs2:=ha.size
 obtain⟨wx,hx1,hx2,hx3⟩:=ha.split (by omega)
 have hbx:aC wx w.1.size v xs.length us Fs xs:=h.aside hx1 (fun g hg he=>by have:=(h.lt g hg).1;omega) (fun j hj k hk he=>by have:=(h.range j hj k hk).1;omega)
 have hst:=hbx.step hx3 hx (fun k hk=>⟨by rw[hx2];exact hk.1,hk.2⟩) hb3 (by rw[hx2];omega) hr hg (by rcases hn with hn | hn;exact .inl hn;exact .inr (by rw[hn];simp))
 have hag:Aside (fun k=>v.ownBlock=some k) w2 w4:=(ag hb3 _).trans (bR hg) (fun _ _ h=>h)
 have hlt:=h.lt
 have el:(xs++[x]).length=xs.length+1:=by simp
 refine⟨⟨_,_,by rw[el];exact hst⟩,hp.aside hag (fun k hk=>by have:=(hlt k hk).1;omega),hres,hfew,(ha0.trans ha (fun _ _ h=>h)).trans hag (fun i hi hc=>by have:=(hlt i hc).1;omega),hlen⟩
theorem j0.first{w w2:World}{P:Nat}{S:ByteArray}{p:Tx.Bs->Tx.R (Col×Tx.Bs)}{R:Tx.R (List Col×Tx.Bs)}{n:Nat}{r:Tx.Bs}{x:Col}{u:AV}(hP:P<w.1.size)(ha:Aside (fun i=>i=P) w w2)(hx:bB w2 (fun k=>w.1.size<=k∧k<w2.1.size) u x)(hu:u.size=9)(hp:Prs w2 P S r)(hres:R=sqc p [x] n r)(hfew:r.length<=n)(hlen:1+r.length<=S.size+1):j0 w (w2.alloc (.cells u 38)) P S p R (.slice (some ⟨w2.1.size,0,none⟩) 1 1) [x] n r:=by
 obtain⟨wx,hx1,hx2,hx3⟩:=ha.split hP
 have hs:=ha.size
 have hst:=(gW wx w.1.size).step hx3 hx (fun k hk=>⟨by rw[hx2];exact hk.1,hk.2⟩) tZ (by rw[hx2];exact tX) (kC hu hs) (World.grownBy_alloc _ _ _) (.inr rfl)
 have hb3:Below w2.1.size w2 (w2.alloc (.cells u 38)):=tY
 exact⟨⟨_,_,hst⟩,hp.on hb3,hres,hfew,ha.trans (ag hb3 (fun i=>i=P)) (fun _ _ h=>h),hlen⟩
theorem mZ{w:World}{P:Nat}{S:ByteArray}{l:Tx.Bs}(h:Prs w P S l)(hS:S.size<=1099511627776)(p:Tx.Bs->Tx.R (Col×Tx.Bs))(hp:∀l x r,p l=.ok (x,r)->r.length<=l.length)(hone:∀w' l',Aside (fun i=>i=P) w w'->Prs w' P S l'->Calls Tryz.prog 50 #[.pointer (some ⟨P,0,none⟩)] w' (PsA w' P S (p l') (pG w'))):
    Calls Tryz.prog 49 #[.pointer (some ⟨P,0,none⟩),.func (.func 50) #[.pointer (some ⟨P,0,none⟩)] #[]] w (PsA w P S (Tx.pseq p (l.length+1) l) (nQ w)):=by
  have HO:=tQ hone
  have HPp:=tQ hp
  obtain⟨R,hR⟩:∃R,R=Tx.pseq p (l.length+1) l:=⟨_,rfl⟩
  have HRR:Hid (R=aB (p l) fun x r=>sqc p [x] l.length r):=hR.trans (gD p hp l.length l tX)
  rw[<-hR]
  have HPlt:=tQ h.lt
  have HO1:=tQ (hone w l (Aside.refl _ _) h)
  obtain⟨Y,hY⟩:∃Y,Y=p l:=⟨_,rfl⟩
  rw[<-hY] at HO1 HRR
  have hle:=h.le
  have HLl:=tQ hle
  clear h hone hR hle
  cases Y with
  |error er=>
    obtain⟨ek,en⟩:=er
    have HRe:Hid (R=.error (ek,en)):=HRR.out
    clear HRR hY hp
    go_enter Tryz.func49,Tryz.ntmps49
    go_wp2_with fail
    refine HO1.out.mono ?_
    intro e w1 hh
    obtain⟨he,ha1⟩:=hh.bad
    subst he
    have HA1:=tQ ha1
    clear hh ha1 HO1
    go_wp2
    rw[HRe.out]
    exact⟨rfl,rfl,HA1.out⟩
  |ok z=>
    obtain⟨x,r⟩:=z
    have HRk:Hid (R=sqc p [x] l.length r):=HRR.out
    have HLr:=tQ (hp _ _ _ hY.symm)
    clear HRR hY hp
    go_enter Tryz.func49,Tryz.ntmps49
    go_wp2_with fail
    refine HO1.out.mono ?_
    intro e w1 hh
    obtain⟨v1,he,hv1,hp1,ha1⟩:=hh.good
    obtain⟨u1,hu1,hown1⟩:=hv1.open
    obtain⟨nm1,k1,tp1,tn1,tc1,hs1,vk1,vi1,vb1,vt1,vp1,vn1,vc1,hsh⟩:=hown1.shape
    subst hsh
    unfold aR at hu1 hown1
    subst hu1
    subst he
    have HI1:Hid (j0 w (w1.alloc (.cells #[.string nm1,.int .i64 k1,.slice tp1 tn1 tc1,.bool hs1,.int .i64 vk1,.int .i64 vi1,.float .f64 vb1,.string vt1,.slice vp1 vn1 vc1] 38)) P S p R (.slice (some ⟨w1.1.size,0,none⟩) 1 1) [x] l.length r) :=
      j0.first HPlt.out ha1 hown1 rfl hp1 HRk.out HLr.out (by have:=HLr.out;have:=HLl.out;omega)
    clear hh hv1 hown1 hp1 ha1 HO1 HRk HLr
    go_wp2_with fail
    go_loopw [5] (fun v5 wr=>∃(q:OA) (cap n:Nat) (xs:List Col) (r:Tx.Bs),v5=.slice q xs.length cap∧Hid (j0 w wr P S p R (.slice q xs.length cap) xs n r)) (fun _ wr=>S.size-atOf wr P)
    case atStart=>exact⟨_,1,l.length,[x],r,rfl,HI1⟩
    case round=>
      obtain⟨q,cap,n,xs,r,rfl,HI⟩:=hrel
      obtain⟨us,Fs,hbu⟩:=HI.out.built
      have hpr:=HI.out.prs
      have HBu:=tQ hbu
      have HSt:=tQ (dV hpr 44)
      have HAt:Hid (atOf wr P=S.size-r.length):=hpr.atOf
      have hsm:=hpr.small
      have hle:=hpr.le
      by_cases hc:r.head?=some 44
      case neg=>
        rw[decide_eq_false hc] at HSt
        have HRk:Hid (R=.ok (xs,r)):=HI.out.res.trans (ke hc)
        clear hc hbu hpr hsm hle
        go_wp2_with fail
        refine HSt.out.mono ?_
        rintro e w2 ⟨rfl,m,hw2⟩
        have HE:Hid (nQ w xs (.slice q xs.length cap) w2∧Prs w2 P S r∧Aside (fun i=>i=P) w w2):=by
          rw[hw2]
          exact⟨⟨⟨us,Fs,HBu.out.aside (ax (fun _=>False) wr m) (fun _ _ h=>h) (fun _ _ _ _ h=>h)⟩,by have:=HI.out.len;omega⟩,HI.out.prs.drewN m,HI.out.asd.trans (ax _ wr m) (fun _ _ h=>h)⟩
        clear hw2 HSt
        go_wp2
        go_ret
        rw[HRk.out]
        exact⟨_,rfl,HE.out.1,HE.out.2.1,HE.out.2.2⟩
      rw[decide_eq_true hc] at HSt
      obtain⟨m,hnm,hgo⟩:=oK (p:=p) (xs:=xs) hc HI.out.few
      have HGo:Hid (R=az (Tx.must [44,32] r) fun r1=>aB (p r1) fun x r2=>sqc p (xs++[x]) m r2):=HI.out.res.trans hgo
      have HNm:=tQ hnm
      have HLn:=tQ HI.out.len
      have HFw:=tQ HI.out.few
      have HA0:=tQ HI.out.asd
      have HPs:Hid (∀k,Prs (wr.drewN k) P S r∧Aside (fun i=>i=P) wr (wr.drewN k)):=fun k=>⟨hpr.drewN k,ax _ _ k⟩
      have HC0:Hid (r.length<=S.size):=hle
      clear hc hbu hpr hsm hle hgo hnm HI
      go_wp2_with fail
      refine HSt.out.mono ?_
      rintro e w2 ⟨rfl,k,hw2⟩
      obtain⟨hp2,ha2⟩:=HPs.out k
      rw[<-hw2] at hp2 ha2
      have HPa:=tQ (cO hp2 ⟨#[44,32]⟩ (by decide))
      rw[show(ByteArray.mk #[44,32]).data.toList=[44,32] from rfl] at HPa
      have HA2:=tQ ha2
      obtain⟨G,hG⟩:∃G,G=Tx.must [44,32] r:=⟨_,rfl⟩
      rw[<-hG] at HPa HGo
      have HGe:=tQ hG
      clear hw2 hp2 ha2 HSt HPs hG
      cases G with
      |error er=>
        obtain⟨ek,en⟩:=er
        have HRe:Hid (R=.error (ek,en)):=HGo.out
        clear HGo
        go_wp2_with fail
        refine HPa.out.mono ?_
        intro e w3 hh
        obtain⟨he,ha3⟩:=hh.bad
        subst he
        have HA3:=tQ ((HA0.out.trans HA2.out (fun _ _ h=>h)).trans ha3 (fun _ _ h=>h))
        clear hh ha3 HPa
        go_wp2
        rw[HRe.out]
        exact⟨rfl,rfl,HA3.out⟩
      |ok r1=>
        have hl1:=congrArg List.length (Tx.must_ok _ _ _ HGe.out.symm)
        have HL1:Hid (r.length=r1.length+2):=by show _=_;rw[hl1,List.length_append];simp;omega
        clear hl1
        go_wp2_with fail
        refine HPa.out.mono ?_
        intro e w3 hh
        obtain⟨he,hp3,ha3⟩:=hh.good
        subst he
        have HA3:=tQ (HA2.out.trans ha3 (fun _ _ h=>h))
        have HO3:=tQ (HO.out w3 r1 ((HA0.out.trans HA2.out (fun _ _ h=>h)).trans ha3 (fun _ _ h=>h)) hp3)
        have HG2:Hid (R=aB (p r1) fun x r2=>sqc p (xs++[x]) m r2):=HGo.out
        obtain⟨Y,hY⟩:∃Y,Y=p r1:=⟨_,rfl⟩
        rw[<-hY] at HO3 HG2
        have HYe:=tQ hY
        clear hh hp3 ha3 HPa HGo hY
        cases Y with
        |error er=>
          obtain⟨ek,en⟩:=er
          have HRe:Hid (R=.error (ek,en)):=HG2.out
          clear HG2
          go_wp2_with fail
          refine HO3.out.mono ?_
          intro e w4 hh
          obtain⟨he,ha4⟩:=hh.bad
          subst he
          have HA4:=tQ ((HA0.out.trans HA3.out (fun _ _ h=>h)).trans ha4 (fun _ _ h=>h))
          clear hh ha4 HO3
          go_wp2
          rw[HRe.out]
          exact⟨rfl,rfl,HA4.out⟩
        |ok z=>
          obtain⟨x,r2⟩:=z
          have HRk:Hid (R=sqc p (xs++[x]) m r2):=HG2.out
          have HL2:=tQ (HPp.out _ _ _ HYe.out.symm)
          clear HG2 HYe
          go_wp2_with fail
          refine HO3.out.mono ?_
          intro e w4 hh
          obtain⟨v1,he,hv1,hp4,ha4⟩:=hh.good
          obtain⟨u1,hu1,hown1⟩:=hv1.open
          obtain⟨nm1,k1,tp1,tn1,tc1,hs1,vk1,vi1,vb1,vt1,vp1,vn1,vc1,hsh⟩:=hown1.shape
          subst hsh
          unfold aR at hu1 hown1
          subst hu1
          subst he
          have hA4:Aside (fun i=>i=P) wr w4:=HA3.out.trans ha4 (fun _ _ h=>h)
          have hs3:=HA3.out.size
          have hown2:bB w4 (fun k=>wr.1.size<=k∧k<w4.1.size) #[.string nm1,.int .i64 k1,.slice tp1 tn1 tc1,.bool hs1,.int .i64 vk1,.int .i64 vi1,.float .f64 vb1,.string vt1,.slice vp1 vn1 vc1] x:=hown1.mono (fun k hk=>⟨by omega,hk.2⟩)
          have hrow:(w4.alloc (.cells #[.string nm1,.int .i64 k1,.slice tp1 tn1 tc1,.bool hs1,.int .i64 vk1,.int .i64 vi1,.float .f64 vb1,.string vt1,.slice vp1 vn1 vc1] 38)).ownsRow w.1.size 38 9 (.slice q xs.length cap) xs.length (flat us xs.length):=by
            have hb4:Below w4.1.size w4 (w4.alloc (.cells #[.string nm1,.int .i64 k1,.slice tp1 tn1 tc1,.bool hs1,.int .i64 vk1,.int .i64 vi1,.float .f64 vb1,.string vt1,.slice vp1 vn1 vc1] 38)):=tY
            have h1:=HBu.out.aside (hA4.trans (ag hb4 (fun i=>i=P)) (fun _ _ h=>h)) (fun g hg he=>by have:=(HBu.out.lt g hg).1;have:=HPlt.out;omega) (fun j hj k hk he=>by have:=(HBu.out.range j hj k hk).1;have:=HPlt.out;omega)
            exact h1.row
          have HRow:=tQ hrow
          have HOw:=tQ hown2
          have HA4:=tQ hA4
          have HP4:=tQ hp4
          have hn64:(xs.length+1)*120<=140737488355328:=by have:=HLn.out;omega
          have hBs:w.1.size<=(w4.alloc (.cells #[.string nm1,.int .i64 k1,.slice tp1 tn1 tc1,.bool hs1,.int .i64 vk1,.int .i64 vi1,.float .f64 vb1,.string vt1,.slice vp1 vn1 vc1] 38)).1.size:=by have:=HA0.out.size;have:=hA4.size;simp;omega
          clear hh hv1 hown1 hown2 hp4 ha4 hA4 hs3 hrow HO3 HO
          go_wp2_with (first
            | (at_builtin;refine cn (B:=w.1.size) HRow.out rfl (bB.one9 HOw.out) (ad:=w4.1.size) (by exact aj w4 _) hn64 hBs (H:=w4.1.size+1) (by simp) rfl rfl rfl rfl ?_
               intro g cap2 w5 hr5 hg5 hn5
               have HI5:Hid (j0 w w5 P S p R (.slice (some ⟨g,0,none⟩) (xs++[x]).length cap2) (xs++[x]) m r2):=j0.more HPlt.out HBu.out HA0.out HA4.out HOw.out HP4.out hr5 hg5 hn5 HRk.out (by have:=HL2.out;have:=HL1.out;have:=HFw.out;have:=HNm.out;omega) (by have:=HL2.out;have:=HL1.out;have:=HLn.out;simp;omega)
               clear hr5 hg5 hn5)
            |fail)
          go_roundw
          case rel=>exact⟨some ⟨g,0,none⟩,cap2,m,xs++[x],r2,by simp,HI5⟩
          case measure=>
            have h6:=HI5.out.prs.atOf
            have h7:=HI5.out.prs.le
            have h8:=HL1.out
            have h9:=HL2.out
            have h10:=HC0.out
            rw[h6,HAt.out]
            omega
end
section
open Go.RowKit
attribute [local go_sem] ah
def aE:List V->Nat
 | []=>0
 |x::xs=>if chk 1 x=0 then aE xs else chk 1 x
theorem dI:∀(xs:List V) (j:Nat),(∀i (h:i<xs.length),i<j->chk 1 xs[i]=0)->aE xs=aE (xs.drop j)
 | [],j,_=>by simp
 |x::xs,0,_=>rfl
 |x::xs,j+1,h=>by
  have h0:=h 0 (by simp) (by omega)
  simp only[List.getElem_cons_zero] at h0
  rw[aE,if_pos h0,List.drop_succ_cons]
  exact dI xs j fun i hi hj=>by have:=h (i+1) (by simp;omega) (by omega);simpa using this
theorem jl(xs:List V)(p:OA)(c:Nat)(w:World)(hx:bv w p xs)(hl:xs.length*64<=140737488351232):Calls Tryz.prog 40 #[.agg #[.slice p xs.length c]] w fun e w'=>e=.returned (.int .i64 (aE xs:Nat))∧Below w.1.size w w':=by
 obtain⟨R,hR⟩:∃R,R=aE xs:=⟨_,rfl⟩
 rw[<-hR]
 have HR:=tQ hR
 obtain⟨W0,hW0⟩:∃W0,W0=w.alloc (.cells #[.slice p xs.length c] 44):=⟨_,rfl⟩
 have hb0:Below w.1.size w W0:=by rw[hW0];exact tY
 have HB0:=tQ hb0
 have HW0:=tQ hW0
 have HX:=tQ hx
 have hlI:(xs.length:Int)<=140737488351232:=by omega
 clear hR hb0 hW0 hx hl
 go_enter Tryz.func40,Tryz.ntmps40
 go_wp2_with fail
 try rw[<-HW0.out]
 go_loopw [9] (fun v9 wr=>∃j:Nat,j<=xs.length∧v9=.int .i64 (j:Nat)∧Hid ((∀i (h:i<xs.length),i<j->chk 1 xs[i]=0)∧Below w.1.size w wr)) (fun v9 _=>xs.length-(intOf v9).toNat)
 case atStart=>exact⟨0,Nat.zero_le _,rfl,fun i hi hj=>by omega,HB0.out⟩
 case round=>
  obtain⟨j,hj,rfl,HI⟩:=hrel
  by_cases hlt:j<xs.length
  ·have f1:(j:Int)<(xs.length:Int):=by omega
   obtain⟨u',hu,hit⟩:=HX.out j hlt
   obtain⟨bx,ox,kx,ex,fx,gx,qx,nx,cx,rfl,hbx,rfl,a0,a1,a2,a3,a4⟩:=(hit.on HI.out.2).lies
   unfold cells5 at hu
   have HBx:=tQ (HI.out.2.alloc HI.out.2.size (.cells #[.int .i64 kx,.int .i64 ex,.float .f64 fx,.string gx,.slice qx nx cx] 36))
   have HC:=tQ (jS xs[j] (wr.alloc (.cells #[.int .i64 kx,.int .i64 ex,.float .f64 fx,.string gx,.slice qx nx cx] 36)) _ (hu.on HBx.out))
   obtain⟨er,her⟩:∃er,er=chk 1 (xs[j]'hlt):=⟨_,rfl⟩
   rw[<-her] at HC
   by_cases h0:er=0
   ·subst h0
    have HI2:Hid (∀i (h:i<xs.length),i<j+1->chk 1 xs[i]=0):=fun i hi hj2=>by
     by_cases he:i=j
     ·subst he;exact her.symm
     ·exact HI.out.1 i hi (by omega)
    clear hu hit her hbx
    go_wp2_with fail
    refine HC.out.mono ?_
    rintro e w1 ⟨rfl,hb1⟩
    have HB1:=tQ (HBx.out.trans (hb1.mono HBx.out.size))
    clear hb1 HC
    go_wp2
    go_roundw
    case rel=>exact⟨j+1,by omega,by go_num,HI2.out,HB1.out⟩
    case measure=>simp[intOf];omega
   ·have HRe:Hid (R=er):=by
     show R=_
     rw[HR.out,dI xs j HI.out.1,List.drop_eq_getElem_cons hlt,aE,<-her,if_neg h0]
    have g0:((er:Int) != 0)=true:=jU (by omega)
    clear hu hit her hbx h0
    go_wp2_with fail
    refine HC.out.mono ?_
    rintro e w1 ⟨rfl,hb1⟩
    have HB1:=tQ (HBx.out.trans (hb1.mono HBx.out.size))
    clear hb1 HC
    go_wp2
    go_ret
    rw[HRe.out]
    exact⟨rfl,HB1.out⟩
  ·have f1:¬(j:Int)<(xs.length:Int):=by omega
   have HR0:Hid (R=0):=by
    show R=_
    rw[HR.out,dI xs j HI.out.1,List.drop_eq_nil_of_le (by omega)]
    rfl
   go_wp2
   go_ret
   rw[HR0.out]
   exact⟨rfl,HI.out.2⟩
theorem lu{w:World}{P:Nat}{S:ByteArray}{l:Tx.Bs}(h:Prs w P S l):Calls Tryz.prog 44 #[.pointer (some ⟨P,0,none⟩)] w (PsA w P S (Tx.pty 4 l) (cG w)):=by
 obtain⟨W0,hW0⟩:∃W0,W0=w.alloc (.cells #[.int .i64 0,.slice none 0 0] 32):=⟨_,rfl⟩
 have HB0:Hid (Below w.1.size w W0):=by rw[hW0];exact tY
 have HN0:Hid (W0.1[w.1.size]?=some (.cells #[.int .i64 0,.slice none 0 0] 32 (0,0))):=by rw[hW0];exact aj w _
 have HW0:=tQ hW0
 have HV:Hid (Calls Tryz.prog 77 #[.pointer (some ⟨P,0,none⟩),.int .i64 1] W0 (PsA W0 P S (Tx.pty 4 l) (cG W0))):=mr 4 1 l P S W0 (by omega) (h.on HB0.out)
 obtain⟨R,hR⟩:∃R,R=Tx.pty 4 l:=⟨_,rfl⟩
 rw[<-hR] at HV ⊢
 have HPlt:=tQ h.lt
 have hPN:¬w.1.size=P:=by have:=h.lt;omega
 have HA0:=tQ (ag HB0.out (fun i=>i=P))
 clear h hW0 hR
 go_enter Tryz.func44,Tryz.ntmps44
 go_wp2_with fail
 rw[<-HW0.out]
 refine HV.out.mono ?_
 intro e w1 hh
 cases R with
 |error er=>
  obtain⟨ek,en⟩:=er
  obtain⟨he,ha1⟩:=hh.bad
  subst he
  have HA1:=tQ (HA0.out.trans ha1 (fun _ _ h=>h))
  clear hh ha1 HV
  go_wp2
  exact⟨rfl,rfl,HA1.out⟩
 |ok z=>
  obtain⟨x,r⟩:=z
  obtain⟨v1,he,hv1,hp1,ha1⟩:=hh.good
  obtain⟨u1,hu1,hown1⟩:=hv1.open
  obtain⟨k1,p1,n1,c1,hsh⟩:=hown1.shape
  subst hsh
  subst hu1
  subst he
  have HN1:Hid (w1.1[w.1.size]?=some (.cells #[.int .i64 0,.slice none 0 0] 32 (0,0))):=(ha1.block _ (ae HN0.out) hPN).trans HN0.out
  have hls:=ae HN0.out
  have HFin:=tQ (fun w5 hw5=>sl (w5:=w5) HPlt.out HN1.out hown1 (fun k hk=>⟨by omega,hk.2⟩) hp1 (HA0.out.trans ha1 (fun _ _ h=>h)) hw5)
  unfold al
  have zf0:=ac HN1.out 0
  have zf1:=ac HN1.out 1
  have z0:w1.cell? ⟨w.1.size,0,none⟩=some (.int .i64 0):=ab HN1.out 0
  have z1:w1.cell? ⟨w.1.size,1,none⟩=some (.slice none 0 0):=ab HN1.out 1
  clear hh hv1 hown1 hp1 ha1 HV hls
  go_wp2
  obtain⟨f1,f2,f3,f4⟩:=HFin.out _ rfl
  refine bodyPost_ret (v:=.agg (al k1 p1 n1 c1)) (results_cell_row rfl _ _ w.1.size _ _ _ _ rfl f1 Tryz.underlying32 rfl (by kernel_rfl)) rfl ?_
  exact⟨_,rfl,f2,f3,f4⟩
theorem kb{rf:Tx.Bs->Option Nat}(hRf:bP rf){w:World}{P:Nat}{S:ByteArray}{l:Tx.Bs}(h:Prs w P S l)(hS:S.size<=1099511627776):Calls Tryz.prog 33 #[.pointer (some ⟨P,0,none⟩)] w (PsA w P S (Tx.pval rf 4 l) (bl w)):=by
 obtain⟨W0,hW0⟩:∃W0,W0=w.alloc (.cells #[.int .i64 0,.int .i64 0,.float .f64 0,.string ⟨#[]⟩,.slice none 0 0] 36):=⟨_,rfl⟩
 have HB0:Hid (Below w.1.size w W0):=by rw[hW0];exact tY
 have HN0:Hid (W0.1[w.1.size]?=some (.cells ar 36 (0,0))):=by rw[hW0];exact aj w _
 have HW0:=tQ hW0
 have HV:Hid (Calls Tryz.prog 64 #[.pointer (some ⟨P,0,none⟩),.int .i64 1] W0 (PsA W0 P S (Tx.pval rf 4 l) (bl W0))):=lw hRf 4 1 l P S W0 (by omega) hS (h.on HB0.out)
 obtain⟨R,hR⟩:∃R,R=Tx.pval rf 4 l:=⟨_,rfl⟩
 rw[<-hR] at HV ⊢
 have HPlt:=tQ h.lt
 have hPN:¬w.1.size=P:=by have:=h.lt;omega
 have HA0:=tQ (ag HB0.out (fun i=>i=P))
 clear h hW0 hR hRf
 go_enter Tryz.func33,Tryz.ntmps33
 go_wp2_with fail
 rw[<-HW0.out]
 refine HV.out.mono ?_
 intro e w1 hh
 cases R with
 |error er=>
  obtain⟨ek,en⟩:=er
  obtain⟨he,ha1⟩:=hh.bad
  subst he
  have HA1:=tQ (HA0.out.trans ha1 (fun _ _ h=>h))
  clear hh ha1 HV
  go_wp2
  exact⟨rfl,rfl,HA1.out⟩
 |ok z=>
  obtain⟨x,r⟩:=z
  obtain⟨v1,he,hv1,hp1,ha1⟩:=hh.good
  obtain⟨u1,hu1,hown1⟩:=hv1.open
  obtain⟨k1,i1,b1,t1,p1,n1,c1,hsh⟩:=hown1.shape
  subst hsh
  subst hu1
  subst he
  have HN1:Hid (w1.1[w.1.size]?=some (.cells ar 36 (0,0))):=(ha1.block _ (ae HN0.out) hPN).trans HN0.out
  have hls:=ae HN0.out
  have HFin:=tQ (fun w5 hw5=>ee (w5:=w5) HPlt.out HN1.out hown1 (fun k hk=>⟨by omega,hk.2⟩) hp1 (HA0.out.trans ha1 (fun _ _ h=>h)) hw5)
  unfold cells5
  have zf0:=ac HN1.out 0
  have zf1:=ac HN1.out 1
  have zf2:=ac HN1.out 2
  have zf3:=ac HN1.out 3
  have zf4:=ac HN1.out 4
  have z0:w1.cell? ⟨w.1.size,0,none⟩=some (.int .i64 0):=ab HN1.out 0
  have z1:w1.cell? ⟨w.1.size,1,none⟩=some (.int .i64 0):=ab HN1.out 1
  have z2:w1.cell? ⟨w.1.size,2,none⟩=some (.float .f64 0):=ab HN1.out 2
  have z3:w1.cell? ⟨w.1.size,3,none⟩=some (.string ⟨#[]⟩):=ab HN1.out 3
  have z4:w1.cell? ⟨w.1.size,4,none⟩=some (.slice none 0 0):=ab HN1.out 4
  clear hh hv1 hown1 hp1 ha1 HV hls
  go_wp2
  obtain⟨f1,f2,f3,f4⟩:=HFin.out _ rfl
  refine bodyPost_ret (v:=.agg (cells5 k1 i1 b1 t1 p1 n1 c1)) (results_cell_row rfl _ _ w.1.size _ _ _ _ rfl f1 Tryz.underlying36 rfl (by kernel_rfl)) rfl ?_
  exact⟨_,rfl,f2,f3,f4⟩
def dr(w:World)(xs:List Col)(v:Value)(w':World):Prop:=∃q c,v=.agg #[.slice q xs.length c]∧nQ w xs (.slice q xs.length c) w'
def cY(w:World)(xs:List V)(v:Value)(w':World):Prop:=∃q c,v=.agg #[.slice q xs.length c]∧gN w xs (.slice q xs.length c) w'
theorem dr.open{w w':World}{xs:List Col}{v:Value}(h:dr w xs v w'):∃q c,v=.agg #[.slice q xs.length c]∧nQ w xs (.slice q xs.length c) w':=h
theorem cY.open{w w':World}{xs:List V}{v:Value}(h:cY w xs v w'):∃q c,v=.agg #[.slice q xs.length c]∧gN w xs (.slice q xs.length c) w':=h
theorem slice_form{w:World}{B:Nat}{T:TypeId}{n m:Nat}{v:Value}{xs:List Value}(h:w.ownsRow B T m v n xs):∃q c,v=.slice q n c∧n<=c:=by
 rcases h.2 with ⟨rfl,h0⟩ | ⟨g,cap,cur,rfl,_,_,h3,_⟩
 ·exact⟨none,0,by rw[h0],by omega⟩
 ·exact⟨_,cap,rfl,h3⟩
theorem jq{rf:Tx.Bs->Option Nat}(hRf:bP rf){w:World}{P:Nat}{S:ByteArray}{l:Tx.Bs}(h:Prs w P S l)(hS:S.size<=1099511627776):Calls Tryz.prog 21 #[.pointer (some ⟨P,0,none⟩)] w (PsA w P S (Tx.pseq (Tx.pcol rf) (l.length+1) l) (dr w)):=by
 obtain⟨W0,hW0⟩:∃W0,W0=w.alloc (.cells #[.slice none 0 0] 25):=⟨_,rfl⟩
 have HB0:Hid (Below w.1.size w W0):=by rw[hW0];exact tY
 have HN0:Hid (W0.1[w.1.size]?=some (.cells #[.slice none 0 0] 25 (0,0))):=by rw[hW0];exact aj w _
 have HW0:=tQ hW0
 have HV:=tQ (mZ (h.on HB0.out) hS (Tx.pcol rf) (fun l x r hp=>by
  have:=congrArg List.length (Tx.pcol_fore (cQ hRf) hp).1
  rw[List.length_append] at this
  omega) (fun w' l' _ h'=>rl hRf h' hS))
 obtain⟨R,hR⟩:∃R,R=Tx.pseq (Tx.pcol rf) (l.length+1) l:=⟨_,rfl⟩
 rw[<-hR] at HV ⊢
 have HPlt:=tQ h.lt
 have hPN:¬w.1.size=P:=by have:=h.lt;omega
 have hPN2:¬P=w.1.size:=by omega
 have HA0:=tQ (ag HB0.out (fun i=>i=P))
 clear h hW0 hR hRf
 go_enter Tryz.func21,Tryz.ntmps21
 go_wp2_with fail
 rw[<-HW0.out]
 refine HV.out.mono ?_
 intro e w1 hh
 cases R with
 |error er=>
  obtain⟨ek,en⟩:=er
  obtain⟨he,ha1⟩:=hh.bad
  subst he
  have HA1:=tQ (HA0.out.trans ha1 (fun _ _ h=>h))
  clear hh ha1 HV
  go_wp2
  exact⟨rfl,rfl,HA1.out⟩
 |ok z=>
  obtain⟨xs,r⟩:=z
  obtain⟨v1,he,hv1,hp1,ha1⟩:=hh.good
  obtain⟨⟨us,Fs,hbu⟩,hl1⟩:=hv1.open
  obtain⟨q1,c1,hvq,-⟩:=slice_form hbu.row
  subst hvq
  subst he
  have hN1:w1.1[w.1.size]?=some (.cells #[.slice none 0 0] 25 (0,0)):=(ha1.block _ (ae HN0.out) hPN).trans HN0.out
  have z0:w1.cell? ⟨w.1.size,0,none⟩=some (.slice none 0 0):=ab hN1 0
  have zf0:=ac hN1 0
  have hls:=ae HN0.out
  have hPl:=HPlt.out
  have HFin:Hid (∀w5,w5=w1.setCell ⟨w.1.size,0,none⟩ (.slice q1 xs.length c1)->w5.1[w.1.size]?=some (.cells #[.slice q1 xs.length c1] 25 (0,0))∧dr w xs (.agg #[.slice q1 xs.length c1]) w5∧Prs w5 P S r∧Aside (fun i=>i=P) w w5):=fun w5 hw5=>by
   have ha5:Aside (fun i=>i=w.1.size) w1 w5:=by rw[hw5];exact(Aside.refl (fun k=>k=w.1.size) _).setCell (p:=⟨w.1.size,0,none⟩) (.inl rfl) _
   refine⟨by rw[hw5,ai hN1 0];rfl,⟨q1,c1,rfl,⟨us,Fs,?_⟩,hl1⟩,hp1.aside ha5 (fun k hk=>by omega),(HA0.out.trans ha1 (fun _ _ h=>h)).trans ha5 (fun i hi he=>by omega)⟩
   exact(hbu.aside ha5 (fun g hg he=>by have:=(hbu.lt g hg).1;omega) (fun j hj k hk he=>by have:=(hbu.range j hj k hk).1;omega)).low (by omega)
  clear hh hv1 hbu hp1 ha1 HV hls hPl hN1
  go_wp2
  obtain⟨f1,f2,f3,f4⟩:=HFin.out _ rfl
  refine bodyPost_ret (v:=.agg #[.slice q1 xs.length c1]) (results_cell_row rfl _ _ w.1.size _ _ _ _ rfl f1 Tryz.underlying25 rfl (by kernel_rfl)) rfl ?_
  exact⟨_,rfl,f2,f3,f4⟩
def eA(rf:Tx.Bs->Option Nat)(l:Tx.Bs):Tx.R (List V×Tx.Bs):=if l=[] then .ok ([],[]) else Tx.pseq (Tx.pval rf 4) (l.length+1) l
theorem mO{rf:Tx.Bs->Option Nat}(hRf:bP rf){w:World}{P:Nat}{S:ByteArray}{l:Tx.Bs}(h:Prs w P S l)(hl:l=S.data.toList)(hS:S.size<=1099511627776):Calls Tryz.prog 39 #[.pointer (some ⟨P,0,none⟩)] w (PsA w P S (eA rf l) (cY w)):=by
 obtain⟨W0,hW0⟩:∃W0,W0=w.alloc (.cells #[.slice none 0 0] 44):=⟨_,rfl⟩
 have HB0:Hid (Below w.1.size w W0):=by rw[hW0];exact tY
 have HN0:Hid (W0.1[w.1.size]?=some (.cells #[.slice none 0 0] 44 (0,0))):=by rw[hW0];exact aj w _
 have HW0:=tQ hW0
 have HV:Hid (Calls Tryz.prog 69 #[.pointer (some ⟨P,0,none⟩),.int .i64 1] W0 (PsA W0 P S (Tx.pseq (Tx.pval rf 4) (l.length+1) l) (gN W0))):=mq (h.on HB0.out) hS 1 (Tx.pval rf 4) (fun l x r hp=>by
  have:=congrArg List.length (Tx.pval_fore (cQ hRf) 4 l x r hp).text
  rw[List.length_append] at this
  omega) (fun w' l' h'=>lw hRf 4 1 l' P S w' (by omega) hS h')
 obtain⟨R,hR⟩:∃R,R=eA rf l:=⟨_,rfl⟩
 have HR:Hid (R=if l=[] then .ok ([],[]) else Tx.pseq (Tx.pval rf 4) (l.length+1) l):=hR
 rw[<-hR]
 have HPlt:=tQ h.lt
 have hPN:¬w.1.size=P:=by have:=h.lt;omega
 have hPN2:¬P=w.1.size:=by omega
 have HA0:=tQ (ag HB0.out (fun i=>i=P))
 have HH:=tQ h
 have c0:w.cell? ⟨P,0,none⟩=some (.string S):=h.cell 0
 have hPl0:P<w.1.size:=h.lt
 have e9:S.toList=l:=by rw[hl];exact ByteArray.toList_eq S
 clear h hW0 hR hRf hl
 by_cases q0:l=[]
 ·have HRk:Hid (R=.ok ([],[])):=HR.out.trans (if_pos q0)
  have e8:(l==[])=true:=by rw[q0];rfl
  have HP0:Hid (Prs w P S []):=by rw[q0] at HH;exact HH.out
  have HFin:Hid (∀w5,w5=w.alloc (.cells #[.slice none 0 0] 44)->w5.1[w.1.size]?=some (.cells #[.slice none 0 0] 44 (0,0))∧cY w [] (.agg #[.slice none 0 0]) w5∧Prs w5 P S []∧Aside (fun i=>i=P) w w5):=fun w5 hw5=>by
   have hb:Below w.1.size w w5:=by rw[hw5];exact tY
   exact⟨by rw[hw5];exact aj w _,⟨none,0,rfl,⟨_,_,fB w5 w.1.size⟩,by simp⟩,HP0.out.on hb,ag hb _⟩
  clear q0 HR HV HH HP0
  go_enter Tryz.func39,Tryz.ntmps39
  go_wp2
  obtain⟨f1,f2,f3,f4⟩:=HFin.out _ rfl
  refine bodyPost_ret (v:=.agg #[.slice none 0 0]) (results_cell_row rfl _ _ w.1.size _ _ _ _ rfl f1 Tryz.underlying44 rfl (by kernel_rfl)) rfl ?_
  rw[HRk.out]
  exact⟨_,rfl,f2,f3,f4⟩
 have HR2:=tQ (HR.out.trans (if_neg q0))
 have e8:(l==[])=false:=cz q0
 obtain⟨Y,hY⟩:∃Y,Y=Tx.pseq (Tx.pval rf 4) (l.length+1) l:=⟨_,rfl⟩
 rw[<-hY] at HV HR2
 clear q0 HR HH hY
 go_enter Tryz.func39,Tryz.ntmps39
 go_wp2_with fail
 rw[<-HW0.out]
 refine HV.out.mono ?_
 intro e w1 hh
 cases Y with
 |error er=>
  obtain⟨ek,en⟩:=er
  have HRe:Hid (R=.error (ek,en)):=HR2.out
  obtain⟨he,ha1⟩:=hh.bad
  subst he
  have HA1:=tQ (HA0.out.trans ha1 (fun _ _ h=>h))
  clear hh ha1 HV HR2
  go_wp2
  rw[HRe.out]
  exact⟨rfl,rfl,HA1.out⟩
 |ok z=>
  obtain⟨xs,r⟩:=z
  have HRk:Hid (R=.ok (xs,r)):=HR2.out
  obtain⟨v1,he,hv1,hp1,ha1⟩:=hh.good
  obtain⟨⟨us,Fs,hbu⟩,hl1⟩:=hv1.open
  obtain⟨q1,c1,hvq,-⟩:=slice_form hbu.row
  subst hvq
  subst he
  have hN1:w1.1[w.1.size]?=some (.cells #[.slice none 0 0] 44 (0,0)):=(ha1.block _ (ae HN0.out) hPN).trans HN0.out
  have z0:w1.cell? ⟨w.1.size,0,none⟩=some (.slice none 0 0):=ab hN1 0
  have zf0:=ac hN1 0
  have hls:=ae HN0.out
  have HFin:Hid (∀w5,w5=w1.setCell ⟨w.1.size,0,none⟩ (.slice q1 xs.length c1)->w5.1[w.1.size]?=some (.cells #[.slice q1 xs.length c1] 44 (0,0))∧cY w xs (.agg #[.slice q1 xs.length c1]) w5∧Prs w5 P S r∧Aside (fun i=>i=P) w w5):=fun w5 hw5=>by
   have ha5:Aside (fun i=>i=w.1.size) w1 w5:=by rw[hw5];exact(Aside.refl (fun k=>k=w.1.size) _).setCell (p:=⟨w.1.size,0,none⟩) (.inl rfl) _
   refine⟨by rw[hw5,ai hN1 0];rfl,⟨q1,c1,rfl,⟨us,Fs,?_⟩,hl1⟩,hp1.aside ha5 (fun k hk=>by omega),(HA0.out.trans ha1 (fun _ _ h=>h)).trans ha5 (fun i hi he=>by omega)⟩
   exact(hbu.aside ha5 (fun g hg he=>by have:=(hbu.lt g hg).1;omega) (fun j hj k hk he=>by have:=(hbu.range j hj k hk).1;omega)).low (by omega)
  clear hh hv1 hbu hp1 ha1 HV hls hN1 HR2 c0
  go_wp2
  obtain⟨f1,f2,f3,f4⟩:=HFin.out _ rfl
  refine bodyPost_ret (v:=.agg #[.slice q1 xs.length c1]) (results_cell_row rfl _ _ w.1.size _ _ _ _ rfl f1 Tryz.underlying44 rfl (by kernel_rfl)) rfl ?_
  rw[HRk.out]
  exact⟨_,rfl,f2,f3,f4⟩
end
end Go.Proofs.YtllbniljgcgbeaaGreatDoor

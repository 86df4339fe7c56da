import Derived.Test.YtllbniljgcgbeaaGreatDoorK21H
set_option maxRecDepth 100000
set_option maxHeartbeats 8000000
namespace Go.Proofs.YtllbniljgcgbeaaGreatDoor
section
open Go.RowKit
attribute [local go_sem] ah
theorem Aside.split{w w2:World}{R:Nat}(h:Aside (fun i=>i=R) w w2)(hR:R<w.1.size):∃w1,Aside (fun i=>i=R) w w1∧w1.1.size=w.1.size∧Below w1.1.size w1 w2:=by
 have hs:=h.size
 refine⟨{ w with heap:=w.1.setIfInBounds R (w2.1[R]'(by omega)) },⟨rfl,rfl,rfl,by simp,fun k hk hf=>?_⟩,by simp,⟨h.os,h.tape,h.output,by simpa using hs,fun k hk=>?_⟩⟩
 ·show(w.1.setIfInBounds R _)[k]?=_
  rw[Array.getElem?_setIfInBounds_ne (fun e=>hf e.symm)]
 ·have hk':k<w.1.size:=by simpa using hk
  show _=(w.1.setIfInBounds R _)[k]?
  by_cases e:k=R
  ·subst e
   rw[Array.getElem?_setIfInBounds_self_of_lt hk']
   exact Array.getElem?_eq_getElem _
  ·rw[Array.getElem?_setIfInBounds_ne (fun e2=>e e2.symm)]
   exact h.block k hk' e
theorem kC{w:World}{B:Nat}{u:AV}{T:TypeId}{n:Nat}(hu:u.size=n)(hB:B<=w.1.size):(w.alloc (.cells u T)).ownsRow B T n (.slice (some ⟨w.1.size,0,none⟩) (0+1) 1) (0+1) (flat (fun _=>#[]) 0++u.toList):=by
 refine⟨by simp[flat,hu],.inr ⟨w.1.size,1,u,rfl,hB,aj w _,by omega,by unfold maxLen;omega,by rw[hu,Nat.one_mul],?_⟩⟩
 simp[flat]
 exact List.take_of_length_le (by simp[hu])
def sqc{α:Type}(p:Tx.Bs->Tx.R (α×Tx.Bs)):List α->Nat->Tx.Bs->Tx.R (List α×Tx.Bs)
 |xs,0,r=>if r.head?=some 44 then .error (0,0) else .ok (xs,r)
 |xs,n+1,r=>if r.head?=some 44 then az (Tx.must [44,32] r) fun r1=>aB (p r1) fun x r2=>sqc p (xs++[x]) n r2 else .ok (xs,r)
theorem jt{α:Type}(p:Tx.Bs->Tx.R (α×Tx.Bs)):∀(n:Nat) (xs:List α) (y:α) (r:Tx.Bs),r.length<=n->(∀l x r,p l=.ok (x,r)->r.length<=l.length)->sqc p (xs++[y]) n r=aB (sqc p [y] n r) fun ys r=>.ok (xs++ys,r)
 |0,xs,y,r,hr,_=>by
  have:r=[]:=List.eq_nil_of_length_eq_zero (by omega)
  subst this
  rfl
 |n+1,xs,y,r,hr,hp=>by
  rw[sqc,sqc]
  by_cases h:r.head?=some 44
  ·rw[if_pos h,if_pos h]
   cases hm:Tx.must [44,32] r with
   |error e=>rfl
   |ok r1=>
    have hl:=congrArg List.length (Tx.must_ok _ _ _ hm)
    simp only[List.length_append,List.length_cons,List.length_nil] at hl
    dsimp only[az]
    cases hq:p r1 with
    |error e=>rfl
    |ok z=>
     obtain⟨x,r2⟩:=z
     have h2:=hp _ _ _ hq
     dsimp only[aB]
     have e1:=jt p n (xs++[y]) x r2 (by omega) hp
     have e2:=jt p n [y] x r2 (by omega) hp
     rw[e1,e2]
     cases sqc p [x] n r2 with
     |error e=>rfl
     |ok z=>show Except.ok (xs++[y]++z.1,z.2)=Except.ok (xs++([y]++z.1),z.2);rw[List.append_assoc]
  ·rw[if_neg h,if_neg h]
   rfl
theorem gD{α:Type}(p:Tx.Bs->Tx.R (α×Tx.Bs))(hp:∀l x r,p l=.ok (x,r)->r.length<=l.length):∀(n:Nat) (l:Tx.Bs),l.length<=n->Tx.pseq p (n+1) l=aB (p l) fun x r=>sqc p [x] n r
 |n,l,hl=>by
  rw[Tx.pseq]
  cases hq:p l with
  |error e=>rfl
  |ok z=>
   obtain⟨x,r⟩:=z
   have hr:=hp _ _ _ hq
   dsimp only[aB]
   match n with
   |0=>
    have:r=[]:=List.eq_nil_of_length_eq_zero (by omega)
    subst this
    rfl
   |n+1=>
    rw[sqc]
    by_cases h:r.head?=some 44
    ·rw[if_pos h,if_pos h]
     cases hm:Tx.must [44,32] r with
     |error e=>rfl
     |ok r1=>
      have h1:=congrArg List.length (Tx.must_ok _ _ _ hm)
      simp only[List.length_append,List.length_cons,List.length_nil] at h1
      dsimp only[az]
      rw[gD p hp n r1 (by omega)]
      cases hq2:p r1 with
      |error e=>rfl
      |ok z=>
       obtain⟨y,r2⟩:=z
       have h2:=hp _ _ _ hq2
       dsimp only[aB]
       rw[jt p n [x] y r2 (by omega) hp]
       cases sqc p [y] n r2 with
       |error e=>rfl
       |ok z=>rfl
    ·rw[if_neg h,if_neg h]
theorem ke{α:Type}{p:Tx.Bs->Tx.R (α×Tx.Bs)}{xs:List α}{n:Nat}{r:Tx.Bs}(h:r.head?≠some 44):sqc p xs n r=.ok (xs,r):=by
 cases n with
 |zero=>rw[sqc,if_neg h]
 |succ n=>rw[sqc,if_neg h]
theorem oK{α:Type}{p:Tx.Bs->Tx.R (α×Tx.Bs)}{xs:List α}{n:Nat}{r:Tx.Bs}(h:r.head?=some 44)(hn:r.length<=n):∃m,n=m+1∧sqc p xs n r=az (Tx.must [44,32] r) fun r1=>aB (p r1) fun x r2=>sqc p (xs++[x]) m r2:=by
 cases n with
 |zero=>
  have:r=[]:=List.eq_nil_of_length_eq_zero (by omega)
  subst this
  cases h
 |succ m=>exact⟨m,rfl,by rw[sqc,if_pos h]⟩
def gN(w:World)(xs:List V)(v:Value)(w':World):Prop:=(∃us Fs,aL w' w.1.size v xs.length us Fs xs)∧xs.length<=1099511627777
theorem gN.open{w w':World}{xs:List V}{v:Value}(h:gN w xs v w'):(∃us Fs,aL w' w.1.size v xs.length us Fs xs)∧xs.length<=1099511627777:=h
structure jZ(w wr:World)(P:Nat)(S:ByteArray)(p:Tx.Bs->Tx.R (V×Tx.Bs))(R:Tx.R (List V×Tx.Bs))(v:Value)(xs:List V)(n:Nat)(r:Tx.Bs):Prop where
 built:∃us Fs,aL wr w.1.size v xs.length us Fs xs
 prs:Prs wr P S r
 res:R=sqc p xs n r
 few:r.length<=n
 asd:Aside (fun i=>i=P) w wr
 len:xs.length+r.length<=S.size+1
theorem jZ.more{w wr w2 w4:World}{P:Nat}{S:ByteArray}{p:Tx.Bs->Tx.R (V×Tx.Bs)}{R':Tx.R (List V×Tx.Bs)}{v:Value}{xs:List V}{m:Nat}{r2:Tx.Bs}{us:Nat->AV}{Fs:Nat->Nat->Prop}{x:V}{u:AV}{g cap:Nat}(hP:P<w.1.size)(h:aL wr w.1.size v xs.length us Fs xs)(ha0:Aside (fun i=>i=P) w wr)(ha:Aside (fun i=>i=P) wr w2)(hx:aG w2 (fun k=>wr.1.size<=k∧k<w2.1.size) u x)(hp:Prs w2 P S r2)(hr:w4.ownsRow w.1.size 36 5 (.slice (some ⟨g,0,none⟩) (xs.length+1) cap) (xs.length+1) (flat us xs.length++u.toList))(hg:(w2.alloc (.cells u 36)).grownBy w4 v.ownBlock)(hn:v.ownBlock=some g∨g=w2.1.size+1)(hres:R'=sqc p (xs++[x]) m r2)(hfew:r2.length<=m)(hlen:(xs++[x]).length+r2.length<=S.size+1):jZ w w4 P S p R' (.slice (some ⟨g,0,none⟩) (xs++[x]).length cap) (xs++[x]) m r2:=by
 have hb3:Below w2.1.size w2 (w2.alloc (.cells u 36)):=tY
 have hs0:=ha0.size
 have hs2:=ha.size
 obtain⟨wx,hx1,hx2,hx3⟩:=ha.split (by omega)
 have hbx:aL wx w.1.size v xs.length us Fs xs:=h.aside hx1 (fun g hg he=>by have:=(h.lt g hg).1;omega) (fun j hj k hk he=>by have:=(h.range j hj k hk).1;omega)
 have hst:=hbx.step hx3 hx (fun k hk=>⟨by rw[hx2];exact hk.1,hk.2⟩) hb3 (by rw[hx2];omega) hr hg (by rcases hn with hn | hn;exact .inl hn;exact .inr (by rw[hn];simp))
 have hag:Aside (fun k=>v.ownBlock=some k) w2 w4:=(ag hb3 _).trans (bR hg) (fun _ _ h=>h)
 have hlt:=h.lt
 have el:(xs++[x]).length=xs.length+1:=by simp
 refine⟨⟨_,_,by rw[el];exact hst⟩,hp.aside hag (fun k hk=>by have:=(hlt k hk).1;omega),hres,hfew,(ha0.trans ha (fun _ _ h=>h)).trans hag (fun i hi hc=>by have:=(hlt i hc).1;omega),hlen⟩
theorem jZ.first{w w2:World}{P:Nat}{S:ByteArray}{p:Tx.Bs->Tx.R (V×Tx.Bs)}{R:Tx.R (List V×Tx.Bs)}{n:Nat}{r:Tx.Bs}{x:V}{u:AV}(hP:P<w.1.size)(ha:Aside (fun i=>i=P) w w2)(hx:aG w2 (fun k=>w.1.size<=k∧k<w2.1.size) u x)(hu:u.size=5)(hp:Prs w2 P S r)(hres:R=sqc p [x] n r)(hfew:r.length<=n)(hlen:1+r.length<=S.size+1):jZ w (w2.alloc (.cells u 36)) P S p R (.slice (some ⟨w2.1.size,0,none⟩) 1 1) [x] n r:=by
 obtain⟨wx,hx1,hx2,hx3⟩:=ha.split hP
 have hs:=ha.size
 have hst:=(fB wx w.1.size).step hx3 hx (fun k hk=>⟨by rw[hx2];exact hk.1,hk.2⟩) tZ (by rw[hx2];exact tX) (kC hu hs) (World.grownBy_alloc _ _ _) (.inr rfl)
 have hb3:Below w2.1.size w2 (w2.alloc (.cells u 36)):=tY
 exact⟨⟨_,_,hst⟩,hp.on hb3,hres,hfew,ha.trans (ag hb3 (fun i=>i=P)) (fun _ _ h=>h),hlen⟩
theorem mY{w:World}{P:Nat}{S:ByteArray}{l:Tx.Bs}(h:Prs w P S l)(hS:S.size<=1099511627776)(p:Tx.Bs->Tx.R (V×Tx.Bs))(hp:∀l x r,p l=.ok (x,r)->r.length<=l.length)(a2 a3:Addr)(hone:∀w' l',Aside (fun i=>i=P) w w'->Prs w' P S l'->Calls Tryz.prog 111 #[.pointer (some a2),.pointer (some a3)] w' (PsA w' P S (p l') (bl w'))):
    Calls Tryz.prog 110 #[.pointer (some ⟨P,0,none⟩),.func (.func 111) #[] #[.pointer (some a2),.pointer (some a3)]] w (PsA w P S (Tx.pseq p (l.length+1) l) (gN w)):=by
  have HO:=tQ hone
  have HPp:=tQ hp
  obtain⟨R,hR⟩:∃R,R=Tx.pseq p (l.length+1) l:=⟨_,rfl⟩
  have HRR:Hid (R=aB (p l) fun x r=>sqc p [x] l.length r):=hR.trans (gD p hp l.length l tX)
  rw[<-hR]
  have HPlt:=tQ h.lt
  have HO1:=tQ (hone w l (Aside.refl _ _) h)
  obtain⟨Y,hY⟩:∃Y,Y=p l:=⟨_,rfl⟩
  rw[<-hY] at HO1 HRR
  have hle:=h.le
  have HLl:=tQ hle
  clear h hone hR hle
  cases Y with
  |error er=>
    obtain⟨ek,en⟩:=er
    have HRe:Hid (R=.error (ek,en)):=HRR.out
    clear HRR hY hp
    go_enter Tryz.func110,Tryz.ntmps110
    go_wp2_with fail
    refine HO1.out.mono ?_
    intro e w1 hh
    obtain⟨he,ha1⟩:=hh.bad
    subst he
    have HA1:=tQ ha1
    clear hh ha1 HO1
    go_wp2
    rw[HRe.out]
    exact⟨rfl,rfl,HA1.out⟩
  |ok z=>
    obtain⟨x,r⟩:=z
    have HRk:Hid (R=sqc p [x] l.length r):=HRR.out
    have HLr:=tQ (hp _ _ _ hY.symm)
    clear HRR hY hp
    go_enter Tryz.func110,Tryz.ntmps110
    go_wp2_with fail
    refine HO1.out.mono ?_
    intro e w1 hh
    obtain⟨v1,he,hv1,hp1,ha1⟩:=hh.good
    obtain⟨u1,hu1,hown1⟩:=hv1.open
    obtain⟨k1,i1,b1,t1,p1,n1,c1,hsh⟩:=hown1.shape
    subst hsh
    unfold cells5 at hu1 hown1
    subst hu1
    subst he
    have HI1:Hid (jZ w (w1.alloc (.cells #[.int .i64 k1,.int .i64 i1,.float .f64 b1,.string t1,.slice p1 n1 c1] 36)) P S p R (.slice (some ⟨w1.1.size,0,none⟩) 1 1) [x] l.length r) :=
      jZ.first HPlt.out ha1 hown1 rfl hp1 HRk.out HLr.out (by have:=HLr.out;have:=HLl.out;omega)
    clear hh hv1 hown1 hp1 ha1 HO1 HRk HLr
    go_wp2_with fail
    go_loopw [5] (fun v5 wr=>∃(q:OA) (cap n:Nat) (xs:List V) (r:Tx.Bs),v5=.slice q xs.length cap∧Hid (jZ w wr P S p R (.slice q xs.length cap) xs n r)) (fun _ wr=>S.size-atOf wr P)
    case atStart=>exact⟨_,1,l.length,[x],r,rfl,HI1⟩
    case round=>
      obtain⟨q,cap,n,xs,r,rfl,HI⟩:=hrel
      obtain⟨us,Fs,hbu⟩:=HI.out.built
      have hpr:=HI.out.prs
      have HBu:=tQ hbu
      have HSt:=tQ (dV hpr 44)
      have HAt:Hid (atOf wr P=S.size-r.length):=hpr.atOf
      have hsm:=hpr.small
      have hle:=hpr.le
      by_cases hc:r.head?=some 44
      case neg=>
        rw[decide_eq_false hc] at HSt
        have HRk:Hid (R=.ok (xs,r)):=HI.out.res.trans (ke hc)
        clear hc hbu hpr hsm hle
        go_wp2_with fail
        refine HSt.out.mono ?_
        rintro e w2 ⟨rfl,m,hw2⟩
        have HE:Hid (gN w xs (.slice q xs.length cap) w2∧Prs w2 P S r∧Aside (fun i=>i=P) w w2):=by
          rw[hw2]
          exact⟨⟨⟨us,Fs,HBu.out.aside (ax (fun _=>False) wr m) (fun _ _ h=>h) (fun _ _ _ _ h=>h)⟩,by have:=HI.out.len;omega⟩,HI.out.prs.drewN m,HI.out.asd.trans (ax _ wr m) (fun _ _ h=>h)⟩
        clear hw2 HSt
        go_wp2
        go_ret
        rw[HRk.out]
        exact⟨_,rfl,HE.out.1,HE.out.2.1,HE.out.2.2⟩
      rw[decide_eq_true hc] at HSt
      obtain⟨m,hnm,hgo⟩:=oK (p:=p) (xs:=xs) hc HI.out.few
      have HGo:Hid (R=az (Tx.must [44,32] r) fun r1=>aB (p r1) fun x r2=>sqc p (xs++[x]) m r2):=HI.out.res.trans hgo
      have HNm:=tQ hnm
      have HLn:=tQ HI.out.len
      have HFw:=tQ HI.out.few
      have HA0:=tQ HI.out.asd
      have HPs:Hid (∀k,Prs (wr.drewN k) P S r∧Aside (fun i=>i=P) wr (wr.drewN k)):=fun k=>⟨hpr.drewN k,ax _ _ k⟩
      have HC0:Hid (r.length<=S.size):=hle
      clear hc hbu hpr hsm hle hgo hnm HI
      go_wp2_with fail
      refine HSt.out.mono ?_
      rintro e w2 ⟨rfl,k,hw2⟩
      obtain⟨hp2,ha2⟩:=HPs.out k
      rw[<-hw2] at hp2 ha2
      have HPa:=tQ (cO hp2 ⟨#[44,32]⟩ (by decide))
      rw[show(ByteArray.mk #[44,32]).data.toList=[44,32] from rfl] at HPa
      have HA2:=tQ ha2
      obtain⟨G,hG⟩:∃G,G=Tx.must [44,32] r:=⟨_,rfl⟩
      rw[<-hG] at HPa HGo
      have HGe:=tQ hG
      clear hw2 hp2 ha2 HSt HPs hG
      cases G with
      |error er=>
        obtain⟨ek,en⟩:=er
        have HRe:Hid (R=.error (ek,en)):=HGo.out
        clear HGo
        go_wp2_with fail
        refine HPa.out.mono ?_
        intro e w3 hh
        obtain⟨he,ha3⟩:=hh.bad
        subst he
        have HA3:=tQ ((HA0.out.trans HA2.out (fun _ _ h=>h)).trans ha3 (fun _ _ h=>h))
        clear hh ha3 HPa
        go_wp2
        rw[HRe.out]
        exact⟨rfl,rfl,HA3.out⟩
      |ok r1=>
        have hl1:=congrArg List.length (Tx.must_ok _ _ _ HGe.out.symm)
        have HL1:Hid (r.length=r1.length+2):=by show _=_;rw[hl1,List.length_append];simp;omega
        clear hl1
        go_wp2_with fail
        refine HPa.out.mono ?_
        intro e w3 hh
        obtain⟨he,hp3,ha3⟩:=hh.good
        subst he
        have HA3:=tQ (HA2.out.trans ha3 (fun _ _ h=>h))
        have HO3:=tQ (HO.out w3 r1 ((HA0.out.trans HA2.out (fun _ _ h=>h)).trans ha3 (fun _ _ h=>h)) hp3)
        have HG2:Hid (R=aB (p r1) fun x r2=>sqc p (xs++[x]) m r2):=HGo.out
        obtain⟨Y,hY⟩:∃Y,Y=p r1:=⟨_,rfl⟩
        rw[<-hY] at HO3 HG2
        have HYe:=tQ hY
        clear hh hp3 ha3 HPa HGo hY
        cases Y with
        |error er=>
          obtain⟨ek,en⟩:=er
          have HRe:Hid (R=.error (ek,en)):=HG2.out
          clear HG2
          go_wp2_with fail
          refine HO3.out.mono ?_
          intro e w4 hh
          obtain⟨he,ha4⟩:=hh.bad
          subst he
          have HA4:=tQ ((HA0.out.trans HA3.out (fun _ _ h=>h)).trans ha4 (fun _ _ h=>h))
          clear hh ha4 HO3
          go_wp2
          rw[HRe.out]
          exact⟨rfl,rfl,HA4.out⟩
        |ok z=>
          obtain⟨x,r2⟩:=z
          have HRk:Hid (R=sqc p (xs++[x]) m r2):=HG2.out
          have HL2:=tQ (HPp.out _ _ _ HYe.out.symm)
          clear HG2 HYe
          go_wp2_with fail
          refine HO3.out.mono ?_
          intro e w4 hh
          obtain⟨v1,he,hv1,hp4,ha4⟩:=hh.good
          obtain⟨u1,hu1,hown1⟩:=hv1.open
          obtain⟨k1,i1,b1,t1,p1,n1,c1,hsh⟩:=hown1.shape
          subst hsh
          unfold cells5 at hu1 hown1
          subst hu1
          subst he
          have hA4:Aside (fun i=>i=P) wr w4:=HA3.out.trans ha4 (fun _ _ h=>h)
          have hs3:=HA3.out.size
          have hown2:aG w4 (fun k=>wr.1.size<=k∧k<w4.1.size) #[.int .i64 k1,.int .i64 i1,.float .f64 b1,.string t1,.slice p1 n1 c1] x:=hown1.mono (fun k hk=>⟨by omega,hk.2⟩)
          have hrow:(w4.alloc (.cells #[.int .i64 k1,.int .i64 i1,.float .f64 b1,.string t1,.slice p1 n1 c1] 36)).ownsRow w.1.size 36 5 (.slice q xs.length cap) xs.length (flat us xs.length):=by
            have hb4:Below w4.1.size w4 (w4.alloc (.cells #[.int .i64 k1,.int .i64 i1,.float .f64 b1,.string t1,.slice p1 n1 c1] 36)):=tY
            have h1:=HBu.out.aside (hA4.trans (ag hb4 (fun i=>i=P)) (fun _ _ h=>h)) (fun g hg he=>by have:=(HBu.out.lt g hg).1;have:=HPlt.out;omega) (fun j hj k hk he=>by have:=(HBu.out.range j hj k hk).1;have:=HPlt.out;omega)
            exact h1.row
          have HRow:=tQ hrow
          have HOw:=tQ hown2
          have HA4:=tQ hA4
          have HP4:=tQ hp4
          have hn64:(xs.length+1)*64<=140737488355328:=by have:=HLn.out;omega
          have hBs:w.1.size<=(w4.alloc (.cells #[.int .i64 k1,.int .i64 i1,.float .f64 b1,.string t1,.slice p1 n1 c1] 36)).1.size:=by have:=HA0.out.size;have:=hA4.size;simp;omega
          clear hh hv1 hown1 hown2 hp4 ha4 hA4 hs3 hrow HO3 HO
          go_wp2_with (first
            | (at_builtin;refine jn (B:=w.1.size) HRow.out rfl (tk HOw.out) (ad:=w4.1.size) (by exact aj w4 _) hn64 hBs (H:=w4.1.size+1) (by simp) rfl rfl rfl rfl ?_
               intro g cap2 w5 hr5 hg5 hn5
               have HI5:Hid (jZ w w5 P S p R (.slice (some ⟨g,0,none⟩) (xs++[x]).length cap2) (xs++[x]) m r2):=jZ.more HPlt.out HBu.out HA0.out HA4.out HOw.out HP4.out hr5 hg5 hn5 HRk.out (by have:=HL2.out;have:=HL1.out;have:=HFw.out;have:=HNm.out;omega) (by have:=HL2.out;have:=HL1.out;have:=HLn.out;simp;omega)
               clear hr5 hg5 hn5)
            |fail)
          go_roundw
          case rel=>exact⟨some ⟨g,0,none⟩,cap2,m,xs++[x],r2,by simp,HI5⟩
          case measure=>
            have h6:=HI5.out.prs.atOf
            have h7:=HI5.out.prs.le
            have h8:=HL1.out
            have h9:=HL2.out
            have h10:=HC0.out
            rw[h6,HAt.out]
            omega
end
section
open Go.RowKit
attribute [local go_sem] ah
theorem aL.low{w:World}{B B':Nat}{v:Value}{n:Nat}{us:Nat->AV}{Fs:Nat->Nat->Prop}{ys:List V}(h:aL w B v n us Fs ys)(hB:B'<=B):aL w B' v n us Fs ys:=by
 refine⟨h.len,h.five,?_,h.own,h.apart,h.beside,fun j hj k hk=>⟨Nat.le_trans hB (h.range j hj k hk).1,(h.range j hj k hk).2⟩⟩
 refine⟨h.row.1,?_⟩
 rcases h.row.2 with h3 | ⟨g,cap,cur,rfl,h4,h5⟩
 ·exact .inl h3
 ·exact .inr ⟨g,cap,cur,rfl,Nat.le_trans hB h4,h5⟩
def ii(rf:Tx.Bs->Option Nat)(f:Nat)(l:Tx.Bs):Tx.R (V×Tx.Bs) :=
 if l.takeWhile Sch.low=[116,114,117,101] then .ok (⟨1,1,0,⟨#[]⟩,[]⟩,l.dropWhile Sch.low)
 else if l.takeWhile Sch.low=[102,97,108,115,101] then .ok (⟨1,0,0,⟨#[]⟩,[]⟩,l.dropWhile Sch.low)
 else if l.takeWhile Sch.low=[110,111,110,101] then .ok (⟨6,0,0,⟨#[]⟩,[]⟩,l.dropWhile Sch.low)
 else if l.takeWhile Sch.low=[115,111,109,101] then az (Tx.must [40] (l.dropWhile Sch.low)) fun r=>aB (Tx.pval rf f r) fun x r=>az (Tx.must [41] r) fun r=>.ok (⟨6,0,0,⟨#[]⟩,[x]⟩,r)
 else .error (5,l.length)
def nE(rf:Tx.Bs->Option Nat)(f:Nat)(l:Tx.Bs):Tx.R (V×Tx.Bs):=az (Tx.must [91] l) fun t=>
 if t.head?=some 93 then az (Tx.must [93] t) fun r=>.ok (⟨7,0,0,⟨#[]⟩,[]⟩,r)
 else aB (Tx.pseq (Tx.pval rf f) (t.length+1) t) fun xs r=>az (Tx.must [93] r) fun r=>.ok (⟨7,0,0,⟨#[]⟩,xs⟩,r)
def pqv(k:Int)(q:UInt8)(l:Tx.Bs):Tx.R (V×Tx.Bs):=aB (jD q l) fun x r=>.ok (⟨k,0,0,⟨x.toArray⟩,[]⟩,r)
theorem cX(c:UInt8)(t:Tx.Bs):Tx.must [c] (c::t)=.ok t:=by
 show(if c=c then Tx.must [] t else _)=_
 rw[if_pos rfl]
 rfl
theorem lU{c d:UInt8}(t:Tx.Bs)(h:d≠c):Tx.must [c] (d::t)=.error (5,t.length+1):=by
 show(if d=c then Tx.must [] t else _)=_
 rw[if_neg h]
theorem d9(rf:Tx.Bs->Option Nat)(f:Nat)(c:UInt8)(t:Tx.Bs):Tx.pval rf (f+1) (c::t)=if Sch.low c then ii rf f (c::t) else if Tx.iset c then pc (c::t) else if c=126 then nF rf (c::t) else if c=34 then pqv 4 34 (c::t) else if c=39 then pqv 5 39 (c::t) else nE rf f (c::t):=by
 rw[Tx.pval]
 by_cases h1:Sch.low c=true
 ·rw[if_pos h1,if_pos h1]
  unfold ii
  by_cases w1:(c::t).takeWhile Sch.low=[116,114,117,101]
  ·rw[if_pos w1,if_pos w1]
  rw[if_neg w1,if_neg w1]
  by_cases w2:(c::t).takeWhile Sch.low=[102,97,108,115,101]
  ·rw[if_pos w2,if_pos w2]
  rw[if_neg w2,if_neg w2]
  by_cases w3:(c::t).takeWhile Sch.low=[110,111,110,101]
  ·rw[if_pos w3,if_pos w3]
  rw[if_neg w3,if_neg w3]
  by_cases w4:(c::t).takeWhile Sch.low=[115,111,109,101]
  ·rw[if_pos w4,if_pos w4]
   cases Tx.must [40] ((c::t).dropWhile Sch.low) with
   |error e=>rfl
   |ok r=>
    dsimp only[az]
    cases Tx.pval rf f r with
    |error e=>rfl
    |ok p=>rfl
  ·rw[if_neg w4,if_neg w4]
   rfl
 rw[if_neg h1,if_neg h1]
 by_cases h2:Tx.iset c=true
 ·rw[if_pos h2,if_pos h2]
  rfl
 rw[if_neg h2,if_neg h2]
 by_cases h3:c=126
 ·rw[if_pos h3,if_pos h3]
  subst h3
  unfold nF
  rw[cX]
  rfl
 rw[if_neg h3,if_neg h3]
 by_cases h4:c=34
 ·rw[if_pos h4,if_pos h4]
  subst h4
  unfold pqv jD
  rw[cX]
  dsimp only[az]
  cases Tx.pq 34 t with
  |error e=>rfl
  |ok p=>rfl
 rw[if_neg h4,if_neg h4]
 by_cases h5:c=39
 ·rw[if_pos h5,if_pos h5]
  subst h5
  unfold pqv jD
  rw[cX]
  dsimp only[az]
  cases Tx.pq 39 t with
  |error e=>rfl
  |ok p=>rfl
 rw[if_neg h5,if_neg h5]
 unfold nE
 by_cases h6:c=91
 ·rw[if_pos h6]
  subst h6
  rw[cX]
  dsimp only[az]
  by_cases h7:t.head?=some 93
  ·rw[if_pos h7,if_pos h7]
   match t,h7 with
   |d::t,h7=>
    injection h7 with h7
    subst h7
    rw[cX]
    rfl
  ·rw[if_neg h7,if_neg h7]
   have h8:=iX (Tx.pval rf f) (t.length+1) t
   cases h9:Tx.pits (Tx.pval rf f) (t.length+1) t with
   |error e=>
    rw[h9] at h8
    cases h10:Tx.pseq (Tx.pval rf f) (t.length+1) t with
    |error e'=>
     rw[h10] at h8
     injection h8 with h8
     rw[h8]
     rfl
    |ok z=>
     rw[h10] at h8
     dsimp only[aB] at h8 ⊢
     cases h11:Tx.must [93] z.2 with
     |error e'=>
      rw[h11] at h8
      dsimp only[az] at h8 ⊢
      injection h8 with h8
      rw[h8]
     |ok r=>rw[h11] at h8;cases h8
   |ok y=>
    rw[h9] at h8
    cases h10:Tx.pseq (Tx.pval rf f) (t.length+1) t with
    |error e'=>
     rw[h10] at h8
     dsimp only[aB] at h8 ⊢
     cases h11:Tx.must [93] y.2 with
     |error e'=>
      rw[h11] at h8
      dsimp only[az] at h8 ⊢
      injection h8 with h8
      rw[h8]
     |ok r=>rw[h11] at h8;cases h8
    |ok z=>
     rw[h10] at h8
     dsimp only[aB] at h8 ⊢
     cases h11:Tx.must [93] y.2 with
     |error e1=>
      rw[h11] at h8
      cases h12:Tx.must [93] z.2 with
      |error e2=>
       rw[h12] at h8
       dsimp only[az] at h8 ⊢
       injection h8 with h8
       rw[h8]
      |ok r=>rw[h12] at h8;cases h8
     |ok r1=>
      rw[h11] at h8
      cases h12:Tx.must [93] z.2 with
      |error e2=>rw[h12] at h8;cases h8
      |ok r2=>
       rw[h12] at h8
       dsimp only[az] at h8 ⊢
       injection h8 with h8
       injection h8 with h13 h14
       rw[h13,h14]
 ·rw[if_neg h6,lU t h6]
  rfl
theorem oA{w:World}{P g:Nat}{S:ByteArray}{l:Tx.Bs}(h:Prs w P S l)(d:Int)(R:Tx.R (V×Tx.Bs))(h1:w.cell? ⟨g,0,none⟩=some (.pointer (some ⟨P,0,none⟩)))(h2:w.cell? ⟨g+1,0,none⟩=some (.int .i64 d))(hg:g+1<w.1.size)(hval:∀w',Prs w' P S l->Calls Tryz.prog 64 #[.pointer (some ⟨P,0,none⟩),.int .i64 d] w' (PsA w' P S R (bl w'))):
  Calls Tryz.prog 111 #[.pointer (some ⟨g,0,none⟩),.pointer (some ⟨g+1,0,none⟩)] w (PsA w P S R (bl w)):=by
 obtain⟨W0,hW0⟩:∃W0,W0=w.alloc (.cells #[.int .i64 0,.int .i64 0,.float .f64 0,.string ⟨#[]⟩,.slice none 0 0] 36):=⟨_,rfl⟩
 have HB0:Hid (Below w.1.size w W0):=by rw[hW0];exact tY
 have HN0:Hid (W0.1[w.1.size]?=some (.cells ar 36 (0,0))):=by rw[hW0];exact aj w _
 have HW0:=tQ hW0
 have HV:=tQ (hval W0 (h.on HB0.out))
 have HPlt:=tQ h.lt
 have hPN:¬w.1.size=P:=by have:=h.lt;omega
 have hg0:g<w.1.size:=by omega
 have HA0:=tQ (ag HB0.out (fun i=>i=P))
 rw[hW0] at HV
 clear h hval hW0
 cases R with
 |error er=>
  obtain⟨ek,en⟩:=er
  go_enter Tryz.func111,Tryz.ntmps111
  go_wp2_with fail
  refine HV.out.mono ?_
  intro e w1 hh
  rw[<-HW0.out] at hh
  obtain⟨he,ha1⟩:=hh.bad
  subst he
  have HA1:=tQ (HA0.out.trans ha1 (fun _ _ h=>h))
  clear hh ha1 HV
  go_wp2
  exact⟨rfl,rfl,HA1.out⟩
 |ok z=>
  obtain⟨x,r⟩:=z
  go_enter Tryz.func111,Tryz.ntmps111
  go_wp2_with fail
  refine HV.out.mono ?_
  intro e w1 hh
  rw[<-HW0.out] at hh
  obtain⟨v1,he,hv1,hp1,ha1⟩:=hh.good
  obtain⟨u1,hu1,hown1⟩:=hv1.open
  obtain⟨k1,i1,b1,t1,p1,n1,c1,hsh⟩:=hown1.shape
  subst hsh
  subst hu1
  subst he
  have HN1:Hid (w1.1[w.1.size]?=some (.cells ar 36 (0,0))):=(ha1.block _ (ae HN0.out) hPN).trans HN0.out
  have hls:=ae HN0.out
  have HFin:=tQ (fun w5 hw5=>ee (w5:=w5) HPlt.out HN1.out hown1 (fun k hk=>⟨by omega,hk.2⟩) hp1 (HA0.out.trans ha1 (fun _ _ h=>h)) hw5)
  unfold cells5
  have zf0:=ac HN1.out 0
  have zf1:=ac HN1.out 1
  have zf2:=ac HN1.out 2
  have zf3:=ac HN1.out 3
  have zf4:=ac HN1.out 4
  have z0:w1.cell? ⟨w.1.size,0,none⟩=some (.int .i64 0):=ab HN1.out 0
  have z1:w1.cell? ⟨w.1.size,1,none⟩=some (.int .i64 0):=ab HN1.out 1
  have z2:w1.cell? ⟨w.1.size,2,none⟩=some (.float .f64 0):=ab HN1.out 2
  have z3:w1.cell? ⟨w.1.size,3,none⟩=some (.string ⟨#[]⟩):=ab HN1.out 3
  have z4:w1.cell? ⟨w.1.size,4,none⟩=some (.slice none 0 0):=ab HN1.out 4
  clear hh hv1 hown1 hp1 ha1 HV hls
  go_wp2
  obtain⟨f1,f2,f3,f4⟩:=HFin.out _ rfl
  refine bodyPost_ret (v:=.agg (cells5 k1 i1 b1 t1 p1 n1 c1)) (results_cell_row rfl _ _ w.1.size _ _ _ _ rfl f1 Tryz.underlying36 rfl (by kernel_rfl)) rfl ?_
  exact⟨_,rfl,f2,f3,f4⟩
theorem mq{w:World}{P:Nat}{S:ByteArray}{l:Tx.Bs}(h:Prs w P S l)(hS:S.size<=1099511627776)(d:Int)(p:Tx.Bs->Tx.R (V×Tx.Bs))(hp:∀l x r,p l=.ok (x,r)->r.length<=l.length)(hval:∀w' l',Prs w' P S l'->Calls Tryz.prog 64 #[.pointer (some ⟨P,0,none⟩),.int .i64 d] w' (PsA w' P S (p l') (bl w'))):
  Calls Tryz.prog 69 #[.pointer (some ⟨P,0,none⟩),.int .i64 d] w (PsA w P S (Tx.pseq p (l.length+1) l) (gN w)):=by
 obtain⟨W0,hW0⟩:∃W0,W0=(w.alloc (.cells #[.pointer (some ⟨P,0,none⟩)] 57)).alloc (.cells #[.int .i64 d] 3):=⟨_,rfl⟩
 have hb0:Below w.1.size w W0:=by rw[hW0];exact tY.alloc (by simp) _
 have hs0:W0.1.size=w.1.size+2:=by rw[hW0];simp
 have hg1:W0.1[w.1.size]?=some (.cells #[.pointer (some ⟨P,0,none⟩)] 57 (0,0)):=by rw[hW0,ao _ _ (by simp)];exact aj w _
 have hg2:W0.1[w.1.size+1]?=some (.cells #[.int .i64 d] 3 (0,0)):=by
  rw[hW0]
  have:=aj (w.alloc (.cells #[.pointer (some ⟨P,0,none⟩)] 57)) (.cells #[.int .i64 d] 3)
  simpa using this
 have hlt:=h.lt
 have HSe:=tQ (mY (h.on hb0) hS p hp ⟨w.1.size,0,none⟩ ⟨w.1.size+1,0,none⟩ (fun w' l' ha hp'=>oA hp' d (p l') (by rw[ha.cell (p:=⟨w.1.size,0,none⟩) (by show w.1.size<_;omega) (by show ¬w.1.size=P;omega)];exact ab hg1 0) (by rw[ha.cell (p:=⟨w.1.size+1,0,none⟩) (by show w.1.size+1<_;omega) (by show ¬w.1.size+1=P;omega)];exact ab hg2 0) (by have:=ha.size;omega) (fun w'' h''=>hval w'' l' h'')))
 obtain⟨R,hR⟩:∃R,R=Tx.pseq p (l.length+1) l:=⟨_,rfl⟩
 rw[<-hR] at HSe ⊢
 have HW0:=tQ hW0
 have HB0:=tQ hb0
 have HA0:=tQ (ag hb0 (fun i=>i=P))
 rw[hW0] at HSe
 clear h hval hp hg1 hg2 hW0 hR hb0 hs0
 go_enter Tryz.func69,Tryz.ntmps69
 go_wp2_with fail
 refine HSe.out.mono ?_
 intro e w1 hh
 rw[<-HW0.out] at hh
 cases R with
 |error er=>
  obtain⟨ek,en⟩:=er
  obtain⟨he,ha1⟩:=hh.bad
  subst he
  have HA1:=tQ (HA0.out.trans ha1 (fun _ _ h=>h))
  clear hh ha1 HSe
  go_wp2
  exact⟨rfl,rfl,HA1.out⟩
 |ok z=>
  obtain⟨xs,r⟩:=z
  obtain⟨v1,he,hv1,hp1,ha1⟩:=hh.good
  obtain⟨⟨us,Fs,hbu⟩,hl1⟩:=hv1.open
  subst he
  have HE:Hid (gN w xs v1 w1∧Prs w1 P S r∧Aside (fun i=>i=P) w w1):=⟨⟨⟨us,Fs,hbu.low HB0.out.size⟩,hl1⟩,hp1,HA0.out.trans ha1 (fun _ _ h=>h)⟩
  clear hh hv1 hbu hp1 ha1 HSe
  go_wp2
  go_ret
  exact⟨_,rfl,HE.out.1,HE.out.2.1,HE.out.2.2⟩
end
end Go.Proofs.YtllbniljgcgbeaaGreatDoor

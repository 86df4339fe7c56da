import Derived.Test.YtllbniljgcgbeaaGreatDoorA16
import Derived.Test.YtllbniljgcgbeaaGreatDoorB12
set_option maxRecDepth 100000
set_option maxHeartbeats 8000000
namespace Go.Proofs.YtllbniljgcgbeaaGreatDoor
open Go.RowKit
attribute [local go_sem] run_store_float
def isCs (w:World) (xs:List Col) (v:Value) (w':World):Prop:=(∃ us Fs,CBuilt w' w.heap.size v xs.length us Fs xs) ∧ xs.length ≤ 1099511627777
theorem isCs.open {w w':World} {xs:List Col} {v:Value} (h:isCs w xs v w'):(∃ us Fs,CBuilt w' w.heap.size v xs.length us Fs xs) ∧ xs.length ≤ 1099511627777:=h
structure SeCs (w wr:World) (P:Nat) (S:ByteArray) (p:Tx.Bs → Tx.R (Col × Tx.Bs)) (R:Tx.R (List Col × Tx.Bs)) (v:Value) (xs:List Col) (n:Nat) (r:Tx.Bs):Prop where
 built:∃ us Fs,CBuilt wr w.heap.size v xs.length us Fs xs
 prs:Prs wr P S r
 res:R = sqc p xs n r
 few:r.length ≤ n
 asd:Aside (fun i => i = P) w wr
 len:xs.length + r.length ≤ S.size + 1
theorem SeCs.more {w wr w2 w4:World} {P:Nat} {S:ByteArray} {p:Tx.Bs → Tx.R (Col × Tx.Bs)} {R':Tx.R (List Col × Tx.Bs)} {v:Value} {xs:List Col} {m:Nat} {r2:Tx.Bs} {us:Nat → Array Value} {Fs:Nat → Nat → Prop} {x:Col} {u:Array Value} {g cap:Nat}
  (hP:P < w.heap.size) (h:CBuilt wr w.heap.size v xs.length us Fs xs) (ha0:Aside (fun i => i = P) w wr) (ha:Aside (fun i => i = P) wr w2) (hx:COwn w2 (fun k => wr.heap.size ≤ k ∧ k < w2.heap.size) u x) (hp:Prs w2 P S r2)
  (hr:w4.ownsRow w.heap.size 38 9 (.slice (some ⟨g,0,none⟩) (xs.length + 1) cap) (xs.length + 1) (flat us xs.length ++ u.toList)) (hg:(w2.alloc (.cells u 38)).grownBy w4 v.ownBlock) (hn:v.ownBlock = some g ∨ g = w2.heap.size + 1)
  (hres:R' = sqc p (xs ++ [x]) m r2) (hfew:r2.length ≤ m) (hlen:(xs ++ [x]).length + r2.length ≤ S.size + 1):SeCs w w4 P S p R' (.slice (some ⟨g,0,none⟩) (xs ++ [x]).length cap) (xs ++ [x]) m r2:=by
 have hb3:Below w2.heap.size w2 (w2.alloc (.cells u 38)):=(Below.refl _ _).alloc (Nat.le_refl _) _
 have hs0:=ha0.size
 have hs2:=ha.size
 obtain ⟨wx,hx1,hx2,hx3⟩:=ha.split (by omega)
 have hbx:CBuilt wx w.heap.size v xs.length us Fs xs:=h.aside hx1 (fun g hg he => by have:=(h.lt g hg).1;omega) (fun j hj k hk he => by have:=(h.range j hj k hk).1;omega)
 have hst:=hbx.step hx3 hx (fun k hk => ⟨by rw [hx2];exact hk.1,hk.2⟩) hb3 (by rw [hx2];omega) hr hg (by rcases hn with hn | hn;exact .inl hn;exact .inr (by rw [hn];simp))
 have hag:Aside (fun k => v.ownBlock = some k) w2 w4:=(aside_new hb3 _).trans (aside_grew hg) (fun _ _ h => h)
 have hlt:=h.lt
 have el:(xs ++ [x]).length = xs.length + 1:=by simp
 refine ⟨⟨_,_,by rw [el];exact hst⟩,hp.aside hag (fun k hk => by have:=(hlt k hk).1;omega),hres,hfew,(ha0.trans ha (fun _ _ h => h)).trans hag (fun i hi hc => by have:=(hlt i hc).1;omega),hlen⟩
theorem SeCs.first {w w2:World} {P:Nat} {S:ByteArray} {p:Tx.Bs → Tx.R (Col × Tx.Bs)} {R:Tx.R (List Col × Tx.Bs)} {n:Nat} {r:Tx.Bs} {x:Col} {u:Array Value} (hP:P < w.heap.size) (ha:Aside (fun i => i = P) w w2) (hx:COwn w2 (fun k => w.heap.size ≤ k ∧ k < w2.heap.size) u x) (hu:u.size = 9) (hp:Prs w2 P S r)
  (hres:R = sqc p [x] n r) (hfew:r.length ≤ n) (hlen:1 + r.length ≤ S.size + 1):SeCs w (w2.alloc (.cells u 38)) P S p R (.slice (some ⟨w2.heap.size,0,none⟩) 1 1) [x] n r:=by
 obtain ⟨wx,hx1,hx2,hx3⟩:=ha.split hP
 have hs:=ha.size
 have hst:=(cbuilt_nil wx w.heap.size).step hx3 hx (fun k hk => ⟨by rw [hx2];exact hk.1,hk.2⟩) (Below.refl _ _) (by rw [hx2];exact Nat.le_refl _) (owns_lit hu hs) (World.grownBy_alloc _ _ _) (.inr rfl)
 have hb3:Below w2.heap.size w2 (w2.alloc (.cells u 38)):=(Below.refl _ _).alloc (Nat.le_refl _) _
 exact ⟨⟨_,_,hst⟩,hp.on hb3,hres,hfew,ha.trans (aside_new hb3 (fun i => i = P)) (fun _ _ h => h),hlen⟩
theorem severalCs {w:World} {P:Nat} {S:ByteArray} {l:Tx.Bs} (h:Prs w P S l) (hS:S.size ≤ 1099511627776) (p:Tx.Bs → Tx.R (Col × Tx.Bs)) (hp:∀ l x r,p l = .ok (x,r) → r.length ≤ l.length)
    (hone:∀ w' l',Aside (fun i => i = P) w w' → Prs w' P S l' → Calls Tryz.prog 50 #[.pointer (some ⟨P,0,none⟩)] w' (PsA w' P S (p l') (isCo w'))) :
    Calls Tryz.prog 49 #[.pointer (some ⟨P,0,none⟩),.func (.func 50) #[.pointer (some ⟨P,0,none⟩)] #[]] w (PsA w P S (Tx.pseq p (l.length + 1) l) (isCs w)):=by
  have HO:=Lib.hid hone
  have HPp:=Lib.hid hp
  obtain ⟨R,hR⟩:∃ R,R = Tx.pseq p (l.length + 1) l:=⟨_,rfl⟩
  have HRR:Hid (R = andP (p l) fun x r => sqc p [x] l.length r):=hR.trans (pseq_sqc p hp l.length l (Nat.le_refl _))
  rw [← hR]
  have HPlt:=Lib.hid h.lt
  have HO1:=Lib.hid (hone w l (Aside.refl _ _) h)
  obtain ⟨Y,hY⟩:∃ Y,Y = p l:=⟨_,rfl⟩
  rw [← hY] at HO1 HRR
  have hle:=h.le
  have HLl:=Lib.hid hle
  clear h hone hR hle
  cases Y with
  | error er =>
    obtain ⟨ek,en⟩:=er
    have HRe:Hid (R = .error (ek,en)):=HRR.out
    clear HRR hY hp
    go_enter Tryz.func49,Tryz.ntmps49
    go_wp2_with fail
    refine HO1.out.mono ?_
    intro e w1 hh
    obtain ⟨he,ha1⟩:=hh.bad
    subst he
    have HA1:=Lib.hid ha1
    clear hh ha1 HO1
    go_wp2
    rw [HRe.out]
    exact ⟨rfl,rfl,HA1.out⟩
  | ok z =>
    obtain ⟨x,r⟩:=z
    have HRk:Hid (R = sqc p [x] l.length r):=HRR.out
    have HLr:=Lib.hid (hp _ _ _ hY.symm)
    clear HRR hY hp
    go_enter Tryz.func49,Tryz.ntmps49
    go_wp2_with fail
    refine HO1.out.mono ?_
    intro e w1 hh
    obtain ⟨v1,he,hv1,hp1,ha1⟩:=hh.good
    obtain ⟨u1,hu1,hown1⟩:=hv1.open
    obtain ⟨nm1,k1,tp1,tn1,tc1,hs1,vk1,vi1,vb1,vt1,vp1,vn1,vc1,hsh⟩:=hown1.shape
    subst hsh
    unfold cells9 at hu1 hown1
    subst hu1
    subst he
    have HI1:Hid (SeCs w (w1.alloc (.cells #[.string nm1,.int .i64 k1,.slice tp1 tn1 tc1,.bool hs1,.int .i64 vk1,.int .i64 vi1,.float .f64 vb1,.string vt1,.slice vp1 vn1 vc1] 38)) P S p R (.slice (some ⟨w1.heap.size,0,none⟩) 1 1) [x] l.length r) :=
      SeCs.first HPlt.out ha1 hown1 rfl hp1 HRk.out HLr.out (by have:=HLr.out;have:=HLl.out;omega)
    clear hh hv1 hown1 hp1 ha1 HO1 HRk HLr
    go_wp2_with fail
    go_loopw [5] (fun v5 wr => ∃ (q:Option Addr) (cap n:Nat) (xs:List Col) (r:Tx.Bs),v5 = .slice q xs.length cap ∧ Hid (SeCs w wr P S p R (.slice q xs.length cap) xs n r)) (fun _ wr => S.size - atOf wr P)
    case atStart => exact ⟨_,1,l.length,[x],r,rfl,HI1⟩
    case round =>
      obtain ⟨q,cap,n,xs,r,rfl,HI⟩:=hrel
      obtain ⟨us,Fs,hbu⟩:=HI.out.built
      have hpr:=HI.out.prs
      have HBu:=Lib.hid hbu
      have HSt:=Lib.hid (standsK hpr 44)
      have HAt:Hid (atOf wr P = S.size - r.length):=hpr.atOf
      have hsm:=hpr.small
      have hle:=hpr.le
      by_cases hc:r.head? = some 44
      case neg =>
        rw [decide_eq_false hc] at HSt
        have HRk:Hid (R = .ok (xs,r)):=HI.out.res.trans (sqc_stop hc)
        clear hc hbu hpr hsm hle
        go_wp2_with fail
        refine HSt.out.mono ?_
        rintro e w2 ⟨rfl,m,hw2⟩
        have HE:Hid (isCs w xs (.slice q xs.length cap) w2 ∧ Prs w2 P S r ∧ Aside (fun i => i = P) w w2):=by
          rw [hw2]
          exact ⟨⟨⟨us,Fs,HBu.out.aside (aside_drewN (fun _ => False) wr m) (fun _ _ h => h) (fun _ _ _ _ h => h)⟩,by have:=HI.out.len;omega⟩,HI.out.prs.drewN m,HI.out.asd.trans (aside_drewN _ wr m) (fun _ _ h => h)⟩
        clear hw2 HSt
        go_wp2
        go_ret
        rw [HRk.out]
        exact ⟨_,rfl,HE.out.1,HE.out.2.1,HE.out.2.2⟩
      rw [decide_eq_true hc] at HSt
      obtain ⟨m,hnm,hgo⟩:=sqc_go (p:=p) (xs:=xs) hc HI.out.few
      have HGo:Hid (R = andM (Tx.must [44,32] r) fun r1 => andP (p r1) fun x r2 => sqc p (xs ++ [x]) m r2):=HI.out.res.trans hgo
      have HNm:=Lib.hid hnm
      have HLn:=Lib.hid HI.out.len
      have HFw:=Lib.hid HI.out.few
      have HA0:=Lib.hid HI.out.asd
      have HPs:Hid (∀ k,Prs (wr.drewN k) P S r ∧ Aside (fun i => i = P) wr (wr.drewN k)):=fun k => ⟨hpr.drewN k,aside_drewN _ _ k⟩
      have HC0:Hid (r.length ≤ S.size):=hle
      clear hc hbu hpr hsm hle hgo hnm HI
      go_wp2_with fail
      refine HSt.out.mono ?_
      rintro e w2 ⟨rfl,k,hw2⟩
      obtain ⟨hp2,ha2⟩:=HPs.out k
      rw [← hw2] at hp2 ha2
      have HPa:=Lib.hid (passK hp2 ⟨#[44,32]⟩ (by decide))
      rw [show (ByteArray.mk #[44,32]).data.toList = [44,32] from rfl] at HPa
      have HA2:=Lib.hid ha2
      obtain ⟨G,hG⟩:∃ G,G = Tx.must [44,32] r:=⟨_,rfl⟩
      rw [← hG] at HPa HGo
      have HGe:=Lib.hid hG
      clear hw2 hp2 ha2 HSt HPs hG
      cases G with
      | error er =>
        obtain ⟨ek,en⟩:=er
        have HRe:Hid (R = .error (ek,en)):=HGo.out
        clear HGo
        go_wp2_with fail
        refine HPa.out.mono ?_
        intro e w3 hh
        obtain ⟨he,ha3⟩:=hh.bad
        subst he
        have HA3:=Lib.hid ((HA0.out.trans HA2.out (fun _ _ h => h)).trans ha3 (fun _ _ h => h))
        clear hh ha3 HPa
        go_wp2
        rw [HRe.out]
        exact ⟨rfl,rfl,HA3.out⟩
      | ok r1 =>
        have hl1:=congrArg List.length (Tx.must_ok _ _ _ HGe.out.symm)
        have HL1:Hid (r.length = r1.length + 2):=by show _ = _;rw [hl1,List.length_append];simp;omega
        clear hl1
        go_wp2_with fail
        refine HPa.out.mono ?_
        intro e w3 hh
        obtain ⟨he,hp3,ha3⟩:=hh.good
        subst he
        have HA3:=Lib.hid (HA2.out.trans ha3 (fun _ _ h => h))
        have HO3:=Lib.hid (HO.out w3 r1 ((HA0.out.trans HA2.out (fun _ _ h => h)).trans ha3 (fun _ _ h => h)) hp3)
        have HG2:Hid (R = andP (p r1) fun x r2 => sqc p (xs ++ [x]) m r2):=HGo.out
        obtain ⟨Y,hY⟩:∃ Y,Y = p r1:=⟨_,rfl⟩
        rw [← hY] at HO3 HG2
        have HYe:=Lib.hid hY
        clear hh hp3 ha3 HPa HGo hY
        cases Y with
        | error er =>
          obtain ⟨ek,en⟩:=er
          have HRe:Hid (R = .error (ek,en)):=HG2.out
          clear HG2
          go_wp2_with fail
          refine HO3.out.mono ?_
          intro e w4 hh
          obtain ⟨he,ha4⟩:=hh.bad
          subst he
          have HA4:=Lib.hid ((HA0.out.trans HA3.out (fun _ _ h => h)).trans ha4 (fun _ _ h => h))
          clear hh ha4 HO3
          go_wp2
          rw [HRe.out]
          exact ⟨rfl,rfl,HA4.out⟩
        | ok z =>
          obtain ⟨x,r2⟩:=z
          have HRk:Hid (R = sqc p (xs ++ [x]) m r2):=HG2.out
          have HL2:=Lib.hid (HPp.out _ _ _ HYe.out.symm)
          clear HG2 HYe
          go_wp2_with fail
          refine HO3.out.mono ?_
          intro e w4 hh
          obtain ⟨v1,he,hv1,hp4,ha4⟩:=hh.good
          obtain ⟨u1,hu1,hown1⟩:=hv1.open
          obtain ⟨nm1,k1,tp1,tn1,tc1,hs1,vk1,vi1,vb1,vt1,vp1,vn1,vc1,hsh⟩:=hown1.shape
          subst hsh
          unfold cells9 at hu1 hown1
          subst hu1
          subst he
          have hA4:Aside (fun i => i = P) wr w4:=HA3.out.trans ha4 (fun _ _ h => h)
          have hs3:=HA3.out.size
          have hown2:COwn w4 (fun k => wr.heap.size ≤ k ∧ k < w4.heap.size) #[.string nm1,.int .i64 k1,.slice tp1 tn1 tc1,.bool hs1,.int .i64 vk1,.int .i64 vi1,.float .f64 vb1,.string vt1,.slice vp1 vn1 vc1] x:=hown1.mono (fun k hk => ⟨by omega,hk.2⟩)
          have hrow:(w4.alloc (.cells #[.string nm1,.int .i64 k1,.slice tp1 tn1 tc1,.bool hs1,.int .i64 vk1,.int .i64 vi1,.float .f64 vb1,.string vt1,.slice vp1 vn1 vc1] 38)).ownsRow w.heap.size 38 9 (.slice q xs.length cap) xs.length (flat us xs.length):=by
            have hb4:Below w4.heap.size w4 (w4.alloc (.cells #[.string nm1,.int .i64 k1,.slice tp1 tn1 tc1,.bool hs1,.int .i64 vk1,.int .i64 vi1,.float .f64 vb1,.string vt1,.slice vp1 vn1 vc1] 38)):=(Below.refl _ _).alloc (Nat.le_refl _) _
            have h1:=HBu.out.aside (hA4.trans (aside_new hb4 (fun i => i = P)) (fun _ _ h => h)) (fun g hg he => by have:=(HBu.out.lt g hg).1;have:=HPlt.out;omega) (fun j hj k hk he => by have:=(HBu.out.range j hj k hk).1;have:=HPlt.out;omega)
            exact h1.row
          have HRow:=Lib.hid hrow
          have HOw:=Lib.hid hown2
          have HA4:=Lib.hid hA4
          have HP4:=Lib.hid hp4
          have hn64:(xs.length + 1) * 120 ≤ 140737488355328:=by have:=HLn.out;omega
          have hBs:w.heap.size ≤ (w4.alloc (.cells #[.string nm1,.int .i64 k1,.slice tp1 tn1 tc1,.bool hs1,.int .i64 vk1,.int .i64 vi1,.float .f64 vb1,.string vt1,.slice vp1 vn1 vc1] 38)).heap.size:=by have:=HA0.out.size;have:=hA4.size;simp;omega
          clear hh hv1 hown1 hown2 hp4 ha4 hA4 hs3 hrow HO3 HO
          go_wp2_with (first
            | (at_builtin;refine wp_moreC (B:=w.heap.size) HRow.out rfl (COwn.one9 HOw.out) (ad:=w4.heap.size) (by exact blk_new w4 _) hn64 hBs (H:=w4.heap.size + 1) (by simp) rfl rfl rfl rfl ?_
               intro g cap2 w5 hr5 hg5 hn5
               have HI5:Hid (SeCs w w5 P S p R (.slice (some ⟨g,0,none⟩) (xs ++ [x]).length cap2) (xs ++ [x]) m r2):=SeCs.more HPlt.out HBu.out HA0.out HA4.out HOw.out HP4.out hr5 hg5 hn5 HRk.out (by have:=HL2.out;have:=HL1.out;have:=HFw.out;have:=HNm.out;omega) (by have:=HL2.out;have:=HL1.out;have:=HLn.out;simp;omega)
               clear hr5 hg5 hn5)
            | fail)
          go_roundw
          case rel => exact ⟨some ⟨g,0,none⟩,cap2,m,xs ++ [x],r2,by simp,HI5⟩
          case measure =>
            have h6:=HI5.out.prs.atOf
            have h7:=HI5.out.prs.le
            have h8:=HL1.out
            have h9:=HL2.out
            have h10:=HC0.out
            rw [h6,HAt.out]
            omega
end Go.Proofs.YtllbniljgcgbeaaGreatDoor
namespace Go.Proofs.YtllbniljgcgbeaaGreatDoor
open Go.RowKit
attribute [local go_sem] run_store_float
def rowErr:List V → Nat
 | [] => 0
 | x :: xs => if chk 1 x = 0 then rowErr xs else chk 1 x
theorem rowErr_take:∀ (xs:List V) (j:Nat),(∀ i (h:i < xs.length),i < j → chk 1 xs[i] = 0) → rowErr xs = rowErr (xs.drop j)
 | [],j,_ => by simp
 | x :: xs,0,_ => rfl
 | x :: xs,j + 1,h => by
  have h0:=h 0 (by simp) (by omega)
  simp only [List.getElem_cons_zero] at h0
  rw [rowErr,if_pos h0,List.drop_succ_cons]
  exact rowErr_take xs j fun i hi hj => by have:=h (i + 1) (by simp;omega) (by omega);simpa using this
theorem checkRowX (xs:List V) (p:Option Addr) (c:Nat) (w:World) (hx:Items w p xs) (hl:xs.length * 64 ≤ 140737488351232):Calls Tryz.prog 40 #[.agg #[.slice p xs.length c]] w fun e w' => e = .returned (.int .i64 (rowErr xs:Nat)) ∧ Below w.heap.size w w':=by
 obtain ⟨R,hR⟩:∃ R,R = rowErr xs:=⟨_,rfl⟩
 rw [← hR]
 have HR:=Lib.hid hR
 obtain ⟨W0,hW0⟩:∃ W0,W0 = w.alloc (.cells #[.slice p xs.length c] 44):=⟨_,rfl⟩
 have hb0:Below w.heap.size w W0:=by rw [hW0];exact (Below.refl _ _).alloc (Nat.le_refl _) _
 have HB0:=Lib.hid hb0
 have HW0:=Lib.hid hW0
 have HX:=Lib.hid hx
 have hlI:(xs.length:Int) ≤ 140737488351232:=by omega
 clear hR hb0 hW0 hx hl
 go_enter Tryz.func40,Tryz.ntmps40
 go_wp2_with fail
 try rw [← HW0.out]
 go_loopw [9] (fun v9 wr => ∃ j:Nat,j ≤ xs.length ∧ v9 = .int .i64 (j:Nat) ∧ Hid ((∀ i (h:i < xs.length),i < j → chk 1 xs[i] = 0) ∧ Below w.heap.size w wr)) (fun v9 _ => xs.length - (intOf v9).toNat)
 case atStart => exact ⟨0,Nat.zero_le _,rfl,fun i hi hj => by omega,HB0.out⟩
 case round =>
  obtain ⟨j,hj,rfl,HI⟩:=hrel
  by_cases hlt:j < xs.length
  ·have f1:(j:Int) < (xs.length:Int):=by omega
   obtain ⟨u',hu,hit⟩:=HX.out j hlt
   obtain ⟨bx,ox,kx,ex,fx,gx,qx,nx,cx,rfl,hbx,rfl,a0,a1,a2,a3,a4⟩:=(hit.on HI.out.2).lies
   unfold cells5 at hu
   have HBx:=Lib.hid (HI.out.2.alloc HI.out.2.size (.cells #[.int .i64 kx,.int .i64 ex,.float .f64 fx,.string gx,.slice qx nx cx] 36))
   have HC:=Lib.hid (checkK xs[j] (wr.alloc (.cells #[.int .i64 kx,.int .i64 ex,.float .f64 fx,.string gx,.slice qx nx cx] 36)) _ (hu.on HBx.out))
   obtain ⟨er,her⟩:∃ er,er = chk 1 (xs[j]'hlt):=⟨_,rfl⟩
   rw [← her] at HC
   by_cases h0:er = 0
   ·subst h0
    have HI2:Hid (∀ i (h:i < xs.length),i < j + 1 → chk 1 xs[i] = 0):=fun i hi hj2 => by
     by_cases he:i = j
     ·subst he;exact her.symm
     ·exact HI.out.1 i hi (by omega)
    clear hu hit her hbx
    go_wp2_with fail
    refine HC.out.mono ?_
    rintro e w1 ⟨rfl,hb1⟩
    have HB1:=Lib.hid (HBx.out.trans (hb1.mono HBx.out.size))
    clear hb1 HC
    go_wp2
    go_roundw
    case rel => exact ⟨j + 1,by omega,by go_num,HI2.out,HB1.out⟩
    case measure => simp [intOf];omega
   ·have HRe:Hid (R = er):=by
     show R = _
     rw [HR.out,rowErr_take xs j HI.out.1,List.drop_eq_getElem_cons hlt,rowErr,← her,if_neg h0]
    have g0:((er:Int) != 0) = true:=bne_nt (by omega)
    clear hu hit her hbx h0
    go_wp2_with fail
    refine HC.out.mono ?_
    rintro e w1 ⟨rfl,hb1⟩
    have HB1:=Lib.hid (HBx.out.trans (hb1.mono HBx.out.size))
    clear hb1 HC
    go_wp2
    go_ret
    rw [HRe.out]
    exact ⟨rfl,HB1.out⟩
  ·have f1:¬ (j:Int) < (xs.length:Int):=by omega
   have HR0:Hid (R = 0):=by
    show R = _
    rw [HR.out,rowErr_take xs j HI.out.1,List.drop_eq_nil_of_le (by omega)]
    rfl
   go_wp2
   go_ret
   rw [HR0.out]
   exact ⟨rfl,HI.out.2⟩
theorem wholeTypeX {w:World} {P:Nat} {S:ByteArray} {l:Tx.Bs} (h:Prs w P S l):Calls Tryz.prog 44 #[.pointer (some ⟨P,0,none⟩)] w (PsA w P S (Tx.pty 4 l) (isTy w)):=by
 obtain ⟨W0,hW0⟩:∃ W0,W0 = w.alloc (.cells #[.int .i64 0,.slice none 0 0] 32):=⟨_,rfl⟩
 have HB0:Hid (Below w.heap.size w W0):=by rw [hW0];exact (Below.refl _ _).alloc (Nat.le_refl _) _
 have HN0:Hid (W0.heap[w.heap.size]? = some (.cells #[.int .i64 0,.slice none 0 0] 32 (0,0))):=by rw [hW0];exact blk_new w _
 have HW0:=Lib.hid hW0
 have HV:Hid (Calls Tryz.prog 77 #[.pointer (some ⟨P,0,none⟩),.int .i64 1] W0 (PsA W0 P S (Tx.pty 4 l) (isTy W0))):=typeAtX 4 1 l P S W0 (by omega) (h.on HB0.out)
 obtain ⟨R,hR⟩:∃ R,R = Tx.pty 4 l:=⟨_,rfl⟩
 rw [← hR] at HV ⊢
 have HPlt:=Lib.hid h.lt
 have hPN:¬ w.heap.size = P:=by have:=h.lt;omega
 have HA0:=Lib.hid (aside_new HB0.out (fun i => i = P))
 clear h hW0 hR
 go_enter Tryz.func44,Tryz.ntmps44
 go_wp2_with fail
 rw [← HW0.out]
 refine HV.out.mono ?_
 intro e w1 hh
 cases R with
 | error er =>
  obtain ⟨ek,en⟩:=er
  obtain ⟨he,ha1⟩:=hh.bad
  subst he
  have HA1:=Lib.hid (HA0.out.trans ha1 (fun _ _ h => h))
  clear hh ha1 HV
  go_wp2
  exact ⟨rfl,rfl,HA1.out⟩
 | ok z =>
  obtain ⟨x,r⟩:=z
  obtain ⟨v1,he,hv1,hp1,ha1⟩:=hh.good
  obtain ⟨u1,hu1,hown1⟩:=hv1.open
  obtain ⟨k1,p1,n1,c1,hsh⟩:=hown1.shape
  subst hsh
  subst hu1
  subst he
  have HN1:Hid (w1.heap[w.heap.size]? = some (.cells #[.int .i64 0,.slice none 0 0] 32 (0,0))):=(ha1.block _ (blk_lt HN0.out) hPN).trans HN0.out
  have hls:=blk_lt HN0.out
  have HFin:=Lib.hid (fun w5 hw5 => finT (w5:=w5) HPlt.out HN1.out hown1 (fun k hk => ⟨by omega,hk.2⟩) hp1 (HA0.out.trans ha1 (fun _ _ h => h)) hw5)
  unfold cells2
  have zf0:=blk_free HN1.out 0
  have zf1:=blk_free HN1.out 1
  have z0:w1.cell? ⟨w.heap.size,0,none⟩ = some (.int .i64 0):=blk_cell HN1.out 0
  have z1:w1.cell? ⟨w.heap.size,1,none⟩ = some (.slice none 0 0):=blk_cell HN1.out 1
  clear hh hv1 hown1 hp1 ha1 HV hls
  go_wp2
  obtain ⟨f1,f2,f3,f4⟩:=HFin.out _ rfl
  refine bodyPost_ret (v:=.agg (cells2 k1 p1 n1 c1)) (results_cell_row rfl _ _ w.heap.size _ _ _ _ rfl f1 Tryz.underlying32 rfl (by kernel_rfl)) rfl ?_
  exact ⟨_,rfl,f2,f3,f4⟩
theorem wholeValueX {rf:Tx.Bs → Option Nat} (hRf:RfOk rf) {w:World} {P:Nat} {S:ByteArray} {l:Tx.Bs} (h:Prs w P S l) (hS:S.size ≤ 1099511627776):Calls Tryz.prog 33 #[.pointer (some ⟨P,0,none⟩)] w (PsA w P S (Tx.pval rf 4 l) (isVa w)):=by
 obtain ⟨W0,hW0⟩:∃ W0,W0 = w.alloc (.cells #[.int .i64 0,.int .i64 0,.float .f64 0,.string ⟨#[]⟩,.slice none 0 0] 36):=⟨_,rfl⟩
 have HB0:Hid (Below w.heap.size w W0):=by rw [hW0];exact (Below.refl _ _).alloc (Nat.le_refl _) _
 have HN0:Hid (W0.heap[w.heap.size]? = some (.cells zero5 36 (0,0))):=by rw [hW0];exact blk_new w _
 have HW0:=Lib.hid hW0
 have HV:Hid (Calls Tryz.prog 64 #[.pointer (some ⟨P,0,none⟩),.int .i64 1] W0 (PsA W0 P S (Tx.pval rf 4 l) (isVa W0))):=valueX hRf 4 1 l P S W0 (by omega) hS (h.on HB0.out)
 obtain ⟨R,hR⟩:∃ R,R = Tx.pval rf 4 l:=⟨_,rfl⟩
 rw [← hR] at HV ⊢
 have HPlt:=Lib.hid h.lt
 have hPN:¬ w.heap.size = P:=by have:=h.lt;omega
 have HA0:=Lib.hid (aside_new HB0.out (fun i => i = P))
 clear h hW0 hR hRf
 go_enter Tryz.func33,Tryz.ntmps33
 go_wp2_with fail
 rw [← HW0.out]
 refine HV.out.mono ?_
 intro e w1 hh
 cases R with
 | error er =>
  obtain ⟨ek,en⟩:=er
  obtain ⟨he,ha1⟩:=hh.bad
  subst he
  have HA1:=Lib.hid (HA0.out.trans ha1 (fun _ _ h => h))
  clear hh ha1 HV
  go_wp2
  exact ⟨rfl,rfl,HA1.out⟩
 | ok z =>
  obtain ⟨x,r⟩:=z
  obtain ⟨v1,he,hv1,hp1,ha1⟩:=hh.good
  obtain ⟨u1,hu1,hown1⟩:=hv1.open
  obtain ⟨k1,i1,b1,t1,p1,n1,c1,hsh⟩:=hown1.shape
  subst hsh
  subst hu1
  subst he
  have HN1:Hid (w1.heap[w.heap.size]? = some (.cells zero5 36 (0,0))):=(ha1.block _ (blk_lt HN0.out) hPN).trans HN0.out
  have hls:=blk_lt HN0.out
  have HFin:=Lib.hid (fun w5 hw5 => finV (w5:=w5) HPlt.out HN1.out hown1 (fun k hk => ⟨by omega,hk.2⟩) hp1 (HA0.out.trans ha1 (fun _ _ h => h)) hw5)
  unfold cells5
  have zf0:=blk_free HN1.out 0
  have zf1:=blk_free HN1.out 1
  have zf2:=blk_free HN1.out 2
  have zf3:=blk_free HN1.out 3
  have zf4:=blk_free HN1.out 4
  have z0:w1.cell? ⟨w.heap.size,0,none⟩ = some (.int .i64 0):=blk_cell HN1.out 0
  have z1:w1.cell? ⟨w.heap.size,1,none⟩ = some (.int .i64 0):=blk_cell HN1.out 1
  have z2:w1.cell? ⟨w.heap.size,2,none⟩ = some (.float .f64 0):=blk_cell HN1.out 2
  have z3:w1.cell? ⟨w.heap.size,3,none⟩ = some (.string ⟨#[]⟩):=blk_cell HN1.out 3
  have z4:w1.cell? ⟨w.heap.size,4,none⟩ = some (.slice none 0 0):=blk_cell HN1.out 4
  clear hh hv1 hown1 hp1 ha1 HV hls
  go_wp2
  obtain ⟨f1,f2,f3,f4⟩:=HFin.out _ rfl
  refine bodyPost_ret (v:=.agg (cells5 k1 i1 b1 t1 p1 n1 c1)) (results_cell_row rfl _ _ w.heap.size _ _ _ _ rfl f1 Tryz.underlying36 rfl (by kernel_rfl)) rfl ?_
  exact ⟨_,rfl,f2,f3,f4⟩
def isSc (w:World) (xs:List Col) (v:Value) (w':World):Prop:=∃ q c,v = .agg #[.slice q xs.length c] ∧ isCs w xs (.slice q xs.length c) w'
def isRo (w:World) (xs:List V) (v:Value) (w':World):Prop:=∃ q c,v = .agg #[.slice q xs.length c] ∧ isVs w xs (.slice q xs.length c) w'
theorem isSc.open {w w':World} {xs:List Col} {v:Value} (h:isSc w xs v w'):∃ q c,v = .agg #[.slice q xs.length c] ∧ isCs w xs (.slice q xs.length c) w':=h
theorem isRo.open {w w':World} {xs:List V} {v:Value} (h:isRo w xs v w'):∃ q c,v = .agg #[.slice q xs.length c] ∧ isVs w xs (.slice q xs.length c) w':=h
theorem slice_form {w:World} {B:Nat} {T:TypeId} {n m:Nat} {v:Value} {xs:List Value} (h:w.ownsRow B T m v n xs):∃ q c,v = .slice q n c ∧ n ≤ c:=by
 rcases h.2 with ⟨rfl,h0⟩ | ⟨g,cap,cur,rfl,_,_,h3,_⟩
 ·exact ⟨none,0,by rw [h0],by omega⟩
 ·exact ⟨_,cap,rfl,h3⟩
theorem wholeSchemaX {rf:Tx.Bs → Option Nat} (hRf:RfOk rf) {w:World} {P:Nat} {S:ByteArray} {l:Tx.Bs} (h:Prs w P S l) (hS:S.size ≤ 1099511627776):Calls Tryz.prog 21 #[.pointer (some ⟨P,0,none⟩)] w (PsA w P S (Tx.pseq (Tx.pcol rf) (l.length + 1) l) (isSc w)):=by
 obtain ⟨W0,hW0⟩:∃ W0,W0 = w.alloc (.cells #[.slice none 0 0] 25):=⟨_,rfl⟩
 have HB0:Hid (Below w.heap.size w W0):=by rw [hW0];exact (Below.refl _ _).alloc (Nat.le_refl _) _
 have HN0:Hid (W0.heap[w.heap.size]? = some (.cells #[.slice none 0 0] 25 (0,0))):=by rw [hW0];exact blk_new w _
 have HW0:=Lib.hid hW0
 have HV:=Lib.hid (severalCs (h.on HB0.out) hS (Tx.pcol rf) (fun l x r hp => by
  have:=congrArg List.length (Tx.pcol_fore (rf_fok hRf) hp).1
  rw [List.length_append] at this
  omega) (fun w' l' _ h' => columnX hRf h' hS))
 obtain ⟨R,hR⟩:∃ R,R = Tx.pseq (Tx.pcol rf) (l.length + 1) l:=⟨_,rfl⟩
 rw [← hR] at HV ⊢
 have HPlt:=Lib.hid h.lt
 have hPN:¬ w.heap.size = P:=by have:=h.lt;omega
 have hPN2:¬ P = w.heap.size:=by omega
 have HA0:=Lib.hid (aside_new HB0.out (fun i => i = P))
 clear h hW0 hR hRf
 go_enter Tryz.func21,Tryz.ntmps21
 go_wp2_with fail
 rw [← HW0.out]
 refine HV.out.mono ?_
 intro e w1 hh
 cases R with
 | error er =>
  obtain ⟨ek,en⟩:=er
  obtain ⟨he,ha1⟩:=hh.bad
  subst he
  have HA1:=Lib.hid (HA0.out.trans ha1 (fun _ _ h => h))
  clear hh ha1 HV
  go_wp2
  exact ⟨rfl,rfl,HA1.out⟩
 | ok z =>
  obtain ⟨xs,r⟩:=z
  obtain ⟨v1,he,hv1,hp1,ha1⟩:=hh.good
  obtain ⟨⟨us,Fs,hbu⟩,hl1⟩:=hv1.open
  obtain ⟨q1,c1,hvq,-⟩:=slice_form hbu.row
  subst hvq
  subst he
  have hN1:w1.heap[w.heap.size]? = some (.cells #[.slice none 0 0] 25 (0,0)):=(ha1.block _ (blk_lt HN0.out) hPN).trans HN0.out
  have z0:w1.cell? ⟨w.heap.size,0,none⟩ = some (.slice none 0 0):=blk_cell hN1 0
  have zf0:=blk_free hN1 0
  have hls:=blk_lt HN0.out
  have hPl:=HPlt.out
  have HFin:Hid (∀ w5,w5 = w1.setCell ⟨w.heap.size,0,none⟩ (.slice q1 xs.length c1) → w5.heap[w.heap.size]? = some (.cells #[.slice q1 xs.length c1] 25 (0,0)) ∧ isSc w xs (.agg #[.slice q1 xs.length c1]) w5 ∧ Prs w5 P S r ∧ Aside (fun i => i = P) w w5):=fun w5 hw5 => by
   have ha5:Aside (fun i => i = w.heap.size) w1 w5:=by rw [hw5];exact (Aside.refl (fun k => k = w.heap.size) _).setCell (p:=⟨w.heap.size,0,none⟩) (.inl rfl) _
   refine ⟨by rw [hw5,blk_set hN1 0];rfl,⟨q1,c1,rfl,⟨us,Fs,?_⟩,hl1⟩,hp1.aside ha5 (fun k hk => by omega),(HA0.out.trans ha1 (fun _ _ h => h)).trans ha5 (fun i hi he => by omega)⟩
   exact (hbu.aside ha5 (fun g hg he => by have:=(hbu.lt g hg).1;omega) (fun j hj k hk he => by have:=(hbu.range j hj k hk).1;omega)).low (by omega)
  clear hh hv1 hbu hp1 ha1 HV hls hPl hN1
  go_wp2
  obtain ⟨f1,f2,f3,f4⟩:=HFin.out _ rfl
  refine bodyPost_ret (v:=.agg #[.slice q1 xs.length c1]) (results_cell_row rfl _ _ w.heap.size _ _ _ _ rfl f1 Tryz.underlying25 rfl (by kernel_rfl)) rfl ?_
  exact ⟨_,rfl,f2,f3,f4⟩
def prow (rf:Tx.Bs → Option Nat) (l:Tx.Bs):Tx.R (List V × Tx.Bs):=if l = [] then .ok ([],[]) else Tx.pseq (Tx.pval rf 4) (l.length + 1) l
theorem wholeRowX {rf:Tx.Bs → Option Nat} (hRf:RfOk rf) {w:World} {P:Nat} {S:ByteArray} {l:Tx.Bs} (h:Prs w P S l) (hl:l = S.data.toList) (hS:S.size ≤ 1099511627776):Calls Tryz.prog 39 #[.pointer (some ⟨P,0,none⟩)] w (PsA w P S (prow rf l) (isRo w)):=by
 obtain ⟨W0,hW0⟩:∃ W0,W0 = w.alloc (.cells #[.slice none 0 0] 44):=⟨_,rfl⟩
 have HB0:Hid (Below w.heap.size w W0):=by rw [hW0];exact (Below.refl _ _).alloc (Nat.le_refl _) _
 have HN0:Hid (W0.heap[w.heap.size]? = some (.cells #[.slice none 0 0] 44 (0,0))):=by rw [hW0];exact blk_new w _
 have HW0:=Lib.hid hW0
 have HV:Hid (Calls Tryz.prog 69 #[.pointer (some ⟨P,0,none⟩),.int .i64 1] W0 (PsA W0 P S (Tx.pseq (Tx.pval rf 4) (l.length + 1) l) (isVs W0))):=valuesX (h.on HB0.out) hS 1 (Tx.pval rf 4) (fun l x r hp => by
  have:=congrArg List.length (Tx.pval_fore (rf_fok hRf) 4 l x r hp).text
  rw [List.length_append] at this
  omega) (fun w' l' h' => valueX hRf 4 1 l' P S w' (by omega) hS h')
 obtain ⟨R,hR⟩:∃ R,R = prow rf l:=⟨_,rfl⟩
 have HR:Hid (R = if l = [] then .ok ([],[]) else Tx.pseq (Tx.pval rf 4) (l.length + 1) l):=hR
 rw [← hR]
 have HPlt:=Lib.hid h.lt
 have hPN:¬ w.heap.size = P:=by have:=h.lt;omega
 have hPN2:¬ P = w.heap.size:=by omega
 have HA0:=Lib.hid (aside_new HB0.out (fun i => i = P))
 have HH:=Lib.hid h
 have c0:w.cell? ⟨P,0,none⟩ = some (.string S):=h.cell 0
 have hPl0:P < w.heap.size:=h.lt
 have e9:S.toList = l:=by rw [hl];exact ByteArray.toList_eq S
 clear h hW0 hR hRf hl
 by_cases q0:l = []
 ·have HRk:Hid (R = .ok ([],[])):=HR.out.trans (if_pos q0)
  have e8:(l == []) = true:=by rw [q0];rfl
  have HP0:Hid (Prs w P S []):=by rw [q0] at HH;exact HH.out
  have HFin:Hid (∀ w5,w5 = w.alloc (.cells #[.slice none 0 0] 44) → w5.heap[w.heap.size]? = some (.cells #[.slice none 0 0] 44 (0,0)) ∧ isRo w [] (.agg #[.slice none 0 0]) w5 ∧ Prs w5 P S [] ∧ Aside (fun i => i = P) w w5):=fun w5 hw5 => by
   have hb:Below w.heap.size w w5:=by rw [hw5];exact (Below.refl _ _).alloc (Nat.le_refl _) _
   exact ⟨by rw [hw5];exact blk_new w _,⟨none,0,rfl,⟨_,_,built_nil w5 w.heap.size⟩,by simp⟩,HP0.out.on hb,aside_new hb _⟩
  clear q0 HR HV HH HP0
  go_enter Tryz.func39,Tryz.ntmps39
  go_wp2
  obtain ⟨f1,f2,f3,f4⟩:=HFin.out _ rfl
  refine bodyPost_ret (v:=.agg #[.slice none 0 0]) (results_cell_row rfl _ _ w.heap.size _ _ _ _ rfl f1 Tryz.underlying44 rfl (by kernel_rfl)) rfl ?_
  rw [HRk.out]
  exact ⟨_,rfl,f2,f3,f4⟩
 have HR2:=Lib.hid (HR.out.trans (if_neg q0))
 have e8:(l == []) = false:=str_ne q0
 obtain ⟨Y,hY⟩:∃ Y,Y = Tx.pseq (Tx.pval rf 4) (l.length + 1) l:=⟨_,rfl⟩
 rw [← hY] at HV HR2
 clear q0 HR HH hY
 go_enter Tryz.func39,Tryz.ntmps39
 go_wp2_with fail
 rw [← HW0.out]
 refine HV.out.mono ?_
 intro e w1 hh
 cases Y with
 | error er =>
  obtain ⟨ek,en⟩:=er
  have HRe:Hid (R = .error (ek,en)):=HR2.out
  obtain ⟨he,ha1⟩:=hh.bad
  subst he
  have HA1:=Lib.hid (HA0.out.trans ha1 (fun _ _ h => h))
  clear hh ha1 HV HR2
  go_wp2
  rw [HRe.out]
  exact ⟨rfl,rfl,HA1.out⟩
 | ok z =>
  obtain ⟨xs,r⟩:=z
  have HRk:Hid (R = .ok (xs,r)):=HR2.out
  obtain ⟨v1,he,hv1,hp1,ha1⟩:=hh.good
  obtain ⟨⟨us,Fs,hbu⟩,hl1⟩:=hv1.open
  obtain ⟨q1,c1,hvq,-⟩:=slice_form hbu.row
  subst hvq
  subst he
  have hN1:w1.heap[w.heap.size]? = some (.cells #[.slice none 0 0] 44 (0,0)):=(ha1.block _ (blk_lt HN0.out) hPN).trans HN0.out
  have z0:w1.cell? ⟨w.heap.size,0,none⟩ = some (.slice none 0 0):=blk_cell hN1 0
  have zf0:=blk_free hN1 0
  have hls:=blk_lt HN0.out
  have HFin:Hid (∀ w5,w5 = w1.setCell ⟨w.heap.size,0,none⟩ (.slice q1 xs.length c1) → w5.heap[w.heap.size]? = some (.cells #[.slice q1 xs.length c1] 44 (0,0)) ∧ isRo w xs (.agg #[.slice q1 xs.length c1]) w5 ∧ Prs w5 P S r ∧ Aside (fun i => i = P) w w5):=fun w5 hw5 => by
   have ha5:Aside (fun i => i = w.heap.size) w1 w5:=by rw [hw5];exact (Aside.refl (fun k => k = w.heap.size) _).setCell (p:=⟨w.heap.size,0,none⟩) (.inl rfl) _
   refine ⟨by rw [hw5,blk_set hN1 0];rfl,⟨q1,c1,rfl,⟨us,Fs,?_⟩,hl1⟩,hp1.aside ha5 (fun k hk => by omega),(HA0.out.trans ha1 (fun _ _ h => h)).trans ha5 (fun i hi he => by omega)⟩
   exact (hbu.aside ha5 (fun g hg he => by have:=(hbu.lt g hg).1;omega) (fun j hj k hk he => by have:=(hbu.range j hj k hk).1;omega)).low (by omega)
  clear hh hv1 hbu hp1 ha1 HV hls hN1 HR2 c0
  go_wp2
  obtain ⟨f1,f2,f3,f4⟩:=HFin.out _ rfl
  refine bodyPost_ret (v:=.agg #[.slice q1 xs.length c1]) (results_cell_row rfl _ _ w.heap.size _ _ _ _ rfl f1 Tryz.underlying44 rfl (by kernel_rfl)) rfl ?_
  rw [HRk.out]
  exact ⟨_,rfl,f2,f3,f4⟩
end Go.Proofs.YtllbniljgcgbeaaGreatDoor

import Derived.Test.YtclhbhhlddbocaaGreatDoorWR12G
import Derived.Test.YtclhbhhlddbocaaGreatDoorA10
set_option maxRecDepth 100000
set_option maxHeartbeats 8000000
namespace Go.Proofs.YtclhbhhlddbocaaGreatDoor
open Go.RowKit
def shX (es:List Ent) (k:Nat) (r:Except Nat (List Ent × Nat)):Except Nat (List Ent × Nat):=match r with
 | .error e => .error e
 | .ok (fs,j) => .ok (es ++ fs,k + j)
theorem shX_nil (r:Except Nat (List Ent × Nat)):shX [] 0 r = r:=by
 cases r with
 | error e => rfl
 | ok x => obtain ⟨ms,j⟩:=x;simp [shX]
theorem rdE_bad {m e:Nat} {l:List UInt8} (es:List Ent) (k:Nat) (h:Fr.nbs [1099511627776,1099511627776,1099511627776] l = .error e):shX es k (Fr.rdE (m + 1) l) = .error e:=by rw [Fr.rdE,h];rfl
theorem rdE_next {m a b c k1:Nat} {l:List UInt8} (es:List Ent) (k:Nat) (h:Fr.nbs [1099511627776,1099511627776,1099511627776] l = .ok ([a,b,c],k1)):shX es k (Fr.rdE (m + 1) l) = shX (es ++ [⟨(a:Nat),(b:Nat),(c:Nat)⟩]) (k + k1) (Fr.rdE m (l.drop k1)):=by
 rw [Fr.rdE,h]
 dsimp only
 cases Fr.rdE m (l.drop k1) with
 | error e => rfl
 | ok x => obtain ⟨ms,j⟩:=x;simp [shX,Nat.add_assoc]
structure EnIn (w2 wr:World) (n0 n1 n2:Nat) (v:Value) (es:List Ent):Prop where
 bX:wr.heap[w2.heap.size]? = some (.cells #[.int .i64 n0,.int .i64 n1,.int .i64 n2,v] 28 (0,0))
 own:EOwn wr (w2.heap.size + 1) v es
 keep:Below w2.heap.size w2 wr
theorem EnIn.size {w2 wr:World} {n0 n1 n2:Nat} {v:Value} {es:List Ent} (h:EnIn w2 wr n0 n1 n2 v es):w2.heap.size < wr.heap.size:=blk_lt h.bX
theorem EnIn.on {w2 wr w':World} {n0 n1 n2:Nat} {v:Value} {es:List Ent} (h:EnIn w2 wr n0 n1 n2 v es) (hb:Below wr.heap.size wr w'):EnIn w2 w' n0 n1 n2 v es :=
 ⟨(hb.block _ h.size).trans h.bX,h.own.on hb,h.keep.trans (hb.mono (Nat.le_of_lt h.size))⟩
theorem EnIn.more {w2 w3 w4:World} {n0 n1 n2 g cap:Nat} {v:Value} {es:List Ent} {x:Ent} {o:Obj} (h:EnIn w2 w3 n0 n1 n2 v es) (hn:EOwn w4 (w2.heap.size + 1) (.slice (some ⟨g,0,none⟩) (es.length + 1) cap) (es ++ [x])) (hg:(w3.alloc o).grownBy w4 v.ownBlock) :
  w4.heap[w2.heap.size]? = some (.cells #[.int .i64 n0,.int .i64 n1,.int .i64 n2,v] 28 (0,0)) ∧ EnIn w2 (w4.setCell ⟨w2.heap.size,3,none⟩ (.slice (some ⟨g,0,none⟩) (es.length + 1) cap)) n0 n1 n2 (.slice (some ⟨g,0,none⟩) (es.length + 1) cap) (es ++ [x]):=by
 have hs:=h.size
 have hs1:(w3.alloc o).heap.size = w3.heap.size + 1:=by simp
 have hgs:=hg.size
 have hlow:∀ k,k ≤ w2.heap.size → w4.heap[k]? = w3.heap[k]?:=fun k hk => by
  rw [hg.block k (by omega) (fun hc => by have:=(h.own.lt k hc.symm).1;omega)]
  exact blk_old _ _ (by omega)
 have hX4:=(hlow _ (Nat.le_refl _)).trans h.bX
 have ha4:Aside (fun i => i = w2.heap.size) w4 (w4.setCell ⟨w2.heap.size,3,none⟩ (.slice (some ⟨g,0,none⟩) (es.length + 1) cap)):=aside_set _ _ _ _
 refine ⟨hX4,?_,?_,?_⟩
 ·exact blk_set hX4 3 (.slice (some ⟨g,0,none⟩) (es.length + 1) cap)
 ·exact hn.aside ha4 (fun k hk he => by have:=(hn.lt k hk).1;omega)
 ·have h34:Below w2.heap.size w3 w4:=by
   refine ⟨?_,?_,?_,by omega,fun k hk => hlow k (by omega)⟩
   ·exact hg.os
   ·exact hg.tape
   ·exact hg.output
  exact (h.keep.trans h34).trans (ha4.below (by omega) (fun k hk => by omega))
theorem free11 {w:World} {g:Nat} {T:TypeId} {c0 c1 c2 c3 c4 c5 c6 c7 c8 c9 c10:Value} (h:w.heap[g]? = some (.cells #[c0,c1,c2,c3,c4,c5,c6,c7,c8,c9,c10] T (0,0))):(w.cell? ⟨g,0,none⟩ = some c0 ∧ w.frozen? ⟨g,0,none⟩ = false) ∧ (w.cell? ⟨g,1,none⟩ = some c1 ∧ w.frozen? ⟨g,1,none⟩ = false) ∧ (w.cell? ⟨g,2,none⟩ = some c2 ∧ w.frozen? ⟨g,2,none⟩ = false) ∧ (w.cell? ⟨g,3,none⟩ = some c3 ∧ w.frozen? ⟨g,3,none⟩ = false) ∧ (w.cell? ⟨g,4,none⟩ = some c4 ∧ w.frozen? ⟨g,4,none⟩ = false) ∧ (w.cell? ⟨g,5,none⟩ = some c5 ∧ w.frozen? ⟨g,5,none⟩ = false) ∧ (w.cell? ⟨g,6,none⟩ = some c6 ∧ w.frozen? ⟨g,6,none⟩ = false) ∧ (w.cell? ⟨g,7,none⟩ = some c7 ∧ w.frozen? ⟨g,7,none⟩ = false) ∧ (w.cell? ⟨g,8,none⟩ = some c8 ∧ w.frozen? ⟨g,8,none⟩ = false) ∧ (w.cell? ⟨g,9,none⟩ = some c9 ∧ w.frozen? ⟨g,9,none⟩ = false) ∧ (w.cell? ⟨g,10,none⟩ = some c10 ∧ w.frozen? ⟨g,10,none⟩ = false) :=
 ⟨⟨blk_cell h 0,blk_free h 0⟩,⟨blk_cell h 1,blk_free h 1⟩,⟨blk_cell h 2,blk_free h 2⟩,⟨blk_cell h 3,blk_free h 3⟩,⟨blk_cell h 4,blk_free h 4⟩,⟨blk_cell h 5,blk_free h 5⟩,⟨blk_cell h 6,blk_free h 6⟩,⟨blk_cell h 7,blk_free h 7⟩,⟨blk_cell h 8,blk_free h 8⟩,⟨blk_cell h 9,blk_free h 9⟩,⟨blk_cell h 10,blk_free h 10⟩⟩
theorem ints_at4 {w:World} {H:Nat} (hH:w.heap.size = H) {l:List Int} {C:Array Value} (h:C = (l.map fun n => Value.int .i64 n).toArray):Ints (w.alloc (.cells C 2)) H l:=by
 subst hH
 exact ints_new w l h
theorem nb_err {lim:Nat} {l:List UInt8} {e:Nat} (h:Fr.nb lim l = .error e):e = 5:=by
 unfold Fr.nb at h
 split at h
 ·injection h with h;omega
 ·split at h
  ·cases h
  ·injection h with h;omega
theorem nbs_err:∀ (ls:List Nat) {l:List UInt8} {e:Nat},Fr.nbs ls l = .error e → e = 5
 | [],l,e,h => by rw [Fr.nbs] at h;cases h
 | a :: ls,l,e,h => by
  rw [Fr.nbs] at h
  split at h
  ·next e' he => injection h with h;rw [← h];exact nb_err he
  ·split at h
   ·next e' he => injection h with h;rw [← h];exact nbs_err ls he
   ·cases h
theorem refEntries (p:Option Addr) (c:Nat) (l:List UInt8) (hl:l.length ≤ 2200) (h1:1 ≤ l.length) (w:World) (h:At w p l) :
    Calls Tryz.prog 117 #[.slice p l.length c] w (DecF w (Fr.rdI (l.drop 1))):=by
  obtain ⟨w0,hw0⟩:∃ w0,w0 = w.alloc (.cells #[.int .i64 0,.int .i64 0,.slice none 0 0,.int .i64 0,.int .i64 0,.int .i64 0,.slice none 0 0,.int .i64 0,.int .i64 0,.int .i64 0,.slice none 0 0] 30):=⟨_,rfl⟩
  have hz0:w0.heap.size = w.heap.size + 1:=by rw [hw0];simp
  have HB0:Hid (Below w.heap.size w w0):=by rw [hw0];exact (Below.refl _ _).alloc (Nat.le_refl _) _
  have hK0:w0.heap[w.heap.size]? = some (.cells #[.int .i64 0,.int .i64 0,.slice none 0 0,.int .i64 0,.int .i64 0,.int .i64 0,.slice none 0 0,.int .i64 0,.int .i64 0,.int .i64 0,.slice none 0 0] 30 (0,0)):=by rw [hw0];exact blk_new w _
  obtain ⟨w1,hw1⟩:∃ w1,w1 = w0.alloc (.cells #[.int .i64 1099511627776,.int .i64 1099511627776,.int .i64 1099511627776,.int .i64 65] 2):=⟨_,rfl⟩
  have HB01:Hid (Below w0.heap.size w0 w1):=by rw [hw1];exact (Below.refl _ _).alloc (Nat.le_refl _) _
  have HB1:Hid (Below w.heap.size w w1):=HB0.out.trans (HB01.out.mono HB0.out.size)
  have hz1:w1.heap.size = w.heap.size + 2:=by rw [hw1];simp [hz0]
  have HI:Hid (Ints w1 (w.heap.size + 1) (toI [1099511627776,1099511627776,1099511627776,65])):=by rw [hw1];exact ints_at4 hz0 rfl
  have HK1:=Lib.hid ((HB01.out.block _ (by omega)).trans hK0)
  have HW1:Hid ((w.alloc (.cells #[.int .i64 0,.int .i64 0,.slice none 0 0,.int .i64 0,.int .i64 0,.int .i64 0,.slice none 0 0,.int .i64 0,.int .i64 0,.int .i64 0,.slice none 0 0] 30)).alloc (.cells #[.int .i64 1099511627776,.int .i64 1099511627776,.int .i64 1099511627776,.int .i64 65] 2) = w1):=by rw [hw1,hw0];exact rfl
  have HA:=Lib.hid h
  have HSm:=Lib.hid (refSome p c l (by omega) 1 (w.heap.size + 1) h1 [1099511627776,1099511627776,1099511627776,65] (by simp) (by simp) w1 (HA.out.on HB1.out) HI.out)
  obtain ⟨R,hR⟩:∃ R,R = Fr.rdI (l.drop 1):=⟨_,rfl⟩
  rw [← hR]
  have HR:=Lib.hid hR
  clear hw0 hw1 hK0 HI h hR
  go_enter Tryz.func117,Tryz.ntmps117
  go_wp2_with fail
  rw [HW1.out]
  refine HSm.out.mono ?_
  rintro e w2 (⟨er,hns,rfl,hb2⟩ | ⟨ns,k,q,cap,hns,rfl,ho2,hb2⟩)
  · have HR2:Hid (R = .error 5):=by
      show _ = _
      rw [HR.out,Fr.rdI,hns,← nbs_err _ hns]
    have HB2:=Lib.hid (HB1.out.trans (hb2.mono HB1.out.size))
    have hK2:=(hb2.block _ (by omega)).trans HK1.out
    obtain ⟨⟨x0,t0⟩,⟨x1,t1⟩,⟨x2,t2⟩,⟨x3,t3⟩,⟨x4,t4⟩,⟨x5,t5⟩,⟨x6,t6⟩,⟨x7,t7⟩,⟨x8,t8⟩,⟨x9,t9⟩,⟨x10,t10⟩⟩:=free11 hK2
    have HK2:=Lib.hid hK2
    have hz2:=HB2.out.size
    clear hb2 HSm HR hns hK2
    go_wp2
    refine bodyPost_ret (results_row2 rfl _ _ w.heap.size _ _ _ _ rfl (set11_block HK2.out _ _ _ _ _ _ _ _ _ _ _) Tryz.underlying30 rfl (by kernel_rfl)) rfl ?_
    rw [HR2.out]
    exact ⟨rfl,HB2.out.trans ((set11_aside w2 w.heap.size _ _ _ _ _ _ _ _ _ _ _).below hz2 (fun k hk => by omega))⟩
  · have hn4:=Fr.nbs_ok _ _ _ _ hns
    have hl4:ns.length = 4:=hn4.1
    match ns,hl4 with
    | [n0,n1,n2,n3],_ =>
    have h65:n3 < 65:=hn4.2.1 3 (by simp) (by simp)
    have hkl:1 + k ≤ l.length:=by
      obtain ⟨-,-,r,e1,e2⟩:=hn4
      have:=congrArg List.length e1
      rw [List.length_append,List.length_drop,← e2] at this
      omega
    have HB2:=Lib.hid (HB1.out.trans (hb2.mono HB1.out.size))
    have HK2:=Lib.hid ((hb2.block _ (by omega)).trans HK1.out)
    obtain ⟨q',c',hq,-,hor⟩:=ho2.ints
    rcases hor with hnil | ⟨g,hg,hBg,hI2⟩
    · simp [toI] at hnil
    injection hq with hq1 hq2 hq3
    subst hq1
    subst hg
    have i0:w2.cell? ⟨g,0,none⟩ = some (.int .i64 (n0:Nat)):=hI2.2 0 (by simp [toI])
    have i1:w2.cell? ⟨g,1,none⟩ = some (.int .i64 (n1:Nat)):=hI2.2 1 (by simp [toI])
    have i2:w2.cell? ⟨g,2,none⟩ = some (.int .i64 (n2:Nat)):=hI2.2 2 (by simp [toI])
    have i3:w2.cell? ⟨g,3,none⟩ = some (.int .i64 (n3:Nat)):=hI2.2 3 (by simp [toI])
    have HI2:=Lib.hid hI2
    have hz2:=HB2.out.size
    clear hb2 HSm ho2 hI2 hn4 hl4 hq3
    go_wp2_with fail
    go_region_held3 (fun w' => w'.cell? ⟨g,0,none⟩ = some (.int .i64 (n0:Nat)) ∧ w'.cell? ⟨g,1,none⟩ = some (.int .i64 (n1:Nat)) ∧ w'.cell? ⟨g,2,none⟩ = some (.int .i64 (n2:Nat))) (go_keep) (fail)
    have HR2:Hid (R = match Fr.rdE n3 ((l.drop 1).drop k) with | .error e => .error e | .ok (es,j) => if k + j = (l.drop 1).length then .ok { Fr0 with kind:=3,index:=⟨(n0:Nat),(n1:Nat),(n2:Nat),es⟩ } else .error 5):=by
      show _ = _
      rw [HR.out,Fr.rdI,hns]
      rfl
    obtain ⟨W3,hW3⟩:∃ W3,W3 = (w2.alloc (.cells #[.int .i64 (n0:Nat),.int .i64 (n1:Nat),.int .i64 (n2:Nat),.slice none 0 0] 28)).drew:=⟨_,rfl⟩
    have HE0:Hid (EnIn w2 W3 n0 n1 n2 (.slice none 0 0) []):=by
      rw [hW3]
      exact ⟨by rw [heap_drew12];exact blk_new w2 _,eown_nil _ _,((Below.refl _ _).alloc (Nat.le_refl _) _).drew⟩
    have HW3:Hid ((w2.alloc (.cells #[.int .i64 (n0:Nat),.int .i64 (n1:Nat),.int .i64 (n2:Nat),.slice none 0 0] 28)).drew = W3):=by rw [hW3];exact rfl
    rw [HW3.out]
    have hgX:g < w2.heap.size:=HI2.out.1
    have HI3:=Lib.hid i3
    clear hW3 HW3 i0 i1 i2 i3 HR hns
    go_wp2_with fail
    go_loopw [5,8] (fun v5 v8 wr => ∃ (es:List Ent) (J m:Nat) (q:Option Addr) (d:Nat),es.length ≤ n3 ∧ v8 = .int .i64 (es.length:Int) ∧ v5 = .int .i64 ((m:Nat):Int) ∧ m ≤ l.length ∧ Hid (m = 1 + k + J ∧ Fr.rdE n3 ((l.drop 1).drop k) = shX es J (Fr.rdE (n3 - es.length) (l.drop m)) ∧ EnIn w2 wr n0 n1 n2 (.slice q es.length d) es)) (fun _ v8 _ => n3 - (intOf v8).toNat)
    case atStart => exact ⟨[],0,1 + k,none,0,by simp,rfl,by simp,hkl,by omega,by rw [shX_nil,List.drop_drop];rfl,HE0.out⟩
    case round =>
      obtain ⟨es,J,m,q,d,hes,rfl,rfl,hml,HK⟩:=hrel
      have HIn:=Lib.hid HK.out.2.2
      have j3:wr.cell? ⟨g,3,none⟩ = some (.int .i64 (n3:Nat)):=(HIn.out.keep.cell (p:=⟨g,3,none⟩) hgX).trans HI3.out
      have hszr:=HIn.out.size
      have HBr:=Lib.hid (HB2.out.trans (HIn.out.keep.mono hz2))
      have HRd:=Lib.hid HK.out.2.1
      have HMJ:=Lib.hid HK.out.1
      clear HK
      by_cases hlt:es.length < n3
      · have hlt':(es.length:Int) < (n3:Int):=by omega
        have HB1a:Hid (Below wr.heap.size wr (wr.alloc (.cells #[.int .i64 1099511627776,.int .i64 1099511627776,.int .i64 1099511627776] 2))):=(Below.refl _ _).alloc (Nat.le_refl _) _
        have HSm:=Lib.hid (refSome p c l (by omega) m wr.heap.size hml [1099511627776,1099511627776,1099511627776] (by simp) (by simp) _ (HA.out.on (HBr.out.trans (HB1a.out.mono HBr.out.size))) (ints_at4 (w:=wr) rfl (l:=toI [1099511627776,1099511627776,1099511627776]) rfl))
        have HRn:Hid (n3 - es.length = (n3 - (es.length + 1)) + 1):=by show _ = _;omega
        go_wp2_with fail
        refine HSm.out.mono ?_
        rintro e w5 (⟨er,hns,rfl,hb5⟩ | ⟨ns,k1,q5,cap5,hns,rfl,ho5,hb5⟩)
        · have HR3:Hid (R = .error 5):=by
            show _ = _
            rw [HR2.out,HRd.out,HRn.out,rdE_bad es J hns,← nbs_err _ hns]
          have HB5:=Lib.hid (HBr.out.trans ((HB1a.out.trans (hb5.mono HB1a.out.size)).mono HBr.out.size))
          have hb25:Below w2.heap.size w2 w5:=HIn.out.keep.trans ((HB1a.out.trans (hb5.mono HB1a.out.size)).mono (Nat.le_of_lt hszr))
          have hK5:=(hb25.block _ (by omega)).trans HK2.out
          obtain ⟨⟨x0,t0⟩,⟨x1,t1⟩,⟨x2,t2⟩,⟨x3,t3⟩,⟨x4,t4⟩,⟨x5,t5⟩,⟨x6,t6⟩,⟨x7,t7⟩,⟨x8,t8⟩,⟨x9,t9⟩,⟨x10,t10⟩⟩:=free11 hK5
          have HK5:=Lib.hid hK5
          have hz5:=HB5.out.size
          clear hb5 HSm hns hK5 hb25
          go_wp2
          refine bodyPost_ret (results_row2 rfl _ _ w.heap.size _ _ _ _ rfl (set11_block HK5.out _ _ _ _ _ _ _ _ _ _ _) Tryz.underlying30 rfl (by kernel_rfl)) rfl ?_
          rw [HR3.out]
          exact ⟨rfl,HB5.out.trans ((set11_aside w5 w.heap.size _ _ _ _ _ _ _ _ _ _ _).below hz5 (fun k hk => by omega))⟩
        · have hn3:=Fr.nbs_ok _ _ _ _ hns
          have hl3:ns.length = 3:=hn3.1
          match ns,hl3 with
          | [ea,eb,eC],_ =>
          have hk1l:m + k1 ≤ l.length:=by
            obtain ⟨-,-,r,e1,e2⟩:=hn3
            have:=congrArg List.length e1
            rw [List.length_append,List.length_drop,← e2] at this
            omega
          have hbr5:Below wr.heap.size wr w5:=HB1a.out.trans (hb5.mono HB1a.out.size)
          obtain ⟨q',c',hq,-,hor⟩:=ho5.ints
          rcases hor with hnil | ⟨g5,hg5,-,hI5⟩
          · simp [toI] at hnil
          injection hq with hq1 hq2 hq3
          subst hq1
          subst hg5
          have z0:w5.cell? ⟨g5,0,none⟩ = some (.int .i64 (ea:Nat)):=hI5.2 0 (by simp [toI])
          have z1:w5.cell? ⟨g5,1,none⟩ = some (.int .i64 (eb:Nat)):=hI5.2 1 (by simp [toI])
          have z2:w5.cell? ⟨g5,2,none⟩ = some (.int .i64 (eC:Nat)):=hI5.2 2 (by simp [toI])
          have HI5:=Lib.hid (HIn.out.on hbr5)
          have t3:w5.cell? ⟨w2.heap.size,3,none⟩ = some (.slice q es.length d):=blk_cell HI5.out.bX 3
          have t4:∀ o,(w5.alloc o).cell? ⟨w2.heap.size,3,none⟩ = some (.slice q es.length d):=fun o => cell_on ((Below.refl _ _).alloc (Nat.le_refl _) o) t3
          have hs5:=HI5.out.size
          have HNx:Hid (Fr.rdE n3 ((l.drop 1).drop k) = shX (es ++ [⟨(ea:Nat),(eb:Nat),(eC:Nat)⟩]) (J + k1) (Fr.rdE (n3 - (es.length + 1)) (l.drop (m + k1)))):=by
            show _ = _
            rw [HRd.out,HRn.out,rdE_next es J hns,List.drop_drop]
          clear hb5 HSm ho5 hI5 hn3 hl3 hq3 hns hbr5 HIn j3 HB1a HRn HRd
          go_wp2_with fail
          go_region_law (first
            | (refine step_moreE (B:=w2.heap.size + 1) (es:=es) (v:=.slice q es.length d) (by first | exact HI5.out.own.on ((Below.refl _ _).alloc (Nat.le_refl _) _).drew | exact HI5.out.own.on ((Below.refl _ _).alloc (Nat.le_refl _) _)) ⟨(ea:Nat),(eb:Nat),(eC:Nat)⟩ (ad:=w5.heap.size) (by exact blk_new w5 _) (by omega) (by show _ ≤ (w5.alloc _).heap.size;simp;omega) (H:=w5.heap.size + 1) (by show (w5.alloc _).heap.size = _;simp) (.tmp 51) (.tmp 62) (by rfl) (by rfl) (by rfl) (by rfl) ?_
               intro g4 cap4 w6 hn4 hg4 _
               have hg6:(w5.alloc (.cells #[.int .i64 (ea:Nat),.int .i64 (eb:Nat),.int .i64 (eC:Nat)] 102)).grownBy w6 (Value.slice q es.length d).ownBlock:=⟨hg4.os,hg4.tape,hg4.output,hg4.size,hg4.block⟩
               have hm4:=HI5.out.more hn4 hg6
               have s3:w6.cell? ⟨w2.heap.size,3,none⟩ = some (.slice q es.length d):=blk_cell hm4.1 3
               have sf3:=blk_free hm4.1 3
               have HM4:=Lib.hid hm4.2
               clear hm4 hn4 hg4 hg6)
            | fail)
          all_goals
            go_wp2
            go_roundw
            case rel =>
              refine ⟨es ++ [⟨(ea:Nat),(eb:Nat),(eC:Nat)⟩],J + k1,m + k1,some ⟨g4,0,none⟩,cap4,by simp;omega,by rw [List.length_append,List.length_singleton];go_num,by first | rfl | simp,hk1l,by have:=HMJ.out;omega,?_,?_⟩
              · rw [HNx.out,List.length_append,List.length_singleton]
              · have:=HM4.out
                simpa using this
            case measure => simp [intOf];omega
      · have hee:es.length = n3:=by omega
        have HR3:Hid (R = if m = l.length then .ok { Fr0 with kind:=3,index:=⟨(n0:Nat),(n1:Nat),(n2:Nat),es⟩ } else .error 5):=by
          show _ = _
          rw [HR2.out,HRd.out,hee,Nat.sub_self,Fr.rdE]
          simp only [shX,List.append_nil,Nat.add_zero,List.length_drop]
          have:=HMJ.out
          by_cases hm2:m = l.length
          · rw [if_pos (by omega),if_pos hm2]
          · rw [if_neg (by omega),if_neg hm2]
        have hK5:=(HIn.out.keep.block _ (by omega)).trans HK2.out
        obtain ⟨⟨x0,t0⟩,⟨x1,t1⟩,⟨x2,t2⟩,⟨x3,t3⟩,⟨x4,t4⟩,⟨x5,t5⟩,⟨x6,t6⟩,⟨x7,t7⟩,⟨x8,t8⟩,⟨x9,t9⟩,⟨x10,t10⟩⟩:=free11 hK5
        have u0:=blk_cell HIn.out.bX 0
        have u1:=blk_cell HIn.out.bX 1
        have u2:=blk_cell HIn.out.bX 2
        have u3:=blk_cell HIn.out.bX 3
        simp only [List.getElem?_toArray,List.getElem?_cons_zero,List.getElem?_cons_succ] at u0 u1 u2 u3
        have HK5:=Lib.hid hK5
        have hz5:=HBr.out.size
        have hlt':¬ (es.length:Int) < (n3:Int):=by omega
        have HEE:=Lib.hid hee
        clear hK5 hlt hee HRd
        by_cases hm2:m = l.length
        · have HR4:Hid (R = .ok { Fr0 with kind:=3,index:=⟨(n0:Nat),(n1:Nat),(n2:Nat),es⟩ }):=HR3.out.trans (if_pos hm2)
          have gm:((m:Int) != (l.length:Int)) = false:=bne_f (by omega)
          clear hm2 HR3
          go_wp2
          refine bodyPost_ret (results_row2 rfl _ _ w.heap.size _ _ _ _ rfl (set11_block HK5.out _ _ _ _ _ _ _ _ _ _ _) Tryz.underlying30 rfl (by kernel_rfl)) rfl ?_
          rw [HR4.out]
          have hA:=set11_aside wr w.heap.size (.int .i64 3) (.int .i64 0) (.slice none 0 0) (.int .i64 0) (.int .i64 0) (.int .i64 0) (.slice none 0 0) (.int .i64 (n0:Nat)) (.int .i64 (n1:Nat)) (.int .i64 (n2:Nat)) (.slice q es.length d)
          refine ⟨_,rfl,⟨none,0,none,0,q,d,rfl,sown_nil _ _,has_nil _ _,by simp [Fr0],?_,?_⟩,HBr.out.trans (hA.below hz5 (fun k hk => by omega))⟩
          · exact (HIn.out.own.aside hA (fun k hk he => by have:=(HIn.out.own.lt k hk).1;omega)).low (by omega)
          · show es.length ≤ 64
            rw [HEE.out];omega
        · have HR4:Hid (R = .error 5):=HR3.out.trans (if_neg hm2)
          have gm:((m:Int) != (l.length:Int)) = true:=bne_t (by omega)
          clear hm2 HR3
          go_wp2
          refine bodyPost_ret (results_row2 rfl _ _ w.heap.size _ _ _ _ rfl (set11_block HK5.out _ _ _ _ _ _ _ _ _ _ _) Tryz.underlying30 rfl (by kernel_rfl)) rfl ?_
          rw [HR4.out]
          exact ⟨rfl,HBr.out.trans ((set11_aside wr w.heap.size _ _ _ _ _ _ _ _ _ _ _).below hz5 (fun k hk => by omega))⟩
end Go.Proofs.YtclhbhhlddbocaaGreatDoor

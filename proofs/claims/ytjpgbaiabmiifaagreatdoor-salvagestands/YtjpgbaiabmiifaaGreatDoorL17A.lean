import Derived.Test.YtjpgbaiabmiifaaGreatDoorA1
import Derived.Test.YtjpgbaiabmiifaaGreatDoorB36
set_option maxRecDepth 100000
set_option maxHeartbeats 4000000
namespace Go.Proofs.YtjpgbaiabmiifaaGreatDoor
open Go.RowKit
def fC (rs:List Run):Int:=match rs.getLast? with | none => -1 | some r => (r.1:Int)
theorem rU {l:List Run} (h:l.Pairwise (fun a b => a.1 < b.1)) {t:Nat} (ht:t < l.length):fC (l.take t) < (l[t].1:Int):=by
 unfold fC
 cases t with
 | zero => simp;omega
 | succ t =>
  have e:(l.take (t + 1)).getLast? = some l[t]:=by
   rw [List.take_succ_eq_append_getElem (by omega),List.getLast?_append]
   simp
  rw [e]
  have:=List.pairwise_iff_getElem.1 h t (t + 1) (by omega) ht (by omega)
  simp only
  omega
theorem nC (l:List Run) (r:Run):fC (l ++ [r]) = (r.1:Int):=by
 unfold fC
 rw [List.getLast?_append]
 simp
theorem rV (l:List Run):-1 ≤ fC l:=by
 unfold fC
 cases l.getLast? with
 | none => simp
 | some r => simp only;omega
def kq (w:World) (q:Option Addr) (xs:List Bat):Prop:=∀ j (h:j < xs.length),∃ b o rp rc,q = some ⟨b,o,none⟩ ∧ b < w.heap.size ∧ w.cell? ⟨b,o + j * 5,none⟩ = some (.int .i64 (xs[j].at_:Nat)) ∧ w.cell? ⟨b,o + j * 5 + 1,none⟩ = some (.int .i64 xs[j].number) ∧ w.cell? ⟨b,o + j * 5 + 2,none⟩ = some (.int .i64 xs[j].seq) ∧ w.cell? ⟨b,o + j * 5 + 3,none⟩ = some (.int .i64 xs[j].first) ∧ w.cell? ⟨b,o + j * 5 + 4,none⟩ = some (.slice rp xs[j].rows.length rc) ∧ eF w rp rc xs[j].rows
theorem kq.on {w w':World} {q:Option Addr} {xs:List Bat} (h:kq w q xs) (hb:Below w.heap.size w w'):kq w' q xs:=fun j hj => by
 obtain ⟨b,o,rp,rc,h1,h2,h3,h4,h5,h6,h7,h8⟩:=h j hj
 exact ⟨b,o,rp,rc,h1,Nat.lt_of_lt_of_le h2 hb.size,ae hb h3,ae hb h4,ae hb h5,ae hb h6,ae hb h7,h8.on hb⟩
structure oV (I:World → Prop):Prop where
 on:∀ {w w':World},I w → Below w.heap.size w w' → I w'
 all:∀ (b:List UInt8) (p:Option Addr) (c:Nat) (w:World),b.length ≤ 100000 → b.length ≤ c → At w p b → I w → Calls Tryz.prog 5 #[.slice p b.length c] w fun e w' => ∃ q d,e = .returned (.slice q (Sv.all b).length d) ∧ kq w' q (Sv.all b) ∧ Below w.heap.size w w'
def jt (w:World) (q:Option Addr) (l:List (Int × List Col)):Prop:=∀ j (h:j < l.length),∃ b o p c,q = some ⟨b,o,none⟩ ∧ b < w.heap.size ∧ w.cell? ⟨b,o + j * 2,none⟩ = some (.int .i64 l[j].1) ∧ w.cell? ⟨b,o + j * 2 + 1,none⟩ = some (.slice p l[j].2.length c) ∧ bF w p c l[j].2
theorem jt.on {w w':World} {q:Option Addr} {l:List (Int × List Col)} (h:jt w q l) (hb:Below w.heap.size w w'):jt w' q l:=fun j hj => by
 obtain ⟨b,o,p,c,h1,h2,h3,h4,h5⟩:=h j hj
 exact ⟨b,o,p,c,h1,Nat.lt_of_lt_of_le h2 hb.size,ae hb h3,ae hb h4,h5.on hb⟩
def sU (w:World) (s:Int → Option (List Col)) (e:Ending) (w':World):Prop:=∃ (l:List (Int × List Col)) (q:Option Addr) (d:Nat),e = .returned (.slice q l.length d) ∧ jt w' q l ∧ l.Pairwise (fun a b => a.1 < b.1) ∧ (∀ n c,(n,c) ∈ l ↔ s n = some c) ∧ l.length ≤ 1000000 ∧ Below w.heap.size w w'
def nZ (I:World → Prop):Prop:=∀ (b:List UInt8) (p:Option Addr) (c:Nat) (w:World),b.length ≤ 100000 → b.length ≤ c → At w p b → I w → Calls Tryz.prog 10 #[.slice p b.length c] w (sU w (Sv.sure (Sv.said (Sp.of b).out)))
theorem tV (b:List UInt8):(Sv.all b).length ≤ b.length:=by
 obtain ⟨ks,h1,h2,-⟩:=Sv.bats_of (Sv.sure (Sv.said (Sp.of b).out)) (Sp.of b).out
 have h3:=h1.length_le
 have h4:=Sp.out_len b
 show (Sv.bats _ _).length ≤ _
 omega
theorem ik {I:World → Prop} (HK:oV I) (HLv:∀ w,I w → Calls Tryz.prog 4 #[] w fun e w' => e = .returned (.bool true) ∧ Below w.heap.size w w') (HDc:∀ (p:Option Addr) (c:Nat) (l:List UInt8) (f:Fr) (w:World),Fr.dec l = .ok f → l.length ≤ 140737488351232 → l.length ≤ c → I w → At w p l → Calls Tryz.prog 6 #[.slice p l.length c] w fun e w' => ∃ u,e = .returned (.tuple #[.agg u,.int .i64 0]) ∧ eZ w' u f ∧ Below w.heap.size w w')
  (b:List UInt8) (p:Option Addr) (c:Nat) (w:World) (hl:b.length ≤ 140737488351232) (hbc:b.length ≤ c) (hA:At w p b) (hI:I w) :
  Calls Tryz.prog 3 #[.slice p b.length c] w fun e w' => e = .returned (.bool true) ∧ Below w.heap.size w w':=by
 have HA:=Lib.hid hA
 have HI:=Lib.hid hI
 have HL:=Lib.hid (HLv w hI)
 have HHK:=Lib.hid HK
 have HHD:=Lib.hid HDc
 have HSt:=Lib.hid (Sv.all_stands b)
 have HFw:=Lib.hid (tV b)
 clear hA hI HLv HK HDc
 go_enter Tryz.func3,Tryz.ntmps3
 go_wp2_with fail
 refine HL.out.mono ?_
 rintro e w1 ⟨rfl,hb1⟩
 have HB1:=Lib.hid hb1
 clear HL
 by_cases hlen:¬ b.length ≤ 30000
 ·have g0:(30000:Int) < (b.length:Int):=by omega
  clear hb1
  go_wp2
  go_ret
  exact ⟨rfl,HB1.out⟩
 replace hlen:b.length ≤ 30000:=Classical.not_not.1 hlen
 have g0:¬ (30000:Int) < (b.length:Int):=by omega
 have HAll:=Lib.hid (HHK.out.all b p c w1 (by omega) hbc (HA.out.on hb1) (HHK.out.on HI.out hb1))
 have HA1:=Lib.hid (HA.out.on hb1)
 have HI1:=Lib.hid (HHK.out.on HI.out hb1)
 clear hb1
 obtain ⟨xs,hxs⟩:∃ xs,xs = Sv.all b:=⟨_,rfl⟩
 rw [← hxs] at HAll HSt HFw
 obtain ⟨ks,hk1,hk2,hk3⟩:=HSt.out
 have hfw:=HFw.out
 have HKL:=Lib.hid hk1
 have HK2:=Lib.hid hk2
 have HK3:=Lib.hid hk3
 clear hxs HSt HFw hk1 hk2 hk3
 go_wp2_with fail
 refine HAll.out.mono ?_
 rintro e w2 ⟨q,d,rfl,hbl,hb2⟩
 have HB2:=Lib.hid hb2
 have HBL:=Lib.hid hbl
 clear HAll hbl hb2
 go_wp2_with fail
 go_loopw [4,18] (fun v4 v18 wr => ∃ t:Nat,t ≤ xs.length ∧ v18 = .int .i64 t ∧ v4 = .int .i64 (fC (ks.take t)) ∧ Hid (Below w2.heap.size w2 wr)) (fun _ v18 _ => xs.length - (intOf v18).toNat)
 case atStart => exact ⟨0,by omega,rfl,by simp [fC],Below.refl _ _⟩
 case round =>
  obtain ⟨t,ht,rfl,rfl,HW⟩:=hrel
  by_cases htl:t < xs.length
  ·have htl':(t:Int) < (xs.length:Int):=by omega
   have htk:t < ks.length:=by have:=HKL.out;omega
   obtain ⟨⟨hat,f,hd,hf1,hf2,hf3,hf4,hf5⟩,hst⟩:=HK2.out t htk htl
   have hlast:=rU HK3.out htk
   have hge:=rV (ks.take t)
   have HNx:Hid (fC (ks.take (t + 1)) = (ks[t].1:Int)):=by
    show _ = _
    rw [List.take_succ_eq_append_getElem htk,nC]
   obtain ⟨bq,oq,rp,rc,hqe,hbq,x0,x1,x2,x3,x4,-⟩:=(HBL.out.on HW.out) t htl
   subst hqe
   rw [hat] at x0
   obtain ⟨L0,hL0⟩:∃ L0,L0 = fC (ks.take t):=⟨_,rfl⟩
   rw [← hL0] at hlast hge ⊢
   obtain ⟨⟨k,ls⟩,hr⟩:∃ r,r = ks[t]:=⟨_,rfl⟩
   rw [← hr] at hd hst hlast HNx x0
   have hfit:=hst.fit
   have hpos:=hst.pos
   simp only at hfit hpos hlast x0 HNx hd
   have HStd:=Lib.hid hst
   have HDk:=Lib.hid hd
   have HBw1:Hid (Below w1.heap.size w1 wr):=HB2.out.trans (HW.out.mono HB2.out.size)
   obtain ⟨bp,op,hpe,hbp,hca⟩:=aJ (HA1.out.on HBw1.out) (by omega)
   subst hpe
   obtain ⟨wa,hwa⟩:∃ W,W = wr.alloc (.cells #[.int .i64 (k:Int),.int .i64 xs[t].number,.int .i64 xs[t].seq,.int .i64 xs[t].first,.slice rp xs[t].rows.length rc] 28):=⟨_,rfl⟩
   have hba:Below wr.heap.size wr wa:=by rw [hwa];exact (Below.refl _ _).alloc (Nat.le_refl _) _
   have hka:wa.heap[wr.heap.size]? = some (.cells #[.int .i64 (k:Int),.int .i64 xs[t].number,.int .i64 xs[t].seq,.int .i64 xs[t].first,.slice rp xs[t].rows.length rc] 28 (0,0)):=by rw [hwa];exact ap wr _
   have hcell:∀ j (hj:j < b.length),wa.cell? ⟨bp,op + j,none⟩ = some (.int .u8 (b[j].toNat:Int)):=fun j hj => (hba.cell (p:=⟨bp,op + j,none⟩) hbp).trans (hca j hj)
   have a0:=hcell k (by omega)
   rw [show b[k] = 0 from by have:=hst.ahead;rw [List.getElem?_eq_getElem (by omega)] at this;injection this] at a0
   have HCe:=Lib.hid hcell
   have HKa:=Lib.hid hka
   have HBa:=Lib.hid hba
   have HWa:=Lib.hid hwa
   obtain ⟨xt,hxt⟩:∃ xt,xt = xs[t]:=⟨_,rfl⟩
   rw [← hxt] at x1 x2 x3 x4 hf2 hf3 hf4 hf5 HKa HWa
   have d1:decide ((k:Int) ≤ L0) = false:=decide_eq_false (by omega)
   have i0:¬ (k:Int) ≤ L0:=by omega
   have i1:¬ (k:Int) < 0:=by omega
   have i2:(k:Int) < (b.length:Int):=by omega
   have HF:=Lib.hid (And.intro hf1 (And.intro hf2 (And.intro hf3 (And.intro hf4 hf5))))
   rw [HWa.out] at a0
   clear hL0 hr hcell hka hba hwa hca hst hd hat hxt hf1 hf2 hf3 hf4 hf5
   go_wp2_with fail
   rw [← HWa.out]
   rw [← HWa.out] at a0
   clear HWa x0 x1 x2 x3 x4 a0
   have HIa:Hid (I wa):=HHK.out.on HI1.out (HBw1.out.trans (HBa.out.mono HBw1.out.size))
   go_loop [7] (fun v7 => ∃ e:Nat,k + 1 ≤ e ∧ e ≤ k + 1 + ls.length ∧ v7 = .int .i64 e) (fun v7 => b.length - (intOf v7).toNat)
   case atStart => exact ⟨k + 1,by omega,by omega,by go_num⟩
   case round =>
    obtain ⟨e,he1,he2,rfl⟩:=hrel
    have heb:e < b.length:=by omega
    have heb':(e:Int) < (b.length:Int):=by omega
    have ce:=HCe.out e heb
    by_cases hlt:e < k + 1 + ls.length
    ·have hne:b[e] ≠ 0:=by
      have hby:=HStd.out.bytes
      simp only at hby
      have h1:ls[e - (k + 1)]? = some b[e]:=by
       rw [← hby,List.getElem?_take_of_lt (by omega),List.getElem?_drop,show k + 1 + (e - (k + 1)) = e by omega,List.getElem?_eq_getElem heb]
      exact HStd.out.clean _ (List.mem_of_getElem? h1)
     have hnz:¬ b[e].toNat = 0:=fun h0 => hne (UInt8.toNat_inj.1 (by rw [h0];rfl))
     have gne:((b[e].toNat:Int) != 0) = true:=aS (by omega)
     generalize b[e] = be at *
     clear hne
     go_wp2
     go_round
     case rel => exact ⟨e + 1,by omega,by omega,by go_num⟩
     case measure => simp [intOf];omega
    ·have hee:e = k + 1 + ls.length:=by omega
     subst hee
     rw [show b[k + 1 + ls.length] = 0 from by have:=HStd.out.behind;simp only at this;rw [show k + ls.length + 1 = k + 1 + ls.length by omega,List.getElem?_eq_getElem (by omega)] at this;injection this] at ce
     have hAs:At wa (some ⟨bp,op + (k + 1),none⟩) ls:=by
      have hby:=HStd.out.bytes
      simp only at hby
      rw [← hby]
      exact .inr ⟨bp,op + (k + 1),rfl,Nat.lt_of_lt_of_le hbp HBa.out.size,bZ (dz HCe.out (k + 1)) ls.length⟩
     have HAs:=Lib.hid hAs
     have i3:(k:Int) + 1 + (ls.length:Int) ≤ (c:Int):=by omega
     have i4:(k:Int) + 1 ≤ (k:Int) + 1 + (ls.length:Int):=by omega
     have i5:¬ c = k + 1:=by omega
     have q0:wa.cell? ⟨wr.heap.size,0,none⟩ = some (.int .i64 (k:Int)):=aa HKa.out 0
     have HD:=Lib.hid (HHD.out (some ⟨bp,op + (k + 1),none⟩) (c - (k + 1)) ls f wa HDk.out (by omega) (by omega) HIa.out HAs.out)
     clear hAs hlt
     go_wp2_with fail
     refine HD.out.mono ?_
     rintro e w5 ⟨u,rfl,hfl,hb5⟩
     obtain ⟨sp,sc,bk,bc,ep,ec,hu,-⟩:=hfl.out
     subst hu
     unfold bH
     rw [HF.out.1,HF.out.2.1,HF.out.2.2.1,HF.out.2.2.2.1,HF.out.2.2.2.2]
     obtain ⟨W5,hW5⟩:∃ W,W = w5.alloc (.cells #[.int .i64 2,.int .i64 xt.number,.slice sp f.cols.length sc,.int .i64 xt.seq,.int .i64 xt.first,.int .i64 (xt.rows.length:Int),.slice bk f.block.length bc,.int .i64 f.index.at_,.int .i64 f.index.frames,.int .i64 f.index.rows,.slice ep f.index.entries.length ec] 36):=⟨_,rfl⟩
     have h55:Below w5.heap.size w5 W5:=by rw [hW5];exact (Below.refl _ _).alloc (Nat.le_refl _) _
     have hb5':Below wa.heap.size wa W5:=hb5.trans (h55.mono hb5.size)
     have HBn:=Lib.hid (HW.out.trans ((HBa.out.trans (hb5'.mono HBa.out.size)).mono HW.out.size))
     have hk5:W5.heap[w5.heap.size]? = some (.cells #[.int .i64 2,.int .i64 xt.number,.slice sp f.cols.length sc,.int .i64 xt.seq,.int .i64 xt.first,.int .i64 (xt.rows.length:Int),.slice bk f.block.length bc,.int .i64 f.index.at_,.int .i64 f.index.frames,.int .i64 f.index.rows,.slice ep f.index.entries.length ec] 36 (0,0)):=by rw [hW5];exact ap w5 _
     have hk6:=(hb5'.block _ (ar HKa.out)).trans HKa.out
     have f0:=aa hk5 0
     have f1:=aa hk5 1
     have f3:=aa hk5 3
     have f4:=aa hk5 4
     have f5:=aa hk5 5
     have y0:=aa hk6 0
     have y1:=aa hk6 1
     have y2:=aa hk6 2
     have y3:=aa hk6 3
     have y4:=aa hk6 4
     have g1:((k:Int) + 1 + (ls.length:Int) == (b.length:Int)) = false:=bu (by omega)
     have g2:(xt.number != xt.number) = false:=aY rfl
     have g3:(xt.seq != xt.seq) = false:=aY rfl
     have g4:(xt.first != xt.first) = false:=aY rfl
     have g5:((xt.rows.length:Int) != (xt.rows.length:Int)) = false:=aY rfl
     have HW5:=Lib.hid hW5
     rw [hW5] at f0 f1 f3 f4 f5 y0 y1 y2 y3 y4
     clear hW5 h55 hb5 hb5' hk5 hk6 hfl q0 HD ce
     go_wp2
     rw [← HW5.out]
     go_roundw
     case rel => exact ⟨t + 1,by omega,by go_num,by rw [HNx.out],HBn⟩
     case measure => simp [intOf];omega
  ·have hjn:¬ (t:Int) < (xs.length:Int):=by omega
   have HBz:=Lib.hid (HB1.out.trans ((HB2.out.trans (HW.out.mono HB2.out.size)).mono HB1.out.size))
   clear htl
   go_wp2
   go_ret
   exact ⟨rfl,HBz.out⟩
end Go.Proofs.YtjpgbaiabmiifaaGreatDoor

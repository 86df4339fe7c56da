import Derived.Test.YtllbniljgcgbeaaGreatDoorA9
import Derived.Test.YtllbniljgcgbeaaGreatDoorK21Z
set_option maxRecDepth 100000
set_option maxHeartbeats 8000000
namespace Go.Proofs.YtllbniljgcgbeaaGreatDoor
open Go.RowKit
attribute [local go_sem] run_store_float
def Room (w w':World) (p:Option Addr) (c:Nat):Prop:=(p = none ∧ c = 0) ∨ ∃ (g off:Nat) (C:Array Value) (T:TypeId),p = some ⟨g,off,none⟩ ∧ w.heap.size ≤ g ∧ w'.heap[g]? = some (.cells C T (0,0)) ∧ off + c * 5 ≤ C.size ∧ c ≤ maxLen
theorem Room.on {w w' w'':World} {p:Option Addr} {c:Nat} (h:Room w w' p c) (hb:Below w'.heap.size w' w''):Room w w'' p c:=by
 rcases h with h | ⟨g,off,C,T,h1,h2,h3,h4,h5⟩
 ·exact .inl h
 ·exact .inr ⟨g,off,C,T,h1,h2,blk_on h3 hb (blk_lt h3),h4,h5⟩
theorem Room.up {w w0 w':World} {p:Option Addr} {c:Nat} (h:Room w w' p c) (hs:w0.heap.size ≤ w.heap.size):Room w0 w' p c:=by
 rcases h with h | ⟨g,off,C,T,h1,h2,h3,h4,h5⟩
 ·exact .inl h
 ·exact .inr ⟨g,off,C,T,h1,by omega,h3,h4,h5⟩
theorem VOwn.room {w w':World} {F:Nat → Prop} {k i:Int} {b:Nat} {t:ByteArray} {p:Option Addr} {n c:Nat} {x:V} (h:VOwn w' F (cells5 k i b t p n c) x) (hF:∀ j,F j → w.heap.size ≤ j):Room w w' p c:=by
 rcases h.inv with ⟨k0,i0,b0,t0,hu,hx⟩ | ⟨k0,i0,b0,t0,g,off,c0,xs,us,Fs,hu,hx,s⟩
 ·unfold cells5 at hu
  simp at hu
  exact .inl ⟨hu.2.2.2.2.1,hu.2.2.2.2.2.2⟩
 ·unfold cells5 at hu
  simp at hu
  obtain ⟨C,T,h1,h2,h3⟩:=s.room
  refine .inr ⟨g,off,C,T,hu.2.2.2.2.1,hF g s.hg,h1,?_,?_⟩
  ·rw [hu.2.2.2.2.2.2];exact h2
  ·rw [hu.2.2.2.2.2.2];exact h3
structure Spo (w wr:World) (p:Option Addr) (c:Nat):Prop where
 below:Below w.heap.size w wr
 room:Room w wr p c
end Go.Proofs.YtllbniljgcgbeaaGreatDoor
namespace Go.Proofs.YtllbniljgcgbeaaGreatDoor
open Go.RowKit
attribute [local go_sem] run_store_float
theorem sameL_self:∀ xs:List V,V.sameL xs xs = true
 | [] => rfl
 | x :: l => by rw [V.sameL_cons,same_self,sameL_self l];rfl
theorem Built.roomy {w w':World} {p:Option Addr} {n c:Nat} {us:Nat → Array Value} {Fs:Nat → Nat → Prop} {xs:List V} (h:Built w' w.heap.size (.slice p n c) n us Fs xs):Room w w' p c:=by
 rcases h.row.2 with ⟨h1,-⟩ | ⟨g,cap,cur,h1,h2,h3,h4,h5,h6,-⟩
 ·injection h1 with e1 e2 e3
  exact .inl ⟨e1,e3⟩
 ·injection h1 with e1 e2 e3
  subst e1 e3
  exact .inr ⟨g,0,cur,_,rfl,h2,h3,by omega,h5⟩
theorem ParseRowR {rf:Tx.Bs → Option Nat} (hRf:RfOk rf) (S:ByteArray) (hS:S.size ≤ 1099511627776) (w:World) (hv:Hv w):Calls Tryz.prog 13 #[.string S] w fun e w' => ∃ q c,e = .returned (.tuple #[.agg #[.slice q (thOf [] (tellR S (prow rf S.data.toList) rowErr)).length c],.int .i64 (errOf (tellR S (prow rf S.data.toList) rowErr):Nat),.int .i64 (plOf (tellR S (prow rf S.data.toList) rowErr):Nat)]) ∧ Items w' q (thOf [] (tellR S (prow rf S.data.toList) rowErr)) ∧ (thOf [] (tellR S (prow rf S.data.toList) rowErr)).length * 64 ≤ 140737488351232 ∧ Below w.heap.size w w' ∧ Room w w' q c:=by
 refine (ParseRowX hRf S hS w hv).mono ?_
 intro e w' h
 generalize tellR S (prow rf S.data.toList) rowErr = R at h ⊢
 match R,h with
 | .error (k,a),⟨he,hb⟩ => exact ⟨none,0,he,fun j hj => by simp [thOf] at hj,by simp [thOf],hb,.inl ⟨rfl,rfl⟩⟩
 | .ok x,⟨u,he,⟨q,c,hu,⟨us,Fs,hk⟩,hl⟩,hb⟩ =>
  injection hu with hu
  subst hu
  exact ⟨q,c,he,built_items hk (by omega),by show x.length * 64 ≤ _;omega,hb,hk.roomy⟩
theorem textParsesRow21 (S:ByteArray) (hS:S.size ≤ 1099511627776) (w:World) (hv:Hv w) :
  Calls Tryz.prog 5 #[.string S] w fun e w' => e = .returned (.bool true) ∧ Below w.heap.size w w':=by
 obtain ⟨rf,hRf⟩:=rf_ex
 have HHv:=Lib.hid (fun w' (hb:Below w.heap.size w w') => hv.on hb hv.size)
 have HLv:=Lib.hid (live21 w hv)
 have HP:=Lib.hid (fun w' (hb:Below w.heap.size w w') => ParseRowR hRf S hS w' (HHv.out w' hb))
 have HQ:=Lib.hid (fun w' => refParseRow21 hRf S hS w')
 obtain ⟨T,hT⟩:∃ T,T = tellR S (prow rf S.data.toList) rowErr:=⟨_,rfl⟩
 unfold RowA21 at HQ
 rw [← hT] at HP HQ
 obtain ⟨er,her⟩:∃ e,e = errOf T:=⟨_,rfl⟩
 obtain ⟨pl,hpl⟩:∃ e,e = plOf T:=⟨_,rfl⟩
 obtain ⟨x,hx⟩:∃ x,x = thOf [] T:=⟨_,rfl⟩
 rw [← her,← hpl,← hx] at HP HQ
 have HS:=Lib.hid (fun w' p q c d (h1:Items w' p x) (h2:Items w' q x) (hl:x.length * 64 ≤ 140737488351232) => refSameRow6 x x w' p q c d h1 h2 hl)
 rw [sameL_self] at HS
 obtain ⟨n,hn⟩:∃ n,n = x.length:=⟨_,rfl⟩
 rw [← hn] at HP HQ HS
 clear hT her hpl hx hv hS hRf hn
 go_enter Tryz.func5,Tryz.ntmps5
 go_wp2_with fail
 refine HLv.out.mono ?_
 rintro e w1 ⟨rfl,hb⟩
 have HB1:=Lib.hid hb
 clear hb HLv
 go_wp2_with fail
 go_loopw [13] (fun v wr => ∃ j:Nat,j ≤ 2 ∧ v = .int .i64 (j:Nat) ∧ Hid (Below w.heap.size w wr)) (fun v _ => 2 - (intOf v).toNat)
 case atStart => exact ⟨0,by omega,rfl,HB1⟩
 case round =>
  obtain ⟨j,hj,rfl,HB⟩:=hrel
  by_cases hj2:j < 2
  ·have g1:(j:Int) < 2:=by omega
   have HX:=Lib.hid (HP.out wr HB.out)
   clear HB1
   go_wp2_with fail
   refine HX.out.mono ?_
   rintro e w2 ⟨p,c,rfl,hl,hln,hb,hroom⟩
   obtain ⟨W2,hW⟩:∃ W,W = w2.alloc (.cells #[.slice p n c] 44):=⟨_,rfl⟩
   have hbw:Below w2.heap.size w2 W2:=by rw [hW];exact (Below.refl _ _).alloc (Nat.le_refl _) _
   have HK:=Lib.hid (show W2.heap[w2.heap.size]? = some (.cells #[.slice p n c] 44 (0,0)) by rw [hW];exact blk_new w2 _)
   have HB2:=Lib.hid (HB.out.trans ((hb.trans (hbw.mono hb.size)).mono HB.out.size))
   have HL:=Lib.hid (hl.on hbw)
   have HLn:=Lib.hid hln
   have HRm:=Lib.hid ((hroom.on hbw).up HB.out.size)
   have HW:=Lib.hid hW
   have HY:=Lib.hid (HQ.out W2)
   clear hl hln hb hbw hW HX HB hroom
   go_wp2_with fail
   rw [← HW.out]
   refine HY.out.mono ?_
   rintro e w3 ⟨p3,c3,rfl,hl3,-,hb3⟩
   obtain ⟨W3,hW3⟩:∃ W,W = w3.alloc (.cells #[.slice p3 n c3] 44):=⟨_,rfl⟩
   have hbw:Below w3.heap.size w3 W3:=by rw [hW3];exact (Below.refl _ _).alloc (Nat.le_refl _) _
   have hk3:W3.heap[w3.heap.size]? = some (.cells #[.slice p3 n c3] 44 (0,0)):=by rw [hW3];exact blk_new w3 _
   have hk2:=blk_on (blk_on HK.out hb3 (blk_lt HK.out)) hbw (by have:=blk_lt HK.out;have:=hb3.size;omega)
   have hb4:=hb3.trans (hbw.mono hb3.size)
   have m0:W3.cell? ⟨w2.heap.size,0,none⟩ = some (.slice p n c):=blk_cell hk2 0
   have nn0:W3.cell? ⟨w3.heap.size,0,none⟩ = some (.slice p3 n c3):=blk_cell hk3 0
   have HZ:=Lib.hid (HS.out W3 p p3 c c3 (HL.out.on hb4) (hl3.on hbw) HLn.out)
   have HB3:=Lib.hid (HB2.out.trans (hb4.mono HB2.out.size))
   have HRm3:=Lib.hid (HRm.out.on hb4)
   have HK2:=Lib.hid hk2
   have HW3:=Lib.hid hW3
   rw [hW3] at m0 nn0
   clear hl3 hb3 hbw hk3 hk2 hb4 hW3 HY HW HB2 HRm HL HLn HK
   go_wp2_with fail
   rw [← HW3.out]
   refine HZ.out.mono ?_
   rintro e w4 ⟨rfl,hb⟩
   have hk4:=blk_on HK2.out hb (blk_lt HK2.out)
   have y0:w4.cell? ⟨w2.heap.size,0,none⟩ = some (.slice p n c):=blk_cell hk4 0
   have HSp:Hid (Spo w w4 p c):=⟨HB3.out.trans (hb.mono HB3.out.size),HRm3.out.on hb⟩
   clear hb HZ hk4 HK2 HB3 HRm3 HW3 m0 nn0
   go_wp2
   go_loopw [49] (fun v wr => ∃ m:Nat,m ≤ c ∧ v = .int .i64 (m:Nat) ∧ Hid (Spo w wr p c)) (fun v _ => c - (intOf v).toNat)
   case atStart => exact ⟨0,by omega,rfl,HSp⟩
   case round =>
    obtain ⟨m,hm,rfl,HQ⟩:=hrel
    by_cases hmc:m < c
    ·rcases HQ.out.room with ⟨-,hc0⟩ | ⟨g,off,C,Tb,hp,hg,hb,hl,hc⟩
     ·omega
     subst hp
     have f1:(m:Int) < (c:Int):=by omega
     have f2:(m:Int) + 1 ≤ 9223372036854775807:=by unfold maxLen at hc;omega
     have cm:∀ z,z < 5 → ∃ u,wr.cell? ⟨g,off + m * 5 + z,none⟩ = some u:=fun z hz => by
      have h1:off + m * 5 + z < C.size:=by
       have:m * 5 + 5 ≤ c * 5:=by omega
       omega
      exact ⟨C[off + m * 5 + z],by rw [blk_cell hb];exact Array.getElem?_eq_getElem h1⟩
     obtain ⟨u0,a0⟩:=cm 0 (by omega)
     obtain ⟨u1,a1⟩:=cm 1 (by omega)
     obtain ⟨u2,a2⟩:=cm 2 (by omega)
     obtain ⟨u3,a3⟩:=cm 3 (by omega)
     obtain ⟨u4,a4⟩:=cm 4 (by omega)
     have b0:=blk_free hb (off + m * 5)
     have b1:=blk_free hb (off + m * 5 + 1)
     have b2:=blk_free hb (off + m * 5 + 2)
     have b3:=blk_free hb (off + m * 5 + 3)
     have b4:=blk_free hb (off + m * 5 + 4)
     have a0:wr.cell? ⟨g,off + m * 5,none⟩ = some u0:=a0
     have HNx:Hid (Spo w (((((wr.setCell ⟨g,off + m * 5,none⟩ (.int .i64 99)).setCell ⟨g,off + m * 5 + 1,none⟩ (.int .i64 0)).setCell ⟨g,off + m * 5 + 2,none⟩ (.float .f64 0)).setCell ⟨g,off + m * 5 + 3,none⟩ (.string ⟨#[]⟩)).setCell ⟨g,off + m * 5 + 4,none⟩ (.slice none 0 0)) (some ⟨g,off,none⟩) c):=by
      refine ⟨((((HQ.out.below.setCell hg _).setCell hg _).setCell hg _).setCell hg _).setCell hg _,.inr ⟨g,off,_,Tb,rfl,hg,blk_set (blk_set (blk_set (blk_set (blk_set hb _ _) _ _) _ _) _ _) _ _,by simpa using hl,hc⟩⟩
     clear hb hl hc cm HQ hg
     go_wp2
     go_roundw
     case rel => exact ⟨m + 1,by omega,by go_num,HNx⟩
     case measure => simp [intOf];omega
    ·have f1:¬ (m:Int) < (c:Int):=by omega
     have HBq:=Lib.hid HQ.out.below
     clear HQ
     go_wp2
     go_roundw
     case rel => exact ⟨j + 1,by omega,by go_num,HBq⟩
     case measure => simp [intOf];omega
  ·have g1:¬ (j:Int) < 2:=by omega
   clear HP HQ HS HB1
   go_wp2
   go_ret
   exact ⟨rfl,HB.out⟩
end Go.Proofs.YtllbniljgcgbeaaGreatDoor

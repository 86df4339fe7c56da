import Derived.Test.YtfcblnknoljkhaaGreatDoorA2
import Derived.Test.YtfcblnknoljkhaaGreatDoorA1
import Derived.Test.YtfcblnknoljkhaaGreatDoorB03
import Derived.Test.YtfcblnknoljkhaaGreatDoorB16
import Derived.Deep.RegionHeld3
import Derived.Test.YtfcblnknoljkhaaGreatDoorA3
import Derived.Handy
import Derived.Defers
import Derived.Recover
set_option maxRecDepth 100000
set_option maxHeartbeats 4000000
namespace Go.Proofs.YtfcblnknoljkhaaGreatDoor
open Go.RowKit
def OpnA (w:World) (r:Except Nat (List UInt8)) (e:Ending) (w':World):Prop:=match r with
 | .error k => e = .returned (.tuple #[.slice none 0 0,.int .i64 (k:Nat)]) ∧ Below w.heap.size w w'
 | .ok b => ∃ g o cap,e = .returned (.tuple #[.slice (some ⟨g,o,none⟩) b.length cap,.int .i64 0]) ∧ At w' (some ⟨g,o,none⟩) b ∧ b.length ≤ cap ∧ w.heap.size ≤ g ∧ Below w.heap.size w w'
theorem openF (p:Option Addr) (c:Nat) (l:List UInt8) (hl:l.length ≤ 140737488351232) (hlc:l.length ≤ c) (w:World) (hv:Hv w) (h:At w p l) :
  Calls Tryz.prog 25 #[.slice p l.length c] w (OpnA w (Fr.open_ l)):=by
 obtain ⟨r,hr⟩:∃ r,r = Fr.open_ l:=⟨_,rfl⟩
 have HR:Hid (r = if 2200 < l.length then .error 2 else if (Cob.un l).1 ≠ 0 then .error (Cob.un l).1
  else if (Cob.un l).2.length < 5 then .error 30
  else if (Cob.un l).2.drop ((Cob.un l).2.length - 4) = Sch.le 4 (Crc.sum ((Cob.un l).2.take ((Cob.un l).2.length - 4))) then .ok ((Cob.un l).2.take ((Cob.un l).2.length - 4)) else .error 120):=hr
 rw [← hr]
 clear hr
 have HU:=Lib.hid (unstuffK p c l w hl hlc h)
 have HHv:=Lib.hid hv
 clear h hv
 by_cases h22:2200 < l.length
 ·have g0:(2200:Int) < (l.length:Int):=by omega
  have HR2:Hid (r = .error 2):=HR.out.trans (if_pos h22)
  clear HR h22
  go_enter Tryz.func25,Tryz.ntmps25
  go_wp2
  go_ret2
  rw [HR2.out]
  exact ⟨rfl,Below.refl _ _⟩
 have g0:¬ (2200:Int) < (l.length:Int):=by omega
 have HR1:=Lib.hid (HR.out.trans (if_neg h22))
 have hul:=Cob.un_length l
 unfold UnPost at HU
 obtain ⟨ue,hue⟩:∃ ue,ue = (Cob.un l).1:=⟨_,rfl⟩
 obtain ⟨ub,hub⟩:∃ ub,ub = (Cob.un l).2:=⟨_,rfl⟩
 rw [← hub] at HU hul HR1
 rw [← hue] at HU HR1
 clear HR hue hub
 go_enter Tryz.func25,Tryz.ntmps25
 go_wp2_with fail
 refine HU.out.mono ?_
 rintro e w1 ⟨q,cap,rfl,hat,hcap,hfr,hb⟩
 have HB1:=Lib.hid hb
 have HA1:=Lib.hid hat
 have HF1:=Lib.hid hfr
 clear hat hfr hb HU
 by_cases he:ue = 0
 ·subst he
  have HR2:=Lib.hid (HR1.out.trans (if_neg (by omega)))
  clear HR1
  by_cases h5:ub.length < 5
  ·have g1:(ub.length:Int) < 5:=by omega
   have HR3:Hid (r = .error 30):=HR2.out.trans (if_pos h5)
   clear HR2 h5
   go_wp2
   go_ret2
   rw [HR3.out]
   exact ⟨rfl,HB1.out⟩
  have g1:¬ (ub.length:Int) < 5:=by omega
  have HR3:=Lib.hid (HR2.out.trans (if_neg h5))
  clear HR2
  obtain ⟨g,o,rfl,hg,hF⟩:=HF1.out (fun hc => by rw [hc] at h5;simp at h5)
  obtain ⟨K,hK⟩:∃ K,ub.length = K + 4:=⟨ub.length - 4,by omega⟩
  have hK4:ub.length - 4 = K:=by omega
  rw [hK4] at HR3
  obtain ⟨b,hb⟩:∃ b,b = ub.take K:=⟨_,rfl⟩
  obtain ⟨s,hs⟩:∃ s,s = ub.drop K:=⟨_,rfl⟩
  have hbl:b.length = K:=by rw [hb,List.length_take];omega
  have hsl:s.length = 4:=by rw [hs,List.length_drop];omega
  have HAb:Hid (At w1 (some ⟨g,o,none⟩) b):=by rw [hb];exact .inr ⟨g,o,rfl,hF.1,cells_take hF.2.1 K⟩
  have HAs:Hid (At w1 (some ⟨g,o + K,none⟩) s):=by rw [hs];exact .inr ⟨g,o + K,rfl,hF.1,cells_drop hF.2.1 K⟩
  rw [← hb,← hs] at HR3
  have hKb:(K:Int) ≤ 2200:=by omega
  have g2:(K:Int) ≤ (ub.length:Int):=by omega
  have g3:(K:Int) ≤ (cap:Int):=by omega
  have hKe:((ub.length:Nat):Int) - 4 = (K:Int):=by omega
  have hc1:cutH (some ⟨g,o,none⟩) cap = some ⟨g,o,none⟩:=by
   unfold cutH
   split
   ·rfl
   ·rw [Option.map_some,Lib.add_plain];rfl
  have hc2:cutP (some ⟨g,o,none⟩) K cap = some ⟨g,o + K,none⟩:=by
   unfold cutP
   rw [if_neg (by omega),Option.map_some,Lib.add_plain]
  have s1:∀ w',(Instr.slice 25 (.slice (some ⟨g,o,none⟩) (K + 4) cap) none (some (.int .i64 (K:Int))) none).run Tryz.prog w' = .ok (.slice (some ⟨g,o,none⟩) K cap) w':=fun w' => by
   have:=run_cut_h (some ⟨g,o,none⟩) (K + 4) cap K (by omega) w'
   rw [hc1] at this
   exact this
  have s2:∀ w',(Instr.slice 25 (.slice (some ⟨g,o,none⟩) (K + 4) cap) (some (.int .i64 (K:Int))) none none).run Tryz.prog w' = .ok (.slice (some ⟨g,o + K,none⟩) 4 (cap - K)) w':=fun w' => by
   have:=run_cut_l (some ⟨g,o,none⟩) (K + 4) cap K (by omega) w'
   rw [hc2,Nat.add_sub_cancel_left] at this
   exact this
  have HS:Hid (∀ w',Below w1.heap.size w1 w' → Calls Tryz.prog 18 #[.slice (some ⟨g,o,none⟩) K cap] w' fun e w'' => e = .returned (.slice (some ⟨w'.heap.size,0,none⟩) 4 4) ∧ w'' = w'.alloc (.cells (cellsOf (Sch.le 4 (Crc.sum b))).toArray 5)):=fun w' hb' => by
   have:=sumOfK (some ⟨g,o,none⟩) cap b (by omega) w' ((HHv.out.next HB1.out).next hb') (HAb.out.on hb')
   rw [hbl] at this
   exact this
  obtain ⟨k,hk⟩:∃ k,k = Sch.le 4 (Crc.sum b):=⟨_,rfl⟩
  rw [← hk] at HS HR3
  have hkl:k.length = 4:=by rw [hk,Sch.le_len]
  have HE:Hid (∀ w' W,Below w1.heap.size w1 w' → W = w'.alloc (.cells (cellsOf k).toArray 5) → Calls Tryz.prog 38 #[.slice (some ⟨w'.heap.size,0,none⟩) 4 4,.slice (some ⟨g,o + K,none⟩) 4 (cap - K)] W fun e w'' => e = .returned (.bool (k == s)) ∧ w'' = W):=fun w' W hb' hW => by
   have hb2:Below w1.heap.size w1 W:=by rw [hW];exact hb'.alloc hb'.size _
   have:=equalK (some ⟨w'.heap.size,0,none⟩) (some ⟨g,o + K,none⟩) 4 (cap - K) k s W (by rw [hW];exact at_lit w' _ k rfl) (HAs.out.on hb2)
   rw [hkl,hsl] at this
   exact this
  have HAl:Hid (∀ w' o',Below w1.heap.size w1 w' → Below w1.heap.size w1 (w'.alloc o')):=fun w' o' hb' => hb'.alloc hb'.size o'
  obtain ⟨t,ht⟩:∃ t,t = (k == s):=⟨_,rfl⟩
  rw [← ht] at HE
  have HT:=Lib.hid ht
  have HHb:=Lib.hid hbl
  rw [hK]
  rw [hK] at hcap g1 g2
  clear hk hb hs hF h5 HF1 HA1 ht hK4 hKe hc1 hc2 hK hbl
  go_wp2_with fail
  go_region_held3 (fun _ => True) (trivial) (first
   | (go_at_call 18;refine (HS.out _ ((Below.refl _ _).drew)).mono ?_;rintro e w2 ⟨rfl,hw2⟩;have HW2:=Lib.hid hw2;clear hw2)
   | (go_at_call 38;refine (HE.out w1.drew _ ((Below.refl _ _).drew) HW2.out).mono ?_;rintro e w3 ⟨rfl,hw3⟩;have HW3:=Lib.hid hw3;clear hw3)
   | fail)
  have HB3:Hid (Below w.heap.size w w3):=by
   rw [HW3.out,HW2.out]
   exact HB1.out.trans ((HAl.out _ _ ((Below.refl _ _).drew)).mono HB1.out.size)
  have HA3:Hid (At w3 (some ⟨g,o,none⟩) b):=by
   have hb13:Below w1.heap.size w1 w3:=by rw [HW3.out,HW2.out];exact HAl.out _ _ ((Below.refl _ _).drew)
   exact HAb.out.on hb13
  cases t with
  | false =>
   have HR4:Hid (r = .error 120):=by
    show _ = _
    rw [HR3.out,if_neg]
    intro hc
    have:=HT.out
    rw [hc,beq_self_eq_true] at this
    cases this
   go_wp2
   go_ret2
   rw [HR4.out]
   exact ⟨rfl,HB3.out⟩
  | true =>
   have HR4:Hid (r = .ok b):=by
    show _ = _
    have:=HT.out.symm
    rw [beq_iff_eq] at this
    rw [HR3.out,if_pos this.symm]
   go_wp2
   go_ret2
   rw [HR4.out]
   exact ⟨g,o,cap,by rw [HHb.out];rfl,HA3.out,by rw [HHb.out];omega,hg,HB3.out⟩
 ·have g1:((ue:Int) != 0) = true:=by rw [bne_iff_ne];omega
  have HR2:Hid (r = .error ue):=HR1.out.trans (if_pos he)
  clear HR1 he
  go_wp2
  go_ret2
  rw [HR2.out]
  exact ⟨rfl,HB1.out⟩
end Go.Proofs.YtfcblnknoljkhaaGreatDoor
namespace Go.Proofs.YtfcblnknoljkhaaGreatDoor
open Go.RowKit
theorem ta_11 (x:Value) (w:World):(Instr.typeAssert (.iface 50 x) 38 50 true).run Tryz.prog w = .ok (.tuple #[x,.bool true]) w:=by kernel_rfl
theorem ta_12 (x:Value) (w:World):(Instr.typeAssert (.iface 50 x) 38 52 true).run Tryz.prog w = .ok (.tuple #[.agg #[.int .i64 0,.int .i64 0,.int .i64 0,.int .i64 0,.slice none 0 0],.bool false]) w:=by kernel_rfl
theorem ta_13 (x:Value) (w:World):(Instr.typeAssert (.iface 50 x) 38 54 true).run Tryz.prog w = .ok (.tuple #[.agg #[.int .i64 0,.int .i64 0,.int .i64 0,.slice none 0 0],.bool false]) w:=by kernel_rfl
theorem ta_21 (x:Value) (w:World):(Instr.typeAssert (.iface 52 x) 38 50 true).run Tryz.prog w = .ok (.tuple #[.agg #[.int .i64 0,.slice none 0 0],.bool false]) w:=by kernel_rfl
theorem ta_22 (x:Value) (w:World):(Instr.typeAssert (.iface 52 x) 38 52 true).run Tryz.prog w = .ok (.tuple #[x,.bool true]) w:=by kernel_rfl
theorem ta_23 (x:Value) (w:World):(Instr.typeAssert (.iface 52 x) 38 54 true).run Tryz.prog w = .ok (.tuple #[.agg #[.int .i64 0,.int .i64 0,.int .i64 0,.slice none 0 0],.bool false]) w:=by kernel_rfl
theorem ta_31 (x:Value) (w:World):(Instr.typeAssert (.iface 54 x) 38 50 true).run Tryz.prog w = .ok (.tuple #[.agg #[.int .i64 0,.slice none 0 0],.bool false]) w:=by kernel_rfl
theorem ta_32 (x:Value) (w:World):(Instr.typeAssert (.iface 54 x) 38 52 true).run Tryz.prog w = .ok (.tuple #[.agg #[.int .i64 0,.int .i64 0,.int .i64 0,.int .i64 0,.slice none 0 0],.bool false]) w:=by kernel_rfl
theorem ta_33 (x:Value) (w:World):(Instr.typeAssert (.iface 54 x) 38 54 true).run Tryz.prog w = .ok (.tuple #[x,.bool true]) w:=by kernel_rfl
theorem frameOf_1 (n:Int) (sp:Option Addr) (sn sc:Nat) (w:World):Calls Tryz.prog 27 #[.iface 50 (.agg #[.int .i64 n,.slice sp sn sc])] w fun e w' => e = .returned (.agg #[.int .i64 1,.int .i64 n,.slice sp sn sc,.int .i64 0,.int .i64 0,.int .i64 0,.slice none 0 0,.int .i64 0,.int .i64 0,.int .i64 0,.slice none 0 0]) ∧ Below w.heap.size w w':=by
 have t1:=ta_11 (.agg #[.int .i64 n,.slice sp sn sc])
 have t2:=ta_12 (.agg #[.int .i64 n,.slice sp sn sc])
 have t3:=ta_13 (.agg #[.int .i64 n,.slice sp sn sc])
 have HB:Hid (∀ o o2,Below w.heap.size w ((w.alloc o).alloc o2)):=fun o o2 => ((Below.refl _ _).alloc (Nat.le_refl _) _).alloc (by simp) _
 go_enter Tryz.func27,Tryz.ntmps27
 go_wp2
 refine bodyPost_ret (v:=.agg #[.int .i64 1,.int .i64 n,.slice sp sn sc,.int .i64 0,.int .i64 0,.int .i64 0,.slice none 0 0,.int .i64 0,.int .i64 0,.int .i64 0,.slice none 0 0]) (results_cell_row rfl _ _ w.heap.size _ _ _ _ rfl (blk_first w _ _) Tryz.underlying30 rfl (by kernel_rfl)) rfl ?_
 exact ⟨rfl,HB.out _ _⟩
theorem frameOf_2 (n q fi r:Int) (bp:Option Addr) (bn bc:Nat) (w:World):Calls Tryz.prog 27 #[.iface 52 (.agg #[.int .i64 n,.int .i64 q,.int .i64 fi,.int .i64 r,.slice bp bn bc])] w fun e w' => e = .returned (.agg #[.int .i64 2,.int .i64 n,.slice none 0 0,.int .i64 q,.int .i64 fi,.int .i64 r,.slice bp bn bc,.int .i64 0,.int .i64 0,.int .i64 0,.slice none 0 0]) ∧ Below w.heap.size w w':=by
 have t1:=ta_21 (.agg #[.int .i64 n,.int .i64 q,.int .i64 fi,.int .i64 r,.slice bp bn bc])
 have t2:=ta_22 (.agg #[.int .i64 n,.int .i64 q,.int .i64 fi,.int .i64 r,.slice bp bn bc])
 have t3:=ta_23 (.agg #[.int .i64 n,.int .i64 q,.int .i64 fi,.int .i64 r,.slice bp bn bc])
 have HB:Hid (∀ o o2,Below w.heap.size w ((w.alloc o).alloc o2)):=fun o o2 => ((Below.refl _ _).alloc (Nat.le_refl _) _).alloc (by simp) _
 go_enter Tryz.func27,Tryz.ntmps27
 go_wp2
 refine bodyPost_ret (v:=.agg #[.int .i64 2,.int .i64 n,.slice none 0 0,.int .i64 q,.int .i64 fi,.int .i64 r,.slice bp bn bc,.int .i64 0,.int .i64 0,.int .i64 0,.slice none 0 0]) (results_cell_row rfl _ _ w.heap.size _ _ _ _ rfl (blk_first w _ _) Tryz.underlying30 rfl (by kernel_rfl)) rfl ?_
 exact ⟨rfl,HB.out _ _⟩
theorem frameOf_3 (ia ib ic:Int) (ep:Option Addr) (en ec:Nat) (w:World):Calls Tryz.prog 27 #[.iface 54 (.agg #[.int .i64 ia,.int .i64 ib,.int .i64 ic,.slice ep en ec])] w fun e w' => e = .returned (.agg #[.int .i64 3,.int .i64 0,.slice none 0 0,.int .i64 0,.int .i64 0,.int .i64 0,.slice none 0 0,.int .i64 ia,.int .i64 ib,.int .i64 ic,.slice ep en ec]) ∧ Below w.heap.size w w':=by
 have t1:=ta_31 (.agg #[.int .i64 ia,.int .i64 ib,.int .i64 ic,.slice ep en ec])
 have t2:=ta_32 (.agg #[.int .i64 ia,.int .i64 ib,.int .i64 ic,.slice ep en ec])
 have t3:=ta_33 (.agg #[.int .i64 ia,.int .i64 ib,.int .i64 ic,.slice ep en ec])
 have HB:Hid (∀ o o2,Below w.heap.size w ((w.alloc o).alloc o2)):=fun o o2 => ((Below.refl _ _).alloc (Nat.le_refl _) _).alloc (by simp) _
 go_enter Tryz.func27,Tryz.ntmps27
 go_wp2
 refine bodyPost_ret (v:=.agg #[.int .i64 3,.int .i64 0,.slice none 0 0,.int .i64 0,.int .i64 0,.int .i64 0,.slice none 0 0,.int .i64 ia,.int .i64 ib,.int .i64 ic,.slice ep en ec]) (results_cell_row rfl _ _ w.heap.size _ _ _ _ rfl (blk_first w _ _) Tryz.underlying30 rfl (by kernel_rfl)) rfl ?_
 exact ⟨rfl,HB.out _ _⟩
end Go.Proofs.YtfcblnknoljkhaaGreatDoor
namespace Go.Proofs.YtfcblnknoljkhaaGreatDoor
open Go.RowKit
def isIF (B:Nat) (f:Fr) (v:Value) (w:World):Prop:=(f.kind = 1 ∧ ∃ x,v = .iface 50 x ∧ isSF B f x w) ∨ (f.kind = 2 ∧ ∃ x,v = .iface 52 x ∧ isDF B f x w) ∨ (f.kind = 3 ∧ ∃ x,v = .iface 54 x ∧ isXF B f x w)
theorem FldA.good {w w':World} {R:Nat} {f:Fr} {V:Fr → Value → World → Prop} {e:Ending} (h:FldA w R (.ok f) V e w'):∃ v,e = .returned v ∧ V f v w' ∧ Aside (fun i => i = R) w w':=h
theorem FldA.bad {w w':World} {R k:Nat} {V:Fr → Value → World → Prop} {e:Ending} (h:FldA w R (.error k) V e w'):e = .panicked (errV k) ∧ Aside (fun i => i = R) w w':=h
theorem fieldsF_1 (l:List UInt8) (A R:Nat) (w:World) (h:RdrF w A R l):Calls Tryz.prog 28 #[.pointer (some ⟨R,0,none⟩),.int .i64 1] w (FldA w R (Fr.rdS l) (isIF w.heap.size)):=by
 have HC:=Lib.hid (schemaFieldsF l A R w h)
 obtain ⟨r,hr⟩:∃ r,r = Fr.rdS l:=⟨_,rfl⟩
 rw [← hr] at HC ⊢
 clear h
 cases r with
 | error er =>
  clear hr
  go_enter Tryz.func28,Tryz.ntmps28
  go_wp2_with fail
  refine HC.out.mono ?_
  intro e w1 hh
  obtain ⟨he,ha⟩:=hh.bad
  subst he
  have HA:=Lib.hid ha
  clear hh ha HC
  go_wp2
  exact ⟨rfl,rfl,HA.out⟩
 | ok f =>
  have HKd:Hid (f.kind = 1):=by
   have:=(Fr.rdF_ok (k:=1) (l:=l) (f:=f) (by rw [hr];rfl)).1
   exact this
  clear hr
  go_enter Tryz.func28,Tryz.ntmps28
  go_wp2_with fail
  refine HC.out.mono ?_
  intro e w1 hh
  obtain ⟨v,he,hv,ha⟩:=hh.good
  subst he
  have HA:=Lib.hid ha
  have HV:=Lib.hid hv
  obtain ⟨p,c,rfl,-⟩:=hv
  clear hh ha HC
  go_wp2
  go_ret
  exact ⟨_,rfl,.inl ⟨HKd.out,_,rfl,HV.out⟩,HA.out⟩
theorem fieldsF_2 (l:List UInt8) (A R:Nat) (w:World) (h:RdrF w A R l):Calls Tryz.prog 28 #[.pointer (some ⟨R,0,none⟩),.int .i64 2] w (FldA w R (Fr.rdD l) (isIF w.heap.size)):=by
 have HC:=Lib.hid (dataFieldsF l A R w h)
 obtain ⟨r,hr⟩:∃ r,r = Fr.rdD l:=⟨_,rfl⟩
 rw [← hr] at HC ⊢
 clear h
 cases r with
 | error er =>
  clear hr
  go_enter Tryz.func28,Tryz.ntmps28
  go_wp2_with fail
  refine HC.out.mono ?_
  intro e w1 hh
  obtain ⟨he,ha⟩:=hh.bad
  subst he
  have HA:=Lib.hid ha
  clear hh ha HC
  go_wp2
  exact ⟨rfl,rfl,HA.out⟩
 | ok f =>
  have HKd:Hid (f.kind = 2):=by
   have:=(Fr.rdF_ok (k:=2) (l:=l) (f:=f) (by rw [hr];rfl)).1
   exact this
  clear hr
  go_enter Tryz.func28,Tryz.ntmps28
  go_wp2_with fail
  refine HC.out.mono ?_
  intro e w1 hh
  obtain ⟨v,he,hv,ha⟩:=hh.good
  subst he
  have HA:=Lib.hid ha
  have HV:=Lib.hid hv
  obtain ⟨p,c,rfl,-⟩:=hv
  clear hh ha HC
  go_wp2
  go_ret
  exact ⟨_,rfl,.inr (.inl ⟨HKd.out,_,rfl,HV.out⟩),HA.out⟩
theorem fieldsF_3 (l:List UInt8) (A R:Nat) (w:World) (h:RdrF w A R l):Calls Tryz.prog 28 #[.pointer (some ⟨R,0,none⟩),.int .i64 3] w (FldA w R (Fr.rdI l) (isIF w.heap.size)):=by
 have HC:=Lib.hid (indexFieldsF l A R w h)
 obtain ⟨r,hr⟩:∃ r,r = Fr.rdI l:=⟨_,rfl⟩
 rw [← hr] at HC ⊢
 clear h
 cases r with
 | error er =>
  clear hr
  go_enter Tryz.func28,Tryz.ntmps28
  go_wp2_with fail
  refine HC.out.mono ?_
  intro e w1 hh
  obtain ⟨he,ha⟩:=hh.bad
  subst he
  have HA:=Lib.hid ha
  clear hh ha HC
  go_wp2
  exact ⟨rfl,rfl,HA.out⟩
 | ok f =>
  have HKd:Hid (f.kind = 3):=by
   have:=(Fr.rdF_ok (k:=3) (l:=l) (f:=f) (by rw [hr];rfl)).1
   exact this
  clear hr
  go_enter Tryz.func28,Tryz.ntmps28
  go_wp2_with fail
  refine HC.out.mono ?_
  intro e w1 hh
  obtain ⟨v,he,hv,ha⟩:=hh.good
  subst he
  have HA:=Lib.hid ha
  have HV:=Lib.hid hv
  obtain ⟨p,c,rfl,-⟩:=hv
  clear hh ha HC
  go_wp2
  go_ret
  exact ⟨_,rfl,.inr (.inr ⟨HKd.out,_,rfl,HV.out⟩),HA.out⟩
theorem fieldsF_0 (k:Int) (h1:k ≠ 1) (h2:k ≠ 2) (h3:k ≠ 3) (R:Nat) (w:World):Calls Tryz.prog 28 #[.pointer (some ⟨R,0,none⟩),.int .i64 k] w (FldA w R (.error 60) (isIF w.heap.size)):=by
 have g1:(k == 1) = false:=beq_f h1
 have g2:(k == 2) = false:=beq_f h2
 have g3:(k == 3) = false:=beq_f h3
 clear h1 h2 h3
 go_enter Tryz.func28,Tryz.ntmps28
 go_wp2
 exact ⟨rfl,rfl,Aside.refl _ _⟩
theorem fieldsF (k:Nat) (l:List UInt8) (A R:Nat) (w:World) (h:RdrF w A R l):Calls Tryz.prog 28 #[.pointer (some ⟨R,0,none⟩),.int .i64 k] w (FldA w R (Fr.rdF k l) (isIF w.heap.size)):=by
 unfold Fr.rdF
 by_cases h1:k = 1
 ·subst h1
  rw [if_pos rfl]
  exact fieldsF_1 l A R w h
 rw [if_neg h1]
 by_cases h2:k = 2
 ·subst h2
  rw [if_pos rfl]
  exact fieldsF_2 l A R w h
 rw [if_neg h2]
 by_cases h3:k = 3
 ·subst h3
  rw [if_pos rfl]
  exact fieldsF_3 l A R w h
 rw [if_neg h3]
 exact fieldsF_0 k (by omega) (by omega) (by omega) R w
end Go.Proofs.YtfcblnknoljkhaaGreatDoor
namespace Go.Proofs.YtfcblnknoljkhaaGreatDoor
open Go.RowKit
theorem heap_drew12 (w:World):w.drew.heap = w.heap:=rfl
def set11 (w:World) (g:Nat) (c0 c1 c2 c3 c4 c5 c6 c7 c8 c9 c10:Value):World:=((((((((((w.setCell ⟨g,0,none⟩ c0).setCell ⟨g,1,none⟩ c1).setCell ⟨g,2,none⟩ c2).setCell ⟨g,3,none⟩ c3).setCell ⟨g,4,none⟩ c4).setCell ⟨g,5,none⟩ c5).setCell ⟨g,6,none⟩ c6).setCell ⟨g,7,none⟩ c7).setCell ⟨g,8,none⟩ c8).setCell ⟨g,9,none⟩ c9).setCell ⟨g,10,none⟩ c10
theorem set11_block {w:World} {g:Nat} {T:TypeId} {d0 d1 d2 d3 d4 d5 d6 d7 d8 d9 d10:Value} (h:w.heap[g]? = some (.cells #[d0,d1,d2,d3,d4,d5,d6,d7,d8,d9,d10] T (0,0))) (c0 c1 c2 c3 c4 c5 c6 c7 c8 c9 c10:Value):(set11 w g c0 c1 c2 c3 c4 c5 c6 c7 c8 c9 c10).heap[g]? = some (.cells #[c0,c1,c2,c3,c4,c5,c6,c7,c8,c9,c10] T (0,0)):=by
 have b0:(w.setCell ⟨g,0,none⟩ c0).heap[g]? = some (.cells #[c0,d1,d2,d3,d4,d5,d6,d7,d8,d9,d10] T (0,0)):=blk_set h 0 _
 have b1:((w.setCell ⟨g,0,none⟩ c0).setCell ⟨g,1,none⟩ c1).heap[g]? = some (.cells #[c0,c1,d2,d3,d4,d5,d6,d7,d8,d9,d10] T (0,0)):=blk_set b0 1 _
 have b2:(((w.setCell ⟨g,0,none⟩ c0).setCell ⟨g,1,none⟩ c1).setCell ⟨g,2,none⟩ c2).heap[g]? = some (.cells #[c0,c1,c2,d3,d4,d5,d6,d7,d8,d9,d10] T (0,0)):=blk_set b1 2 _
 have b3:((((w.setCell ⟨g,0,none⟩ c0).setCell ⟨g,1,none⟩ c1).setCell ⟨g,2,none⟩ c2).setCell ⟨g,3,none⟩ c3).heap[g]? = some (.cells #[c0,c1,c2,c3,d4,d5,d6,d7,d8,d9,d10] T (0,0)):=blk_set b2 3 _
 have b4:(((((w.setCell ⟨g,0,none⟩ c0).setCell ⟨g,1,none⟩ c1).setCell ⟨g,2,none⟩ c2).setCell ⟨g,3,none⟩ c3).setCell ⟨g,4,none⟩ c4).heap[g]? = some (.cells #[c0,c1,c2,c3,c4,d5,d6,d7,d8,d9,d10] T (0,0)):=blk_set b3 4 _
 have b5:((((((w.setCell ⟨g,0,none⟩ c0).setCell ⟨g,1,none⟩ c1).setCell ⟨g,2,none⟩ c2).setCell ⟨g,3,none⟩ c3).setCell ⟨g,4,none⟩ c4).setCell ⟨g,5,none⟩ c5).heap[g]? = some (.cells #[c0,c1,c2,c3,c4,c5,d6,d7,d8,d9,d10] T (0,0)):=blk_set b4 5 _
 have b6:(((((((w.setCell ⟨g,0,none⟩ c0).setCell ⟨g,1,none⟩ c1).setCell ⟨g,2,none⟩ c2).setCell ⟨g,3,none⟩ c3).setCell ⟨g,4,none⟩ c4).setCell ⟨g,5,none⟩ c5).setCell ⟨g,6,none⟩ c6).heap[g]? = some (.cells #[c0,c1,c2,c3,c4,c5,c6,d7,d8,d9,d10] T (0,0)):=blk_set b5 6 _
 have b7:((((((((w.setCell ⟨g,0,none⟩ c0).setCell ⟨g,1,none⟩ c1).setCell ⟨g,2,none⟩ c2).setCell ⟨g,3,none⟩ c3).setCell ⟨g,4,none⟩ c4).setCell ⟨g,5,none⟩ c5).setCell ⟨g,6,none⟩ c6).setCell ⟨g,7,none⟩ c7).heap[g]? = some (.cells #[c0,c1,c2,c3,c4,c5,c6,c7,d8,d9,d10] T (0,0)):=blk_set b6 7 _
 have b8:(((((((((w.setCell ⟨g,0,none⟩ c0).setCell ⟨g,1,none⟩ c1).setCell ⟨g,2,none⟩ c2).setCell ⟨g,3,none⟩ c3).setCell ⟨g,4,none⟩ c4).setCell ⟨g,5,none⟩ c5).setCell ⟨g,6,none⟩ c6).setCell ⟨g,7,none⟩ c7).setCell ⟨g,8,none⟩ c8).heap[g]? = some (.cells #[c0,c1,c2,c3,c4,c5,c6,c7,c8,d9,d10] T (0,0)):=blk_set b7 8 _
 have b9:((((((((((w.setCell ⟨g,0,none⟩ c0).setCell ⟨g,1,none⟩ c1).setCell ⟨g,2,none⟩ c2).setCell ⟨g,3,none⟩ c3).setCell ⟨g,4,none⟩ c4).setCell ⟨g,5,none⟩ c5).setCell ⟨g,6,none⟩ c6).setCell ⟨g,7,none⟩ c7).setCell ⟨g,8,none⟩ c8).setCell ⟨g,9,none⟩ c9).heap[g]? = some (.cells #[c0,c1,c2,c3,c4,c5,c6,c7,c8,c9,d10] T (0,0)):=blk_set b8 9 _
 have b10:(((((((((((w.setCell ⟨g,0,none⟩ c0).setCell ⟨g,1,none⟩ c1).setCell ⟨g,2,none⟩ c2).setCell ⟨g,3,none⟩ c3).setCell ⟨g,4,none⟩ c4).setCell ⟨g,5,none⟩ c5).setCell ⟨g,6,none⟩ c6).setCell ⟨g,7,none⟩ c7).setCell ⟨g,8,none⟩ c8).setCell ⟨g,9,none⟩ c9).setCell ⟨g,10,none⟩ c10).heap[g]? = some (.cells #[c0,c1,c2,c3,c4,c5,c6,c7,c8,c9,c10] T (0,0)):=blk_set b9 10 _
 exact b10
theorem set11_aside (w:World) (g:Nat) (c0 c1 c2 c3 c4 c5 c6 c7 c8 c9 c10:Value):Aside (fun i => i = g) w (set11 w g c0 c1 c2 c3 c4 c5 c6 c7 c8 c9 c10):=(((((((((((aside_set w g 0 _).trans (aside_set _ g 1 _) (fun _ _ h => h)).trans (aside_set _ g 2 _) (fun _ _ h => h)).trans (aside_set _ g 3 _) (fun _ _ h => h)).trans (aside_set _ g 4 _) (fun _ _ h => h)).trans (aside_set _ g 5 _) (fun _ _ h => h)).trans (aside_set _ g 6 _) (fun _ _ h => h)).trans (aside_set _ g 7 _) (fun _ _ h => h)).trans (aside_set _ g 8 _) (fun _ _ h => h)).trans (aside_set _ g 9 _) (fun _ _ h => h)).trans (aside_set _ g 10 _) (fun _ _ h => h))
structure DecIn12 (w W:World) (y:Int):Prop where
 b0:W.heap[w.heap.size]? = some (.cells #[.int .i64 0,.int .i64 0,.slice none 0 0,.int .i64 0,.int .i64 0,.int .i64 0,.slice none 0 0,.int .i64 0,.int .i64 0,.int .i64 0,.slice none 0 0] 30 (0,0))
 b1:W.heap[w.heap.size + 1]? = some (.cells #[.int .i64 y] 31 (0,0))
 size:w.heap.size + 2 ≤ W.heap.size
 below:Below w.heap.size w W
theorem decIn12_start (w:World):DecIn12 w ((w.alloc (.cells #[.int .i64 0,.int .i64 0,.slice none 0 0,.int .i64 0,.int .i64 0,.int .i64 0,.slice none 0 0,.int .i64 0,.int .i64 0,.int .i64 0,.slice none 0 0] 30)).alloc (.cells #[.int .i64 0] 31)) 0 :=
 ⟨blk_first w _ _,blk_second w _ _,by simp,((Below.refl _ _).alloc (Nat.le_refl _) _).alloc (by simp) _⟩
theorem DecIn12.on {w W W':World} {y:Int} (h:DecIn12 w W y) (hb:Below W.heap.size W W'):DecIn12 w W' y:=by
 have hs:=h.size
 exact ⟨(hb.block _ (by omega)).trans h.b0,(hb.block _ (by omega)).trans h.b1,Nat.le_trans hs hb.size,h.below.trans (hb.mono (by omega))⟩
theorem DecIn12.step {w W W':World} {y:Int} {R:Nat} (h:DecIn12 w W y) (ha:Aside (fun i => i = R) W W') (hR:w.heap.size + 2 ≤ R):DecIn12 w W' y:=by
 have hs:=h.size
 exact ⟨(ha.block _ (by omega) (by omega)).trans h.b0,(ha.block _ (by omega) (by omega)).trans h.b1,Nat.le_trans hs ha.size,h.below.trans (ha.below (by omega) (fun k hk => by omega))⟩
theorem DecIn12.setE {w W:World} {y:Int} (h:DecIn12 w W y) (y':Int):DecIn12 w (W.setCell ⟨w.heap.size + 1,0,none⟩ (.int .i64 y')) y':=by
 have hs:=h.size
 have ha:Aside (fun i => i = w.heap.size + 1) W (W.setCell ⟨w.heap.size + 1,0,none⟩ (.int .i64 y')):=aside_set _ _ _ _
 exact ⟨(ha.block _ (by omega) (by omega)).trans h.b0,blk_set h.b1 0 _,Nat.le_trans hs ha.size,h.below.trans (ha.below (by omega) (fun k hk => by omega))⟩
theorem DecIn12.drew {w W:World} {y:Int} (h:DecIn12 w W y):DecIn12 w W.drew y:=⟨h.b0,h.b1,h.size,h.below.drew⟩
theorem run_assert12 (k:Int) (w:World):(Instr.typeAssert (.iface 31 (.int .i64 k)) 20 31 false).run Tryz.prog w = .ok (.int .i64 k) w:=by kernel_rfl
theorem catch12_panicking (G E:Nat) (k:Int) (y:Int) (w:World) (hG:w.heap[G]? = some (.cells #[.int .i64 0,.int .i64 0,.slice none 0 0,.int .i64 0,.int .i64 0,.int .i64 0,.slice none 0 0,.int .i64 0,.int .i64 0,.int .i64 0,.slice none 0 0] 30 (0,0))) (hE:w.heap[E]? = some (.cells #[.int .i64 y] 31 (0,0))) (hne:G ≠ E) :
  CallsD Tryz.prog 26 #[.pointer (some ⟨G,0,none⟩),.pointer (some ⟨E,0,none⟩)] (.panicking [{ v:=.iface 31 (.int .i64 k),recovered:=false }]) w fun e u' w' =>
   e = .returned (.tuple #[]) ∧ u' = .panicking [{ v:=.iface 31 (.int .i64 k),recovered:=true }] ∧ w'.heap[G]? = some (.cells #[.int .i64 0,.int .i64 0,.slice none 0 0,.int .i64 0,.int .i64 0,.int .i64 0,.slice none 0 0,.int .i64 0,.int .i64 0,.int .i64 0,.slice none 0 0] 30 (0,0)) ∧ w'.heap[E]? = some (.cells #[.int .i64 k] 31 (0,0)) ∧ Aside (fun i => i = G ∨ i = E) w w':=by
 have hta:=run_assert12 k
 have x0:w.cell? ⟨G,0,none⟩ = some (.int .i64 0):=blk_cell hG 0
 have xf0:=blk_free hG 0
 have x1:w.cell? ⟨G,1,none⟩ = some (.int .i64 0):=blk_cell hG 1
 have xf1:=blk_free hG 1
 have x2:w.cell? ⟨G,2,none⟩ = some (.slice none 0 0):=blk_cell hG 2
 have xf2:=blk_free hG 2
 have x3:w.cell? ⟨G,3,none⟩ = some (.int .i64 0):=blk_cell hG 3
 have xf3:=blk_free hG 3
 have x4:w.cell? ⟨G,4,none⟩ = some (.int .i64 0):=blk_cell hG 4
 have xf4:=blk_free hG 4
 have x5:w.cell? ⟨G,5,none⟩ = some (.int .i64 0):=blk_cell hG 5
 have xf5:=blk_free hG 5
 have x6:w.cell? ⟨G,6,none⟩ = some (.slice none 0 0):=blk_cell hG 6
 have xf6:=blk_free hG 6
 have x7:w.cell? ⟨G,7,none⟩ = some (.int .i64 0):=blk_cell hG 7
 have xf7:=blk_free hG 7
 have x8:w.cell? ⟨G,8,none⟩ = some (.int .i64 0):=blk_cell hG 8
 have xf8:=blk_free hG 8
 have x9:w.cell? ⟨G,9,none⟩ = some (.int .i64 0):=blk_cell hG 9
 have xf9:=blk_free hG 9
 have x10:w.cell? ⟨G,10,none⟩ = some (.slice none 0 0):=blk_cell hG 10
 have xf10:=blk_free hG 10
 have y0:w.cell? ⟨E,0,none⟩ = some (.int .i64 y):=blk_cell hE 0
 have yf0:=blk_free hE 0
 have hne2:E ≠ G:=fun h => hne h.symm
 obtain ⟨W,hW⟩:∃ W,W = ((((((((((((w.setCell ⟨G,0,none⟩ (.int .i64 0)).setCell ⟨G,1,none⟩ (.int .i64 0)).setCell ⟨G,2,none⟩ (.slice none 0 0)).setCell ⟨G,3,none⟩ (.int .i64 0)).setCell ⟨G,4,none⟩ (.int .i64 0)).setCell ⟨G,5,none⟩ (.int .i64 0)).setCell ⟨G,6,none⟩ (.slice none 0 0)).setCell ⟨G,7,none⟩ (.int .i64 0)).setCell ⟨G,8,none⟩ (.int .i64 0)).setCell ⟨G,9,none⟩ (.int .i64 0)).setCell ⟨G,10,none⟩ (.slice none 0 0)).setCell ⟨E,0,none⟩ (.int .i64 k)).drew:=⟨_,rfl⟩
 have hA1:Aside (fun i => i = G) w (((((((((((w.setCell ⟨G,0,none⟩ (.int .i64 0)).setCell ⟨G,1,none⟩ (.int .i64 0)).setCell ⟨G,2,none⟩ (.slice none 0 0)).setCell ⟨G,3,none⟩ (.int .i64 0)).setCell ⟨G,4,none⟩ (.int .i64 0)).setCell ⟨G,5,none⟩ (.int .i64 0)).setCell ⟨G,6,none⟩ (.slice none 0 0)).setCell ⟨G,7,none⟩ (.int .i64 0)).setCell ⟨G,8,none⟩ (.int .i64 0)).setCell ⟨G,9,none⟩ (.int .i64 0)).setCell ⟨G,10,none⟩ (.slice none 0 0)):=set11_aside w G (.int .i64 0) (.int .i64 0) (.slice none 0 0) (.int .i64 0) (.int .i64 0) (.int .i64 0) (.slice none 0 0) (.int .i64 0) (.int .i64 0) (.int .i64 0) (.slice none 0 0)
 have hG1:(((((((((((w.setCell ⟨G,0,none⟩ (.int .i64 0)).setCell ⟨G,1,none⟩ (.int .i64 0)).setCell ⟨G,2,none⟩ (.slice none 0 0)).setCell ⟨G,3,none⟩ (.int .i64 0)).setCell ⟨G,4,none⟩ (.int .i64 0)).setCell ⟨G,5,none⟩ (.int .i64 0)).setCell ⟨G,6,none⟩ (.slice none 0 0)).setCell ⟨G,7,none⟩ (.int .i64 0)).setCell ⟨G,8,none⟩ (.int .i64 0)).setCell ⟨G,9,none⟩ (.int .i64 0)).setCell ⟨G,10,none⟩ (.slice none 0 0)).heap[G]? = some (.cells #[.int .i64 0,.int .i64 0,.slice none 0 0,.int .i64 0,.int .i64 0,.int .i64 0,.slice none 0 0,.int .i64 0,.int .i64 0,.int .i64 0,.slice none 0 0] 30 (0,0)):=set11_block hG (.int .i64 0) (.int .i64 0) (.slice none 0 0) (.int .i64 0) (.int .i64 0) (.int .i64 0) (.slice none 0 0) (.int .i64 0) (.int .i64 0) (.int .i64 0) (.slice none 0 0)
 have hE1:(((((((((((w.setCell ⟨G,0,none⟩ (.int .i64 0)).setCell ⟨G,1,none⟩ (.int .i64 0)).setCell ⟨G,2,none⟩ (.slice none 0 0)).setCell ⟨G,3,none⟩ (.int .i64 0)).setCell ⟨G,4,none⟩ (.int .i64 0)).setCell ⟨G,5,none⟩ (.int .i64 0)).setCell ⟨G,6,none⟩ (.slice none 0 0)).setCell ⟨G,7,none⟩ (.int .i64 0)).setCell ⟨G,8,none⟩ (.int .i64 0)).setCell ⟨G,9,none⟩ (.int .i64 0)).setCell ⟨G,10,none⟩ (.slice none 0 0)).heap[E]? = some (.cells #[.int .i64 y] 31 (0,0)):=(hA1.block E (blk_lt hE) hne2).trans hE
 have HF1:Hid (W.heap[G]? = some (.cells #[.int .i64 0,.int .i64 0,.slice none 0 0,.int .i64 0,.int .i64 0,.int .i64 0,.slice none 0 0,.int .i64 0,.int .i64 0,.int .i64 0,.slice none 0 0] 30 (0,0))):=by
  show _ = _
  rw [hW,heap_drew12]
  exact ((aside_set (((((((((((w.setCell ⟨G,0,none⟩ (.int .i64 0)).setCell ⟨G,1,none⟩ (.int .i64 0)).setCell ⟨G,2,none⟩ (.slice none 0 0)).setCell ⟨G,3,none⟩ (.int .i64 0)).setCell ⟨G,4,none⟩ (.int .i64 0)).setCell ⟨G,5,none⟩ (.int .i64 0)).setCell ⟨G,6,none⟩ (.slice none 0 0)).setCell ⟨G,7,none⟩ (.int .i64 0)).setCell ⟨G,8,none⟩ (.int .i64 0)).setCell ⟨G,9,none⟩ (.int .i64 0)).setCell ⟨G,10,none⟩ (.slice none 0 0)) E 0 (.int .i64 k)).block G (blk_lt hG1) hne).trans hG1
 have HF2:Hid (W.heap[E]? = some (.cells #[.int .i64 k] 31 (0,0))):=by
  show _ = _
  rw [hW,heap_drew12]
  exact blk_set hE1 0 _
 have HF3:Hid (Aside (fun i => i = G ∨ i = E) w W):=by
  rw [hW]
  exact ((hA1.mono (fun _ _ h => .inl h)).trans (aside_set _ E 0 _) (fun _ _ h => .inr h)).drew
 have HW:Hid (((((((((((((w.setCell ⟨G,0,none⟩ (.int .i64 0)).setCell ⟨G,1,none⟩ (.int .i64 0)).setCell ⟨G,2,none⟩ (.slice none 0 0)).setCell ⟨G,3,none⟩ (.int .i64 0)).setCell ⟨G,4,none⟩ (.int .i64 0)).setCell ⟨G,5,none⟩ (.int .i64 0)).setCell ⟨G,6,none⟩ (.slice none 0 0)).setCell ⟨G,7,none⟩ (.int .i64 0)).setCell ⟨G,8,none⟩ (.int .i64 0)).setCell ⟨G,9,none⟩ (.int .i64 0)).setCell ⟨G,10,none⟩ (.slice none 0 0)).setCell ⟨E,0,none⟩ (.int .i64 k)).drew = W):=by rw [hW];exact rfl
 clear hG hE hW hA1 hG1 hE1
 refine callsD_of_wpS Tryz.func26 rfl fun c₀ cs hu => ?_
 apply wpS_seq
 apply wpS_region
 simp [wpOpsS,go_sem,recoverD,hu,Tryz.ntmps26,Exit.thenS]
 refine wpS_of_wp ?_
 go_wp2_with fail
 go_region_law (fail)
 all_goals
  show bodyPostS Tryz.prog Tryz.f26 c₀ cs _ Exit.normal _ _ _
  rw [HW.out]
  simp [bodyPostS,results,Tryz.results26]
  exact ⟨HF1.out,HF2.out,HF3.out⟩
theorem catch12_idle (p q:Addr) (w:World) :
  CallsD Tryz.prog 26 #[.pointer (some p),.pointer (some q)] .returning w fun e u' w' => e = .returned (.tuple #[]) ∧ u' = .returning ∧ w' = w:=by
 refine callsD_of_wpS Tryz.func26 rfl fun c₀ cs hu => ?_
 apply wpS_seq
 apply wpS_region
 simp [wpOpsS,go_sem,recoverD,hu,Tryz.ntmps26,Exit.thenS]
 refine wpS_of_wp ?_
 go_wp2_with fail
 cases c₀
 simp_all [bodyPostS,results,Tryz.results26]
end Go.Proofs.YtfcblnknoljkhaaGreatDoor

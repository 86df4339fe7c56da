import Derived.Test.YtfcblnknoljkhaaGreatDoorK12F
set_option maxRecDepth 100000
set_option maxHeartbeats 4000000
namespace Go.Proofs.YtfcblnknoljkhaaGreatDoor
open Go.RowKit
def encErr (f:Fr):Nat:=if f.kind = 1 then schErr f.number f.cols else if f.kind = 2 then datErr f.number f.seq f.first f.rows f.block else Fr.idxErr f.index
theorem nums_len (l:List Int):(Fr.nums l).length ≤ 10 * l.length:=by
 induction l with
 | nil => simp [Fr.nums_nil]
 | cons n l ih =>
  rw [Fr.nums_cons,List.length_append,List.length_cons]
  have:=Leb.put_length_le n.toNat
  omega
theorem entB_len (es:List Ent):(es.map Fr.entB).flatten.length ≤ es.length * 30:=Sch.flatten_le Fr.entB 30 es (fun e _ => nums_len [e.at_,e.row,e.sch])
theorem run_ge_block {f:Fr} (hk:f.kind = 2):f.block.length < (Fr.run f).length:=by
 have h1:=(Cob.stuff_length (Fr.check (Fr.head f))).1
 have h2:f.block.length ≤ (Fr.head f).length:=by
  unfold Fr.head Fr.fields
  rw [if_neg (by omega),if_pos hk,List.length_cons,List.length_append]
  omega
 rw [Fr.check_length] at h1
 unfold Fr.run
 omega
theorem enc_bad {f:Fr} (hk:f.kind = 1 ∨ f.kind = 2 ∨ f.kind = 3) (h:encErr f ≠ 0):Fr.err f = encErr f:=by
 rcases hk with hk | hk | hk
 ·have e:Fr.err0 f = schErr f.number f.cols:=by unfold Fr.err0;rw [if_pos hk];rfl
  have e2:encErr f = schErr f.number f.cols:=by unfold encErr;rw [if_pos hk]
  rw [e2] at h ⊢
  unfold Fr.err
  rw [e,if_pos h]
 ·have e:Fr.err0 f = if (Fr.within Fr.N f.number && Fr.within Fr.S f.seq && Fr.within Fr.S f.first && decide (1 ≤ f.rows ∧ f.rows ≤ 64)) = false then 7 else 0:=by unfold Fr.err0;rw [if_neg (by omega),if_pos hk]
  have e2:encErr f = datErr f.number f.seq f.first f.rows f.block:=by unfold encErr;rw [if_neg (by omega),if_pos hk]
  rw [e2] at h ⊢
  unfold Fr.err
  unfold datErr at h ⊢
  by_cases h7:(Fr.within Fr.N f.number && Fr.within Fr.S f.seq && Fr.within Fr.S f.first && decide (1 ≤ f.rows ∧ f.rows ≤ 64)) = false
  ·rw [e,if_pos h7,if_pos h7,if_pos (by omega)]
  ·rw [if_neg h7] at h ⊢
   by_cases h2:2200 < f.block.length
   ·have:=run_ge_block hk
    rw [e,if_neg h7,if_neg (by omega),if_pos h2,if_pos (by omega)]
   ·rw [if_neg h2] at h
    omega
 ·have e:Fr.err0 f = Fr.idxErr f.index:=by unfold Fr.err0;rw [if_neg (by omega),if_neg (by omega),if_pos hk]
  have e2:encErr f = Fr.idxErr f.index:=by unfold encErr;rw [if_neg (by omega),if_neg (by omega)]
  rw [e2] at h ⊢
  unfold Fr.err
  rw [e,if_pos h]
theorem enc_ok {f:Fr} (hk:f.kind = 1 ∨ f.kind = 2 ∨ f.kind = 3) (h:encErr f = 0):Fr.err f = (if 2200 < (Fr.run f).length then 2 else 0) ∧ (Fr.fields f).length ≤ 5000:=by
 unfold encErr at h
 unfold Fr.err
 rcases hk with hk | hk | hk
 ·have e:Fr.err0 f = schErr f.number f.cols:=by unfold Fr.err0;rw [if_pos hk];rfl
  rw [if_pos hk] at h
  refine ⟨by rw [e,if_neg (by omega)],?_⟩
  unfold schErr at h
  split at h
  ·omega
  ·have h1:=(Sch.err_open h).2.2.2
   have h2:=nums_len [f.number]
   unfold Fr.fields
   rw [if_pos hk,List.length_append]
   simp at h2
   omega
 ·rw [if_neg (by omega),if_pos hk] at h
  have e:Fr.err0 f = if (Fr.within Fr.N f.number && Fr.within Fr.S f.seq && Fr.within Fr.S f.first && decide (1 ≤ f.rows ∧ f.rows ≤ 64)) = false then 7 else 0:=by unfold Fr.err0;rw [if_neg (by omega),if_pos hk]
  unfold datErr at h
  by_cases h7:(Fr.within Fr.N f.number && Fr.within Fr.S f.seq && Fr.within Fr.S f.first && decide (1 ≤ f.rows ∧ f.rows ≤ 64)) = false
  ·rw [if_pos h7] at h;omega
  ·rw [if_neg h7] at h
   by_cases h2:2200 < f.block.length
   ·rw [if_pos h2] at h;omega
   ·refine ⟨by rw [e,if_neg h7,if_neg (by omega)],?_⟩
    have h3:=nums_len [f.number,f.seq,f.first,f.rows]
    unfold Fr.fields
    rw [if_neg (by omega),if_pos hk,List.length_append]
    simp at h3
    omega
 ·have e:Fr.err0 f = Fr.idxErr f.index:=by unfold Fr.err0;rw [if_neg (by omega),if_neg (by omega),if_pos hk]
  rw [if_neg (by omega),if_neg (by omega)] at h
  refine ⟨by rw [e,if_neg (by omega)],?_⟩
  have h64:f.index.entries.length ≤ 64:=by
   unfold Fr.idxErr at h
   split at h
   ·omega
   ·split at h
    ·omega
    ·omega
  have h3:=nums_len [f.index.at_,f.index.frames,f.index.rows,(f.index.entries.length:Int)]
  have h4:=entB_len f.index.entries
  unfold Fr.fields
  rw [if_neg (by omega),if_neg (by omega),List.length_append]
  simp at h3
  omega
theorem has_at {w:World} {B:Nat} {p:Option Addr} {n c:Nat} {l:List UInt8} (h:Has w B (.slice p n c) l):At w p l ∧ l.length ≤ c:=by
 obtain ⟨p',c',he,ha,hc⟩:=h.at
 injection he with e1 e2 e3
 subst e1 e3
 exact ⟨ha,hc⟩
theorem encodeF_1 (f:Fr) (hk:f.kind = 1) (hw:f.wf) (u:Array Value) (w:World) (hv:Hv w) (h:FLies w u f) :
    Calls Tryz.prog 4 #[.agg u] w (EncF w (Fr.err f) (0 :: (Fr.run f ++ [0]))):=by
  obtain ⟨sp,sc,bp,bc,ep,ec,rfl,h1,h2,h3,h4,h5,h6,h7,h8,h9⟩:=h.out
  unfold cells11
  obtain ⟨er,her⟩:∃ er,er = Fr.err f:=⟨_,rfl⟩
  obtain ⟨rn,hrn⟩:∃ rn,rn = Fr.run f:=⟨_,rfl⟩
  rw [← her,← hrn]
  have HEr:=Lib.hid her
  have HRn:=Lib.hid hrn
  have HKd:=Lib.hid hk
  have HWf:=Lib.hid hw
  have HCo:=Lib.hid h3
  have HAt:=Lib.hid h6
  have HEn:=Lib.hid h9
  have HHv:=Lib.hid hv
  have HFe:Hid (encErr f = schErr f.number f.cols):=by show _ = _;unfold encErr;rw [if_pos hk]
  have HFf:Hid (Fr.head f = 1 :: (Fr.nums [f.number] ++ Sch.bytes f.cols)):=by
    show _ = _
    unfold Fr.head Fr.fields
    rw [if_pos hk]
    rw [hk]
    rfl
  rw [hk]
  obtain ⟨w0,hw0⟩:∃ w0,w0 = w.alloc (.cells #[.int .i64 1,.int .i64 f.number,.slice sp f.cols.length sc,.int .i64 f.seq,.int .i64 f.first,.int .i64 f.rows,.slice bp f.block.length bc,.int .i64 f.index.at_,.int .i64 f.index.frames,.int .i64 f.index.rows,.slice ep f.index.entries.length ec] 30):=⟨_,rfl⟩
  have hz0:w0.heap.size = w.heap.size + 1:=by rw [hw0];simp
  have HB0:Hid (Below w.heap.size w w0):=by rw [hw0];exact (Below.refl _ _).alloc (Nat.le_refl _) _
  have c0:w0.cell? ⟨w.heap.size,0,none⟩ = some (.int .i64 1):=by rw [hw0];simp
  have HW:Hid (w.alloc (.cells #[.int .i64 1,.int .i64 f.number,.slice sp f.cols.length sc,.int .i64 f.seq,.int .i64 f.first,.int .i64 f.rows,.slice bp f.block.length bc,.int .i64 f.index.at_,.int .i64 f.index.frames,.int .i64 f.index.rows,.slice ep f.index.entries.length ec] 30) = w0):=by rw [hw0];exact rfl
  have HF:=Lib.hid (fieldsOf_1 f.number sp f.cols.length sc f.seq f.first f.rows bp f.block.length bc f.index.at_ f.index.frames f.index.rows ep f.index.entries.length ec w0)
  clear her hrn hk hw h3 h6 h9 hv h hw0
  go_enter Tryz.func4,Tryz.ntmps4
  go_wp2_with fail
  rw [HW.out]
  refine HF.out.mono ?_
  rintro e w1 ⟨rfl,hb⟩
  have HB1:=Lib.hid (HB0.out.trans (hb.mono (by omega)))
  have c1:=cell_on hb c0
  have hs1:=hb.size
  clear hb HF HW c0
  have HE:=Lib.hid (schemaEncK f.number HWf.out.2.1 f.cols sp sc w1 h1 (HCo.out.on HB1.out) HWf.out.2.2.1)
  obtain ⟨e0,he0⟩:∃ e0,e0 = schErr f.number f.cols:=⟨_,rfl⟩
  obtain ⟨l0,hl0⟩:∃ l0,l0 = (Fr.nums [f.number] ++ Sch.bytes f.cols):=⟨_,rfl⟩
  rw [← he0,← hl0] at HE
  rw [← he0] at HFe
  rw [← hl0] at HFf
  clear he0 hl0
  go_wp2_with fail
  refine HE.out.mono ?_
  rintro e w2 (⟨hz,q,cap,rfl,hh,hb⟩ | ⟨hz,rfl,hb⟩)
  · have HB2:=Lib.hid (HB1.out.trans (hb.mono (by omega)))
    have c2:=cell_on hb c1
    have hs2:=HB2.out.size
    have HA2:=Lib.hid (has_at hh).1
    have hok:=enc_ok (f:=f) (by have:=HKd.out;omega) (HFe.out.trans hz)
    have hl5:l0.length ≤ 5000:=by
      have h1:(Fr.head f).length = l0.length + 1:=by rw [HFf.out];rfl
      have h2:(Fr.head f).length = (Fr.fields f).length + 1:=rfl
      have:=hok.2
      omega
    have HOk:=Lib.hid hok.1
    have HL:Hid (Has (w2.alloc (.cells #[.int .u8 1] 5)) w2.heap.size (.slice (some ⟨w2.heap.size,0,none⟩) 1 1) [1]):=has_lit (B:=w2.heap.size) [1] rfl (Nat.le_refl _) (by decide)
    have HBl:Hid (Below w2.heap.size w2 (w2.alloc (.cells #[.int .u8 1] 5))):=(Below.refl _ _).alloc (Nat.le_refl _) _
    have HA3:=Lib.hid (HA2.out.on HBl.out)
    clear hh hb HE hz hok HFe c1 hs1
    go_wp2_with (first
      | (at_builtin
         refine wp_ontoL (xs:=[1]) HL.out HA3.out (by simp;omega) (by simp) rfl rfl rfl rfl rfl ?_
         intro ys q3 cap3 W HY hh ha hk2
         have HB4:=Lib.hid (HBl.out.trans (aside_low ha HL.out (by simp)))
         have HYs:=Lib.hid hh
         clear ha hk2 hh)
      | fail)
    have hyh:ys = Fr.head f:=by rw [HY.out,HFf.out];rfl
    have hyl:ys.length ≤ 5001:=by rw [hyh,HFf.out,List.length_cons];omega
    have HRy:Hid (rn = Cob.stuff (Fr.check ys)):=by show _ = _;rw [HRn.out,hyh];rfl
    have hs4:=HB4.out.size
    have c4:=cell_on HB4.out c2
    refine (sealK w2.heap.size q3 cap3 ys (by omega) W (HHv.out.next (HB2.out.trans (HB4.out.mono hs2))) HYs.out hs4).mono ?_
    rintro e w5 ⟨g5,o5,cap5,rfl,hF,hg5,hc5,hb⟩
    rw [← HRy.out] at hF hc5 ⊢
    have HB5:=Lib.hid ((HB2.out.trans (HB4.out.mono hs2)).trans (hb.mono hs2))
    have hs5:=HB5.out.size
    have HFr:=Lib.hid hF
    have HR2:Hid (er = if 2200 < rn.length then 2 else 0):=by show _ = _;rw [HEr.out,HOk.out,HRn.out]
    clear hyh hF hb c2 c4 HYs HOk HA2 HA3 HL HBl HB4
    by_cases h22:2200 < rn.length
    · have g2:(2200:Int) < (rn.length:Int):=by omega
      have HR3:Hid (er = 2):=HR2.out.trans (if_pos h22)
      clear HR2 h22
      go_wp2
      go_ret2
      rw [HR3.out]
      exact encF_bad (by omega) HB5.out
    · have g2:¬ (2200:Int) < (rn.length:Int):=by omega
      have HR3:Hid (er = 0):=HR2.out.trans (if_neg h22)
      clear HR2
      have HL6:Hid (Has (w5.alloc (.cells #[.int .u8 0] 5)) w5.heap.size (.slice (some ⟨w5.heap.size,0,none⟩) 1 1) [0]):=has_lit (B:=w5.heap.size) [0] rfl (Nat.le_refl _) (by decide)
      have HBl6:Hid (Below w5.heap.size w5 (w5.alloc (.cells #[.int .u8 0] 5))):=(Below.refl _ _).alloc (Nat.le_refl _) _
      have HA6:=Lib.hid (HFr.out.at.on HBl6.out)
      go_wp2_with (first
        | (at_builtin
           refine wp_ontoL (xs:=[0]) HL6.out HA6.out (by simp;omega) (by simp) rfl rfl rfl rfl rfl ?_
           intro zs q7 cap7 W7 HZ hh ha hk2
           have HB7:=Lib.hid (HBl6.out.trans (aside_low ha HL6.out (by simp)))
           have HZs:=Lib.hid hh
           have hs7:=HB7.out.size
           have hzl:zs.length ≤ 2300:=by rw [HZ.out,List.length_append,List.length_singleton];omega
           clear ha hk2 hh)
        | (at_builtin
           refine wp_push HZs.out 0 (by omega) hs7 rfl rfl rfl rfl rfl rfl ?_
           intro g8 cap8 W8 hm hb8
           have HM8:=Lib.hid hm
           have HB8:=Lib.hid hb8
           clear hm hb8)
        | fail)
      go_ret2
      have ez:0 :: (rn ++ [0]) = zs ++ [0]:=by rw [HZ.out];rfl
      have el:(zs ++ [0]).length = zs.length + 1:=by simp
      rw [ez]
      refine .inl ⟨HR3.out,some ⟨g8,0,none⟩,cap8,by rw [el];rfl,(Mine.has HM8.out).lower hs5,HB5.out.trans ((HB7.out.trans HB8.out).mono hs5)⟩
  · have HB2:=Lib.hid (HB1.out.trans (hb.mono (by omega)))
    have hbad:=enc_bad (f:=f) (by have:=HKd.out;omega) (by rw [HFe.out];exact hz)
    have HR2:Hid (er = e0):=by show _ = _;rw [HEr.out,hbad,HFe.out]
    have g2:((e0:Int) != 0) = true:=by rw [bne_iff_ne];omega
    have HNz:=Lib.hid hz
    clear hb hbad HE HFe hz
    go_wp2
    go_ret2
    rw [HR2.out]
    exact encF_bad HNz.out HB2.out
theorem encodeF_2 (f:Fr) (hk:f.kind = 2) (hw:f.wf) (u:Array Value) (w:World) (hv:Hv w) (h:FLies w u f) :
    Calls Tryz.prog 4 #[.agg u] w (EncF w (Fr.err f) (0 :: (Fr.run f ++ [0]))):=by
  obtain ⟨sp,sc,bp,bc,ep,ec,rfl,h1,h2,h3,h4,h5,h6,h7,h8,h9⟩:=h.out
  unfold cells11
  obtain ⟨er,her⟩:∃ er,er = Fr.err f:=⟨_,rfl⟩
  obtain ⟨rn,hrn⟩:∃ rn,rn = Fr.run f:=⟨_,rfl⟩
  rw [← her,← hrn]
  have HEr:=Lib.hid her
  have HRn:=Lib.hid hrn
  have HKd:=Lib.hid hk
  have HWf:=Lib.hid hw
  have HCo:=Lib.hid h3
  have HAt:=Lib.hid h6
  have HEn:=Lib.hid h9
  have HHv:=Lib.hid hv
  have HFe:Hid (encErr f = datErr f.number f.seq f.first f.rows f.block):=by show _ = _;unfold encErr;rw [if_neg (by omega),if_pos hk]
  have HFf:Hid (Fr.head f = 2 :: (Fr.nums [f.number,f.seq,f.first,f.rows] ++ f.block)):=by
    show _ = _
    unfold Fr.head Fr.fields
    rw [if_neg (by omega),if_pos hk]
    rw [hk]
    rfl
  rw [hk]
  obtain ⟨w0,hw0⟩:∃ w0,w0 = w.alloc (.cells #[.int .i64 2,.int .i64 f.number,.slice sp f.cols.length sc,.int .i64 f.seq,.int .i64 f.first,.int .i64 f.rows,.slice bp f.block.length bc,.int .i64 f.index.at_,.int .i64 f.index.frames,.int .i64 f.index.rows,.slice ep f.index.entries.length ec] 30):=⟨_,rfl⟩
  have hz0:w0.heap.size = w.heap.size + 1:=by rw [hw0];simp
  have HB0:Hid (Below w.heap.size w w0):=by rw [hw0];exact (Below.refl _ _).alloc (Nat.le_refl _) _
  have c0:w0.cell? ⟨w.heap.size,0,none⟩ = some (.int .i64 2):=by rw [hw0];simp
  have HW:Hid (w.alloc (.cells #[.int .i64 2,.int .i64 f.number,.slice sp f.cols.length sc,.int .i64 f.seq,.int .i64 f.first,.int .i64 f.rows,.slice bp f.block.length bc,.int .i64 f.index.at_,.int .i64 f.index.frames,.int .i64 f.index.rows,.slice ep f.index.entries.length ec] 30) = w0):=by rw [hw0];exact rfl
  have HF:=Lib.hid (fieldsOf_2 f.number sp f.cols.length sc f.seq f.first f.rows bp f.block.length bc f.index.at_ f.index.frames f.index.rows ep f.index.entries.length ec w0)
  clear her hrn hk hw h3 h6 h9 hv h hw0
  go_enter Tryz.func4,Tryz.ntmps4
  go_wp2_with fail
  rw [HW.out]
  refine HF.out.mono ?_
  rintro e w1 ⟨rfl,hb⟩
  have HB1:=Lib.hid (HB0.out.trans (hb.mono (by omega)))
  have c1:=cell_on hb c0
  have hs1:=hb.size
  clear hb HF HW c0
  have HE:=Lib.hid (dataEncK f.number f.seq f.first f.rows HWf.out.2.1 HWf.out.2.2.2.1 HWf.out.2.2.2.2.1 HWf.out.2.2.2.2.2.1 f.block bp bc w1 h4 (HAt.out.on HB1.out))
  obtain ⟨e0,he0⟩:∃ e0,e0 = datErr f.number f.seq f.first f.rows f.block:=⟨_,rfl⟩
  obtain ⟨l0,hl0⟩:∃ l0,l0 = (Fr.nums [f.number,f.seq,f.first,f.rows] ++ f.block):=⟨_,rfl⟩
  rw [← he0,← hl0] at HE
  rw [← he0] at HFe
  rw [← hl0] at HFf
  clear he0 hl0
  go_wp2_with fail
  refine HE.out.mono ?_
  rintro e w2 (⟨hz,q,cap,rfl,hh,hb⟩ | ⟨hz,rfl,hb⟩)
  · have HB2:=Lib.hid (HB1.out.trans (hb.mono (by omega)))
    have c2:=cell_on hb c1
    have hs2:=HB2.out.size
    have HA2:=Lib.hid (has_at hh).1
    have hok:=enc_ok (f:=f) (by have:=HKd.out;omega) (HFe.out.trans hz)
    have hl5:l0.length ≤ 5000:=by
      have h1:(Fr.head f).length = l0.length + 1:=by rw [HFf.out];rfl
      have h2:(Fr.head f).length = (Fr.fields f).length + 1:=rfl
      have:=hok.2
      omega
    have HOk:=Lib.hid hok.1
    have HL:Hid (Has (w2.alloc (.cells #[.int .u8 2] 5)) w2.heap.size (.slice (some ⟨w2.heap.size,0,none⟩) 1 1) [2]):=has_lit (B:=w2.heap.size) [2] rfl (Nat.le_refl _) (by decide)
    have HBl:Hid (Below w2.heap.size w2 (w2.alloc (.cells #[.int .u8 2] 5))):=(Below.refl _ _).alloc (Nat.le_refl _) _
    have HA3:=Lib.hid (HA2.out.on HBl.out)
    clear hh hb HE hz hok HFe c1 hs1
    go_wp2_with (first
      | (at_builtin
         refine wp_ontoL (xs:=[2]) HL.out HA3.out (by simp;omega) (by simp) rfl rfl rfl rfl rfl ?_
         intro ys q3 cap3 W HY hh ha hk2
         have HB4:=Lib.hid (HBl.out.trans (aside_low ha HL.out (by simp)))
         have HYs:=Lib.hid hh
         clear ha hk2 hh)
      | fail)
    have hyh:ys = Fr.head f:=by rw [HY.out,HFf.out];rfl
    have hyl:ys.length ≤ 5001:=by rw [hyh,HFf.out,List.length_cons];omega
    have HRy:Hid (rn = Cob.stuff (Fr.check ys)):=by show _ = _;rw [HRn.out,hyh];rfl
    have hs4:=HB4.out.size
    have c4:=cell_on HB4.out c2
    refine (sealK w2.heap.size q3 cap3 ys (by omega) W (HHv.out.next (HB2.out.trans (HB4.out.mono hs2))) HYs.out hs4).mono ?_
    rintro e w5 ⟨g5,o5,cap5,rfl,hF,hg5,hc5,hb⟩
    rw [← HRy.out] at hF hc5 ⊢
    have HB5:=Lib.hid ((HB2.out.trans (HB4.out.mono hs2)).trans (hb.mono hs2))
    have hs5:=HB5.out.size
    have HFr:=Lib.hid hF
    have HR2:Hid (er = if 2200 < rn.length then 2 else 0):=by show _ = _;rw [HEr.out,HOk.out,HRn.out]
    clear hyh hF hb c2 c4 HYs HOk HA2 HA3 HL HBl HB4
    by_cases h22:2200 < rn.length
    · have g2:(2200:Int) < (rn.length:Int):=by omega
      have HR3:Hid (er = 2):=HR2.out.trans (if_pos h22)
      clear HR2 h22
      go_wp2
      go_ret2
      rw [HR3.out]
      exact encF_bad (by omega) HB5.out
    · have g2:¬ (2200:Int) < (rn.length:Int):=by omega
      have HR3:Hid (er = 0):=HR2.out.trans (if_neg h22)
      clear HR2
      have HL6:Hid (Has (w5.alloc (.cells #[.int .u8 0] 5)) w5.heap.size (.slice (some ⟨w5.heap.size,0,none⟩) 1 1) [0]):=has_lit (B:=w5.heap.size) [0] rfl (Nat.le_refl _) (by decide)
      have HBl6:Hid (Below w5.heap.size w5 (w5.alloc (.cells #[.int .u8 0] 5))):=(Below.refl _ _).alloc (Nat.le_refl _) _
      have HA6:=Lib.hid (HFr.out.at.on HBl6.out)
      go_wp2_with (first
        | (at_builtin
           refine wp_ontoL (xs:=[0]) HL6.out HA6.out (by simp;omega) (by simp) rfl rfl rfl rfl rfl ?_
           intro zs q7 cap7 W7 HZ hh ha hk2
           have HB7:=Lib.hid (HBl6.out.trans (aside_low ha HL6.out (by simp)))
           have HZs:=Lib.hid hh
           have hs7:=HB7.out.size
           have hzl:zs.length ≤ 2300:=by rw [HZ.out,List.length_append,List.length_singleton];omega
           clear ha hk2 hh)
        | (at_builtin
           refine wp_push HZs.out 0 (by omega) hs7 rfl rfl rfl rfl rfl rfl ?_
           intro g8 cap8 W8 hm hb8
           have HM8:=Lib.hid hm
           have HB8:=Lib.hid hb8
           clear hm hb8)
        | fail)
      go_ret2
      have ez:0 :: (rn ++ [0]) = zs ++ [0]:=by rw [HZ.out];rfl
      have el:(zs ++ [0]).length = zs.length + 1:=by simp
      rw [ez]
      refine .inl ⟨HR3.out,some ⟨g8,0,none⟩,cap8,by rw [el];rfl,(Mine.has HM8.out).lower hs5,HB5.out.trans ((HB7.out.trans HB8.out).mono hs5)⟩
  · have HB2:=Lib.hid (HB1.out.trans (hb.mono (by omega)))
    have hbad:=enc_bad (f:=f) (by have:=HKd.out;omega) (by rw [HFe.out];exact hz)
    have HR2:Hid (er = e0):=by show _ = _;rw [HEr.out,hbad,HFe.out]
    have g2:((e0:Int) != 0) = true:=by rw [bne_iff_ne];omega
    have HNz:=Lib.hid hz
    clear hb hbad HE HFe hz
    go_wp2
    go_ret2
    rw [HR2.out]
    exact encF_bad HNz.out HB2.out
theorem encodeF_3 (f:Fr) (hk:f.kind = 3) (hw:f.wf) (u:Array Value) (w:World) (hv:Hv w) (h:FLies w u f) :
    Calls Tryz.prog 4 #[.agg u] w (EncF w (Fr.err f) (0 :: (Fr.run f ++ [0]))):=by
  obtain ⟨sp,sc,bp,bc,ep,ec,rfl,h1,h2,h3,h4,h5,h6,h7,h8,h9⟩:=h.out
  unfold cells11
  obtain ⟨er,her⟩:∃ er,er = Fr.err f:=⟨_,rfl⟩
  obtain ⟨rn,hrn⟩:∃ rn,rn = Fr.run f:=⟨_,rfl⟩
  rw [← her,← hrn]
  have HEr:=Lib.hid her
  have HRn:=Lib.hid hrn
  have HKd:=Lib.hid hk
  have HWf:=Lib.hid hw
  have HCo:=Lib.hid h3
  have HAt:=Lib.hid h6
  have HEn:=Lib.hid h9
  have HHv:=Lib.hid hv
  have HFe:Hid (encErr f = Fr.idxErr f.index):=by show _ = _;unfold encErr;rw [if_neg (by omega),if_neg (by omega)]
  have HFf:Hid (Fr.head f = 3 :: (Fr.nums [f.index.at_,f.index.frames,f.index.rows,(f.index.entries.length:Int)] ++ (f.index.entries.map Fr.entB).flatten)):=by
    show _ = _
    unfold Fr.head Fr.fields
    rw [if_neg (by omega),if_neg (by omega)]
    rw [hk]
    rfl
  rw [hk]
  obtain ⟨w0,hw0⟩:∃ w0,w0 = w.alloc (.cells #[.int .i64 3,.int .i64 f.number,.slice sp f.cols.length sc,.int .i64 f.seq,.int .i64 f.first,.int .i64 f.rows,.slice bp f.block.length bc,.int .i64 f.index.at_,.int .i64 f.index.frames,.int .i64 f.index.rows,.slice ep f.index.entries.length ec] 30):=⟨_,rfl⟩
  have hz0:w0.heap.size = w.heap.size + 1:=by rw [hw0];simp
  have HB0:Hid (Below w.heap.size w w0):=by rw [hw0];exact (Below.refl _ _).alloc (Nat.le_refl _) _
  have c0:w0.cell? ⟨w.heap.size,0,none⟩ = some (.int .i64 3):=by rw [hw0];simp
  have HW:Hid (w.alloc (.cells #[.int .i64 3,.int .i64 f.number,.slice sp f.cols.length sc,.int .i64 f.seq,.int .i64 f.first,.int .i64 f.rows,.slice bp f.block.length bc,.int .i64 f.index.at_,.int .i64 f.index.frames,.int .i64 f.index.rows,.slice ep f.index.entries.length ec] 30) = w0):=by rw [hw0];exact rfl
  have HF:=Lib.hid (fieldsOf_3 f.number sp f.cols.length sc f.seq f.first f.rows bp f.block.length bc f.index.at_ f.index.frames f.index.rows ep f.index.entries.length ec w0)
  clear her hrn hk hw h3 h6 h9 hv h hw0
  go_enter Tryz.func4,Tryz.ntmps4
  go_wp2_with fail
  rw [HW.out]
  refine HF.out.mono ?_
  rintro e w1 ⟨rfl,hb⟩
  have HB1:=Lib.hid (HB0.out.trans (hb.mono (by omega)))
  have c1:=cell_on hb c0
  have hs1:=hb.size
  clear hb HF HW c0
  have HE:=Lib.hid (indexEncK f.index HWf.out.2.2.2.2.2.2.1 HWf.out.2.2.2.2.2.2.2 ep ec w1 h7 (HEn.out.on HB1.out))
  obtain ⟨e0,he0⟩:∃ e0,e0 = Fr.idxErr f.index:=⟨_,rfl⟩
  obtain ⟨l0,hl0⟩:∃ l0,l0 = (Fr.nums [f.index.at_,f.index.frames,f.index.rows,(f.index.entries.length:Int)] ++ (f.index.entries.map Fr.entB).flatten):=⟨_,rfl⟩
  rw [← he0,← hl0] at HE
  rw [← he0] at HFe
  rw [← hl0] at HFf
  clear he0 hl0
  go_wp2_with fail
  refine HE.out.mono ?_
  rintro e w2 (⟨hz,q,cap,rfl,hh,hb⟩ | ⟨hz,rfl,hb⟩)
  · have HB2:=Lib.hid (HB1.out.trans (hb.mono (by omega)))
    have c2:=cell_on hb c1
    have hs2:=HB2.out.size
    have HA2:=Lib.hid (has_at hh).1
    have hok:=enc_ok (f:=f) (by have:=HKd.out;omega) (HFe.out.trans hz)
    have hl5:l0.length ≤ 5000:=by
      have h1:(Fr.head f).length = l0.length + 1:=by rw [HFf.out];rfl
      have h2:(Fr.head f).length = (Fr.fields f).length + 1:=rfl
      have:=hok.2
      omega
    have HOk:=Lib.hid hok.1
    have HL:Hid (Has (w2.alloc (.cells #[.int .u8 3] 5)) w2.heap.size (.slice (some ⟨w2.heap.size,0,none⟩) 1 1) [3]):=has_lit (B:=w2.heap.size) [3] rfl (Nat.le_refl _) (by decide)
    have HBl:Hid (Below w2.heap.size w2 (w2.alloc (.cells #[.int .u8 3] 5))):=(Below.refl _ _).alloc (Nat.le_refl _) _
    have HA3:=Lib.hid (HA2.out.on HBl.out)
    clear hh hb HE hz hok HFe c1 hs1
    go_wp2_with (first
      | (at_builtin
         refine wp_ontoL (xs:=[3]) HL.out HA3.out (by simp;omega) (by simp) rfl rfl rfl rfl rfl ?_
         intro ys q3 cap3 W HY hh ha hk2
         have HB4:=Lib.hid (HBl.out.trans (aside_low ha HL.out (by simp)))
         have HYs:=Lib.hid hh
         clear ha hk2 hh)
      | fail)
    have hyh:ys = Fr.head f:=by rw [HY.out,HFf.out];rfl
    have hyl:ys.length ≤ 5001:=by rw [hyh,HFf.out,List.length_cons];omega
    have HRy:Hid (rn = Cob.stuff (Fr.check ys)):=by show _ = _;rw [HRn.out,hyh];rfl
    have hs4:=HB4.out.size
    have c4:=cell_on HB4.out c2
    refine (sealK w2.heap.size q3 cap3 ys (by omega) W (HHv.out.next (HB2.out.trans (HB4.out.mono hs2))) HYs.out hs4).mono ?_
    rintro e w5 ⟨g5,o5,cap5,rfl,hF,hg5,hc5,hb⟩
    rw [← HRy.out] at hF hc5 ⊢
    have HB5:=Lib.hid ((HB2.out.trans (HB4.out.mono hs2)).trans (hb.mono hs2))
    have hs5:=HB5.out.size
    have HFr:=Lib.hid hF
    have HR2:Hid (er = if 2200 < rn.length then 2 else 0):=by show _ = _;rw [HEr.out,HOk.out,HRn.out]
    clear hyh hF hb c2 c4 HYs HOk HA2 HA3 HL HBl HB4
    by_cases h22:2200 < rn.length
    · have g2:(2200:Int) < (rn.length:Int):=by omega
      have HR3:Hid (er = 2):=HR2.out.trans (if_pos h22)
      clear HR2 h22
      go_wp2
      go_ret2
      rw [HR3.out]
      exact encF_bad (by omega) HB5.out
    · have g2:¬ (2200:Int) < (rn.length:Int):=by omega
      have HR3:Hid (er = 0):=HR2.out.trans (if_neg h22)
      clear HR2
      have HL6:Hid (Has (w5.alloc (.cells #[.int .u8 0] 5)) w5.heap.size (.slice (some ⟨w5.heap.size,0,none⟩) 1 1) [0]):=has_lit (B:=w5.heap.size) [0] rfl (Nat.le_refl _) (by decide)
      have HBl6:Hid (Below w5.heap.size w5 (w5.alloc (.cells #[.int .u8 0] 5))):=(Below.refl _ _).alloc (Nat.le_refl _) _
      have HA6:=Lib.hid (HFr.out.at.on HBl6.out)
      go_wp2_with (first
        | (at_builtin
           refine wp_ontoL (xs:=[0]) HL6.out HA6.out (by simp;omega) (by simp) rfl rfl rfl rfl rfl ?_
           intro zs q7 cap7 W7 HZ hh ha hk2
           have HB7:=Lib.hid (HBl6.out.trans (aside_low ha HL6.out (by simp)))
           have HZs:=Lib.hid hh
           have hs7:=HB7.out.size
           have hzl:zs.length ≤ 2300:=by rw [HZ.out,List.length_append,List.length_singleton];omega
           clear ha hk2 hh)
        | (at_builtin
           refine wp_push HZs.out 0 (by omega) hs7 rfl rfl rfl rfl rfl rfl ?_
           intro g8 cap8 W8 hm hb8
           have HM8:=Lib.hid hm
           have HB8:=Lib.hid hb8
           clear hm hb8)
        | fail)
      go_ret2
      have ez:0 :: (rn ++ [0]) = zs ++ [0]:=by rw [HZ.out];rfl
      have el:(zs ++ [0]).length = zs.length + 1:=by simp
      rw [ez]
      refine .inl ⟨HR3.out,some ⟨g8,0,none⟩,cap8,by rw [el];rfl,(Mine.has HM8.out).lower hs5,HB5.out.trans ((HB7.out.trans HB8.out).mono hs5)⟩
  · have HB2:=Lib.hid (HB1.out.trans (hb.mono (by omega)))
    have hbad:=enc_bad (f:=f) (by have:=HKd.out;omega) (by rw [HFe.out];exact hz)
    have HR2:Hid (er = e0):=by show _ = _;rw [HEr.out,hbad,HFe.out]
    have g2:((e0:Int) != 0) = true:=by rw [bne_iff_ne];omega
    have HNz:=Lib.hid hz
    clear hb hbad HE HFe hz
    go_wp2
    go_ret2
    rw [HR2.out]
    exact encF_bad HNz.out HB2.out
theorem encodeF_0 (f:Fr) (h1:f.kind ≠ 1) (h2:f.kind ≠ 2) (h3:f.kind ≠ 3) (u:Array Value) (w:World) (h:FLies w u f) :
  Calls Tryz.prog 4 #[.agg u] w (EncF w (Fr.err f) (0 :: (Fr.run f ++ [0]))):=by
 obtain ⟨sp,sc,bp,bc,ep,ec,rfl,-⟩:=h.out
 unfold cells11
 have he:Fr.err f = 60:=by
  have h0:Fr.err0 f = 60:=by unfold Fr.err0;rw [if_neg h1,if_neg h2,if_neg h3]
  unfold Fr.err
  rw [h0]
  rfl
 rw [he]
 have HB0:Hid (∀ o,Below w.heap.size w (w.alloc o)):=fun o => (Below.refl _ _).alloc (Nat.le_refl _) _
 have HF:=Lib.hid (fieldsOf_0 f.kind h1 h2 h3 f.number sp f.cols.length sc f.seq f.first f.rows bp f.block.length bc f.index.at_ f.index.frames f.index.rows ep f.index.entries.length ec (w.alloc (.cells #[.int .i64 f.kind,.int .i64 f.number,.slice sp f.cols.length sc,.int .i64 f.seq,.int .i64 f.first,.int .i64 f.rows,.slice bp f.block.length bc,.int .i64 f.index.at_,.int .i64 f.index.frames,.int .i64 f.index.rows,.slice ep f.index.entries.length ec] 30)))
 clear h h1 h2 h3 he
 go_enter Tryz.func4,Tryz.ntmps4
 go_wp2_with fail
 refine HF.out.mono ?_
 rintro e w1 ⟨rfl,hb⟩
 have HB1:=Lib.hid ((HB0.out _).trans (hb.mono (HB0.out _).size))
 clear hb HF
 go_wp2
 go_ret2
 exact encF_bad (by omega) HB1.out
theorem encodeF (f:Fr) (hw:f.wf) (u:Array Value) (w:World) (hv:Hv w) (h:FLies w u f) :
  Calls Tryz.prog 4 #[.agg u] w (EncF w (Fr.err f) (0 :: (Fr.run f ++ [0]))):=by
 by_cases h1:f.kind = 1
 ·exact encodeF_1 f h1 hw u w hv h
 by_cases h2:f.kind = 2
 ·exact encodeF_2 f h2 hw u w hv h
 by_cases h3:f.kind = 3
 ·exact encodeF_3 f h3 hw u w hv h
 exact encodeF_0 f h1 h2 h3 u w h
end Go.Proofs.YtfcblnknoljkhaaGreatDoor

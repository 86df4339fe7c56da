import Derived.Test.YtjpgbaiabmiifaaGreatDoorB21
import Derived.Handy
set_option maxRecDepth 100000
set_option maxHeartbeats 4000000
namespace Go.Proofs.YtjpgbaiabmiifaaGreatDoor
section
open Go.RowKit
theorem nL (n:Int) (sp:Option Addr) (sn sc:Nat) (q fi r:Int) (bp:Option Addr) (bn bc:Nat) (ia ib ic:Int) (ep:Option Addr) (en ec:Nat) (w:World) :
  Calls Tryz.prog 21 #[.agg #[.int .i64 1,.int .i64 n,.slice sp sn sc,.int .i64 q,.int .i64 fi,.int .i64 r,.slice bp bn bc,.int .i64 ia,.int .i64 ib,.int .i64 ic,.slice ep en ec]] w fun e w' => e = .returned (.tuple #[.iface 96 (.agg #[.int .i64 n,.slice sp sn sc]),.bool true]) ∧ Below w.heap.size w w':=by
 have HB:Hid (∀ o,Below w.heap.size w (w.alloc o)):=fun o => (Below.refl _ _).alloc (Nat.le_refl _) _
 go_enter Tryz.func21,Tryz.ntmps21
 go_wp2
 go_ret2
 exact ⟨rfl,HB.out _⟩
theorem nK (n:Int) (sp:Option Addr) (sn sc:Nat) (q fi r:Int) (bp:Option Addr) (bn bc:Nat) (ia ib ic:Int) (ep:Option Addr) (en ec:Nat) (w:World) :
  Calls Tryz.prog 21 #[.agg #[.int .i64 2,.int .i64 n,.slice sp sn sc,.int .i64 q,.int .i64 fi,.int .i64 r,.slice bp bn bc,.int .i64 ia,.int .i64 ib,.int .i64 ic,.slice ep en ec]] w fun e w' => e = .returned (.tuple #[.iface 98 (.agg #[.int .i64 n,.int .i64 q,.int .i64 fi,.int .i64 r,.slice bp bn bc]),.bool true]) ∧ Below w.heap.size w w':=by
 have HB:Hid (∀ o,Below w.heap.size w (w.alloc o)):=fun o => (Below.refl _ _).alloc (Nat.le_refl _) _
 go_enter Tryz.func21,Tryz.ntmps21
 go_wp2
 go_ret2
 exact ⟨rfl,HB.out _⟩
end
section
open Go.RowKit
def encErr (f:Fr):Nat:=if f.kind = 1 then dx f.number f.cols else if f.kind = 2 then eC f.number f.seq f.first f.rows f.block else Fr.idxErr f.index
theorem fX (l:List Int):(Fr.nums l).length ≤ 10 * l.length:=by
 induction l with
 | nil => simp [Fr.nums_nil]
 | cons n l ih =>
  rw [Fr.nums_cons,List.length_append,List.length_cons]
  have:=Leb.put_length_le n.toNat
  omega
theorem so (es:List Ent):(es.map Fr.entB).flatten.length ≤ es.length * 30:=Sch.flatten_le Fr.entB 30 es (fun e _ => fX [e.at_,e.row,e.sch])
theorem kB {f:Fr} (hk:f.kind = 2):f.block.length < (Fr.run f).length:=by
 have h1:=(Cob.stuff_length (Fr.check (Fr.head f))).1
 have h2:f.block.length ≤ (Fr.head f).length:=by
  unfold Fr.head Fr.fields
  rw [if_neg (by omega),if_pos hk,List.length_cons,List.length_append]
  omega
 rw [Fr.check_length] at h1
 unfold Fr.run
 omega
theorem oL {f:Fr} (hk:f.kind = 1 ∨ f.kind = 2 ∨ f.kind = 3) (h:encErr f ≠ 0):Fr.err f = encErr f:=by
 rcases hk with hk | hk | hk
 ·have e:Fr.err0 f = dx f.number f.cols:=by unfold Fr.err0;rw [if_pos hk];rfl
  have e2:encErr f = dx f.number f.cols:=by unfold encErr;rw [if_pos hk]
  rw [e2] at h ⊢
  unfold Fr.err
  rw [e,if_pos h]
 ·have e:Fr.err0 f = if (Fr.within Fr.N f.number && Fr.within Fr.S f.seq && Fr.within Fr.S f.first && decide (1 ≤ f.rows ∧ f.rows ≤ 64)) = false then 7 else 0:=by unfold Fr.err0;rw [if_neg (by omega),if_pos hk]
  have e2:encErr f = eC f.number f.seq f.first f.rows f.block:=by unfold encErr;rw [if_neg (by omega),if_pos hk]
  rw [e2] at h ⊢
  unfold Fr.err
  unfold eC at h ⊢
  by_cases h7:(Fr.within Fr.N f.number && Fr.within Fr.S f.seq && Fr.within Fr.S f.first && decide (1 ≤ f.rows ∧ f.rows ≤ 64)) = false
  ·rw [e,if_pos h7,if_pos h7,if_pos (by omega)]
  ·rw [if_neg h7] at h ⊢
   by_cases h2:2200 < f.block.length
   ·have:=kB hk
    rw [e,if_neg h7,if_neg (by omega),if_pos h2,if_pos (by omega)]
   ·rw [if_neg h2] at h
    omega
 ·have e:Fr.err0 f = Fr.idxErr f.index:=by unfold Fr.err0;rw [if_neg (by omega),if_neg (by omega),if_pos hk]
  have e2:encErr f = Fr.idxErr f.index:=by unfold encErr;rw [if_neg (by omega),if_neg (by omega)]
  rw [e2] at h ⊢
  unfold Fr.err
  rw [e,if_pos h]
theorem su {f:Fr} (hk:f.kind = 1 ∨ f.kind = 2 ∨ f.kind = 3) (h:encErr f = 0):Fr.err f = (if 2200 < (Fr.run f).length then 2 else 0) ∧ (Fr.fields f).length ≤ 5000:=by
 unfold encErr at h
 unfold Fr.err
 rcases hk with hk | hk | hk
 ·have e:Fr.err0 f = dx f.number f.cols:=by unfold Fr.err0;rw [if_pos hk];rfl
  rw [if_pos hk] at h
  refine ⟨by rw [e,if_neg (by omega)],?_⟩
  unfold dx at h
  split at h
  ·omega
  ·have h1:=(Sch.err_open h).2.2.2
   have h2:=fX [f.number]
   unfold Fr.fields
   rw [if_pos hk,List.length_append]
   simp at h2
   omega
 ·rw [if_neg (by omega),if_pos hk] at h
  have e:Fr.err0 f = if (Fr.within Fr.N f.number && Fr.within Fr.S f.seq && Fr.within Fr.S f.first && decide (1 ≤ f.rows ∧ f.rows ≤ 64)) = false then 7 else 0:=by unfold Fr.err0;rw [if_neg (by omega),if_pos hk]
  unfold eC at h
  by_cases h7:(Fr.within Fr.N f.number && Fr.within Fr.S f.seq && Fr.within Fr.S f.first && decide (1 ≤ f.rows ∧ f.rows ≤ 64)) = false
  ·rw [if_pos h7] at h;omega
  ·rw [if_neg h7] at h
   by_cases h2:2200 < f.block.length
   ·rw [if_pos h2] at h;omega
   ·refine ⟨by rw [e,if_neg h7,if_neg (by omega)],?_⟩
    have h3:=fX [f.number,f.seq,f.first,f.rows]
    unfold Fr.fields
    rw [if_neg (by omega),if_pos hk,List.length_append]
    simp at h3
    omega
 ·have e:Fr.err0 f = Fr.idxErr f.index:=by unfold Fr.err0;rw [if_neg (by omega),if_neg (by omega),if_pos hk]
  rw [if_neg (by omega),if_neg (by omega)] at h
  refine ⟨by rw [e,if_neg (by omega)],?_⟩
  have h64:f.index.entries.length ≤ 64:=by
   unfold Fr.idxErr at h
   split at h
   ·omega
   ·split at h
    ·omega
    ·omega
  have h3:=fX [f.index.at_,f.index.frames,f.index.rows,(f.index.entries.length:Int)]
  have h4:=so f.index.entries
  unfold Fr.fields
  rw [if_neg (by omega),if_neg (by omega),List.length_append]
  simp at h3
  omega
theorem sa {w:World} {B:Nat} {p:Option Addr} {n c:Nat} {l:List UInt8} (h:Has w B (.slice p n c) l):At w p l ∧ l.length ≤ c:=by
 obtain ⟨p',c',he,ha,hc⟩:=h.at
 injection he with e1 e2 e3
 subst e1 e3
 exact ⟨ha,hc⟩
theorem qe (f:Fr) (hk:f.kind = 1) (hw:f.wf) (u:Array Value) (w:World) (hv:Hv w) (h:eZ w u f) :
    Calls Tryz.prog 9 #[.agg u] w (qA w (Fr.err f) (0 :: (Fr.run f ++ [0]))):=by
  obtain ⟨sp,sc,bp,bc,ep,ec,rfl,h1,h2,h3,h4,h5,h6,h7,h8,h9⟩:=h.out
  unfold bH
  obtain ⟨er,her⟩:∃ er,er = Fr.err f:=⟨_,rfl⟩
  obtain ⟨rn,hrn⟩:∃ rn,rn = Fr.run f:=⟨_,rfl⟩
  rw [← her,← hrn]
  have HEr:=Lib.hid her
  have HRn:=Lib.hid hrn
  have HKd:=Lib.hid hk
  have HWf:=Lib.hid hw
  have HCo:=Lib.hid h3
  have HAt:=Lib.hid h6
  have HEn:=Lib.hid h9
  have HHv:=Lib.hid hv
  have HFe:Hid (encErr f = dx f.number f.cols):=by show _ = _;unfold encErr;rw [if_pos hk]
  have HFf:Hid (Fr.head f = 1 :: (Fr.nums [f.number] ++ Sch.bytes f.cols)):=by
    show _ = _
    unfold Fr.head Fr.fields
    rw [if_pos hk]
    rw [hk]
    rfl
  rw [hk]
  obtain ⟨w0,hw0⟩:∃ w0,w0 = w.alloc (.cells #[.int .i64 1,.int .i64 f.number,.slice sp f.cols.length sc,.int .i64 f.seq,.int .i64 f.first,.int .i64 f.rows,.slice bp f.block.length bc,.int .i64 f.index.at_,.int .i64 f.index.frames,.int .i64 f.index.rows,.slice ep f.index.entries.length ec] 36):=⟨_,rfl⟩
  have hz0:w0.heap.size = w.heap.size + 1:=by rw [hw0];simp
  have HB0:Hid (Below w.heap.size w w0):=by rw [hw0];exact (Below.refl _ _).alloc (Nat.le_refl _) _
  have c0:w0.cell? ⟨w.heap.size,0,none⟩ = some (.int .i64 1):=by rw [hw0];simp
  have HW:Hid (w.alloc (.cells #[.int .i64 1,.int .i64 f.number,.slice sp f.cols.length sc,.int .i64 f.seq,.int .i64 f.first,.int .i64 f.rows,.slice bp f.block.length bc,.int .i64 f.index.at_,.int .i64 f.index.frames,.int .i64 f.index.rows,.slice ep f.index.entries.length ec] 36) = w0):=by rw [hw0];exact rfl
  have HF:=Lib.hid (nL f.number sp f.cols.length sc f.seq f.first f.rows bp f.block.length bc f.index.at_ f.index.frames f.index.rows ep f.index.entries.length ec w0)
  clear her hrn hk hw h3 h6 h9 hv h hw0
  go_enter Tryz.func9,Tryz.ntmps9
  go_wp2_with fail
  rw [HW.out]
  refine HF.out.mono ?_
  rintro e w1 ⟨rfl,hb⟩
  have HB1:=Lib.hid (HB0.out.trans (hb.mono (by omega)))
  have c1:=ae hb c0
  have hs1:=hb.size
  clear hb HF HW c0
  have HE:=Lib.hid (nc f.number HWf.out.2.1 f.cols sp sc w1 h1 (HCo.out.on HB1.out) HWf.out.2.2.1)
  obtain ⟨e0,he0⟩:∃ e0,e0 = dx f.number f.cols:=⟨_,rfl⟩
  obtain ⟨l0,hl0⟩:∃ l0,l0 = (Fr.nums [f.number] ++ Sch.bytes f.cols):=⟨_,rfl⟩
  rw [← he0,← hl0] at HE
  rw [← he0] at HFe
  rw [← hl0] at HFf
  clear he0 hl0
  go_wp2_with fail
  refine HE.out.mono ?_
  rintro e w2 (⟨hz,q,cap,rfl,hh,hb⟩ | ⟨hz,rfl,hb⟩)
  · have HB2:=Lib.hid (HB1.out.trans (hb.mono (by omega)))
    have c2:=ae hb c1
    have hs2:=HB2.out.size
    have HA2:=Lib.hid (sa hh).1
    have hok:=su (f:=f) (by have:=HKd.out;omega) (HFe.out.trans hz)
    have hl5:l0.length ≤ 5000:=by
      have h1:(Fr.head f).length = l0.length + 1:=by rw [HFf.out];rfl
      have h2:(Fr.head f).length = (Fr.fields f).length + 1:=rfl
      have:=hok.2
      omega
    have HOk:=Lib.hid hok.1
    have HL:Hid (Has (w2.alloc (.cells #[.int .u8 1] 5)) w2.heap.size (.slice (some ⟨w2.heap.size,0,none⟩) 1 1) [1]):=cU (B:=w2.heap.size) [1] rfl (Nat.le_refl _) (by decide)
    have HBl:Hid (Below w2.heap.size w2 (w2.alloc (.cells #[.int .u8 1] 5))):=(Below.refl _ _).alloc (Nat.le_refl _) _
    have HA3:=Lib.hid (HA2.out.on HBl.out)
    clear hh hb HE hz hok HFe c1 hs1
    go_wp2_with (first
      | (at_builtin
         refine aA (xs:=[1]) HL.out HA3.out (by simp;omega) (by simp) rfl rfl rfl rfl rfl ?_
         intro ys q3 cap3 W HY hh ha hk2
         have HB4:=Lib.hid (HBl.out.trans (aw ha HL.out (by simp)))
         have HYs:=Lib.hid hh
         clear ha hk2 hh)
      | fail)
    have hyh:ys = Fr.head f:=by rw [HY.out,HFf.out];rfl
    have hyl:ys.length ≤ 5001:=by rw [hyh,HFf.out,List.length_cons];omega
    have HRy:Hid (rn = Cob.stuff (Fr.check ys)):=by show _ = _;rw [HRn.out,hyh];rfl
    have hs4:=HB4.out.size
    have c4:=ae HB4.out c2
    refine (uf w2.heap.size q3 cap3 ys (by omega) W (HHv.out.next (HB2.out.trans (HB4.out.mono hs2))) HYs.out hs4).mono ?_
    rintro e w5 ⟨g5,o5,cap5,rfl,hF,hg5,hc5,hb⟩
    rw [← HRy.out] at hF hc5 ⊢
    have HB5:=Lib.hid ((HB2.out.trans (HB4.out.mono hs2)).trans (hb.mono hs2))
    have hs5:=HB5.out.size
    have HFr:=Lib.hid hF
    have HR2:Hid (er = if 2200 < rn.length then 2 else 0):=by show _ = _;rw [HEr.out,HOk.out,HRn.out]
    clear hyh hF hb c2 c4 HYs HOk HA2 HA3 HL HBl HB4
    by_cases h22:2200 < rn.length
    · have g2:(2200:Int) < (rn.length:Int):=by omega
      have HR3:Hid (er = 2):=HR2.out.trans (if_pos h22)
      clear HR2 h22
      go_wp2
      go_ret2
      rw [HR3.out]
      exact bR (by omega) HB5.out
    · have g2:¬ (2200:Int) < (rn.length:Int):=by omega
      have HR3:Hid (er = 0):=HR2.out.trans (if_neg h22)
      clear HR2
      have HL6:Hid (Has (w5.alloc (.cells #[.int .u8 0] 5)) w5.heap.size (.slice (some ⟨w5.heap.size,0,none⟩) 1 1) [0]):=cU (B:=w5.heap.size) [0] rfl (Nat.le_refl _) (by decide)
      have HBl6:Hid (Below w5.heap.size w5 (w5.alloc (.cells #[.int .u8 0] 5))):=(Below.refl _ _).alloc (Nat.le_refl _) _
      have HA6:=Lib.hid (HFr.out.at.on HBl6.out)
      go_wp2_with (first
        | (at_builtin
           refine aA (xs:=[0]) HL6.out HA6.out (by simp;omega) (by simp) rfl rfl rfl rfl rfl ?_
           intro zs q7 cap7 W7 HZ hh ha hk2
           have HB7:=Lib.hid (HBl6.out.trans (aw ha HL6.out (by simp)))
           have HZs:=Lib.hid hh
           have hs7:=HB7.out.size
           have hzl:zs.length ≤ 2300:=by rw [HZ.out,List.length_append,List.length_singleton];omega
           clear ha hk2 hh)
        | (at_builtin
           refine fP HZs.out 0 (by omega) hs7 rfl rfl rfl rfl rfl rfl ?_
           intro g8 cap8 W8 hm hb8
           have HM8:=Lib.hid hm
           have HB8:=Lib.hid hb8
           clear hm hb8)
        | fail)
      go_ret2
      have ez:0 :: (rn ++ [0]) = zs ++ [0]:=by rw [HZ.out];rfl
      have el:(zs ++ [0]).length = zs.length + 1:=by simp
      rw [ez]
      refine .inl ⟨HR3.out,some ⟨g8,0,none⟩,cap8,by rw [el];rfl,(aW.has HM8.out).lower hs5,HB5.out.trans ((HB7.out.trans HB8.out).mono hs5)⟩
  · have HB2:=Lib.hid (HB1.out.trans (hb.mono (by omega)))
    have hbad:=oL (f:=f) (by have:=HKd.out;omega) (by rw [HFe.out];exact hz)
    have HR2:Hid (er = e0):=by show _ = _;rw [HEr.out,hbad,HFe.out]
    have g2:((e0:Int) != 0) = true:=by rw [bne_iff_ne];omega
    have HNz:=Lib.hid hz
    clear hb hbad HE HFe hz
    go_wp2
    go_ret2
    rw [HR2.out]
    exact bR HNz.out HB2.out
theorem qc (f:Fr) (hk:f.kind = 2) (hw:f.wf) (u:Array Value) (w:World) (hv:Hv w) (h:eZ w u f) :
    Calls Tryz.prog 9 #[.agg u] w (qA w (Fr.err f) (0 :: (Fr.run f ++ [0]))):=by
  obtain ⟨sp,sc,bp,bc,ep,ec,rfl,h1,h2,h3,h4,h5,h6,h7,h8,h9⟩:=h.out
  unfold bH
  obtain ⟨er,her⟩:∃ er,er = Fr.err f:=⟨_,rfl⟩
  obtain ⟨rn,hrn⟩:∃ rn,rn = Fr.run f:=⟨_,rfl⟩
  rw [← her,← hrn]
  have HEr:=Lib.hid her
  have HRn:=Lib.hid hrn
  have HKd:=Lib.hid hk
  have HWf:=Lib.hid hw
  have HCo:=Lib.hid h3
  have HAt:=Lib.hid h6
  have HEn:=Lib.hid h9
  have HHv:=Lib.hid hv
  have HFe:Hid (encErr f = eC f.number f.seq f.first f.rows f.block):=by show _ = _;unfold encErr;rw [if_neg (by omega),if_pos hk]
  have HFf:Hid (Fr.head f = 2 :: (Fr.nums [f.number,f.seq,f.first,f.rows] ++ f.block)):=by
    show _ = _
    unfold Fr.head Fr.fields
    rw [if_neg (by omega),if_pos hk]
    rw [hk]
    rfl
  rw [hk]
  obtain ⟨w0,hw0⟩:∃ w0,w0 = w.alloc (.cells #[.int .i64 2,.int .i64 f.number,.slice sp f.cols.length sc,.int .i64 f.seq,.int .i64 f.first,.int .i64 f.rows,.slice bp f.block.length bc,.int .i64 f.index.at_,.int .i64 f.index.frames,.int .i64 f.index.rows,.slice ep f.index.entries.length ec] 36):=⟨_,rfl⟩
  have hz0:w0.heap.size = w.heap.size + 1:=by rw [hw0];simp
  have HB0:Hid (Below w.heap.size w w0):=by rw [hw0];exact (Below.refl _ _).alloc (Nat.le_refl _) _
  have c0:w0.cell? ⟨w.heap.size,0,none⟩ = some (.int .i64 2):=by rw [hw0];simp
  have HW:Hid (w.alloc (.cells #[.int .i64 2,.int .i64 f.number,.slice sp f.cols.length sc,.int .i64 f.seq,.int .i64 f.first,.int .i64 f.rows,.slice bp f.block.length bc,.int .i64 f.index.at_,.int .i64 f.index.frames,.int .i64 f.index.rows,.slice ep f.index.entries.length ec] 36) = w0):=by rw [hw0];exact rfl
  have HF:=Lib.hid (nK f.number sp f.cols.length sc f.seq f.first f.rows bp f.block.length bc f.index.at_ f.index.frames f.index.rows ep f.index.entries.length ec w0)
  clear her hrn hk hw h3 h6 h9 hv h hw0
  go_enter Tryz.func9,Tryz.ntmps9
  go_wp2_with fail
  rw [HW.out]
  refine HF.out.mono ?_
  rintro e w1 ⟨rfl,hb⟩
  have HB1:=Lib.hid (HB0.out.trans (hb.mono (by omega)))
  have c1:=ae hb c0
  have hs1:=hb.size
  clear hb HF HW c0
  have HE:=Lib.hid (sy f.number f.seq f.first f.rows HWf.out.2.1 HWf.out.2.2.2.1 HWf.out.2.2.2.2.1 HWf.out.2.2.2.2.2.1 f.block bp bc w1 h4 (HAt.out.on HB1.out))
  obtain ⟨e0,he0⟩:∃ e0,e0 = eC f.number f.seq f.first f.rows f.block:=⟨_,rfl⟩
  obtain ⟨l0,hl0⟩:∃ l0,l0 = (Fr.nums [f.number,f.seq,f.first,f.rows] ++ f.block):=⟨_,rfl⟩
  rw [← he0,← hl0] at HE
  rw [← he0] at HFe
  rw [← hl0] at HFf
  clear he0 hl0
  go_wp2_with fail
  refine HE.out.mono ?_
  rintro e w2 (⟨hz,q,cap,rfl,hh,hb⟩ | ⟨hz,rfl,hb⟩)
  · have HB2:=Lib.hid (HB1.out.trans (hb.mono (by omega)))
    have c2:=ae hb c1
    have hs2:=HB2.out.size
    have HA2:=Lib.hid (sa hh).1
    have hok:=su (f:=f) (by have:=HKd.out;omega) (HFe.out.trans hz)
    have hl5:l0.length ≤ 5000:=by
      have h1:(Fr.head f).length = l0.length + 1:=by rw [HFf.out];rfl
      have h2:(Fr.head f).length = (Fr.fields f).length + 1:=rfl
      have:=hok.2
      omega
    have HOk:=Lib.hid hok.1
    have HL:Hid (Has (w2.alloc (.cells #[.int .u8 2] 5)) w2.heap.size (.slice (some ⟨w2.heap.size,0,none⟩) 1 1) [2]):=cU (B:=w2.heap.size) [2] rfl (Nat.le_refl _) (by decide)
    have HBl:Hid (Below w2.heap.size w2 (w2.alloc (.cells #[.int .u8 2] 5))):=(Below.refl _ _).alloc (Nat.le_refl _) _
    have HA3:=Lib.hid (HA2.out.on HBl.out)
    clear hh hb HE hz hok HFe c1 hs1
    go_wp2_with (first
      | (at_builtin
         refine aA (xs:=[2]) HL.out HA3.out (by simp;omega) (by simp) rfl rfl rfl rfl rfl ?_
         intro ys q3 cap3 W HY hh ha hk2
         have HB4:=Lib.hid (HBl.out.trans (aw ha HL.out (by simp)))
         have HYs:=Lib.hid hh
         clear ha hk2 hh)
      | fail)
    have hyh:ys = Fr.head f:=by rw [HY.out,HFf.out];rfl
    have hyl:ys.length ≤ 5001:=by rw [hyh,HFf.out,List.length_cons];omega
    have HRy:Hid (rn = Cob.stuff (Fr.check ys)):=by show _ = _;rw [HRn.out,hyh];rfl
    have hs4:=HB4.out.size
    have c4:=ae HB4.out c2
    refine (uf w2.heap.size q3 cap3 ys (by omega) W (HHv.out.next (HB2.out.trans (HB4.out.mono hs2))) HYs.out hs4).mono ?_
    rintro e w5 ⟨g5,o5,cap5,rfl,hF,hg5,hc5,hb⟩
    rw [← HRy.out] at hF hc5 ⊢
    have HB5:=Lib.hid ((HB2.out.trans (HB4.out.mono hs2)).trans (hb.mono hs2))
    have hs5:=HB5.out.size
    have HFr:=Lib.hid hF
    have HR2:Hid (er = if 2200 < rn.length then 2 else 0):=by show _ = _;rw [HEr.out,HOk.out,HRn.out]
    clear hyh hF hb c2 c4 HYs HOk HA2 HA3 HL HBl HB4
    by_cases h22:2200 < rn.length
    · have g2:(2200:Int) < (rn.length:Int):=by omega
      have HR3:Hid (er = 2):=HR2.out.trans (if_pos h22)
      clear HR2 h22
      go_wp2
      go_ret2
      rw [HR3.out]
      exact bR (by omega) HB5.out
    · have g2:¬ (2200:Int) < (rn.length:Int):=by omega
      have HR3:Hid (er = 0):=HR2.out.trans (if_neg h22)
      clear HR2
      have HL6:Hid (Has (w5.alloc (.cells #[.int .u8 0] 5)) w5.heap.size (.slice (some ⟨w5.heap.size,0,none⟩) 1 1) [0]):=cU (B:=w5.heap.size) [0] rfl (Nat.le_refl _) (by decide)
      have HBl6:Hid (Below w5.heap.size w5 (w5.alloc (.cells #[.int .u8 0] 5))):=(Below.refl _ _).alloc (Nat.le_refl _) _
      have HA6:=Lib.hid (HFr.out.at.on HBl6.out)
      go_wp2_with (first
        | (at_builtin
           refine aA (xs:=[0]) HL6.out HA6.out (by simp;omega) (by simp) rfl rfl rfl rfl rfl ?_
           intro zs q7 cap7 W7 HZ hh ha hk2
           have HB7:=Lib.hid (HBl6.out.trans (aw ha HL6.out (by simp)))
           have HZs:=Lib.hid hh
           have hs7:=HB7.out.size
           have hzl:zs.length ≤ 2300:=by rw [HZ.out,List.length_append,List.length_singleton];omega
           clear ha hk2 hh)
        | (at_builtin
           refine fP HZs.out 0 (by omega) hs7 rfl rfl rfl rfl rfl rfl ?_
           intro g8 cap8 W8 hm hb8
           have HM8:=Lib.hid hm
           have HB8:=Lib.hid hb8
           clear hm hb8)
        | fail)
      go_ret2
      have ez:0 :: (rn ++ [0]) = zs ++ [0]:=by rw [HZ.out];rfl
      have el:(zs ++ [0]).length = zs.length + 1:=by simp
      rw [ez]
      refine .inl ⟨HR3.out,some ⟨g8,0,none⟩,cap8,by rw [el];rfl,(aW.has HM8.out).lower hs5,HB5.out.trans ((HB7.out.trans HB8.out).mono hs5)⟩
  · have HB2:=Lib.hid (HB1.out.trans (hb.mono (by omega)))
    have hbad:=oL (f:=f) (by have:=HKd.out;omega) (by rw [HFe.out];exact hz)
    have HR2:Hid (er = e0):=by show _ = _;rw [HEr.out,hbad,HFe.out]
    have g2:((e0:Int) != 0) = true:=by rw [bne_iff_ne];omega
    have HNz:=Lib.hid hz
    clear hb hbad HE HFe hz
    go_wp2
    go_ret2
    rw [HR2.out]
    exact bR HNz.out HB2.out
end
end Go.Proofs.YtjpgbaiabmiifaaGreatDoor

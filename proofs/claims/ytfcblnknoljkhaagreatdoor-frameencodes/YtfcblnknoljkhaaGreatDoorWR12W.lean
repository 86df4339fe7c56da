import Derived.Test.YtfcblnknoljkhaaGreatDoorWR12E
import Derived.Test.YtfcblnknoljkhaaGreatDoorB03
set_option maxRecDepth 100000
set_option maxHeartbeats 4000000
namespace Go.Proofs.YtfcblnknoljkhaaGreatDoor
open Go.RowKit
theorem refWrong_1 (f:Fr) (hk:f.kind = 1) (hw:f.wf) (u:Array Value) (w:World) (hx:FLies w u f) :
  Calls Tryz.prog 10 #[.agg u] w fun e w' => e = .returned (.int .i64 (Fr.err0 f:Nat)) ∧ Below w.heap.size w w':=by
 obtain ⟨sp,sc,bp,bc,ep,ec,rfl,h1,h2,h3,h4,h5,h6,h7,h8,h9⟩:=hx.out
 unfold cells11
 obtain ⟨R,hR⟩:∃ R,R = Fr.err0 f:=⟨_,rfl⟩
 rw [← hR]
 unfold Fr.err0 at hR
 rw [if_pos hk] at hR
 rw [hk]
 obtain ⟨w0,hw0⟩:∃ w0,w0 = w.alloc (.cells #[.int .i64 1,.int .i64 f.number,.slice sp f.cols.length sc,.int .i64 f.seq,.int .i64 f.first,.int .i64 f.rows,.slice bp f.block.length bc,.int .i64 f.index.at_,.int .i64 f.index.frames,.int .i64 f.index.rows,.slice ep f.index.entries.length ec] 30):=⟨_,rfl⟩
 have HB0:Hid (Below w.heap.size w w0):=by rw [hw0];exact (Below.refl _ _).alloc (Nat.le_refl _) _
 have HW:Hid (w.alloc (.cells #[.int .i64 1,.int .i64 f.number,.slice sp f.cols.length sc,.int .i64 f.seq,.int .i64 f.first,.int .i64 f.rows,.slice bp f.block.length bc,.int .i64 f.index.at_,.int .i64 f.index.frames,.int .i64 f.index.rows,.slice ep f.index.entries.length ec] 30) = w0):=by rw [hw0];exact rfl
 have hK0:w0.heap[w.heap.size]? = some (.cells #[.int .i64 1,.int .i64 f.number,.slice sp f.cols.length sc,.int .i64 f.seq,.int .i64 f.first,.int .i64 f.rows,.slice bp f.block.length bc,.int .i64 f.index.at_,.int .i64 f.index.frames,.int .i64 f.index.rows,.slice ep f.index.entries.length ec] 30 (0,0)):=by rw [hw0];exact blk_new w _
 have y0:=blk_cell hK0 0
 have y1:=blk_cell hK0 1
 have y2:=blk_cell hK0 2
 have y3:=blk_cell hK0 3
 have y4:=blk_cell hK0 4
 have y5:=blk_cell hK0 5
 have y7:=blk_cell hK0 7
 have y8:=blk_cell hK0 8
 have y9:=blk_cell hK0 9
 have y10:=blk_cell hK0 10
 simp only [List.getElem?_toArray,List.getElem?_cons_zero,List.getElem?_cons_succ] at y0 y1 y2 y3 y4 y5 y7 y8 y9 y10
 clear hw0 hK0
 have HC:=Lib.hid (refCheck7 f.cols sp sc w0 h1 h2 (h3.on HB0.out) hw.2.2.1)
 have H1:=Lib.hid (refWithin f.number 2147483648 w0)
 have HR:=Lib.hid hR
 have HN:Hid (Fr.N = 2147483648):=rfl
 rw [HN.out] at HR
 generalize Fr.within 2147483648 f.number = t1 at H1 HR
 generalize Sch.err f.cols = er at HC HR
 clear hR hx h3 h6 h9 hw hk
 go_enter Tryz.func10,Tryz.ntmps10
 go_wp2_with fail
 rw [HW.out]
 refine H1.out.mono ?_
 rintro e w1 ⟨rfl,hw1⟩
 rw [hw1]
 clear hw1 w1 H1
 cases t1 with
 | false =>
  rw [if_pos rfl] at HR
  go_wp2
  go_ret
  exact ⟨by rw [HR.out];rfl,HB0.out⟩
 | true =>
  rw [if_neg (by decide)] at HR
  go_wp2_with fail
  refine HC.out.mono ?_
  rintro e w1 ⟨rfl,hb1⟩
  have HB1:=Lib.hid (HB0.out.trans (hb1.mono HB0.out.size))
  clear hb1 HC
  go_wp2
  go_ret
  exact ⟨by rw [HR.out];rfl,HB1.out⟩
theorem refWrong_2 (f:Fr) (hk:f.kind = 2) (u:Array Value) (w:World) (hx:FLies w u f) :
  Calls Tryz.prog 10 #[.agg u] w fun e w' => e = .returned (.int .i64 (Fr.err0 f:Nat)) ∧ Below w.heap.size w w':=by
 obtain ⟨sp,sc,bp,bc,ep,ec,rfl,h1,h2,h3,h4,h5,h6,h7,h8,h9⟩:=hx.out
 unfold cells11
 obtain ⟨R,hR⟩:∃ R,R = Fr.err0 f:=⟨_,rfl⟩
 rw [← hR]
 unfold Fr.err0 at hR
 rw [if_neg (by omega),if_pos hk] at hR
 rw [hk]
 obtain ⟨w0,hw0⟩:∃ w0,w0 = w.alloc (.cells #[.int .i64 2,.int .i64 f.number,.slice sp f.cols.length sc,.int .i64 f.seq,.int .i64 f.first,.int .i64 f.rows,.slice bp f.block.length bc,.int .i64 f.index.at_,.int .i64 f.index.frames,.int .i64 f.index.rows,.slice ep f.index.entries.length ec] 30):=⟨_,rfl⟩
 have HB0:Hid (Below w.heap.size w w0):=by rw [hw0];exact (Below.refl _ _).alloc (Nat.le_refl _) _
 have HW:Hid (w.alloc (.cells #[.int .i64 2,.int .i64 f.number,.slice sp f.cols.length sc,.int .i64 f.seq,.int .i64 f.first,.int .i64 f.rows,.slice bp f.block.length bc,.int .i64 f.index.at_,.int .i64 f.index.frames,.int .i64 f.index.rows,.slice ep f.index.entries.length ec] 30) = w0):=by rw [hw0];exact rfl
 have hK0:w0.heap[w.heap.size]? = some (.cells #[.int .i64 2,.int .i64 f.number,.slice sp f.cols.length sc,.int .i64 f.seq,.int .i64 f.first,.int .i64 f.rows,.slice bp f.block.length bc,.int .i64 f.index.at_,.int .i64 f.index.frames,.int .i64 f.index.rows,.slice ep f.index.entries.length ec] 30 (0,0)):=by rw [hw0];exact blk_new w _
 have y0:=blk_cell hK0 0
 have y1:=blk_cell hK0 1
 have y2:=blk_cell hK0 2
 have y3:=blk_cell hK0 3
 have y4:=blk_cell hK0 4
 have y5:=blk_cell hK0 5
 have y7:=blk_cell hK0 7
 have y8:=blk_cell hK0 8
 have y9:=blk_cell hK0 9
 have y10:=blk_cell hK0 10
 simp only [List.getElem?_toArray,List.getElem?_cons_zero,List.getElem?_cons_succ] at y0 y1 y2 y3 y4 y5 y7 y8 y9 y10
 clear hw0 hK0
 have H1:=Lib.hid (refWithin f.number 2147483648 w0)
 have H2:=Lib.hid (refWithin f.seq 1099511627776 w0)
 have H3:=Lib.hid (refWithin f.first 1099511627776 w0)
 have HR:=Lib.hid hR
 have HN:Hid (Fr.N = 2147483648):=rfl
 have HS:Hid (Fr.S = 1099511627776):=rfl
 rw [HN.out,HS.out] at HR
 generalize Fr.within 2147483648 f.number = t1 at H1 HR
 generalize Fr.within 1099511627776 f.seq = t2 at H2 HR
 generalize Fr.within 1099511627776 f.first = t3 at H3 HR
 clear hR hx h3 h6 h9 hk HN HS
 go_enter Tryz.func10,Tryz.ntmps10
 go_wp2_with fail
 rw [HW.out]
 refine H1.out.mono ?_
 rintro e w1 ⟨rfl,hw1⟩
 rw [hw1]
 clear hw1 w1 H1
 go_wp2_with fail
 refine H2.out.mono ?_
 rintro e w1 ⟨rfl,hw1⟩
 rw [hw1]
 clear hw1 w1 H2
 go_wp2_with fail
 refine H3.out.mono ?_
 rintro e w1 ⟨rfl,hw1⟩
 rw [hw1]
 clear hw1 w1 H3
 by_cases hall:(t1 && t2 && t3) = true
 ·rw [hall,Bool.true_and] at HR
  obtain ⟨rfl,rfl,rfl⟩:=three_all hall
  clear hall
  by_cases k1:f.rows < 1
  ·rw [if_pos (decide_eq_false (by omega))] at HR
   go_wp2
   go_ret
   exact ⟨by rw [HR.out];rfl,HB0.out⟩
  ·by_cases k2:64 < f.rows
   ·rw [if_pos (decide_eq_false (by omega))] at HR
    go_wp2
    go_ret
    exact ⟨by rw [HR.out];rfl,HB0.out⟩
   ·rw [if_neg (by rw [decide_eq_true (by omega)];decide)] at HR
    go_wp2
    go_ret
    exact ⟨by rw [HR.out];rfl,HB0.out⟩
 ·have hff:(t1 && t2 && t3) = false:=Bool.eq_false_iff.2 hall
  rw [if_pos (by rw [hff,Bool.false_and])] at HR
  clear hff
  have hne:=three_not hall
  clear hall
  rcases hne with rfl | ⟨rfl,rfl⟩ | ⟨rfl,rfl,rfl⟩
  all_goals
   go_wp2
   go_ret
   exact ⟨by rw [HR.out];rfl,HB0.out⟩
theorem refWrong_3 (f:Fr) (hk:f.kind = 3) (u:Array Value) (w:World) (hx:FLies w u f) :
  Calls Tryz.prog 10 #[.agg u] w fun e w' => e = .returned (.int .i64 (Fr.err0 f:Nat)) ∧ Below w.heap.size w w':=by
 obtain ⟨sp,sc,bp,bc,ep,ec,rfl,h1,h2,h3,h4,h5,h6,h7,h8,h9⟩:=hx.out
 unfold cells11
 obtain ⟨R,hR⟩:∃ R,R = Fr.err0 f:=⟨_,rfl⟩
 rw [← hR]
 unfold Fr.err0 at hR
 rw [if_neg (by omega),if_neg (by omega),if_pos hk] at hR
 rw [hk]
 obtain ⟨w0,hw0⟩:∃ w0,w0 = w.alloc (.cells #[.int .i64 3,.int .i64 f.number,.slice sp f.cols.length sc,.int .i64 f.seq,.int .i64 f.first,.int .i64 f.rows,.slice bp f.block.length bc,.int .i64 f.index.at_,.int .i64 f.index.frames,.int .i64 f.index.rows,.slice ep f.index.entries.length ec] 30):=⟨_,rfl⟩
 have HB0:Hid (Below w.heap.size w w0):=by rw [hw0];exact (Below.refl _ _).alloc (Nat.le_refl _) _
 have HW:Hid (w.alloc (.cells #[.int .i64 3,.int .i64 f.number,.slice sp f.cols.length sc,.int .i64 f.seq,.int .i64 f.first,.int .i64 f.rows,.slice bp f.block.length bc,.int .i64 f.index.at_,.int .i64 f.index.frames,.int .i64 f.index.rows,.slice ep f.index.entries.length ec] 30) = w0):=by rw [hw0];exact rfl
 have hK0:w0.heap[w.heap.size]? = some (.cells #[.int .i64 3,.int .i64 f.number,.slice sp f.cols.length sc,.int .i64 f.seq,.int .i64 f.first,.int .i64 f.rows,.slice bp f.block.length bc,.int .i64 f.index.at_,.int .i64 f.index.frames,.int .i64 f.index.rows,.slice ep f.index.entries.length ec] 30 (0,0)):=by rw [hw0];exact blk_new w _
 have y0:=blk_cell hK0 0
 have y1:=blk_cell hK0 1
 have y2:=blk_cell hK0 2
 have y3:=blk_cell hK0 3
 have y4:=blk_cell hK0 4
 have y5:=blk_cell hK0 5
 have y7:=blk_cell hK0 7
 have y8:=blk_cell hK0 8
 have y9:=blk_cell hK0 9
 have y10:=blk_cell hK0 10
 simp only [List.getElem?_toArray,List.getElem?_cons_zero,List.getElem?_cons_succ] at y0 y1 y2 y3 y4 y5 y7 y8 y9 y10
 clear hw0 hK0
 have HC:=Lib.hid (refIndex f.index.at_ f.index.frames f.index.rows f.index.entries ep ec w0 h7 (h9.on HB0.out))
 have HD:Hid (Fr.idxErr ⟨f.index.at_,f.index.frames,f.index.rows,f.index.entries⟩ = Fr.idxErr f.index):=rfl
 rw [HD.out,← hR] at HC
 clear hR hx h3 h6 h9 hk HD
 go_enter Tryz.func10,Tryz.ntmps10
 go_wp2_with fail
 rw [HW.out]
 refine HC.out.mono ?_
 rintro e w1 ⟨rfl,hb1⟩
 have HB1:=Lib.hid (HB0.out.trans (hb1.mono HB0.out.size))
 clear hb1 HC
 go_wp2
 go_ret
 exact ⟨rfl,HB1.out⟩
theorem refWrong_0 (f:Fr) (g1:f.kind ≠ 1) (g2:f.kind ≠ 2) (g3:f.kind ≠ 3) (u:Array Value) (w:World) (hx:FLies w u f) :
  Calls Tryz.prog 10 #[.agg u] w fun e w' => e = .returned (.int .i64 (Fr.err0 f:Nat)) ∧ Below w.heap.size w w':=by
 obtain ⟨sp,sc,bp,bc,ep,ec,rfl,h1,h2,h3,h4,h5,h6,h7,h8,h9⟩:=hx.out
 unfold cells11
 obtain ⟨R,hR⟩:∃ R,R = Fr.err0 f:=⟨_,rfl⟩
 rw [← hR]
 unfold Fr.err0 at hR
 rw [if_neg g1,if_neg g2,if_neg g3] at hR
 subst hR
 have HB0:Hid (∀ o,Below w.heap.size w (w.alloc o)):=fun o => (Below.refl _ _).alloc (Nat.le_refl _) _
 have k1:=beq_f g1
 have k2:=beq_f g2
 have k3:=beq_f g3
 clear g1 g2 g3 hx
 go_enter Tryz.func10,Tryz.ntmps10
 go_wp2
 go_ret
 exact ⟨rfl,HB0.out _⟩
theorem refWrong (f:Fr) (hw:f.wf) (u:Array Value) (w:World) (hx:FLies w u f) :
  Calls Tryz.prog 10 #[.agg u] w fun e w' => e = .returned (.int .i64 (Fr.err0 f:Nat)) ∧ Below w.heap.size w w':=by
 by_cases h1:f.kind = 1
 ·exact refWrong_1 f h1 hw u w hx
 by_cases h2:f.kind = 2
 ·exact refWrong_2 f h2 u w hx
 by_cases h3:f.kind = 3
 ·exact refWrong_3 f h3 u w hx
 exact refWrong_0 f h1 h2 h3 u w hx
theorem le_len12 (n:Nat):(Sch.le 4 n).length = 4:=by simp [Sch.le]
theorem le_take (n k:Nat) (h:k < 4):(Sch.le 4 n).take (k + 1) = (Sch.le 4 n).take k ++ [UInt8.ofNat (n / 256 ^ k % 256)]:=by
 have e:Sch.le 4 n = [UInt8.ofNat (n / 256 ^ 0 % 256),UInt8.ofNat (n / 256 ^ 1 % 256),UInt8.ofNat (n / 256 ^ 2 % 256),UInt8.ofNat (n / 256 ^ 3 % 256)]:=by
  simp [Sch.le,Nat.div_div_eq_div_mul]
 rw [e]
 match k,h with
 | 0,_ => rfl
 | 1,_ => rfl
 | 2,_ => rfl
 | 3,_ => rfl
theorem refChecked (p:Option Addr) (c:Nat) (l:List UInt8) (hl:l.length ≤ 141000000000000) (w:World) (h:At w p l) :
    Calls Tryz.prog 24 #[.slice p l.length c] w fun e w' => ∃ q cap,e = .returned (.slice q (Fr.check l).length cap) ∧ Has w' w.heap.size (.slice q (Fr.check l).length cap) (Fr.check l) ∧ Below w.heap.size w w':=by
  have HS:=Lib.hid (refSum_any p c l (by omega) w h)
  have HA:=Lib.hid h
  have HE:Hid (has_nil w w.heap.size = has_nil w w.heap.size):=rfl
  have hS32:Crc.sum l < 4294967296:=Crc.update_lt (by omega) l
  obtain ⟨S,hS⟩:∃ S,S = Crc.sum l:=⟨_,rfl⟩
  rw [← hS] at HS hS32
  have HSm:=Lib.hid hS
  clear h hS HE
  go_enter Tryz.func24,Tryz.ntmps24
  go_wp2_with fail
  refine HS.out.mono ?_
  rintro e w1 ⟨rfl,hw1⟩
  rw [hw1]
  clear hw1 w1 HS
  go_wp2_with (first
    | (at_builtin
       refine wp_ontoL (has_nil w w.heap.size) HA.out (by simp;omega) (Nat.le_refl _) rfl rfl rfl rfl rfl ?_
       intro ys q3 cap3 W HY hh ha hk2
       have HB2:=Lib.hid (aside_low ha (has_nil w w.heap.size) (Nat.le_refl _))
       have HH:=Lib.hid hh
       clear ha hk2 hh)
    | fail)
  have HY2:Hid (ys = l):=by show _ = _;rw [HY.out];rfl
  clear HY
  have HYL:Hid (ys.length ≤ l.length + 0):=by show _ ≤ _;rw [HY2.out];exact Nat.le_refl _
  go_loopw [3,4,5] (fun v3 v4 v5 wr => ∃ (k:Nat) (m:Nat) (xs:List UInt8),k ≤ 4 ∧ v5 = .int .i64 k ∧ v3 = .int .u32 (m:Nat) ∧ m < 4294967296 ∧ xs.length ≤ l.length + k ∧ Hid (m = S / 256 ^ k ∧ xs = l ++ (Sch.le 4 S).take k ∧ Has wr w.heap.size v4 xs ∧ Below w.heap.size w wr)) (fun _ _ v5 _ => 4 - (intOf v5).toNat)
  case atStart => exact ⟨0,S,ys,by omega,rfl,rfl,hS32,HYL.out,by simp,by rw [HY2.out];simp,HH.out,HB2.out⟩
  case round =>
    obtain ⟨k,m,xs,hk,rfl,rfl,hm,hxl,HK⟩:=hrel
    have hB:=HK.out.2.2.2.size
    have HO:=Lib.hid HK.out.2.2.1
    by_cases hlt:k < 4
    · have hlt':(k:Int) < 4:=by omega
      have hm2:m / 256 < 4294967296:=by omega
      have hc8:(UInt8.ofNat (m % 256)).toNat = m % 256:=by rw [UInt8.toNat_ofNat'];omega
      have HN:Hid (m / 256 = S / 256 ^ (k + 1)):=by show _ = _;rw [HK.out.1,Nat.div_div_eq_div_mul,Nat.pow_succ]
      have HX:Hid (xs ++ [UInt8.ofNat (m % 256)] = l ++ (Sch.le 4 S).take (k + 1)):=by show _ = _;rw [le_take S k hlt,HK.out.2.1,HK.out.1,List.append_assoc]
      go_wp2_with (first
        | (at_builtin
           refine wp_push HO.out (UInt8.ofNat (m % 256)) (by omega) hB (by rw [hc8];omega) rfl rfl rfl rfl rfl ?_
           intro g3 cap3' W3 hm3 hb3
           have HM3:=Lib.hid hm3
           have HB3:=Lib.hid hb3
           clear hm3 hb3)
        | fail)
      go_roundw
      case rel =>
        refine ⟨k + 1,m / 256,xs ++ [UInt8.ofNat (m % 256)],by omega,by go_num,by go_num,hm2,by simp;omega,HN.out,HX.out,?_,HK.out.2.2.2.trans HB3.out⟩
        have:=HM3.out.has
        rw [List.length_append] at this
        exact this
      case measure => simp [intOf];omega
    · have hkk:k = 4:=by omega
      subst hkk
      have HX:Hid (xs = Fr.check l):=by
        show _ = _
        rw [HK.out.2.1,HSm.out,Fr.check,List.take_of_length_le (by rw [le_len12];exact Nat.le_refl _)]
      obtain ⟨q,cap,rfl,-,-⟩:=HO.out.at
      go_wp2
      go_ret
      rw [← HX.out]
      exact ⟨q,cap,rfl,HO.out,HK.out.2.2.2⟩
end Go.Proofs.YtfcblnknoljkhaaGreatDoor

import Derived.Test.YtfcblnknoljkhaaGreatDoorA7
import Derived.Test.YtfcblnknoljkhaaGreatDoorWR12F
set_option maxRecDepth 100000
set_option maxHeartbeats 4000000
namespace Go.Proofs.YtfcblnknoljkhaaGreatDoor
open Go.RowKit
def told12 (er:Nat) (l:List UInt8):List UInt8:=if er = 0 then l else []
theorem enc_told {w w':World} {er:Nat} {l:List UInt8} {e:Ending} (h:EncF w er l e w'):∃ q cap,e = .returned (.tuple #[.slice q (told12 er l).length cap,.int .i64 (er:Nat)]) ∧ At w' q (told12 er l) ∧ Below w.heap.size w w':=by
 rcases h with ⟨rfl,q,cap,rfl,hh,hb⟩ | ⟨hz,rfl,hb⟩
 ·exact ⟨q,cap,rfl,has_slice hh,hb⟩
 ·unfold told12
  rw [if_neg hz]
  exact ⟨none,0,rfl,.inl rfl,hb⟩
theorem told_len (f:Fr):(told12 (Fr.err f) (0 :: (Fr.run f ++ [0]))).length ≤ 2202:=by
 unfold told12
 split
 ·next h =>
  have:=(Fr.err_open h).2
  simp
  omega
 ·simp
theorem frameEncodes_any (f:Fr) (hw:f.wf) (u:Array Value) (w:World) (hv:Hv w) (hf:FLies w u f) :
    Calls Tryz.prog 3 #[.agg u] w fun e w' => e = .returned (.bool true) ∧ Below w.heap.size w w':=by
  obtain ⟨sp,sc,bp,bc,ep,ec,hu,-,-,-,hbl,-,hat,-,-,-⟩:=hf.out
  have HFl:=Lib.hid hf
  rw [hu] at HFl ⊢
  unfold cells11 at HFl ⊢
  have HHv:=Lib.hid hv
  have HWf:=Lib.hid hw
  have HAt:=Lib.hid hat
  obtain ⟨w0,hw0⟩:∃ w0,w0 = w.alloc (.cells #[.int .i64 f.kind,.int .i64 f.number,.slice sp f.cols.length sc,.int .i64 f.seq,.int .i64 f.first,.int .i64 f.rows,.slice bp f.block.length bc,.int .i64 f.index.at_,.int .i64 f.index.frames,.int .i64 f.index.rows,.slice ep f.index.entries.length ec] 30):=⟨_,rfl⟩
  have HB0:Hid (Below w.heap.size w w0):=by rw [hw0];exact (Below.refl _ _).alloc (Nat.le_refl _) _
  have hz0:w0.heap.size = w.heap.size + 1:=by rw [hw0];simp
  have HK0:Hid (w0.heap[w.heap.size]? = some (.cells #[.int .i64 f.kind,.int .i64 f.number,.slice sp f.cols.length sc,.int .i64 f.seq,.int .i64 f.first,.int .i64 f.rows,.slice bp f.block.length bc,.int .i64 f.index.at_,.int .i64 f.index.frames,.int .i64 f.index.rows,.slice ep f.index.entries.length ec] 30 (0,0))):=by rw [hw0];exact blk_new w _
  obtain ⟨w1,hw1⟩:∃ w1,w1 = w0.alloc (.cells #[] 5):=⟨_,rfl⟩
  have HB01:Hid (Below w0.heap.size w0 w1):=by rw [hw1];exact (Below.refl _ _).alloc (Nat.le_refl _) _
  have HB1:Hid (Below w.heap.size w w1):=HB0.out.trans (HB01.out.mono HB0.out.size)
  have HM1:Hid (Has w1 w0.heap.size (.slice (some ⟨w.heap.size + 1,0,none⟩) 0 0) []):=by
    have:=(mine_new w0).has
    rw [← hw1] at this
    show Has _ _ _ _
    rw [hz0] at this ⊢
    exact this
  have hK1:=(HB01.out.block _ (by omega)).trans HK0.out
  have x0:=blk_cell hK1 0
  have x1:=blk_cell hK1 1
  have x2:=blk_cell hK1 2
  have x3:=blk_cell hK1 3
  have x4:=blk_cell hK1 4
  have x5:=blk_cell hK1 5
  have x6:=blk_cell hK1 6
  have x7:=blk_cell hK1 7
  have x8:=blk_cell hK1 8
  have x9:=blk_cell hK1 9
  have x10:=blk_cell hK1 10
  simp only [List.getElem?_toArray,List.getElem?_cons_zero,List.getElem?_cons_succ] at x0 x1 x2 x3 x4 x5 x6 x7 x8 x9 x10
  have HW1:Hid ((w.alloc (.cells #[.int .i64 f.kind,.int .i64 f.number,.slice sp f.cols.length sc,.int .i64 f.seq,.int .i64 f.first,.int .i64 f.rows,.slice bp f.block.length bc,.int .i64 f.index.at_,.int .i64 f.index.frames,.int .i64 f.index.rows,.slice ep f.index.entries.length ec] 30)).alloc (.cells #[] 5) = w1):=by rw [hw1,hw0];exact rfl
  have HA1:=Lib.hid (hat.on HB1.out)
  have hz1:=HB01.out.size
  have HTl:=Lib.hid (told_len f)
  have HE1:=Lib.hid (fun w' (hb:Below w.heap.size w w') => (encodeF f HWf.out #[.int .i64 f.kind,.int .i64 f.number,.slice sp f.cols.length sc,.int .i64 f.seq,.int .i64 f.first,.int .i64 f.rows,.slice bp f.block.length bc,.int .i64 f.index.at_,.int .i64 f.index.frames,.int .i64 f.index.rows,.slice ep f.index.entries.length ec] w' (HHv.out.next hb) (HFl.out.on hb)).mono (fun _ _ h => enc_told h))
  have HE2:=Lib.hid (fun w' (hb:Below w.heap.size w w') => (refEncode12 f hbl HWf.out #[.int .i64 f.kind,.int .i64 f.number,.slice sp f.cols.length sc,.int .i64 f.seq,.int .i64 f.first,.int .i64 f.rows,.slice bp f.block.length bc,.int .i64 f.index.at_,.int .i64 f.index.frames,.int .i64 f.index.rows,.slice ep f.index.entries.length ec] w' (HFl.out.on hb)).mono (fun _ _ h => enc_told h))
  obtain ⟨T,hT⟩:∃ T,T = told12 (Fr.err f) (0 :: (Fr.run f ++ [0])):=⟨_,rfl⟩
  obtain ⟨er,her⟩:∃ er,er = Fr.err f:=⟨_,rfl⟩
  rw [← hT] at HTl
  rw [← hT,← her] at HE1 HE2
  clear hu hf hv hw hat hw0 hw1 hK1 hT her
  go_enter Tryz.func3,Tryz.ntmps3
  go_wp2_with (first
    | (at_builtin
       try rw [HW1.out]
       refine wp_ontoL HM1.out HA1.out (by simp only [List.length_nil];omega) hz1 rfl rfl rfl rfl rfl ?_
       intro ys q2 cap2 W2 HY hh2 ha2 hk2
       have HB02:=Lib.hid (HB01.out.trans (aside_low ha2 HM1.out hz1))
       have HH2:=Lib.hid hh2
       have hK2:=(HB02.out.block _ (by omega)).trans HK0.out
       clear ha2 hk2 hh2 x0 x1 x2 x3 x4 x5 x6 x7 x8 x9 x10
       have x0:=blk_cell hK2 0
       have x1:=blk_cell hK2 1
       have x2:=blk_cell hK2 2
       have x3:=blk_cell hK2 3
       have x4:=blk_cell hK2 4
       have x5:=blk_cell hK2 5
       have x6:=blk_cell hK2 6
       have x7:=blk_cell hK2 7
       have x8:=blk_cell hK2 8
       have x9:=blk_cell hK2 9
       have x10:=blk_cell hK2 10
       simp only [List.getElem?_toArray,List.getElem?_cons_zero,List.getElem?_cons_succ] at x0 x1 x2 x3 x4 x5 x6 x7 x8 x9 x10
       clear hK2)
    | fail)
  have HB2:=Lib.hid (HB0.out.trans (HB02.out.mono HB0.out.size))
  have hz2:=HB02.out.size
  have HYb:Hid (ys = f.block):=by show _ = _;rw [HY.out];rfl
  refine (HE1.out W2 HB2.out).mono ?_
  rintro e w3 ⟨q3,cap3,rfl,ha3,hb3⟩
  have HB03:=Lib.hid (HB02.out.trans (hb3.mono hz2))
  have HB3:=Lib.hid (HB0.out.trans (HB03.out.mono HB0.out.size))
  have hK3:=(HB03.out.block _ (by omega)).trans HK0.out
  have HA3:=Lib.hid ha3
  have HC3:=Lib.hid ((has_slice HH2.out).on hb3)
  have hz3:=HB03.out.size
  clear ha3 hb3 HE1 x0 x1 x2 x3 x4 x5 x6 x7 x8 x9 x10
  have x0:=blk_cell hK3 0
  have x1:=blk_cell hK3 1
  have x2:=blk_cell hK3 2
  have x3:=blk_cell hK3 3
  have x4:=blk_cell hK3 4
  have x5:=blk_cell hK3 5
  have x6:=blk_cell hK3 6
  have x7:=blk_cell hK3 7
  have x8:=blk_cell hK3 8
  have x9:=blk_cell hK3 9
  have x10:=blk_cell hK3 10
  simp only [List.getElem?_toArray,List.getElem?_cons_zero,List.getElem?_cons_succ] at x0 x1 x2 x3 x4 x5 x6 x7 x8 x9 x10
  clear hK3
  go_wp2_with fail
  refine (HE2.out w3 HB3.out).mono ?_
  rintro e w4 ⟨q4,cap4,rfl,ha4,hb4⟩
  have HB04:=Lib.hid (HB03.out.trans (hb4.mono hz3))
  have HB4:=Lib.hid (HB0.out.trans (HB04.out.mono HB0.out.size))
  have HA34:=Lib.hid (HA3.out.on hb4)
  have HC4:=Lib.hid (HC3.out.on hb4)
  have HA4:=Lib.hid ha4
  have hz4:=HB04.out.size
  clear ha4 hb4 HE2 x0 x1 x2 x3 x4 x5 x6 x7 x8 x9 x10
  go_wp2_with fail
  refine (live12 w4 (HHv.out.next HB4.out)).mono ?_
  rintro e w5 ⟨rfl,hb5⟩
  have HB05:=Lib.hid (HB04.out.trans (hb5.mono hz4))
  have HS:=Lib.hid (same_any q3 q4 cap3 cap4 T T (by have:=HTl.out;omega) w5 (HA34.out.on hb5) (HA4.out.on hb5))
  rw [beq_self_eq_true] at HS
  have HC5:=Lib.hid (HC4.out.on hb5)
  clear hb5
  go_wp2_with fail
  refine HS.out.mono ?_
  rintro e w6 ⟨rfl,n6,hw6⟩
  have HB06:Hid (Below w0.heap.size w0 w6):=by rw [hw6];exact below_drewN HB05.out n6
  have hK6:=(HB06.out.block _ (by omega)).trans HK0.out
  have x0:=blk_cell hK6 0
  have x1:=blk_cell hK6 1
  have x2:=blk_cell hK6 2
  have x3:=blk_cell hK6 3
  have x4:=blk_cell hK6 4
  have x5:=blk_cell hK6 5
  have x6:=blk_cell hK6 6
  have x7:=blk_cell hK6 7
  have x8:=blk_cell hK6 8
  have x9:=blk_cell hK6 9
  have x10:=blk_cell hK6 10
  simp only [List.getElem?_toArray,List.getElem?_cons_zero,List.getElem?_cons_succ] at x0 x1 x2 x3 x4 x5 x6 x7 x8 x9 x10
  have HB6:=Lib.hid (HB0.out.trans (HB06.out.mono HB0.out.size))
  have HC6:Hid (At w6 q2 ys):=by rw [hw6];exact HC5.out
  have hS2:=same_any bp q2 bc cap2 f.block ys (by omega) w6 (HAt.out.on HB6.out) HC6.out
  rw [show (f.block == ys) = true by rw [HYb.out,beq_self_eq_true]] at hS2
  have HS2:=Lib.hid hS2
  clear hw6 hK6 HS hS2
  go_wp2_with fail
  refine HS2.out.mono ?_
  rintro e w7 ⟨rfl,n7,hw7⟩
  have HB7:Hid (Below w.heap.size w w7):=by rw [hw7];exact below_drewN HB6.out n7
  clear hw7 HS2
  go_wp2
  go_ret
  exact ⟨rfl,HB7.out⟩
end Go.Proofs.YtfcblnknoljkhaaGreatDoor

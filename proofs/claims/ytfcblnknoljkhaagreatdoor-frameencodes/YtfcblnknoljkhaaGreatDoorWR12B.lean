import Derived.Test.YtfcblnknoljkhaaGreatDoorWR12W
import Derived.Test.YtfcblnknoljkhaaGreatDoorA2
set_option maxRecDepth 100000
set_option maxHeartbeats 8000000
namespace Go.Proofs.YtfcblnknoljkhaaGreatDoor
open Go.RowKit
theorem has_slice {w:World} {B n c:Nat} {q:Option Addr} {l:List UInt8} (h:Has w B (.slice q n c) l):At w q l:=by
 obtain ⟨p',c',he,ha,-⟩:=h.at
 injection he with e1
 subst e1
 exact ha
def BodyV (w:World) (l:List UInt8) (e:Ending) (w':World):Prop:=∃ q cap,e = .returned (.slice q l.length cap) ∧ Has w' w.heap.size (.slice q l.length cap) l ∧ Below w.heap.size w w'
theorem refBody_2 (f:Fr) (hk:f.kind = 2) (hbk:f.block.length ≤ 140737488351232) (hw:f.wf) (he:Fr.err0 f = 0) (u:Array Value) (w:World) (hx:FLies w u f) :
    Calls Tryz.prog 11 #[.agg u] w (BodyV w (Fr.check (Fr.head f))):=by
  obtain ⟨sp,sc,bp,bc,ep,ec,rfl,h1,h2,h3,h4,h5,h6,h7,h8,h9⟩:=hx.out
  unfold cells11
  obtain ⟨w0,hw0⟩:∃ w0,w0 = w.alloc (.cells #[.int .i64 2,.int .i64 f.number,.slice sp f.cols.length sc,.int .i64 f.seq,.int .i64 f.first,.int .i64 f.rows,.slice bp f.block.length bc,.int .i64 f.index.at_,.int .i64 f.index.frames,.int .i64 f.index.rows,.slice ep f.index.entries.length ec] 30):=⟨_,rfl⟩
  have hz0:w0.heap.size = w.heap.size + 1:=by rw [hw0];simp
  have HB0:Hid (Below w.heap.size w w0):=by rw [hw0];exact (Below.refl _ _).alloc (Nat.le_refl _) _
  have hK0:w0.heap[w.heap.size]? = some (.cells #[.int .i64 2,.int .i64 f.number,.slice sp f.cols.length sc,.int .i64 f.seq,.int .i64 f.first,.int .i64 f.rows,.slice bp f.block.length bc,.int .i64 f.index.at_,.int .i64 f.index.frames,.int .i64 f.index.rows,.slice ep f.index.entries.length ec] 30 (0,0)):=by rw [hw0];exact blk_new w _
  obtain ⟨w1,hw1⟩:∃ w1,w1 = w0.alloc (.cells #[.int .u8 2] 5):=⟨_,rfl⟩
  have hz1:w1.heap.size = w.heap.size + 2:=by rw [hw1];simp [hz0]
  have HB01:Hid (Below w0.heap.size w0 w1):=by rw [hw1];exact (Below.refl _ _).alloc (Nat.le_refl _) _
  have HL1:Hid (Has w1 w0.heap.size (.slice (some ⟨w.heap.size + 1,0,none⟩) 1 1) [2]):=by
    have:=has_lit (B:=w0.heap.size) (w:=w0) [2] (C:=#[.int .u8 2]) rfl (Nat.le_refl _) (by simp)
    rw [← hw1] at this
    show Has _ _ _ _
    rw [hz0] at this ⊢
    exact this
  obtain ⟨w2,hw2⟩:∃ w2,w2 = w1.alloc (.cells #[.int .i64 f.number,.int .i64 f.seq,.int .i64 f.first,.int .i64 f.rows] 2):=⟨_,rfl⟩
  have HB12:Hid (Below w1.heap.size w1 w2):=by rw [hw2];exact (Below.refl _ _).alloc (Nat.le_refl _) _
  have HW:Hid (((w.alloc (.cells #[.int .i64 2,.int .i64 f.number,.slice sp f.cols.length sc,.int .i64 f.seq,.int .i64 f.first,.int .i64 f.rows,.slice bp f.block.length bc,.int .i64 f.index.at_,.int .i64 f.index.frames,.int .i64 f.index.rows,.slice ep f.index.entries.length ec] 30)).alloc (.cells #[.int .u8 2] 5)).alloc (.cells #[.int .i64 f.number,.int .i64 f.seq,.int .i64 f.first,.int .i64 f.rows] 2) = w2):=by rw [hw2,hw1,hw0];exact rfl
  have hin:0 ≤ f.number ∧ 0 ≤ f.seq ∧ 0 ≤ f.first ∧ 1 ≤ f.rows:=by
    unfold Fr.err0 at he
    rw [if_neg (by omega),if_pos hk] at he
    by_cases hb:(Fr.within Fr.N f.number && Fr.within Fr.S f.seq && Fr.within Fr.S f.first && decide (1 ≤ f.rows ∧ f.rows ≤ 64)) = false
    · rw [if_pos hb] at he;omega
    · rw [Bool.not_eq_false] at hb
      simp only [Bool.and_eq_true,Fr.within_iff,decide_eq_true_eq] at hb
      omega
  obtain ⟨v0,v1,v2,v3,v4,v5,v6,v7⟩:=hw
  unfold Fr.i64 at v0 v1 v3 v4 v5
  have hI:Ints w2 (w.heap.size + 2) [f.number,f.seq,f.first,f.rows]:=by
    have:=ints_new w1 [f.number,f.seq,f.first,f.rows] (C:=#[.int .i64 f.number,.int .i64 f.seq,.int .i64 f.first,.int .i64 f.rows]) rfl
    rw [← hw2,hz1] at this
    exact this
  have HP:=Lib.hid (refNums (w.heap.size + 2) [f.number,f.seq,f.first,f.rows] (by simp) (fun m hm => by
      simp only [List.mem_cons,List.not_mem_nil,or_false] at hm
      omega) w2 hI)
  have hnl:(Fr.nums [f.number,f.seq,f.first,f.rows]).length ≤ 40:=by
    have g1:=Leb.put_length_le f.number.toNat
    have g2:=Leb.put_length_le f.seq.toNat
    have g3:=Leb.put_length_le f.first.toNat
    have g4:=Leb.put_length_le f.rows.toNat
    simp only [Fr.nums_cons,Fr.nums_nil,List.append_nil,List.length_append]
    omega
  have HHd:Hid (Fr.head f = 2 :: (Fr.nums [f.number,f.seq,f.first,f.rows] ++ f.block)):=by
    show _ = _
    unfold Fr.head Fr.fields
    rw [if_neg (by omega),if_pos hk,hk]
    rfl
  have HB02:Hid (Below w0.heap.size w0 w2):=HB01.out.trans (HB12.out.mono HB01.out.size)
  have HAt:=Lib.hid h6
  rw [hk]
  have HK0:=Lib.hid hK0
  obtain ⟨ns,hns⟩:∃ ns,ns = Fr.nums [f.number,f.seq,f.first,f.rows]:=⟨_,rfl⟩
  rw [← hns] at HP hnl HHd
  clear hw0 hw1 hw2 hK0 hx h3 h6 h9 hk he hI hin hns v0 v1 v2 v3 v4 v5 v6 v7
  have hz2:=HB12.out.size
  go_enter Tryz.func11,Tryz.ntmps11
  go_wp2_with fail
  rw [HW.out]
  refine HP.out.mono ?_
  rintro e w3 ⟨p3,cap3,rfl,hh3,hb3⟩
  have HB03:=Lib.hid (HB02.out.trans (hb3.mono HB02.out.size))
  have HB13:=Lib.hid (HB12.out.trans (hb3.mono HB12.out.size))
  have hK3:=(HB03.out.block _ (by omega)).trans HK0.out
  have x0:=blk_cell hK3 0
  have x1:=blk_cell hK3 1
  have x2:=blk_cell hK3 2
  have x3:=blk_cell hK3 3
  have x4:=blk_cell hK3 4
  have x5:=blk_cell hK3 5
  have x6:=blk_cell hK3 6
  have x7:=blk_cell hK3 7
  have x8:=blk_cell hK3 8
  have x9:=blk_cell hK3 9
  have x10:=blk_cell hK3 10
  simp only [List.getElem?_toArray,List.getElem?_cons_zero,List.getElem?_cons_succ] at x0 x1 x2 x3 x4 x5 x6 x7 x8 x9 x10
  have HA3:=Lib.hid (has_slice hh3)
  have HL3:=Lib.hid (HL1.out.on HB13.out)
  have hz3:=HB03.out.size
  clear hh3 hb3 HP HW
  go_wp2_with (first
    | (at_builtin
       refine wp_ontoL HL3.out HA3.out (by first | omega | (simp only [List.length_cons,List.length_nil];omega)) (by omega) rfl rfl rfl rfl rfl ?_
       intro ys4 q4 cap4 W4 HY4 hh4 ha4 hk4
       have HBy4:=Lib.hid (aside_low ha4 HL3.out (by omega))
       have HHy4:=Lib.hid hh4
       clear ha4 hk4 hh4
       have HB04:Hid (Below w0.heap.size w0 W4):=HB03.out.trans HBy4.out
       have hK4:=(HB04.out.block _ (by omega)).trans HK0.out
       clear x0 x1 x2 x3 x4 x5 x6 x7 x8 x9 x10
       have x0:=blk_cell hK4 0
       have x1:=blk_cell hK4 1
       have x2:=blk_cell hK4 2
       have x3:=blk_cell hK4 3
       have x4:=blk_cell hK4 4
       have x5:=blk_cell hK4 5
       have x6:=blk_cell hK4 6
       have x7:=blk_cell hK4 7
       have x8:=blk_cell hK4 8
       have x9:=blk_cell hK4 9
       have x10:=blk_cell hK4 10
       simp only [List.getElem?_toArray,List.getElem?_cons_zero,List.getElem?_cons_succ] at x0 x1 x2 x3 x4 x5 x6 x7 x8 x9 x10
       have hy4:ys4.length ≤ 41:=by rw [HY4.out];simp;omega
       have hz4:=HB04.out.size
       have HA4:=Lib.hid (HAt.out.on (HB0.out.trans (HB04.out.mono HB0.out.size)))
       clear hK3 hK4)
    | (at_builtin
       refine wp_ontoL HHy4.out HA4.out (by first | omega | (simp only [List.length_cons,List.length_nil];omega)) (by omega) rfl rfl rfl rfl rfl ?_
       intro ys5 q5 cap5 W5 HY5 hh5 ha5 hk5
       have HBy5:=Lib.hid (aside_low ha5 HHy4.out (by omega))
       have HHy5:=Lib.hid hh5
       clear ha5 hk5 hh5)
    | fail)
  have HB05:Hid (Below w0.heap.size w0 W5):=HB04.out.trans HBy5.out
  have hy5:ys5.length ≤ 41 + f.block.length:=by rw [HY5.out,List.length_append];omega
  have HZ:Hid (Fr.check ys5 = Fr.check (Fr.head f)):=by show _ = _;rw [HY5.out,HY4.out,HHd.out];rfl
  have HCk:=Lib.hid (refChecked q5 cap5 ys5 (by omega) W5 (has_slice HHy5.out))
  have HBW:=HB05
  go_wp2_with fail
  refine HCk.out.mono ?_
  rintro e w9 ⟨q9,cap9,rfl,hh9,hb9⟩
  have HB9:=Lib.hid (HB0.out.trans ((HBW.out.trans (hb9.mono HBW.out.size)).mono HB0.out.size))
  have HH9:=Lib.hid (hh9.lower (B':=w.heap.size) (Nat.le_trans HB0.out.size HBW.out.size))
  clear hh9 hb9 HCk
  go_wp2
  go_ret
  rw [← HZ.out]
  exact ⟨_,_,rfl,HH9.out,HB9.out⟩
theorem refBody_1 (f:Fr) (hk:f.kind = 1) (hw:f.wf) (he:Fr.err0 f = 0) (u:Array Value) (w:World) (hx:FLies w u f) :
    Calls Tryz.prog 11 #[.agg u] w (BodyV w (Fr.check (Fr.head f))):=by
  obtain ⟨sp,sc,bp,bc,ep,ec,rfl,h1,h2,h3,h4,h5,h6,h7,h8,h9⟩:=hx.out
  unfold cells11
  obtain ⟨w0,hw0⟩:∃ w0,w0 = w.alloc (.cells #[.int .i64 1,.int .i64 f.number,.slice sp f.cols.length sc,.int .i64 f.seq,.int .i64 f.first,.int .i64 f.rows,.slice bp f.block.length bc,.int .i64 f.index.at_,.int .i64 f.index.frames,.int .i64 f.index.rows,.slice ep f.index.entries.length ec] 30):=⟨_,rfl⟩
  have hz0:w0.heap.size = w.heap.size + 1:=by rw [hw0];simp
  have HB0:Hid (Below w.heap.size w w0):=by rw [hw0];exact (Below.refl _ _).alloc (Nat.le_refl _) _
  have hK0:w0.heap[w.heap.size]? = some (.cells #[.int .i64 1,.int .i64 f.number,.slice sp f.cols.length sc,.int .i64 f.seq,.int .i64 f.first,.int .i64 f.rows,.slice bp f.block.length bc,.int .i64 f.index.at_,.int .i64 f.index.frames,.int .i64 f.index.rows,.slice ep f.index.entries.length ec] 30 (0,0)):=by rw [hw0];exact blk_new w _
  obtain ⟨w1,hw1⟩:∃ w1,w1 = w0.alloc (.cells #[.int .u8 1] 5):=⟨_,rfl⟩
  have hz1:w1.heap.size = w.heap.size + 2:=by rw [hw1];simp [hz0]
  have HB01:Hid (Below w0.heap.size w0 w1):=by rw [hw1];exact (Below.refl _ _).alloc (Nat.le_refl _) _
  have HL1:Hid (Has w1 w0.heap.size (.slice (some ⟨w.heap.size + 1,0,none⟩) 1 1) [1]):=by
    have:=has_lit (B:=w0.heap.size) (w:=w0) [1] (C:=#[.int .u8 1]) rfl (Nat.le_refl _) (by simp)
    rw [← hw1] at this
    show Has _ _ _ _
    rw [hz0] at this ⊢
    exact this
  obtain ⟨w2,hw2⟩:∃ w2,w2 = w1.alloc (.cells #[.int .i64 f.number] 2):=⟨_,rfl⟩
  have HB12:Hid (Below w1.heap.size w1 w2):=by rw [hw2];exact (Below.refl _ _).alloc (Nat.le_refl _) _
  have HW:Hid (((w.alloc (.cells #[.int .i64 1,.int .i64 f.number,.slice sp f.cols.length sc,.int .i64 f.seq,.int .i64 f.first,.int .i64 f.rows,.slice bp f.block.length bc,.int .i64 f.index.at_,.int .i64 f.index.frames,.int .i64 f.index.rows,.slice ep f.index.entries.length ec] 30)).alloc (.cells #[.int .u8 1] 5)).alloc (.cells #[.int .i64 f.number] 2) = w2):=by rw [hw2,hw1,hw0];exact rfl
  have hin:0 ≤ f.number ∧ Sch.err f.cols = 0:=by
    unfold Fr.err0 at he
    rw [if_pos hk] at he
    by_cases hb:Fr.within Fr.N f.number = false
    · rw [if_pos hb] at he;omega
    · rw [if_neg hb] at he
      rw [Bool.not_eq_false,Fr.within_iff] at hb
      exact ⟨hb.1,he⟩
  have HWf:=Lib.hid hw.2.2.1
  obtain ⟨v0,v1,-⟩:=hw
  unfold Fr.i64 at v0 v1
  have hI:Ints w2 (w.heap.size + 2) [f.number]:=by
    have:=ints_new w1 [f.number] (C:=#[.int .i64 f.number]) rfl
    rw [← hw2,hz1] at this
    exact this
  have HP:=Lib.hid (refNums (w.heap.size + 2) [f.number] (by simp) (fun m hm => by
      simp only [List.mem_cons,List.not_mem_nil,or_false] at hm
      omega) w2 hI)
  have hnl:(Fr.nums [f.number]).length ≤ 10:=by
    have g1:=Leb.put_length_le f.number.toNat
    simp only [Fr.nums_cons,Fr.nums_nil,List.append_nil]
    omega
  have HHd:Hid (Fr.head f = 1 :: (Fr.nums [f.number] ++ Sch.bytes f.cols)):=by
    show _ = _
    unfold Fr.head Fr.fields
    rw [if_pos hk,hk]
    rfl
  have hbl:(Sch.bytes f.cols).length ≤ 1024:=(Sch.err_open hin.2).2.2.2
  have HErr:=Lib.hid hin.2
  have HB02:Hid (Below w0.heap.size w0 w2):=HB01.out.trans (HB12.out.mono HB01.out.size)
  have HX:=Lib.hid h3
  rw [hk]
  have HK0:=Lib.hid hK0
  obtain ⟨ns,hns⟩:∃ ns,ns = Fr.nums [f.number]:=⟨_,rfl⟩
  rw [← hns] at HP hnl HHd
  clear hw0 hw1 hw2 hK0 hx h3 h6 h9 hk he hI hin hns v0 v1
  have hz2:=HB12.out.size
  go_enter Tryz.func11,Tryz.ntmps11
  go_wp2_with fail
  rw [HW.out]
  refine HP.out.mono ?_
  rintro e w3 ⟨p3,cap3,rfl,hh3,hb3⟩
  have HB03:=Lib.hid (HB02.out.trans (hb3.mono HB02.out.size))
  have HB13:=Lib.hid (HB12.out.trans (hb3.mono HB12.out.size))
  have hK3:=(HB03.out.block _ (by omega)).trans HK0.out
  have x0:=blk_cell hK3 0
  have x1:=blk_cell hK3 1
  have x2:=blk_cell hK3 2
  have x3:=blk_cell hK3 3
  have x4:=blk_cell hK3 4
  have x5:=blk_cell hK3 5
  have x6:=blk_cell hK3 6
  have x7:=blk_cell hK3 7
  have x8:=blk_cell hK3 8
  have x9:=blk_cell hK3 9
  have x10:=blk_cell hK3 10
  simp only [List.getElem?_toArray,List.getElem?_cons_zero,List.getElem?_cons_succ] at x0 x1 x2 x3 x4 x5 x6 x7 x8 x9 x10
  have HA3:=Lib.hid (has_slice hh3)
  have HL3:=Lib.hid (HL1.out.on HB13.out)
  have hz3:=HB03.out.size
  clear hh3 hb3 HP HW
  go_wp2_with (first
    | (at_builtin
       refine wp_ontoL HL3.out HA3.out (by first | omega | (simp only [List.length_cons,List.length_nil];omega)) (by omega) rfl rfl rfl rfl rfl ?_
       intro ys4 q4 cap4 W4 HY4 hh4 ha4 hk4
       have HBy4:=Lib.hid (aside_low ha4 HL3.out (by omega))
       have HHy4:=Lib.hid hh4
       clear ha4 hk4 hh4
       have HB04:Hid (Below w0.heap.size w0 W4):=HB03.out.trans HBy4.out
       have hK4:=(HB04.out.block _ (by omega)).trans HK0.out
       clear x0 x1 x2 x3 x4 x5 x6 x7 x8 x9 x10
       have x0:=blk_cell hK4 0
       have x1:=blk_cell hK4 1
       have x2:=blk_cell hK4 2
       have x3:=blk_cell hK4 3
       have x4:=blk_cell hK4 4
       have x5:=blk_cell hK4 5
       have x6:=blk_cell hK4 6
       have x7:=blk_cell hK4 7
       have x8:=blk_cell hK4 8
       have x9:=blk_cell hK4 9
       have x10:=blk_cell hK4 10
       simp only [List.getElem?_toArray,List.getElem?_cons_zero,List.getElem?_cons_succ] at x0 x1 x2 x3 x4 x5 x6 x7 x8 x9 x10)
    | fail)
  have hy4:ys4.length ≤ 11:=by rw [HY4.out];simp;omega
  have hz4:=HB04.out.size
  have HE:=Lib.hid (refEncode7 f.cols sp sc W4 h1 h2 (HX.out.on (HB0.out.trans (HB04.out.mono HB0.out.size))) HWf.out)
  clear hK3 hK4
  go_wp2_with fail
  refine HE.out.mono ?_
  rintro e w5 (⟨-,q5,cap5,rfl,hh5,hb5⟩ | ⟨hz,-,-⟩)
  case inr => exact absurd HErr.out hz
  have HB45:=Lib.hid hb5
  have HB05:=Lib.hid (HB04.out.trans (hb5.mono hz4))
  have HA5:=Lib.hid (has_slice hh5)
  have HH5:=Lib.hid (HHy4.out.on hb5)
  have hz5:=HB05.out.size
  clear hh5 hb5 HE
  go_wp2_with (first
    | (at_builtin
       refine wp_ontoL HH5.out HA5.out (by first | omega | (simp only [List.length_cons,List.length_nil];omega)) (by omega) rfl rfl rfl rfl rfl ?_
       intro ys6 q6 cap6 W6 HY6 hh6 ha6 hk6
       have HBy6:=Lib.hid (aside_low ha6 HH5.out (by omega))
       have HHy6:=Lib.hid hh6
       clear ha6 hk6 hh6)
    | fail)
  have HB06:Hid (Below w0.heap.size w0 W6):=HB05.out.trans HBy6.out
  have hy6:ys6.length ≤ 1100:=by rw [HY6.out,List.length_append];omega
  have HZ:Hid (Fr.check ys6 = Fr.check (Fr.head f)):=by show _ = _;rw [HY6.out,HY4.out,HHd.out];rfl
  have HCk:=Lib.hid (refChecked q6 cap6 ys6 (by omega) W6 (has_slice HHy6.out))
  have HBW:=HB06
  go_wp2_with fail
  refine HCk.out.mono ?_
  rintro e w9 ⟨q9,cap9,rfl,hh9,hb9⟩
  have HB9:=Lib.hid (HB0.out.trans ((HBW.out.trans (hb9.mono HBW.out.size)).mono HB0.out.size))
  have HH9:=Lib.hid (hh9.lower (B':=w.heap.size) (Nat.le_trans HB0.out.size HBW.out.size))
  clear hh9 hb9 HCk
  go_wp2
  go_ret
  rw [← HZ.out]
  exact ⟨_,_,rfl,HH9.out,HB9.out⟩
end Go.Proofs.YtfcblnknoljkhaaGreatDoor

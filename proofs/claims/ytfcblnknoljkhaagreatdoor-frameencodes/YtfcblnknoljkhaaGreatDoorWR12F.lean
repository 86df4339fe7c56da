import Derived.Test.YtfcblnknoljkhaaGreatDoorWR12X
import Derived.Test.YtfcblnknoljkhaaGreatDoorB02
set_option maxRecDepth 100000
set_option maxHeartbeats 4000000
namespace Go.Proofs.YtfcblnknoljkhaaGreatDoor
open Go.RowKit
theorem numsF_len:∀ l:List Int,(Fr.nums l).length ≤ 10 * l.length
 | [] => by simp [Fr.nums_nil]
 | n :: l => by
  rw [Fr.nums_cons,List.length_append,List.length_cons]
  have h1:=Leb.put_length_le n.toNat
  have h2:=numsF_len l
  omega
theorem entsF_len:∀ es:List Ent,((es.map Fr.entB).flatten).length ≤ 30 * es.length
 | [] => by simp
 | e :: es => by
  rw [List.map_cons,List.flatten_cons,List.length_append,List.length_cons]
  have h1:(Fr.entB e).length ≤ 30:=numsF_len [e.at_,e.row,e.sch]
  have h2:=entsF_len es
  omega
theorem headF_len {f:Fr} (he:Fr.err0 f = 0) (hb:f.block.length ≤ 140737488351232):(Fr.check (Fr.head f)).length ≤ 140737488400000:=by
 rw [Fr.check_length]
 unfold Fr.head
 rw [List.length_cons]
 unfold Fr.fields
 have hk:=Fr.head_fields he
 unfold Fr.err0 at he
 by_cases h1:f.kind = 1
 ·rw [if_pos h1] at he ⊢
  rw [List.length_append]
  have g1:=numsF_len [f.number]
  by_cases hb:Fr.within Fr.N f.number = false
  ·rw [if_pos hb] at he;omega
  ·rw [if_neg hb] at he
   have g2:=(Sch.err_open he).2.2.2
   simp only [List.length_cons,List.length_nil] at g1
   omega
 ·rw [if_neg h1] at he ⊢
  by_cases h2:f.kind = 2
  ·rw [if_pos h2,List.length_append]
   have g1:=numsF_len [f.number,f.seq,f.first,f.rows]
   simp only [List.length_cons,List.length_nil] at g1
   omega
  ·rw [if_neg h2] at he ⊢
   rw [if_pos (by omega)] at he
   have g1:=numsF_len [f.index.at_,f.index.frames,f.index.rows,(f.index.entries.length:Int)]
   have g2:=entsF_len f.index.entries
   simp only [List.length_cons,List.length_nil] at g1
   rw [List.length_append]
   unfold Fr.idxErr at he
   by_cases hb:(Fr.within Fr.S f.index.at_ && Fr.within Fr.S f.index.frames && Fr.within Fr.S f.index.rows) = false
   ·rw [if_pos hb] at he;omega
   ·rw [if_neg hb] at he
    by_cases h64:64 < f.index.entries.length
    ·rw [if_pos h64] at he;omega
    ·omega
theorem refEncode12 (f:Fr) (hbk:f.block.length ≤ 140737488351232) (hw:f.wf) (u:Array Value) (w:World) (hx:FLies w u f) :
    Calls Tryz.prog 5 #[.agg u] w (EncF w (Fr.err f) (0 :: (Fr.run f ++ [0]))):=by
  obtain ⟨sp,sc,bp,bc,ep,ec,hu,-⟩:=hx.out
  have HFl:=Lib.hid hx
  rw [hu] at HFl ⊢
  unfold cells11 at HFl ⊢
  have HWf:=Lib.hid hw
  obtain ⟨w0,hw0⟩:∃ w0,w0 = w.alloc (.cells #[.int .i64 f.kind,.int .i64 f.number,.slice sp f.cols.length sc,.int .i64 f.seq,.int .i64 f.first,.int .i64 f.rows,.slice bp f.block.length bc,.int .i64 f.index.at_,.int .i64 f.index.frames,.int .i64 f.index.rows,.slice ep f.index.entries.length ec] 30):=⟨_,rfl⟩
  have HB0:Hid (Below w.heap.size w w0):=by rw [hw0];exact (Below.refl _ _).alloc (Nat.le_refl _) _
  have HW0:Hid (w.alloc (.cells #[.int .i64 f.kind,.int .i64 f.number,.slice sp f.cols.length sc,.int .i64 f.seq,.int .i64 f.first,.int .i64 f.rows,.slice bp f.block.length bc,.int .i64 f.index.at_,.int .i64 f.index.frames,.int .i64 f.index.rows,.slice ep f.index.entries.length ec] 30) = w0):=by rw [hw0];exact rfl
  have HK0:Hid (w0.heap[w.heap.size]? = some (.cells #[.int .i64 f.kind,.int .i64 f.number,.slice sp f.cols.length sc,.int .i64 f.seq,.int .i64 f.first,.int .i64 f.rows,.slice bp f.block.length bc,.int .i64 f.index.at_,.int .i64 f.index.frames,.int .i64 f.index.rows,.slice ep f.index.entries.length ec] 30 (0,0))):=by rw [hw0];exact blk_new w _
  have hz0:w0.heap.size = w.heap.size + 1:=by rw [hw0];simp
  have HWr:=Lib.hid (refWrong f hw #[.int .i64 f.kind,.int .i64 f.number,.slice sp f.cols.length sc,.int .i64 f.seq,.int .i64 f.first,.int .i64 f.rows,.slice bp f.block.length bc,.int .i64 f.index.at_,.int .i64 f.index.frames,.int .i64 f.index.rows,.slice ep f.index.entries.length ec] w0 (HFl.out.on HB0.out))
  have HEr:Hid (Fr.err f = if Fr.err0 f ≠ 0 then Fr.err0 f else if 2200 < (Fr.run f).length then 2 else 0):=rfl
  have HBd:=Lib.hid (fun (he:Fr.err0 f = 0) w' (hb:Below w.heap.size w w') => refBody f hbk HWf.out he #[.int .i64 f.kind,.int .i64 f.number,.slice sp f.cols.length sc,.int .i64 f.seq,.int .i64 f.first,.int .i64 f.rows,.slice bp f.block.length bc,.int .i64 f.index.at_,.int .i64 f.index.frames,.int .i64 f.index.rows,.slice ep f.index.entries.length ec] w' (HFl.out.on hb))
  have HLn:=Lib.hid (fun (he:Fr.err0 f = 0) => headF_len he hbk)
  have HRn:Hid (Fr.run f = Cob.stuff (Fr.check (Fr.head f))):=rfl
  obtain ⟨er,her⟩:∃ er,er = Fr.err f:=⟨_,rfl⟩
  obtain ⟨e0,he0⟩:∃ e0,e0 = Fr.err0 f:=⟨_,rfl⟩
  obtain ⟨rn,hrn⟩:∃ rn,rn = Fr.run f:=⟨_,rfl⟩
  obtain ⟨bd,hbd⟩:∃ bd,bd = Fr.check (Fr.head f):=⟨_,rfl⟩
  rw [← her,← hrn]
  rw [← her,← he0,← hrn] at HEr
  rw [← hrn,← hbd] at HRn
  rw [← he0] at HWr
  rw [← he0,← hbd] at HBd
  rw [← he0,← hbd] at HLn
  clear hu hw0 hx hw her he0 hrn hbd hbk
  go_enter Tryz.func5,Tryz.ntmps5
  go_wp2_with fail
  rw [HW0.out]
  refine HWr.out.mono ?_
  rintro e w1 ⟨rfl,hb1⟩
  have HB1:=Lib.hid (HB0.out.trans (hb1.mono HB0.out.size))
  have hK1:=(hb1.block _ (by omega)).trans HK0.out
  clear hb1 HWr HW0
  by_cases hz:e0 = 0
  · subst hz
    have HEr2:Hid (er = if 2200 < rn.length then 2 else 0):=HEr.out
    have HB:=Lib.hid (HBd.out rfl w1 HB1.out)
    have hln:=HLn.out rfl
    have hz1:=HB1.out.size
    clear HEr HBd HLn
    have x0:=blk_cell hK1 0
    have x1:=blk_cell hK1 1
    have x2:=blk_cell hK1 2
    have x3:=blk_cell hK1 3
    have x4:=blk_cell hK1 4
    have x5:=blk_cell hK1 5
    have x6:=blk_cell hK1 6
    have x7:=blk_cell hK1 7
    have x8:=blk_cell hK1 8
    have x9:=blk_cell hK1 9
    have x10:=blk_cell hK1 10
    simp only [List.getElem?_toArray,List.getElem?_cons_zero,List.getElem?_cons_succ] at x0 x1 x2 x3 x4 x5 x6 x7 x8 x9 x10
    clear hK1
    go_wp2_with fail
    refine HB.out.mono ?_
    rintro e w2 ⟨q2,cap2,rfl,hh2,hb2⟩
    have HB2:=Lib.hid (HB1.out.trans (hb2.mono hz1))
    have hS:=refStuff_any q2 cap2 bd (by omega) w2 (has_slice hh2)
    rw [← HRn.out] at hS
    have HS:=Lib.hid hS
    have hz2:=HB2.out.size
    clear hh2 hb2 HB hS x0 x1 x2 x3 x4 x5 x6 x7 x8 x9 x10
    go_wp2_with fail
    refine HS.out.mono ?_
    rintro e w3 ⟨g3,cap3,rfl,hm3,hb3⟩
    have HB3:=Lib.hid (HB2.out.trans (hb3.mono hz2))
    have hz3:=HB3.out.size
    have HM3:=Lib.hid hm3
    clear hb3 HS hm3
    by_cases hlong:2200 < rn.length
    · have HEr3:Hid (er = 2):=HEr2.out.trans (if_pos hlong)
      have gl:(2200:Int) < (rn.length:Int):=by omega
      clear hlong HEr2
      go_wp2
      go_ret2
      rw [HEr3.out]
      exact encF_bad (by omega) HB3.out
    · have HEr3:Hid (er = 0):=HEr2.out.trans (if_neg hlong)
      have gl:¬ (2200:Int) < (rn.length:Int):=by omega
      clear HEr2
      have HL:=Lib.hid (has_lit (B:=w3.heap.size) (w:=w3) [0] (C:=#[.int .u8 0]) rfl (Nat.le_refl _) (by simp))
      have HB34:Hid (Below w3.heap.size w3 (w3.alloc (.cells #[.int .u8 0] 5))):=(Below.refl _ _).alloc (Nat.le_refl _) _
      have HA4:=Lib.hid (HM3.out.at.on HB34.out)
      go_wp2_with (first
        | (at_builtin
           refine wp_ontoL HL.out HA4.out (by simp only [List.length_cons,List.length_nil];omega) HB34.out.size rfl rfl rfl rfl rfl ?_
           intro ys q5 cap5 W5 HY hh5 ha5 hk5
           have HB5:=Lib.hid (HB34.out.trans (aside_low ha5 HL.out HB34.out.size))
           have HH5:=Lib.hid hh5
           have hyl:ys.length ≤ 2201:=by rw [HY.out];simp;omega
           have HYL:Hid (ys.length ≤ 2201):=hyl
           have hz5:=HB5.out.size
           clear ha5 hk5 hh5 hyl)
        | (at_builtin
           refine wp_push HH5.out 0 (by have:=HYL.out;omega) hz5 rfl rfl rfl rfl rfl rfl ?_
           intro g6 cap6 W6 hm6 hb6
           have HM6:=Lib.hid hm6
           have HB6:=Lib.hid (HB3.out.trans ((HB5.out.trans hb6).mono hz3))
           clear hm6 hb6)
        | fail)
      go_ret2
      have e6:ys ++ [0] = 0 :: (rn ++ [0]):=by rw [HY.out];rfl
      have h6:=HM6.out.has
      rw [e6] at h6
      have e7:ys.length + 1 = (0 :: (rn ++ [0])).length:=by rw [← e6,List.length_append];rfl
      rw [e7]
      exact .inl ⟨HEr3.out,_,_,rfl,h6.lower hz3,HB6.out⟩
  · have g0:((e0:Int) != 0) = true:=bne_t (by omega)
    have HEr2:Hid (er = e0):=HEr.out.trans (if_pos hz)
    have HZ:=Lib.hid hz
    clear hz HEr HBd HLn hK1
    go_wp2
    go_ret2
    rw [HEr2.out]
    exact encF_bad HZ.out HB1.out
end Go.Proofs.YtfcblnknoljkhaaGreatDoor

/- The landed frame: fields held against others (same), Same. -/
import Derived.Test.YtclhbhhlddbocaaGreatDoorK12F
import Derived.Test.YtclhbhhlddbocaaGreatDoorK12M
import Derived.Test.YtclhbhhlddbocaaGreatDoorK12P
import Derived.Test.YtclhbhhlddbocaaGreatDoorB14
import Derived.Handy
namespace Go.Proofs.YtclhbhhlddbocaaGreatDoor
open Go.RowKit

set_option maxRecDepth 100000 in
set_option maxHeartbeats 1000000 in
theorem schSameK (n m : Int) (s t : List Col) (sp tp : Option Addr) (sc tc : Nat) (w : World) (hs : s.length * 120 ≤ 140737488351232) (hx : Cols w sp s) (hy : Cols w tp t) :
    Calls Tryz.prog 244 #[.agg #[.int .i64 n, .slice sp s.length sc], .iface 142 (.agg #[.int .i64 m, .slice tp t.length tc])] w fun e w' => e = .returned (.bool (decide (n = m) && Sch.same s t)) ∧ Below w.heap.size w w' := by
  have t1 := ta_11 (.agg #[.int .i64 m, .slice tp t.length tc])
  obtain ⟨w0, hw0⟩ : ∃ w0, w0 = (w.alloc (.cells #[.int .i64 n, .slice sp s.length sc] 142)).alloc (.cells #[.int .i64 m, .slice tp t.length tc] 142) := ⟨_, rfl⟩
  have HB0 : Hid (Below w.heap.size w w0) := by rw [hw0]; exact ((Below.refl _ _).alloc (Nat.le_refl _) _).alloc (by simp) _
  have HW : Hid ((w.alloc (.cells #[.int .i64 n, .slice sp s.length sc] 142)).alloc (.cells #[.int .i64 m, .slice tp t.length tc] 142) = w0) := by rw [hw0]; exact rfl
  have HC := Lib.hid (sameSK s t sp tp sc tc w0 hs (hx.on HB0.out) (hy.on HB0.out))
  clear hw0 hx hy
  by_cases hnm : n = m
  · subst hnm
    rw [decide_eq_true rfl, Bool.true_and]
    obtain ⟨R, hR⟩ : ∃ R, R = Sch.same s t := ⟨_, rfl⟩
    rw [← hR] at HC ⊢
    clear hR
    go_enter Tryz.func244, Tryz.ntmps244
    go_wp2_with fail
    rw [HW.out]
    refine HC.out.mono ?_
    rintro e w1 ⟨rfl, hb⟩
    have HB1 := Lib.hid (HB0.out.trans (hb.mono HB0.out.size))
    clear hb HC
    go_wp2
    go_ret
    exact ⟨rfl, HB1.out⟩
  · have g1 := beq_f hnm
    rw [decide_eq_false hnm, Bool.false_and]
    clear hnm
    go_enter Tryz.func244, Tryz.ntmps244
    go_wp2
    go_ret
    rw [HW.out]
    exact ⟨rfl, HB0.out⟩

set_option maxRecDepth 100000 in
set_option maxHeartbeats 2000000 in
theorem datSameK (n q f r n2 q2 f2 r2 : Int) (b c : List UInt8) (bp cp : Option Addr) (bc cc : Nat) (w : World) (hx : At w bp b) (hy : At w cp c) :
    Calls Tryz.prog 248 #[.agg #[.int .i64 n, .int .i64 q, .int .i64 f, .int .i64 r, .slice bp b.length bc], .iface 144 (.agg #[.int .i64 n2, .int .i64 q2, .int .i64 f2, .int .i64 r2, .slice cp c.length cc])] w fun e w' => e = .returned (.bool (decide (n = n2 ∧ q = q2 ∧ f = f2 ∧ r = r2) && (b == c))) ∧ Below w.heap.size w w' := by
  have t1 := ta_22 (.agg #[.int .i64 n2, .int .i64 q2, .int .i64 f2, .int .i64 r2, .slice cp c.length cc])
  obtain ⟨w0, hw0⟩ : ∃ w0, w0 = (w.alloc (.cells #[.int .i64 n, .int .i64 q, .int .i64 f, .int .i64 r, .slice bp b.length bc] 144)).alloc (.cells #[.int .i64 n2, .int .i64 q2, .int .i64 f2, .int .i64 r2, .slice cp c.length cc] 144) := ⟨_, rfl⟩
  have HB0 : Hid (Below w.heap.size w w0) := by rw [hw0]; exact ((Below.refl _ _).alloc (Nat.le_refl _) _).alloc (by simp) _
  have HW : Hid ((w.alloc (.cells #[.int .i64 n, .int .i64 q, .int .i64 f, .int .i64 r, .slice bp b.length bc] 144)).alloc (.cells #[.int .i64 n2, .int .i64 q2, .int .i64 f2, .int .i64 r2, .slice cp c.length cc] 144) = w0) := by rw [hw0]; exact rfl
  have HC := Lib.hid (equalK bp cp bc cc b c w0 (hx.on HB0.out) (hy.on HB0.out))
  clear hw0 hx hy
  by_cases hall : n = n2 ∧ q = q2 ∧ f = f2 ∧ r = r2
  · rw [decide_eq_true hall, Bool.true_and]
    obtain ⟨rfl, rfl, rfl, rfl⟩ := hall
    obtain ⟨R, hR⟩ : ∃ R, R = (b == c) := ⟨_, rfl⟩
    rw [← hR] at HC ⊢
    clear hR
    go_enter Tryz.func248, Tryz.ntmps248
    go_wp2_with fail
    rw [HW.out]
    refine HC.out.mono ?_
    rintro e w1 ⟨rfl, hw1⟩
    rw [hw1]
    clear hw1 w1 HC
    go_wp2
    go_ret
    exact ⟨rfl, HB0.out⟩
  · rw [decide_eq_false hall, Bool.false_and]
    have hne : (¬ n = n2) ∨ (n = n2 ∧ ¬ q = q2) ∨ (n = n2 ∧ q = q2 ∧ ¬ f = f2) ∨ (n = n2 ∧ q = q2 ∧ f = f2 ∧ ¬ r = r2) := by omega
    clear hall
    rcases hne with h1 | ⟨rfl, h1⟩ | ⟨rfl, rfl, h1⟩ | ⟨rfl, rfl, rfl, h1⟩
    all_goals
      have g1 := beq_f h1
      clear h1
      go_enter Tryz.func248, Tryz.ntmps248
      go_wp2
      go_ret
      rw [HW.out]
      exact ⟨rfl, HB0.out⟩

set_option maxRecDepth 100000 in
set_option maxHeartbeats 2000000 in
theorem idxSameK (a b c a2 b2 c2 : Int) (es fs : List Ent) (ep fp : Option Addr) (ec fc : Nat) (w : World) (hl : es.length * 24 ≤ 140737488351232) (hx : Ents w ep es) (hy : Ents w fp fs) :
    Calls Tryz.prog 250 #[.agg #[.int .i64 a, .int .i64 b, .int .i64 c, .slice ep es.length ec], .iface 146 (.agg #[.int .i64 a2, .int .i64 b2, .int .i64 c2, .slice fp fs.length fc])] w fun e w' => e = .returned (.bool (Idx.same ⟨a, b, c, es⟩ ⟨a2, b2, c2, fs⟩)) ∧ Below w.heap.size w w' := by
  have t1 := ta_33 (.agg #[.int .i64 a2, .int .i64 b2, .int .i64 c2, .slice fp fs.length fc])
  obtain ⟨w0, hw0⟩ : ∃ w0, w0 = (w.alloc (.cells #[.int .i64 a, .int .i64 b, .int .i64 c, .slice ep es.length ec] 146)).alloc (.cells #[.int .i64 a2, .int .i64 b2, .int .i64 c2, .slice fp fs.length fc] 146) := ⟨_, rfl⟩
  have HB0 : Hid (Below w.heap.size w w0) := by rw [hw0]; exact ((Below.refl _ _).alloc (Nat.le_refl _) _).alloc (by simp) _
  have HW : Hid ((w.alloc (.cells #[.int .i64 a, .int .i64 b, .int .i64 c, .slice ep es.length ec] 146)).alloc (.cells #[.int .i64 a2, .int .i64 b2, .int .i64 c2, .slice fp fs.length fc] 146) = w0) := by rw [hw0]; exact rfl
  have HC := Lib.hid (entsEqK ep fp ec fc es fs hl w0 (hx.on HB0.out) (hy.on HB0.out))
  clear hw0 hx hy
  by_cases hall : a = a2 ∧ b = b2 ∧ c = c2
  · have e : Idx.same ⟨a, b, c, es⟩ ⟨a2, b2, c2, fs⟩ = decide (es.map Ent.tup = fs.map Ent.tup) := by
      unfold Idx.same
      obtain ⟨rfl, rfl, rfl⟩ := hall
      simp
    rw [e]
    obtain ⟨rfl, rfl, rfl⟩ := hall
    obtain ⟨R, hR⟩ : ∃ R, R = decide (es.map Ent.tup = fs.map Ent.tup) := ⟨_, rfl⟩
    rw [← hR] at HC ⊢
    clear hR e
    go_enter Tryz.func250, Tryz.ntmps250
    go_wp2_with fail
    rw [HW.out]
    refine HC.out.mono ?_
    rintro e w1 ⟨rfl, k, hw1⟩
    have HB1 : Hid (Below w.heap.size w w1) := by rw [hw1]; exact below_drewN HB0.out k
    clear hw1 HC
    go_wp2
    go_ret
    exact ⟨rfl, HB1.out⟩
  · have e : Idx.same ⟨a, b, c, es⟩ ⟨a2, b2, c2, fs⟩ = false := by
      unfold Idx.same
      rw [decide_eq_false_iff_not]
      rintro ⟨h1, h2, h3, _⟩
      exact hall ⟨h1, h2, h3⟩
    rw [e]
    have hne : (¬ a = a2) ∨ (a = a2 ∧ ¬ b = b2) ∨ (a = a2 ∧ b = b2 ∧ ¬ c = c2) := by omega
    clear hall e
    rcases hne with h1 | ⟨rfl, h1⟩ | ⟨rfl, rfl, h1⟩
    all_goals
      have g1 := beq_f h1
      clear h1
      go_enter Tryz.func250, Tryz.ntmps250
      go_wp2
      go_ret
      rw [HW.out]
      exact ⟨rfl, HB0.out⟩

set_option maxRecDepth 100000 in
set_option maxHeartbeats 2000000 in
theorem sameF_1 (a b : Fr) (ha : a.kind = 1) (hb : b.kind = 1) (u v : Array Value) (w : World) (hx : FLies w u a) (hy : FLies w v b) :
    Calls Tryz.prog 18 #[.agg u, .agg v] w fun e w' => e = .returned (.bool (Fr.same a b)) ∧ Below w.heap.size w w' := by
  obtain ⟨sp1, sc1, bp1, bc1, ep1, ec1, rfl, h1, h2, h3, h4, h5, h6, h7, h8, h9⟩ := hx.out
  obtain ⟨sp2, sc2, bp2, bc2, ep2, ec2, rfl, -, -, y3, -, -, y6, -, -, y9⟩ := hy.out
  unfold cells11
  have e : Fr.same a b = (decide (a.number = b.number) && Sch.same a.cols b.cols) := by
    unfold Fr.same
    rw [hb, decide_eq_true ha, Bool.true_and]
    rw [if_pos ha]
  rw [e, ha, hb]
  have HX3 := Lib.hid h3
  have HX6 := Lib.hid h6
  have HX9 := Lib.hid h9
  have HY3 := Lib.hid y3
  have HY6 := Lib.hid y6
  have HY9 := Lib.hid y9
  obtain ⟨w0, hw0⟩ : ∃ w0, w0 = (w.alloc (.cells #[.int .i64 1, .int .i64 a.number, .slice sp1 a.cols.length sc1, .int .i64 a.seq, .int .i64 a.first, .int .i64 a.rows, .slice bp1 a.block.length bc1, .int .i64 a.index.at_, .int .i64 a.index.frames, .int .i64 a.index.rows, .slice ep1 a.index.entries.length ec1] 30)).alloc (.cells #[.int .i64 1, .int .i64 b.number, .slice sp2 b.cols.length sc2, .int .i64 b.seq, .int .i64 b.first, .int .i64 b.rows, .slice bp2 b.block.length bc2, .int .i64 b.index.at_, .int .i64 b.index.frames, .int .i64 b.index.rows, .slice ep2 b.index.entries.length ec2] 30) := ⟨_, rfl⟩
  have HB0 : Hid (Below w.heap.size w w0) := by rw [hw0]; exact ((Below.refl _ _).alloc (Nat.le_refl _) _).alloc (by simp) _
  have HW : Hid ((w.alloc (.cells #[.int .i64 1, .int .i64 a.number, .slice sp1 a.cols.length sc1, .int .i64 a.seq, .int .i64 a.first, .int .i64 a.rows, .slice bp1 a.block.length bc1, .int .i64 a.index.at_, .int .i64 a.index.frames, .int .i64 a.index.rows, .slice ep1 a.index.entries.length ec1] 30)).alloc (.cells #[.int .i64 1, .int .i64 b.number, .slice sp2 b.cols.length sc2, .int .i64 b.seq, .int .i64 b.first, .int .i64 b.rows, .slice bp2 b.block.length bc2, .int .i64 b.index.at_, .int .i64 b.index.frames, .int .i64 b.index.rows, .slice ep2 b.index.entries.length ec2] 30) = w0) := by rw [hw0]; exact rfl
  have hK0 : w0.heap[w.heap.size + 1]? = some (.cells #[.int .i64 1, .int .i64 b.number, .slice sp2 b.cols.length sc2, .int .i64 b.seq, .int .i64 b.first, .int .i64 b.rows, .slice bp2 b.block.length bc2, .int .i64 b.index.at_, .int .i64 b.index.frames, .int .i64 b.index.rows, .slice ep2 b.index.entries.length ec2] 30 (0, 0)) := by rw [hw0]; exact blk_second w _ _
  have HC1 := Lib.hid (fieldsOf_1 a.number sp1 a.cols.length sc1 a.seq a.first a.rows bp1 a.block.length bc1 a.index.at_ a.index.frames a.index.rows ep1 a.index.entries.length ec1 w0)
  obtain ⟨R, hR⟩ : ∃ R, R = (decide (a.number = b.number) && Sch.same a.cols b.cols) := ⟨_, rfl⟩
  have HR := Lib.hid hR
  rw [← hR]
  have hz0 : w0.heap.size = w.heap.size + 1 + 1 := by rw [hw0]; simp
  have HK0 := Lib.hid hK0
  clear hw0 hK0 e ha hb hx hy h3 h6 h9 y3 y6 y9 hR
  go_enter Tryz.func18, Tryz.ntmps18
  go_wp2_with fail
  rw [HW.out]
  refine HC1.out.mono ?_
  rintro e w1 ⟨rfl, hb1⟩
  have hK1 := (hb1.block _ (by omega)).trans HK0.out
  have x0 := blk_cell hK1 0
  have x1 := blk_cell hK1 1
  have x2 := blk_cell hK1 2
  have x3 := blk_cell hK1 3
  have x4 := blk_cell hK1 4
  have x5 := blk_cell hK1 5
  have x6 := blk_cell hK1 6
  have x7 := blk_cell hK1 7
  have x8 := blk_cell hK1 8
  have x9 := blk_cell hK1 9
  have x10 := blk_cell hK1 10
  simp only [List.getElem?_toArray, List.getElem?_cons_zero, List.getElem?_cons_succ] at x0 x1 x2 x3 x4 x5 x6 x7 x8 x9 x10
  have HB1 := Lib.hid (HB0.out.trans (hb1.mono HB0.out.size))
  have HC2 := Lib.hid (fieldsOf_1 b.number sp2 b.cols.length sc2 b.seq b.first b.rows bp2 b.block.length bc2 b.index.at_ b.index.frames b.index.rows ep2 b.index.entries.length ec2 w1)
  clear hb1 HC1 hK1
  go_wp2_with fail
  refine HC2.out.mono ?_
  rintro e w2 ⟨rfl, hb2⟩
  have HB2 := Lib.hid (HB1.out.trans (hb2.mono HB1.out.size))
  have HC3 := Lib.hid (schSameK a.number b.number a.cols b.cols sp1 sp2 sc1 sc2 w2 h1 (HX3.out.on HB2.out) (HY3.out.on HB2.out))
  rw [← HR.out] at HC3
  clear hb2 HC2
  go_wp2_with fail
  refine HC3.out.mono ?_
  rintro e w3 ⟨rfl, hb3⟩
  have HB3 := Lib.hid (HB2.out.trans (hb3.mono HB2.out.size))
  clear hb3 HC3
  go_wp2
  go_ret
  exact ⟨rfl, HB3.out⟩
set_option maxRecDepth 100000 in
set_option maxHeartbeats 2000000 in
theorem sameF_2 (a b : Fr) (ha : a.kind = 2) (hb : b.kind = 2) (u v : Array Value) (w : World) (hx : FLies w u a) (hy : FLies w v b) :
    Calls Tryz.prog 18 #[.agg u, .agg v] w fun e w' => e = .returned (.bool (Fr.same a b)) ∧ Below w.heap.size w w' := by
  obtain ⟨sp1, sc1, bp1, bc1, ep1, ec1, rfl, h1, h2, h3, h4, h5, h6, h7, h8, h9⟩ := hx.out
  obtain ⟨sp2, sc2, bp2, bc2, ep2, ec2, rfl, -, -, y3, -, -, y6, -, -, y9⟩ := hy.out
  unfold cells11
  have e : Fr.same a b = (decide (a.number = b.number ∧ a.seq = b.seq ∧ a.first = b.first ∧ a.rows = b.rows) && (a.block == b.block)) := by
    unfold Fr.same
    rw [hb, decide_eq_true ha, Bool.true_and]
    rw [if_neg (by omega), if_pos ha]
  rw [e, ha, hb]
  have HX3 := Lib.hid h3
  have HX6 := Lib.hid h6
  have HX9 := Lib.hid h9
  have HY3 := Lib.hid y3
  have HY6 := Lib.hid y6
  have HY9 := Lib.hid y9
  obtain ⟨w0, hw0⟩ : ∃ w0, w0 = (w.alloc (.cells #[.int .i64 2, .int .i64 a.number, .slice sp1 a.cols.length sc1, .int .i64 a.seq, .int .i64 a.first, .int .i64 a.rows, .slice bp1 a.block.length bc1, .int .i64 a.index.at_, .int .i64 a.index.frames, .int .i64 a.index.rows, .slice ep1 a.index.entries.length ec1] 30)).alloc (.cells #[.int .i64 2, .int .i64 b.number, .slice sp2 b.cols.length sc2, .int .i64 b.seq, .int .i64 b.first, .int .i64 b.rows, .slice bp2 b.block.length bc2, .int .i64 b.index.at_, .int .i64 b.index.frames, .int .i64 b.index.rows, .slice ep2 b.index.entries.length ec2] 30) := ⟨_, rfl⟩
  have HB0 : Hid (Below w.heap.size w w0) := by rw [hw0]; exact ((Below.refl _ _).alloc (Nat.le_refl _) _).alloc (by simp) _
  have HW : Hid ((w.alloc (.cells #[.int .i64 2, .int .i64 a.number, .slice sp1 a.cols.length sc1, .int .i64 a.seq, .int .i64 a.first, .int .i64 a.rows, .slice bp1 a.block.length bc1, .int .i64 a.index.at_, .int .i64 a.index.frames, .int .i64 a.index.rows, .slice ep1 a.index.entries.length ec1] 30)).alloc (.cells #[.int .i64 2, .int .i64 b.number, .slice sp2 b.cols.length sc2, .int .i64 b.seq, .int .i64 b.first, .int .i64 b.rows, .slice bp2 b.block.length bc2, .int .i64 b.index.at_, .int .i64 b.index.frames, .int .i64 b.index.rows, .slice ep2 b.index.entries.length ec2] 30) = w0) := by rw [hw0]; exact rfl
  have hK0 : w0.heap[w.heap.size + 1]? = some (.cells #[.int .i64 2, .int .i64 b.number, .slice sp2 b.cols.length sc2, .int .i64 b.seq, .int .i64 b.first, .int .i64 b.rows, .slice bp2 b.block.length bc2, .int .i64 b.index.at_, .int .i64 b.index.frames, .int .i64 b.index.rows, .slice ep2 b.index.entries.length ec2] 30 (0, 0)) := by rw [hw0]; exact blk_second w _ _
  have HC1 := Lib.hid (fieldsOf_2 a.number sp1 a.cols.length sc1 a.seq a.first a.rows bp1 a.block.length bc1 a.index.at_ a.index.frames a.index.rows ep1 a.index.entries.length ec1 w0)
  obtain ⟨R, hR⟩ : ∃ R, R = (decide (a.number = b.number ∧ a.seq = b.seq ∧ a.first = b.first ∧ a.rows = b.rows) && (a.block == b.block)) := ⟨_, rfl⟩
  have HR := Lib.hid hR
  rw [← hR]
  have hz0 : w0.heap.size = w.heap.size + 1 + 1 := by rw [hw0]; simp
  have HK0 := Lib.hid hK0
  clear hw0 hK0 e ha hb hx hy h3 h6 h9 y3 y6 y9 hR
  go_enter Tryz.func18, Tryz.ntmps18
  go_wp2_with fail
  rw [HW.out]
  refine HC1.out.mono ?_
  rintro e w1 ⟨rfl, hb1⟩
  have hK1 := (hb1.block _ (by omega)).trans HK0.out
  have x0 := blk_cell hK1 0
  have x1 := blk_cell hK1 1
  have x2 := blk_cell hK1 2
  have x3 := blk_cell hK1 3
  have x4 := blk_cell hK1 4
  have x5 := blk_cell hK1 5
  have x6 := blk_cell hK1 6
  have x7 := blk_cell hK1 7
  have x8 := blk_cell hK1 8
  have x9 := blk_cell hK1 9
  have x10 := blk_cell hK1 10
  simp only [List.getElem?_toArray, List.getElem?_cons_zero, List.getElem?_cons_succ] at x0 x1 x2 x3 x4 x5 x6 x7 x8 x9 x10
  have HB1 := Lib.hid (HB0.out.trans (hb1.mono HB0.out.size))
  have HC2 := Lib.hid (fieldsOf_2 b.number sp2 b.cols.length sc2 b.seq b.first b.rows bp2 b.block.length bc2 b.index.at_ b.index.frames b.index.rows ep2 b.index.entries.length ec2 w1)
  clear hb1 HC1 hK1
  go_wp2_with fail
  refine HC2.out.mono ?_
  rintro e w2 ⟨rfl, hb2⟩
  have HB2 := Lib.hid (HB1.out.trans (hb2.mono HB1.out.size))
  have HC3 := Lib.hid (datSameK a.number a.seq a.first a.rows b.number b.seq b.first b.rows a.block b.block bp1 bp2 bc1 bc2 w2 (HX6.out.on HB2.out) (HY6.out.on HB2.out))
  rw [← HR.out] at HC3
  clear hb2 HC2
  go_wp2_with fail
  refine HC3.out.mono ?_
  rintro e w3 ⟨rfl, hb3⟩
  have HB3 := Lib.hid (HB2.out.trans (hb3.mono HB2.out.size))
  clear hb3 HC3
  go_wp2
  go_ret
  exact ⟨rfl, HB3.out⟩
set_option maxRecDepth 100000 in
set_option maxHeartbeats 2000000 in
theorem sameF_3 (a b : Fr) (ha : a.kind = 3) (hb : b.kind = 3) (u v : Array Value) (w : World) (hx : FLies w u a) (hy : FLies w v b) :
    Calls Tryz.prog 18 #[.agg u, .agg v] w fun e w' => e = .returned (.bool (Fr.same a b)) ∧ Below w.heap.size w w' := by
  obtain ⟨sp1, sc1, bp1, bc1, ep1, ec1, rfl, h1, h2, h3, h4, h5, h6, h7, h8, h9⟩ := hx.out
  obtain ⟨sp2, sc2, bp2, bc2, ep2, ec2, rfl, -, -, y3, -, -, y6, -, -, y9⟩ := hy.out
  unfold cells11
  have e : Fr.same a b = (Idx.same a.index b.index) := by
    unfold Fr.same
    rw [hb, decide_eq_true ha, Bool.true_and]
    rw [if_neg (by omega), if_neg (by omega), if_pos ha]
  rw [e, ha, hb]
  have HX3 := Lib.hid h3
  have HX6 := Lib.hid h6
  have HX9 := Lib.hid h9
  have HY3 := Lib.hid y3
  have HY6 := Lib.hid y6
  have HY9 := Lib.hid y9
  obtain ⟨w0, hw0⟩ : ∃ w0, w0 = (w.alloc (.cells #[.int .i64 3, .int .i64 a.number, .slice sp1 a.cols.length sc1, .int .i64 a.seq, .int .i64 a.first, .int .i64 a.rows, .slice bp1 a.block.length bc1, .int .i64 a.index.at_, .int .i64 a.index.frames, .int .i64 a.index.rows, .slice ep1 a.index.entries.length ec1] 30)).alloc (.cells #[.int .i64 3, .int .i64 b.number, .slice sp2 b.cols.length sc2, .int .i64 b.seq, .int .i64 b.first, .int .i64 b.rows, .slice bp2 b.block.length bc2, .int .i64 b.index.at_, .int .i64 b.index.frames, .int .i64 b.index.rows, .slice ep2 b.index.entries.length ec2] 30) := ⟨_, rfl⟩
  have HB0 : Hid (Below w.heap.size w w0) := by rw [hw0]; exact ((Below.refl _ _).alloc (Nat.le_refl _) _).alloc (by simp) _
  have HW : Hid ((w.alloc (.cells #[.int .i64 3, .int .i64 a.number, .slice sp1 a.cols.length sc1, .int .i64 a.seq, .int .i64 a.first, .int .i64 a.rows, .slice bp1 a.block.length bc1, .int .i64 a.index.at_, .int .i64 a.index.frames, .int .i64 a.index.rows, .slice ep1 a.index.entries.length ec1] 30)).alloc (.cells #[.int .i64 3, .int .i64 b.number, .slice sp2 b.cols.length sc2, .int .i64 b.seq, .int .i64 b.first, .int .i64 b.rows, .slice bp2 b.block.length bc2, .int .i64 b.index.at_, .int .i64 b.index.frames, .int .i64 b.index.rows, .slice ep2 b.index.entries.length ec2] 30) = w0) := by rw [hw0]; exact rfl
  have hK0 : w0.heap[w.heap.size + 1]? = some (.cells #[.int .i64 3, .int .i64 b.number, .slice sp2 b.cols.length sc2, .int .i64 b.seq, .int .i64 b.first, .int .i64 b.rows, .slice bp2 b.block.length bc2, .int .i64 b.index.at_, .int .i64 b.index.frames, .int .i64 b.index.rows, .slice ep2 b.index.entries.length ec2] 30 (0, 0)) := by rw [hw0]; exact blk_second w _ _
  have HC1 := Lib.hid (fieldsOf_3 a.number sp1 a.cols.length sc1 a.seq a.first a.rows bp1 a.block.length bc1 a.index.at_ a.index.frames a.index.rows ep1 a.index.entries.length ec1 w0)
  obtain ⟨R, hR⟩ : ∃ R, R = (Idx.same a.index b.index) := ⟨_, rfl⟩
  have HR := Lib.hid hR
  rw [← hR]
  have hz0 : w0.heap.size = w.heap.size + 1 + 1 := by rw [hw0]; simp
  have HK0 := Lib.hid hK0
  clear hw0 hK0 e ha hb hx hy h3 h6 h9 y3 y6 y9 hR
  go_enter Tryz.func18, Tryz.ntmps18
  go_wp2_with fail
  rw [HW.out]
  refine HC1.out.mono ?_
  rintro e w1 ⟨rfl, hb1⟩
  have hK1 := (hb1.block _ (by omega)).trans HK0.out
  have x0 := blk_cell hK1 0
  have x1 := blk_cell hK1 1
  have x2 := blk_cell hK1 2
  have x3 := blk_cell hK1 3
  have x4 := blk_cell hK1 4
  have x5 := blk_cell hK1 5
  have x6 := blk_cell hK1 6
  have x7 := blk_cell hK1 7
  have x8 := blk_cell hK1 8
  have x9 := blk_cell hK1 9
  have x10 := blk_cell hK1 10
  simp only [List.getElem?_toArray, List.getElem?_cons_zero, List.getElem?_cons_succ] at x0 x1 x2 x3 x4 x5 x6 x7 x8 x9 x10
  have HB1 := Lib.hid (HB0.out.trans (hb1.mono HB0.out.size))
  have HC2 := Lib.hid (fieldsOf_3 b.number sp2 b.cols.length sc2 b.seq b.first b.rows bp2 b.block.length bc2 b.index.at_ b.index.frames b.index.rows ep2 b.index.entries.length ec2 w1)
  clear hb1 HC1 hK1
  go_wp2_with fail
  refine HC2.out.mono ?_
  rintro e w2 ⟨rfl, hb2⟩
  have HB2 := Lib.hid (HB1.out.trans (hb2.mono HB1.out.size))
  have HC3 := Lib.hid (idxSameK a.index.at_ a.index.frames a.index.rows b.index.at_ b.index.frames b.index.rows a.index.entries b.index.entries ep1 ep2 ec1 ec2 w2 h7 (HX9.out.on HB2.out) (HY9.out.on HB2.out))
  clear hb2 HC2
  go_wp2_with fail
  refine HC3.out.mono ?_
  rintro e w3 ⟨rfl, hb3⟩
  have HB3 := Lib.hid (HB2.out.trans (hb3.mono HB2.out.size))
  clear hb3 HC3
  go_wp2
  go_ret
  exact ⟨by rw [HR.out]; rfl, HB3.out⟩
set_option maxRecDepth 100000 in
set_option maxHeartbeats 1000000 in
theorem sameF_0 (a b : Fr) (hab : a.kind = b.kind) (g1 : a.kind ≠ 1) (g2 : a.kind ≠ 2) (g3 : a.kind ≠ 3) (u v : Array Value) (w : World) (hx : FLies w u a) (hy : FLies w v b) :
    Calls Tryz.prog 18 #[.agg u, .agg v] w fun e w' => e = .returned (.bool (Fr.same a b)) ∧ Below w.heap.size w w' := by
  obtain ⟨sp1, sc1, bp1, bc1, ep1, ec1, rfl, h1, h2, h3, h4, h5, h6, h7, h8, h9⟩ := hx.out
  obtain ⟨sp2, sc2, bp2, bc2, ep2, ec2, rfl, -, -, y3, -, -, y6, -, -, y9⟩ := hy.out
  unfold cells11
  have e : Fr.same a b = true := by
    unfold Fr.same
    rw [decide_eq_true hab, Bool.true_and, if_neg g1, if_neg g2, if_neg g3]
  rw [e, ← hab]
  obtain ⟨w0, hw0⟩ : ∃ w0, w0 = (w.alloc (.cells #[.int .i64 a.kind, .int .i64 a.number, .slice sp1 a.cols.length sc1, .int .i64 a.seq, .int .i64 a.first, .int .i64 a.rows, .slice bp1 a.block.length bc1, .int .i64 a.index.at_, .int .i64 a.index.frames, .int .i64 a.index.rows, .slice ep1 a.index.entries.length ec1] 30)).alloc (.cells #[.int .i64 a.kind, .int .i64 b.number, .slice sp2 b.cols.length sc2, .int .i64 b.seq, .int .i64 b.first, .int .i64 b.rows, .slice bp2 b.block.length bc2, .int .i64 b.index.at_, .int .i64 b.index.frames, .int .i64 b.index.rows, .slice ep2 b.index.entries.length ec2] 30) := ⟨_, rfl⟩
  have HB0 : Hid (Below w.heap.size w w0) := by rw [hw0]; exact ((Below.refl _ _).alloc (Nat.le_refl _) _).alloc (by simp) _
  have HW : Hid ((w.alloc (.cells #[.int .i64 a.kind, .int .i64 a.number, .slice sp1 a.cols.length sc1, .int .i64 a.seq, .int .i64 a.first, .int .i64 a.rows, .slice bp1 a.block.length bc1, .int .i64 a.index.at_, .int .i64 a.index.frames, .int .i64 a.index.rows, .slice ep1 a.index.entries.length ec1] 30)).alloc (.cells #[.int .i64 a.kind, .int .i64 b.number, .slice sp2 b.cols.length sc2, .int .i64 b.seq, .int .i64 b.first, .int .i64 b.rows, .slice bp2 b.block.length bc2, .int .i64 b.index.at_, .int .i64 b.index.frames, .int .i64 b.index.rows, .slice ep2 b.index.entries.length ec2] 30) = w0) := by rw [hw0]; exact rfl
  have HC1 := Lib.hid (fieldsOf_0 a.kind g1 g2 g3 a.number sp1 a.cols.length sc1 a.seq a.first a.rows bp1 a.block.length bc1 a.index.at_ a.index.frames a.index.rows ep1 a.index.entries.length ec1 w0)
  clear hw0 e hab g1 g2 g3 hx hy
  go_enter Tryz.func18, Tryz.ntmps18
  go_wp2_with fail
  rw [HW.out]
  refine HC1.out.mono ?_
  rintro e w1 ⟨rfl, hb1⟩
  have HB1 := Lib.hid (HB0.out.trans (hb1.mono HB0.out.size))
  clear hb1 HC1
  go_wp2
  go_ret
  exact ⟨rfl, HB1.out⟩
set_option maxRecDepth 100000 in
set_option maxHeartbeats 1000000 in
theorem sameF_ne (a b : Fr) (hab : ¬ a.kind = b.kind) (u v : Array Value) (w : World) (hx : FLies w u a) (hy : FLies w v b) :
    Calls Tryz.prog 18 #[.agg u, .agg v] w fun e w' => e = .returned (.bool (Fr.same a b)) ∧ Below w.heap.size w w' := by
  obtain ⟨sp1, sc1, bp1, bc1, ep1, ec1, rfl, h1, h2, h3, h4, h5, h6, h7, h8, h9⟩ := hx.out
  obtain ⟨sp2, sc2, bp2, bc2, ep2, ec2, rfl, -, -, y3, -, -, y6, -, -, y9⟩ := hy.out
  unfold cells11
  have e : Fr.same a b = false := by
    unfold Fr.same
    rw [decide_eq_false hab, Bool.false_and]
  rw [e]
  have g0 : (a.kind != b.kind) = true := by rw [bne_iff_ne]; exact hab
  have HB0 : Hid (∀ o o2, Below w.heap.size w ((w.alloc o).alloc o2)) := fun o o2 => ((Below.refl _ _).alloc (Nat.le_refl _) _).alloc (by simp) _
  clear e hab hx hy
  go_enter Tryz.func18, Tryz.ntmps18
  go_wp2
  go_ret
  exact ⟨rfl, HB0.out _ _⟩
/-- P12.3 of the landed Same -/
theorem sameF (a b : Fr) (u v : Array Value) (w : World) (hx : FLies w u a) (hy : FLies w v b) :
    Calls Tryz.prog 18 #[.agg u, .agg v] w fun e w' => e = .returned (.bool (Fr.same a b)) ∧ Below w.heap.size w w' := by
  by_cases hab : a.kind = b.kind
  · by_cases h1 : a.kind = 1
    · exact sameF_1 a b h1 (hab ▸ h1) u v w hx hy
    by_cases h2 : a.kind = 2
    · exact sameF_2 a b h2 (hab ▸ h2) u v w hx hy
    by_cases h3 : a.kind = 3
    · exact sameF_3 a b h3 (hab ▸ h3) u v w hx hy
    exact sameF_0 a b hab h1 h2 h3 u v w hx hy
  · exact sameF_ne a b hab u v w hx hy
end Go.Proofs.YtclhbhhlddbocaaGreatDoor

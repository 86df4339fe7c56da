/- FrameSames, walked. -/
import Derived.Test.YtclhbhhlddbocaaGreatDoorW12B
import Derived.Test.YtclhbhhlddbocaaGreatDoorWR12S
namespace Go.Proofs.YtclhbhhlddbocaaGreatDoor
open Go.RowKit

set_option maxRecDepth 100000 in
set_option maxHeartbeats 4000000 in
theorem frameSames_any (a b : Fr) (u v : Array Value) (w : World) (hv : Hv w) (hx : FLies w u a) (hy : FLies w v b) : Calls Tryz.prog 4 #[.agg u, .agg v] w fun e w' => e = .returned (.bool true) ∧ Below w.heap.size w w' := by
  have HHv := Lib.hid hv
  have HX := Lib.hid hx
  have HY := Lib.hid hy
  obtain ⟨R, hR⟩ : ∃ R, R = Fr.same a b := ⟨_, rfl⟩
  have HR1 := Lib.hid hR.symm
  have HR2 : Hid (Fr.same b a = R) := by show _ = _; rw [Fr.same_comm b a, hR]
  obtain ⟨sp1, sc1, bp1, bc1, ep1, ec1, rfl, -⟩ := hx.out
  obtain ⟨sp2, sc2, bp2, bc2, ep2, ec2, rfl, -⟩ := hy.out
  unfold cells11 at HX HY ⊢
  generalize a.kind = ak at HX ⊢
  generalize b.kind = bk at HY ⊢
  obtain ⟨ua, hua⟩ : ∃ ua, ua = (#[.int .i64 ak, .int .i64 a.number, .slice sp1 a.cols.length sc1, .int .i64 a.seq, .int .i64 a.first, .int .i64 a.rows, .slice bp1 a.block.length bc1, .int .i64 a.index.at_, .int .i64 a.index.frames, .int .i64 a.index.rows, .slice ep1 a.index.entries.length ec1] : Array Value) := ⟨_, rfl⟩
  obtain ⟨ub, hub⟩ : ∃ ub, ub = (#[.int .i64 bk, .int .i64 b.number, .slice sp2 b.cols.length sc2, .int .i64 b.seq, .int .i64 b.first, .int .i64 b.rows, .slice bp2 b.block.length bc2, .int .i64 b.index.at_, .int .i64 b.index.frames, .int .i64 b.index.rows, .slice ep2 b.index.entries.length ec2] : Array Value) := ⟨_, rfl⟩
  obtain ⟨w0, hw0⟩ : ∃ w0, w0 = (w.alloc (.cells ua 30)).alloc (.cells ub 30) := ⟨_, rfl⟩
  have HB0 : Hid (Below w.heap.size w w0) := by rw [hw0]; exact ((Below.refl _ _).alloc (Nat.le_refl _) _).alloc (by simp) _
  have HW : Hid ((w.alloc (.cells #[.int .i64 ak, .int .i64 a.number, .slice sp1 a.cols.length sc1, .int .i64 a.seq, .int .i64 a.first, .int .i64 a.rows, .slice bp1 a.block.length bc1, .int .i64 a.index.at_, .int .i64 a.index.frames, .int .i64 a.index.rows, .slice ep1 a.index.entries.length ec1] 30)).alloc (.cells #[.int .i64 bk, .int .i64 b.number, .slice sp2 b.cols.length sc2, .int .i64 b.seq, .int .i64 b.first, .int .i64 b.rows, .slice bp2 b.block.length bc2, .int .i64 b.index.at_, .int .i64 b.index.frames, .int .i64 b.index.rows, .slice ep2 b.index.entries.length ec2] 30) = w0) := by rw [hw0, hua, hub]; exact rfl
  have HK0 : Hid (w0.heap[w.heap.size]? = some (.cells ua 30 (0, 0))) := by rw [hw0]; exact blk_first w _ _
  have HK1 : Hid (w0.heap[w.heap.size + 1]? = some (.cells ub 30 (0, 0))) := by rw [hw0]; exact blk_second w _ _
  have HZ : Hid (w0.heap.size = w.heap.size + 1 + 1) := by rw [hw0]; show _ = _; simp
  have HUA := Lib.hid hua
  have HUB := Lib.hid hub
  have hC := refSame12 a b _ _ w0 (HX.out.on HB0.out) (HY.out.on HB0.out)
  rw [HR1.out] at hC
  have HC := Lib.hid hC
  clear hC hw0 hua hub hx hy hv hR
  go_enter Tryz.func4, Tryz.ntmps4
  go_wp2_with fail
  rw [HW.out]
  refine HC.out.mono ?_
  rintro e w1 ⟨rfl, hb1⟩
  have HB1 := Lib.hid (HB0.out.trans (hb1.mono HB0.out.size))
  have HS1 : Hid (Below w0.heap.size w0 w1) := hb1
  clear hb1 HC
  go_wp2_with fail
  refine (live12 w1 (HHv.out.next HB1.out)).mono ?_
  rintro e w2 ⟨rfl, hb2⟩
  have HS2 := Lib.hid (HS1.out.trans (hb2.mono HS1.out.size))
  have hB2 := HB0.out.trans (HS2.out.mono HB0.out.size)
  have HB2 := Lib.hid hB2
  have k1 := (HS2.out.block _ (by have := HZ.out; omega)).trans HK0.out
  have k2 := (HS2.out.block _ (by have := HZ.out; omega)).trans HK1.out
  rw [HUA.out] at k1
  rw [HUB.out] at k2
  have x0 := blk_cell k1 0
  have y0 := blk_cell k2 0
  have x1 := blk_cell k1 1
  have y1 := blk_cell k2 1
  have x2 := blk_cell k1 2
  have y2 := blk_cell k2 2
  have x3 := blk_cell k1 3
  have y3 := blk_cell k2 3
  have x4 := blk_cell k1 4
  have y4 := blk_cell k2 4
  have x5 := blk_cell k1 5
  have y5 := blk_cell k2 5
  have x6 := blk_cell k1 6
  have y6 := blk_cell k2 6
  have x7 := blk_cell k1 7
  have y7 := blk_cell k2 7
  have x8 := blk_cell k1 8
  have y8 := blk_cell k2 8
  have x9 := blk_cell k1 9
  have y9 := blk_cell k2 9
  have x10 := blk_cell k1 10
  have y10 := blk_cell k2 10
  simp only [List.getElem?_toArray, List.getElem?_cons_zero, List.getElem?_cons_succ] at x0 x1 x2 x3 x4 x5 x6 x7 x8 x9 x10 y0 y1 y2 y3 y4 y5 y6 y7 y8 y9 y10
  have hC := sameF a b _ _ w2 (HX.out.on HB2.out) (HY.out.on HB2.out)
  rw [HR1.out] at hC
  have HC := Lib.hid hC
  clear hC hb2 HS1 HB1 k1 k2 hB2
  go_wp2_with fail
  refine HC.out.mono ?_
  rintro e w3 ⟨rfl, hb3⟩
  have HS3 := Lib.hid (HS2.out.trans (hb3.mono HS2.out.size))
  have hB3 := HB0.out.trans (HS3.out.mono HB0.out.size)
  have HB3 := Lib.hid hB3
  have k1 := (HS3.out.block _ (by have := HZ.out; omega)).trans HK0.out
  have k2 := (HS3.out.block _ (by have := HZ.out; omega)).trans HK1.out
  rw [HUA.out] at k1
  rw [HUB.out] at k2
  clear x0 x1 x2 x3 x4 x5 x6 x7 x8 x9 x10 y0 y1 y2 y3 y4 y5 y6 y7 y8 y9 y10
  have x0 := blk_cell k1 0
  have y0 := blk_cell k2 0
  have x1 := blk_cell k1 1
  have y1 := blk_cell k2 1
  have x2 := blk_cell k1 2
  have y2 := blk_cell k2 2
  have x3 := blk_cell k1 3
  have y3 := blk_cell k2 3
  have x4 := blk_cell k1 4
  have y4 := blk_cell k2 4
  have x5 := blk_cell k1 5
  have y5 := blk_cell k2 5
  have x6 := blk_cell k1 6
  have y6 := blk_cell k2 6
  have x7 := blk_cell k1 7
  have y7 := blk_cell k2 7
  have x8 := blk_cell k1 8
  have y8 := blk_cell k2 8
  have x9 := blk_cell k1 9
  have y9 := blk_cell k2 9
  have x10 := blk_cell k1 10
  have y10 := blk_cell k2 10
  simp only [List.getElem?_toArray, List.getElem?_cons_zero, List.getElem?_cons_succ] at x0 x1 x2 x3 x4 x5 x6 x7 x8 x9 x10 y0 y1 y2 y3 y4 y5 y6 y7 y8 y9 y10
  have hC := sameF b a _ _ w3 (HY.out.on HB3.out) (HX.out.on HB3.out)
  rw [HR2.out] at hC
  have HC := Lib.hid hC
  clear hC hb3 HS2 HB2 k1 k2 hB3
  go_wp2_with fail
  refine HC.out.mono ?_
  rintro e w4 ⟨rfl, hb4⟩
  have HS4 := Lib.hid (HS3.out.trans (hb4.mono HS3.out.size))
  have hB4 := HB0.out.trans (HS4.out.mono HB0.out.size)
  have HB4 := Lib.hid hB4
  have k1 := (HS4.out.block _ (by have := HZ.out; omega)).trans HK0.out
  have k2 := (HS4.out.block _ (by have := HZ.out; omega)).trans HK1.out
  rw [HUA.out] at k1
  rw [HUB.out] at k2
  clear x0 x1 x2 x3 x4 x5 x6 x7 x8 x9 x10 y0 y1 y2 y3 y4 y5 y6 y7 y8 y9 y10
  have x0 := blk_cell k1 0
  have y0 := blk_cell k2 0
  have x1 := blk_cell k1 1
  have y1 := blk_cell k2 1
  have x2 := blk_cell k1 2
  have y2 := blk_cell k2 2
  have x3 := blk_cell k1 3
  have y3 := blk_cell k2 3
  have x4 := blk_cell k1 4
  have y4 := blk_cell k2 4
  have x5 := blk_cell k1 5
  have y5 := blk_cell k2 5
  have x6 := blk_cell k1 6
  have y6 := blk_cell k2 6
  have x7 := blk_cell k1 7
  have y7 := blk_cell k2 7
  have x8 := blk_cell k1 8
  have y8 := blk_cell k2 8
  have x9 := blk_cell k1 9
  have y9 := blk_cell k2 9
  have x10 := blk_cell k1 10
  have y10 := blk_cell k2 10
  simp only [List.getElem?_toArray, List.getElem?_cons_zero, List.getElem?_cons_succ] at x0 x1 x2 x3 x4 x5 x6 x7 x8 x9 x10 y0 y1 y2 y3 y4 y5 y6 y7 y8 y9 y10
  have hC := sameF a a _ _ w4 (HX.out.on HB4.out) (HX.out.on HB4.out)
  rw [Fr.same_refl] at hC
  have HC := Lib.hid hC
  clear hC hb4 HS3 HB3 k1 k2 hB4
  go_wp2_with fail
  refine HC.out.mono ?_
  rintro e w5 ⟨rfl, hb5⟩
  have HB5 := Lib.hid (HB4.out.trans (hb5.mono HB4.out.size))
  clear hb5 HC
  go_wp2
  go_ret
  exact ⟨rfl, HB5.out⟩
end Go.Proofs.YtclhbhhlddbocaaGreatDoor

/- The law's floats, of two frames that are one. -/
import Derived.Test.YtnlhpndjogjejaaGreatDoorFLies
import Derived.Test.YtnlhpndjogjejaaGreatDoorB02
import Derived.Test.YtnlhpndjogjejaaGreatDoorB07
import Derived.Deep.RegionHeld3
namespace Go.Proofs.YtnlhpndjogjejaaGreatDoor
open Go.RowKit

set_option maxRecDepth 100000 in
set_option maxHeartbeats 8000000 in
theorem floats12 (f : Fr) (u v : Array Value) (w : World) (hx : FLies w u f) (hy : FLies w v f) :
    Calls Tryz.prog 8 #[.agg u, .agg v] w fun e w' => e = .returned (.bool true) ∧ Below w.heap.size w w' := by
  obtain ⟨sp1, sc1, bp1, bc1, ep1, ec1, rfl, h1, -, h3, -⟩ := hx.out
  obtain ⟨sp2, sc2, bp2, bc2, ep2, ec2, rfl, -, -, y3, -⟩ := hy.out
  unfold cells11
  obtain ⟨W0, hW0⟩ : ∃ W0, W0 = (w.alloc (.cells #[.int .i64 f.kind, .int .i64 f.number, .slice sp1 f.cols.length sc1, .int .i64 f.seq, .int .i64 f.first, .int .i64 f.rows, .slice bp1 f.block.length bc1, .int .i64 f.index.at_, .int .i64 f.index.frames, .int .i64 f.index.rows, .slice ep1 f.index.entries.length ec1] 30)).alloc (.cells #[.int .i64 f.kind, .int .i64 f.number, .slice sp2 f.cols.length sc2, .int .i64 f.seq, .int .i64 f.first, .int .i64 f.rows, .slice bp2 f.block.length bc2, .int .i64 f.index.at_, .int .i64 f.index.frames, .int .i64 f.index.rows, .slice ep2 f.index.entries.length ec2] 30) := ⟨_, rfl⟩
  have HB0 : Hid (Below w.heap.size w W0) := by rw [hW0]; exact ((Below.refl _ _).alloc (Nat.le_refl _) _).alloc (by simp) _
  have HY0 : Hid (W0.cell? ⟨w.heap.size, 2, none⟩ = some (.slice sp1 f.cols.length sc1) ∧ W0.cell? ⟨w.heap.size + 1, 2, none⟩ = some (.slice sp2 f.cols.length sc2)) := by
    rw [hW0]
    exact ⟨blk_cell (blk_first w _ _) 2, blk_cell (blk_second w _ _) 2⟩
  have HW0 : Hid ((w.alloc (.cells #[.int .i64 f.kind, .int .i64 f.number, .slice sp1 f.cols.length sc1, .int .i64 f.seq, .int .i64 f.first, .int .i64 f.rows, .slice bp1 f.block.length bc1, .int .i64 f.index.at_, .int .i64 f.index.frames, .int .i64 f.index.rows, .slice ep1 f.index.entries.length ec1] 30)).alloc (.cells #[.int .i64 f.kind, .int .i64 f.number, .slice sp2 f.cols.length sc2, .int .i64 f.seq, .int .i64 f.first, .int .i64 f.rows, .slice bp2 f.block.length bc2, .int .i64 f.index.at_, .int .i64 f.index.frames, .int .i64 f.index.rows, .slice ep2 f.index.entries.length ec2] 30) = W0) := by rw [hW0]; exact rfl
  have HX := Lib.hid h3
  have HY := Lib.hid y3
  obtain ⟨s, hs⟩ : ∃ s, s = f.cols := ⟨_, rfl⟩
  rw [← hs] at h1 HX HY HY0
  have hsl : f.cols.length = s.length := by rw [hs]
  rw [hsl]
  rw [hsl] at HW0
  clear hW0 h3 y3 hx hy hs hsl
  go_enter Tryz.func8, Tryz.ntmps8
  go_wp2_with fail
  rw [HW0.out]
  clear HW0
  go_loopw [5] (fun v5 wr => ∃ j : Nat, j ≤ s.length ∧ v5 = .int .i64 j ∧ Hid (Below W0.heap.size W0 wr)) (fun v5 _ => s.length - (intOf v5).toNat)
  case atStart => exact ⟨0, by omega, rfl, Below.refl _ _⟩
  case round =>
    obtain ⟨j, hj, rfl, HL⟩ := hrel
    have hbw : Below w.heap.size w wr := HB0.out.trans (HL.out.mono HB0.out.size)
    have m1 : wr.cell? ⟨w.heap.size, 2, none⟩ = some (.slice sp1 s.length sc1) := cell_on HL.out HY0.out.1
    have m2 : wr.cell? ⟨w.heap.size + 1, 2, none⟩ = some (.slice sp2 s.length sc2) := cell_on HL.out HY0.out.2
    by_cases hlt : j < s.length
    · have hj1 : (j : Int) < (s.length : Int) := by omega
      obtain ⟨bx, ox, kx, xp, xn, xc, uk, ui, ub, ut, up, un, uc, rfl, hbx, h9x, htx, hdx⟩ := HX.out.at j hlt
      obtain ⟨by', oy, ky, yp, yn, yc, vk, vi, vb, vt, vp, vn, vc, rfl, hby, h9y, hty, hdy⟩ := HY.out.at j hlt
      obtain ⟨-, -, -, -, a4, a5, a6, a7, a8⟩ := h9x.on hbw
      obtain ⟨-, -, -, -, c4, c5, c6, c7, c8⟩ := h9y.on hbw
      have HE : Hid (∀ w', Below w.heap.size w w' → Calls Tryz.prog 22 #[.agg #[.int .i64 uk, .int .i64 ui, .float .f64 ub, .string ut, .slice up un uc], .agg #[.int .i64 vk, .int .i64 vi, .float .f64 vb, .string vt, .slice vp vn vc]] w' fun e w'' => e = .returned (.bool true) ∧ Below w'.heap.size w' w'') := fun w' hb => by
        have := exact6 _ _ w' _ _ (hdx.on hb) (hdy.on hb)
        rw [(V.exact_iff _ _).2 rfl] at this
        exact this
      have HBw := Lib.hid hbw
      clear h9x h9y htx hty hdx hdy hbw
      go_wp2_with fail
      go_region_held3 (fun w' => w'.cell? ⟨bx, ox + j * 9 + 4, none⟩ = some (.int .i64 uk) ∧ w'.cell? ⟨bx, ox + j * 9 + 5, none⟩ = some (.int .i64 ui) ∧ w'.cell? ⟨bx, ox + j * 9 + 6, none⟩ = some (.float .f64 ub) ∧ w'.cell? ⟨bx, ox + j * 9 + 7, none⟩ = some (.string ut) ∧ w'.cell? ⟨bx, ox + j * 9 + 8, none⟩ = some (.slice up un uc) ∧ w'.cell? ⟨by', oy + j * 9 + 4, none⟩ = some (.int .i64 vk) ∧ w'.cell? ⟨by', oy + j * 9 + 5, none⟩ = some (.int .i64 vi) ∧ w'.cell? ⟨by', oy + j * 9 + 6, none⟩ = some (.float .f64 vb) ∧ w'.cell? ⟨by', oy + j * 9 + 7, none⟩ = some (.string vt) ∧ w'.cell? ⟨by', oy + j * 9 + 8, none⟩ = some (.slice vp vn vc) ∧ w'.cell? ⟨w.heap.size, 2, none⟩ = some (.slice (some ⟨bx, ox, none⟩) s.length sc1) ∧ w'.cell? ⟨w.heap.size + 1, 2, none⟩ = some (.slice (some ⟨by', oy, none⟩) s.length sc2)) (go_keep) (first
        | (go_at_call 22; refine (HE.out _ (below_drewN HBw.out _)).mono ?_; rintro e w4 ⟨rfl, hb4⟩; have hb5 := below_via (w := wr) hb4 (by rfl) (by rfl) (by rfl) (by rfl); have z4 := cell_on hb5 a4; have z5 := cell_on hb5 a5; have z6 := cell_on hb5 a6; have z7 := cell_on hb5 a7; have z8 := cell_on hb5 a8; have d4 := cell_on hb5 c4; have d5 := cell_on hb5 c5; have d6 := cell_on hb5 c6; have d7 := cell_on hb5 c7; have d8 := cell_on hb5 c8; have n1 := cell_on hb5 m1; have n2 := cell_on hb5 m2; have HB4 := Lib.hid hb5; clear hb4 hb5))
      have HN : Hid (Below W0.heap.size W0 w4) := HL.out.trans (HB4.out.mono HL.out.size)
      clear z4 z5 z6 z7 z8 d4 d5 d6 d7 d8 n1 n2 a4 a5 a6 a7 a8 c4 c5 c6 c7 c8 m1 m2 HE HB4
      go_wp2
      go_roundw
      case rel => exact ⟨j + 1, by omega, by go_num, HN⟩
      case measure => simp [intOf]; omega
    · have hjj : j = s.length := by omega
      subst hjj
      have HF := Lib.hid hbw
      clear hbw
      go_wp2
      go_ret
      exact ⟨rfl, HF.out⟩
end Go.Proofs.YtnlhpndjogjejaaGreatDoor

/- The document's own given. -/
import Derived.Test.YtdahackmmhcjoaaGreatM14
import Derived.Test.YtdahackmmhcjoaaGreatM05
import Derived.Test.YtdahackmmhcjoaaGreatM03
namespace Go.Proofs.YtdahackmmhcjoaaGreat
open Go.RowKit

attribute [local go_sem] run_store_float

set_option maxRecDepth 100000 in
set_option maxHeartbeats 4000000 in
theorem refGiven9 (s : List Col) (vs : List V) (p q : Option Addr) (cp cq : Nat) (w : World) (hs : s.length * 120 ≤ 140737488351232) (hx : Cols w p s) (hy : Items w q vs) :
    Calls Tryz.prog 13 #[.agg #[.slice p s.length cp], .agg #[.slice q vs.length cq]] w fun e w' => e = .returned (.int .i64 (Rz.given s vs : Nat)) ∧ Below w.heap.size w w' := by
  obtain ⟨W0, hW0⟩ : ∃ W0, W0 = (w.alloc (.cells #[.slice p s.length cp] 24)).alloc (.cells #[.slice q vs.length cq] 27) := ⟨_, rfl⟩
  obtain ⟨l0, l1, lb, ls⟩ := al2 w (.cells #[.slice p s.length cp] 24) (.cells #[.slice q vs.length cq] 27)
  rw [← hW0] at l0 l1 lb ls
  have HW0 := Lib.hid hW0
  have HB0 := Lib.hid lb
  have HCl : Hid (∀ w', Below W0.heap.size W0 w' → w'.cell? ⟨w.heap.size, 0, none⟩ = some (.slice p s.length cp) ∧ w'.cell? ⟨w.heap.size + 1, 0, none⟩ = some (.slice q vs.length cq)) := fun w' h => ⟨blk_at l0 h 0, blk_at l1 h 0⟩
  have HE : Hid (Rz.given s vs = if vs.length ≠ s.length then 80 else Rw.colsErr s vs) := rfl
  obtain ⟨R, hR⟩ : ∃ R, R = Rz.given s vs := ⟨_, rfl⟩
  rw [← hR] at HE ⊢
  have HX := Lib.hid hx
  have HY := Lib.hid hy
  obtain ⟨c0, c1⟩ := HCl.out W0 (Below.refl _ _)
  clear hR hW0 l0 l1 lb ls hx hy
  by_cases hl : ¬ vs.length = s.length
  · have gl : ((vs.length : Int) != (s.length : Int)) = true := bne_t (by omega)
    have HE2 : Hid (R = 80) := by show _ = _; rw [HE.out, if_pos hl]
    clear hl HE
    go_enter Tryz.func13, Tryz.ntmps13
    go_wp2
    rw [← HW0.out]
    go_ret
    exact ⟨by rw [HE2.out]; rfl, HB0.out⟩
  replace hl : vs.length = s.length := Classical.not_not.1 hl
  have gl : ((vs.length : Int) != (s.length : Int)) = false := bne_f (by omega)
  have HE2 : Hid (R = Rw.colsErr (s.drop 0) (vs.drop 0)) := by show _ = _; rw [HE.out, if_neg (by simpa using hl)]; rfl
  have hvl : vs.length * 120 ≤ 140737488351232 := by omega
  have HLn := Lib.hid hl
  clear hl HE
  go_enter Tryz.func13, Tryz.ntmps13
  go_wp2_with fail
  rw [← HW0.out]
  clear HW0 c0 c1
  go_loopw [5] (fun v5 wr => ∃ j : Nat, j ≤ vs.length ∧ v5 = .int .i64 j ∧ Hid (Below W0.heap.size W0 wr ∧ R = Rw.colsErr (s.drop j) (vs.drop j))) (fun v5 _ => vs.length - (intOf v5).toNat)
  case atStart => exact ⟨0, by omega, rfl, Below.refl _ _, HE2.out⟩
  case round =>
    obtain ⟨j, hj, rfl, HL⟩ := hrel
    have HBr : Hid (Below w.heap.size w wr) := HB0.out.trans (HL.out.1.mono HB0.out.size)
    obtain ⟨c0, c1⟩ := HCl.out wr HL.out.1
    by_cases hlv : j < vs.length
    · have hlt : j < s.length := by have := HLn.out; omega
      obtain ⟨bx, ox, k, tp, tn, tc, vk, vi, vb, vt, vp, vn, vc, rfl, _, h9, hT, -⟩ := (HX.out.on HBr.out).at j hlt
      obtain ⟨-, a1, a2, -⟩ := h9
      obtain ⟨uv, hv1, hv2⟩ := HY.out j hlv
      obtain ⟨by', oy, ky, iy, fy, ty, qy, ny, cy, rfl, _, rfl, b0, b1, b2, b3, b4⟩ := (hv2.on HBr.out).lies
      have hj1 : (j : Int) < (s.length : Int) := by omega
      have hj2 : (j : Int) < (vs.length : Int) := by omega
      have HC := Lib.hid (refCheck6 vs[j] wr _ (hv1.on HBr.out))
      have HIs : Hid (∀ w', Below wr.heap.size wr w' → Calls Tryz.prog 31 #[.agg #[.int .i64 ky, .int .i64 iy, .float .f64 fy, .string ty, .slice qy ny cy], .agg #[.int .i64 k, .slice tp tn tc]] w' fun e w'' => e = .returned (.bool (Sch.is vs[j] s[j].ty)) ∧ Below w'.heap.size w' w'') := fun w' hb => refIs7 vs[j] s[j].ty w' _ _ ((hv1.on HBr.out).on hb) (hT.on hb)
      have HDr := Lib.hid (colsErr_drop9 s vs j hlt hlv)
      have HVe : Hid (Rw.vErr s[j].ty vs[j] = if chk 1 vs[j] ≠ 0 then chk 1 vs[j] else if Sch.is vs[j] s[j].ty then 0 else 80) := rfl
      obtain ⟨er, her⟩ : ∃ er, er = Rw.vErr s[j].ty vs[j] := ⟨_, rfl⟩
      rw [← her] at HDr HVe
      unfold cells5 at HC
      generalize chk 1 vs[j] = ce at *
      generalize Sch.is vs[j] s[j].ty = ib at *
      clear hT her hv1 hv2
      go_wp2_with fail
      refine HC.out.mono ?_
      rintro e w1 ⟨rfl, hb1⟩
      have HB1 := Lib.hid hb1
      have HB1W := Lib.hid (HL.out.1.trans (hb1.mono HL.out.1.size))
      have HB1w := Lib.hid (HBr.out.trans (hb1.mono HBr.out.size))
      by_cases h0 : ¬ ce = 0
      · have g0 : ((ce : Int) != 0) = true := bne_t (by omega)
        have HF : Hid (R = ce) := by
          show _ = _
          have : er = ce := by rw [HVe.out, if_pos h0]
          rw [HL.out.2, HDr.out, if_neg (by omega), this]
        clear h0 hb1 a1 a2 b0 b1 b2 b3 b4 c0 c1
        go_wp2
        go_ret
        exact ⟨by rw [HF.out]; rfl, HB1w.out⟩
      replace h0 : ce = 0 := Classical.not_not.1 h0
      have g0 : ((ce : Int) != 0) = false := bne_f (by omega)
      have HVe2 : Hid (er = if ib then 0 else 80) := by show _ = _; rw [HVe.out, if_neg (by omega)]
      have d0 := cell_on hb1 c1
      have d1 := cell_on hb1 c0
      have d2 := cell_on hb1 a1
      have d3 := cell_on hb1 a2
      have d4 := cell_on hb1 b0
      have d5 := cell_on hb1 b1
      have d6 := cell_on hb1 b2
      have d7 := cell_on hb1 b3
      have d8 := cell_on hb1 b4
      have HIs2 : Hid (∀ w', Below w1.heap.size w1 w' → Calls Tryz.prog 31 #[.agg #[.int .i64 ky, .int .i64 iy, .float .f64 fy, .string ty, .slice qy ny cy], .agg #[.int .i64 k, .slice tp tn tc]] w' fun e w'' => e = .returned (.bool ib) ∧ Below w'.heap.size w' w'') := fun w' h => HIs.out w' (HB1.out.trans (h.mono HB1.out.size))
      clear h0 hb1 a1 a2 b0 b1 b2 b3 b4 c0 c1 HIs HC HVe
      go_wp2_with fail
      go_region_held3 (fun w' => w'.cell? ⟨w.heap.size + 1, 0, none⟩ = some (.slice (some ⟨by', oy, none⟩) vs.length cq) ∧ w'.cell? ⟨w.heap.size, 0, none⟩ = some (.slice (some ⟨bx, ox, none⟩) s.length cp) ∧ w'.cell? ⟨bx, ox + j * 9 + 1, none⟩ = some (.int .i64 k) ∧ w'.cell? ⟨bx, ox + j * 9 + 2, none⟩ = some (.slice tp tn tc) ∧ w'.cell? ⟨by', oy + j * 5, none⟩ = some (.int .i64 ky) ∧ w'.cell? ⟨by', oy + j * 5 + 1, none⟩ = some (.int .i64 iy) ∧ w'.cell? ⟨by', oy + j * 5 + 2, none⟩ = some (.float .f64 fy) ∧ w'.cell? ⟨by', oy + j * 5 + 3, none⟩ = some (.string ty) ∧ w'.cell? ⟨by', oy + j * 5 + 4, none⟩ = some (.slice qy ny cy)) (go_keep) (first
        | (go_at_call 31; refine (HIs2.out _ (below_drewN (Below.refl _ _) _)).mono ?_; rintro e w4 ⟨rfl, hb4⟩; have hb5 := below_via (w := w1) hb4 (by rfl) (by rfl) (by rfl) (by rfl); have z0 := cell_on hb5 d0; have z1 := cell_on hb5 d1; have z2 := cell_on hb5 d2; have z3 := cell_on hb5 d3; have z4 := cell_on hb5 d4; have z5 := cell_on hb5 d5; have z6 := cell_on hb5 d6; have z7 := cell_on hb5 d7; have z8 := cell_on hb5 d8; have HB4 := Lib.hid (HB1w.out.trans (hb5.mono HB1w.out.size)); have HB42 := Lib.hid (HB1W.out.trans (hb5.mono HB1W.out.size)); clear hb4 hb5))
      clear z0 z1 z2 z3 z4 z5 z6 z7 z8 d0 d1 d2 d3 d4 d5 d6 d7 d8 HIs2
      cases ib with
      | true =>
        have HN : Hid (Below W0.heap.size W0 w4 ∧ R = Rw.colsErr (s.drop (j + 1)) (vs.drop (j + 1))) := ⟨HB42.out, by rw [HL.out.2, HDr.out, if_pos (by rw [HVe2.out]; rfl)]⟩
        go_wp2
        go_roundw
        case rel => exact ⟨j + 1, by omega, by go_num, HN⟩
        case measure => simp [intOf]; omega
      | false =>
        have HF : Hid (R = 80) := by
          show _ = _
          have : er = 80 := HVe2.out
          rw [HL.out.2, HDr.out, if_neg (by omega), this]
        go_wp2
        go_ret
        exact ⟨by rw [HF.out]; rfl, HB4.out⟩
    · have hjn : ¬ (j : Int) < (vs.length : Int) := by omega
      have HF : Hid (R = 0) := by
        show _ = _
        rw [HL.out.2, List.drop_eq_nil_of_le (by have := HLn.out; omega)]
        rfl
      clear hlv
      go_wp2
      go_ret
      exact ⟨by rw [HF.out]; rfl, HBr.out⟩
end Go.Proofs.YtdahackmmhcjoaaGreat

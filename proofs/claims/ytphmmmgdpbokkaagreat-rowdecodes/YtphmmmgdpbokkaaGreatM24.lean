/- WRowT: put together. -/
import Derived.Test.YtphmmmgdpbokkaaGreatM23

/- The document's Check, Encode of rows. -/
namespace Go.Proofs.YtphmmmgdpbokkaaGreat
open Go.RowKit

attribute [local go_sem] run_store_float

theorem colsErr_chk : ∀ (s : List Col) (vs : List V), vs.length = s.length → Rw.colsErr s vs = 0 → ∀ v ∈ vs, chk 1 v = 0
  | [], [], _, _, v, hv => by cases hv
  | [], _ :: _, h, _, _, _ => by simp at h
  | _ :: _, [], h, _, _, _ => by simp at h
  | c :: s, x :: vs, h, he, v, hv => by
    rw [Rw.colsErr] at he
    split at he
    · next h0 =>
      rcases List.mem_cons.1 hv with rfl | hv
      · exact (Rw.vErr_zero h0).2.1
      · exact colsErr_chk s vs (by simpa using h) he v hv
    · next h0 => exact absurd he h0
theorem colsErr_drop (s : List Col) (vs : List V) (j : Nat) (h1 : j < s.length) (h2 : j < vs.length) : Rw.colsErr (s.drop j) (vs.drop j) = if Rw.vErr s[j].ty vs[j] = 0 then Rw.colsErr (s.drop (j + 1)) (vs.drop (j + 1)) else Rw.vErr s[j].ty vs[j] := by
  rw [List.drop_eq_getElem_cons h1, List.drop_eq_getElem_cons h2, Rw.colsErr]

set_option maxRecDepth 100000 in
set_option maxHeartbeats 1000000 in
theorem refCheck8 (s : List Col) (p : Option Addr) (cp : Nat) (vs : List V) (q : Option Addr) (cq : Nat) (w : World) (hl : s.length * 120 ≤ 140737488351232) (hcp : s.length ≤ cp) (hx : Cols w p s) (hw : ∀ c ∈ s, c.wf) (hv : Items w q vs) (hvw : ∀ v ∈ vs, v.wf) (hvl : vs.length * 64 ≤ 140737488351232) :
    Calls Tryz.prog 18 #[.agg #[.slice p s.length cp], .agg #[.slice q vs.length cq]] w fun e w' => e = .returned (.int .i64 (Rw.err s vs : Nat)) ∧ Below w.heap.size w w' := by
  obtain ⟨W0, hW0⟩ : ∃ W0, W0 = (w.alloc (.cells #[.slice p s.length cp] 24)).alloc (.cells #[.slice q vs.length cq] 27) := ⟨_, rfl⟩
  have HB0 : Hid (Below w.heap.size w W0) := by rw [hW0]; exact ((Below.refl _ _).alloc (Nat.le_refl _) _).alloc (by simp) _
  have HY : Hid (W0.cell? ⟨w.heap.size, 0, none⟩ = some (.slice p s.length cp) ∧ W0.cell? ⟨w.heap.size + 1, 0, none⟩ = some (.slice q vs.length cq)) := by rw [hW0]; exact ⟨by simp, by simp⟩
  have HW0 := Lib.hid hW0
  have HC := Lib.hid (refCheck7 s p cp W0 hl hcp (hx.on HB0.out) hw)
  have HOp := Lib.hid (fun h => Sch.err_open (s := s) h)
  obtain ⟨R, hR⟩ : ∃ R, R = Rw.err s vs := ⟨_, rfl⟩
  have HR := Lib.hid (hR.trans (by rw [Rw.err] : Rw.err s vs = _))
  rw [← hR]
  obtain ⟨er, her⟩ : ∃ er, er = Sch.err s := ⟨_, rfl⟩
  rw [← her] at HC HR HOp
  have HX := Lib.hid hx
  have HV := Lib.hid hv
  have HVW := Lib.hid hvw
  clear hW0 hR hx hw her hv hvw
  go_enter Tryz.func18, Tryz.ntmps18
  go_wp2_with fail
  rw [← HW0.out]
  clear HW0
  refine HC.out.mono ?_
  rintro e w1 ⟨rfl, hb1⟩
  have HB1 := Lib.hid hb1
  have HBw1 := Lib.hid (HB0.out.trans (hb1.mono HB0.out.size))
  clear hb1 HC
  by_cases h0 : ¬ er = 0
  · have g0 : ((er : Int) != 0) = true := bne_t (by omega)
    have HE : Hid (R = er) := by show _ = _; rw [HR.out, if_pos h0]
    clear HR h0 HOp
    go_wp2
    go_ret
    exact ⟨by rw [HE.out]; rfl, HBw1.out⟩
  have g0 : ((er : Int) != 0) = false := bne_f (by omega)
  have HR1 := Lib.hid (HR.out.trans (if_neg h0))
  have hn16 : s.length ≤ 16 := (HOp.out (by omega)).2.1
  clear HR HOp h0
  have n0 := cell_on HB1.out HY.out.1
  have n1 := cell_on HB1.out HY.out.2
  by_cases h1 : ¬ vs.length = s.length
  · have g1 : ((vs.length : Int) != (s.length : Int)) = true := bne_t (by omega)
    have HE : Hid (R = 80) := by show _ = _; rw [HR1.out, if_pos h1]
    clear HR1 h1
    go_wp2
    go_ret
    exact ⟨by rw [HE.out]; rfl, HBw1.out⟩
  have g1 : ((vs.length : Int) != (s.length : Int)) = false := bne_f (by omega)
  have HR2 := Lib.hid (HR1.out.trans (if_neg h1))
  have HVS : Hid (vs.length = s.length) := by show _ = _; omega
  have hn16v : vs.length ≤ 16 := by have := HVS.out; omega
  clear HR1 h1
  go_wp2_with fail
  go_loopw [6, 7] (fun v6 _ wr => ∃ j : Nat, j ≤ vs.length ∧ v6 = .int .i64 j ∧ Hid (Below W0.heap.size W0 wr ∧ Rw.colsErr s vs = Rw.colsErr (s.drop j) (vs.drop j))) (fun v6 _ _ => vs.length - (intOf v6).toNat)
  case atStart => exact ⟨0, by omega, rfl, HB1.out, rfl⟩
  case round =>
    clear n0 n1
    obtain ⟨j, hj, rfl, HL⟩ := hrel
    have hbw : Below w.heap.size w wr := HB0.out.trans (HL.out.1.mono HB0.out.size)
    have n0 : wr.cell? ⟨w.heap.size, 0, none⟩ = some (.slice p s.length cp) := cell_on HL.out.1 HY.out.1
    have n1 : wr.cell? ⟨w.heap.size + 1, 0, none⟩ = some (.slice q vs.length cq) := cell_on HL.out.1 HY.out.2
    by_cases hlt : j < vs.length
    · have hls : j < s.length := by have := HVS.out; omega
      have hj1 : (j : Int) < (vs.length : Int) := by omega
      have hj2 : (j : Int) < (s.length : Int) := by omega
      obtain ⟨bx, ox, k, tp, tn, tc, vk, vi, vb, vt, vp, vn, vc, rfl, hbx, h9, hty, -⟩ := HX.out.at j hls
      obtain ⟨-, a1, a2, -⟩ := h9.on hbw
      obtain ⟨ux, hvx, hix⟩ := HV.out j hlt
      obtain ⟨by', oy, ky, iy, fy, ty, qy, ny, cy, rfl, _, rfl, c0, c1, c2, c3, c4⟩ := (hix.on hbw).lies
      have HC : Hid (∀ w', Below w.heap.size w w' → Calls Tryz.prog 38 #[.agg #[.int .i64 k, .slice tp tn tc], .agg #[.int .i64 ky, .int .i64 iy, .float .f64 fy, .string ty, .slice qy ny cy]] w' fun e w'' => e = .returned (.int .i64 (Rw.vErr s[j].ty vs[j] : Nat)) ∧ Below w'.heap.size w' w'') := fun w' hb => refValue8 _ _ w' _ _ (hty.on hb) (hvx.on hb)
      have HAt2 := Lib.hid (HL.out.2.trans (colsErr_drop s vs j hls hlt))
      have HBw := Lib.hid hbw
      have HBW := Lib.hid HL.out.1
      obtain ⟨z, hz⟩ : ∃ z, z = Rw.vErr s[j].ty vs[j] := ⟨_, rfl⟩
      rw [← hz] at HC HAt2
      clear h9 hty hbw HL hz hvx hix
      go_wp2_with fail
      go_region_held3 (fun w' => w'.cell? ⟨bx, ox + j * 9 + 1, none⟩ = some (.int .i64 k) ∧ w'.cell? ⟨bx, ox + j * 9 + 2, none⟩ = some (.slice tp tn tc) ∧ w'.cell? ⟨by', oy + j * 5, none⟩ = some (.int .i64 ky) ∧ w'.cell? ⟨by', oy + j * 5 + 1, none⟩ = some (.int .i64 iy) ∧ w'.cell? ⟨by', oy + j * 5 + 2, none⟩ = some (.float .f64 fy) ∧ w'.cell? ⟨by', oy + j * 5 + 3, none⟩ = some (.string ty) ∧ w'.cell? ⟨by', oy + j * 5 + 4, none⟩ = some (.slice qy ny cy) ∧ w'.cell? ⟨w.heap.size, 0, none⟩ = some (.slice (some ⟨bx, ox, none⟩) s.length cp) ∧ w'.cell? ⟨w.heap.size + 1, 0, none⟩ = some (.slice (some ⟨by', oy, none⟩) vs.length cq)) (go_keep) (first
        | (go_at_call 38; refine (HC.out _ (below_drewN HBw.out _)).mono ?_; rintro e w4 ⟨rfl, hb4⟩; have hb5 := below_via (w := wr) hb4 (by rfl) (by rfl) (by rfl) (by rfl); have z1 := cell_on hb5 a1; have z2 := cell_on hb5 a2; have y0 := cell_on hb5 c0; have y1 := cell_on hb5 c1; have y2 := cell_on hb5 c2; have y3 := cell_on hb5 c3; have y4 := cell_on hb5 c4; have z9 := cell_on hb5 n0; have z10 := cell_on hb5 n1; have HB4 := Lib.hid hb5; clear hb4 hb5))
      clear z1 z2 y0 y1 y2 y3 y4 z9 z10 a1 a2 c0 c1 c2 c3 c4 n0 n1
      by_cases hz0 : z = 0
      · have hzb : ((z : Int) != 0) = false := by rw [hz0]; rfl
        have HN : Hid (Below W0.heap.size W0 w4 ∧ Rw.colsErr s vs = Rw.colsErr (s.drop (j + 1)) (vs.drop (j + 1))) := ⟨HBW.out.trans (HB4.out.mono HBW.out.size), by rw [HAt2.out, if_pos hz0]⟩
        clear HB4 HC hz0 HAt2
        go_wp2
        go_roundw
        case rel => exact ⟨j + 1, by omega, by go_num, HN⟩
        case measure => simp [intOf]; omega
      · have hzb : ((z : Int) != 0) = true := by rw [bne_iff_ne]; omega
        have HE : Hid (R = z) := by
          show _ = _
          have e : Rw.colsErr s vs = z := by rw [HAt2.out, if_neg hz0]
          rw [HR2.out, if_pos (by rw [e]; exact hz0), e]
        have HF := Lib.hid (HBw.out.trans (HB4.out.mono HBw.out.size))
        clear HB4 HC hz0 HAt2 HR2
        go_wp2
        go_ret
        exact ⟨by rw [HE.out]; rfl, HF.out⟩
    · have hjn : ¬ (j : Int) < (vs.length : Int) := by omega
      have hc0 : Rw.colsErr s vs = 0 := by rw [HL.out.2, List.drop_eq_nil_of_le (by have := HVS.out; omega), List.drop_eq_nil_of_le (by omega)]; rfl
      have HR3 := Lib.hid (HR2.out.trans (if_neg (by rw [hc0]; simp)))
      have hck := colsErr_chk s vs HVS.out hc0
      have HC := Lib.hid (refBytesOf8 vs q cq wr (by omega) (HV.out.on hbw) (fun v hv => ⟨hck v hv, HVW.out v hv⟩))
      have HBw := Lib.hid hbw
      have hLn := bytes_small vs (by omega) hck
      obtain ⟨L, hL⟩ : ∃ L, L = Rw.bytes vs := ⟨_, rfl⟩
      rw [← hL] at HC HR3 hLn
      clear HL hbw hL hc0 HR2 hck
      go_wp2_with fail
      refine HC.out.mono ?_
      rintro e w2 ⟨q2, cap, rfl, hq, hb2⟩
      have HB2 := Lib.hid (HBw.out.trans (hb2.mono HBw.out.size))
      clear hq hb2
      by_cases h2 : 1024 < L.length
      · have g2 : (1024 : Int) < (L.length : Int) := by omega
        have HE : Hid (R = 2) := by show _ = _; rw [HR3.out, if_pos h2]
        clear HR3 h2
        go_wp2
        go_ret
        exact ⟨by rw [HE.out]; rfl, HB2.out⟩
      · have g2 : ¬ (1024 : Int) < (L.length : Int) := by omega
        have HE : Hid (R = 0) := by show _ = _; rw [HR3.out, if_neg h2]
        clear HR3 h2
        go_wp2
        go_ret
        exact ⟨by rw [HE.out]; rfl, HB2.out⟩

set_option maxRecDepth 100000 in
set_option maxHeartbeats 1000000 in
theorem refEncode8 (s : List Col) (p : Option Addr) (cp : Nat) (vs : List V) (q : Option Addr) (cq : Nat) (w : World) (hl : s.length * 120 ≤ 140737488351232) (hcp : s.length ≤ cp) (hx : Cols w p s) (hw : ∀ c ∈ s, c.wf) (hv : Items w q vs) (hvw : ∀ v ∈ vs, v.wf) (hvl : vs.length * 64 ≤ 140737488351232) :
    Calls Tryz.prog 7 #[.agg #[.slice p s.length cp], .agg #[.slice q vs.length cq]] w (EncR w (Rw.err s vs) (Rw.bytes vs)) := by
  obtain ⟨W0, hW0⟩ : ∃ W0, W0 = (w.alloc (.cells #[.slice p s.length cp] 24)).alloc (.cells #[.slice q vs.length cq] 27) := ⟨_, rfl⟩
  have HB0 : Hid (Below w.heap.size w W0) := by rw [hW0]; exact ((Below.refl _ _).alloc (Nat.le_refl _) _).alloc (by simp) _
  have HY : Hid (W0.cell? ⟨w.heap.size, 0, none⟩ = some (.slice p s.length cp) ∧ W0.cell? ⟨w.heap.size + 1, 0, none⟩ = some (.slice q vs.length cq)) := by rw [hW0]; exact ⟨by simp, by simp⟩
  have HW0 := Lib.hid hW0
  have HC := Lib.hid (refCheck8 s p cp vs q cq W0 hl hcp (hx.on HB0.out) hw (hv.on HB0.out) hvw hvl)
  have HBy : Hid (∀ w', Below w.heap.size w w' → Rw.err s vs = 0 → Calls Tryz.prog 19 #[.agg #[.slice q vs.length cq]] w' (FreshB w' (Rw.bytes vs))) := fun w' hb h => by
    obtain ⟨h1, h2, h3, h4⟩ := Rw.err_open h
    have h16 := (Sch.err_open h1).2.1
    have hck := colsErr_chk s vs h2 h3
    exact refBytesOf8 vs q cq w' (by omega) (hv.on hb) (fun v hv => ⟨hck v hv, hvw v hv⟩)
  obtain ⟨R, hR⟩ : ∃ R, R = Rw.err s vs := ⟨_, rfl⟩
  obtain ⟨L, hL⟩ : ∃ L, L = Rw.bytes vs := ⟨_, rfl⟩
  unfold EncR
  rw [← hR, ← hL]
  rw [← hR] at HC
  rw [← hL, ← hR] at HBy
  clear hW0 hx hw hR hL hv hvw
  go_enter Tryz.func7, Tryz.ntmps7
  go_wp2_with fail
  rw [← HW0.out]
  clear HW0
  refine HC.out.mono ?_
  rintro e w1 ⟨rfl, hb1⟩
  have n0 := cell_on hb1 HY.out.1
  have n1 := cell_on hb1 HY.out.2
  have HB1 := Lib.hid (HB0.out.trans (hb1.mono HB0.out.size))
  clear hb1 HC
  by_cases h0 : R = 0
  · have g0 : ((R : Int) != 0) = false := by rw [h0]; rfl
    have HCB := Lib.hid (HBy.out w1 HB1.out h0)
    have HR0 := Lib.hid h0
    clear h0 HBy
    go_wp2_with fail
    refine HCB.out.mono ?_
    rintro e w2 ⟨q2, cap, rfl, hq, hb2⟩
    have HQ := Lib.hid (hq.lower HB1.out.size)
    have HB2 := Lib.hid (HB1.out.trans (hb2.mono HB1.out.size))
    clear hq hb2 HCB n0 n1
    go_wp2
    go_ret2
    exact .inl ⟨HR0.out, q2, cap, rfl, HQ.out, HB2.out⟩
  · have g0 : ((R : Int) != 0) = true := by rw [bne_iff_ne]; omega
    have HR0 := Lib.hid h0
    clear h0 HBy
    go_wp2
    go_ret2
    exact .inr ⟨HR0.out, rfl, HB1.out⟩
end Go.Proofs.YtphmmmgdpbokkaaGreat

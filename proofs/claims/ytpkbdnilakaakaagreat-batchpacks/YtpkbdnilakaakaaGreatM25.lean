/- WRowR, WRowS, WRowT: put together. -/
import Derived.Test.YtpkbdnilakaakaaGreatM15
import Derived.Test.YtpkbdnilakaakaaGreatM22
import Derived.Test.YtpkbdnilakaakaaGreatM12

/- The document's value, EncodeValue, bytesOf, Check, Encode of rows. -/
namespace Go.Proofs.YtpkbdnilakaakaaGreat
open Go.RowKit

attribute [local go_sem] run_store_float

set_option maxRecDepth 100000 in
set_option maxHeartbeats 1000000 in
theorem refValue8 (y : Ty) (x : V) (w : World) (u v : Array Value) (hy : TLies w u y) (hx : VLies w v x) : Calls Tryz.prog 66 #[.agg u, .agg v] w fun e w' => e = .returned (.int .i64 (Rw.vErr y x : Nat)) ∧ Below w.heap.size w w' := by
  obtain ⟨k, i, b, t, xs⟩ := x
  obtain ⟨k', ys⟩ := y
  obtain ⟨p, c, rfl, -⟩ := hx.open
  obtain ⟨q, e, rfl, -⟩ := hy.open
  obtain ⟨W0, hW0⟩ : ∃ W0, W0 = (w.alloc (.cells (cells2 k' q ys.length e) 67)).alloc (.cells (cells5 k i b t p xs.length c) 44) := ⟨_, rfl⟩
  have HB0 : Hid (Below w.heap.size w W0) := by rw [hW0]; exact ((Below.refl _ _).alloc (Nat.le_refl _) _).alloc (by simp) _
  have HX := Lib.hid (hx.on HB0.out)
  have HTy := Lib.hid (hy.on HB0.out)
  have HCv := Lib.hid (refCheck6 _ W0 _ HX.out)
  have HIs := Lib.hid (fun w' (hb : Below W0.heap.size W0 w') => refIs7 _ _ w' _ _ (HX.out.on hb) (HTy.out.on hb))
  have HY : Hid (W0.cell? ⟨w.heap.size + 1, 0, none⟩ = some (.int .i64 k) ∧ W0.cell? ⟨w.heap.size + 1, 1, none⟩ = some (.int .i64 i) ∧ W0.cell? ⟨w.heap.size + 1, 2, none⟩ = some (.float .f64 b) ∧ W0.cell? ⟨w.heap.size + 1, 3, none⟩ = some (.string t) ∧ W0.cell? ⟨w.heap.size + 1, 4, none⟩ = some (.slice p xs.length c) ∧ W0.cell? ⟨w.heap.size, 0, none⟩ = some (.int .i64 k') ∧ W0.cell? ⟨w.heap.size, 1, none⟩ = some (.slice q ys.length e)) := by rw [hW0]; exact ⟨by simp [cells5], by simp [cells5], by simp [cells5], by simp [cells5], by simp [cells5], by simp [cells2], by simp [cells2]⟩
  have HW0 := Lib.hid hW0
  obtain ⟨R, hR⟩ : ∃ R, R = Rw.vErr (.mk k' ys) (.mk k i b t xs) := ⟨_, rfl⟩
  have HI := Lib.hid (hR.trans (by rw [Rw.vErr] : Rw.vErr (.mk k' ys) (.mk k i b t xs) = _))
  rw [← hR]
  obtain ⟨cv, hcv⟩ : ∃ cv, cv = chk 1 (.mk k i b t xs) := ⟨_, rfl⟩
  rw [← hcv] at HCv HI
  obtain ⟨co, hco⟩ : ∃ co, co = Sch.is (.mk k i b t xs) (.mk k' ys) := ⟨_, rfl⟩
  rw [← hco] at HI HIs
  clear hW0 hx hy hR hcv hco HX HTy
  unfold cells5 cells2 at *
  go_enter Tryz.func66, Tryz.ntmps66
  go_wp2_with fail
  rw [← HW0.out]
  clear HW0
  refine HCv.out.mono ?_
  rintro e w1 ⟨rfl, hb1⟩
  have HB1 := Lib.hid hb1
  clear hb1
  by_cases h1 : cv = 0
  · have g1 : ((cv : Int) != 0) = false := bne_f (by omega)
    obtain ⟨y0, y1, y2, y3, y4, y5, y6⟩ := HY.out
    have c0 := cell_on HB1.out y0
    have c1 := cell_on HB1.out y1
    have c2 := cell_on HB1.out y2
    have c3 := cell_on HB1.out y3
    have c4 := cell_on HB1.out y4
    have c5 := cell_on HB1.out y5
    have c6 := cell_on HB1.out y6
    have HI1 : Hid (R = if co then 0 else 80) := by show _ = _; rw [HI.out, if_neg (by omega)]
    have HCi := Lib.hid (HIs.out w1 HB1.out)
    clear y0 y1 y2 y3 y4 y5 y6 h1 HI HIs HY HCv
    go_wp2_with fail
    refine HCi.out.mono ?_
    rintro e w2 ⟨rfl, hb2⟩
    have HB2 := Lib.hid ((HB0.out.trans (HB1.out.mono HB0.out.size)).trans (hb2.mono (HB0.out.trans (HB1.out.mono HB0.out.size)).size))
    clear hb2 c0 c1 c2 c3 c4 c5 c6 HB1 HCi
    cases co with
    | true =>
      have HE : Hid (R = 0) := by show _ = _; rw [HI1.out]; rfl
      clear HI1
      go_wp2
      go_ret
      exact ⟨by rw [HE.out]; rfl, HB2.out⟩
    | false =>
      have HE : Hid (R = 80) := by show _ = _; rw [HI1.out]; rfl
      clear HI1
      go_wp2
      go_ret
      exact ⟨by rw [HE.out]; rfl, HB2.out⟩
  · have g1 : ((cv : Int) != 0) = true := bne_t (by omega)
    have HE : Hid (R = cv) := by show _ = _; rw [HI.out, if_pos h1]
    have HB2 := Lib.hid (HB0.out.trans (HB1.out.mono HB0.out.size))
    clear h1 HI HIs HY HCv HB1
    go_wp2
    go_ret
    exact ⟨by rw [HE.out]; rfl, HB2.out⟩

/-- what encoding answers: bytes of one's own, or nothing and the error -/
def EncR (w : World) (er : Nat) (l : List UInt8) (e : Ending) (w' : World) : Prop :=
  (er = 0 ∧ ∃ q cap, e = .returned (.tuple #[.slice q l.length cap, .int .i64 0]) ∧ Has w' w.heap.size (.slice q l.length cap) l ∧ Below w.heap.size w w') ∨
  (er ≠ 0 ∧ e = .returned (.tuple #[.slice none 0 0, .int .i64 (er : Nat)]) ∧ Below w.heap.size w w')

end Go.Proofs.YtpkbdnilakaakaaGreat

/- The document's bytesOf, Check, Encode of rows. -/
namespace Go.Proofs.YtpkbdnilakaakaaGreat
open Go.RowKit

attribute [local go_sem] run_store_float

theorem bytes_small (xs : List V) (hn : xs.length ≤ 16) (hc : ∀ v ∈ xs, chk 1 v = 0) : (Rw.bytes xs).length ≤ 320000000000 := by
  have key : ∀ xs : List V, (∀ v ∈ xs, chk 1 v = 0) → (Rw.bytes xs).length ≤ xs.length * 20000000000 := by
    intro xs
    induction xs with
    | nil => intro _; simp [Rw.bytes]
    | cons v r ih =>
      intro h
      rw [Rw.bytes_cons, List.length_append, List.length_cons]
      have h1 := Sch.vB_small (h v (by simp)) (Nat.le_refl _)
      have h2 := ih (fun x hx => h x (by simp [hx]))
      omega
  have := key xs hc
  omega

set_option maxRecDepth 100000 in
set_option maxHeartbeats 1000000 in
theorem refBytesOf8 (xs : List V) (p : Option Addr) (c : Nat) (w : World) (hn : xs.length ≤ 16) (hx : Items w p xs) (hc : ∀ v ∈ xs, chk 1 v = 0 ∧ v.wf) :
    Calls Tryz.prog 40 #[.agg #[.slice p xs.length c]] w (FreshB w (Rw.bytes xs)) := by
  have hlen := bytes_small xs hn (fun v hv => (hc v hv).1)
  have HC0 := Lib.hid hc
  have HX := Lib.hid hx
  obtain ⟨W0, hW0⟩ : ∃ W0, W0 = w.alloc (.cells #[.slice p xs.length c] 41) := ⟨_, rfl⟩
  have HB0 : Hid (Below w.heap.size w W0) := by rw [hW0]; exact (Below.refl _ _).alloc (Nat.le_refl _) _
  have y0 : W0.cell? ⟨w.heap.size, 0, none⟩ = some (.slice p xs.length c) := by rw [hW0]; simp
  have hs0 : W0.heap.size = w.heap.size + 1 := by rw [hW0]; simp
  have Y0 := Lib.hid y0
  have HW0 := Lib.hid hW0
  have HEB : Hid (Rw.bytes xs = (xs.map Sch.vB).flatten) := rfl
  rw [HEB.out] at hlen
  have hni : (xs.length : Int) ≤ 16 := by omega
  clear hW0 hx hc y0
  go_enter Tryz.func40, Tryz.ntmps40
  go_wp2_with fail
  rw [← HW0.out]
  clear HW0
  go_loopw [3, 4] (fun v2 v3 wr => ∃ j : Nat, j ≤ xs.length ∧ v3 = .int .i64 j ∧ Hid (Has wr (w.heap.size + 1) v2 ((xs.take j).map Sch.vB).flatten ∧ Below (w.heap.size + 1) W0 wr)) (fun _ v3 _ => xs.length - (intOf v3).toNat)
  case atStart => exact ⟨0, by omega, rfl, has_nil _ _, Below.refl _ _⟩
  case round =>
    obtain ⟨j, hj, rfl, HK⟩ := hrel
    have n0 : wr.cell? ⟨w.heap.size, 0, none⟩ = some (.slice p xs.length c) := by rw [HK.out.2.cell (p := ⟨w.heap.size, 0, none⟩) (by show w.heap.size < _; omega)]; exact Y0.out
    have hbw : Below w.heap.size w wr := HB0.out.trans (HK.out.2.mono (by omega))
    by_cases hlt : j < xs.length
    · obtain ⟨ux, hvx, hix⟩ := HX.out j hlt
      obtain ⟨bx, ox, kx, ix, fx, tx, qx, nx, cx, rfl, _, rfl, a0, a1, a2, a3, a4⟩ := (hix.on hbw).lies
      have hcj := HC0.out _ (List.getElem_mem hlt)
      have HC := Lib.hid (refValueBytes7 _ 1 wr _ (Nat.le_refl _) hcj.1 hcj.2 (hvx.on hbw))
      have hj1 : (j : Int) < (xs.length : Int) := by omega
      have HO := Lib.hid HK.out.1
      have HBk := Lib.hid HK.out.2
      have hs1 : w.heap.size + 1 ≤ wr.heap.size := by have := HK.out.2.size; omega
      have ht1 := Sch.flatten_take_le Sch.vB xs (j + 1)
      rw [Sch.flatten_take Sch.vB xs j hlt, List.length_append] at ht1
      have HFT := Lib.hid (Sch.flatten_take Sch.vB xs j hlt)
      obtain ⟨l1, hl1⟩ : ∃ l1, l1 = ((xs.take j).map Sch.vB).flatten := ⟨_, rfl⟩
      obtain ⟨l2, hl2⟩ : ∃ l2, l2 = Sch.vB xs[j] := ⟨_, rfl⟩
      rw [← hl1] at HO ht1 HFT
      rw [← hl2] at HC ht1 HFT
      clear hvx hix hbw HK hl1 hl2 hcj
      unfold cells5 at HC
      go_wp2_with fail
      refine HC.out.mono ?_
      rintro e w2 ⟨q, cap, rfl, hq, hb2⟩
      have HQ := Lib.hid hq
      have HO2 := Lib.hid (HO.out.on hb2)
      have HB2 := Lib.hid (HBk.out.trans (hb2.mono hs1))
      have hs2 : w.heap.size + 1 ≤ w2.heap.size := by have := hb2.size; omega
      clear hb2 hq a0 a1 a2 a3 a4 HC HO
      go_wp2_with (at_builtin; obtain ⟨p2, c2, he2, hat2, -⟩ := HQ.out.at; injection he2 with he2; refine wp_ontoL (B := w.heap.size + 1) (p := q) HO2.out (by rw [he2]; exact hat2) (by omega) hs2 rfl rfl rfl rfl rfl ?_; intro ys q3 cap3 W HYs hH3 ha3 hb3)
      have HR : Hid (Has W (w.heap.size + 1) (.slice q3 ys.length cap3) ((xs.take (j + 1)).map Sch.vB).flatten ∧ Below (w.heap.size + 1) W0 W) := by
        refine ⟨?_, HB2.out.trans (aside_low ha3 HO2.out hs2)⟩
        rw [HFT.out, ← HYs.out]
        exact hH3
      clear hH3 ha3 hb3
      go_roundw
      case rel => exact ⟨j + 1, by omega, by go_num, HR⟩
      case measure => simp [intOf]; omega
    · have hjn : ¬ (j : Int) < (xs.length : Int) := by omega
      have he : ((xs.take j).map Sch.vB).flatten = (xs.map Sch.vB).flatten := by rw [List.take_of_length_le (by omega)]
      have HO := HK.out.1
      rw [he] at HO
      obtain ⟨L, hL⟩ : ∃ L, L = (xs.map Sch.vB).flatten := ⟨_, rfl⟩
      rw [← hL] at HO
      have HLl := Lib.hid hL
      obtain ⟨q, cap2, hv, -, -⟩ := HO.at
      subst hv
      replace HO := Lib.hid (HO.lower (B' := w.heap.size) (by omega))
      have HF := Lib.hid hbw
      clear HK he hbw hlt hL
      go_wp2
      go_ret
      rw [HEB.out, ← HLl.out]
      exact ⟨q, cap2, rfl, HO.out, HF.out⟩
end Go.Proofs.YtpkbdnilakaakaaGreat

/- The document's Check, Encode of rows. -/
namespace Go.Proofs.YtpkbdnilakaakaaGreat
open Go.RowKit

attribute [local go_sem] run_store_float

theorem colsErr_chk : ∀ (s : List Col) (vs : List V), vs.length = s.length → Rw.colsErr s vs = 0 → ∀ v ∈ vs, chk 1 v = 0
  | [], [], _, _, v, hv => by cases hv
  | [], _ :: _, h, _, _, _ => by simp at h
  | _ :: _, [], h, _, _, _ => by simp at h
  | c :: s, x :: vs, h, he, v, hv => by
    rw [Rw.colsErr] at he
    split at he
    · next h0 =>
      rcases List.mem_cons.1 hv with rfl | hv
      · exact (Rw.vErr_zero h0).2.1
      · exact colsErr_chk s vs (by simpa using h) he v hv
    · next h0 => exact absurd he h0
theorem colsErr_drop (s : List Col) (vs : List V) (j : Nat) (h1 : j < s.length) (h2 : j < vs.length) : Rw.colsErr (s.drop j) (vs.drop j) = if Rw.vErr s[j].ty vs[j] = 0 then Rw.colsErr (s.drop (j + 1)) (vs.drop (j + 1)) else Rw.vErr s[j].ty vs[j] := by
  rw [List.drop_eq_getElem_cons h1, List.drop_eq_getElem_cons h2, Rw.colsErr]

set_option maxRecDepth 100000 in
set_option maxHeartbeats 1000000 in
theorem refCheck8 (s : List Col) (p : Option Addr) (cp : Nat) (vs : List V) (q : Option Addr) (cq : Nat) (w : World) (hl : s.length * 120 ≤ 140737488351232) (hcp : s.length ≤ cp) (hx : Cols w p s) (hw : ∀ c ∈ s, c.wf) (hv : Items w q vs) (hvw : ∀ v ∈ vs, v.wf) (hvl : vs.length * 64 ≤ 140737488351232) :
    Calls Tryz.prog 39 #[.agg #[.slice p s.length cp], .agg #[.slice q vs.length cq]] w fun e w' => e = .returned (.int .i64 (Rw.err s vs : Nat)) ∧ Below w.heap.size w w' := by
  obtain ⟨W0, hW0⟩ : ∃ W0, W0 = (w.alloc (.cells #[.slice p s.length cp] 24)).alloc (.cells #[.slice q vs.length cq] 41) := ⟨_, rfl⟩
  have HB0 : Hid (Below w.heap.size w W0) := by rw [hW0]; exact ((Below.refl _ _).alloc (Nat.le_refl _) _).alloc (by simp) _
  have HY : Hid (W0.cell? ⟨w.heap.size, 0, none⟩ = some (.slice p s.length cp) ∧ W0.cell? ⟨w.heap.size + 1, 0, none⟩ = some (.slice q vs.length cq)) := by rw [hW0]; exact ⟨by simp, by simp⟩
  have HW0 := Lib.hid hW0
  have HC := Lib.hid (refCheck7 s p cp W0 hl hcp (hx.on HB0.out) hw)
  have HOp := Lib.hid (fun h => Sch.err_open (s := s) h)
  obtain ⟨R, hR⟩ : ∃ R, R = Rw.err s vs := ⟨_, rfl⟩
  have HR := Lib.hid (hR.trans (by rw [Rw.err] : Rw.err s vs = _))
  rw [← hR]
  obtain ⟨er, her⟩ : ∃ er, er = Sch.err s := ⟨_, rfl⟩
  rw [← her] at HC HR HOp
  have HX := Lib.hid hx
  have HV := Lib.hid hv
  have HVW := Lib.hid hvw
  clear hW0 hR hx hw her hv hvw
  go_enter Tryz.func39, Tryz.ntmps39
  go_wp2_with fail
  rw [← HW0.out]
  clear HW0
  refine HC.out.mono ?_
  rintro e w1 ⟨rfl, hb1⟩
  have HB1 := Lib.hid hb1
  have HBw1 := Lib.hid (HB0.out.trans (hb1.mono HB0.out.size))
  clear hb1 HC
  by_cases h0 : ¬ er = 0
  · have g0 : ((er : Int) != 0) = true := bne_t (by omega)
    have HE : Hid (R = er) := by show _ = _; rw [HR.out, if_pos h0]
    clear HR h0 HOp
    go_wp2
    go_ret
    exact ⟨by rw [HE.out]; rfl, HBw1.out⟩
  have g0 : ((er : Int) != 0) = false := bne_f (by omega)
  have HR1 := Lib.hid (HR.out.trans (if_neg h0))
  have hn16 : s.length ≤ 16 := (HOp.out (by omega)).2.1
  clear HR HOp h0
  have n0 := cell_on HB1.out HY.out.1
  have n1 := cell_on HB1.out HY.out.2
  by_cases h1 : ¬ vs.length = s.length
  · have g1 : ((vs.length : Int) != (s.length : Int)) = true := bne_t (by omega)
    have HE : Hid (R = 80) := by show _ = _; rw [HR1.out, if_pos h1]
    clear HR1 h1
    go_wp2
    go_ret
    exact ⟨by rw [HE.out]; rfl, HBw1.out⟩
  have g1 : ((vs.length : Int) != (s.length : Int)) = false := bne_f (by omega)
  have HR2 := Lib.hid (HR1.out.trans (if_neg h1))
  have HVS : Hid (vs.length = s.length) := by show _ = _; omega
  have hn16v : vs.length ≤ 16 := by have := HVS.out; omega
  clear HR1 h1
  go_wp2_with fail
  go_loopw [6, 7] (fun v6 _ wr => ∃ j : Nat, j ≤ vs.length ∧ v6 = .int .i64 j ∧ Hid (Below W0.heap.size W0 wr ∧ Rw.colsErr s vs = Rw.colsErr (s.drop j) (vs.drop j))) (fun v6 _ _ => vs.length - (intOf v6).toNat)
  case atStart => exact ⟨0, by omega, rfl, HB1.out, rfl⟩
  case round =>
    clear n0 n1
    obtain ⟨j, hj, rfl, HL⟩ := hrel
    have hbw : Below w.heap.size w wr := HB0.out.trans (HL.out.1.mono HB0.out.size)
    have n0 : wr.cell? ⟨w.heap.size, 0, none⟩ = some (.slice p s.length cp) := cell_on HL.out.1 HY.out.1
    have n1 : wr.cell? ⟨w.heap.size + 1, 0, none⟩ = some (.slice q vs.length cq) := cell_on HL.out.1 HY.out.2
    by_cases hlt : j < vs.length
    · have hls : j < s.length := by have := HVS.out; omega
      have hj1 : (j : Int) < (vs.length : Int) := by omega
      have hj2 : (j : Int) < (s.length : Int) := by omega
      obtain ⟨bx, ox, k, tp, tn, tc, vk, vi, vb, vt, vp, vn, vc, rfl, hbx, h9, hty, -⟩ := HX.out.at j hls
      obtain ⟨-, a1, a2, -⟩ := h9.on hbw
      obtain ⟨ux, hvx, hix⟩ := HV.out j hlt
      obtain ⟨by', oy, ky, iy, fy, ty, qy, ny, cy, rfl, _, rfl, c0, c1, c2, c3, c4⟩ := (hix.on hbw).lies
      have HC : Hid (∀ w', Below w.heap.size w w' → Calls Tryz.prog 66 #[.agg #[.int .i64 k, .slice tp tn tc], .agg #[.int .i64 ky, .int .i64 iy, .float .f64 fy, .string ty, .slice qy ny cy]] w' fun e w'' => e = .returned (.int .i64 (Rw.vErr s[j].ty vs[j] : Nat)) ∧ Below w'.heap.size w' w'') := fun w' hb => refValue8 _ _ w' _ _ (hty.on hb) (hvx.on hb)
      have HAt2 := Lib.hid (HL.out.2.trans (colsErr_drop s vs j hls hlt))
      have HBw := Lib.hid hbw
      have HBW := Lib.hid HL.out.1
      obtain ⟨z, hz⟩ : ∃ z, z = Rw.vErr s[j].ty vs[j] := ⟨_, rfl⟩
      rw [← hz] at HC HAt2
      clear h9 hty hbw HL hz hvx hix
      go_wp2_with fail
      go_region_held3 (fun w' => w'.cell? ⟨bx, ox + j * 9 + 1, none⟩ = some (.int .i64 k) ∧ w'.cell? ⟨bx, ox + j * 9 + 2, none⟩ = some (.slice tp tn tc) ∧ w'.cell? ⟨by', oy + j * 5, none⟩ = some (.int .i64 ky) ∧ w'.cell? ⟨by', oy + j * 5 + 1, none⟩ = some (.int .i64 iy) ∧ w'.cell? ⟨by', oy + j * 5 + 2, none⟩ = some (.float .f64 fy) ∧ w'.cell? ⟨by', oy + j * 5 + 3, none⟩ = some (.string ty) ∧ w'.cell? ⟨by', oy + j * 5 + 4, none⟩ = some (.slice qy ny cy) ∧ w'.cell? ⟨w.heap.size, 0, none⟩ = some (.slice (some ⟨bx, ox, none⟩) s.length cp) ∧ w'.cell? ⟨w.heap.size + 1, 0, none⟩ = some (.slice (some ⟨by', oy, none⟩) vs.length cq)) (go_keep) (first
        | (go_at_call 66; refine (HC.out _ (below_drewN HBw.out _)).mono ?_; rintro e w4 ⟨rfl, hb4⟩; have hb5 := below_via (w := wr) hb4 (by rfl) (by rfl) (by rfl) (by rfl); have z1 := cell_on hb5 a1; have z2 := cell_on hb5 a2; have y0 := cell_on hb5 c0; have y1 := cell_on hb5 c1; have y2 := cell_on hb5 c2; have y3 := cell_on hb5 c3; have y4 := cell_on hb5 c4; have z9 := cell_on hb5 n0; have z10 := cell_on hb5 n1; have HB4 := Lib.hid hb5; clear hb4 hb5))
      clear z1 z2 y0 y1 y2 y3 y4 z9 z10 a1 a2 c0 c1 c2 c3 c4 n0 n1
      by_cases hz0 : z = 0
      · have hzb : ((z : Int) != 0) = false := by rw [hz0]; rfl
        have HN : Hid (Below W0.heap.size W0 w4 ∧ Rw.colsErr s vs = Rw.colsErr (s.drop (j + 1)) (vs.drop (j + 1))) := ⟨HBW.out.trans (HB4.out.mono HBW.out.size), by rw [HAt2.out, if_pos hz0]⟩
        clear HB4 HC hz0 HAt2
        go_wp2
        go_roundw
        case rel => exact ⟨j + 1, by omega, by go_num, HN⟩
        case measure => simp [intOf]; omega
      · have hzb : ((z : Int) != 0) = true := by rw [bne_iff_ne]; omega
        have HE : Hid (R = z) := by
          show _ = _
          have e : Rw.colsErr s vs = z := by rw [HAt2.out, if_neg hz0]
          rw [HR2.out, if_pos (by rw [e]; exact hz0), e]
        have HF := Lib.hid (HBw.out.trans (HB4.out.mono HBw.out.size))
        clear HB4 HC hz0 HAt2 HR2
        go_wp2
        go_ret
        exact ⟨by rw [HE.out]; rfl, HF.out⟩
    · have hjn : ¬ (j : Int) < (vs.length : Int) := by omega
      have hc0 : Rw.colsErr s vs = 0 := by rw [HL.out.2, List.drop_eq_nil_of_le (by have := HVS.out; omega), List.drop_eq_nil_of_le (by omega)]; rfl
      have HR3 := Lib.hid (HR2.out.trans (if_neg (by rw [hc0]; simp)))
      have hck := colsErr_chk s vs HVS.out hc0
      have HC := Lib.hid (refBytesOf8 vs q cq wr (by omega) (HV.out.on hbw) (fun v hv => ⟨hck v hv, HVW.out v hv⟩))
      have HBw := Lib.hid hbw
      have hLn := bytes_small vs (by omega) hck
      obtain ⟨L, hL⟩ : ∃ L, L = Rw.bytes vs := ⟨_, rfl⟩
      rw [← hL] at HC HR3 hLn
      clear HL hbw hL hc0 HR2 hck
      go_wp2_with fail
      refine HC.out.mono ?_
      rintro e w2 ⟨q2, cap, rfl, hq, hb2⟩
      have HB2 := Lib.hid (HBw.out.trans (hb2.mono HBw.out.size))
      clear hq hb2
      by_cases h2 : 1024 < L.length
      · have g2 : (1024 : Int) < (L.length : Int) := by omega
        have HE : Hid (R = 2) := by show _ = _; rw [HR3.out, if_pos h2]
        clear HR3 h2
        go_wp2
        go_ret
        exact ⟨by rw [HE.out]; rfl, HB2.out⟩
      · have g2 : ¬ (1024 : Int) < (L.length : Int) := by omega
        have HE : Hid (R = 0) := by show _ = _; rw [HR3.out, if_neg h2]
        clear HR3 h2
        go_wp2
        go_ret
        exact ⟨by rw [HE.out]; rfl, HB2.out⟩

set_option maxRecDepth 100000 in
set_option maxHeartbeats 1000000 in
theorem refEncode8 (s : List Col) (p : Option Addr) (cp : Nat) (vs : List V) (q : Option Addr) (cq : Nat) (w : World) (hl : s.length * 120 ≤ 140737488351232) (hcp : s.length ≤ cp) (hx : Cols w p s) (hw : ∀ c ∈ s, c.wf) (hv : Items w q vs) (hvw : ∀ v ∈ vs, v.wf) (hvl : vs.length * 64 ≤ 140737488351232) :
    Calls Tryz.prog 25 #[.agg #[.slice p s.length cp], .agg #[.slice q vs.length cq]] w (EncR w (Rw.err s vs) (Rw.bytes vs)) := by
  obtain ⟨W0, hW0⟩ : ∃ W0, W0 = (w.alloc (.cells #[.slice p s.length cp] 24)).alloc (.cells #[.slice q vs.length cq] 41) := ⟨_, rfl⟩
  have HB0 : Hid (Below w.heap.size w W0) := by rw [hW0]; exact ((Below.refl _ _).alloc (Nat.le_refl _) _).alloc (by simp) _
  have HY : Hid (W0.cell? ⟨w.heap.size, 0, none⟩ = some (.slice p s.length cp) ∧ W0.cell? ⟨w.heap.size + 1, 0, none⟩ = some (.slice q vs.length cq)) := by rw [hW0]; exact ⟨by simp, by simp⟩
  have HW0 := Lib.hid hW0
  have HC := Lib.hid (refCheck8 s p cp vs q cq W0 hl hcp (hx.on HB0.out) hw (hv.on HB0.out) hvw hvl)
  have HBy : Hid (∀ w', Below w.heap.size w w' → Rw.err s vs = 0 → Calls Tryz.prog 40 #[.agg #[.slice q vs.length cq]] w' (FreshB w' (Rw.bytes vs))) := fun w' hb h => by
    obtain ⟨h1, h2, h3, h4⟩ := Rw.err_open h
    have h16 := (Sch.err_open h1).2.1
    have hck := colsErr_chk s vs h2 h3
    exact refBytesOf8 vs q cq w' (by omega) (hv.on hb) (fun v hv => ⟨hck v hv, hvw v hv⟩)
  obtain ⟨R, hR⟩ : ∃ R, R = Rw.err s vs := ⟨_, rfl⟩
  obtain ⟨L, hL⟩ : ∃ L, L = Rw.bytes vs := ⟨_, rfl⟩
  unfold EncR
  rw [← hR, ← hL]
  rw [← hR] at HC
  rw [← hL, ← hR] at HBy
  clear hW0 hx hw hR hL hv hvw
  go_enter Tryz.func25, Tryz.ntmps25
  go_wp2_with fail
  rw [← HW0.out]
  clear HW0
  refine HC.out.mono ?_
  rintro e w1 ⟨rfl, hb1⟩
  have n0 := cell_on hb1 HY.out.1
  have n1 := cell_on hb1 HY.out.2
  have HB1 := Lib.hid (HB0.out.trans (hb1.mono HB0.out.size))
  clear hb1 HC
  by_cases h0 : R = 0
  · have g0 : ((R : Int) != 0) = false := by rw [h0]; rfl
    have HCB := Lib.hid (HBy.out w1 HB1.out h0)
    have HR0 := Lib.hid h0
    clear h0 HBy
    go_wp2_with fail
    refine HCB.out.mono ?_
    rintro e w2 ⟨q2, cap, rfl, hq, hb2⟩
    have HQ := Lib.hid (hq.lower HB1.out.size)
    have HB2 := Lib.hid (HB1.out.trans (hb2.mono HB1.out.size))
    clear hq hb2 HCB n0 n1
    go_wp2
    go_ret2
    exact .inl ⟨HR0.out, q2, cap, rfl, HQ.out, HB2.out⟩
  · have g0 : ((R : Int) != 0) = true := by rw [bne_iff_ne]; omega
    have HR0 := Lib.hid h0
    clear h0 HBy
    go_wp2
    go_ret2
    exact .inr ⟨HR0.out, rfl, HB1.out⟩
end Go.Proofs.YtpkbdnilakaakaaGreat

/- BatchUnpacks: the walk. -/
import Derived.Test.YtpkbdnilakaakaaGreatM54
namespace Go.Proofs.YtpkbdnilakaakaaGreat
open Go.RowKit

attribute [local go_sem] run_store_float

set_option maxRecDepth 100000 in
set_option maxHeartbeats 4000000 in
theorem unpacks11 (HR : RowsIn) (s : List Col) (p : Option Addr) (c : Nat) (b : List UInt8) (q : Option Addr) (d : Nat) (n : Int) (w : World) (hS : SchL w p c s) (hbl : b.length ≤ 140737488351232) (hbd : b.length ≤ d) (hat : At w q b) :
    Calls Tryz.prog 5 #[.agg #[.slice p s.length c], .slice q b.length d, .int .i64 n] w fun e w' => e = .returned (.bool true) ∧ Below w.heap.size w w' := by
  obtain ⟨W, hW⟩ : ∃ W, W = (w.alloc (.cells #[.slice p s.length c] 24)).alloc (.cells #[] 5) := ⟨_, rfl⟩
  obtain ⟨k0, -, hbW, hsW⟩ := al2 w (.cells #[.slice p s.length c] 24) (.cells #[] 5)
  rw [← hW] at k0 hbW hsW
  have HL : Hid (Has W (w.heap.size + 1) (.slice (some ⟨w.heap.size + 1, 0, none⟩) 0 0) []) := by
    have h := has_lit (B := w.heap.size + 1) (w := w.alloc (.cells #[.slice p s.length c] 24)) [] (C := #[]) rfl (by simp) (by decide)
    rw [hW]
    refine Lib.hid ?_
    simpa using h
  have hXA := hat.on hbW
  have HU : Hid (∀ w', Below w.heap.size w w' → Calls Tryz.prog 16 #[.agg #[.slice p s.length c], .slice q b.length d, .int .i64 n] w' (UnpA w' (Bt.unpack s b n))) := fun w' hb => unpackBK HR s p c b q d n w' (hS.on hb) hbl hbd (hat.on hb)
  have HUr : Hid (∀ w' q' d', Below w.heap.size w w' → b.length ≤ d' → At w' q' b → Calls Tryz.prog 11 #[.agg #[.slice p s.length c], .slice q' b.length d', .int .i64 n] w' (UnpA w' (Bt.unpack s b n))) := fun w' q' d' hb h1 h2 => refUnpackB s p c b q' d' n w' (hS.on hb) hbl h1 h2
  have hgw := Bt.got_wf s b n
  obtain ⟨R, hR⟩ : ∃ R, R = Bt.unpack s b n := ⟨_, rfl⟩
  rw [← hR] at HU HUr hgw
  obtain ⟨er, her⟩ : ∃ er, er = Bt.code R := ⟨_, rfl⟩
  obtain ⟨ls, hls⟩ : ∃ ls, ls = Bt.got R := ⟨_, rfl⟩
  rw [← hls] at hgw
  have HGw := Lib.hid hgw
  have hll : ls.length ≤ 140737488351232 := by have := hgw.2; omega
  have HEr := Lib.hid her
  have HLs := Lib.hid hls
  have HXA := Lib.hid hXA
  have HAt := Lib.hid hat
  have HB := Lib.hid hbW
  have HW := Lib.hid hW
  have HK0 := Lib.hid k0
  have HRI := Lib.hid HR
  have hsz1 : w.heap.size + 1 ≤ W.heap.size := by omega
  clear hR her hls hgw hbW hW k0 HR hat hXA hS hsW
  go_enter Tryz.func5, Tryz.ntmps5
  go_wp2_with (first
    | (at_builtin
       rw [← HW.out]
       refine wp_ontoL HL.out HXA.out (by simp; omega) hsz1 rfl rfl rfl rfl rfl ?_
       intro ys qi capi Wi HYi hhi hai _
       have HHi := Lib.hid hhi
       have HAi := Lib.hid (aside_low hai HL.out hsz1)
       have HBi := Lib.hid (HB.out.trans ((aside_low hai HL.out hsz1).mono (Nat.le_succ _)))
       have n0 := boxed_cell (blk_on HK0.out (aside_low hai HL.out hsz1) (Nat.lt_succ_self _))
       clear hhi hai)
    | fail)
  have hyb : ys = b := HYi.out
  subst hyb
  clear HYi
  refine (HU.out Wi HBi.out).mono ?_
  intro e w1 h1
  obtain ⟨q1, c1, rfl, hr1, hb1⟩ := h1.got
  rw [← HEr.out, ← HLs.out]
  rw [← HLs.out] at hr1
  have HR1 := Lib.hid hr1
  have HB1 := Lib.hid hb1
  have HBw1 := Lib.hid (HBi.out.trans (hb1.mono HBi.out.size))
  have HKi := Lib.hid (blk_on HK0.out HAi.out (Nat.lt_succ_self _))
  have n0 := boxed_cell (blk_on HKi.out hb1 (blk_lt HKi.out))
  have hk1 := blk_on HKi.out hb1 (blk_lt HKi.out)
  have HK1 := Lib.hid hk1
  obtain ⟨qa, ca, hea, hata, hca⟩ := (HHi.out.on hb1).at
  injection hea with e1 _ e3
  subst e1 e3
  have HU1 := Lib.hid (HUr.out w1 qi capi HBw1.out hca hata)
  have hwi := HBi.out.size
  have hi1 := hb1.size
  clear h1 hr1 hb1 hata hk1 HUr HKi
  go_wp2_with fail
  refine HU1.out.mono ?_
  intro e w2 h2
  obtain ⟨q2, c2, rfl, hr2, hb2⟩ := h2.got
  rw [← HEr.out, ← HLs.out]
  rw [← HLs.out] at hr2
  have HR2 := Lib.hid hr2
  have HB12 := Lib.hid hb2
  have HRL2 := Lib.hid (hr2.rows HGw.out.2 HGw.out.1)
  have HRL12 := Lib.hid ((HR1.out.rows HGw.out.2 HGw.out.1).on hb2)
  have HHi2 := Lib.hid ((HHi.out.on HB1.out).on hb2)
  have h12 := hb2.size
  clear h2 hr2 hb2 HU1
  have HAl := Lib.hid (allK ls q1 q2 c1 c2 w2 HRL12.out HRL2.out)
  go_wp2_with fail
  refine HAl.out.mono ?_
  rintro e w3 ⟨rfl, hb3⟩
  have HB13 := Lib.hid (HB12.out.trans (hb3.mono HB12.out.size))
  have HB23 := Lib.hid hb3
  have HSm := Lib.hid (same_any q qi d capi ys ys hbl w3 (HAt.out.on (HBw1.out.trans (HB13.out.mono HBw1.out.size))) (HHi2.out.on hb3).here)
  rw [beq_self_eq_true] at HSm
  clear hb3 HAl
  go_wp2_with fail
  refine HSm.out.mono ?_
  rintro e w4 ⟨rfl, n4, hw4⟩
  have hb34 : Below w3.heap.size w3 w4 := by rw [hw4]; exact below_drewN (Below.refl _ _) _
  have HB14 := Lib.hid (HB13.out.trans (hb34.mono HB13.out.size))
  have HB24 := Lib.hid (HB23.out.trans (hb34.mono HB23.out.size))
  have HBw4 := Lib.hid (HBw1.out.trans (HB14.out.mono HBw1.out.size))
  have h14 := HB14.out.size
  have h24 := HB24.out.size
  have HSt : Hid (ls.length = 0 ∨ ∃ g, q1 = some ⟨g, 0, none⟩ ∧ LstS w4 Wi.heap.size w1.heap.size g ls.length 0) := by
    rcases lstS_start (Z := w1.heap.size) HR1.out rfl with h | ⟨g, e1, hs⟩
    · exact .inl h
    · refine .inr ⟨g, e1, hs.low, hs.high, by omega, fun j hj => ?_, fun j hi hj => ?_⟩
      · obtain ⟨⟨v, hv⟩, hf⟩ := hs.soft j hj
        exact ⟨⟨v, cell_on HB14.out hv⟩, by rw [HB14.out.frozen (p := ⟨g, j, none⟩) hs.high]; exact hf⟩
      · obtain ⟨p', k', c', g1, g2, g3⟩ := hs.item j hi hj
        refine ⟨p', k', c', g1, cell_on HB14.out g2, ?_⟩
        rcases g3 with g3 | ⟨x1, x2, x3, x4, x5, x6, x7⟩
        · exact .inl g3
        · refine .inr ⟨x1, x2, x3, x4, x5, x6, fun k hk m hm => ?_⟩
          obtain ⟨⟨v, hv⟩, hf⟩ := x7 k hk m hm
          exact ⟨⟨v, cell_on HB14.out hv⟩, by rw [HB14.out.frozen (p := ⟨x1, x2 + k * 5 + m, none⟩) x5]; exact hf⟩
  have HK4 := Lib.hid (blk_on HK1.out HB14.out (blk_lt HK1.out))
  have HR4 := Lib.hid (HR2.out.on HB24.out)
  clear hw4 hb34 HSm n0 HR2 HRL2 HRL12 HHi2
  go_wp2_with fail
  go_loopw [13, 14] (fun v13 _ wi => ∃ i : Nat, i ≤ ls.length ∧ v13 = .int .i64 i ∧ Hid (Aside (fun k => Wi.heap.size ≤ k ∧ k < w1.heap.size) w4 wi ∧ (ls.length = 0 ∨ ∃ g, q1 = some ⟨g, 0, none⟩ ∧ LstS wi Wi.heap.size w1.heap.size g ls.length i))) (fun v13 _ _ => ls.length - (intOf v13).toNat)
  case atStart => exact ⟨0, Nat.zero_le _, rfl, Aside.refl _ _, HSt.out⟩
  case round =>
    obtain ⟨i, hi, rfl, HL5⟩ := hrel
    by_cases hlt : i < ls.length
    · have hj1 : (i : Int) < (ls.length : Int) := by omega
      rcases HL5.out.2 with h | ⟨g, rfl, hR⟩
      · omega
      obtain ⟨pi, ni, ci, hni, hci, hit⟩ := hR.item i (Nat.le_refl _) hlt
      have HA := Lib.hid HL5.out.1
      have HRi := Lib.hid hR
      have HIt := Lib.hid hit
      have HCi := Lib.hid hci
      have hgz : g < w1.heap.size := hR.high
      have hgw : Wi.heap.size ≤ g := hR.low
      clear HL5 hR hit HSt
      go_wp2_with fail
      go_loopw [14] (fun v14 wr => ∃ k : Nat, k ≤ ni ∧ v14 = .int .i64 k ∧ Hid (Aside (fun k => Wi.heap.size ≤ k ∧ k < w1.heap.size) w4 wr ∧ LstS wr Wi.heap.size w1.heap.size g ls.length i ∧ wr.cell? ⟨g, i, none⟩ = some (.slice pi ni ci) ∧ ItemsS wr Wi.heap.size w1.heap.size g pi ni)) (fun v14 _ => ni - (intOf v14).toNat)
      case atStart => exact ⟨0, Nat.zero_le _, rfl, HA.out, HRi.out, HCi.out, HIt.out⟩
      case round =>
        obtain ⟨k, hk, rfl, HK⟩ := hrel
        have x4 := HK.out.2.2.1
        have x4' : wr.cell? ⟨g, 0 + i, none⟩ = some (.slice pi ni ci) := by rw [Nat.zero_add]; exact x4
        clear hci
        by_cases hlk : k < ni
        · have hk1 : (k : Int) < (ni : Int) := by omega
          rcases HK.out.2.2.2 with h | ⟨g', o', rfl, hg1, hg2, hg3, hsf⟩
          · omega
          obtain ⟨⟨z0, c0⟩, f0⟩ := hsf k hlk 0 (by omega)
          obtain ⟨⟨z1, c1'⟩, f1⟩ := hsf k hlk 1 (by omega)
          obtain ⟨⟨z2, c2'⟩, f2⟩ := hsf k hlk 2 (by omega)
          obtain ⟨⟨z3, c3⟩, f3⟩ := hsf k hlk 3 (by omega)
          obtain ⟨⟨z4, c4⟩, f4⟩ := hsf k hlk 4 (by omega)
          rw [Nat.add_zero] at c0 f0
          have HN : Hid (Aside (fun k => Wi.heap.size ≤ k ∧ k < w1.heap.size) w4 (over5 wr g' (o' + k * 5) 77) ∧ LstS (over5 wr g' (o' + k * 5) 77) Wi.heap.size w1.heap.size g ls.length i ∧ (over5 wr g' (o' + k * 5) 77).cell? ⟨g, i, none⟩ = some (.slice (some ⟨g', o', none⟩) ni ci) ∧ ItemsS (over5 wr g' (o' + k * 5) 77) Wi.heap.size w1.heap.size g (some ⟨g', o', none⟩) ni) := by
            have hsk := HK.out.2.1.size
            refine ⟨HK.out.1.trans (over5_aside _ _ _ _) (fun j _ hj => by rw [hj]; exact ⟨hg1, hg2⟩), HK.out.2.1.inner hg3, ?_, HK.out.2.2.2.aside _ _ _⟩
            rw [(over5_aside wr g' (o' + k * 5) 77).cell (p := ⟨g, i, none⟩) (show g < wr.heap.size by omega) (show ¬ g = g' from fun e => hg3 e.symm)]
            exact x4
          unfold over5 at HN
          clear hsf HK
          go_wp2
          go_roundw
          case rel => exact ⟨k + 1, by omega, by go_num, HN⟩
          case measure => simp [intOf]; omega
        · have hkn : ¬ (k : Int) < (ni : Int) := by omega
          have f0 := (HK.out.2.1.soft i hlt).2
          have f0' : wr.frozen? ⟨g, 0 + i, none⟩ = false := by rw [Nat.zero_add]; exact f0
          have HN : Hid (Aside (fun k => Wi.heap.size ≤ k ∧ k < w1.heap.size) w4 (wr.setCell ⟨g, i, none⟩ (.slice none 0 0)) ∧ (ls.length = 0 ∨ ∃ g2, some (⟨g, 0, none⟩ : Addr) = some ⟨g2, 0, none⟩ ∧ LstS (wr.setCell ⟨g, i, none⟩ (.slice none 0 0)) Wi.heap.size w1.heap.size g2 ls.length (i + 1))) := ⟨HK.out.1.trans ((Aside.refl (fun j => j = g) wr).setCell (p := ⟨g, i, none⟩) (.inl rfl) _) (fun j _ hj => by rw [hj]; exact ⟨hgw, hgz⟩), .inr ⟨g, rfl, HK.out.2.1.outer _⟩⟩
          clear HK
          go_wp2
          go_roundw
          case rel => exact ⟨i + 1, by omega, by go_num, by simpa using HN⟩
          case measure => simp [intOf]; omega
    · have hjn : ¬ (i : Int) < (ls.length : Int) := by omega
      have ha5 := HL5.out.1
      have hb5 : Below w.heap.size w4 wr := ha5.below HBw4.out.size (fun k hk => by omega)
      have B5 := Lib.hid (HBw4.out.trans hb5)
      have HR5 := Lib.hid (HR4.out.aside ha5 (fun k hk _ hc => by omega))
      have y5 : wr.cell? ⟨w.heap.size, 0, none⟩ = some (.slice p s.length c) := by
        rw [ha5.cell (p := ⟨w.heap.size, 0, none⟩) (show w.heap.size < w4.heap.size from blk_lt HK4.out) (show ¬ (Wi.heap.size ≤ w.heap.size ∧ w.heap.size < w1.heap.size) by have := HAi.out.size; omega)]
        exact boxed_cell HK4.out
      clear HL5 ha5 hb5 HSt
      go_wp2_with fail
      refine (HU.out wr B5.out).mono ?_
      intro e w6 h6
      obtain ⟨q6, c6, rfl, hr6, hb6⟩ := h6.got
      rw [← HEr.out, ← HLs.out]
      rw [← HLs.out] at hr6
      have HR6 := Lib.hid (hr6.rows HGw.out.2 HGw.out.1)
      have HR56 := Lib.hid (HR5.out.rows HGw.out.2 HGw.out.1)
      have HB6 := Lib.hid hb6
      clear h6 hr6 hb6 y5
      go_wp2_with fail
      refine (live11 HRI.out w6).mono ?_
      rintro e w7 ⟨rfl, hb7⟩
      have HB57 := Lib.hid (HB6.out.trans (hb7.mono HB6.out.size))
      have HAll := Lib.hid (allK ls q6 q2 c6 c2 w7 (HR6.out.on hb7) (HR56.out.on HB57.out))
      clear hb7
      go_wp2_with fail
      refine HAll.out.mono ?_
      rintro e w8 ⟨rfl, hb8⟩
      have HBF := Lib.hid (B5.out.trans ((HB57.out.trans (hb8.mono HB57.out.size)).mono B5.out.size))
      clear hb8 HAll
      go_wp2
      go_ret
      exact ⟨by simp, HBF.out⟩
end Go.Proofs.YtpkbdnilakaakaaGreat

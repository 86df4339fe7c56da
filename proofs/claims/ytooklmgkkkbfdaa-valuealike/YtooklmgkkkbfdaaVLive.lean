/- live() over what package value's functions answer. -/
import Derived.Test.YtooklmgkkkbfdaaValueC
namespace Go.Proofs.Ytooklmgkkkbfdaa
open Go.RowKit

attribute [local go_sem] run_store_float
set_option maxRecDepth 100000 in
set_option maxHeartbeats 1000000 in
theorem valueLive_ok {I : World → Prop} (K : ValueOk I) (w : World) (hI : I w) :
    Calls Try.prog 12 #[] w fun e w' => e = .returned (.bool true) ∧ Below w.heap.size w w' := by
  have HK := Lib.hid K
  have HI := Lib.hid hI
  clear hI
  go_enter Try.func12, Try.ntmps12
  go_wp2_with fail
  refine (nan_any _).mono ?_
  rintro e w1 ⟨rfl, hw1⟩
  rw [hw1]
  clear hw1 w1
  go_wp2_with fail
  have hb1 : Below w.heap.size w (((w.alloc (.cells #[.int .i64 3, .int .i64 0, .float .f64 9221120237041090561, .string ⟨#[]⟩, .slice none 0 0] 25)).alloc (.cells #[.int .i64 3, .int .i64 0, .float .f64 9221120237041090561, .string ⟨#[]⟩, .slice none 0 0] 25)).alloc (.cells #[.int .i64 7, .int .i64 0, .float .f64 0, .string ⟨#[]⟩, .slice (some ⟨w.heap.size + 1, 0, none⟩) 1 1] 25)) := ((((Below.refl _ w).alloc (Nat.le_refl _) _).alloc (by simp) _).alloc (by simp; omega) _)
  have q0 : (((w.alloc (.cells #[.int .i64 3, .int .i64 0, .float .f64 9221120237041090561, .string ⟨#[]⟩, .slice none 0 0] 25)).alloc (.cells #[.int .i64 3, .int .i64 0, .float .f64 9221120237041090561, .string ⟨#[]⟩, .slice none 0 0] 25)).alloc (.cells #[.int .i64 7, .int .i64 0, .float .f64 0, .string ⟨#[]⟩, .slice (some ⟨w.heap.size + 1, 0, none⟩) 1 1] 25)).heap[w.heap.size]? = some (.cells #[.int .i64 3, .int .i64 0, .float .f64 9221120237041090561, .string ⟨#[]⟩, .slice none 0 0] 25 (0, 0)) := by
    rw [blk_old _ _ (by simp; omega), blk_old _ _ (by simp)]; exact blk_new w _
  have q1 : (((w.alloc (.cells #[.int .i64 3, .int .i64 0, .float .f64 9221120237041090561, .string ⟨#[]⟩, .slice none 0 0] 25)).alloc (.cells #[.int .i64 3, .int .i64 0, .float .f64 9221120237041090561, .string ⟨#[]⟩, .slice none 0 0] 25)).alloc (.cells #[.int .i64 7, .int .i64 0, .float .f64 0, .string ⟨#[]⟩, .slice (some ⟨w.heap.size + 1, 0, none⟩) 1 1] 25)).heap[w.heap.size + 1]? = some (.cells #[.int .i64 3, .int .i64 0, .float .f64 9221120237041090561, .string ⟨#[]⟩, .slice none 0 0] 25 (0, 0)) := by
    rw [blk_old _ _ (by simp)]
    have := blk_new (w.alloc (.cells #[.int .i64 3, .int .i64 0, .float .f64 9221120237041090561, .string ⟨#[]⟩, .slice none 0 0] 25)) (.cells #[.int .i64 3, .int .i64 0, .float .f64 9221120237041090561, .string ⟨#[]⟩, .slice none 0 0] 25)
    simpa using this
  have q2 : (((w.alloc (.cells #[.int .i64 3, .int .i64 0, .float .f64 9221120237041090561, .string ⟨#[]⟩, .slice none 0 0] 25)).alloc (.cells #[.int .i64 3, .int .i64 0, .float .f64 9221120237041090561, .string ⟨#[]⟩, .slice none 0 0] 25)).alloc (.cells #[.int .i64 7, .int .i64 0, .float .f64 0, .string ⟨#[]⟩, .slice (some ⟨w.heap.size + 1, 0, none⟩) 1 1] 25)).heap[w.heap.size + 1 + 1]? = some (.cells #[.int .i64 7, .int .i64 0, .float .f64 0, .string ⟨#[]⟩, .slice (some ⟨w.heap.size + 1, 0, none⟩) 1 1] 25 (0, 0)) := by
    have := blk_new ((w.alloc (.cells #[.int .i64 3, .int .i64 0, .float .f64 9221120237041090561, .string ⟨#[]⟩, .slice none 0 0] 25)).alloc (.cells #[.int .i64 3, .int .i64 0, .float .f64 9221120237041090561, .string ⟨#[]⟩, .slice none 0 0] 25)) (.cells #[.int .i64 7, .int .i64 0, .float .f64 0, .string ⟨#[]⟩, .slice (some ⟨w.heap.size + 1, 0, none⟩) 1 1] 25)
    simpa using this
  generalize (((w.alloc (.cells #[.int .i64 3, .int .i64 0, .float .f64 9221120237041090561, .string ⟨#[]⟩, .slice none 0 0] 25)).alloc (.cells #[.int .i64 3, .int .i64 0, .float .f64 9221120237041090561, .string ⟨#[]⟩, .slice none 0 0] 25)).alloc (.cells #[.int .i64 7, .int .i64 0, .float .f64 0, .string ⟨#[]⟩, .slice (some ⟨w.heap.size + 1, 0, none⟩) 1 1] 25)) = w3 at hb1 q0 q1 q2 ⊢
  have HB1 := Lib.hid hb1
  have HI3 := Lib.hid (HK.out.on HI.out hb1)
  have hv3 : VLies w3 (cells5 3 0 9221120237041090561 ⟨#[]⟩ none 0 0) lv := vlies_leaf w3 3 0 9221120237041090561 ⟨#[]⟩ none 0
  have hl3 : VLies w3 (cells5 7 0 0 ⟨#[]⟩ (some ⟨w.heap.size + 1, 0, none⟩) 1 1) ll := vlies_one q1 hv3 7 0 0 ⟨#[]⟩
  have HL3 := Lib.hid hl3
  have HV3 := Lib.hid hv3
  have HQ := Lib.hid (And.intro q0 (And.intro q1 q2))
  clear hb1 q0 q1 q2 hv3 hl3
  refine (HK.out.fix ll _ w3 HL3.out HI3.out).mono ?_
  rintro e w4 ⟨u', rfl, hF, hb4⟩
  have hF' := hF
  rw [ll_fix] at hF'
  obtain ⟨p4, c4, hu⟩ := hF'.cells
  have hu' : u' = #[.int .i64 7, .int .i64 0, .float .f64 0, .string ⟨#[]⟩, .slice p4 1 c4] := hu
  subst hu'
  have HF := Lib.hid hF.lies
  have HB4 := Lib.hid hb4
  have hb5 : Below w4.heap.size w4 (w4.alloc (.cells #[.int .i64 7, .int .i64 0, .float .f64 0, .string ⟨#[]⟩, .slice p4 1 c4] 25)) := (Below.refl _ _).alloc (Nat.le_refl _) _
  have hb35 : Below w3.heap.size w3 (w4.alloc (.cells #[.int .i64 7, .int .i64 0, .float .f64 0, .string ⟨#[]⟩, .slice p4 1 c4] 25)) := hb4.trans (hb5.mono hb4.size)
  have q0 := blk_on HQ.out.1 hb35 (blk_lt HQ.out.1)
  have q2 := blk_on HQ.out.2.2 hb35 (blk_lt HQ.out.2.2)
  have qf : (w4.alloc (.cells #[.int .i64 7, .int .i64 0, .float .f64 0, .string ⟨#[]⟩, .slice p4 1 c4] 25)).heap[w4.heap.size]? = some (.cells #[.int .i64 7, .int .i64 0, .float .f64 0, .string ⟨#[]⟩, .slice p4 1 c4] 25 (0, 0)) := blk_new w4 _
  have HB35 := Lib.hid hb35
  have HCe : Hid (∀ w', Below (w4.alloc (.cells #[.int .i64 7, .int .i64 0, .float .f64 0, .string ⟨#[]⟩, .slice p4 1 c4] 25)).heap.size (w4.alloc (.cells #[.int .i64 7, .int .i64 0, .float .f64 0, .string ⟨#[]⟩, .slice p4 1 c4] 25)) w' → w'.cell? ⟨w.heap.size, 0, none⟩ = some (.int .i64 3) ∧ w'.cell? ⟨w.heap.size, 1, none⟩ = some (.int .i64 0) ∧ w'.cell? ⟨w.heap.size, 2, none⟩ = some (.float .f64 9221120237041090561) ∧ w'.cell? ⟨w.heap.size, 3, none⟩ = some (.string ⟨#[]⟩) ∧ w'.cell? ⟨w.heap.size, 4, none⟩ = some (.slice none 0 0) ∧ w'.cell? ⟨w.heap.size + 1 + 1, 0, none⟩ = some (.int .i64 7) ∧ w'.cell? ⟨w.heap.size + 1 + 1, 1, none⟩ = some (.int .i64 0) ∧ w'.cell? ⟨w.heap.size + 1 + 1, 2, none⟩ = some (.float .f64 0) ∧ w'.cell? ⟨w.heap.size + 1 + 1, 3, none⟩ = some (.string ⟨#[]⟩) ∧ w'.cell? ⟨w.heap.size + 1 + 1, 4, none⟩ = some (.slice (some ⟨w.heap.size + 1, 0, none⟩) 1 1) ∧ w'.cell? ⟨w4.heap.size, 0, none⟩ = some (.int .i64 7) ∧ w'.cell? ⟨w4.heap.size, 1, none⟩ = some (.int .i64 0) ∧ w'.cell? ⟨w4.heap.size, 2, none⟩ = some (.float .f64 0) ∧ w'.cell? ⟨w4.heap.size, 3, none⟩ = some (.string ⟨#[]⟩) ∧ w'.cell? ⟨w4.heap.size, 4, none⟩ = some (.slice p4 1 c4)) := by
    intro w' hb
    have k0 := blk_cell (blk_on q0 hb (blk_lt q0))
    have k2 := blk_cell (blk_on q2 hb (blk_lt q2))
    have kf := blk_cell (blk_on qf hb (blk_lt qf))
    exact ⟨k0 0, k0 1, k0 2, k0 3, k0 4, k2 0, k2 1, k2 2, k2 3, k2 4, kf 0, kf 1, kf 2, kf 3, kf 4⟩
  have HFl := Lib.hid (HF.out.on hb5)
  have HWs : Hid (∀ w', Below (w4.alloc (.cells #[.int .i64 7, .int .i64 0, .float .f64 0, .string ⟨#[]⟩, .slice p4 1 c4] 25)).heap.size (w4.alloc (.cells #[.int .i64 7, .int .i64 0, .float .f64 0, .string ⟨#[]⟩, .slice p4 1 c4] 25)) w' → I w' ∧ VLies w' (cells5 7 0 0 ⟨#[]⟩ (some ⟨w.heap.size + 1, 0, none⟩) 1 1) ll ∧ VLies w' (cells5 3 0 9221120237041090561 ⟨#[]⟩ none 0 0) lv ∧ VLies w' (cells5 7 0 0 ⟨#[]⟩ p4 1 c4) (V.fix ll) ∧ Below w.heap.size w w') := by
    intro w' hb
    have h3 := HB35.out.trans (hb.mono HB35.out.size)
    exact ⟨HK.out.on HI3.out h3, HL3.out.on h3, HV3.out.on h3, HFl.out.on hb, HB1.out.trans (h3.mono HB1.out.size)⟩
  obtain ⟨a0, a1, a2, a3, a4, b0, b1, b2, b3, b4, d0, d1, d2, d3, d4⟩ := HCe.out _ (Below.refl _ _)
  clear hF hF' hb4 hu hb5 hb35 q0 q2 qf HFl
  go_wp2_with fail
  have hC1 := HK.out.check ll _ _ (HWs.out _ (Below.refl _ _)).2.1 (HWs.out _ (Below.refl _ _)).1
  rw [ll_chk] at hC1
  refine hC1.mono ?_
  rintro e w6 ⟨rfl, hb6⟩
  clear hC1 a0 a1 a2 a3 a4 b0 b1 b2 b3 b4 d0 d1 d2 d3 d4
  generalize (w4.alloc (.cells #[.int .i64 7, .int .i64 0, .float .f64 0, .string ⟨#[]⟩, .slice p4 1 c4] 25)) = w5 at HCe HWs hb6
  obtain ⟨a0, a1, a2, a3, a4, b0, b1, b2, b3, b4, d0, d1, d2, d3, d4⟩ := HCe.out w6 hb6
  have HB6 := Lib.hid hb6
  clear hb6
  go_wp2_with fail
  have hC2 := HK.out.check (.mk 8 0 0 ⟨#[]⟩ []) _ w6 (vlies_leaf w6 8 0 0 ⟨#[]⟩ none 0) (HWs.out _ HB6.out).1
  rw [k8_chk] at hC2
  refine hC2.mono ?_
  rintro e w7 ⟨rfl, hb7⟩
  clear hC2 a0 a1 a2 a3 a4 b0 b1 b2 b3 b4 d0 d1 d2 d3 d4
  have HB7 := Lib.hid (HB6.out.trans (hb7.mono HB6.out.size))
  obtain ⟨a0, a1, a2, a3, a4, b0, b1, b2, b3, b4, d0, d1, d2, d3, d4⟩ := HCe.out w7 HB7.out
  clear hb7 HB6
  go_wp2_with fail
  have hC3 := HK.out.same ll (V.fix ll) _ _ w7 (HWs.out _ HB7.out).2.1 (HWs.out _ HB7.out).2.2.2.1 (HWs.out _ HB7.out).1
  rw [ll_same] at hC3
  refine hC3.mono ?_
  rintro e w8 ⟨rfl, hb8⟩
  clear hC3 a0 a1 a2 a3 a4 b0 b1 b2 b3 b4 d0 d1 d2 d3 d4
  have HB8 := Lib.hid (HB7.out.trans (hb8.mono HB7.out.size))
  obtain ⟨a0, a1, a2, a3, a4, b0, b1, b2, b3, b4, d0, d1, d2, d3, d4⟩ := HCe.out w8 HB8.out
  clear hb8 HB7
  go_wp2_with fail
  have hC4 := HK.out.same lv (.mk 3 0 0 ⟨#[]⟩ []) _ _ w8 (HWs.out _ HB8.out).2.2.1 (vlies_leaf w8 3 0 0 ⟨#[]⟩ none 0) (HWs.out _ HB8.out).1
  rw [lv_same] at hC4
  refine hC4.mono ?_
  rintro e w9 ⟨rfl, hb9⟩
  clear hC4 a0 a1 a2 a3 a4 b0 b1 b2 b3 b4 d0 d1 d2 d3 d4
  have HB9 := Lib.hid (HB8.out.trans (hb9.mono HB8.out.size))
  clear hb9 HB8
  go_wp2_with fail
  have hC5 := HK.out.utf ⟨#[97]⟩ w9 (by decide) (HWs.out _ HB9.out).1
  rw [utf_a] at hC5
  refine hC5.mono ?_
  rintro e wa ⟨rfl, hba⟩
  clear hC5
  have HBa := Lib.hid (HB9.out.trans (hba.mono HB9.out.size))
  clear hba HB9
  go_wp2_with fail
  have hC6 := HK.out.utf ⟨#[255]⟩ wa (by decide) (HWs.out _ HBa.out).1
  rw [utf_ff] at hC6
  refine hC6.mono ?_
  rintro e wb ⟨rfl, hbb⟩
  clear hC6
  have HBb := Lib.hid (HBa.out.trans (hbb.mono HBa.out.size))
  clear hbb HBa
  go_wp2
  go_ret
  exact ⟨rfl, (HWs.out _ HBb.out).2.2.2.2⟩
end Go.Proofs.Ytooklmgkkkbfdaa

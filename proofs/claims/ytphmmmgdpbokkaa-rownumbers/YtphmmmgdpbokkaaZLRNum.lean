/- RowNumbers over what the laws ask of package row. -/
import Derived.Test.YtphmmmgdpbokkaaZLRValues
namespace Go.Proofs.Ytphmmmgdpbokkaa
open Go.RowKit

attribute [local go_sem] run_store_float run_frombits run_bits

set_option maxHeartbeats 400000 in
theorem nan8 (w : World) : Calls Try.prog 9 #[] w fun e w' => e = .returned (.float .f64 9221120237041090561) ∧ w' = w := by
  go_enter Try.func9, Try.ntmps9
  go_wp2
  go_ret
  exact ⟨rfl, rfl⟩
set_option maxHeartbeats 400000 in
theorem copysign8 (w : World) : Calls Try.prog 8 #[.float .f64 0, .float .f64 13830554455654793216] w fun e w' => e = .returned (.float .f64 9223372036854775808) ∧ w' = w := by
  go_enter Try.func8, Try.ntmps8
  go_wp2
  go_ret
  exact ⟨rfl, rfl⟩

theorem float_err8 (b : Nat) : Rw.encErr (.mk 3 []) (.mk 3 0 b ⟨#[]⟩ []) = 0 := by
  have h := Rw.vErr_make (t := .mk 3 []) (v := .mk 3 0 b ⟨#[]⟩ []) (Sch.ty_leaf (by omega) (by omega) (by omega)) (Sch.chk_make (by omega) (by kernel_rfl) (Nat.zero_le _) (by simp) (fun h => by cases h) (fun x hx => by cases hx)) (by rw [Sch.of_mk]; rfl)
  unfold Rw.encErr
  rw [if_neg (by rw [(Rw.vErr_zero h).1]; simp), h]
theorem mz_bytes : Rw.encB (.mk 3 []) (.mk 3 0 9223372036854775808 ⟨#[]⟩ []) = [0, 0, 0, 0, 0, 0, 0, 128] := by
  unfold Rw.encB
  rw [if_pos (float_err8 _)]
  simp only [Sch.vB_mk]
  kernel_rfl
theorem nan_bytes : Rw.encB (.mk 3 []) (.mk 3 0 9221120237041090561 ⟨#[]⟩ []) = [0, 0, 0, 0, 0, 0, 0xf8, 0x7f] := by
  unfold Rw.encB
  rw [if_pos (float_err8 _)]
  simp only [Sch.vB_mk]
  kernel_rfl

set_option maxRecDepth 100000 in
set_option maxHeartbeats 2000000 in
theorem rowNumbers_any {I : World → Prop} (K : RowsOk I) (w : World) (hI : I w) : Calls Try.prog 3 #[] w fun e w' => e = .returned (.bool true) ∧ Below w.heap.size w w' := by
  have HK := Lib.hid K
  have HI := Lib.hid hI
  clear hI K
  obtain ⟨W, hW⟩ : ∃ W, W = w.alloc (.cells #[.int .i64 3, .slice none 0 0] 24) := ⟨_, rfl⟩
  have HB0 : Hid (Below w.heap.size w W) := by rw [hW]; exact (Below.refl _ _).alloc (Nat.le_refl _) _
  have HY : Hid (W.cell? ⟨w.heap.size, 0, none⟩ = some (.int .i64 3) ∧ W.cell? ⟨w.heap.size, 1, none⟩ = some (.slice none 0 0)) := by rw [hW]; exact ⟨by simp, by simp⟩
  have HW := Lib.hid hW
  have HEn : Hid (∀ (b : Nat) (L : List UInt8), b < 18446744073709551616 → Rw.encB (.mk 3 []) (.mk 3 0 b ⟨#[]⟩ []) = L → ∀ w', Below w.heap.size w w' → Calls Try.prog 7 #[.agg #[.int .i64 3, .slice none 0 0], .agg #[.int .i64 3, .int .i64 0, .float .f64 b, .string ⟨#[]⟩, .slice none 0 0]] w' fun e w'' => ∃ q cap, e = .returned (.tuple #[.slice q L.length cap, .int .i64 0]) ∧ At w'' q L ∧ Below w'.heap.size w' w'') := fun b L hb hL w' h => by
    have hh := HK.out.encodeValue (.mk 3 []) (.mk 3 0 b ⟨#[]⟩ []) (cells2 3 none 0 0) (cells5 3 0 b ⟨#[]⟩ none 0 0) w' (tl_leaf w' 3 none 0) (Ty.wf_mk.2 ⟨by omega, fun x hx => by cases hx⟩) (vl_leaf w' 3 0 b ⟨#[]⟩ none 0) (V.wf_mk.2 ⟨by omega, by omega, by omega, Nat.zero_le _, fun x hx => by cases hx⟩) (HK.out.on HI.out h)
    rw [float_err8, hL] at hh
    refine hh.mono ?_
    rintro e w'' ⟨q, cap, rfl, h1, -, h2⟩
    exact ⟨q, cap, rfl, h1, h2⟩
  clear hW
  have a0 := HY.out.1
  have a1 := HY.out.2
  go_enter Try.func3, Try.ntmps3
  go_wp2_with fail
  rw [← HW.out]
  clear HW
  go_region_held3 (fun w' => w'.cell? ⟨w.heap.size, 0, none⟩ = some (.int .i64 3) ∧ w'.cell? ⟨w.heap.size, 1, none⟩ = some (.slice none 0 0)) (go_keep) (first
    | (go_at_call 8; refine (copysign8 _).mono ?_; rintro e wq ⟨rfl, hwq⟩; rw [hwq]; clear hwq wq)
    | (go_at_call 7; refine (HEn.out 9223372036854775808 _ (by omega) mz_bytes _ (below_drewN HB0.out _)).mono ?_; rintro e w1 ⟨q1, cap1, rfl, hat1, hb1⟩; have hb1' := below_via (w := W) hb1 (by rfl) (by rfl) (by rfl) (by rfl); have HB1 := Lib.hid hb1'; have HAt1 := Lib.hid hat1; have z0 := cell_on hb1' a0; have z1 := cell_on hb1' a1; clear hb1 hb1' hat1)
    | fail)
  have HBw1 := Lib.hid (HB0.out.trans (HB1.out.mono HB0.out.size))
  clear a0 a1 HB1
  go_wp2_with fail
  go_region_held3 (fun w' => w'.cell? ⟨w.heap.size, 0, none⟩ = some (.int .i64 3) ∧ w'.cell? ⟨w.heap.size, 1, none⟩ = some (.slice none 0 0)) (go_keep) (first
    | (go_at_call 9; refine (nan8 _).mono ?_; rintro e wq ⟨rfl, hwq⟩; rw [hwq]; clear hwq wq)
    | (go_at_call 7; refine (HEn.out 9221120237041090561 _ (by omega) nan_bytes _ (below_drewN HBw1.out _)).mono ?_; rintro e w2 ⟨q2, cap2, rfl, hat2, hb2⟩; have hb2' := below_via (w := w1) hb2 (by rfl) (by rfl) (by rfl) (by rfl); have HB2 := Lib.hid hb2'; have HAt2 := Lib.hid hat2; have y0 := cell_on hb2' z0; have y1 := cell_on hb2' z1; clear hb2 hb2' hat2)
    | fail)
  have HBw2 := Lib.hid (HBw1.out.trans (HB2.out.mono HBw1.out.size))
  have HAt12 := Lib.hid (HAt1.out.on HB2.out)
  clear z0 z1 y0 y1 HB2 HAt1
  obtain ⟨wa, hwa⟩ : ∃ wa, wa = w2.alloc (.cells #[.int .u8 0, .int .u8 0, .int .u8 0, .int .u8 0, .int .u8 0, .int .u8 0, .int .u8 0, .int .u8 128] 5) := ⟨_, rfl⟩
  have hba : Below w2.heap.size w2 wa := by rw [hwa]; exact (Below.refl _ _).alloc (Nat.le_refl _) _
  have hata : At wa (some ⟨w2.heap.size, 0, none⟩) [0, 0, 0, 0, 0, 0, 0, 128] := by rw [hwa]; exact (has_lit (B := 0) (w := w2) [0, 0, 0, 0, 0, 0, 0, 128] rfl (Nat.zero_le _) (by decide)).here
  have HSa := Lib.hid (same_any q1 (some ⟨w2.heap.size, 0, none⟩) cap1 8 [0, 0, 0, 0, 0, 0, 0, 128] [0, 0, 0, 0, 0, 0, 0, 128] (by decide) wa (HAt12.out.on hba) hata)
  have HBa := Lib.hid hba
  have HWa := Lib.hid hwa
  clear hwa hba hata
  go_wp2_with fail
  rw [← HWa.out]
  clear HWa
  refine HSa.out.mono ?_
  rintro e w3 ⟨rfl, n3, hw3⟩
  have hb3 : Below wa.heap.size wa w3 := by rw [hw3]; exact below_drewN (Below.refl _ _) n3
  have HB23 := Lib.hid (HBa.out.trans (hb3.mono HBa.out.size))
  clear hw3 hb3 HSa HBa
  simp only [beq_self_eq_true]
  obtain ⟨wb, hwb⟩ : ∃ wb, wb = w3.alloc (.cells #[.int .u8 0, .int .u8 0, .int .u8 0, .int .u8 0, .int .u8 0, .int .u8 0, .int .u8 248, .int .u8 127] 5) := ⟨_, rfl⟩
  have hbb : Below w3.heap.size w3 wb := by rw [hwb]; exact (Below.refl _ _).alloc (Nat.le_refl _) _
  have hatb : At wb (some ⟨w3.heap.size, 0, none⟩) [0, 0, 0, 0, 0, 0, 0xf8, 0x7f] := by rw [hwb]; exact (has_lit (B := 0) (w := w3) [0, 0, 0, 0, 0, 0, 0xf8, 0x7f] rfl (Nat.zero_le _) (by decide)).here
  have HB2b := Lib.hid (HB23.out.trans (hbb.mono HB23.out.size))
  have HSb := Lib.hid (same_any q2 (some ⟨w3.heap.size, 0, none⟩) cap2 8 [0, 0, 0, 0, 0, 0, 0xf8, 0x7f] [0, 0, 0, 0, 0, 0, 0xf8, 0x7f] (by decide) wb (HAt2.out.on HB2b.out) hatb)
  have HBwb := Lib.hid (HBw2.out.trans (HB2b.out.mono HBw2.out.size))
  have HWb := Lib.hid hwb
  clear hwb hbb hatb HB23
  go_wp2_with fail
  rw [← HWb.out]
  clear HWb
  refine HSb.out.mono ?_
  rintro e w4 ⟨rfl, n4, hw4⟩
  have HBw4 : Hid (Below w.heap.size w w4) := by rw [hw4]; exact below_drewN HBwb.out n4
  clear hw4 HSb
  go_wp2
  go_ret
  exact ⟨rfl, HBw4.out⟩
end Go.Proofs.Ytphmmmgdpbokkaa

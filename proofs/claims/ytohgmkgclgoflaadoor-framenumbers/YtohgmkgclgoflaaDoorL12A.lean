/- FrameNumbers, walked. -/
import Derived.Test.YtohgmkgclgoflaaDoorW12B
namespace Go.Proofs.YtohgmkgclgoflaaDoor
open Go.RowKit

def twoF : Fr := { Fr0 with kind := 2 }
theorem two_err : Fr.err twoF = 7 := by kernel_rfl
theorem two_wf : twoF.wf := ⟨by simp [twoF, Fr.i64], by simp [twoF, Fr0, Fr.i64], by simp [twoF, Fr0], by simp [twoF, Fr0, Fr.i64], by simp [twoF, Fr0, Fr.i64], by simp [twoF, Fr0, Fr.i64], by simp [twoF, Fr0, Idx0, Fr.i64], by simp [twoF, Fr0, Idx0]⟩
theorem dec_long {l : List UInt8} (h : 2200 < l.length) : Fr.dec l = .error 2 := by
  unfold Fr.dec Fr.open_
  simp only [if_pos h]
/-- make([]byte, n) -/
theorem make_zero (w : World) : ∃ w', (Instr.makeSlice 22 (.int .i64 2201) (.int .i64 2201)).run Tryd.prog w = .ok (.slice (some ⟨w.heap.size, 0, none⟩) 2201 2201) w' ∧ At w' (some ⟨w.heap.size, 0, none⟩) (List.replicate 2201 0) ∧ Below w.heap.size w w' := by
  obtain ⟨i, hi, hz, hsz, hby⟩ := info_parts info8
  have hr := run_makeSlice (P := Tryd.prog) w 22 5 i (.int .u8 0) Tryd.underlying22 hi hz .i64 .i64 2201 2201 (by omega) (by omega) (by rw [hsz]; decide) (by rw [hby]; decide) (by omega)
  rw [hsz] at hr
  refine ⟨_, hr, .inr ⟨w.heap.size, 0, rfl, by simp, fun j hj => ?_⟩, (Below.refl _ _).alloc (Nat.le_refl _) _⟩
  rw [List.length_replicate] at hj
  rw [blk_cell (blk_new w _), List.getElem_replicate]
  simp [madeCells, hj, Nat.mod_one, Value.cells]

set_option maxRecDepth 100000 in
set_option maxHeartbeats 4000000 in
theorem frameNumbers_any (w : World) (hv : Hv w) : Calls Tryd.prog 3 #[] w fun e w' => e = .returned (.bool true) ∧ Below w.heap.size w w' := by
  have HHv := Lib.hid hv
  have hE := encodeF twoF two_wf #[.int .i64 2, .int .i64 0, .slice none 0 0, .int .i64 0, .int .i64 0, .int .i64 0, .slice none 0 0, .int .i64 0, .int .i64 0, .int .i64 0, .slice none 0 0] w hv (lies_plain w 2)
  rw [two_err] at hE
  have HE := Lib.hid hE
  clear hv hE
  go_enter Tryd.func3, Tryd.ntmps3
  go_wp2_with fail
  refine HE.out.mono ?_
  rintro e w1 (⟨hz, -⟩ | ⟨-, rfl, hb1⟩)
  · exact absurd hz (by decide)
  obtain ⟨w2, hmk, hat, hb12⟩ := make_zero w1
  have HB1 := Lib.hid hb1
  have HB2 := Lib.hid (hb1.trans (hb12.mono hb1.size))
  have hD := decodeF (some ⟨w1.heap.size, 0, none⟩) 2201 (List.replicate 2201 0) (by simp) (by simp) w2 (HHv.out.next HB2.out) hat
  rw [dec_long (by simp), List.length_replicate] at hD
  have HD := Lib.hid hD
  clear hD hb1 hb12 hat HE
  go_wp2_with fail
  refine HD.out.mono ?_
  rintro e w3 ⟨rfl, hb3⟩
  obtain ⟨w4, hw4⟩ : ∃ w4, w4 = w3.alloc (.cells #[.int .i64 0, .int .i64 0, .slice none 0 0, .int .i64 0, .int .i64 0, .int .i64 0, .slice none 0 0, .int .i64 0, .int .i64 0, .int .i64 0, .slice none 0 0] 33) := ⟨_, rfl⟩
  have hb23 := HB2.out.trans (hb3.mono HB2.out.size)
  have HB4 : Hid (Below w.heap.size w w4) := by rw [hw4]; exact hb23.alloc hb23.size _
  have HW4 : Hid (w3.alloc (.cells #[.int .i64 0, .int .i64 0, .slice none 0 0, .int .i64 0, .int .i64 0, .int .i64 0, .slice none 0 0, .int .i64 0, .int .i64 0, .int .i64 0, .slice none 0 0] 33) = w4) := by rw [hw4]; exact rfl
  clear hb3 hb23 HD hw4
  go_wp2_with fail
  rw [HW4.out]
  refine (live12 w4 (HHv.out.next HB4.out)).mono ?_
  rintro e w5 ⟨rfl, hb5⟩
  have HB5 := Lib.hid (HB4.out.trans (hb5.mono HB4.out.size))
  clear hb5
  go_wp2
  go_ret
  exact ⟨rfl, HB5.out⟩
end Go.Proofs.YtohgmkgclgoflaaDoor

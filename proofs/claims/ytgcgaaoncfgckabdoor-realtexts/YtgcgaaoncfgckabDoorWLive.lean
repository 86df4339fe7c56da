/- The law's own live(): a few calls that the document fixes, walked: it returns true. -/
import Derived.Test.YtgcgaaoncfgckabDoorWPrint
import Derived.Deep.QuietTactic
import Derived.BigQuiet
import Derived.Lib.AtoiErrMem
import Derived.Lib.SmallJoins
namespace Go.Proofs.YtgcgaaoncfgckabDoor
open Go.RowKit

theorem below_of_bytes {w w' : World} (h : w' = w ∨ ∃ t, w' = Lib.bytesWorld w 5 t) : Below w.heap.size w w' := by
  rcases h with rfl | ⟨t, rfl⟩
  · exact Below.refl _ _
  · exact Lib.bytesWorld_below w 5 t

theorem cut_m12 (w : World) :
    Calls Tryd.prog 24 #[.string ⟨#[45, 49, 50]⟩, .string ⟨#[120]⟩] w fun e w' => e = .returned (.tuple #[.string ⟨#[45, 49, 50]⟩, .bool false]) ∧ w' = w := by
  refine (Tryd.strings_CutPrefix ⟨#[45, 49, 50]⟩ ⟨#[120]⟩ w).mono ?_
  rintro e w' ⟨rfl, rfl⟩
  exact ⟨rfl, rfl⟩

theorem fl_m12 : floatOfInt .f64 (-12) = 13846317054350589952 := by kernel_rfl

set_option maxHeartbeats 1000000 in
theorem guess_m12 (w : World) :
    Calls Tryd.prog 12 #[.string ⟨#[45, 49, 50]⟩] w fun e w' => e = .returned (.tuple #[.float .f64 13846317054350589952, .bool true]) ∧ Below w.heap.size w w' := by
  have hf := fl_m12
  go_enter Tryd.func12, Tryd.ntmps12
  go_wp2_with fail
  refine (cut_m12 _).mono ?_
  rintro e w' ⟨rfl, rfl⟩
  go_wp2_with fail
  refine (Tryd.strconv_ParseInt_10_at64_ok _ (by decide) (-12) (by decide) _).mono ?_
  rintro e w1 ⟨rfl, hg⟩
  have hb := Lib.hid (below_of_bytes hg)
  clear hg
  go_wp2
  go_region
  go_wp2
  go_ret2
  exact ⟨rfl, hb.out.drew⟩

theorem dec_m12 : decB 13846317054350589952 = true := by kernel_rfl
theorem trunc_m12 : Flt.trunc 13846317054350589952 = -12 := by kernel_rfl
theorem dec_7 : decB 4619567317775286272 = true := by kernel_rfl
theorem trunc_7 : Flt.trunc 4619567317775286272 = 7 := by kernel_rfl

theorem itoa_m12 : Lib.itoa (-12) = [45, 49, 50] := by simp [Lib.itoa, Lib.decDigits]
theorem itoa_7 : Lib.itoa 7 = [55] := by simp [Lib.itoa, Lib.decDigits]

theorem print_m12 (w : World) (ht : Tab w) :
    Calls Tryd.prog 6 #[.float .f64 13846317054350589952] w fun e w' => e = .returned (.string ⟨#[45, 49, 50]⟩) ∧ Below w.heap.size w w' := by
  refine (print_dec _ (by decide) dec_m12 w ht).mono ?_
  rintro e w' ⟨rfl, hb⟩
  exact ⟨by rw [trunc_m12, itoa_m12], hb⟩
theorem print_7 (w : World) (ht : Tab w) :
    Calls Tryd.prog 6 #[.float .f64 4619567317775286272] w fun e w' => e = .returned (.string ⟨#[55]⟩) ∧ Below w.heap.size w w' := by
  refine (print_dec _ (by decide) dec_7 w ht).mono ?_
  rintro e w' ⟨rfl, hb⟩
  exact ⟨by rw [trunc_7, itoa_7], hb⟩

theorem tab_on {w w' : World} (h : Tab w) (hb : Below w.heap.size w w') : Tab w' :=
  Joins.tab_stays (show Tryd.prog.globalNamed "internal/strconv.uint64pow10" = some 1 by kernel_rfl) h hb (Nat.le_refl _)

set_option maxHeartbeats 1000000 in
theorem parse_m12 (w : World) (ht : Tab w) :
    Calls Tryd.prog 5 #[.string ⟨#[45, 49, 50]⟩] w fun e w' => e = .returned (.tuple #[.float .f64 13846317054350589952, .int .i64 0]) ∧ Below w.heap.size w w' := by
  have HT := Lib.hid ht
  clear ht
  go_enter Tryd.func5, Tryd.ntmps5
  go_wp2_with fail
  refine (guess_m12 _).mono ?_
  rintro e w1 ⟨rfl, hb1⟩
  have HB1 := Lib.hid hb1
  clear hb1
  go_wp2_with fail
  refine (print_m12 _ (tab_on HT.out HB1.out)).mono ?_
  rintro e w2 ⟨rfl, hb2⟩
  have HB2 := Lib.hid hb2
  clear hb2
  go_wp2
  go_ret2
  exact ⟨rfl, HB1.out.trans (HB2.out.mono HB1.out.size)⟩

theorem to_m3 (w : World) : Calls Tryd.prog 16 #[.float .f64 13837309855095848960] w fun e w' => e = .returned (.tuple #[.int .i64 (-3), .int .i64 0]) ∧ w' = w := by
  have h := realToInt_any 13837309855095848960 w
  rwa [show toN 13837309855095848960 = -3 by kernel_rfl, show toE 13837309855095848960 = 0 by kernel_rfl] at h
theorem to_half (w : World) : Calls Tryd.prog 16 #[.float .f64 4602678819172646912] w fun e w' => e = .returned (.tuple #[.int .i64 0, .int .i64 10]) ∧ w' = w := by
  have h := realToInt_any 4602678819172646912 w
  rwa [show toN 4602678819172646912 = 0 by kernel_rfl, show toE 4602678819172646912 = 10 by kernel_rfl] at h
theorem from_7 (w : World) : Calls Tryd.prog 21 #[.int .i64 7] w fun e w' => e = .returned (.tuple #[.float .f64 4619567317775286272, .int .i64 0]) ∧ w' = w := by
  have h := realFromInt_any 7 w
  rwa [show fromB 7 = 4619567317775286272 by kernel_rfl, show fromE 7 = 0 by kernel_rfl] at h
theorem same_1 (w : World) : Calls Tryd.prog 9 #[.float .f64 4607182418800017408, .float .f64 4607182418800017408] w fun e w' => e = .returned (.bool true) ∧ w' = w := by
  have h := realSame_any 4607182418800017408 4607182418800017408 w
  rwa [beq_self_eq_true] at h

theorem eq_7 : (FloatKind.f64.format.order 4619567317775286272 4619567317775286272 == some .eq) = true := by kernel_rfl
theorem eq_m12 : (FloatKind.f64.format.order 13846317054350589952 13846317054350589952 == some .eq) = true := by kernel_rfl

set_option maxHeartbeats 1000000 in
theorem live_any (w : World) (ht : Tab w) :
    Calls Tryd.prog 10 #[] w fun e w' => e = .returned (.bool true) ∧ Below w.heap.size w w' := by
  have HT := Lib.hid ht
  clear ht
  have h1 := eq_7
  have h2 := eq_m12
  go_enter Tryd.func10, Tryd.ntmps10
  go_wp2_with fail
  refine (from_7 _).mono ?_
  rintro e w' ⟨rfl, rfl⟩
  go_wp2_with fail
  refine (to_m3 _).mono ?_
  rintro e w' ⟨rfl, rfl⟩
  go_wp2_with fail
  refine (to_half _).mono ?_
  rintro e w' ⟨rfl, rfl⟩
  go_wp2_with fail
  refine (parse_m12 _ HT.out).mono ?_
  rintro e w1 ⟨rfl, hb1⟩
  have HB1 := Lib.hid hb1
  clear hb1
  go_wp2_with fail
  refine (print_7 _ (tab_on HT.out HB1.out)).mono ?_
  rintro e w2 ⟨rfl, hb2⟩
  have HB2 := Lib.hid hb2
  clear hb2
  go_wp2_with fail
  refine (same_1 _).mono ?_
  rintro e w' ⟨rfl, rfl⟩
  go_wp2
  go_ret
  exact ⟨rfl, HB1.out.trans (HB2.out.mono HB1.out.size)⟩
end Go.Proofs.YtgcgaaoncfgckabDoor

/- The walk of the law RealNumbers: it returns true. -/
import Derived.Test.YtgcgaaoncfgckaaDoorWBits
namespace Go.Proofs.YtgcgaaoncfgckaaDoor
open Go.RowKit

theorem from_a (w : World) : Calls Tryd.prog 9 #[.int .i64 9007199254740993] w fun e w' => e = .returned (.tuple #[.float .f64 0, .int .i64 10]) ∧ w' = w := by
  have h := realFromInt_any 9007199254740993 w
  rwa [show fromB 9007199254740993 = 0 by kernel_rfl, show fromE 9007199254740993 = 10 by kernel_rfl] at h
theorem from_b (w : World) : Calls Tryd.prog 9 #[.int .i64 (-9223372036854775808)] w fun e w' => e = .returned (.tuple #[.float .f64 14114281232179134464, .int .i64 0]) ∧ w' = w := by
  have h := realFromInt_any (-9223372036854775808) w
  rwa [show fromB (-9223372036854775808) = 14114281232179134464 by kernel_rfl, show fromE (-9223372036854775808) = 0 by kernel_rfl] at h
theorem raw_mz (w : World) : Calls Tryd.prog 11 #[.int .u64 9223372036854775808] w fun e w' => e = .returned (.float .f64 9223372036854775808) ∧ w' = w := raw_any 9223372036854775808 w
theorem to_mz (w : World) : Calls Tryd.prog 10 #[.float .f64 9223372036854775808] w fun e w' => e = .returned (.tuple #[.int .i64 0, .int .i64 10]) ∧ w' = w := by
  have h := realToInt_any 9223372036854775808 w
  rwa [show toN 9223372036854775808 = 0 by kernel_rfl, show toE 9223372036854775808 = 10 by kernel_rfl] at h
theorem to_63 (w : World) : Calls Tryd.prog 10 #[.float .f64 4890909195324358656] w fun e w' => e = .returned (.tuple #[.int .i64 0, .int .i64 10]) ∧ w' = w := by
  have h := realToInt_any 4890909195324358656 w
  rwa [show toN 4890909195324358656 = 0 by kernel_rfl, show toE 4890909195324358656 = 10 by kernel_rfl] at h
theorem same_0 (w : World) : Calls Tryd.prog 13 #[.float .f64 0, .float .f64 9223372036854775808] w fun e w' => e = .returned (.bool false) ∧ w' = w := by
  have h := realSame_any 0 9223372036854775808 w
  rwa [show ((fixB 0 : Int) == (fixB 9223372036854775808 : Int)) = false by kernel_rfl] at h
theorem hex_half : Hex.digits 4602678819172646912 16 = [51, 102, 101, 48, 48, 48, 48, 48, 48, 48, 48, 48, 48, 48, 48, 48] := by decide +kernel
theorem print_half (w : World) (hz : Tz w) :
    Calls Tryd.prog 12 #[.float .f64 4602678819172646912] w fun e w' => e = .returned (.string ⟨#[120, 51, 102, 101, 48, 48, 48, 48, 48, 48, 48, 48, 48, 48, 48, 48, 48]⟩) ∧ Below w.heap.size w w' := by
  have h := print_hex 4602678819172646912 (by decide) (by kernel_rfl) (by decide) (by decide) (by decide) (by kernel_rfl) w hz
  rw [hex_half] at h
  exact h
theorem eq_m63 : (FloatKind.f64.format.order 14114281232179134464 14114281232179134464 == some .eq) = true := by kernel_rfl

set_option maxRecDepth 100000 in
set_option maxHeartbeats 1000000 in
theorem realNumbers_any (w : World) (hz : Tz w) :
    Calls Tryd.prog 3 #[] w fun e w' => e = .returned (.bool true) ∧ Below w.heap.size w w' := by
  have HZ := Lib.hid hz
  have h1 := eq_m63
  clear hz
  go_enter Tryd.func3, Tryd.ntmps3
  go_wp2_with fail
  refine (from_a _).mono ?_
  rintro e w' ⟨rfl, rfl⟩
  go_wp2_with fail
  refine (from_b _).mono ?_
  rintro e w' ⟨rfl, rfl⟩
  go_wp2_with fail
  refine (raw_mz _).mono ?_
  rintro e w' ⟨rfl, rfl⟩
  go_wp2_with fail
  refine (to_mz _).mono ?_
  rintro e w' ⟨rfl, rfl⟩
  go_wp2_with fail
  refine (to_63 _).mono ?_
  rintro e w' ⟨rfl, rfl⟩
  go_wp2_with fail
  refine (print_half _ HZ.out).mono ?_
  rintro e w1 ⟨rfl, hb⟩
  have HB := Lib.hid hb
  clear hb
  go_wp2_with fail
  refine (raw_mz _).mono ?_
  rintro e w' ⟨rfl, rfl⟩
  go_wp2_with fail
  refine (same_0 _).mono ?_
  rintro e w' ⟨rfl, rfl⟩
  go_wp2
  go_ret
  exact ⟨rfl, HB.out⟩
end Go.Proofs.YtgcgaaoncfgckaaDoor

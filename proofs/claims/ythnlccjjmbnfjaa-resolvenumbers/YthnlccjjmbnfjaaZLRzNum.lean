/- ResolveNumbers over the landed resolve. -/
import Derived.Test.YthnlccjjmbnfjaaM41
namespace Go.Proofs.Ythnlccjjmbnfjaa
open Go.RowKit

attribute [local go_sem] run_store_float run_frombits run_bits

set_option maxRecDepth 100000 in
set_option maxHeartbeats 400000 in
theorem copysign9 (w : World) : Calls Try.prog 17 #[.float .f64 0, .float .f64 13830554455654793216] w fun e w' => e = .returned (.float .f64 9223372036854775808) ∧ w' = w := by
  go_enter Try.func17, Try.ntmps17
  go_wp2
  go_ret
  exact ⟨rfl, rfl⟩
theorem minus_nought : Rz.value (.mk 3 []) (.mk 2 []) (.mk 3 0 9223372036854775808 ⟨#[]⟩ []) = .error 10 := by
  rw [Rz.value_float_int]
  have h1 : toE 9223372036854775808 = 10 := by kernel_rfl
  rw [if_neg (by rw [h1]; omega)]

set_option maxRecDepth 100000 in
set_option maxHeartbeats 1000000 in
theorem resolveNumbers9 (w : World) : Calls Try.prog 5 #[] w fun e w' => e = .returned (.bool true) ∧ Below w.heap.size w w' := by
  go_enter Try.func5, Try.ntmps5
  go_wp2_with fail
  refine (float9 w).mono ?_
  rintro e w1 ⟨rfl, hb1⟩
  have HB1 := Lib.hid hb1
  clear hb1
  go_wp2_with fail
  refine (integer9 w1).mono ?_
  rintro e w2 ⟨rfl, hb2⟩
  have HB2 := Lib.hid (HB1.out.trans (hb2.mono HB1.out.size))
  clear hb2
  go_wp2_with fail
  refine (copysign9 w2).mono ?_
  rintro e w3 ⟨rfl, hw3⟩
  rw [hw3]
  clear hw3 w3
  have HV := Lib.hid (valueK9 (.mk 3 []) (.mk 2 []) (.mk 3 0 9223372036854775808 ⟨#[]⟩ []) w2 _ _ _ (tl_leaf9 w2 3 none 0) (tl_leaf9 w2 2 none 0) (vl_leaf9 w2 3 0 9223372036854775808 ⟨#[]⟩ none 0) (V.wf_mk.2 ⟨by omega, by omega, by omega, Nat.zero_le _, fun x hx => by cases hx⟩))
  rw [minus_nought] at HV
  unfold cells2 cells5 at HV
  go_wp2_with fail
  refine HV.out.mono ?_
  rintro e w4 ⟨rfl, hb4⟩
  unfold zero5 cells5
  obtain ⟨W4, hW4⟩ : ∃ W, W = w4.alloc (.cells #[.int .i64 0, .int .i64 0, .float .f64 0, .string ⟨#[]⟩, .slice none 0 0] 45) := ⟨_, rfl⟩
  have HB4 : Hid (Below w.heap.size w W4) := by
    have h := HB2.out.trans (hb4.mono HB2.out.size)
    rw [hW4]; exact h.alloc h.size _
  have HW4 := Lib.hid hW4
  clear hW4 hb4 HV HB1 HB2
  go_wp2_with fail
  rw [← HW4.out]
  clear HW4
  refine (live9 W4).mono ?_
  rintro e w5 ⟨rfl, hb5⟩
  have HB5 := Lib.hid (HB4.out.trans (hb5.mono HB4.out.size))
  clear hb5
  go_wp2
  go_ret
  exact ⟨rfl, HB5.out⟩
end Go.Proofs.Ythnlccjjmbnfjaa

/- The walk of the document's own Print: it tells the text, at every float. -/
import Derived.Test.YtgcgaaoncfgckaaDoorWRefP
import Derived.Lib.ItoaLen
namespace Go.Proofs.YtgcgaaoncfgckaaDoor
open Go.RowKit

namespace Flt
open Ieee
theorem units_53 : units 4845873199050653696 = 9007199254740992 * one := by
  have := units_full 4503599627370496 1075 (by omega) (by omega)
  rw [show 1075 * 4503599627370496 + 4503599627370496 = 4845873199050653696 by omega] at this
  rw [this]
  unfold one
  rw [show (1075 : Nat) = 1 + bias from rfl, Nat.pow_add, ← Nat.mul_assoc]
theorem sg_53 : sg 4845873199050653696 = 9007199254740992 * (one : Int) := by
  unfold sg
  rw [show neg 4845873199050653696 = false by decide, show rung 4845873199050653696 = 4845873199050653696 by decide, units_53]
  simp
theorem sg_m53 : sg 14069245235905429504 = -(9007199254740992 * (one : Int)) := by
  unfold sg
  rw [show neg 14069245235905429504 = true by decide, show rung 14069245235905429504 = 4845873199050653696 by decide, units_53]
  simp

/-- -2 ^ 53 < x and x < 2 ^ 53, as the document's own answer asks it -/
theorem in53_fin {x : Nat} (h1 : (double.order x 14069245235905429504 == some .gt) = true) (h2 : (double.order x 4845873199050653696 == some .lt) = true) : rung x < 9218868437227405312 := by
  rcases Nat.lt_trichotomy (rung x) 9218868437227405312 with h | h | h
  · exact h
  · exfalso
    unfold Format.order at h1 h2
    rw [read_inf h, read_fin (x := 14069245235905429504) (by decide)] at h1
    rw [read_inf h, read_fin (x := 4845873199050653696) (by decide)] at h2
    cases hn : neg x <;> simp [hn, Datum.order] at h1 h2
  · exfalso
    unfold Format.order at h1
    rw [read_nan h] at h1
    simp [Datum.order] at h1

theorem in53_sg {x : Nat} (hf : rung x < 9218868437227405312) : ((double.order x 14069245235905429504 == some .gt) = true ∧ (double.order x 4845873199050653696 == some .lt) = true) ↔ (-(9007199254740992 * (one : Int)) < sg x ∧ sg x < 9007199254740992 * (one : Int)) := by
  rw [order_fin hf (by decide), order_fin hf (by decide), sg_53, sg_m53]
  simp only [beq_iff_eq, Option.some.injEq, Int.compare_eq_gt, Int.compare_eq_lt]

theorem inR_of_sg {x : Nat} (hf : rung x < 9218868437227405312) (h1 : -(9007199254740992 * (one : Int)) < sg x) (h2 : sg x < 9007199254740992 * (one : Int)) : inR x = true := by
  have hp : (0 : Int) < (one : Int) := by have := one_pos; omega
  unfold inR
  rw [order_fin (by decide) hf, order_fin hf (by decide), sg_63, sg_m63]
  have c1 : -(9223372036854775808 * (one : Int)) < sg x := by omega
  have c2 : sg x < 9223372036854775808 * (one : Int) := by omega
  rw [Int.compare_eq_lt.2 c1, Int.compare_eq_lt.2 c2]
  rfl

/-- a whole float's units are its whole number's -/
theorem sg_whole {x : Nat} (hw : whole x = true) : sg x = trunc x * (one : Int) := by
  have hm : units (rung x) % one = 0 := by simpa [whole] using hw
  have hu : units (rung x) = units (rung x) / one * one := by
    have := Nat.div_add_mod (units (rung x)) one
    rw [hm, Nat.mul_comm] at this
    omega
  unfold sg trunc
  generalize units (rung x) / one = q at hu
  rw [hu]
  split <;> simp [Int.neg_mul]

theorem whole_swap {x : Nat} (hf : rung x < 9218868437227405312) : (double.order x (floatOfInt .f64 (trunc x)) == some .eq) = whole x := by
  rw [← back_whole hf, order_swap (floatOfInt .f64 (trunc x)) x]
  cases double.order (floatOfInt .f64 (trunc x)) x with
  | none => rfl
  | some o => cases o <;> rfl
end Flt

theorem dec_cases (x : Nat) (hn : nanB x = false) (hz : x ≠ 9223372036854775808) :
    ((FloatKind.f64.format.order x 14069245235905429504 == some .gt) = false ∧ decB x = false) ∨
    ((FloatKind.f64.format.order x 14069245235905429504 == some .gt) = true ∧ (FloatKind.f64.format.order x 4845873199050653696 == some .lt) = false ∧ decB x = false) ∨
    ((FloatKind.f64.format.order x 14069245235905429504 == some .gt) = true ∧ (FloatKind.f64.format.order x 4845873199050653696 == some .lt) = true ∧ floatToIntVal .f64 x .i64 = some (Flt.trunc x) ∧ (FloatKind.f64.format.order x (floatOfInt .f64 (Flt.trunc x)) == some .eq) = false ∧ decB x = false) ∨
    ((FloatKind.f64.format.order x 14069245235905429504 == some .gt) = true ∧ (FloatKind.f64.format.order x 4845873199050653696 == some .lt) = true ∧ floatToIntVal .f64 x .i64 = some (Flt.trunc x) ∧ (FloatKind.f64.format.order x (floatOfInt .f64 (Flt.trunc x)) == some .eq) = true ∧ decB x = true) := by
  have hp : (0 : Int) < (Flt.one : Int) := by have := Flt.one_pos; omega
  have hfix : fixB x = x := fix_f hn
  have hmz : ((fixB x : Int) == 9223372036854775808) = false := by rw [hfix, beq_eq_false_iff_ne]; omega
  -- decB asks both bounds
  have hdec : decB x = true → (FloatKind.f64.format.order x 14069245235905429504 == some .gt) = true ∧ (FloatKind.f64.format.order x 4845873199050653696 == some .lt) = true := by
    intro hd
    unfold decB okB at hd
    simp only [Bool.and_eq_true, Bool.not_eq_true', decide_eq_true_eq] at hd
    obtain ⟨⟨⟨⟨hr, _⟩, hw⟩, h1⟩, h2⟩ := hd
    refine (Flt.in53_sg (Flt.inR_fin hr)).2 ?_
    rw [Flt.sg_whole hw, ← Int.neg_mul]
    exact ⟨Int.mul_lt_mul_of_pos_right h1 hp, Int.mul_lt_mul_of_pos_right h2 hp⟩
  cases h1 : (FloatKind.f64.format.order x 14069245235905429504 == some .gt)
  · refine .inl ⟨rfl, ?_⟩
    cases hd : decB x
    · rfl
    · have := (hdec hd).1; rw [h1] at this; cases this
  · cases h2 : (FloatKind.f64.format.order x 4845873199050653696 == some .lt)
    · refine .inr (.inl ⟨rfl, rfl, ?_⟩)
      cases hd : decB x
      · rfl
      · have := (hdec hd).2; rw [h2] at this; cases this
    · have hf := Flt.in53_fin h1 h2
      obtain ⟨s1, s2⟩ := (Flt.in53_sg hf).1 ⟨h1, h2⟩
      have hr := Flt.inR_of_sg hf s1 s2
      have hv := Flt.toInt_val hr
      have hs : (FloatKind.f64.format.order x (floatOfInt .f64 (Flt.trunc x)) == some .eq) = Flt.whole x := Flt.whole_swap hf
      cases hw : Flt.whole x
      · refine .inr (.inr (.inl ⟨rfl, rfl, hv, by rw [hs, hw], ?_⟩))
        simp [decB, okB, hw]
      · refine .inr (.inr (.inr ⟨rfl, rfl, hv, by rw [hs, hw], ?_⟩))
        rw [Flt.sg_whole hw, ← Int.neg_mul] at s1
        rw [Flt.sg_whole hw] at s2
        have t1 := Int.lt_of_mul_lt_mul_right s1 (Int.le_of_lt hp)
        have t2 := Int.lt_of_mul_lt_mul_right s2 (Int.le_of_lt hp)
        simp [decB, okB, hw, hr, hmz, t1, t2]

theorem nan_bits : nanB 9221120237041090560 = true := by kernel_rfl

theorem run_to_int3 (x : Nat) (n : Int) (w : World) (h : floatToIntVal .f64 x .i64 = some n) : (convert 22 3 (.float .f64 x)).run Tryd.prog w = .ok (.int .i64 n) w :=
  run_convert_float_int w 22 3 .f64 .i64 x n (by rw [Tryd.underlying22]; rfl) Tryd.underlying3 h

set_option maxHeartbeats 1000000 in
theorem refPrint_inf (w : World) :
    Calls Tryd.prog 25 #[.float .f64 9218868437227405312] w fun e w' => e = .returned (.string ⟨#[105, 110, 102]⟩) ∧ w' = w := by
  have I1 : Hid (∀ w, Calls Tryd.prog 18 #[.float .f64 9218868437227405312] w fun e w' => e = .returned (.int .u64 9218868437227405312) ∧ w' = w) := fun w => by
    have := refBits_any 9218868437227405312 w; rwa [fix_f nan_inf] at this
  go_enter Tryd.func25, Tryd.ntmps25
  go_wp2_with fail
  refine (I1.out _).mono ?_
  rintro e w' ⟨rfl, rfl⟩
  go_wp2
  go_ret
  exact ⟨rfl, rfl⟩

set_option maxHeartbeats 1000000 in
theorem refPrint_ninf (w : World) :
    Calls Tryd.prog 25 #[.float .f64 18442240474082181120] w fun e w' => e = .returned (.string ⟨#[45, 105, 110, 102]⟩) ∧ w' = w := by
  have I1 : Hid (∀ w, Calls Tryd.prog 18 #[.float .f64 18442240474082181120] w fun e w' => e = .returned (.int .u64 18442240474082181120) ∧ w' = w) := fun w => by
    have := refBits_any 18442240474082181120 w; rwa [fix_f nan_ninf] at this
  go_enter Tryd.func25, Tryd.ntmps25
  go_wp2_with fail
  refine (I1.out _).mono ?_
  rintro e w' ⟨rfl, rfl⟩
  go_wp2
  go_ret
  exact ⟨rfl, rfl⟩

set_option maxHeartbeats 1000000 in
theorem refPrint_mz (w : World) :
    Calls Tryd.prog 25 #[.float .f64 9223372036854775808] w fun e w' => e = .returned (.string ⟨#[45, 48]⟩) ∧ w' = w := by
  have I1 : Hid (∀ w, Calls Tryd.prog 18 #[.float .f64 9223372036854775808] w fun e w' => e = .returned (.int .u64 9223372036854775808) ∧ w' = w) := fun w => by
    have := refBits_any 9223372036854775808 w; rwa [fix_f nan_mz] at this
  go_enter Tryd.func25, Tryd.ntmps25
  go_wp2_with fail
  refine (I1.out _).mono ?_
  rintro e w' ⟨rfl, rfl⟩
  go_wp2
  go_ret
  exact ⟨rfl, rfl⟩

set_option maxHeartbeats 1000000 in
theorem refPrint_nan (x : Nat) (h : nanB x = true) (w : World) :
    Calls Tryd.prog 25 #[.float .f64 x] w fun e w' => e = .returned (.string ⟨#[110, 97, 110]⟩) ∧ w' = w := by
  have I1 : Hid (∀ w, Calls Tryd.prog 18 #[.float .f64 x] w fun e w' => e = .returned (.int .u64 9221120237041090560) ∧ w' = w) := fun w => by
    have := refBits_any x w; rwa [fix_t h] at this
  clear h
  go_enter Tryd.func25, Tryd.ntmps25
  go_wp2_with fail
  refine (I1.out _).mono ?_
  rintro e w' ⟨rfl, rfl⟩
  go_wp2
  go_ret
  exact ⟨rfl, rfl⟩

theorem trunc_dec {x : Nat} (h : decB x = true) : -9007199254740992 < Flt.trunc x ∧ Flt.trunc x < 9007199254740992 := by
  obtain ⟨_, _, _, _, _, _, h7, h8⟩ := decB_facts h
  exact ⟨h7, h8⟩

theorem decimal_int (n : Int) (h0 : 0 ≤ n) (h1 : n ≤ 9007199254740992) (w : World) :
    Calls Tryd.prog 36 #[.int .i64 n] w fun e w' => e = .returned (.string ⟨(Lib.itoa n).toArray⟩) ∧ w' = w := by
  obtain ⟨u, rfl⟩ : ∃ u : Nat, n = (u : Int) := ⟨n.toNat, by omega⟩
  rw [Lib.itoa_nonneg]
  exact decimal_any u (by omega) w

set_option maxRecDepth 100000 in
set_option maxHeartbeats 2000000 in
theorem refPrint_rest (x : Nat) (hx : x < 18446744073709551616) (h1 : nanB x = false) (h2 : x ≠ 9218868437227405312) (h3 : x ≠ 18442240474082181120) (h4 : x ≠ 9223372036854775808) (w : World) :
    Calls Tryd.prog 25 #[.float .f64 x] w fun e w' => e = .returned (.string ⟨(if decB x then Lib.itoa (Flt.trunc x) else 120 :: Hex.digits x 16).toArray⟩) ∧ w' = w := by
  have I1 : Hid (∀ w, Calls Tryd.prog 18 #[.float .f64 x] w fun e w' => e = .returned (.int .u64 (x : Int)) ∧ w' = w) := fun w => by
    have := refBits_any x w; rwa [fix_f h1] at this
  have h0 : x ≠ 9221120237041090560 := by
    rintro rfl
    rw [nan_bits] at h1; cases h1
  have q0 : ((x : Int) == 9221120237041090560) = false := by rw [beq_eq_false_iff_ne]; omega
  have q2 : ((x : Int) == 9218868437227405312) = false := by rw [beq_eq_false_iff_ne]; omega
  have q3 : ((x : Int) == 18442240474082181120) = false := by rw [beq_eq_false_iff_ne]; omega
  have q4 : ((x : Int) == 9223372036854775808) = false := by rw [beq_eq_false_iff_ne]; omega
  have hc := dec_cases x h1 h4
  have IW := Lib.hid (wide_any x hx)
  clear h0 h1 h2 h3 h4
  rcases hc with ⟨c1, cd⟩ | ⟨c1, c2, cd⟩ | ⟨c1, c2, c3, c4, cd⟩ | ⟨c1, c2, c3, c4, cd⟩
  · rw [if_neg (by rw [cd]; simp)]
    clear cd hx
    go_enter Tryd.func25, Tryd.ntmps25
    go_wp2_with fail
    refine (I1.out _).mono ?_
    rintro e w' ⟨rfl, rfl⟩
    go_wp2_with fail
    refine (IW.out _).mono ?_
    rintro e w' ⟨rfl, rfl⟩
    go_wp2
    go_ret
    exact ⟨rfl, rfl⟩
  · rw [if_neg (by rw [cd]; simp)]
    clear cd hx
    go_enter Tryd.func25, Tryd.ntmps25
    go_wp2_with fail
    refine (I1.out _).mono ?_
    rintro e w' ⟨rfl, rfl⟩
    go_wp2_with fail
    refine (IW.out _).mono ?_
    rintro e w' ⟨rfl, rfl⟩
    go_wp2
    go_ret
    exact ⟨rfl, rfl⟩
  · rw [if_neg (by rw [cd]; simp)]
    have hcv : ∀ w, (convert 22 3 (.float .f64 x)).run Tryd.prog w = .ok (.int .i64 (Flt.trunc x)) w := fun w => run_to_int3 x _ w c3
    clear cd hx c3
    go_enter Tryd.func25, Tryd.ntmps25
    go_wp2_with fail
    refine (I1.out _).mono ?_
    rintro e w' ⟨rfl, rfl⟩
    go_wp2_with fail
    refine (IW.out _).mono ?_
    rintro e w' ⟨rfl, rfl⟩
    go_wp2
    go_ret
    exact ⟨rfl, rfl⟩
  · rw [if_pos cd]
    obtain ⟨t1, t2⟩ := trunc_dec cd
    have hcv : ∀ w, (convert 22 3 (.float .f64 x)).run Tryd.prog w = .ok (.int .i64 (Flt.trunc x)) w := fun w => run_to_int3 x _ w c3
    clear cd hx c3 IW
    generalize hn : Flt.trunc x = n at *
    clear hn
    by_cases hneg : n < 0
    · obtain ⟨u, rfl⟩ : ∃ u : Nat, n = -(u : Int) := ⟨n.natAbs, by omega⟩
      have hl : (Lib.decDigits u).length ≤ 21 := by
        have := Lib.itoa_length_le (-(u : Int)) (by omega) (by omega)
        rw [Lib.itoa_neg u (by omega)] at this
        simp at this; omega
      have hit : Lib.itoa (-(u : Int)) = 45 :: Lib.decDigits u := Lib.itoa_neg u (by omega)
      rw [hit]
      clear hit
      go_enter Tryd.func25, Tryd.ntmps25
      go_wp2_with fail
      refine (I1.out _).mono ?_
      rintro e w' ⟨rfl, rfl⟩
      go_wp2_with fail
      refine (decimal_any u (by omega) _).mono ?_
      rintro e w' ⟨rfl, rfl⟩
      go_wp2
      go_ret
      exact ⟨congrArg (fun b => Ending.returned (Value.string b)) (cons_text _ _), rfl⟩
    · have ID := Lib.hid (decimal_int n (by omega) (by omega))
      clear t1 t2
      go_enter Tryd.func25, Tryd.ntmps25
      go_wp2_with fail
      refine (I1.out _).mono ?_
      rintro e w' ⟨rfl, rfl⟩
      go_wp2_with fail
      refine (ID.out _).mono ?_
      rintro e w' ⟨rfl, rfl⟩
      go_wp2
      go_ret
      exact ⟨rfl, rfl⟩

/-- the document's Print tells the text, at every float -/
theorem refPrint_any (x : Nat) (hx : x < 18446744073709551616) (w : World) :
    Calls Tryd.prog 25 #[.float .f64 x] w fun e w' => e = .returned (.string ⟨(text x).toArray⟩) ∧ w' = w := by
  unfold text
  cases h1 : nanB x
  · by_cases h2 : x = 9218868437227405312
    · subst h2; exact refPrint_inf w
    · by_cases h3 : x = 18442240474082181120
      · subst h3; exact refPrint_ninf w
      · by_cases h4 : x = 9223372036854775808
        · subst h4; exact refPrint_mz w
        · simp only [h2, h3, h4, Bool.false_eq_true, if_false]
          exact refPrint_rest x hx h1 h2 h3 h4 w
  · exact refPrint_nan x h1 w
end Go.Proofs.YtgcgaaoncfgckaaDoor

/- The walk of the law RealExact: whatever the bits and the number, it returns true. -/
import Derived.Test.YtgcgaaoncfgckaaDoorWLive
namespace Go.Proofs.YtgcgaaoncfgckaaDoor
open Go.RowKit

theorem fix_fin {x : Nat} (h : Flt.rung x < 9218868437227405312) : fixB x = x := by
  apply fix_f
  have h3 : nanB x = decide (9218868437227405312 < Flt.rung x) := Flt.nan_iff x
  rw [h3]; simp; omega

theorem caseX {x : Nat} (hx : x < 18446744073709551616) : (toN x = 0 ∧ toE x = 10) ∨ (toE x = 0 ∧ fromB (toN x) = x ∧ fromE (toN x) = 0) := by
  cases ho : okB x
  · exact .inl ⟨by simp [toN, ho], by simp [toE, ho]⟩
  · right
    have ho' := ho
    unfold okB at ho
    simp only [Bool.and_eq_true, Bool.not_eq_true'] at ho
    obtain ⟨⟨hr, hz⟩, hw⟩ := ho
    have hf := Flt.inR_fin hr
    rw [fix_fin hf, beq_eq_false_iff_ne] at hz
    have e1 : toN x = Flt.trunc x := by simp [toN, ho']
    have e2 : toE x = 0 := by simp [toE, ho']
    have e3 : floatOfInt .f64 (Flt.trunc x) = x := Flt.back_exact hx hf hw (by omega)
    have e4 : fromOk (Flt.trunc x) = true := by
      unfold fromOk; rw [e3, e1, e2]; simp
    rw [e1]
    exact ⟨e2, by simp [fromB, e4, e3], by simp [fromE, e4]⟩

/-- every whole number up to 2 ^ 53 is just as great as its float -/
theorem small_ok {n : Int} (h1 : -9007199254740992 ≤ n) (h2 : n ≤ 9007199254740992) : fromOk n = true := by
  obtain ⟨R, hR, hu⟩ := Flt.small_rung n.natAbs (by omega)
  have hz : floatOfInt .f64 n = Ieee.double.word (n < 0) R := by
    rw [Flt.ofInt_eq]; exact Flt.nearest_exact _ _ R hR hu
  have hr : Flt.rung (floatOfInt .f64 n) = R := by rw [hz]; exact Flt.rung_word _ _ (Flt.lt_inf hR)
  have hn : Flt.neg (floatOfInt .f64 n) = decide (n < 0) := by rw [hz]; exact Flt.neg_word _ _ (Flt.lt_inf hR)
  have hf : Flt.rung (floatOfInt .f64 n) < 9218868437227405312 := by rw [hr]; exact hR
  have hp := Flt.one_pos
  have hs : Flt.sg (floatOfInt .f64 n) = n * (Flt.one : Int) := by
    unfold Flt.sg
    rw [hr, hn, hu]
    by_cases h0 : n < 0
    · simp only [h0, decide_true, if_true, Int.natCast_mul]
      rw [← Int.neg_mul]; congr 1; omega
    · simp only [h0, decide_false, Bool.false_eq_true, if_false, Int.natCast_mul]
      congr 1; omega
  have hi : Flt.inR (floatOfInt .f64 n) = true := by
    unfold Flt.inR
    rw [Flt.order_fin (by decide) hf, Flt.order_fin hf (by decide), Flt.sg_63, Flt.sg_m63, hs]
    have hp' : (0 : Int) < (Flt.one : Int) := by omega
    have c1 : -(9223372036854775808 * (Flt.one : Int)) < n * (Flt.one : Int) := by
      rw [← Int.neg_mul]; exact Int.mul_lt_mul_of_pos_right (by omega) hp'
    have c2 : n * (Flt.one : Int) < 9223372036854775808 * (Flt.one : Int) := Int.mul_lt_mul_of_pos_right (by omega) hp'
    rw [Int.compare_eq_lt.2 c1, Int.compare_eq_lt.2 c2]
    rfl
  have hw : Flt.whole (floatOfInt .f64 n) = true := by
    unfold Flt.whole; rw [hr, hu, Nat.mul_mod_left]; rfl
  have ht : Flt.trunc (floatOfInt .f64 n) = n := by
    unfold Flt.trunc
    rw [hr, hn, hu, Nat.mul_div_cancel _ hp]
    by_cases h0 : n < 0
    · simp only [h0, decide_true, if_true]; omega
    · simp only [h0, decide_false, Bool.false_eq_true, if_false]; omega
  have hm : ((fixB (floatOfInt .f64 n) : Int) == 9223372036854775808) = false := by
    rw [fix_fin hf, beq_eq_false_iff_ne]
    intro hc
    have hc' : floatOfInt .f64 n = 9223372036854775808 := by omega
    rw [hc'] at hr hn ht
    have : Flt.trunc 9223372036854775808 = 0 := by kernel_rfl
    rw [this] at ht
    subst ht
    revert hn; decide
  have hok : okB (floatOfInt .f64 n) = true := by simp [okB, hi, hw, hm]
  unfold fromOk
  simp [toE, toN, hok, ht]

theorem caseN (n : Int) : (fromE n = 10 ∧ fromB n = 0 ∧ (n < -9007199254740992 ∨ 9007199254740992 < n)) ∨ (fromE n = 0 ∧ toE (fromB n) = 0 ∧ toN (fromB n) = n) := by
  cases ho : fromOk n
  · left
    refine ⟨by simp [fromE, ho], by simp [fromB, ho], ?_⟩
    by_cases h1 : n < -9007199254740992
    · exact .inl h1
    · by_cases h2 : 9007199254740992 < n
      · exact .inr h2
      · rw [small_ok (by omega) (by omega)] at ho; simp at ho
  · right
    have e : fromB n = floatOfInt .f64 n := by simp [fromB, ho]
    rw [e]
    refine ⟨by simp [fromE, ho], ?_⟩
    unfold fromOk at ho
    simpa using ho

theorem fix_fix (x : Nat) : fixB (fixB x) = fixB x := by
  cases h : nanB x
  · rw [fix_f h, fix_f h]
  · rw [fix_t h]
    cases h2 : nanB 9221120237041090560
    · rw [fix_f h2]
    · rw [fix_t h2]

theorem caseB (a : Int) (h : 0 ≤ a) : (FloatKind.f64.format.order a.toNat a.toNat != some .eq) = true ∨ (FloatKind.f64.format.order a.toNat a.toNat != some .eq) = false ∧ (fixB a.toNat : Int) = a := by
  cases hn : nanB a.toNat
  · exact .inr ⟨nan_f hn, by rw [fix_f hn]; omega⟩
  · exact .inl (nan_t hn)

set_option maxRecDepth 100000 in
set_option maxHeartbeats 4000000 in
theorem realExact_any (a n : Int) (ha0 : 0 ≤ a) (ha1 : a ≤ 18446744073709551615) (w : World) (ht : Tab w) :
    Calls Tryd.prog 6 #[.int .u64 a, .int .i64 n] w fun e w' => e = .returned (.bool true) ∧ Below w.heap.size w w' := by
  have HT := Lib.hid ht
  have hff := fix_fix a.toNat
  have hx : a.toNat < 18446744073709551616 := by omega
  have hB := caseB a ha0
  have hX := caseX hx
  have hN := caseN n
  clear ht ha0 ha1 hx
  rcases hX with ⟨x1, x2⟩ | ⟨x1, x2, x3⟩ <;> rcases hN with ⟨n1, n2, n3 | n3⟩ | ⟨n1, n2, n3⟩ <;> rcases hB with b1 | ⟨b1, b2⟩
  all_goals
    go_enter Tryd.func6, Tryd.ntmps6
    go_wp2_with (first
      | (go_at_call 11; refine (raw_any _ _).mono ?_; rintro e w' ⟨rfl, rfl⟩)
      | (go_at_call 10; refine (realToInt_any _ _).mono ?_; rintro e w' ⟨rfl, rfl⟩)
      | (go_at_call 9; refine (realFromInt_any _ _).mono ?_; rintro e w' ⟨rfl, rfl⟩)
      | (go_at_call 14; refine (exact_any _ _ _).mono ?_; rintro e w' ⟨rfl, rfl⟩)
      | (go_at_call 17; refine (realBits_any _ _).mono ?_; rintro e w' ⟨rfl, rfl⟩)
      | (go_at_call 19; refine (realOf_any _ _).mono ?_; rintro e w' ⟨rfl, rfl⟩)
      | (go_at_call 15; refine (realFix_any _ _).mono ?_; rintro e w' ⟨rfl, rfl⟩))
    all_goals
      refine (live_any _ HT.out).mono ?_
      rintro e w1 ⟨rfl, hb1⟩
      have HB1 := Lib.hid hb1
      clear hb1
      go_wp2
      go_ret
      exact ⟨rfl, HB1.out⟩
end Go.Proofs.YtgcgaaoncfgckaaDoor

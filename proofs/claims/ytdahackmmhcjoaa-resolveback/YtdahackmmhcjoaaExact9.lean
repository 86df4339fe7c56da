/- Plain facts on numbers told as a Float or an Int and back; what Value answers, in one form. -/
import Derived.Test.YtdahackmmhcjoaaM09
import Derived.Test.YtdahackmmhcjoaaM13
namespace Go.Proofs.Ytdahackmmhcjoaa
open Go.RowKit

theorem fix_fin {x : Nat} (h : Flt.rung x < 9218868437227405312) : fixB x = x := by
  apply fix_f
  have h3 : nanB x = decide (9218868437227405312 < Flt.rung x) := Flt.nan_iff x
  rw [h3]; simp; omega

theorem caseX {x : Nat} (hx : x < 18446744073709551616) : (toN x = 0 ∧ toE x = 10) ∨ (toE x = 0 ∧ fromB (toN x) = x ∧ fromE (toN x) = 0) := by
  cases ho : okB x
  · exact .inl ⟨by simp [toN, ho], by simp [toE, ho]⟩
  · right
    have ho' := ho
    unfold okB at ho
    simp only [Bool.and_eq_true, Bool.not_eq_true'] at ho
    obtain ⟨⟨hr, hz⟩, hw⟩ := ho
    have hf := Flt.inR_fin hr
    rw [fix_fin hf, beq_eq_false_iff_ne] at hz
    have e1 : toN x = Flt.trunc x := by simp [toN, ho']
    have e2 : toE x = 0 := by simp [toE, ho']
    have e3 : floatOfInt .f64 (Flt.trunc x) = x := Flt.back_exact hx hf hw (by omega)
    have e4 : fromOk (Flt.trunc x) = true := by
      unfold fromOk; rw [e3, e1, e2]; simp
    rw [e1]
    exact ⟨e2, by simp [fromB, e4, e3], by simp [fromE, e4]⟩

/-- every whole number up to 2 ^ 53 is just as great as its float -/
theorem small_ok {n : Int} (h1 : -9007199254740992 ≤ n) (h2 : n ≤ 9007199254740992) : fromOk n = true := by
  obtain ⟨R, hR, hu⟩ := Flt.small_rung n.natAbs (by omega)
  have hz : floatOfInt .f64 n = Ieee.double.word (n < 0) R := by
    rw [Flt.ofInt_eq]; exact Flt.nearest_exact _ _ R hR hu
  have hr : Flt.rung (floatOfInt .f64 n) = R := by rw [hz]; exact Flt.rung_word _ _ (Flt.lt_inf hR)
  have hn : Flt.neg (floatOfInt .f64 n) = decide (n < 0) := by rw [hz]; exact Flt.neg_word _ _ (Flt.lt_inf hR)
  have hf : Flt.rung (floatOfInt .f64 n) < 9218868437227405312 := by rw [hr]; exact hR
  have hp := Flt.one_pos
  have hs : Flt.sg (floatOfInt .f64 n) = n * (Flt.one : Int) := by
    unfold Flt.sg
    rw [hr, hn, hu]
    by_cases h0 : n < 0
    · simp only [h0, decide_true, if_true, Int.natCast_mul]
      rw [← Int.neg_mul]; congr 1; omega
    · simp only [h0, decide_false, Bool.false_eq_true, if_false, Int.natCast_mul]
      congr 1; omega
  have hi : Flt.inR (floatOfInt .f64 n) = true := by
    unfold Flt.inR
    rw [Flt.order_fin (by decide) hf, Flt.order_fin hf (by decide), Flt.sg_63, Flt.sg_m63, hs]
    have hp' : (0 : Int) < (Flt.one : Int) := by omega
    have c1 : -(9223372036854775808 * (Flt.one : Int)) < n * (Flt.one : Int) := by
      rw [← Int.neg_mul]; exact Int.mul_lt_mul_of_pos_right (by omega) hp'
    have c2 : n * (Flt.one : Int) < 9223372036854775808 * (Flt.one : Int) := Int.mul_lt_mul_of_pos_right (by omega) hp'
    rw [Int.compare_eq_lt.2 c1, Int.compare_eq_lt.2 c2]
    rfl
  have hw : Flt.whole (floatOfInt .f64 n) = true := by
    unfold Flt.whole; rw [hr, hu, Nat.mul_mod_left]; rfl
  have ht : Flt.trunc (floatOfInt .f64 n) = n := by
    unfold Flt.trunc
    rw [hr, hn, hu, Nat.mul_div_cancel _ hp]
    by_cases h0 : n < 0
    · simp only [h0, decide_true, if_true]; omega
    · simp only [h0, decide_false, Bool.false_eq_true, if_false]; omega
  have hm : ((fixB (floatOfInt .f64 n) : Int) == 9223372036854775808) = false := by
    rw [fix_fin hf, beq_eq_false_iff_ne]
    intro hc
    have hc' : floatOfInt .f64 n = 9223372036854775808 := by omega
    rw [hc'] at hr hn ht
    have : Flt.trunc 9223372036854775808 = 0 := by kernel_rfl
    rw [this] at ht
    subst ht
    revert hn; decide
  have hok : okB (floatOfInt .f64 n) = true := by simp [okB, hi, hw, hm]
  unfold fromOk
  simp [toE, toN, hok, ht]

theorem caseN (n : Int) : (fromE n = 10 ∧ fromB n = 0 ∧ (n < -9007199254740992 ∨ 9007199254740992 < n)) ∨ (fromE n = 0 ∧ toE (fromB n) = 0 ∧ toN (fromB n) = n) := by
  cases ho : fromOk n
  · left
    refine ⟨by simp [fromE, ho], by simp [fromB, ho], ?_⟩
    by_cases h1 : n < -9007199254740992
    · exact .inl h1
    · by_cases h2 : 9007199254740992 < n
      · exact .inr h2
      · rw [small_ok (by omega) (by omega)] at ho; simp at ho
  · right
    have e : fromB n = floatOfInt .f64 n := by simp [fromB, ho]
    rw [e]
    refine ⟨by simp [fromE, ho], ?_⟩
    unfold fromOk at ho
    simpa using ho

/-- the value that is told: none where there is an error -/
def vOf (r : Except Nat V) : V := match r with
  | .error _ => V0
  | .ok y => y
def eOf (r : Except Nat V) : Nat := match r with
  | .error e => e
  | .ok _ => 0
theorem valR_form {w w' : World} {r : Except Nat V} {e : Ending} (h : ValR w r e w') : ∃ k i b t p n c, e = .returned (.tuple #[.agg (cells5 k i b t p n c), .int .i64 (eOf r : Nat)]) ∧ VLies w' (cells5 k i b t p n c) (vOf r) ∧ Below w.heap.size w w' := by
  cases r with
  | error er => exact ⟨0, 0, 0, ⟨#[]⟩, none, 0, 0, h.1, VLies.mk (xs := []) (fun _ => #[]) (by simp) (by simp) (fun hc => absurd rfl hc) (fun j hj => by simp at hj), h.2⟩
  | ok y =>
    obtain ⟨u, rfl, h1, h2⟩ := h
    obtain ⟨k, i, b, t, p, n, c, rfl⟩ := h1.shape
    exact ⟨k, i, b, t, p, n, c, rfl, h1.lies, h2⟩
theorem there_plain (n : Int) : eOf (Rz.value (.mk 2 []) (.mk 3 []) (.mk 2 n 0 ⟨#[]⟩ [])) = 10 ∨ (eOf (Rz.value (.mk 2 []) (.mk 3 []) (.mk 2 n 0 ⟨#[]⟩ [])) = 0 ∧ eOf (Rz.value (.mk 3 []) (.mk 2 []) (vOf (Rz.value (.mk 2 []) (.mk 3 []) (.mk 2 n 0 ⟨#[]⟩ [])))) = 0 ∧ vOf (Rz.value (.mk 3 []) (.mk 2 []) (vOf (Rz.value (.mk 2 []) (.mk 3 []) (.mk 2 n 0 ⟨#[]⟩ [])))) = .mk 2 n 0 ⟨#[]⟩ []) := by
  rw [Rz.value_int_float]
  rcases caseN n with ⟨h1, -⟩ | ⟨h1, h2, h3⟩
  · rw [if_neg (by rw [h1]; decide)]
    exact .inl rfl
  · rw [if_pos h1]
    refine .inr ⟨rfl, ?_⟩
    show eOf (Rz.value (.mk 3 []) (.mk 2 []) (.mk 3 0 (fromB n) ⟨#[]⟩ [])) = 0 ∧ vOf (Rz.value (.mk 3 []) (.mk 2 []) (.mk 3 0 (fromB n) ⟨#[]⟩ [])) = _
    rw [Rz.value_float_int, if_pos h2, h3]
    exact ⟨rfl, rfl⟩
theorem back_plain {x : Nat} (hx : x < 18446744073709551616) : eOf (Rz.value (.mk 3 []) (.mk 2 []) (.mk 3 0 x ⟨#[]⟩ [])) = 10 ∨ (eOf (Rz.value (.mk 3 []) (.mk 2 []) (.mk 3 0 x ⟨#[]⟩ [])) = 0 ∧ eOf (Rz.value (.mk 2 []) (.mk 3 []) (vOf (Rz.value (.mk 3 []) (.mk 2 []) (.mk 3 0 x ⟨#[]⟩ [])))) = 0 ∧ vOf (Rz.value (.mk 2 []) (.mk 3 []) (vOf (Rz.value (.mk 3 []) (.mk 2 []) (.mk 3 0 x ⟨#[]⟩ [])))) = .mk 3 0 x ⟨#[]⟩ []) := by
  rw [Rz.value_float_int]
  rcases caseX hx with ⟨-, h1⟩ | ⟨h1, h2, h3⟩
  · rw [if_neg (by rw [h1]; decide)]
    exact .inl rfl
  · rw [if_pos h1]
    refine .inr ⟨rfl, ?_⟩
    show eOf (Rz.value (.mk 2 []) (.mk 3 []) (.mk 2 (toN x) 0 ⟨#[]⟩ [])) = 0 ∧ vOf (Rz.value (.mk 2 []) (.mk 3 []) (.mk 2 (toN x) 0 ⟨#[]⟩ [])) = _
    rw [Rz.value_int_float, if_pos h3, h2]
    exact ⟨rfl, rfl⟩
end Go.Proofs.Ytdahackmmhcjoaa

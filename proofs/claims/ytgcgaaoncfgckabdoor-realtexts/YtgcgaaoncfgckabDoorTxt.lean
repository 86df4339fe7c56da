/- Plain facts on floats' texts: how decimal digits are read back, and which text is which. -/
import Derived.Test.YtgcgaaoncfgckabDoorWBits
import Derived.Lib.ParseIntB
namespace Go.Proofs.YtgcgaaoncfgckabDoor
open Go.RowKit

namespace Txt
theorem dig_byte (d : Nat) (h : d < 10) : (UInt8.ofNat (48 + d)).toNat = 48 + d := by
  have h1 : ∀ m : Fin 10, (UInt8.ofNat (48 + m.val)).toNat = 48 + m.val := by decide
  exact h1 ⟨d, h⟩

/-- decimal digits are read back as their number -/
theorem parse_digits (M : Nat) (hM : M ≤ 18446744073709551615) (u : Nat) : ∀ r, u ≤ M → Lib.parseUintM M 0 (Lib.decDigits u ++ r) = Lib.parseUintM M u r := by
  induction u using Nat.strongRecOn with
  | ind u ih =>
    intro r hu
    rw [Lib.decDigits]
    by_cases h : u < 10
    · rw [dif_pos h]
      simp only [List.cons_append, List.nil_append, Lib.parseUintM, dig_byte u h]
      rw [if_pos (by omega), if_neg (by omega), if_neg (by omega)]
      congr 1; omega
    · rw [dif_neg h, List.append_assoc, ih (u / 10) (by omega) _ (by omega)]
      simp only [List.cons_append, List.nil_append, Lib.parseUintM, dig_byte (u % 10) (by omega)]
      rw [if_pos (by omega), if_neg (by omega), if_neg (by omega)]
      congr 1; omega

/-- the first decimal digit -/
theorem dec_cons (u : Nat) : ∃ c r, Lib.decDigits u = c :: r ∧ 48 ≤ c.toNat ∧ c.toNat ≤ 57 := by
  induction u using Nat.strongRecOn with
  | ind u ih =>
    rw [Lib.decDigits]
    by_cases h : u < 10
    · rw [dif_pos h]
      exact ⟨_, _, rfl, by rw [dig_byte u h]; omega, by rw [dig_byte u h]; omega⟩
    · rw [dif_neg h]
      obtain ⟨c, r, e, h1, h2⟩ := ih (u / 10) (by omega)
      rw [e]
      exact ⟨c, _, rfl, h1, h2⟩

theorem parseB_digits (u : Nat) (h : u ≤ 18446744073709551615) : Lib.parseUintB 64 (Lib.decDigits u) = .ok u := by
  have e64 : (2 : Nat) ^ 64 - 1 = 18446744073709551615 := by decide
  obtain ⟨c, r, e, _, _⟩ := dec_cons u
  have hp := parse_digits 18446744073709551615 (by omega) u [] (by omega)
  rw [List.append_nil] at hp
  unfold Lib.parseUintB
  rw [if_neg (by rw [e]; simp), e64, hp]
  rfl

/-- what ParseInt makes of a number's own digits -/
theorem parse_itoa (n : Int) (h0 : -9007199254740992 < n) (h1 : n < 9007199254740992) : Lib.parseIntB 64 (Lib.itoa n) = .ok n := by
  have e63 : (2 : Nat) ^ (64 - 1) = 9223372036854775808 := by decide
  by_cases hn : n < 0
  · obtain ⟨u, rfl⟩ : ∃ u : Nat, n = -(u : Int) := ⟨n.natAbs, by omega⟩
    rw [Lib.itoa_neg u (by omega)]
    have h45 : (45 : UInt8).toNat = 45 := by decide
    have hU := parseB_digits u (by omega)
    have c1 : ¬ 9223372036854775808 < u := by omega
    simp only [Lib.parseIntB, e63, h45]
    simp [hU, c1]
  · obtain ⟨u, rfl⟩ : ∃ u : Nat, n = (u : Int) := ⟨n.toNat, by omega⟩
    rw [Lib.itoa_nonneg]
    have hU := parseB_digits u (by omega)
    obtain ⟨c, r, e, c1, c2⟩ := dec_cons u
    rw [e] at hU ⊢
    have n1 : ¬ c.toNat = 43 := by omega
    have n2 : ¬ c.toNat = 45 := by omega
    have hi : (if c.toNat = 43 ∨ c.toNat = 45 then r else c :: r) = c :: r := by rw [if_neg (by omega)]
    simp only [Lib.parseIntB, hi, hU, e63]
    have c3 : ¬ 9223372036854775808 ≤ u := by omega
    simp [n2, c3]

/-- a number's own digits are none of the four words, and open with no x -/
theorem itoa_head (n : Int) : (∃ c r, Lib.itoa n = c :: r ∧ 48 ≤ c.toNat ∧ c.toNat ≤ 57) ∨ (∃ c r, Lib.itoa n = 45 :: c :: r ∧ 48 ≤ c.toNat ∧ c.toNat ≤ 57) := by
  by_cases hn : n < 0
  · obtain ⟨u, rfl⟩ : ∃ u : Nat, n = -(u : Int) := ⟨n.natAbs, by omega⟩
    rw [Lib.itoa_neg u (by omega)]
    obtain ⟨c, r, e, c1, c2⟩ := dec_cons u
    rw [e]
    exact .inr ⟨c, r, rfl, c1, c2⟩
  · obtain ⟨u, rfl⟩ : ∃ u : Nat, n = (u : Int) := ⟨n.toNat, by omega⟩
    rw [Lib.itoa_nonneg]
    obtain ⟨c, r, e, c1, c2⟩ := dec_cons u
    exact .inl ⟨c, r, e, c1, c2⟩

theorem dec_zero {u : Nat} {r : List UInt8} (h : Lib.decDigits u = 48 :: r) : u = 0 := by
  induction u using Nat.strongRecOn generalizing r with
  | ind u ih =>
    rw [Lib.decDigits] at h
    by_cases h1 : u < 10
    · rw [dif_pos h1] at h
      have := congrArg (fun l => (l.head?.getD 0).toNat) h
      simp only [List.head?_cons, Option.getD_some, dig_byte u h1] at this
      have e : (48 : UInt8).toNat = 48 := by decide
      rw [e] at this; omega
    · rw [dif_neg h1] at h
      obtain ⟨c, q, e, _, _⟩ := dec_cons (u / 10)
      rw [e] at h
      have hc : c = 48 := by
        have := congrArg (fun l => l.head?.getD 0) h
        simpa using this
      have := ih (u / 10) (by omega) (r := q) (by rw [e, hc])
      omega

theorem itoa_words (n : Int) : Lib.itoa n ≠ [110, 97, 110] ∧ Lib.itoa n ≠ [105, 110, 102] ∧ Lib.itoa n ≠ [45, 105, 110, 102] ∧ Lib.itoa n ≠ [45, 48] ∧ (∀ r, Lib.itoa n ≠ 120 :: r) := by
  refine ⟨?_, ?_, ?_, ?_, ?_⟩
  · intro h
    rcases itoa_head n with ⟨c, r, e, c1, c2⟩ | ⟨c, r, e, c1, c2⟩ <;> rw [e] at h <;> simp at h
    have := h.1; subst this; revert c2; decide
  · intro h
    rcases itoa_head n with ⟨c, r, e, c1, c2⟩ | ⟨c, r, e, c1, c2⟩ <;> rw [e] at h <;> simp at h
    have := h.1; subst this; revert c2; decide
  · intro h
    rcases itoa_head n with ⟨c, r, e, c1, c2⟩ | ⟨c, r, e, c1, c2⟩ <;> rw [e] at h <;> simp at h
    · have := h.1; subst this; revert c1; decide
    · have := h.1; subst this; revert c2; decide
  · intro h
    by_cases hn : n < 0
    · obtain ⟨u, rfl⟩ : ∃ u : Nat, n = -(u : Int) := ⟨n.natAbs, by omega⟩
      rw [Lib.itoa_neg u (by omega)] at h
      have := dec_zero (u := u) (r := []) (by simpa using h)
      omega
    · obtain ⟨u, rfl⟩ : ∃ u : Nat, n = (u : Int) := ⟨n.toNat, by omega⟩
      rw [Lib.itoa_nonneg] at h
      obtain ⟨c, r, e, c1, c2⟩ := dec_cons u
      rw [e] at h
      simp at h
      have := h.1; subst this; revert c1; decide
  · intro q h
    rcases itoa_head n with ⟨c, r, e, c1, c2⟩ | ⟨c, r, e, c1, c2⟩ <;> rw [e] at h <;> simp at h
    have := h.1; subst this; revert c2; decide
end Txt

/-- the six kinds of texts -/
theorem text_cases (z : Nat) : (text z = [110, 97, 110] ∧ fixB z = 9221120237041090560) ∨ (text z = [105, 110, 102] ∧ fixB z = 9218868437227405312) ∨ (text z = [45, 105, 110, 102] ∧ fixB z = 18442240474082181120) ∨ (text z = [45, 48] ∧ fixB z = 9223372036854775808) ∨
    (text z = Lib.itoa (Flt.trunc z) ∧ decB z = true ∧ fixB z = z) ∨ (text z = 120 :: Hex.digits z 16 ∧ fixB z = z) := by
  unfold text
  cases h1 : nanB z
  · have hf := fix_f h1
    by_cases h2 : z = 9218868437227405312
    · subst h2; exact .inr (.inl ⟨rfl, hf⟩)
    · by_cases h3 : z = 18442240474082181120
      · subst h3; exact .inr (.inr (.inl ⟨rfl, hf⟩))
      · by_cases h4 : z = 9223372036854775808
        · subst h4; exact .inr (.inr (.inr (.inl ⟨rfl, hf⟩)))
        · cases h5 : decB z
          · exact .inr (.inr (.inr (.inr (.inr ⟨by simp [h2, h3, h4], hf⟩))))
          · exact .inr (.inr (.inr (.inr (.inl ⟨by simp [h2, h3, h4], rfl, hf⟩))))
  · exact .inl ⟨rfl, fix_t h1⟩

theorem text_fix (z : Nat) : text (fixB z) = text z := by
  cases h : nanB z
  · rw [fix_f h]
  · rw [fix_t h]
    unfold text
    rw [h, show nanB 9221120237041090560 = true by kernel_rfl]
    rfl

/-- a float that is printed in decimal digits is its whole number's float -/
theorem dec_back {z : Nat} (hz : z < 18446744073709551616) (h : decB z = true) : floatOfInt .f64 (Flt.trunc z) = z := by
  unfold decB okB at h
  simp only [Bool.and_eq_true, Bool.not_eq_true', decide_eq_true_eq] at h
  obtain ⟨⟨⟨⟨hr, hm⟩, hw⟩, _⟩, _⟩ := h
  have hf := Flt.inR_fin hr
  have hn : nanB z = false := by
    have h3 : nanB z = decide (9218868437227405312 < Flt.rung z) := Flt.nan_iff z
    rw [h3]; simp; omega
  rw [fix_f hn, beq_eq_false_iff_ne] at hm
  exact Flt.back_exact hz hf hw (by omega)
end Go.Proofs.YtgcgaaoncfgckabDoor

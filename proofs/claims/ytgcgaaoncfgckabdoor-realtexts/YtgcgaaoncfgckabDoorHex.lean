/- Plain facts on base sixteen, without any program: a number's digits, the least count of them, and how a row of bytes is filled with them from its end. -/
import Derived.Lib.Hide
namespace Go.Proofs.YtgcgaaoncfgckabDoor.Hex

/-- a digit of base sixteen -/
def hexd (n : Nat) : UInt8 := if n < 10 then UInt8.ofNat (48 + n) else UInt8.ofNat (87 + n)
/-- the digit at place t of u -/
def at_ (u t : Nat) : UInt8 := hexd (u / 16 ^ t % 16)
/-- u's lowest k digits, the highest first -/
def digits (u : Nat) : Nat → List UInt8
  | 0 => []
  | k + 1 => at_ u k :: digits u k

theorem digits_length (u k : Nat) : (digits u k).length = k := by
  induction k with
  | zero => rfl
  | succ k ih => simp [digits, ih]

theorem digits_get (u k j : Nat) (h : j < (digits u k).length) : (digits u k)[j] = at_ u (k - 1 - j) := by
  induction k generalizing j with
  | zero => simp [digits] at h
  | succ k ih =>
    cases j with
    | zero => simp [digits]
    | succ j =>
      have h' : j < (digits u k).length := by simpa [digits] using h
      simp only [digits, List.getElem_cons_succ]
      rw [ih j h']
      congr 1
      omega

theorem at_zero {u k t : Nat} (h : u < 16 ^ k) (ht : k ≤ t) : at_ u t = 48 := by
  unfold at_
  have h1 : 16 ^ k ≤ 16 ^ t := Nat.pow_le_pow_right (by omega) ht
  rw [Nat.div_eq_of_lt (by omega)]
  rfl

/-- noughts ahead -/
theorem digits_pad {u k : Nat} (h : u < 16 ^ k) (n : Nat) : digits u (n + k) = List.replicate n 48 ++ digits u k := by
  induction n with
  | zero => simp
  | succ n ih =>
    rw [show n + 1 + k = n + k + 1 by omega]
    simp only [digits, ih, List.replicate_succ, List.cons_append]
    rw [at_zero h (by omega)]

/-- the row behind k digits: v is what is left of u -/
structure Inv (u i v : Nat) (dk : Array UInt8) : Prop where
  size : dk.size = 65
  le : i ≤ 65
  low : 49 < i
  rest : v = u / 16 ^ (65 - i)
  row : ∀ t, t < 65 - i → dk[64 - t]! = at_ u t

theorem Inv.start (u : Nat) : Inv u 65 u (Array.replicate 65 0) :=
  ⟨by simp, by omega, by omega, by simp, fun t ht => by omega⟩

theorem set_row {u m v : Nat} {dk : Array UInt8} (h : Inv u (m + 1) v dk) (c : UInt8) (hc : c = hexd (v % 16)) : ∀ t, t < 65 - m → (dk.setIfInBounds m c)[64 - t]! = at_ u t := by
  intro t ht
  have hs := h.size
  have hl := h.le
  by_cases e : t = 64 - m
  · have e2 : 64 - t = m := by omega
    rw [e2]
    have : m < dk.size := by omega
    have e3 : (dk.setIfInBounds m c)[m]! = c := by simp [this]
    rw [e3, hc, h.rest]
    unfold at_
    rw [show 65 - (m + 1) = t by omega]
  · have e2 : 64 - t ≠ m := by omega
    have e3 : (dk.setIfInBounds m c)[64 - t]! = dk[64 - t]! := by
      rw [Array.getElem!_eq_getD, Array.getElem!_eq_getD, Array.getD_eq_getD_getElem?, Array.getD_eq_getD_getElem?, Array.getElem?_setIfInBounds_ne (Ne.symm e2)]
    rw [e3]
    exact h.row t (by omega)

theorem Inv.step {u m v : Nat} {dk : Array UInt8} (hu : u < 18446744073709551616) (h : Inv u (m + 1) v dk) (hv : 16 ≤ v) (c : UInt8) (hc : c = hexd (v % 16)) : Inv u m (v / 16) (dk.setIfInBounds m c) := by
  have hl := h.le
  have hlow : 49 < m := by
    have h1 := h.rest
    have h2 := h.low
    by_cases e : m = 49
    · subst e
      exfalso
      have : u / 16 ^ 15 < 16 := by
        have e16 : (16 : Nat) ^ 15 = 1152921504606846976 := by decide
        rw [e16]; omega
      rw [show 65 - (49 + 1) = 15 by omega] at h1
      omega
    · omega
  refine ⟨by simp [h.size], by omega, hlow, ?_, set_row h c hc⟩
  rw [h.rest, show 65 - m = (65 - (m + 1)) + 1 by omega, Nat.pow_succ, ← Nat.div_div_eq_div_mul]

/-- the last digit laid: the row's end holds u's digits, as few as tell it -/
theorem Inv.last {u m v : Nat} {dk : Array UInt8} (h : Inv u (m + 1) v dk) (hv : v < 16) (c : UInt8) (hc : c = hexd (v % 16)) :
    u < 16 ^ (65 - m) ∧ (∀ j, j < 65 - m → (dk.setIfInBounds m c)[m + j]! = (digits u (65 - m))[j]?.getD 0) := by
  have hl := h.le
  have hr := h.rest
  refine ⟨?_, fun j hj => ?_⟩
  · rw [show 65 - m = (65 - (m + 1)) + 1 by omega, Nat.pow_succ, Nat.mul_comm]
    have hp : 0 < 16 ^ (65 - (m + 1)) := Nat.pow_pos (by omega)
    have := (Nat.div_lt_iff_lt_mul hp).1 (show u / 16 ^ (65 - (m + 1)) < 16 by omega)
    exact this
  · have := set_row h c hc (64 - m - j) (by omega)
    rw [show 64 - (64 - m - j) = m + j by omega] at this
    rw [this, List.getElem?_eq_getElem (by rw [digits_length]; exact hj), digits_get]
    rw [show 65 - m - 1 - j = 64 - m - j by omega]; rfl
end Go.Proofs.YtgcgaaoncfgckabDoor.Hex

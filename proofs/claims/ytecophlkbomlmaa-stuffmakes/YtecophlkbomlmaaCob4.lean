/- Plain facts on taking stuffed bytes back, as the landed loop goes: each group's zero byte is put at once, the last one's is taken off. -/
import Derived.Test.YtecophlkbomlmaaCob3
namespace Go.Proofs.Ytecophlkbomlmaa.Cob

/-- what stands when the groups up to a place are read: the bytes with each zero, how many bytes the last two groups have -/
def Rd (l : List UInt8) (a : Nat) (ys : List UInt8) (la ah : Nat) : Prop :=
  ∃ last ahead xs, Reading l a last ahead xs ∧ la = last - 1 ∧ ah = ahead - 1 ∧ (a < l.length → ys = xs) ∧ (a = l.length → 0 < last ∧ ys = xs ++ if la < 254 then [0] else [])

theorem rd_start {l : List UInt8} (h : l ≠ []) : Rd l 0 [] 0 0 :=
  ⟨0, 0, [], reading_start l, rfl, rfl, fun _ => rfl, fun hc => absurd (List.eq_nil_of_length_eq_zero hc.symm) h⟩
theorem rd_le {l : List UInt8} {a : Nat} {ys : List UInt8} {la ah : Nat} (h : Rd l a ys la ah) : ys.length ≤ a + 1 ∧ la ≤ 254 := by
  obtain ⟨last, ahead, xs, h1, h2, h3, h4, h5⟩ := h
  have ha := h1.1
  have hx := h1.2.1
  have hl := h1.2.2.1
  refine ⟨?_, by omega⟩
  rcases Nat.lt_or_ge a l.length with h6 | h6
  · rw [h4 h6]; omega
  · rw [(h5 (by omega)).2, List.length_append]
    split <;> simp <;> omega
theorem rd_short {l : List UInt8} {a : Nat} {ys : List UInt8} {la ah : Nat} (hz : Nz l) (h : Rd l a ys la ah) (ha : a < l.length) (hk : l.length - a < l[a].toNat) : un l = (30, []) := by
  obtain ⟨last, ahead, xs, h1, -⟩ := h
  exact reading_short hz h1 ha (by omega)
theorem rd_next {l : List UInt8} {a : Nat} {ys : List UInt8} {la ah : Nat} (h : Rd l a ys la ah) (ha : a < l.length) (k : Nat) (hk : l[a].toNat = k + 1) (hl : a + k + 1 ≤ l.length) :
    Rd l (a + k + 1) (ys ++ (l.drop (a + 1)).take k ++ if k < 254 then [0] else []) k la := by
  obtain ⟨last, ahead, xs, h1, h2, h3, h4, h5⟩ := h
  have h6 := reading_next h1 ha k hk hl
  refine ⟨k + 1, last, _, h6, rfl, h2, fun hlt => ?_, fun he => ⟨by omega, ?_⟩⟩
  · rw [h4 ha]
    by_cases h7 : k < 254
    · rw [if_pos h7, if_pos ⟨h7, hlt⟩]
    · rw [if_neg h7, if_neg (fun hc => h7 hc.1)]
  · rw [h4 ha, if_neg (show ¬ (k < 254 ∧ a + k + 1 < l.length) by omega), List.append_nil]
theorem rd_end {l : List UInt8} {ys : List UInt8} {la ah : Nat} (hz : Nz l) (hne : l ≠ []) (h : Rd l l.length ys la ah) :
    ∃ xs, (ys = xs ++ if la < 254 then [0] else []) ∧ un l = if ah = 254 ∧ la = 0 then (5, []) else (0, xs) := by
  obtain ⟨last, ahead, xs, h1, h2, h3, h4, h5⟩ := h
  obtain ⟨h6, h7⟩ := h5 rfl
  refine ⟨xs, h7, ?_⟩
  rw [reading_end hz hne h1]
  by_cases h8 : last = 1 ∧ ahead = 255
  · rw [if_pos h8, if_pos (by omega)]
  · rw [if_neg h8, if_neg (by omega)]
theorem un_zero {l : List UInt8} (h : (0 : UInt8) ∈ l) : un l = (40, []) := by unfold un; rw [if_pos h]
theorem un_none : un [] = (30, []) := rfl
end Go.Proofs.Ytecophlkbomlmaa.Cob

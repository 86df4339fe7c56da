/- Plain: floats of one text are one float, fixed. -/
import Derived.Test.YtgcgaaoncfgckabDoorWGuess
namespace Go.Proofs.YtgcgaaoncfgckabDoor
open Go.RowKit

namespace Hex
theorem hexd_inj : ∀ a b : Fin 16, hexd a.val = hexd b.val → a.val = b.val := by decide
theorem digits_mod (u v : Nat) : ∀ k, digits u k = digits v k → u % 16 ^ k = v % 16 ^ k
  | 0, _ => by simp [Nat.mod_one]
  | k + 1, h => by
    simp only [digits, List.cons.injEq] at h
    obtain ⟨h1, h2⟩ := h
    have e1 := digits_mod u v k h2
    have e2 := hexd_inj ⟨u / 16 ^ k % 16, Nat.mod_lt _ (by omega)⟩ ⟨v / 16 ^ k % 16, Nat.mod_lt _ (by omega)⟩ h1
    simp only at e2
    rw [Nat.mod_pow_succ, Nat.mod_pow_succ, e1, e2]
theorem digits_inj {u v : Nat} (hu : u < 18446744073709551616) (hv : v < 18446744073709551616) (h : digits u 16 = digits v 16) : u = v := by
  have := digits_mod u v 16 h
  have e : (16 : Nat) ^ 16 = 18446744073709551616 := by decide
  rw [e, Nat.mod_eq_of_lt hu, Nat.mod_eq_of_lt hv] at this
  exact this
end Hex

/-- floats of one text are one float, fixed -/
theorem text_inj {y z : Nat} (hy : y < 18446744073709551616) (hz : z < 18446744073709551616) (h : text y = text z) : fixB y = fixB z := by
  rcases text_cases y with ⟨e, f⟩ | ⟨e, f⟩ | ⟨e, f⟩ | ⟨e, f⟩ | ⟨e, d, f⟩ | ⟨e, f⟩
  · rw [f, word_nan (h.symm.trans e)]
  · rw [f, word_inf (h.symm.trans e)]
  · rw [f, word_ninf (h.symm.trans e)]
  · rw [f, word_mz (h.symm.trans e)]
  · obtain ⟨w1, w2, w3, w4, w5⟩ := Txt.itoa_words (Flt.trunc y)
    obtain ⟨e1, e2, e3⟩ := word_dec (l := Lib.itoa (Flt.trunc y)) (e.symm.trans h) w1 w2 w3 w4 w5
    have b1 := dec_bounds d
    have b2 := dec_bounds e2
    have p1 := Txt.parse_itoa _ b1.1 b1.2
    have p2 := Txt.parse_itoa _ b2.1 b2.2
    rw [e1, p2] at p1
    have hn : Flt.trunc z = Flt.trunc y := Lib.NumEnd.ok.inj p1
    rw [f, e3, ← dec_back hy d, ← dec_back hz e2, hn]
  · obtain ⟨e1, e2⟩ := word_x (h.symm.trans e)
    rw [f, e2]
    exact Hex.digits_inj hy hz e1
end Go.Proofs.YtgcgaaoncfgckabDoor

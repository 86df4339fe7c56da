/- The law's own exact(a, b). -/
import Derived.Test.YtooklmgkkkbfdabVLies
namespace Go.Proofs.Ytooklmgkkkbfdab
open Go.RowKit

namespace V
theorem exactL_len : ∀ (xs ys : List V), xs.length ≠ ys.length → exactL xs ys = false
  | [], [], h => absurd rfl h
  | [], _ :: _, _ => rfl
  | _ :: _, [], _ => rfl
  | x :: r, y :: s, h => by rw [exactL_cons, exactL_len r s (by simpa using h), Bool.and_false]
theorem exactL_at : ∀ (xs ys : List V) (j : Nat) (h1 : j < xs.length) (h2 : j < ys.length), exact xs[j] ys[j] = false → exactL xs ys = false
  | x :: r, y :: s, 0, _, _, h => by rw [exactL_cons]; simp at h; rw [h, Bool.false_and]
  | x :: r, y :: s, j + 1, h1, h2, h => by rw [exactL_cons, exactL_at r s j (by simpa using h1) (by simpa using h2) (by simpa using h), Bool.and_false]
theorem exactL_all : ∀ (xs ys : List V), xs.length = ys.length → (∀ j (h1 : j < xs.length) (h2 : j < ys.length), exact xs[j] ys[j] = true) → exactL xs ys = true
  | [], [], _, _ => rfl
  | [], _ :: _, h, _ => by simp at h
  | _ :: _, [], h, _ => by simp at h
  | x :: r, y :: s, h, ha => by
    rw [exactL_cons, exactL_all r s (by simpa using h) (fun j h1 h2 => by have := ha (j + 1) (by simpa using h1) (by simpa using h2); simpa using this)]
    have := ha 0 (by simp) (by simp)
    simp at this
    rw [this]; rfl
end V

theorem text_eq (t t' : ByteArray) : (t.toList == t'.toList) = decide (t = t') := by
  rw [ByteArray.toList_eq, ByteArray.toList_eq]
  by_cases h : t = t'
  · rw [h]; simp
  · rw [decide_eq_false h, beq_eq_false_iff_ne]
    intro hc
    apply h
    cases t; cases t'
    simp only [ByteArray.mk.injEq]
    exact Array.toList_inj.1 hc
theorem bne_t {a b : Int} (h : ¬ a = b) : (a != b) = true := by rw [bne_iff_ne]; exact h
theorem bne_f {a b : Int} (h : a = b) : (a != b) = false := by rw [h]; simp

attribute [local go_sem] run_frombits run_bits

end Go.Proofs.Ytooklmgkkkbfdab

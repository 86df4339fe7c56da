/- The document's Same, sameList, SameRow. -/
import Derived.Test.YtooklmgkkkbfdabWExact
namespace Go.Proofs.Ytooklmgkkkbfdab
open Go.RowKit

namespace V
theorem sameL_ne : ∀ (xs ys : List V), xs.length ≠ ys.length → sameL xs ys = false
  | [], [], h => absurd rfl h
  | [], _ :: _, _ => rfl
  | _ :: _, [], _ => rfl
  | x :: r, y :: s, h => by rw [sameL_cons, sameL_ne r s (by simpa using h), Bool.and_false]
theorem sameL_at : ∀ (xs ys : List V) (j : Nat) (h1 : j < xs.length) (h2 : j < ys.length), same xs[j] ys[j] = false → sameL xs ys = false
  | x :: r, y :: s, 0, _, _, h => by rw [sameL_cons]; simp at h; rw [h, Bool.false_and]
  | x :: r, y :: s, j + 1, h1, h2, h => by rw [sameL_cons, sameL_at r s j (by simpa using h1) (by simpa using h2) (by simpa using h), Bool.and_false]
theorem sameL_all : ∀ (xs ys : List V), xs.length = ys.length → (∀ j (h1 : j < xs.length) (h2 : j < ys.length), same xs[j] ys[j] = true) → sameL xs ys = true
  | [], [], _, _ => rfl
  | [], _ :: _, h, _ => by simp at h
  | _ :: _, [], h, _ => by simp at h
  | x :: r, y :: s, h, ha => by
    rw [sameL_cons, sameL_all r s (by simpa using h) (fun j h1 h2 => by have := ha (j + 1) (by simpa using h1) (by simpa using h2); simpa using this)]
    have := ha 0 (by simp) (by simp)
    simp at this
    rw [this]; rfl
end V

/-- values lie in a row -/
def Items (w : World) (p : Option Addr) (xs : List V) : Prop := ∀ j (hj : j < xs.length), ∃ u', VLies w u' xs[j] ∧ Item w p j u'
theorem Items.on {w w' : World} {p : Option Addr} {xs : List V} (h : Items w p xs) (hb : Below w.heap.size w w') : Items w' p xs := fun j hj => by
  obtain ⟨u', h1, h2⟩ := h j hj
  exact ⟨u', h1.on hb, h2.on hb⟩

theorem beq_t {a b : Int} (h : a = b) : (a == b) = true := by rw [h]; simp
theorem beq_f {a b : Int} (h : ¬ a = b) : (a == b) = false := by rw [beq_eq_false_iff_ne]; exact h

end Go.Proofs.Ytooklmgkkkbfdab

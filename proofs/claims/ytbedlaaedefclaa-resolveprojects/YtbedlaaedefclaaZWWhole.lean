/- The law's own whole(a, b): two schemas, field by field. -/
import Derived.Test.YtbedlaaedefclaaM12
import Derived.Test.YtbedlaaedefclaaM13
import Derived.Test.YtbedlaaedefclaaM04
import Derived.Test.YtbedlaaedefclaaM05
namespace Go.Proofs.Ytbedlaaedefclaa
open Go.RowKit

attribute [local go_sem] run_store_float

/-- two columns, floats bit by bit -/
def colWhole (c d : Col) : Bool := decide (c.name = d.name) && (c.has == d.has) && Ty.same c.ty d.ty && V.exact c.dflt d.dflt
def wholeL : List Col → List Col → Bool
  | [], [] => true
  | c :: r, d :: s => colWhole c d && wholeL r s
  | _, _ => false
theorem colWhole_iff (c d : Col) : colWhole c d = true ↔ c = d := by
  obtain ⟨n, t, a, v⟩ := c
  obtain ⟨n', t', a', v'⟩ := d
  unfold colWhole
  simp only [Bool.and_eq_true, decide_eq_true_eq, beq_iff_eq, Ty.same_iff, V.exact_iff, Col.mk.injEq]
  constructor
  · rintro ⟨⟨⟨h1, h2⟩, h3⟩, h4⟩; exact ⟨h1, h3, h2, h4⟩
  · rintro ⟨h1, h3, h2, h4⟩; exact ⟨⟨⟨h1, h2⟩, h3⟩, h4⟩
theorem wholeL_iff : ∀ s t : List Col, wholeL s t = true ↔ s = t
  | [], [] => by simp [wholeL]
  | [], _ :: _ => by simp [wholeL]
  | _ :: _, [] => by simp [wholeL]
  | c :: s, d :: t => by rw [wholeL, Bool.and_eq_true, colWhole_iff, wholeL_iff s t, List.cons.injEq]
theorem wholeL_ne : ∀ (s t : List Col), s.length ≠ t.length → wholeL s t = false
  | [], [], h => absurd rfl h
  | [], _ :: _, _ => rfl
  | _ :: _, [], _ => rfl
  | c :: s, d :: t, h => by rw [wholeL, wholeL_ne s t (by simpa using h), Bool.and_false]
theorem wholeL_at : ∀ (s t : List Col) (j : Nat) (h1 : j < s.length) (h2 : j < t.length), colWhole s[j] t[j] = false → wholeL s t = false
  | c :: s, d :: t, 0, _, _, h => by rw [wholeL]; simp at h; rw [h, Bool.false_and]
  | c :: s, d :: t, j + 1, h1, h2, h => by rw [wholeL, wholeL_at s t j (by simpa using h1) (by simpa using h2) (by simpa using h), Bool.and_false]
theorem wholeL_all : ∀ (s t : List Col), s.length = t.length → (∀ j (h1 : j < s.length) (h2 : j < t.length), colWhole s[j] t[j] = true) → wholeL s t = true
  | [], [], _, _ => rfl
  | [], _ :: _, h, _ => by simp at h
  | _ :: _, [], h, _ => by simp at h
  | c :: s, d :: t, h, ha => by
    rw [wholeL, wholeL_all s t (by simpa using h) (fun j h1 h2 => by have := ha (j + 1) (by simpa using h1) (by simpa using h2); simpa using this)]
    have := ha 0 (by simp) (by simp)
    simp at this
    rw [this]; rfl

end Go.Proofs.Ytbedlaaedefclaa

/- RowReads over what the laws ask of package row. -/
import Derived.Test.YtnlhpndjogjejaaM10
namespace Go.Proofs.Ytnlhpndjogjejaa
open Go.RowKit

attribute [local go_sem] run_store_float

/-- what is told of a reading: the error, the place, the value -/
def eOf {α : Type} : Except Nat (α × Nat) → Nat
  | .error e => e
  | .ok _ => 0
def nOf {α : Type} : Except Nat (α × Nat) → Nat
  | .error _ => 0
  | .ok (_, k) => k
def vOf : Except Nat (V × Nat) → V
  | .error _ => .mk 0 0 0 ⟨#[]⟩ []
  | .ok (v, _) => v
def rOf : Except Nat (List V × Nat) → List V
  | .error _ => []
  | .ok (v, _) => v
theorem ValA.out {w w' : World} {r : Except Nat (V × Nat)} {e : Ending} (h : ValA w r e w') : ∃ k i b t p n c, e = .returned (.tuple #[.agg #[.int .i64 k, .int .i64 i, .float .f64 b, .string t, .slice p n c], .int .i64 (nOf r : Nat), .int .i64 (eOf r : Nat)]) ∧ VLies w' #[.int .i64 k, .int .i64 i, .float .f64 b, .string t, .slice p n c] (vOf r) ∧ Below w.heap.size w w' := by
  cases r with
  | error er =>
    obtain ⟨rfl, hb⟩ := h
    exact ⟨0, 0, 0, ⟨#[]⟩, none, 0, 0, rfl, vl_leaf w' 0 0 0 ⟨#[]⟩ none 0, hb⟩
  | ok vk =>
    obtain ⟨v, k⟩ := vk
    obtain ⟨u, rfl, hv, hb⟩ := h
    obtain ⟨k', i', b', t', p', n', c', rfl⟩ := hv.shape
    exact ⟨k', i', b', t', p', n', c', rfl, hv.lies, hb⟩
theorem RowA.out {w w' : World} {r : Except Nat (List V × Nat)} {e : Ending} (h : RowA w r e w') : ∃ q c, e = .returned (.tuple #[.agg #[.slice q (rOf r).length c], .int .i64 (nOf r : Nat), .int .i64 (eOf r : Nat)]) ∧ VLies w' (cells5 0 0 0 ⟨#[]⟩ q (rOf r).length c) (.mk 0 0 0 ⟨#[]⟩ (rOf r)) ∧ Below w.heap.size w w' := by
  cases r with
  | error er =>
    obtain ⟨rfl, hb⟩ := h
    exact ⟨none, 0, rfl, vl_leaf w' 0 0 0 ⟨#[]⟩ none 0, hb⟩
  | ok vk =>
    obtain ⟨v, k⟩ := vk
    obtain ⟨q, c, rfl, hv, hb⟩ := h
    exact ⟨q, c, rfl, hv.lies, hb⟩

end Go.Proofs.Ytnlhpndjogjejaa

/- Worlds that are alike but for some blocks: bytes that lie aside. -/
import Derived.Test.YtpgilfglfcnihaaPush
import Derived.Test.YtpgilfglfcnihaaAsideP
namespace Go.Proofs.Ytpgilfglfcnihaa
open Go.RowKit

section
variable {F G : Nat → Prop} {w w' w'' : World}
theorem At.aside {p : Option Addr} {l : List UInt8} (h : At w p l) (ha : Aside F w w') (hp : ∀ b o, p = some ⟨b, o, none⟩ → ¬ F b) : At w' p l := by
  rcases h with rfl | ⟨b, o, rfl, hlt, hc⟩
  · exact .inl rfl
  · refine .inr ⟨b, o, rfl, by have := ha.size; omega, fun j hj => ?_⟩
    rw [ha.cell (p := ⟨b, o + j, none⟩) hlt (hp b o rfl)]
    exact hc j hj
theorem Has.lt {B : Nat} {v : Value} {l : List UInt8} (h : Has w B v l) : ∀ k, v.ownBlock = some k → B ≤ k ∧ k < w.heap.size := World.ownsRow.lt h
theorem Has.aside {B : Nat} {v : Value} {l : List UInt8} (h : Has w B v l) (ha : Aside F w w') (hp : ∀ k, v.ownBlock = some k → ¬ F k) : Has w' B v l := by
  refine ⟨h.1, ?_⟩
  rcases h.2 with h1 | ⟨g, cap, cur, rfl, h2, h3, h4⟩
  · exact .inl h1
  · refine .inr ⟨g, cap, cur, rfl, h2, ?_, h4⟩
    rw [ha.block g (Array.getElem?_eq_some_iff.1 h3).1 (hp g rfl)]
    exact h3
theorem Has.low {B B' : Nat} {v : Value} {l : List UInt8} (h : Has w B v l) (hB : B' ≤ B) : Has w B' v l := by
  refine ⟨h.1, ?_⟩
  rcases h.2 with h1 | ⟨g, cap, cur, rfl, h2, h3⟩
  · exact .inl h1
  · exact .inr ⟨g, cap, cur, rfl, by omega, h3⟩
end
end Go.Proofs.Ytpgilfglfcnihaa

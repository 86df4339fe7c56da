/- The law's own spoil(v): all items of a value that lies in blocks of its own are written over; nothing else changes. -/
import Derived.Test.YtooklmgkkkbfdabWCopied
namespace Go.Proofs.Ytooklmgkkkbfdab
open Go.RowKit

attribute [local go_sem] run_store_float

/-- five cells in the midst of a block are written: the other cells stay -/
theorem set5_cell {w : World} {g o m : Nat} (h : m < o ∨ o + 5 ≤ m) (v0 v1 v2 v3 v4 : Value) : (((((w.setCell ⟨g, o, none⟩ v0).setCell ⟨g, o + 1, none⟩ v1).setCell ⟨g, o + 2, none⟩ v2).setCell ⟨g, o + 3, none⟩ v3).setCell ⟨g, o + 4, none⟩ v4).cell? ⟨g, m, none⟩ = w.cell? ⟨g, m, none⟩ := by
  rw [World.cell?_setCell_other (h := by intro hc; injection hc; omega), World.cell?_setCell_other (h := by intro hc; injection hc; omega), World.cell?_setCell_other (h := by intro hc; injection hc; omega), World.cell?_setCell_other (h := by intro hc; injection hc; omega), World.cell?_setCell_other (h := by intro hc; injection hc; omega)]

theorem aside5 (w : World) (g o0 o1 o2 o3 o4 : Nat) (v0 v1 v2 v3 v4 : Value) : Aside (fun k => k = g) w (((((w.setCell ⟨g, o0, none⟩ v0).setCell ⟨g, o1, none⟩ v1).setCell ⟨g, o2, none⟩ v2).setCell ⟨g, o3, none⟩ v3).setCell ⟨g, o4, none⟩ v4) := by
  have h0 : Aside (fun k => k = g) w (w.setCell ⟨g, o0, none⟩ v0) := (Aside.refl (fun k => k = g) w).setCell (p := ⟨g, o0, none⟩) (.inl rfl) v0
  have h1 := h0.setCell (p := ⟨g, o1, none⟩) (.inl rfl) v1
  have h2 := h1.setCell (p := ⟨g, o2, none⟩) (.inl rfl) v2
  have h3 := h2.setCell (p := ⟨g, o3, none⟩) (.inl rfl) v3
  exact h3.setCell (p := ⟨g, o4, none⟩) (.inl rfl) v4

end Go.Proofs.Ytooklmgkkkbfdab

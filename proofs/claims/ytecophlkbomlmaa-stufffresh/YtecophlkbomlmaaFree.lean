/- Bytes behind a slice that may be written: whatever block they lie in. -/
import Derived.Test.YtecophlkbomlmaaOnto
namespace Go.Proofs.Ytecophlkbomlmaa
open Go.RowKit

/-- a list of bytes lies in block g from o on, and each of them may be written -/
def Free (w : World) (g o : Nat) (l : List UInt8) : Prop := g < w.heap.size ∧ Cells w g o l ∧ ∀ j, j < l.length → w.frozen? ⟨g, o + j, none⟩ = false

theorem Free.at {w : World} {g o : Nat} {l : List UInt8} (h : Free w g o l) : At w (some ⟨g, o, none⟩) l := .inr ⟨g, o, rfl, h.1, h.2.1⟩
theorem Free.set {w : World} {g o : Nat} {l : List UInt8} (h : Free w g o l) (i : Nat) (v : UInt8) (hi : i < l.length) : Free (w.setCell ⟨g, o + i, none⟩ (.int .u8 (v.toNat : Int))) g o (l.set i v) := by
  obtain ⟨h1, h2, h3⟩ := h
  refine ⟨by simpa [World.setCell] using h1, fun j hj => ?_, fun j hj => ?_⟩
  · rw [List.length_set] at hj
    by_cases e : i = j
    · subst e
      rw [World.cell?_setCell_same (h := h2 i hi), List.getElem_set_self]
    · rw [World.cell?_setCell_other (h := by intro hc; injection hc; omega), h2 j hj, List.getElem_set_ne e]
  · rw [List.length_set] at hj
    rw [World.frozen?_setCell]
    exact h3 j hj
theorem Free.on {w w' : World} {B g o : Nat} {l : List UInt8} (h : Free w g o l) (hg : g < B) (hb : Below B w w') : Free w' g o l := by
  obtain ⟨h1, h2, h3⟩ := h
  refine ⟨by have := hb.size; omega, fun j hj => ?_, fun j hj => ?_⟩
  · rw [hb.cell (p := ⟨g, o + j, none⟩) hg]; exact h2 j hj
  · rw [hb.frozen (p := ⟨g, o + j, none⟩) hg]; exact h3 j hj
theorem Own.free {w : World} {b : Nat} {l : List UInt8} (h : Own w b l) : Free w b 0 l := ⟨h.lt, h.cells, fun j _ => by rw [Nat.zero_add]; exact h.thawed j⟩
theorem Mine.free {w : World} {B g cap : Nat} {l : List UInt8} (h : Mine w B g cap l) : Free w g 0 l := by
  refine ⟨(World.ownsRow.lt h g rfl).2, fun j hj => ?_, fun j _ => ?_⟩
  · have := World.ownsRow.cells h (g := g) rfl j _ (cellsOf_get l j hj)
    rw [Lib.add_plain] at this
    exact this
  · rcases h.2 with ⟨h1, _⟩ | ⟨g', cap', cur, h1, _, h2, _⟩
    · cases h1
    · cases h1
      simp [World.frozen?, h2]
theorem Mine.base {w : World} {B g cap : Nat} {l : List UInt8} (h : Mine w B g cap l) : B ≤ g ∧ g < w.heap.size ∧ l.length ≤ cap := by
  refine ⟨(World.ownsRow.lt h g rfl).1, (World.ownsRow.lt h g rfl).2, ?_⟩
  rcases h.2 with ⟨h1, _⟩ | ⟨g', cap', cur, h1, _, _, h2, _⟩
  · cases h1
  · cases h1; exact h2

theorem cells_drop {w : World} {b o : Nat} {l : List UInt8} (h : Cells w b o l) (n : Nat) : Cells w b (o + n) (l.drop n) := fun j hj => by
  have hj' : n + j < l.length := by rw [List.length_drop] at hj; omega
  have := h (n + j) hj'
  rw [← Nat.add_assoc] at this
  rw [this, List.getElem_drop]
theorem cells_take {w : World} {b o : Nat} {l : List UInt8} (h : Cells w b o l) (n : Nat) : Cells w b o (l.take n) := fun j hj => by
  have hj' : j < l.length := by rw [List.length_take] at hj; omega
  rw [h j hj', List.getElem_take]
theorem at_some {w : World} {p : Option Addr} {l : List UInt8} (h : At w p l) (hp : 0 < l.length) : ∃ b o, p = some ⟨b, o, none⟩ ∧ b < w.heap.size ∧ Cells w b o l := by
  rcases h with rfl | h
  · simp at hp
  · exact h
end Go.Proofs.Ytecophlkbomlmaa

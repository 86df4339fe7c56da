/- RepairWhole, walked. -/
import Derived.Test.YtmgcfkpmknogaaaGreatDoorW15D
import Derived.Deep.RegionHeldLaw
namespace Go.Proofs.YtmgcfkpmknogaaaGreatDoor
open Go.RowKit Go.Maps

def Live15 : Prop := ∀ w, Hv w → He w → Calls Tryz.prog 12 #[] w fun e w' => e = .returned (.bool true) ∧ Below w.heap.size w w'
theorem UpD.belowA {w w' : World} {B g n : Nat} {v : Value} {b : List UInt8} (h : UpD w B g v b n) (ha : Aside (fun i => i = g ∨ v.ownBlock = some i) w w') (hB : B ≤ w.heap.size) : Below B w w' := ha.below hB (fun i hi hc => by
  rcases hc with hc | hc
  · have := h.lt; omega
  · have := h.own i hc; omega)
theorem two_up {w w' : World} {l : List UInt8} {g r : Nat} {v u : Value} {x k : Nat} (h : Two15 w w' l g r v u x k) : UpD w' w.heap.size g v l 0 := ⟨_, x, k, h.dev, rfl, rfl, rfl, Nat.le_refl _, Nat.le_refl _, Nat.le_refl _⟩

/-- while the kinds are looked at: behind i frames -/
structure KdI (w7 wr : World) (B g : Nat) (v : Value) (T : List UInt8) (i : Nat) (Y : Sc.Pos) : Prop where
  goes : Sc.goes T i = some Y
  up : UpD wr B g v T (30000000000 + 2202 * i)
  aside : Aside (fun i => i = g) w7 wr
theorem UpD.more {w : World} {B g n m : Nat} {v : Value} {b : List UInt8} (h : UpD w B g v b n) (hm : n ≤ m) : UpD w B g v b m := by
  obtain ⟨s, x, k, h1, h2, h3, h4, h5, h6, h7⟩ := h.out
  exact ⟨s, x, k, h1, h2, h3, h4, h5, by omega, by omega⟩

end Go.Proofs.YtmgcfkpmknogaaaGreatDoor

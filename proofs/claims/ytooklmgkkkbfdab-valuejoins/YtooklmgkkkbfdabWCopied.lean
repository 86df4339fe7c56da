/- The law's own copied(v). -/
import Derived.Test.YtooklmgkkkbfdabWFixR
import Derived.Deep.RegionLaw
namespace Go.Proofs.Ytooklmgkkkbfdab
open Go.RowKit

attribute [local go_sem] run_store_float

theorem fresh_from {w W w2 : World} {y : V} {e : Ending} (h : Fresh W y e w2) (h1 : W.os = w.os) (h2 : W.tape = w.tape) (h3 : W.output = w.output) (h4 : W.heap = w.heap) : Fresh w y e w2 := by
  obtain ⟨u', rfl, hv, hb⟩ := h
  rw [h4] at hv hb
  exact ⟨u', rfl, hv, below_via hb h1 h2 h3 h4⟩

end Go.Proofs.Ytooklmgkkkbfdab

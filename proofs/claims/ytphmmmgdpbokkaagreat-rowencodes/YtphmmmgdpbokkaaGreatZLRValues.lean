/- RowValues over what the laws ask of package row. -/
import Derived.Test.YtphmmmgdpbokkaaGreatM26
namespace Go.Proofs.YtphmmmgdpbokkaaGreat
open Go.RowKit

attribute [local go_sem] run_store_float

theorem EncR.told {w w' : World} {er : Nat} {l : List UInt8} {e : Ending} (h : EncR w er l e w') : Told w er (if er = 0 then l else []) e w' := by
  rcases h with ⟨h0, q, cap, rfl, hh, hb⟩ | ⟨h0, rfl, hb⟩
  · rw [if_pos h0, h0]
    obtain ⟨p, c, he, hat, hc⟩ := hh.at
    injection he with h1 h2 h3
    subst h1 h3
    exact ⟨q, cap, rfl, hat, hc, hb⟩
  · rw [if_neg h0]
    exact ⟨none, 0, rfl, .inl rfl, Nat.le_refl _, hb⟩

end Go.Proofs.YtphmmmgdpbokkaaGreat

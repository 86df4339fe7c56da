/- The walk of the document's own Unstuff. -/
import Derived.Test.YtecophlkbomlmaaWRefS
namespace Go.Proofs.Ytecophlkbomlmaa
open Go.RowKit

theorem un_zero {l : List UInt8} {i : Nat} (hi : i < l.length) (h : l[i] = 0) : Cob.un l = (40, []) := by
  unfold Cob.un
  rw [if_pos]
  rw [← h]
  exact List.getElem_mem hi
theorem nz_of {l : List UInt8} (h : ∀ j (hj : j < l.length), l[j] ≠ 0) : Cob.Nz l := by
  intro c hc
  obtain ⟨j, hj, rfl⟩ := List.getElem_of_mem hc
  exact h j hj
theorem toNat_ne {c : UInt8} (h : c ≠ 0) : c.toNat ≠ 0 := fun hc => h (UInt8.toNat_inj.1 hc)

end Go.Proofs.Ytecophlkbomlmaa

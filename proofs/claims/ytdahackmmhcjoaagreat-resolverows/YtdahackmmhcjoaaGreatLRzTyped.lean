/- ResolveTyped over the landed resolve. -/
import Derived.Test.YtdahackmmhcjoaaGreatM17
import Derived.Test.YtdahackmmhcjoaaGreatM05
namespace Go.Proofs.YtdahackmmhcjoaaGreat
open Go.RowKit

/-- a row that was told: where its values lie -/
theorem row_items {w : World} {F : Nat → Prop} {q : Option Addr} {c : Nat} {ys : List V} (h : VOwn w F (cells5 0 0 0 ⟨#[]⟩ q ys.length c) (.mk 0 0 0 ⟨#[]⟩ ys)) : ys.length * 64 ≤ 140737488351232 ∧ Items w q ys := by
  obtain ⟨p, c', he, h1, h2, h3⟩ := h.lies.open
  unfold cells5 at he
  simp only [Array.mk.injEq, List.cons.injEq, Value.slice.injEq, and_true, true_and] at he
  obtain ⟨rfl, rfl⟩ := he
  exact ⟨h1, h3⟩
theorem Items.on9 {w w' : World} {q : Option Addr} {ys : List V} (h : Items w q ys) (hb : Below w.heap.size w w') : Items w' q ys := fun j hj => by
  obtain ⟨u, h1, h2⟩ := h j hj
  exact ⟨u, h1.on hb, h2.on hb⟩

end Go.Proofs.YtdahackmmhcjoaaGreat

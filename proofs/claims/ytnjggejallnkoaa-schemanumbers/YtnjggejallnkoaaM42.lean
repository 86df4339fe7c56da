/- RowL: put together. -/
import Derived.Test.YtnjggejallnkoaaM21
import Derived.Test.YtnjggejallnkoaaM22
import Derived.Test.YtnjggejallnkoaaM41
import Derived.Deep.DeepHandedRow
import Derived.LaidMore
import Derived.Stop.Joined

/- The rows of stage 7: no variable is listed (else as wip/crc/RowL.lean.t: Tie, Cards, what they give). -/
namespace Go.Proofs.Ytnjggejallnkoaa
open Go.ChangeShapes Go.WideShapes Go.ChangeAt Go.RowKit

theorem laid_gives {W : World} (_ : laidMetH Try.prog [] W) : SchemaI W := trivial
theorem door_met (os : Os) (args : Array Value) : laidMet Try.prog [] ((World.holding Try.prog os ⟨#[], #[], []⟩).forCall (fun _ _ => 0) ⟨#[], args, []⟩).memory :=
  laidMet_of_run' 8 (by kernel_rfl) (by kernel_rfl)
/-- a text's bytes, bounded by what the row's weights say -/
theorem str_sized {H : Type} {ts : List TypeId} {ds : List (DataW H)} {j : Nat} {t : TypeId} {s : ByteArray} (hsz : (DataW.weightsEach Try.prog ts ds).all (· ≤ reachBytes) = true) (ht : ts[j]? = some t) (hd : ds[j]? = some (.lit (.string s.data.toList))) : s.size ≤ 140737488351232 := by
  have := List.all_eq_true.1 hsz s.data.toList.length (DataW.weights_mem_each ht hd _ (by simp [DataW.weights]))
  have er : reachBytes = 140737488351232 := by decide
  rw [er] at this
  simpa using this
end Go.Proofs.Ytnjggejallnkoaa

/- The rows of stage 4: no variable is listed. -/
import Derived.Test.YtecophlkbomlmaaRowB
import Derived.Test.YtecophlkbomlmaaStuffK
import Derived.Deep.DeepHandedRow
import Derived.LaidMore
import Derived.Stop.Joined
namespace Go.Proofs.Ytecophlkbomlmaa
open Go.ChangeShapes Go.WideShapes Go.ChangeAt Go.RowKit

theorem laid_gives {W : World} (_ : laidMetH Try.prog [] W) : StuffI W := trivial
theorem door_met (os : Os) (args : Array Value) : laidMet Try.prog [] ((World.holding Try.prog os ⟨#[], #[], []⟩).forCall (fun _ _ => 0) ⟨#[], args, []⟩).memory :=
  laidMet_of_run' 8 (by kernel_rfl) (by kernel_rfl)
end Go.Proofs.Ytecophlkbomlmaa

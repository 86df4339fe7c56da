/- ScanJoins, walked. -/
import Derived.Test.YtclhbhhlddbocaaGreatDoorA6
namespace Go.Proofs.YtclhbhhlddbocaaGreatDoor
open Go.RowKit

/-- what live tells, in every world -/
def Live14 : Prop := ∀ (w : World), Hv w → Calls Tryz.prog 22 #[] w fun e w' => e = .returned (.bool true) ∧ Below w.heap.size w w'

/-- while the frames are looked at once more -/
structure JnI (w wr : World) (g x k : Nat) (v : Value) (l : List UInt8) (T : Nat) (i : Nat) (Y : Sc.Pos) : Prop where
  dev : KDev wr w.heap.size g v { Dv.new 1048576 with b := l, safe := l.length, told := T + Y.read } x k
  below : Below w.heap.size w wr
  goes : Sc.goes l i = some Y

end Go.Proofs.YtclhbhhlddbocaaGreatDoor

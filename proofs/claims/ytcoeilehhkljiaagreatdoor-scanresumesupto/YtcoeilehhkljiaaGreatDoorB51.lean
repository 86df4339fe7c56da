import Derived.Test.YtcoeilehhkljiaaGreatDoorB36
import Derived.Test.YtcoeilehhkljiaaGreatDoorA11
namespace Go.Proofs.YtcoeilehhkljiaaGreatDoor
section
open Go.RowKit
section
variable {w:World} {B g:Nat} {v:Value} {s:Dv.St}
end
end
section
open Go.RowKit
section
variable {w:World} {B g:Nat} {v:Value} {s:Dv.St}
end
end
end Go.Proofs.YtcoeilehhkljiaaGreatDoor

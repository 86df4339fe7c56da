import Derived.Test.YtlgfdgdlaahpfaaGreatDoorB36
import Derived.Test.YtlgfdgdlaahpfaaGreatDoorA11
namespace Go.Proofs.YtlgfdgdlaahpfaaGreatDoor
section
open Go.RowKit
section
variable {w:World} {B g:Nat} {v:Value} {s:Dv.St}
end
end
section
open Go.RowKit
section
variable {w:World} {B g:Nat} {v:Value} {s:Dv.St}
end
end
end Go.Proofs.YtlgfdgdlaahpfaaGreatDoor

import Derived.Test.YtjgeeddikohfnaaGreatDoorB36
import Derived.Test.YtjgeeddikohfnaaGreatDoorA11
namespace Go.Proofs.YtjgeeddikohfnaaGreatDoor
section
open Go.RowKit
section
variable {w:World} {B g:Nat} {v:Value} {s:Dv.St}
end
end
section
open Go.RowKit
section
variable {w:World} {B g:Nat} {v:Value} {s:Dv.St}
end
end
end Go.Proofs.YtjgeeddikohfnaaGreatDoor

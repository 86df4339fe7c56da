/- The landed frame: fields held against others (same), Same. -/
import Derived.Test.YtclhbhhlddbocaaGreatDoorK12F
import Derived.Test.YtclhbhhlddbocaaGreatDoorA9
import Derived.Test.YtclhbhhlddbocaaGreatDoorK12P
import Derived.Test.YtclhbhhlddbocaaGreatDoorB14
import Derived.Handy
namespace Go.Proofs.YtclhbhhlddbocaaGreatDoor
open Go.RowKit

end Go.Proofs.YtclhbhhlddbocaaGreatDoor

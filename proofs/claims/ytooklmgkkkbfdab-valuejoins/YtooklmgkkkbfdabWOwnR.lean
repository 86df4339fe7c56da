/- The document's own(v). -/
import Derived.Test.YtooklmgkkkbfdabWSameR
namespace Go.Proofs.Ytooklmgkkkbfdab
open Go.RowKit

end Go.Proofs.Ytooklmgkkkbfdab

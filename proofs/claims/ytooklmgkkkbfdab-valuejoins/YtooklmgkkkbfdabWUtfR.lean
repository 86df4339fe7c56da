/- The document's Utf. -/
import Derived.Test.YtooklmgkkkbfdabUtf
import Derived.Test.YtooklmgkkkbfdabVLies
namespace Go.Proofs.Ytooklmgkkkbfdab
open Go.RowKit

theorem text_get (t : ByteArray) (i : Nat) (h : i < t.size) : t.data.toList[i]'(by simpa using h) = t[i] := by rw [Array.getElem_toList]; rfl

end Go.Proofs.Ytooklmgkkkbfdab

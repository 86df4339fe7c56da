/- What the laws ask of package value's functions, of the landed ones. -/
import Derived.Test.YtooklmgkkkbfdabValueC
import Derived.Test.YtooklmgkkkbfdabKFix
import Derived.Test.YtooklmgkkkbfdabKSame
import Derived.Test.YtooklmgkkkbfdabKUtf
import Derived.Test.YtooklmgkkkbfdabKCheck
namespace Go.Proofs.Ytooklmgkkkbfdab
open Go.RowKit

def ValueI (_ : World) : Prop := True
theorem valueK : ValueOk ValueI where
  on := fun _ _ => trivial
  check := fun x u w h _ => checkK x w u h
  fix := fun x u w h _ => fixK x w u h
  same := fun x y u v w h1 h2 _ => sameK x y w u v h1 h2
  utf := fun t w ht _ => utfK t ht w
end Go.Proofs.Ytooklmgkkkbfdab

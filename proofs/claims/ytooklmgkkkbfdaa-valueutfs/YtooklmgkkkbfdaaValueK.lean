/- What the laws ask of package value's functions, of the landed ones. -/
import Derived.Test.YtooklmgkkkbfdaaValueC
import Derived.Test.YtooklmgkkkbfdaaKFix
import Derived.Test.YtooklmgkkkbfdaaKSame
import Derived.Test.YtooklmgkkkbfdaaKUtf
import Derived.Test.YtooklmgkkkbfdaaKCheck
namespace Go.Proofs.Ytooklmgkkkbfdaa
open Go.RowKit

def ValueI (_ : World) : Prop := True
theorem valueK : ValueOk ValueI where
  on := fun _ _ => trivial
  check := fun x u w h _ => checkK x w u h
  fix := fun x u w h _ => fixK x w u h
  same := fun x y u v w h1 h2 _ => sameK x y w u v h1 h2
  utf := fun t w ht _ => utfK t ht w
/-- function number 19: in a seat that lacks it this falls away -/
theorem valueRowK : RowOk ValueI := fun xs ys p q c d w hx hy h1 h2 h3 h4 _ => sameRowK xs ys w p q c d hx hy h1 h2 h3 h4
end Go.Proofs.Ytooklmgkkkbfdaa

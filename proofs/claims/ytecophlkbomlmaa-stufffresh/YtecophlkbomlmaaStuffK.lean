/- Package stuff's functions answer as the laws ask. -/
import Derived.Test.YtecophlkbomlmaaWUnK
namespace Go.Proofs.Ytecophlkbomlmaa
open Go.RowKit

def StuffI (_ : World) : Prop := True

theorem stuffK : StuffOk StuffI where
  on := fun _ _ => trivial
  stuff := fun p c l w hl hlc h _ => stuffK_stuff p c l w hl hlc h
  len := fun p c l w hl hlc h _ => lenK p c l w hl hlc h
  unstuff := fun p c l w hl hlc h _ => unstuffK p c l w hl hlc h
end Go.Proofs.Ytecophlkbomlmaa

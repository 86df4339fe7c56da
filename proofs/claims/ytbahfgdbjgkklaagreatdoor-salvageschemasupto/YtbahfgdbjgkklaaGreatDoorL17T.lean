import Derived.Test.YtbahfgdbjgkklaaGreatDoorA4
import Derived.Test.YtbahfgdbjgkklaaGreatDoorW17A
import Derived.Test.YtbahfgdbjgkklaaGreatDoorA3
import Derived.Test.YtbahfgdbjgkklaaGreatDoorB22
namespace Go.Proofs.YtbahfgdbjgkklaaGreatDoor
open Go.RowKit
theorem ud(p q:OA)(c d:Nat)(w:World)(y:bB w p c aL)(o:fw w q d [bw]):Calls Tryz.prog 25 #[.agg #[.slice p 1 c],.slice q 1 d] w (tg w ⟨0,[0,10]⟩):=by
 have h:=yk tM aL p c [bw] q d w y o;rw[yl] at h;exact h
theorem jg(b:L8)(p:OA)(c:Nat)(w:World)(K:b.length<=1100000)(I:b.length<=c)(E:At w p b)(o:Hv w):
  Calls Tryz.prog 3 #[.slice p b.length c] w fun e w'=>e=.returned (.bool true)∧Below w.1.size w w' :=
 iD gy (fun h hb=>h.next hb) (fun w h=>yq yO gy.ok ud (fun f u w J y o h=>J.elim (fun z=>sX f z y u w o h) (fun D=>sW f D y u w o h)) w h) b p c w K I E o
end Go.Proofs.YtbahfgdbjgkklaaGreatDoor

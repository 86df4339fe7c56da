/- Package leb's functions answer as the laws ask, in any world. -/
import Derived.Test.YthbkmliggdpmoaaWGetK
namespace Go.Proofs.Ythbkmliggdpmoaa
open Go.RowKit

/-- no package variable is read -/
def LebI (_ : World) : Prop := True

theorem still {w : World} {P : Program} {f : FuncId} {args : Array Value} {v : Value} (h : Calls P f args w fun e w' => e = .returned v ∧ w' = w) : Calls P f args w fun e w' => e = .returned v ∧ Below w.heap.size w w' :=
  h.mono fun e w' ⟨he, hw⟩ => ⟨he, by rw [hw]; exact Below.refl _ _⟩

theorem lebK : LebOk LebI where
  on := fun _ _ => trivial
  put := fun n w hn _ => (put_any n hn w).mono fun _ _ ⟨g, cap, he, hm, hb⟩ => ⟨g, 0, cap, he, hm.free, hm.base.1, hm.base.2.2, hb⟩
  len := fun n w hn _ => still (len_any n hn w)
  get := fun p c l a w hl hlc _ _ h _ => still (get_any p c l a hl hlc w h)
  zig := fun n w h1 h2 _ => still (zig_any n h1 h2 w)
  zag := fun u w h _ => still (zag_any u h w)
end Go.Proofs.Ythbkmliggdpmoaa

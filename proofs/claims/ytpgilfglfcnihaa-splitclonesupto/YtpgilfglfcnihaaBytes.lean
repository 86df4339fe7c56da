/- Slices of bytes as lists: what a slice holds, carried from world to world; the laws' own same(a, b). -/
import Derived.Test.YtpgilfglfcnihaaRows
import Derived.WalkKit
import Derived.WalkSpells
import Derived.WalkLawsBesides
import Derived.Deep.QuietTactic
import Derived.BigQuiet
import Derived.Lib.Hide
namespace Go.Proofs.Ytpgilfglfcnihaa
open Go.RowKit

/-- a list of bytes lies in block b from o on -/
def Cells (w : World) (b o : Nat) (l : List UInt8) : Prop := ∀ j (h : j < l.length), w.cell? ⟨b, o + j, none⟩ = some (.int .u8 (l[j].toNat : Int))

/-- a slice's address holds a list of bytes: nothing is asked of an empty one's -/
def At (w : World) (p : Option Addr) (l : List UInt8) : Prop := l = [] ∨ ∃ b o, p = some ⟨b, o, none⟩ ∧ b < w.heap.size ∧ Cells w b o l

theorem At.on {w w' : World} {p : Option Addr} {l : List UInt8} (h : At w p l) (hb : Below w.heap.size w w') : At w' p l := by
  rcases h with rfl | ⟨b, o, rfl, h1, h2⟩
  · exact .inl rfl
  · refine .inr ⟨b, o, rfl, by have := hb.size; omega, fun j hj => ?_⟩
    rw [hb.cell (p := ⟨b, o + j, none⟩) h1]
    exact h2 j hj
theorem At.drewN {w : World} {p : Option Addr} {l : List UInt8} (h : At w p l) (n : Nat) : At (w.drewN n) p l := by
  rcases h with rfl | ⟨b, o, rfl, h1, h2⟩
  · exact .inl rfl
  · exact .inr ⟨b, o, rfl, h1, h2⟩

theorem below_drewN {B : Nat} {a w : World} (h : Below B a w) (n : Nat) : Below B a (w.drewN n) := ⟨h.os, h.tape, h.output, h.size, h.block⟩

end Go.Proofs.Ytpgilfglfcnihaa

/- How entries and frames lie in memory. -/
import Derived.Test.YtclhbhhlddbocaaGreatDoorFr2
import Derived.Test.YtclhbhhlddbocaaGreatDoorB06
import Derived.Test.YtclhbhhlddbocaaGreatDoorB01
namespace Go.Proofs.YtclhbhhlddbocaaGreatDoor
open Go.RowKit

/-- an entry's three cells from a place on -/
def At3 (w : World) (b o : Nat) (e : Ent) : Prop := w.cell? ⟨b, o, none⟩ = some (.int .i64 e.at_) ∧ w.cell? ⟨b, o + 1, none⟩ = some (.int .i64 e.row) ∧ w.cell? ⟨b, o + 2, none⟩ = some (.int .i64 e.sch)
theorem At3.on {w w' : World} {b o : Nat} {e : Ent} (h : At3 w b o e) (hb : Below w.heap.size w w') : At3 w' b o e := ⟨cell_on hb h.1, cell_on hb h.2.1, cell_on hb h.2.2⟩
/-- entries lie in a row -/
def Ents (w : World) (p : Option Addr) (es : List Ent) : Prop := ∀ j (h : j < es.length), ∃ b o, p = some ⟨b, o, none⟩ ∧ b < w.heap.size ∧ At3 w b (o + j * 3) es[j]
theorem Ents.on {w w' : World} {p : Option Addr} {es : List Ent} (h : Ents w p es) (hb : Below w.heap.size w w') : Ents w' p es := fun j hj => by
  obtain ⟨b, o, h1, h2, h3⟩ := h j hj
  exact ⟨b, o, h1, Nat.lt_of_lt_of_le h2 hb.size, h3.on hb⟩
theorem ents_nil (w : World) (p : Option Addr) : Ents w p [] := fun j hj => by simp at hj
/-- a frame's eleven cells -/
def cells11 (k n : Int) (sp : Option Addr) (sn sc : Nat) (q f r : Int) (bp : Option Addr) (bn bc : Nat) (ia ib ic : Int) (ep : Option Addr) (en ec : Nat) : Array Value := #[.int .i64 k, .int .i64 n, .slice sp sn sc, .int .i64 q, .int .i64 f, .int .i64 r, .slice bp bn bc, .int .i64 ia, .int .i64 ib, .int .i64 ic, .slice ep en ec]
/-- so a frame lies -/
structure FLies (w : World) (u : Array Value) (f : Fr) : Prop where
  out : ∃ sp sc bp bc ep ec, u = cells11 f.kind f.number sp f.cols.length sc f.seq f.first f.rows bp f.block.length bc f.index.at_ f.index.frames f.index.rows ep f.index.entries.length ec ∧ f.cols.length * 120 ≤ 140737488351232 ∧ f.cols.length ≤ sc ∧ Cols w sp f.cols ∧ f.block.length ≤ 140737488351232 ∧ f.block.length ≤ bc ∧ At w bp f.block ∧ f.index.entries.length * 24 ≤ 140737488351232 ∧ f.index.entries.length ≤ ec ∧ Ents w ep f.index.entries
theorem FLies.on {w w' : World} {u : Array Value} {f : Fr} (h : FLies w u f) (hb : Below w.heap.size w w') : FLies w' u f := by
  obtain ⟨sp, sc, bp, bc, ep, ec, h0, h1, h2, h3, h4, h5, h6, h7, h8, h9⟩ := h.out
  exact ⟨sp, sc, bp, bc, ep, ec, h0, h1, h2, h3.on hb, h4, h5, h6.on hb, h7, h8, h9.on hb⟩
end Go.Proofs.YtclhbhhlddbocaaGreatDoor

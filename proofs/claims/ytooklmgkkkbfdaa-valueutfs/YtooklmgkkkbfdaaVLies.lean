/- How a value lies in memory. -/
import Derived.Test.YtooklmgkkkbfdaaVt
import Derived.BigQuiet
import Derived.Deep.RegionHeld3
namespace Go.Proofs.Ytooklmgkkkbfdaa
open Go.RowKit

theorem below_drewN {B : Nat} {a w : World} (h : Below B a w) (n : Nat) : Below B a (w.drewN n) := ⟨h.os, h.tape, h.output, h.size, h.block⟩

theorem below_via {B : Nat} {w wa W : World} (hb : Below B wa W) (h1 : wa.os = w.os) (h2 : wa.tape = w.tape) (h3 : wa.output = w.output) (h4 : wa.heap = w.heap) : Below B w W :=
  Below.trans ⟨h1, h2, h3, by rw [h4]; exact Nat.le_refl _, fun k _ => by rw [h4]⟩ hb
/-- a cell that is there stays -/
theorem cell_on {w w' : World} {p : Addr} {v : Value} (hb : Below w.heap.size w w') (h : w.cell? p = some v) : w'.cell? p = some v := by
  rw [hb.cell (World.block_lt_of_cell? _ _ h)]; exact h

/-- a value's five cells -/
def cells5 (k i : Int) (b : Nat) (t : ByteArray) (p : Option Addr) (n c : Nat) : Array Value := #[.int .i64 k, .int .i64 i, .float .f64 b, .string t, .slice p n c]

/-- one step of how a value lies: its items, of which P holds, in the block that its slice names -/
def VStep (w : World) (P : Array Value → V → Prop) (p : Option Addr) (c : Nat) (xs : List V) (us : Nat → Array Value) : Prop :=
  xs.length * 64 ≤ 140737488351232 ∧ xs.length ≤ c ∧ (xs ≠ [] → ∃ blk off, p = some ⟨blk, off, none⟩ ∧ blk < w.heap.size ∧ ∀ j, j < xs.length → ∀ m, m < 5 → w.cell? ⟨blk, off + j * 5 + m, none⟩ = (us j)[m]?) ∧ ∀ j (h : j < xs.length), P (us j) xs[j]
/-- so a value lies -/
def VLies (w : World) (u : Array Value) (x : V) : Prop :=
  ∀ P : Array Value → V → Prop, (∀ k i b t p c xs us, VStep w P p c xs us → P (cells5 k i b t p xs.length c) (.mk k i b t xs)) → P u x
theorem VLies.mk {w : World} {k i : Int} {b : Nat} {t : ByteArray} {p : Option Addr} {c : Nat} {xs : List V} (us : Nat → Array Value) (hl : xs.length * 64 ≤ 140737488351232) (hc : xs.length ≤ c)
    (hp : xs ≠ [] → ∃ blk off, p = some ⟨blk, off, none⟩ ∧ blk < w.heap.size ∧ ∀ j, j < xs.length → ∀ m, m < 5 → w.cell? ⟨blk, off + j * 5 + m, none⟩ = (us j)[m]?)
    (hr : ∀ j (h : j < xs.length), VLies w (us j) xs[j]) : VLies w (cells5 k i b t p xs.length c) (.mk k i b t xs) :=
  fun P hP => hP k i b t p c xs us ⟨hl, hc, hp, fun j h => hr j h P hP⟩
theorem VLies.inv {w : World} {u : Array Value} {x : V} (h : VLies w u x) : ∃ k i b t p c xs us, u = cells5 k i b t p xs.length c ∧ x = .mk k i b t xs ∧ VStep w (VLies w) p c xs us := by
  have := h (fun u x => VLies w u x ∧ ∃ k i b t p c xs us, u = cells5 k i b t p xs.length c ∧ x = .mk k i b t xs ∧ VStep w (VLies w) p c xs us) (fun k i b t p c xs us ⟨h1, h2, h3, h4⟩ =>
    ⟨.mk us h1 h2 h3 (fun j hj => (h4 j hj).1), k, i, b, t, p, c, xs, us, rfl, rfl, h1, h2, h3, fun j hj => (h4 j hj).1⟩)
  exact this.2

theorem VLies.on {w w' : World} {u : Array Value} {v : V} (h : VLies w u v) (hb : Below w.heap.size w w') : VLies w' u v := by
  refine h (VLies w') ?_
  rintro k i b t p c xs us ⟨hl, hc, hp, ih⟩
  refine .mk us hl hc (fun hne => ?_) ih
  obtain ⟨blk, off, h1, h2, h3⟩ := hp hne
  refine ⟨blk, off, h1, by have := hb.size; omega, fun j hj m hm => ?_⟩
  rw [hb.cell (p := ⟨blk, off + j * 5 + m, none⟩) h2]
  exact h3 j hj m hm

/-- one item of it: where it lies -/
structure Item (w : World) (p : Option Addr) (j : Nat) (u : Array Value) : Prop where
  lies : ∃ blk off k i b t q n c, p = some ⟨blk, off, none⟩ ∧ blk < w.heap.size ∧ u = cells5 k i b t q n c ∧ w.cell? ⟨blk, off + j * 5, none⟩ = some (.int .i64 k) ∧ w.cell? ⟨blk, off + j * 5 + 1, none⟩ = some (.int .i64 i) ∧ w.cell? ⟨blk, off + j * 5 + 2, none⟩ = some (.float .f64 b) ∧ w.cell? ⟨blk, off + j * 5 + 3, none⟩ = some (.string t) ∧ w.cell? ⟨blk, off + j * 5 + 4, none⟩ = some (.slice q n c)

theorem VLies.open {w : World} {u : Array Value} {k i : Int} {b : Nat} {t : ByteArray} {xs : List V} (h : VLies w u (.mk k i b t xs)) :
    ∃ p c, u = cells5 k i b t p xs.length c ∧ xs.length * 64 ≤ 140737488351232 ∧ xs.length ≤ c ∧ ∀ j (hj : j < xs.length), ∃ u', VLies w u' xs[j] ∧ Item w p j u' := by
  obtain ⟨k0, i0, b0, t0, p, c, xs0, us, rfl, hx, hl, hc, hp, hr⟩ := h.inv
  simp only [V.mk.injEq] at hx
  obtain ⟨rfl, rfl, rfl, rfl, rfl⟩ := hx
  refine ⟨p, c, rfl, hl, hc, fun j hj => ⟨us j, hr j hj, ?_⟩⟩
  obtain ⟨blk, off, h1, h2, h3⟩ := hp (fun hc => by rw [hc] at hj; simp at hj)
  obtain ⟨k', i', b', t', q, c', ys, us', hu, -, -⟩ := (hr j hj).inv
  have g := fun m hm => h3 j hj m hm
  rw [hu] at g ⊢
  exact ⟨blk, off, k', i', b', t', q, ys.length, c', h1, h2, rfl, g 0 (by omega), g 1 (by omega), g 2 (by omega), g 3 (by omega), g 4 (by omega)⟩
theorem Item.on {w w' : World} {p : Option Addr} {j : Nat} {u : Array Value} (h : Item w p j u) (hb : Below w.heap.size w w') : Item w' p j u := by
  obtain ⟨blk, off, k, i, b, t, q, n, c, h1, h2, h3, g0, g1, g2, g3, g4⟩ := h.lies
  refine ⟨⟨blk, off, k, i, b, t, q, n, c, h1, by have := hb.size; omega, h3, ?_, ?_, ?_, ?_, ?_⟩⟩
  · rw [hb.cell (p := ⟨blk, off + j * 5, none⟩) h2]; exact g0
  · rw [hb.cell (p := ⟨blk, off + j * 5 + 1, none⟩) h2]; exact g1
  · rw [hb.cell (p := ⟨blk, off + j * 5 + 2, none⟩) h2]; exact g2
  · rw [hb.cell (p := ⟨blk, off + j * 5 + 3, none⟩) h2]; exact g3
  · rw [hb.cell (p := ⟨blk, off + j * 5 + 4, none⟩) h2]; exact g4
end Go.Proofs.Ytooklmgkkkbfdaa

/- Worlds that are alike but for some blocks: what is done to one object leaves the others alone. -/
import Derived.Test.YtpgilfglfcnihaaRows
import Derived.WalkKit
import Derived.Below
import Derived.BigQuiet
namespace Go.Proofs.Ytpgilfglfcnihaa
open Go.RowKit

/-- w' is w but for the blocks of F, and new ones -/
structure Aside (F : Nat → Prop) (w w' : World) : Prop where
  os : w'.os = w.os
  tape : w'.tape = w.tape
  output : w'.output = w.output
  size : w.heap.size ≤ w'.heap.size
  block : ∀ k, k < w.heap.size → ¬ F k → w'.heap[k]? = w.heap[k]?

section
variable {F G : Nat → Prop} {w w' w'' : World}
theorem Aside.refl (F : Nat → Prop) (w : World) : Aside F w w := ⟨rfl, rfl, rfl, Nat.le_refl _, fun _ _ _ => rfl⟩
theorem Aside.trans (h : Aside F w w') (k : Aside G w' w'') (hg : ∀ i, i < w.heap.size → G i → F i) : Aside F w w'' :=
  ⟨k.os.trans h.os, k.tape.trans h.tape, k.output.trans h.output, Nat.le_trans h.size k.size, fun i hi hf => (k.block i (Nat.lt_of_lt_of_le hi h.size) (fun hc => hf (hg i hi hc))).trans (h.block i hi hf)⟩
theorem Aside.mono (h : Aside F w w') (hg : ∀ i, i < w.heap.size → F i → G i) : Aside G w w' :=
  ⟨h.os, h.tape, h.output, h.size, fun i hi hf => h.block i hi (fun hc => hf (hg i hi hc))⟩
theorem aside_of {B : Nat} (h : Below B w w') (hF : ∀ k, k < w.heap.size → B ≤ k → F k) : Aside F w w' :=
  ⟨h.os, h.tape, h.output, h.size, fun k hk hf => h.block k (by
    rcases Nat.lt_or_ge k B with h1 | h1
    · exact h1
    · exact absurd (hF k hk h1) hf)⟩
theorem aside_new (h : Below w.heap.size w w') (F : Nat → Prop) : Aside F w w' := aside_of h fun _ h1 h2 => absurd h1 (Nat.not_lt_of_le h2)
theorem Aside.below {B : Nat} (h : Aside F w w') (hB : B ≤ w.heap.size) (hF : ∀ k, k < B → ¬ F k) : Below B w w' :=
  ⟨h.os, h.tape, h.output, h.size, fun k hk => h.block k (by omega) (hF k hk)⟩
theorem Aside.alloc (h : Aside F w w') (o : Obj) : Aside F w (w'.alloc o) :=
  h.trans (aside_new ((Below.refl w'.heap.size w').alloc (Nat.le_refl _) o) F) fun _ _ h => h
theorem Aside.drew (h : Aside F w w') : Aside F w w'.drew := ⟨h.os, h.tape, h.output, h.size, h.block⟩
theorem Aside.drewN (h : Aside F w w') (n : Nat) : Aside F w (w'.drewN n) := ⟨h.os, h.tape, h.output, h.size, h.block⟩
theorem Aside.setCell (h : Aside F w w') {p : Addr} (hp : F p.block ∨ w.heap.size ≤ p.block) (u : Value) : Aside F w (w'.setCell p u) := by
  refine ⟨h.os, h.tape, h.output, by simpa [World.setCell] using h.size, fun k hk hf => ?_⟩
  rw [Below.heap_setCell _ _ _ _ (fun hc => ?_)]
  · exact h.block k hk hf
  · rcases hp with hp | hp
    · rw [← hc] at hp; exact hf hp
    · omega
theorem Aside.cell (h : Aside F w w') {p : Addr} (hl : p.block < w.heap.size) (hp : ¬ F p.block) : w'.cell? p = w.cell? p := World.cell?_of_block (w := w) (h.block p.block hl hp)
theorem Aside.frozen (h : Aside F w w') {p : Addr} (hl : p.block < w.heap.size) (hp : ¬ F p.block) : w'.frozen? p = w.frozen? p := World.frozen?_of_block (w := w) (h.block p.block hl hp)
end
end Go.Proofs.Ytpgilfglfcnihaa

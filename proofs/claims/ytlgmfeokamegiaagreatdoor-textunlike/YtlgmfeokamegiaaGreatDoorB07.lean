/- WColR, WBytesR, K7Eight, WValR, WSchR: put together. -/
import Derived.Test.YtlgmfeokamegiaaGreatDoorB06
import Derived.Test.YtlgmfeokamegiaaGreatDoorB01
import Derived.Test.YtlgmfeokamegiaaGreatDoorB02
import Derived.Test.YtlgmfeokamegiaaGreatDoorB03
import Derived.Test.YtlgmfeokamegiaaGreatDoorB04

/- The document's column. -/
namespace Go.Proofs.YtlgmfeokamegiaaGreatDoor
open Go.RowKit

theorem any_no {l : List Col} {n : ByteArray} (h : ∀ m (hm : m < l.length), ¬ l[m].name = n) : l.any (fun x => decide (x.name = n)) = false := by
  rw [List.any_eq_false]
  intro x hx
  obtain ⟨m, hm, rfl⟩ := List.getElem_of_mem hx
  simpa using h m hm
theorem any_yes {l : List Col} {n : ByteArray} (m : Nat) (hm : m < l.length) (h : l[m].name = n) : l.any (fun x => decide (x.name = n)) = true := by
  rw [List.any_eq_true]
  exact ⟨l[m], List.getElem_mem hm, by simpa using h⟩

theorem v0_lies (w : World) (p : Option Addr) (c : Nat) : VLies w (cells5 0 0 0 ⟨#[]⟩ p 0 c) V0 :=
  VLies.mk (xs := []) (fun _ => #[]) (by simp) (by simp) (fun hc => absurd rfl hc) (fun j hj => by simp at hj)

end Go.Proofs.YtlgmfeokamegiaaGreatDoor

/- The document's flag, typeBytes, ValueBytes. -/
namespace Go.Proofs.YtlgmfeokamegiaaGreatDoor
open Go.RowKit

/-- what bytes of one's own a call answers -/
def FreshB (w : World) (l : List UInt8) (e : Ending) (w' : World) : Prop := ∃ q cap, e = .returned (.slice q l.length cap) ∧ Has w' w.heap.size (.slice q l.length cap) l ∧ Below w.heap.size w w'

end Go.Proofs.YtlgmfeokamegiaaGreatDoor

/- Plain: eight bytes, one by one. -/
namespace Go.Proofs.YtlgmfeokamegiaaGreatDoor

/-- while eight bytes are put -/
def Eight (m : Nat) (xs : List UInt8) (n : Nat) : Prop := xs.length ≤ 8 ∧ n < 18446744073709551616 ∧ Sch.le 8 m = xs ++ Sch.le (8 - xs.length) n
theorem eight_next {m n : Nat} {xs : List UInt8} (h : Eight m xs n) (h8 : xs.length < 8) : Eight m (xs ++ [UInt8.ofNat (n % 256)]) (n / 256) := by
  obtain ⟨h1, h2, h3⟩ := h
  refine ⟨by rw [List.length_append, List.length_singleton]; omega, by omega, ?_⟩
  rw [h3, List.append_assoc, List.length_append, List.length_singleton, show 8 - xs.length = (8 - (xs.length + 1)) + 1 by omega, Sch.le]
  rfl

end Go.Proofs.YtlgmfeokamegiaaGreatDoor

/- The document's ValueBytes. -/
namespace Go.Proofs.YtlgmfeokamegiaaGreatDoor
open Go.RowKit

end Go.Proofs.YtlgmfeokamegiaaGreatDoor

/- The document's bytesOf, Check, Encode. -/
namespace Go.Proofs.YtlgmfeokamegiaaGreatDoor
open Go.RowKit

attribute [local go_sem] run_store_float

/-- while bytes are put behind a slice: the blocks from a to z, which are not its own, stay as they were in w2 -/
structure Apart (a z : Nat) (w2 W : World) (v : Value) : Prop where
  own : ∀ k, v.ownBlock = some k → k < a ∨ z ≤ k
  keep : ∀ k, a ≤ k → k < z → W.heap[k]? = w2.heap[k]?
  size : z ≤ W.heap.size
theorem Apart.step {a z : Nat} {w2 W W' : World} {v v' : Value} (h : Apart a z w2 W v) (ha : Aside (fun k => v.ownBlock = some k) W W') (hb : ∀ k, v'.ownBlock = some k → v.ownBlock = some k ∨ W.heap.size ≤ k) : Apart a z w2 W' v' := by
  have hs := h.size
  refine ⟨fun k hk => ?_, fun k h1 h2 => ?_, Nat.le_trans h.size ha.size⟩
  · rcases hb k hk with h1 | h1
    · exact h.own k h1
    · exact .inr (by omega)
  · rw [ha.block k (by omega) (fun hc => by have := h.own k hc; omega)]
    exact h.keep k h1 h2
theorem Apart.on {a z : Nat} {w2 W W' : World} {v : Value} (h : Apart a z w2 W v) (hb : Below W.heap.size W W') : Apart a z w2 W' v := by
  have hs := h.size
  exact ⟨h.own, fun k h1 h2 => by rw [hb.block k (by omega)]; exact h.keep k h1 h2, Nat.le_trans h.size hb.size⟩
theorem Apart.cell {a z : Nat} {w2 W : World} {v : Value} (h : Apart a z w2 W v) {g o : Nat} {x : Value} (h1 : a ≤ g) (h2 : g < z) (hc : w2.cell? ⟨g, o, none⟩ = some x) : W.cell? ⟨g, o, none⟩ = some x := by
  rw [World.cell?_of_block (w := w2) (h.keep g h1 h2)]; exact hc
theorem Apart.at {a z : Nat} {w2 W : World} {v : Value} (h : Apart a z w2 W v) {p : Option Addr} {l : List UInt8} (hp : ∀ b o, p = some ⟨b, o, none⟩ → a ≤ b ∧ b < z) (hl : At w2 p l) : At W p l := by
  rcases hl with rfl | ⟨b, o, hpe, h2, h3⟩
  · exact .inl rfl
  · obtain ⟨h4, h5⟩ := hp b o hpe
    have hs := h.size
    exact .inr ⟨b, o, hpe, by omega, fun j hj => by rw [World.cell?_of_block (w := w2) (h.keep b h4 h5)]; exact h3 j hj⟩
/-- where a fresh slice's bytes lie -/
theorem Has.place {w : World} {B : Nat} {q : Option Addr} {n cap : Nat} {l : List UInt8} (h : Has w B (.slice q n cap) l) : ∀ b o, q = some ⟨b, o, none⟩ → B ≤ b ∧ b < w.heap.size := by
  intro b o hq
  subst hq
  exact h.lt b rfl
theorem Has.here {w : World} {B : Nat} {q : Option Addr} {cap : Nat} {l : List UInt8} (h : Has w B (.slice q l.length cap) l) : At w q l := by
  obtain ⟨p, c, he, hat, -⟩ := h.at
  injection he with he
  rw [he]; exact hat

theorem one_at (w : World) (z : Int) (c : UInt8) (hz : z = (c.toNat : Int)) : At (w.alloc (.cells #[.int .u8 z] 5)) (some ⟨w.heap.size, 0, none⟩) [c] :=
  (has_lit (B := 0) (w := w) [c] (by rw [hz]; rfl) (Nat.zero_le _) (by simp)).here

theorem colsErr_at (s : List Col) (j : Nat) (h : j < s.length) : Sch.colsErr (s.take j) (s.drop j) = if Sch.colErr (s.take j) s[j] = 0 then Sch.colsErr (s.take (j + 1)) (s.drop (j + 1)) else Sch.colErr (s.take j) s[j] := by
  rw [List.drop_eq_getElem_cons h, Sch.colsErr, List.take_succ_eq_append_getElem h]

/-- what Encode answers: bytes of one's own, or nothing and the error -/
def EncV (w : World) (s : List Col) (e : Ending) (w' : World) : Prop :=
  (Sch.err s = 0 ∧ ∃ q cap, e = .returned (.tuple #[.slice q (Sch.bytes s).length cap, .int .i64 0]) ∧ Has w' w.heap.size (.slice q (Sch.bytes s).length cap) (Sch.bytes s) ∧ Below w.heap.size w w') ∨
  (Sch.err s ≠ 0 ∧ e = .returned (.tuple #[.slice none 0 0, .int .i64 (Sch.err s : Nat)]) ∧ Below w.heap.size w w')

end Go.Proofs.YtlgmfeokamegiaaGreatDoor

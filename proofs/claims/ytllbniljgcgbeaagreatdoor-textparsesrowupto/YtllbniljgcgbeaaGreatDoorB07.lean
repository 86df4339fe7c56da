import Derived.Test.YtllbniljgcgbeaaGreatDoorB06
import Derived.Test.YtllbniljgcgbeaaGreatDoorB01
import Derived.Test.YtllbniljgcgbeaaGreatDoorB02
import Derived.Test.YtllbniljgcgbeaaGreatDoorB03
import Derived.Test.YtllbniljgcgbeaaGreatDoorB04
namespace Go.Proofs.YtllbniljgcgbeaaGreatDoor
open Go.RowKit
end Go.Proofs.YtllbniljgcgbeaaGreatDoor
namespace Go.Proofs.YtllbniljgcgbeaaGreatDoor
open Go.RowKit
end Go.Proofs.YtllbniljgcgbeaaGreatDoor
namespace Go.Proofs.YtllbniljgcgbeaaGreatDoor
def Eight (m:Nat) (xs:List UInt8) (n:Nat):Prop:=xs.length ≤ 8 ∧ n < 18446744073709551616 ∧ Sch.le 8 m = xs ++ Sch.le (8 - xs.length) n
theorem eight_next {m n:Nat} {xs:List UInt8} (h:Eight m xs n) (h8:xs.length < 8):Eight m (xs ++ [UInt8.ofNat (n % 256)]) (n / 256):=by
 obtain ⟨h1,h2,h3⟩:=h
 refine ⟨by rw [List.length_append,List.length_singleton];omega,by omega,?_⟩
 rw [h3,List.append_assoc,List.length_append,List.length_singleton,show 8 - xs.length = (8 - (xs.length + 1)) + 1 by omega,Sch.le]
 rfl
end Go.Proofs.YtllbniljgcgbeaaGreatDoor
namespace Go.Proofs.YtllbniljgcgbeaaGreatDoor
open Go.RowKit
end Go.Proofs.YtllbniljgcgbeaaGreatDoor
namespace Go.Proofs.YtllbniljgcgbeaaGreatDoor
open Go.RowKit
attribute [local go_sem] run_store_float
structure Apart (a z:Nat) (w2 W:World) (v:Value):Prop where
 own:∀ k,v.ownBlock = some k → k < a ∨ z ≤ k
 keep:∀ k,a ≤ k → k < z → W.heap[k]? = w2.heap[k]?
 size:z ≤ W.heap.size
theorem Apart.step {a z:Nat} {w2 W W':World} {v v':Value} (h:Apart a z w2 W v) (ha:Aside (fun k => v.ownBlock = some k) W W') (hb:∀ k,v'.ownBlock = some k → v.ownBlock = some k ∨ W.heap.size ≤ k):Apart a z w2 W' v':=by
 have hs:=h.size
 refine ⟨fun k hk => ?_,fun k h1 h2 => ?_,Nat.le_trans h.size ha.size⟩
 ·rcases hb k hk with h1 | h1
  ·exact h.own k h1
  ·exact .inr (by omega)
 ·rw [ha.block k (by omega) (fun hc => by have:=h.own k hc;omega)]
  exact h.keep k h1 h2
theorem Apart.on {a z:Nat} {w2 W W':World} {v:Value} (h:Apart a z w2 W v) (hb:Below W.heap.size W W'):Apart a z w2 W' v:=by
 have hs:=h.size
 exact ⟨h.own,fun k h1 h2 => by rw [hb.block k (by omega)];exact h.keep k h1 h2,Nat.le_trans h.size hb.size⟩
theorem Apart.cell {a z:Nat} {w2 W:World} {v:Value} (h:Apart a z w2 W v) {g o:Nat} {x:Value} (h1:a ≤ g) (h2:g < z) (hc:w2.cell? ⟨g,o,none⟩ = some x):W.cell? ⟨g,o,none⟩ = some x:=by
 rw [World.cell?_of_block (w:=w2) (h.keep g h1 h2)];exact hc
theorem Apart.at {a z:Nat} {w2 W:World} {v:Value} (h:Apart a z w2 W v) {p:Option Addr} {l:List UInt8} (hp:∀ b o,p = some ⟨b,o,none⟩ → a ≤ b ∧ b < z) (hl:At w2 p l):At W p l:=by
 rcases hl with rfl | ⟨b,o,hpe,h2,h3⟩
 ·exact .inl rfl
 ·obtain ⟨h4,h5⟩:=hp b o hpe
  have hs:=h.size
  exact .inr ⟨b,o,hpe,by omega,fun j hj => by rw [World.cell?_of_block (w:=w2) (h.keep b h4 h5)];exact h3 j hj⟩
theorem Has.place {w:World} {B:Nat} {q:Option Addr} {n cap:Nat} {l:List UInt8} (h:Has w B (.slice q n cap) l):∀ b o,q = some ⟨b,o,none⟩ → B ≤ b ∧ b < w.heap.size:=by
 intro b o hq
 subst hq
 exact h.lt b rfl
theorem Has.here {w:World} {B:Nat} {q:Option Addr} {cap:Nat} {l:List UInt8} (h:Has w B (.slice q l.length cap) l):At w q l:=by
 obtain ⟨p,c,he,hat,-⟩:=h.at
 injection he with he
 rw [he];exact hat
end Go.Proofs.YtllbniljgcgbeaaGreatDoor

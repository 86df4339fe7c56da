import Derived.Test.YtfcblnknoljkhaaGreatDoorB05
import Derived.Test.YtfcblnknoljkhaaGreatDoorB06
import Derived.Test.YtfcblnknoljkhaaGreatDoorB04
import Derived.Test.YtfcblnknoljkhaaGreatDoorB01
namespace Go.Proofs.YtfcblnknoljkhaaGreatDoor
open Go.RowKit
end Go.Proofs.YtfcblnknoljkhaaGreatDoor
namespace Go.Proofs.YtfcblnknoljkhaaGreatDoor
open Go.RowKit
attribute [local go_sem] run_store_float
theorem blk_first (w:World) (o o2:Obj):((w.alloc o).alloc o2).heap[w.heap.size]? = some o:=by rw [blk_old _ _ (by simp)];exact blk_new w o
end Go.Proofs.YtfcblnknoljkhaaGreatDoor
namespace Go.Proofs.YtfcblnknoljkhaaGreatDoor
open Go.RowKit
attribute [local go_sem] run_store_float
def glue (ys:List V) (n:Nat):Except Nat (List V × Nat) → Except Nat (List V × Nat)
 | .error e => .error e
 | .ok (vs,k) => .ok (ys ++ vs,n + k)
theorem glue_glue (ys:List V) (n:Nat) (v:V) (j:Nat) (r:Except Nat (List V × Nat)):glue ys n (glue [v] j r) = glue (ys ++ [v]) (n + j) r:=by
 cases r with
 | error e => rfl
 | ok p => simp [glue,Nat.add_assoc]
def stepR (f:List UInt8 → Except Nat (V × Nat)) (m:Nat) (l:List UInt8):Except Nat (V × Nat) → Except Nat (List V × Nat)
 | .error e => .error e
 | .ok (v,j) => glue [v] j (Sch.rdN f m (l.drop j))
theorem rdN_succ (f:List UInt8 → Except Nat (V × Nat)) (m:Nat) (l:List UInt8):Sch.rdN f (m + 1) l = stepR f m l (f l):=by
 rw [Sch.rdN]
 cases f l with
 | error e => rfl
 | ok p =>
  obtain ⟨v,j⟩:=p
  rw [stepR]
  dsimp only
  cases Sch.rdN f m (l.drop j) with
  | error e => rfl
  | ok q => rfl
theorem blk_second (w:World) (o o2:Obj):((w.alloc o).alloc o2).heap[w.heap.size + 1]? = some o2:=by
 have:=blk_new (w.alloc o) o2
 simpa using this
structure MakingV (w:World) (C0:Array Value) (k:Int) (ys:List V) (v:Value) (wr:World):Prop where
 built:∃ us Fs,Built wr (w.heap.size + 3) v ys.length us Fs ys
 b0:wr.heap[w.heap.size]? = some (.cells C0 64 (0,0))
 b1:wr.heap[w.heap.size + 1]? = some (.cells (cells5 0 0 0 ⟨#[]⟩ none 0 0) 68 (0,0))
 b2:wr.heap[w.heap.size + 2]? = some (.cells #[.int .i64 k,.int .i64 0,.float .f64 0,.string ⟨#[]⟩,v] 68 (0,0))
 below:Below w.heap.size w wr
 size:w.heap.size + 3 ≤ wr.heap.size
section
variable {w wr:World} {C0:Array Value} {k:Int} {ys:List V} {v:Value}
theorem MakingV.slice (h:MakingV w C0 k ys v wr):∃ p c,v = .slice p ys.length c:=by
 obtain ⟨us,Fs,hb⟩:=h.built
 rcases hb.row.2 with ⟨h1,h2⟩ | ⟨g,cap,cur,h1,_⟩
 ·exact ⟨none,0,by rw [h1,h2]⟩
 ·exact ⟨_,cap,h1⟩
theorem MakingV.next {w2 w3 w4:World} {u:Array Value} {F:Nat → Prop} {g cap:Nat} {us:Nat → Array Value} {Fs:Nat → Nat → Prop} {y:V} (h:MakingV w C0 k ys v wr) (hbt:Built wr (w.heap.size + 3) v ys.length us Fs ys) (hb:Below wr.heap.size wr w2) (hx:VOwn w2 F u y)
  (hF:∀ k,F k → wr.heap.size ≤ k ∧ k < w2.heap.size) (hb3:Below w2.heap.size w2 w3)
  (hr:w4.ownsRow (w.heap.size + 3) 68 5 (.slice (some ⟨g,0,none⟩) (ys.length + 1) cap) (ys.length + 1) (flat us ys.length ++ u.toList)) (hg:w3.grownBy w4 v.ownBlock) (hn:v.ownBlock = some g ∨ g = w3.heap.size) :
  (∀ n,n < 3 → w4.heap[w.heap.size + n]? = wr.heap[w.heap.size + n]?) ∧ MakingV w C0 k (ys ++ [y]) (.slice (some ⟨g,0,none⟩) (ys.length + 1) cap) (w4.setCell ⟨w.heap.size + 2,4,none⟩ (.slice (some ⟨g,0,none⟩) (ys.length + 1) cap)):=by
 have hs:=h.size
 have hs2:=hb.size
 have hs3:=hb3.size
 have hst:=hbt.step hb hx hF hb3 hs hr hg hn
 have hold:∀ n,n < 3 → w4.heap[w.heap.size + n]? = wr.heap[w.heap.size + n]?:=fun n hn => by
  rw [hg.block _ (by omega) (fun hc => by have:=(hbt.lt _ hc.symm).1;omega),hb3.block _ (by omega),hb.block _ (by omega)]
 have hb4:Below w.heap.size w w4:=((h.below.trans (hb.mono (by omega))).trans (hb3.mono (by omega))).grown hg (by omega) (fun k hk => by have:=(hbt.lt k hk).1;omega)
 refine ⟨hold,⟨⟨(fun n => if n = ys.length then u else us n),(fun n => if n = ys.length then F else Fs n),?_⟩,?_,?_,?_,?_,?_⟩⟩
 ·rw [List.length_append,List.length_singleton]
  exact hst.set ⟨w.heap.size + 2,4,none⟩ _ (by show w.heap.size + 2 < _;omega)
 ·have:=hold 0 (by omega)
  rw [Nat.add_zero] at this
  exact blk_set_far (this.trans h.b0) _ _ (by show w.heap.size ≠ w.heap.size + 2;omega)
 ·exact blk_set_far ((hold 1 (by omega)).trans h.b1) _ _ (by show w.heap.size + 1 ≠ w.heap.size + 2;omega)
 ·rw [blk_set ((hold 2 (by omega)).trans h.b2)]
  rfl
 ·exact hb4.setCell (by show w.heap.size ≤ w.heap.size + 2;omega) _
 ·have:=hg.size
  simp [World.setCell]
  omega
end
end Go.Proofs.YtfcblnknoljkhaaGreatDoor

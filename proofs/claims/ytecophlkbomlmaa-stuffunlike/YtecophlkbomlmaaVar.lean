/- A variable that a closure captures, which holds a slice of bytes of the call's own: appending onto it. -/
import Derived.Test.YtecophlkbomlmaaPush
namespace Go.Proofs.Ytecophlkbomlmaa
open Go.RowKit

theorem one_cell {w : World} {b : Nat} {v : Value} {T : TypeId} (h : w.heap[b]? = some (.cells #[v] T (0, 0))) : w.cell? ⟨b, 0, none⟩ = some v := by
  simp [World.cell?, h]
theorem one_free {w : World} {b : Nat} {v : Value} {T : TypeId} (h : w.heap[b]? = some (.cells #[v] T (0, 0))) : w.frozen? ⟨b, 0, none⟩ = false := by
  simp [World.frozen?, h]
theorem one_set {w : World} {b : Nat} {v : Value} {T : TypeId} (h : w.heap[b]? = some (.cells #[v] T (0, 0))) (u : Value) : (w.setCell ⟨b, 0, none⟩ u).heap[b]? = some (.cells #[u] T (0, 0)) := by
  simp [World.setCell, Array.getElem?_modify, h]
theorem one_lt {w : World} {b : Nat} {o : Obj} (h : w.heap[b]? = some o) : b < w.heap.size := (Array.getElem?_eq_some_iff.1 h).1

/-- block g is a variable that holds this slice of bytes, whose block is the call's own -/
structure Var (w : World) (B g s cap : Nat) (xs : List UInt8) : Prop where
  box : w.heap[g]? = some (.cells #[.slice (some ⟨s, 0, none⟩) xs.length cap] 22 (0, 0))
  mine : Mine w B s cap xs

theorem mine_block {w : World} {B s cap : Nat} {xs : List UInt8} (h : Mine w B s cap xs) : ∃ cur, w.heap[s]? = some (.cells cur 5 (0, 0)) := by
  rcases h.2 with ⟨h1, _⟩ | ⟨g, c, cur, h1, _, h2, _⟩
  · cases h1
  · cases h1; exact ⟨cur, h2⟩
theorem mine_ne {w : World} {B s cap g : Nat} {xs : List UInt8} {C : Array Value} {T : TypeId} (h : Mine w B s cap xs) (hg : w.heap[g]? = some (.cells C T (0, 0))) (hT : T ≠ 5) : s ≠ g := by
  rintro rfl
  obtain ⟨cur, hc⟩ := mine_block h
  rw [hc] at hg
  injection hg with h1
  injection h1 with h2 h3
  exact hT h3.symm
theorem mine_grown {w W : World} {B s cap b : Nat} {xs : List UInt8} (h : Mine w B s cap xs) (hg : w.grownBy W (some b)) (hne : s ≠ b) : Mine W B s cap xs :=
  World.ownsRow.kept h hg (.inr (fun hc => hne (Option.some.inj hc)))
theorem grown_set (W : World) (b : Nat) (v : Value) : W.grownBy (W.setCell ⟨b, 0, none⟩ v) (some b) :=
  ⟨rfl, rfl, rfl, by simp [World.setCell], fun i _ hne => Below.heap_setCell _ _ _ _ (fun hc => hne (by rw [hc]))⟩
theorem grown_trans {a b c : World} {row : Option Nat} (h : a.grownBy b row) (k : b.grownBy c row) : a.grownBy c row :=
  ⟨k.os.trans h.os, k.tape.trans h.tape, k.output.trans h.output, Nat.le_trans h.size k.size, fun i hi hne => (k.block i (Nat.lt_of_lt_of_le hi h.size) hne).trans (h.block i hi hne)⟩
theorem grown_refl (w : World) (row : Option Nat) : w.grownBy w row := ⟨rfl, rfl, rfl, Nat.le_refl _, fun _ _ _ => rfl⟩

theorem Var.ne {w : World} {B g s cap : Nat} {xs : List UInt8} (h : Var w B g s cap xs) : s ≠ g := mine_ne h.mine h.box (by decide)
/-- behind an append: the variable stands as it did -/
theorem Var.still {w W : World} {B g s cap : Nat} {xs : List UInt8} (h : Var w B g s cap xs) (hg : w.grownBy W (some s)) : W.heap[g]? = some (.cells #[.slice (some ⟨s, 0, none⟩) xs.length cap] 22 (0, 0)) :=
  (hg.block g (one_lt h.box) (fun hc => h.ne (Option.some.inj hc).symm)).trans h.box
/-- behind the store -/
theorem var_store {W : World} {B g s s' cap cap' n : Nat} {ys : List UInt8} (hb : W.heap[g]? = some (.cells #[.slice (some ⟨s, 0, none⟩) n cap] 22 (0, 0))) (hm : Mine W B s' cap' ys) :
    Var (W.setCell ⟨g, 0, none⟩ (.slice (some ⟨s', 0, none⟩) ys.length cap')) B g s' cap' ys :=
  ⟨one_set hb _, mine_grown hm (grown_set W g _) (mine_ne hm hb (by decide))⟩

theorem side_any (B s cap : Nat) (xs l : List UInt8) (p : Option Addr) (c : Nat) (w : World) (hown : Mine w B s cap xs) (h : At w p l) (hlen : xs.length + l.length ≤ 200000000000000) (hB : B ≤ w.heap.size) :
    ∃ (s' cap' : Nat) (W : World), AppRun Try.prog 22 22 22 (.slice (some ⟨s, 0, none⟩) xs.length cap) (.slice p l.length c) w (.slice (some ⟨s', 0, none⟩) (xs ++ l).length cap') W ∧ Mine W B s' cap' (xs ++ l) ∧ w.grownBy W (some s) := by
  obtain ⟨i, hi, hz, hsz, hby⟩ := info_parts info8
  cases p with
  | none =>
    have h0 : l = [] := by
      rcases h with rfl | ⟨b, o, hp, _, _⟩
      · rfl
      · cases hp
    subst h0
    have hr := run_append_room_src (P := Try.prog) w 22 22 22 5 i Try.underlying22 hi s 0 xs.length cap (.slice none 0 c) 0 [] (by rw [hsz]; exact src_bytes c h) (by have := hown.base.2.2; omega) (fun j hj => by simp at hj) (fun j hj => by simp at hj)
    refine ⟨s, cap, w, ⟨?_⟩, by rw [List.append_nil]; exact hown, grown_refl _ _⟩
    rw [List.append_nil]
    exact hr
  | some a =>
    have hcells : ∀ j u, (cellsOf l)[j]? = some u → w.cell? (a.add j) = some u := fun j u hj => by
      have hj2 : j < l.length := by
        have := (List.getElem?_eq_some_iff.1 hj).1
        simpa [cellsOf] using this
      rcases h with rfl | ⟨b, o, hp, _, hc⟩
      · simp at hj2
      · cases hp
        rw [cellsOf_get l j hj2] at hj
        cases hj
        rw [Lib.add_plain]
        exact hc j hj2
    obtain ⟨v', W, hr, hown', hgr, hnil⟩ := run_append_own_wide (P := Try.prog) w B 22 22 5 i (.int .u8 0) 1 1 Try.underlying22 hi hz hsz hby rfl (by decide) _ xs.length (cellsOf xs) hown a l.length c (cellsOf l) (by rw [cellsOf_length, Nat.mul_one]) hcells
      (fun u hu => by obtain ⟨_, _, rfl⟩ := List.mem_map.1 hu; rfl) (by unfold maxLen; omega) (by omega) hB
    rw [← cellsOf_append, ← List.length_append] at hown'
    have hform : ∃ g' cap', v' = .slice (some ⟨g', 0, none⟩) (xs ++ l).length cap' := by
      rcases hown'.2 with ⟨h1, _⟩ | ⟨g', cap', _, h1, _⟩
      · have := (hnil.1 h1).1
        cases this
      · exact ⟨g', cap', h1⟩
    obtain ⟨g', cap', rfl⟩ := hform
    exact ⟨g', cap', W, ⟨hr⟩, hown', hgr⟩

/-- append of one byte, in the walk -/
theorem wp_push1 {B s cap : Nat} {xs : List UInt8} {w : World} (hown : Mine w B s cap xs) (c : UInt8) (hlen : xs.length + 1 ≤ 200000000000000) (hB : B ≤ w.heap.size)
    {z : Int} {ops : Array Oper} {rest : List Oper} {o : Oper} {a : Act} {Q : Exit → Act → World → Prop} {y x : Operand}
    (hz : z = (c.toNat : Int)) (ht : o.type = 22) (hg : o.guard = none) (hop : o.op = Op.call { callee := Callee.builtin Builtin.append, args := #[y, x], argTypes := #[22, 22] })
    (hs : a.eval y = .slice (some ⟨s, 0, none⟩) xs.length cap) {ad : Nat} (hx : a.eval x = .slice (some ⟨ad, 0, none⟩) 1 1) (had : ad = w.heap.size)
    (hK : ∀ ys s' cap' W, Hid (ys = xs ++ [c]) → Mine W B s' cap' ys → w.grownBy W (some s) → wpList Try.prog ops Q rest (a.put o.dst (.slice (some ⟨s', 0, none⟩) ys.length cap')) W) :
    wpList Try.prog ops Q (o :: rest) a (w.alloc (.cells #[.int .u8 z] 5)) := by
  subst had
  have hat : At (w.alloc (.cells #[.int .u8 z] 5)) (some ⟨w.heap.size, 0, none⟩) [c] := by
    refine .inr ⟨_, _, rfl, by simp, fun j hj => ?_⟩
    have hj0 : j = 0 := by simp at hj; omega
    subst hj0
    rw [World.cell?_alloc_new, hz]
    rfl
  have hg0 := World.grownBy_alloc w (.cells #[.int .u8 z] 5) (some s)
  obtain ⟨s', cap', W, hr, hm, hgr⟩ := side_any B s cap xs [c] (some ⟨w.heap.size, 0, none⟩) 1 _ (World.ownsRow.alloc hown _) hat (by simpa using hlen) (Nat.le_trans hB hg0.size)
  have hr' : AppRun Try.prog 22 22 o.type (.slice (some ⟨s, 0, none⟩) xs.length cap) (.slice (some ⟨w.heap.size, 0, none⟩) 1 1) (w.alloc (.cells #[.int .u8 z] 5)) (.slice (some ⟨s', 0, none⟩) (xs ++ [c]).length cap') W := by rw [ht]; exact hr
  exact wpList_append_ran hr' hg hop hs hx (hK _ s' cap' W (Lib.hid rfl) hm (grown_trans hg0 hgr))

/-- append of bytes, in the walk -/
theorem wp_onto1 {B s cap : Nat} {xs l : List UInt8} {p : Option Addr} {k : Nat} {w : World} (hown : Mine w B s cap xs) (h : At w p l) (hlen : xs.length + l.length ≤ 200000000000000) (hB : B ≤ w.heap.size)
    {ops : Array Oper} {rest : List Oper} {o : Oper} {a : Act} {Q : Exit → Act → World → Prop} {y x : Operand}
    (ht : o.type = 22) (hg : o.guard = none) (hop : o.op = Op.call { callee := Callee.builtin Builtin.append, args := #[y, x], argTypes := #[22, 22] })
    (hs : a.eval y = .slice (some ⟨s, 0, none⟩) xs.length cap) (hx : a.eval x = .slice p l.length k)
    (hK : ∀ ys s' cap' W, Hid (ys = xs ++ l) → Mine W B s' cap' ys → w.grownBy W (some s) → wpList Try.prog ops Q rest (a.put o.dst (.slice (some ⟨s', 0, none⟩) ys.length cap')) W) :
    wpList Try.prog ops Q (o :: rest) a w := by
  obtain ⟨s', cap', W, hr, hm, hgr⟩ := side_any B s cap xs l p k w hown h hlen hB
  have hr' : AppRun Try.prog 22 22 o.type (.slice (some ⟨s, 0, none⟩) xs.length cap) (.slice p l.length k) w (.slice (some ⟨s', 0, none⟩) (xs ++ l).length cap') W := by rw [ht]; exact hr
  exact wpList_append_ran hr' hg hop hs hx (hK _ s' cap' W (Lib.hid rfl) hm hgr)
end Go.Proofs.Ytecophlkbomlmaa

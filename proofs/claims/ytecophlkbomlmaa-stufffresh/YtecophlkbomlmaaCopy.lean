/- append([]byte{}, b...): a copy of its own. -/
import Derived.Test.YtecophlkbomlmaaBytes
import Derived.Deep.AppendSrc
import Derived.Lib.ItoaMem
import Derived.Deep.DeepAppendWide
namespace Go.Proofs.Ytecophlkbomlmaa
open Go.RowKit

/-- a list's bytes, as cells -/
def cellsOf (l : List UInt8) : List Value := l.map fun b => Value.int .u8 (b.toNat : Int)

theorem cellsOf_get (l : List UInt8) (j : Nat) (h : j < l.length) : (cellsOf l)[j]? = some (.int .u8 (l[j].toNat : Int)) := by
  simp [cellsOf, h]

theorem src_bytes {w : World} {p : Option Addr} {l : List UInt8} (c : Nat) (h : At w p l) : Src Try.prog 1 22 (.slice p l.length c) l.length (cellsOf l) w := by
  have hone : ∀ u ∈ cellsOf l, u.oneCell' = true := fun u hu => by
    obtain ⟨_, _, rfl⟩ := List.mem_map.1 hu
    rfl
  cases p with
  | none =>
    rcases h with rfl | ⟨b, o, hp, _, _⟩
    · exact Src.ofNil w Try.underlying22 c
    · cases hp
  | some a =>
    refine Src.ofSlice w Try.underlying22 a l.length c (cellsOf l) (by simp [cellsOf]) (fun j u hj => ?_) hone
    rcases h with rfl | ⟨b, o, hp, _, hc⟩
    · simp [cellsOf] at hj
    · cases hp
      have hj2 : j < l.length := by
        have := (List.getElem?_eq_some_iff.1 hj).1
        simpa [cellsOf] using this
      rw [cellsOf_get l j hj2] at hj
      cases hj
      have := hc j hj2
      rw [Lib.add_plain]
      exact this

theorem info8 : (Try.prog.info? 5).map (fun i => (i.zero, i.size, i.bytes)) = some (some (.int .u8 0), 1, 1) := by kernel_rfl

theorem new_cells (w : World) (l : List UInt8) (zs : Array Value) (T : TypeId) : Cells (w.alloc (.cells ((cellsOf l).toArray ++ zs) T)) w.heap.size 0 l := fun j hj => by
  rw [Nat.zero_add, World.cell?_alloc_new]
  have h1 : j < (cellsOf l).toArray.size := by simpa [cellsOf] using hj
  rw [Array.getElem?_append_left h1]
  have := cellsOf_get l j hj
  simpa using this

/-- what append([]byte{}, b...) makes: a slice of the call's own that holds the same bytes -/
theorem copy_run (p : Option Addr) (c : Nat) (l : List UInt8) (w : World) (hl : l.length ≤ 200000000000000) (h : At w p l) :
    ∃ (q : Addr) (d : Nat) (W : World), (Builtin.append_ #[22, 22] 22 #[.slice (some ⟨w.heap.size, 0, none⟩) 0 0, .slice p l.length c]).run Try.prog (w.alloc (.cells #[] 5)) = .ok (.slice (some q) l.length d) W ∧ At W (some q) l ∧ w.heap.size ≤ q.block ∧ l.length ≤ d ∧ Below w.heap.size w W := by
  obtain ⟨i, hi, hz, hsz, hby⟩ := info_parts info8
  have hb : Below w.heap.size w (w.alloc (.cells #[] 5)) := (Below.refl _ _).alloc (Nat.le_refl _) _
  have hs := src_bytes c (h.on hb)
  by_cases h0 : l = []
  · subst h0
    have hr := run_append_room_src (w.alloc (.cells #[] 5)) 22 22 22 5 i Try.underlying22 hi w.heap.size 0 0 0 (.slice p 0 c) 0 [] (by rw [hsz]; exact hs) (by omega) (fun j hj => by simp at hj) (fun j hj => by simp at hj)
    exact ⟨⟨w.heap.size, 0, none⟩, 0, _, hr, .inl rfl, Nat.le_refl _, by simp, hb⟩
  · have hpos : 0 < l.length := List.length_pos_iff.2 h0
    have hr := run_append_grow_src (w.alloc (.cells #[] 5)) 22 22 22 5 i (.int .u8 0) Try.underlying22 hi hz (some ⟨w.heap.size, 0, none⟩) 0 0 []
      (by rw [hsz]; exact run_firstCells_some _ 1 0 ⟨w.heap.size, 0, none⟩ 0 0 [] rfl (fun j u hj => by simp at hj)) (.slice p l.length c) l.length (cellsOf l) (by rw [hsz]; exact hs) (by omega) (by omega)
      (by rw [hby]; exact growslice_fits_wide (by omega) (by omega))
    rw [Nat.zero_add, List.nil_append] at hr
    refine ⟨_, _, _, hr, .inr ⟨_, _, rfl, ?_, ?_⟩, ?_, grownCap_ge _ _ _ _, ?_⟩
    · simp
    · have := new_cells (w.alloc (.cells #[] 5)).drew l (Builtin.zeroCells (Value.int .u8 0).cells (grownCap (w.alloc (.cells #[] 5)) l.length 0 5 - l.length)) 5
      exact this
    · simp
    · exact (hb.drew).alloc (by simp) _

/-- a block of the call's own whose first bytes are these -/
def Own (w : World) (b : Nat) (l : List UInt8) : Prop := ∃ zs, w.heap[b]? = some (.cells ((cellsOf l).toArray ++ zs) 5)

theorem Own.lt {w : World} {b : Nat} {l : List UInt8} (h : Own w b l) : b < w.heap.size := by
  obtain ⟨zs, h⟩ := h
  exact (Array.getElem?_eq_some_iff.1 h).1
theorem Own.cells {w : World} {b : Nat} {l : List UInt8} (h : Own w b l) : Cells w b 0 l := fun j hj => by
  obtain ⟨zs, h⟩ := h
  rw [Nat.zero_add]
  have h1 : j < (cellsOf l).toArray.size := by simpa [cellsOf] using hj
  have h2 := cellsOf_get l j hj
  unfold World.cell?
  rw [h]
  show ((cellsOf l).toArray ++ zs)[j]? = _
  rw [Array.getElem?_append_left h1]
  simpa using h2
theorem Own.at {w : World} {b : Nat} {l : List UInt8} (h : Own w b l) : At w (some ⟨b, 0, none⟩) l := .inr ⟨b, 0, rfl, h.lt, h.cells⟩
theorem Own.thawed {w : World} {b : Nat} {l : List UInt8} (h : Own w b l) (j : Nat) : w.frozen? ⟨b, j, none⟩ = false := by
  obtain ⟨zs, h⟩ := h
  simp [World.frozen?, h]
theorem Own.set {w : World} {b : Nat} {l : List UInt8} (h : Own w b l) (i : Nat) (v : UInt8) (hi : i < l.length) : Own (w.setCell ⟨b, i, none⟩ (.int .u8 (v.toNat : Int))) b (l.set i v) := by
  obtain ⟨zs, h⟩ := h
  refine ⟨zs, ?_⟩
  have h1 : i < (cellsOf l).toArray.size := by simpa [cellsOf] using hi
  have e : (cellsOf (l.set i v)).toArray = (cellsOf l).toArray.set! i (.int .u8 (v.toNat : Int)) := by
    simp [cellsOf, List.map_set]
  rw [e]
  have hb := (Array.getElem?_eq_some_iff.1 h).1
  simp only [World.setCell, Array.getElem?_modify, h, if_true, Option.map_some]
  rw [if_neg (by simp), Array.set!_eq_setIfInBounds, Array.setIfInBounds_append_left h1]

theorem heap_new (w : World) (o : Obj) : (w.alloc o).heap[w.heap.size]? = some o := by
  show (w.heap.push o)[w.heap.size]? = _
  simp

/-- append([]byte{}, b...): the block that it leaves -/
theorem copy_own (p : Option Addr) (c : Nat) (l : List UInt8) (w : World) (hl : l.length ≤ 200000000000000) (h : At w p l) :
    ∃ (b d : Nat) (W : World), (Builtin.append_ #[22, 22] 22 #[.slice (some ⟨w.heap.size, 0, none⟩) 0 0, .slice p l.length c]).run Try.prog (w.alloc (.cells #[] 5)) = .ok (.slice (some ⟨b, 0, none⟩) l.length d) W ∧ Own W b l ∧ w.heap.size ≤ b ∧ l.length ≤ d ∧ Below w.heap.size w W := by
  obtain ⟨i, hi, hz, hsz, hby⟩ := info_parts info8
  have hb : Below w.heap.size w (w.alloc (.cells #[] 5)) := (Below.refl _ _).alloc (Nat.le_refl _) _
  have hs := src_bytes c (h.on hb)
  by_cases h0 : l = []
  · subst h0
    have hr := run_append_room_src (w.alloc (.cells #[] 5)) 22 22 22 5 i Try.underlying22 hi w.heap.size 0 0 0 (.slice p 0 c) 0 [] (by rw [hsz]; exact hs) (by omega) (fun j hj => by simp at hj) (fun j hj => by simp at hj)
    refine ⟨w.heap.size, 0, _, hr, ⟨#[], ?_⟩, Nat.le_refl _, by simp, hb⟩
    show (w.heap.push (.cells #[] 5))[w.heap.size]? = _
    simp [cellsOf]
  · have hpos : 0 < l.length := List.length_pos_iff.2 h0
    have hr := run_append_grow_src (w.alloc (.cells #[] 5)) 22 22 22 5 i (.int .u8 0) Try.underlying22 hi hz (some ⟨w.heap.size, 0, none⟩) 0 0 []
      (by rw [hsz]; exact run_firstCells_some _ 1 0 ⟨w.heap.size, 0, none⟩ 0 0 [] rfl (fun j u hj => by simp at hj)) (.slice p l.length c) l.length (cellsOf l) (by rw [hsz]; exact hs) (by omega) (by omega)
      (by rw [hby]; exact growslice_fits_wide (by omega) (by omega))
    rw [Nat.zero_add, List.nil_append] at hr
    refine ⟨_, _, _, hr, ⟨Builtin.zeroCells (Value.int .u8 0).cells (grownCap (w.alloc (.cells #[] 5)) l.length 0 5 - l.length), ?_⟩, ?_, grownCap_ge _ _ _ _, ?_⟩
    · exact heap_new (w.alloc (.cells #[] 5)).drew _
    · simp
    · exact (hb.drew).alloc (by simp) _

/-- an append whose run is known, for the walk to take -/
theorem wpList_append_run {P : Program} (w : World) {ops : Array Oper} {rest : List Oper} {o : Oper} {a : Act} {Q : Exit → Act → World → Prop}
    (hg : o.guard = none) (s x : Operand) (t tx : TypeId) (hop : o.op = Op.call { callee := Callee.builtin Builtin.append, args := #[s, x], argTypes := #[t, tx] })
    (vs vx : Value) (hs : a.eval s = vs) (hx : a.eval x = vx) (v' : Value) (w' : World) (hrun : (Builtin.append_ #[t, tx] o.type #[vs, vx]).run P w = .ok v' w')
    (hK : wpList P ops Q rest (a.put o.dst v') w') : wpList P ops Q (o :: rest) a w := by
  refine wpList_plain hg fun K hK' => ?_
  unfold Oper.wp
  simp [execOp, hop, resolve, invoke, builtin, hs, hx, hrun, Result.andThen]
  exact hK' _ _ hK

/-- the run of an append, closed up: so that one run is soon told from another -/
structure AppRun (P : Program) (t tx ty : TypeId) (vs vx : Value) (w : World) (v' : Value) (w' : World) : Prop where
  run : (Builtin.append_ #[t, tx] ty #[vs, vx]).run P w = .ok v' w'

theorem wpList_append_ran {P : Program} {w : World} {ops : Array Oper} {rest : List Oper} {o : Oper} {a : Act} {Q : Exit → Act → World → Prop} {s x : Operand} {t tx : TypeId} {vs vx v' : Value} {w' : World}
    (h : AppRun P t tx o.type vs vx w v' w') (hg : o.guard = none) (hop : o.op = Op.call { callee := Callee.builtin Builtin.append, args := #[s, x], argTypes := #[t, tx] })
    (hs : a.eval s = vs) (hx : a.eval x = vx) (hK : wpList P ops Q rest (a.put o.dst v') w') : wpList P ops Q (o :: rest) a w :=
  wpList_append_run w hg s x t tx hop vs vx hs hx v' w' h.run hK
end Go.Proofs.Ytecophlkbomlmaa

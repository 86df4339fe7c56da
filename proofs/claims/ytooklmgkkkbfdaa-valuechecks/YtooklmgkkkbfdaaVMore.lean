/- append(s, v) of a value onto a slice of values of the call's own; blocks that are known whole. -/
import Derived.Test.YtooklmgkkkbfdaaVOwn
namespace Go.Proofs.Ytooklmgkkkbfdaa
open Go.RowKit

def zeroV : Value := .agg (cells5 0 0 0 ⟨#[]⟩ none 0 0)
theorem info25 : (Try.prog.info? 25).map (fun i => (i.zero, i.size, i.bytes)) = some (some zeroV, 5, 64) := by kernel_rfl

theorem one5 {w : World} {F : Nat → Prop} {u : Array Value} {x : V} (h : VOwn w F u x) : ∀ a ∈ u.toList, a.oneCell' = true := by
  have key : ∀ (k i : Int) (b : Nat) (t : ByteArray) (p : Option Addr) (n c : Nat), ∀ a ∈ (cells5 k i b t p n c).toList, a.oneCell' = true := by
    intro k i b t p n c a ha
    simp [cells5] at ha
    rcases ha with rfl | rfl | rfl | rfl | rfl <;> rfl
  obtain ⟨_, _, _, _, _, _, _, rfl⟩ := h.shape
  exact key _ _ _ _ _ _ _

theorem blk_cell {w : World} {b : Nat} {C : Array Value} {T : TypeId} {fr : Nat × Nat} (h : w.heap[b]? = some (.cells C T fr)) (m : Nat) : w.cell? ⟨b, m, none⟩ = C[m]? := by
  simp [World.cell?, h]
theorem blk_free {w : World} {b : Nat} {C : Array Value} {T : TypeId} (h : w.heap[b]? = some (.cells C T (0, 0))) (m : Nat) : w.frozen? ⟨b, m, none⟩ = false := by
  simp [World.frozen?, h]
theorem blk_lt {w : World} {b : Nat} {o : Obj} (h : w.heap[b]? = some o) : b < w.heap.size := (Array.getElem?_eq_some_iff.1 h).1
theorem blk_on {w w' : World} {B b : Nat} {o : Obj} (h : w.heap[b]? = some o) (hb : Below B w w') (hB : b < B) : w'.heap[b]? = some o := (hb.block b hB).trans h
theorem blk_new (w : World) (o : Obj) : (w.alloc o).heap[w.heap.size]? = some o := by
  show (w.heap.push o)[w.heap.size]? = _
  simp
theorem blk_old (w : World) (o : Obj) {k : Nat} (h : k < w.heap.size) : (w.alloc o).heap[k]? = w.heap[k]? := by
  show (w.heap.push o)[k]? = _
  rw [Array.getElem?_push, if_neg (by omega)]
theorem blk_set {w : World} {b : Nat} {C : Array Value} {T : TypeId} (h : w.heap[b]? = some (.cells C T (0, 0))) (m : Nat) (u : Value) : (w.setCell ⟨b, m, none⟩ u).heap[b]? = some (.cells (C.set! m u) T (0, 0)) := by
  simp [World.setCell, Array.getElem?_modify, h]
theorem blk_set_far {w : World} {b : Nat} {o : Obj} (h : w.heap[b]? = some o) (p : Addr) (u : Value) (hp : b ≠ p.block) : (w.setCell p u).heap[b]? = some o := (Below.heap_setCell _ _ _ _ hp).trans h
theorem blk_far {W W' : World} {b : Nat} {o : Obj} {row : Option Nat} (h : W.heap[b]? = some o) (hg : W.grownBy W' row) (hne : row ≠ some b) : W'.heap[b]? = some o :=
  (hg.block b (blk_lt h) (fun hc => hne hc.symm)).trans h

/-- the walk's set lacks a float's store -/
theorem run_store_float (P : Program) (w : World) (a : Addr) (m : Mode) (k : FloatKind) (x : Nat) : (store a (.float k x) m).run P w = stored P w a (.float k x) m := run_store P w a _ m rfl

section
variable {B : Nat} {v : Value} {n : Nat} {us : Nat → Array Value} {w : World} {u : Array Value} {ad H : Nat}
/-- in the walk -/
theorem wp_more (hown : w.ownsRow B 25 5 v n (flat us n)) (h5 : u.size = 5) (h1 : ∀ a ∈ u.toList, a.oneCell' = true) (hblk : w.heap[ad]? = some (.cells u 25 (0, 0))) (hn : (n + 1) * 64 ≤ 140737488355328) (hB : B ≤ w.heap.size) (hH : w.heap.size = H)
    {ops : Array Oper} {rest : List Oper} {o : Oper} {a : Act} {Q : Exit → Act → World → Prop} {y x : Operand}
    (hg : o.guard = none) (hop : o.op = Op.call { callee := Callee.builtin Builtin.append, args := #[y, x], argTypes := #[23, 23] })
    (hs : a.eval y = v) (hx : a.eval x = .slice (some ⟨ad, 0, none⟩) 1 1)
    (hK : ∀ g cap w', w'.ownsRow B 25 5 (.slice (some ⟨g, 0, none⟩) (n + 1) cap) (n + 1) (flat us n ++ u.toList) → w.grownBy w' v.ownBlock → (v.ownBlock = some g ∨ g = H) → wpList Try.prog ops Q rest (a.put o.dst (.slice (some ⟨g, 0, none⟩) (n + 1) cap)) w') :
    wpList Try.prog ops Q (o :: rest) a w := by
  obtain ⟨i, hi, hz, hsz, hby⟩ := info_parts info25
  exact wpList_append_lies w hg y x 23 hop B 25 i zeroV 5 64 Try.underlying23 hi hz hsz hby rfl (by decide) v n (flat us n) hs hown ⟨ad, 0, none⟩ 1 1 u.toList hx (by simp [h5])
    (World.news_of_block hblk) h1 (by decide) (by unfold maxLen; omega) hn hB H hH fun g cap w' h2 h3 h4 _ => hK g cap w' h2 h3 h4
/-- at a step of a region that draws -/
theorem step_more (hown : w.ownsRow B 25 5 v n (flat us n)) (h5 : u.size = 5) (h1 : ∀ a ∈ u.toList, a.oneCell' = true) (hblk : w.heap[ad]? = some (.cells u 25 (0, 0))) (hn : (n + 1) * 64 ≤ 140737488355328) (hB : B ≤ w.heap.size) (hH : w.heap.size = H)
    {ops : Array Oper} {o : Oper} {a : Act} {K : Act → World → Prop} {Q : Exit → Act → World → Prop} {E : Prop} (y x : Operand)
    (hg : o.guard = none) (hop : o.op = Op.call { callee := Callee.builtin Builtin.append, args := #[y, x], argTypes := #[23, 23] })
    (hs : a.eval y = v) (hx : a.eval x = .slice (some ⟨ad, 0, none⟩) 1 1)
    (hK : ∀ g cap w', w'.ownsRow B 25 5 (.slice (some ⟨g, 0, none⟩) (n + 1) cap) (n + 1) (flat us n ++ u.toList) → w.grownBy w' v.ownBlock → (v.ownBlock = some g ∨ g = H) → K (a.put o.dst (.slice (some ⟨g, 0, none⟩) (n + 1) cap)) w') :
    if Region.wanted o (yielded ops a.tmps) = true then Oper.wp Try.prog o a w K Q else E := by
  obtain ⟨i, hi, hz, hsz, hby⟩ := info_parts info25
  exact step_append_lies w hg y x 23 hop B 25 i zeroV 5 64 Try.underlying23 hi hz hsz hby rfl (by decide) v n (flat us n) hs hown ⟨ad, 0, none⟩ 1 1 u.toList hx (by simp [h5])
    (World.news_of_block hblk) h1 (by decide) (by unfold maxLen; omega) hn hB H hH fun g cap w' h2 h3 h4 _ => hK g cap w' h2 h3 h4
end

/-- a call of a Go function of one argument, at a step of a region that draws -/
theorem step_call1 {w : World} {ops : Array Oper} {o : Oper} {a : Act} {K : Act → World → Prop} {Q : Exit → Act → World → Prop} {E : Prop} {f : FuncId} {fn : Func} {code : Code} {u : Value} {R : Ending → World → Prop} (x : Operand) (t : TypeId)
    (hg : o.guard = none) (hop : o.op = Op.call { callee := .value (.func f), args := #[x], argTypes := #[t] }) (hx : a.eval x = u)
    (hf : Try.prog.funcs[f]? = some fn) (hname : (fn.name == "runtime.NumGoroutine") = false) (hb : fn.body = some code)
    (hc : Calls Try.prog f #[u] w R) (hR : ∀ e w', R e w' → ∃ v, e = .returned v ∧ K (a.put o.dst v) w') :
    if Region.wanted o (yielded ops a.tmps) = true then Oper.wp Try.prog o a w K Q else E := by
  have hw : Region.wanted o (yielded ops a.tmps) = true := by simp [Region.wanted, hg]
  rw [if_pos hw]
  have h1 : fn.name ≠ "runtime.NumGoroutine" := by simpa using hname
  unfold Oper.wp
  have he : (execOp a.eval o).run Try.prog w = .ok (.enter f #[u]) w := by
    have hev : a.eval (.func f) = .func (.func f) #[] #[] := rfl
    simp [execOp, hop, resolve, invoke, hx, hev, Deferred.ofValue, callFunc, hf, h1, hb]
  rw [he, Oper.upon_enter]
  refine hc.mono ?_
  intro e w' hr
  obtain ⟨v, rfl, hk⟩ := hR e w' hr
  exact hk
end Go.Proofs.Ytooklmgkkkbfdaa

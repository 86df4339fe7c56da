/- K8R, K8Q: put together. -/
import Derived.Test.YticmkgbjannkkaaM12
import Derived.Test.YticmkgbjannkkaaM05
import Derived.Test.YticmkgbjannkkaaM09
import Derived.Test.YticmkgbjannkkaaM02
import Derived.Test.YticmkgbjannkkaaM06
import Derived.Test.YticmkgbjannkkaaM15
import Derived.Test.YticmkgbjannkkaaM21
import Derived.Test.YticmkgbjannkkaaM26
import Derived.Deep.RegionLaw

/- The landed row's reader: what is left to read, and its small calls. -/
namespace Go.Proofs.Yticmkgbjannkkaa
open Go.RowKit

/-- a panic with an error -/
def errV (k : Nat) : List PanicEntry := [{ v := .iface 31 (.int .i64 k), recovered := false }]

/-- p[n:] -/
def cutP (p : Option Addr) (n c : Nat) : Option Addr := if c = n then p else p.map (·.add n)
theorem run_cut_lh (p : Option Addr) (len c m n : Nat) (h0 : m ≤ n) (h : n ≤ c) (w : World) : (Instr.slice 28 (.slice p len c) (some (.int .i64 m)) (some (.int .i64 n)) none).run Try.prog w = .ok (.slice (cutP p m c) (n - m) (c - m)) w := by
  have hs : (sizeOf (Try.prog.elem 28)).run Try.prog w = .ok 1 w := by kernel_rfl
  rw [run_slice_lh w 28 p len c (by kernel_rfl) .i64 .i64 (m : Int) (n : Int) (by omega) (by omega) (by omega), hs]
  simp [sliced, cutP, Result.andThen]
theorem add_block (a : Addr) (n : Nat) : (a.add n).block = a.block := by
  unfold Addr.add
  split <;> rfl
theorem cutP_block {p : Option Addr} {n c A : Nat} (h : ∀ a, p = some a → a.block < A) : ∀ a, cutP p n c = some a → a.block < A := by
  intro a ha
  unfold cutP at ha
  split at ha
  · exact h a ha
  · cases p with
    | none => cases ha
    | some b =>
      simp only [Option.map_some, Option.some.injEq] at ha
      subst ha
      rw [add_block]
      exact h b rfl
theorem At.cut {w : World} {p : Option Addr} {l : List UInt8} (h : At w p l) (n c : Nat) (hc : l.length ≤ c) : At w (cutP p n c) (l.drop n) := by
  by_cases h0 : l.length ≤ n
  · exact .inl (List.drop_eq_nil_of_le h0)
  · obtain ⟨b, o, rfl, hb, hcs⟩ := at_some h (by omega)
    refine .inr ⟨b, o + n, ?_, hb, cells_drop hcs n⟩
    unfold cutP
    rw [if_neg (by omega), Option.map_some, Lib.add_plain]
/-- the table of the reader's ways -/
def waysR : Array Value := #[.nilFunc, .func (.func 43) #[] #[], .func (.func 44) #[] #[], .func (.func 45) #[] #[], .func (.func 46) #[] #[], .func (.func 47) #[] #[], .func (.func 48) #[] #[], .func (.func 49) #[] #[]]

section
variable {L : List UInt8}
/-- how the reader in block R lies: its bytes are L, it stands at a -/
structure RdrAt (L : List UInt8) (w : World) (A R T : Nat) (p : Option Addr) (c a : Nat) : Prop where
  b0 : w.heap[R]? = some (.cells #[.slice (some ⟨T, 0, none⟩) 8 8, .slice p L.length c, .int .i64 ((a : Nat) : Int)] 64 (0, 0))
  b1 : w.heap[T]? = some (.cells waysR 74 (0, 0))
  lies : At w p L
  cap : L.length ≤ c
  far : L ≠ [] → ∀ d, p = some d → d.block < A
  tab : T < R
  pos : a ≤ L.length
/-- the reader in block R has l left, of L; its bytes lie below A -/
structure Rdr (L : List UInt8) (w : World) (A R : Nat) (l : List UInt8) : Prop where
  out : ∃ T p c a, RdrAt L w A R T p c a ∧ l = L.drop a
  small : L.length ≤ 140737488351232
  low : A ≤ R
theorem Rdr.lt {w : World} {A R : Nat} {l : List UInt8} (h : Rdr L w A R l) : R < w.heap.size := by
  obtain ⟨T, p, c, a, h1, _⟩ := h.out
  exact blk_lt h1.b0
theorem At.keep {w w' : World} {p : Option Addr} {l : List UInt8} {A : Nat} (h : At w p l) (hp : l ≠ [] → ∀ a, p = some a → a.block < A) (hk : ∀ k, k < A → w'.heap[k]? = w.heap[k]?) (hs : w.heap.size ≤ w'.heap.size) : At w' p l := by
  rcases h with rfl | ⟨b, o, rfl, hb, hcs⟩
  · exact .inl rfl
  · refine .inr ⟨b, o, rfl, by omega, fun j hj => ?_⟩
    rw [World.cell?_of_block (w := w) (hk b (hp (List.ne_nil_of_length_pos (by omega)) _ rfl))]
    exact hcs j hj
theorem RdrAt.keep {w w' : World} {A R T : Nat} {p : Option Addr} {c a : Nat} (h : RdrAt L w A R T p c a) (hl : A ≤ R) (hk : ∀ k, k ≤ R → w'.heap[k]? = w.heap[k]?) (hs : w.heap.size ≤ w'.heap.size) : RdrAt L w' A R T p c a := by
  have ht := h.tab
  exact ⟨(hk R (Nat.le_refl _)).trans h.b0, (hk T (by omega)).trans h.b1, h.lies.keep h.far (fun k hk' => hk k (by omega)) hs, h.cap, h.far, ht, h.pos⟩
theorem Rdr.keep {w w' : World} {A R : Nat} {l : List UInt8} (h : Rdr L w A R l) (hk : ∀ k, k ≤ R → w'.heap[k]? = w.heap[k]?) (hs : w.heap.size ≤ w'.heap.size) : Rdr L w' A R l := by
  obtain ⟨T, p, c, a, h1, h2⟩ := h.out
  exact ⟨⟨T, p, c, a, h1.keep h.low hk hs, h2⟩, h.small, h.low⟩
theorem Rdr.on {w w' : World} {A R : Nat} {l : List UInt8} (h : Rdr L w A R l) (hb : Below w.heap.size w w') : Rdr L w' A R l := h.keep (fun k hk => hb.block k (by have := h.lt; omega)) hb.size
theorem Rdr.aside {w w' : World} {A R : Nat} {l : List UInt8} {F : Nat → Prop} (h : Rdr L w A R l) (ha : Aside F w w') (hF : ∀ k, F k → R < k) : Rdr L w' A R l :=
  h.keep (fun k hk => ha.block k (by have := h.lt; omega) (fun hc => by have := hF k hc; omega)) ha.size
theorem Rdr.drew {w : World} {A R : Nat} {l : List UInt8} (h : Rdr L w A R l) : Rdr L w.drew A R l := h.keep (fun _ _ => rfl) (Nat.le_refl _)
/-- so many bytes are taken off -/
theorem RdrAt.move {w : World} {A R T : Nat} {p : Option Addr} {c a : Nat} (h : RdrAt L w A R T p c a) (hl : A ≤ R) (n : Nat) (hn : n ≤ L.length) : RdrAt L (w.setCell ⟨R, 2, none⟩ (.int .i64 ((n : Nat) : Int))) A R T p c n := by
  have ht := h.tab
  have ha : Aside (fun i => i = R) w (w.setCell ⟨R, 2, none⟩ (.int .i64 ((n : Nat) : Int))) := aside_set _ _ _ _
  have hR := blk_lt h.b0
  refine ⟨by rw [blk_set h.b0 2]; rfl, (ha.block T (by omega) (by omega)).trans h.b1, ?_, h.cap, h.far, ht, hn⟩
  rcases h.lies with h1 | ⟨b, o, rfl, hb, hcs⟩
  · exact .inl h1
  · by_cases h0 : L = []
    · exact .inl h0
    · have hbA := h.far h0 _ rfl
      refine .inr ⟨b, o, rfl, Nat.lt_of_lt_of_le hb ha.size, fun j hj => ?_⟩
      rw [World.cell?_of_block (w := w) (ha.block b hb (by show ¬ b = R; simp only at hbA; omega))]
      exact hcs j hj
/-- what a call of the reader answers -/
def RdA {α : Type} (L : List UInt8) (w : World) (A R : Nat) (l : List UInt8) (r : Except Nat (α × Nat)) (V : α → Value → World → Prop) (e : Ending) (w' : World) : Prop := match r with
  | .error k => e = .panicked (errV k) ∧ Aside (fun i => i = R) w w'
  | .ok (a, j) => ∃ v, e = .returned v ∧ V a v w' ∧ Rdr L w' A R (l.drop j) ∧ Aside (fun i => i = R) w w'
/-- a number -/
def isI (n : Nat) (v : Value) (_ : World) : Prop := v = .int .i64 n
def isU (n : Nat) (v : Value) (_ : World) : Prop := v = .int .u64 n
def isT (t : ByteArray) (v : Value) (_ : World) : Prop := v = .string t
def isB (b : List UInt8) (v : Value) (w : World) : Prop := ∃ q c, v = .slice q b.length c ∧ At w q b ∧ b.length ≤ c

set_option maxHeartbeats 400000 in
theorem need_t (a : Value) (k : Int) (w : World) : Calls Try.prog 18 #[a, .bool true, .int .i64 k] w fun e w' => e = .returned (.tuple #[]) ∧ w' = w := by
  go_enter Try.func18, Try.ntmps18
  go_wp2
  go_end0
  exact ⟨rfl, rfl⟩
set_option maxHeartbeats 400000 in
theorem need_f (a : Value) (k : Nat) (w : World) : Calls Try.prog 18 #[a, .bool false, .int .i64 k] w fun e w' => e = .panicked (errV k) ∧ w' = w := by
  go_enter Try.func18, Try.ntmps18
  go_wp2
  exact ⟨rfl, rfl, rfl⟩
end
end Go.Proofs.Yticmkgbjannkkaa

/- Calls at a step of a region that draws, which return or panic. -/
namespace Go.Proofs.Yticmkgbjannkkaa
open Go.RowKit

theorem step_call1b {w : World} {ops : Array Oper} {o : Oper} {a : Act} {K : Act → World → Prop} {Q : Exit → Act → World → Prop} {E : Prop} {f : FuncId} {fn : Func} {code : Code} {u0 : Value} {R : Ending → World → Prop} (x : Operand) (t0 : TypeId)
    (hg : o.guard = none) (hop : o.op = Op.call { callee := .value (.func f), args := #[x], argTypes := #[t0] }) (hx : a.eval x = u0)
    (hf : Try.prog.funcs[f]? = some fn) (hname : (fn.name == "runtime.NumGoroutine") = false) (hb : fn.body = some code)
    (hc : Calls Try.prog f #[u0] w R) (hR : ∀ e w', R e w' → ∃ ch, e = .panicked ch ∧ Q (.panic ch) a w') (v' : Value) (_ : Hid False → K (a.put o.dst v') w) :
    if Region.wanted o (yielded ops a.tmps) = true then Oper.wp Try.prog o a w K Q else E := by
  have hw : Region.wanted o (yielded ops a.tmps) = true := by simp [Region.wanted, hg]
  rw [if_pos hw]
  have h1 : fn.name ≠ "runtime.NumGoroutine" := by simpa using hname
  unfold Oper.wp
  have he : (execOp a.eval o).run Try.prog w = .ok (.enter f #[u0]) w := by
    have hev : a.eval (.func f) = .func (.func f) #[] #[] := rfl
    simp [execOp, hop, resolve, invoke, hx, hev, Deferred.ofValue, callFunc, hf, h1, hb]
  rw [he, Oper.upon_enter]
  refine hc.mono ?_
  intro e w' hr
  obtain ⟨z, rfl, hk⟩ := hR e w' hr
  exact hk
theorem step_call1g {w : World} {ops : Array Oper} {o : Oper} {a : Act} {K : Act → World → Prop} {Q : Exit → Act → World → Prop} {E : Prop} {f : FuncId} {fn : Func} {code : Code} {u0 : Value} {R : Ending → World → Prop} (x : Operand) (t0 : TypeId)
    (hg : o.guard = none) (hop : o.op = Op.call { callee := .value (.func f), args := #[x], argTypes := #[t0] }) (hx : a.eval x = u0)
    (hf : Try.prog.funcs[f]? = some fn) (hname : (fn.name == "runtime.NumGoroutine") = false) (hb : fn.body = some code)
    (hc : Calls Try.prog f #[u0] w R) (hR : ∀ e w', R e w' → ∃ z, e = .returned z ∧ K (a.put o.dst z) w') :
    if Region.wanted o (yielded ops a.tmps) = true then Oper.wp Try.prog o a w K Q else E := by
  have hw : Region.wanted o (yielded ops a.tmps) = true := by simp [Region.wanted, hg]
  rw [if_pos hw]
  have h1 : fn.name ≠ "runtime.NumGoroutine" := by simpa using hname
  unfold Oper.wp
  have he : (execOp a.eval o).run Try.prog w = .ok (.enter f #[u0]) w := by
    have hev : a.eval (.func f) = .func (.func f) #[] #[] := rfl
    simp [execOp, hop, resolve, invoke, hx, hev, Deferred.ofValue, callFunc, hf, h1, hb]
  rw [he, Oper.upon_enter]
  refine hc.mono ?_
  intro e w' hr
  obtain ⟨z, rfl, hk⟩ := hR e w' hr
  exact hk
theorem step_call3b {w : World} {ops : Array Oper} {o : Oper} {a : Act} {K : Act → World → Prop} {Q : Exit → Act → World → Prop} {E : Prop} {f : FuncId} {fn : Func} {code : Code} {u0 u1 u2 : Value} {R : Ending → World → Prop} (x y z : Operand) (t0 t1 t2 : TypeId)
    (hg : o.guard = none) (hop : o.op = Op.call { callee := .value (.func f), args := #[x, y, z], argTypes := #[t0, t1, t2] }) (hx : a.eval x = u0) (hy : a.eval y = u1) (hz : a.eval z = u2)
    (hf : Try.prog.funcs[f]? = some fn) (hname : (fn.name == "runtime.NumGoroutine") = false) (hb : fn.body = some code)
    (hc : Calls Try.prog f #[u0, u1, u2] w R) (hR : ∀ e w', R e w' → ∃ ch, e = .panicked ch ∧ Q (.panic ch) a w') (v' : Value) (_ : Hid False → K (a.put o.dst v') w) :
    if Region.wanted o (yielded ops a.tmps) = true then Oper.wp Try.prog o a w K Q else E := by
  have hw : Region.wanted o (yielded ops a.tmps) = true := by simp [Region.wanted, hg]
  rw [if_pos hw]
  have h1 : fn.name ≠ "runtime.NumGoroutine" := by simpa using hname
  unfold Oper.wp
  have he : (execOp a.eval o).run Try.prog w = .ok (.enter f #[u0, u1, u2]) w := by
    have hev : a.eval (.func f) = .func (.func f) #[] #[] := rfl
    simp [execOp, hop, resolve, invoke, hx, hy, hz, hev, Deferred.ofValue, callFunc, hf, h1, hb]
  rw [he, Oper.upon_enter]
  refine hc.mono ?_
  intro e w' hr
  obtain ⟨z, rfl, hk⟩ := hR e w' hr
  exact hk
theorem step_call3g {w : World} {ops : Array Oper} {o : Oper} {a : Act} {K : Act → World → Prop} {Q : Exit → Act → World → Prop} {E : Prop} {f : FuncId} {fn : Func} {code : Code} {u0 u1 u2 : Value} {R : Ending → World → Prop} (x y z : Operand) (t0 t1 t2 : TypeId)
    (hg : o.guard = none) (hop : o.op = Op.call { callee := .value (.func f), args := #[x, y, z], argTypes := #[t0, t1, t2] }) (hx : a.eval x = u0) (hy : a.eval y = u1) (hz : a.eval z = u2)
    (hf : Try.prog.funcs[f]? = some fn) (hname : (fn.name == "runtime.NumGoroutine") = false) (hb : fn.body = some code)
    (hc : Calls Try.prog f #[u0, u1, u2] w R) (hR : ∀ e w', R e w' → ∃ z, e = .returned z ∧ K (a.put o.dst z) w') :
    if Region.wanted o (yielded ops a.tmps) = true then Oper.wp Try.prog o a w K Q else E := by
  have hw : Region.wanted o (yielded ops a.tmps) = true := by simp [Region.wanted, hg]
  rw [if_pos hw]
  have h1 : fn.name ≠ "runtime.NumGoroutine" := by simpa using hname
  unfold Oper.wp
  have he : (execOp a.eval o).run Try.prog w = .ok (.enter f #[u0, u1, u2]) w := by
    have hev : a.eval (.func f) = .func (.func f) #[] #[] := rfl
    simp [execOp, hop, resolve, invoke, hx, hy, hz, hev, Deferred.ofValue, callFunc, hf, h1, hb]
  rw [he, Oper.upon_enter]
  refine hc.mono ?_
  intro e w' hr
  obtain ⟨z, rfl, hk⟩ := hR e w' hr
  exact hk

theorem step_call2b {w : World} {ops : Array Oper} {o : Oper} {a : Act} {K : Act → World → Prop} {Q : Exit → Act → World → Prop} {E : Prop} {f : FuncId} {fn : Func} {code : Code} {u v : Value} {R : Ending → World → Prop} (x y : Operand) (t t' : TypeId)
    (hg : o.guard = none) (hop : o.op = Op.call { callee := .value (.func f), args := #[x, y], argTypes := #[t, t'] }) (hx : a.eval x = u) (hy : a.eval y = v)
    (hf : Try.prog.funcs[f]? = some fn) (hname : (fn.name == "runtime.NumGoroutine") = false) (hb : fn.body = some code)
    (hc : Calls Try.prog f #[u, v] w R) (hR : ∀ e w', R e w' → ∃ ch, e = .panicked ch ∧ Q (.panic ch) a w') (v' : Value) (_ : Hid False → K (a.put o.dst v') w) :
    if Region.wanted o (yielded ops a.tmps) = true then Oper.wp Try.prog o a w K Q else E := by
  have hw : Region.wanted o (yielded ops a.tmps) = true := by simp [Region.wanted, hg]
  rw [if_pos hw]
  have h1 : fn.name ≠ "runtime.NumGoroutine" := by simpa using hname
  unfold Oper.wp
  have he : (execOp a.eval o).run Try.prog w = .ok (.enter f #[u, v]) w := by
    have hev : a.eval (.func f) = .func (.func f) #[] #[] := rfl
    simp [execOp, hop, resolve, invoke, hx, hy, hev, Deferred.ofValue, callFunc, hf, h1, hb]
  rw [he, Oper.upon_enter]
  refine hc.mono ?_
  intro e w' hr
  obtain ⟨z, rfl, hk⟩ := hR e w' hr
  exact hk
theorem step_never {w : World} {ops : Array Oper} {o : Oper} {a : Act} {K : Act → World → Prop} {Q : Exit → Act → World → Prop} {E : Prop} (h : Hid False) (v' : Value) (_ : K (a.put o.dst v') w) :
    if Region.wanted o (yielded ops a.tmps) = true then Oper.wp Try.prog o a w K Q else E := h.out.elim
theorem step_call2g {w : World} {ops : Array Oper} {o : Oper} {a : Act} {K : Act → World → Prop} {Q : Exit → Act → World → Prop} {E : Prop} {f : FuncId} {fn : Func} {code : Code} {u v : Value} {R : Ending → World → Prop} (x y : Operand) (t t' : TypeId)
    (hg : o.guard = none) (hop : o.op = Op.call { callee := .value (.func f), args := #[x, y], argTypes := #[t, t'] }) (hx : a.eval x = u) (hy : a.eval y = v)
    (hf : Try.prog.funcs[f]? = some fn) (hname : (fn.name == "runtime.NumGoroutine") = false) (hb : fn.body = some code)
    (hc : Calls Try.prog f #[u, v] w R) (hR : ∀ e w', R e w' → ∃ z, e = .returned z ∧ K (a.put o.dst z) w') :
    if Region.wanted o (yielded ops a.tmps) = true then Oper.wp Try.prog o a w K Q else E := by
  have hw : Region.wanted o (yielded ops a.tmps) = true := by simp [Region.wanted, hg]
  rw [if_pos hw]
  have h1 : fn.name ≠ "runtime.NumGoroutine" := by simpa using hname
  unfold Oper.wp
  have he : (execOp a.eval o).run Try.prog w = .ok (.enter f #[u, v]) w := by
    have hev : a.eval (.func f) = .func (.func f) #[] #[] := rfl
    simp [execOp, hop, resolve, invoke, hx, hy, hev, Deferred.ofValue, callFunc, hf, h1, hb]
  rw [he, Oper.upon_enter]
  refine hc.mono ?_
  intro e w' hr
  obtain ⟨z, rfl, hk⟩ := hR e w' hr
  exact hk

end Go.Proofs.Yticmkgbjannkkaa

/- DevC, KDevA, KDevB, KDevD, KDevE, KDevF, KDevG: put together. -/
import Derived.Test.YtmgcfkpmknogaaaGreatDoorD1
import Derived.Test.YtmgcfkpmknogaaaGreatDoorB01
import Derived.Deep.RegionHeld3
import Derived.Deep.RegionLaw
import Derived.Deep.Upon

/- What the walks of package dev's file stand on. -/

/- Package dev's file: how it lies in memory; the walks of its small calls. -/
namespace Go.Proofs.YtmgcfkpmknogaaaGreatDoor
open Go.RowKit

def kCells (v : Value) (s : Dv.St) (x k : Nat) (f : Value) : Array Value := #[v, .int .i64 s.most, .int .i64 s.safe, .int .i64 s.told, .int .i64 s.done, .bool s.down, .bool s.bound, .int .i64 x, .int .i64 k, f]

/-- package dev's file lies in block g; its bytes are v's; x and k are what it holds of power that is bound to fail -/
structure KDev (w : World) (B g : Nat) (v : Value) (s : Dv.St) (x k : Nat) : Prop where
  lies : w.heap[g]? = some (.cells (kCells v s x k .nilFunc) 102)
  has : Has w B v s.b
  base : B ≤ g
  due : s.bound = true → x = s.after ∧ k = s.keep
  left : x < 9223372036854775808
  keep : k < 9223372036854775808

theorem KDev.lt {w : World} {B g : Nat} {v : Value} {s : Dv.St} {x k : Nat} (h : KDev w B g v s x k) : g < w.heap.size := (Array.getElem?_eq_some_iff.1 h.lies).1
theorem k_cell {w : World} {g : Nat} {v : Value} {s : Dv.St} {x k : Nat} {f : Value} (h : w.heap[g]? = some (.cells (kCells v s x k f) 102)) (i : Nat) : w.cell? ⟨g, i, none⟩ = (kCells v s x k f)[i]? := by
  unfold World.cell?
  rw [h]
  rfl
theorem k_free {w : World} {g : Nat} {v : Value} {s : Dv.St} {x k : Nat} {f : Value} (h : w.heap[g]? = some (.cells (kCells v s x k f) 102)) (i : Nat) : w.frozen? ⟨g, i, none⟩ = false := by
  simp [World.frozen?, h]
theorem k_set {w : World} {g : Nat} {v v' : Value} {s s' : Dv.St} {x k x' k' : Nat} {f f' : Value} (h : w.heap[g]? = some (.cells (kCells v s x k f) 102)) (i : Nat) (u : Value) (he : kCells v' s' x' k' f' = (kCells v s x k f).setIfInBounds i u) : (w.setCell ⟨g, i, none⟩ u).heap[g]? = some (.cells (kCells v' s' x' k' f') 102) := by
  simp only [World.setCell, Array.getElem?_modify, h, if_true, Option.map_some]
  rw [if_neg (by simp), he]
theorem KDev.cell {w : World} {B g : Nat} {v : Value} {s : Dv.St} {x k : Nat} (h : KDev w B g v s x k) (i : Nat) : w.cell? ⟨g, i, none⟩ = (kCells v s x k .nilFunc)[i]? := k_cell h.lies i
theorem KDev.thawed {w : World} {B g : Nat} {v : Value} {s : Dv.St} {x k : Nat} (h : KDev w B g v s x k) (i : Nat) : w.frozen? ⟨g, i, none⟩ = false := k_free h.lies i
/-- a list's block is none of a file's -/
theorem has_apart {w : World} {B g : Nat} {v : Value} {l : List UInt8} (h : Has w B v l) {C : Array Value} {T : TypeId} (hg : w.heap[g]? = some (.cells C T)) (hT : T ≠ 5) : v.ownBlock ≠ some g := by
  intro hc
  rcases h.2 with ⟨h1, _⟩ | ⟨g', cap, cur, h1, _, h3, _⟩
  · rw [h1] at hc; cases hc
  · rw [h1] at hc
    simp only [Value.ownBlock, Option.some.injEq] at hc
    subst hc
    rw [h3] at hg
    injection hg with h4
    injection h4 with _ h5
    exact hT h5.symm
theorem KDev.apart {w : World} {B g : Nat} {v : Value} {s : Dv.St} {x k : Nat} (h : KDev w B g v s x k) : v.ownBlock ≠ some g := has_apart h.has h.lies (by decide)
/-- a number or a mark of it is written -/
theorem KDev.put {w : World} {B g : Nat} {v : Value} {s s' : Dv.St} {x k x' k' : Nat} (h : KDev w B g v s x k) (i : Nat) (u : Value) (he : kCells v s' x' k' .nilFunc = (kCells v s x k .nilFunc).setIfInBounds i u) (hb : s'.b = s.b) (hd : s'.bound = true → x' = s'.after ∧ k' = s'.keep) (hx : x' < 9223372036854775808) (hk : k' < 9223372036854775808) : KDev (w.setCell ⟨g, i, none⟩ u) B g v s' x' k' := by
  have ha : Aside (· = g) w (w.setCell ⟨g, i, none⟩ u) := (Aside.refl (· = g) w).setCell (p := ⟨g, i, none⟩) (.inl rfl) u
  refine ⟨k_set h.lies i u he, ?_, h.base, hd, hx, hk⟩
  rw [hb]
  exact h.has.aside ha (fun j hj hc => h.apart (by rw [hj, hc]))
theorem KDev.aside {w w' : World} {B g : Nat} {v : Value} {s : Dv.St} {x k : Nat} {F : Nat → Prop} (h : KDev w B g v s x k) (ha : Aside F w w') (hg : ¬ F g) (hv : ∀ k, v.ownBlock = some k → ¬ F k) : KDev w' B g v s x k :=
  ⟨by rw [ha.block g h.lt hg]; exact h.lies, h.has.aside ha hv, h.base, h.due, h.left, h.keep⟩
theorem KDev.below {w w' : World} {B g : Nat} {v : Value} {s : Dv.St} {x k : Nat} (h : KDev w B g v s x k) (hb : Below w.heap.size w w') : KDev w' B g v s x k :=
  h.aside (F := fun _ => False) (aside_new hb _) (fun h => h) (fun _ _ h => h)

/-- what a call of the file's leaves: its answer, the file, and nothing else touched but its own blocks -/
def KPost (w : World) (B g : Nat) (v : Value) (r : Nat × Dv.St) (e : Ending) (w' : World) : Prop :=
  e = .returned (.int .i64 (r.1 : Nat)) ∧ ∃ v' x' k', KDev w' B g v' r.2 x' k' ∧ Aside (fun i => i = g ∨ v.ownBlock = some i) w w' ∧ ∀ i, v'.ownBlock = some i → v.ownBlock = some i ∨ w.heap.size ≤ i

section
variable {B g : Nat} {v : Value} {s : Dv.St} {x k : Nat} {w : World}

theorem kLen (h : KDev w B g v s x k) : Calls Tryz.prog 49 #[.pointer (some ⟨g, 0, none⟩)] w fun e w' => e = .returned (.int .i64 (s.b.length : Nat)) ∧ w' = w := by
  have c0 : w.cell? ⟨g, 0, none⟩ = some v := h.cell 0
  obtain ⟨p, cap, hv, -, -⟩ := h.has.at
  subst hv
  clear h
  go_enter Tryz.func49, Tryz.ntmps49
  go_wp2
  go_ret
  exact ⟨rfl, rfl⟩
theorem kUp (h : KDev w B g v s x k) : Calls Tryz.prog 23 #[.pointer (some ⟨g, 0, none⟩)] w fun e w' => e = .returned (.bool (!s.down)) ∧ w' = w := by
  have c0 : w.cell? ⟨g, 5, none⟩ = some (.bool s.down) := h.cell 5
  clear h
  go_enter Tryz.func23, Tryz.ntmps23
  go_wp2
  go_ret
  exact ⟨rfl, rfl⟩
theorem kStart (h : KDev w B g v s x k) : Calls Tryz.prog 25 #[.pointer (some ⟨g, 0, none⟩)] w (KPost w B g v (Dv.start s)) := by
  have c3 : w.cell? ⟨g, 5, none⟩ = some (.bool s.down) := h.cell 5
  have f3 := h.thawed 5
  by_cases hd : s.down = true
  · have HE : Hid (Dv.start s = (0, { s with down := false })) := by show _ = _; unfold Dv.start; rw [if_pos hd]
    have HR : Hid (KDev (w.setCell ⟨g, 5, none⟩ (.bool false)) B g v { s with down := false } x k) := h.put 5 _ rfl rfl h.due h.left h.keep
    rw [hd] at c3
    clear h hd
    go_enter Tryz.func25, Tryz.ntmps25
    go_wp2
    go_ret
    rw [HE.out]
    exact ⟨rfl, _, _, _, HR.out, (Aside.refl _ _).setCell (.inl (.inl rfl)) _, fun _ h => .inl h⟩
  · have hd' : s.down = false := by simpa using hd
    have HE : Hid (Dv.start s = (6, s)) := by show _ = _; unfold Dv.start; rw [if_neg hd]
    have HR := Lib.hid h
    rw [hd'] at c3
    clear h hd hd'
    go_enter Tryz.func25, Tryz.ntmps25
    go_wp2
    go_ret
    rw [HE.out]
    exact ⟨rfl, _, _, _, HR.out, Aside.refl _ _, fun _ h => .inl h⟩

theorem kFail (h : KDev w B g v s x k) (a m : Int) (ha2 : a ≤ 9223372036854775807) (hm2 : m ≤ 9223372036854775807) : Calls Tryz.prog 18 #[.pointer (some ⟨g, 0, none⟩), .int .i64 a, .int .i64 m] w (KPost w B g v (Dv.fail s a m)) := by
  have c3 : w.cell? ⟨g, 5, none⟩ = some (.bool s.down) := h.cell 5
  have c4 : w.cell? ⟨g, 6, none⟩ = some (.bool s.bound) := h.cell 6
  have c5 : w.cell? ⟨g, 7, none⟩ = some (.int .i64 x) := h.cell 7
  have c6 : w.cell? ⟨g, 8, none⟩ = some (.int .i64 k) := h.cell 8
  have f4 := h.thawed 6
  have f5 := h.thawed 7
  have f6 := h.thawed 8
  by_cases hd : s.down = true
  · have HE : Hid (Dv.fail s a m = (50, s)) := by show _ = _; unfold Dv.fail; rw [if_pos hd]
    have HR := Lib.hid h
    rw [hd] at c3
    clear h hd
    go_enter Tryz.func18, Tryz.ntmps18
    go_wp2
    go_ret
    rw [HE.out]
    exact ⟨rfl, _, _, _, HR.out, Aside.refl _ _, fun _ h => .inl h⟩
  · have hd' : s.down = false := by simpa using hd
    rw [hd'] at c3
    by_cases hx : a < 0 ∨ m < 0
    · have HE : Hid (Dv.fail s a m = (1, s)) := by show _ = _; unfold Dv.fail; rw [if_neg hd, if_pos hx]
      have HR := Lib.hid h
      clear h hd hd'
      by_cases ha : a < 0
      · clear hx
        have hb0 : decide (a < 0) = true := decide_eq_true ha
        go_enter Tryz.func18, Tryz.ntmps18
        go_wp2
        go_ret
        rw [HE.out]
        exact ⟨rfl, _, _, _, HR.out, Aside.refl _ _, fun _ h => .inl h⟩
      · have hk : m < 0 := by omega
        have ha' : 0 ≤ a := by omega
        have hb0 : decide (a < 0) = false := decide_eq_false ha
        clear hx ha
        go_enter Tryz.func18, Tryz.ntmps18
        go_wp2
        go_ret
        rw [HE.out]
        exact ⟨rfl, _, _, _, HR.out, Aside.refl _ _, fun _ h => .inl h⟩
    · have HE : Hid (Dv.fail s a m = (0, { s with bound := true, after := a.toNat, keep := m.toNat })) := by show _ = _; unfold Dv.fail; rw [if_neg hd, if_neg hx]
      have ha : 0 ≤ a := by omega
      have hk : 0 ≤ m := by omega
      obtain ⟨y, rfl⟩ : ∃ y : Nat, a = (y : Int) := ⟨a.toNat, by omega⟩
      obtain ⟨z, rfl⟩ : ∃ z : Nat, m = (z : Int) := ⟨m.toNat, by omega⟩
      have r1 : (w.setCell ⟨g, 6, none⟩ (.bool true)).heap[g]? = some (.cells (kCells v { s with bound := true, after := y, keep := z } x k .nilFunc) 102) := k_set h.lies 6 _ rfl
      have r2 : ((w.setCell ⟨g, 6, none⟩ (.bool true)).setCell ⟨g, 7, none⟩ (.int .i64 y)).heap[g]? = some (.cells (kCells v { s with bound := true, after := y, keep := z } y k .nilFunc) 102) := k_set r1 7 _ rfl
      have r3 : (((w.setCell ⟨g, 6, none⟩ (.bool true)).setCell ⟨g, 7, none⟩ (.int .i64 y)).setCell ⟨g, 8, none⟩ (.int .i64 z)).heap[g]? = some (.cells (kCells v { s with bound := true, after := y, keep := z } y z .nilFunc) 102) := k_set r2 8 _ rfl
      have HAs : Hid (Aside (fun i => i = g) w (((w.setCell ⟨g, 6, none⟩ (.bool true)).setCell ⟨g, 7, none⟩ (.int .i64 y)).setCell ⟨g, 8, none⟩ (.int .i64 z))) := (((Aside.refl (fun i => i = g) w).setCell (p := ⟨g, 6, none⟩) (.inl rfl) _).setCell (p := ⟨g, 7, none⟩) (.inl rfl) _).setCell (p := ⟨g, 8, none⟩) (.inl rfl) _
      have HR : Hid (KDev (((w.setCell ⟨g, 6, none⟩ (.bool true)).setCell ⟨g, 7, none⟩ (.int .i64 y)).setCell ⟨g, 8, none⟩ (.int .i64 z)) B g v { s with bound := true, after := y, keep := z } y z) :=
        ⟨r3, h.has.aside HAs.out (fun j hj hc => h.apart (by rw [hj, hc])), h.base, fun _ => ⟨rfl, rfl⟩, by omega, by omega⟩
      have hb0 : decide ((y : Int) < 0) = false := decide_eq_false (by omega)
      have hb1 : decide ((z : Int) < 0) = false := decide_eq_false (by omega)
      clear h hd hd' hx r1 r2 r3
      go_enter Tryz.func18, Tryz.ntmps18
      go_wp2
      go_ret
      rw [HE.out]
      exact ⟨rfl, _, _, _, HR.out, HAs.out.mono (fun _ _ h => .inl h), fun _ h => .inl h⟩
end
end Go.Proofs.YtmgcfkpmknogaaaGreatDoor

/- Package dev's file: whatever changes its bytes goes through change, handed a function value. -/
namespace Go.Proofs.YtmgcfkpmknogaaaGreatDoor
open Go.RowKit

/-- a call of a function that has a body enters it -/
theorem enters_bodyD {P : Program} {f : FuncId} {fn : Func} {c : Code} (hf : P.funcs[f]? = some fn) (hname : (fn.name == "runtime.NumGoroutine") = false) (hb : fn.body = some c) (args : Array Value) (w : World) :
    (callFunc f args).run P w = .ok (.enter f args) w := by
  have h1 : fn.name ≠ "runtime.NumGoroutine" := by simpa using hname
  simp [callFunc, hf, h1, hb]

/-- a beginning of a slice of one's own -/
theorem Has.cut {w : World} {B n cap m : Nat} {q : Option Addr} {l : List UInt8} (h : Has w B (.slice q m cap) l) (hn : n ≤ l.length) : Has w B (.slice q n cap) (l.take n) := by
  have el : (l.take n).length = n := by rw [List.length_take]; omega
  unfold Has World.ownsRow
  rw [el]
  refine ⟨by rw [cellsOf_length, el, Nat.mul_one], ?_⟩
  rcases h.2 with ⟨h1, h0⟩ | ⟨g', cap', cur, h1, h2, h3, h4, h5, h6, h7⟩
  · have : n = 0 := by omega
    subst this
    cases h1
    exact .inl ⟨rfl, rfl⟩
  · cases h1
    refine .inr ⟨g', cap, cur, rfl, h2, h3, by omega, h5, h6, ?_⟩
    have : cur.toList.take (n * 1) = (cur.toList.take (l.length * 1)).take (n * 1) := by rw [List.take_take, Nat.min_eq_left (by omega)]
    rw [this, h7]
    simp [cellsOf, List.map_take]

theorem runK_store_func (P : Program) (w : World) (a : Addr) (m : Mode) (fn : Fn) (first captured : Array Value) : (store a (.func fn first captured) m).run P w = stored P w a (.func fn first captured) m := run_store P w a _ m rfl
theorem runK_store_nil (P : Program) (w : World) (a : Addr) (m : Mode) : (store a .nilFunc m).run P w = stored P w a .nilFunc m := run_store P w a _ m rfl
attribute [local go_sem] runK_store_func runK_store_nil

/-- a call of a function value of one argument, at a step of a region that draws -/
theorem step_callv {w : World} {ops : Array Oper} {o : Oper} {a : Act} {K : Act → World → Prop} {Q : Exit → Act → World → Prop} {E : Prop} {f : FuncId} {env : Array Value} {u : Value} {R : Ending → World → Prop} (y x : Operand) (t : TypeId)
    (hg : o.guard = none) (hop : o.op = Op.call { callee := .value y, args := #[x], argTypes := #[t] }) (hy : a.eval y = .func (.func f) #[] env) (hx : a.eval x = u)
    (hE : ∀ (args : Array Value) (w : World), (callFunc f args).run Tryz.prog w = .ok (.enter f args) w)
    (hc : Calls Tryz.prog f (#[u] ++ env) w R) (hR : ∀ e w', R e w' → ∃ v, e = .returned v ∧ K (a.put o.dst v) w') :
    if Region.wanted o (yielded ops a.tmps) = true then Oper.wp Tryz.prog o a w K Q else E := by
  have hw : Region.wanted o (yielded ops a.tmps) = true := by simp [Region.wanted, hg]
  rw [if_pos hw]
  unfold Oper.wp
  have he : (execOp a.eval o).run Tryz.prog w = .ok (.enter f (#[u] ++ env)) w := by
    simp [execOp, hop, resolve, invoke, hx, hy, Deferred.ofValue, hE]
  rw [he, Oper.upon_enter]
  refine hc.mono ?_
  intro e w' hr
  obtain ⟨v, rfl, hk⟩ := hR e w' hr
  exact hk

/-- what change does behind the call -/
theorem change_end {B g : Nat} {v : Value} {s : Dv.St} {x k cap : Nat} {q : Option Addr} {l : List UInt8} {fv : Value} {w2 : World} (hu : Has w2 B (.slice q l.length cap) l) (hl2 : w2.heap[g]? = some (.cells (kCells v s x k fv) 102)) (hB : B ≤ g) (hd : s.bound = true → x = s.after ∧ k = s.keep) (hx : x < 9223372036854775808) (hk : k < 9223372036854775808) (m : Nat) (hm : m = min s.safe l.length) :
    Aside (· = g) w2 (((w2.setCell ⟨g, 0, none⟩ (.slice q l.length cap)).setCell ⟨g, 9, none⟩ .nilFunc).setCell ⟨g, 2, none⟩ (.int .i64 (m : Int))).drew ∧ KDev (((w2.setCell ⟨g, 0, none⟩ (.slice q l.length cap)).setCell ⟨g, 9, none⟩ .nilFunc).setCell ⟨g, 2, none⟩ (.int .i64 (m : Int))).drew B g (.slice q l.length cap) { s with b := l, safe := min s.safe l.length } x k := by
  have l3 : (w2.setCell ⟨g, 0, none⟩ (.slice q l.length cap)).heap[g]? = some (.cells (kCells (.slice q l.length cap) s x k fv) 102) := k_set hl2 0 _ rfl
  have l4 : ((w2.setCell ⟨g, 0, none⟩ (.slice q l.length cap)).setCell ⟨g, 9, none⟩ .nilFunc).heap[g]? = some (.cells (kCells (.slice q l.length cap) s x k .nilFunc) 102) := k_set l3 9 _ rfl
  have l5 : (((w2.setCell ⟨g, 0, none⟩ (.slice q l.length cap)).setCell ⟨g, 9, none⟩ .nilFunc).setCell ⟨g, 2, none⟩ (.int .i64 (m : Int))).drew.heap[g]? = some (.cells (kCells (.slice q l.length cap) { s with b := l, safe := min s.safe l.length } x k .nilFunc) 102) := by
    rw [← hm]
    exact k_set l4 2 _ rfl
  have ha : Aside (· = g) w2 (((w2.setCell ⟨g, 0, none⟩ (.slice q l.length cap)).setCell ⟨g, 9, none⟩ .nilFunc).setCell ⟨g, 2, none⟩ (.int .i64 (m : Int))).drew := ((((Aside.refl (· = g) w2).setCell (p := ⟨g, 0, none⟩) (.inl rfl) _).setCell (p := ⟨g, 9, none⟩) (.inl rfl) _).setCell (p := ⟨g, 2, none⟩) (.inl rfl) _).drew
  exact ⟨ha, l5, hu.aside ha (fun j hj hc => has_apart hu hl2 (by decide) (by rw [hj, hc])), hB, hd, hx, hk⟩

section
variable {B g : Nat} {v : Value} {s : Dv.St} {x k : Nat} {w : World}

set_option maxRecDepth 100000 in
set_option maxHeartbeats 1000000 in
theorem change_any (f : FuncId) (env : Array Value) (Q : Value → List UInt8 → World → Prop) (h : KDev w B g v s x k) (hE : ∀ (args : Array Value) (w : World), (callFunc f args).run Tryz.prog w = .ok (.enter f args) w)
    (hT : ∀ w', w'.heap[g]? = some (.cells (kCells v s x k (.func (.func f) #[] env)) 102) → Aside (· = g) w w' → Calls Tryz.prog f (#[v] ++ env) w' fun e w'' => ∃ u l, e = .returned u ∧ Has w'' B u l ∧ w''.heap[g]? = some (.cells (kCells v s x k (.func (.func f) #[] env)) 102) ∧ Q u l w'') :
    Calls Tryz.prog 99 #[.pointer (some ⟨g, 0, none⟩), .func (.func f) #[] env] w fun e w3 => e = .returned (.tuple #[]) ∧ ∃ u l w'', Q u l w'' ∧ Aside (· = g) w'' w3 ∧ KDev w3 B g u { s with b := l, safe := min s.safe l.length } x k := by
  have c9 : w.cell? ⟨g, 9, none⟩ = some .nilFunc := h.cell 9
  have f9 := h.thawed 9
  have HR := Lib.hid h
  have l1 : (w.setCell ⟨g, 9, none⟩ (.func (.func f) #[] env)).heap[g]? = some (.cells (kCells v s x k (.func (.func f) #[] env)) 102) := k_set h.lies 9 _ rfl
  have d0 : (w.setCell ⟨g, 9, none⟩ (.func (.func f) #[] env)).cell? ⟨g, 0, none⟩ = some v := k_cell l1 0
  have d9 : (w.setCell ⟨g, 9, none⟩ (.func (.func f) #[] env)).cell? ⟨g, 9, none⟩ = some (.func (.func f) #[] env) := k_cell l1 9
  have HT := Lib.hid (hT (w.setCell ⟨g, 9, none⟩ (.func (.func f) #[] env)).drew l1 (((Aside.refl (· = g) w).setCell (p := ⟨g, 9, none⟩) (.inl rfl) _).drew))
  have HE := Lib.hid hE
  clear hT h l1 hE
  go_enter Tryz.func99, Tryz.ntmps99
  go_wp2_with fail
  go_region_law (refine step_callv (.tmp 12) (.tmp 16) 22 (by rfl) (by rfl) (by rfl) (by rfl) HE.out HT.out ?_; rintro e w2 ⟨u, l, rfl, hu, hl2, hQ⟩; refine ⟨_, rfl, ?_⟩; obtain ⟨q, cap, hvu, -, -⟩ := hu.at; subst hvu; have c0 : w2.cell? ⟨g, 0, none⟩ = some v := k_cell hl2 0; have f0 := k_free hl2 0; have HU := Lib.hid hu; have HL2 := Lib.hid hl2; have HQ := Lib.hid hQ; clear hu hl2 hQ)
  all_goals
    have f9' := k_free HL2.out 9
    have f2 := k_free HL2.out 2
    have e2 : w2.cell? ⟨g, 2, none⟩ = some (.int .i64 s.safe) := k_cell HL2.out 2
    have e99 : w2.cell? ⟨g, 9, none⟩ = some (.func (.func f) #[] env) := k_cell HL2.out 9
    have HEn := Lib.hid (change_end HU.out HL2.out HR.out.base HR.out.due HR.out.left HR.out.keep)
    by_cases hlt : l.length < s.safe
    · have hlt1 : (l.length : Int) < (s.safe : Int) := by omega
      have HM : Hid (l.length = min s.safe l.length) := by show _ = _; omega
      clear HT HU HL2 HR
      go_wp2
      go_region_law (fail)
      all_goals
        go_wp2
        go_end0
        exact ⟨rfl, _, l, w2, HQ.out, HEn.out _ HM.out⟩
    · have HM : Hid (s.safe = min s.safe l.length) := by show _ = _; omega
      have hlt1 : ¬ (l.length : Int) < (s.safe : Int) := by omega
      clear HT HU HL2 HR
      go_wp2
      go_region_law (fail)
      all_goals
        go_wp2
        go_end0
        exact ⟨rfl, _, l, w2, HQ.out, HEn.out _ HM.out⟩
end
end Go.Proofs.YtmgcfkpmknogaaaGreatDoor

/- Package dev's file: power fails; a deed. -/
namespace Go.Proofs.YtmgcfkpmknogaaaGreatDoor
open Go.RowKit
attribute [local go_sem] runK_store_func runK_store_nil

theorem box_cell {w : World} {b : Nat} {v : Value} {T : TypeId} (h : w.heap[b]? = some (.cells #[v] T)) : w.cell? ⟨b, 0, none⟩ = some v := by
  simp [World.cell?, h]
theorem box_free {w : World} {b : Nat} {v : Value} {T : TypeId} (h : w.heap[b]? = some (.cells #[v] T)) : w.frozen? ⟨b, 0, none⟩ = false := by
  simp [World.frozen?, h]
theorem box_lt {w : World} {b : Nat} {o : Obj} (h : w.heap[b]? = some o) : b < w.heap.size := (Array.getElem?_eq_some_iff.1 h).1

/-- a closure that was met: what change asks of it -/
abbrev Meets (f : FuncId) (env : Array Value) (w : World) (B g : Nat) (v : Value) (s : Dv.St) (k : Nat) (Q : Value → List UInt8 → World → Prop) : Prop :=
  ∀ w' x', w'.heap[g]? = some (.cells (kCells v s x' k (.func (.func f) #[] env)) 102) → Aside (· = g) w w' → Calls Tryz.prog f (#[v] ++ env) w' fun e w'' => ∃ u l, e = .returned u ∧ Has w'' B u l ∧ w''.heap[g]? = some (.cells (kCells v s x' k (.func (.func f) #[] env)) 102) ∧ Q u l w''

section
variable {B g : Nat} {v : Value} {s : Dv.St} {x k : Nat} {w : World}
set_option maxRecDepth 100000 in
set_option maxHeartbeats 1000000 in
theorem kLoose {q : Option Addr} {cap bx : Nat} {fv : Value} (hl : w.heap[g]? = some (.cells (kCells (.slice q s.b.length cap) s x k fv) 102)) (hb : w.heap[bx]? = some (.cells #[.pointer (some ⟨g, 0, none⟩)] 24)) (hs : s.safe ≤ s.b.length) (hlen : s.b.length ≤ 2097152) (hcap : s.b.length ≤ cap) (hk : k < 9223372036854775808) (n : Nat) (hn : n = s.safe + min k (s.b.length - s.safe)) :
    Calls Tryz.prog 176 #[.slice q s.b.length cap, .pointer (some ⟨bx, 0, none⟩)] w fun e w' => e = .returned (.slice q n cap) ∧ ∃ m, w' = w.drewN m := by
  have c2 : w.cell? ⟨g, 2, none⟩ = some (.int .i64 s.safe) := k_cell hl 2
  have c8 : w.cell? ⟨g, 8, none⟩ = some (.int .i64 k) := k_cell hl 8
  have cb := box_cell hb
  clear hl hb
  by_cases hlt : s.b.length - s.safe < k
  · have hlt1 : (s.b.length : Int) - (s.safe : Int) < (k : Int) := by omega
    have HM : Hid (n = s.safe + (s.b.length - s.safe)) := by show _ = _; omega
    rw [HM.out]
    clear hn
    go_enter Tryz.func176, Tryz.ntmps176
    go_wp2
    go_quiet (fail)
    go_wp2
    go_ret
    exact ⟨rfl, _, rfl⟩
  · have hlt1 : ¬ (s.b.length : Int) - (s.safe : Int) < (k : Int) := by omega
    have HM : Hid (n = s.safe + k) := by show _ = _; omega
    have hkl : s.safe + k ≤ s.b.length := by omega
    rw [HM.out]
    clear hn
    go_enter Tryz.func176, Tryz.ntmps176
    go_wp2
    go_quiet (fail)
    go_wp2
    go_ret
    exact ⟨rfl, _, rfl⟩

theorem fails_take (hs : s.safe ≤ s.b.length) (hk : k = s.keep) : (Dv.fails s).b = s.b.take (s.safe + min k (s.b.length - s.safe)) := by
  subst hk
  unfold Dv.fails
  simp only
  split
  · rw [Nat.min_eq_left (by omega)]
  · rw [List.take_of_length_le (by omega)]

theorem power_end {q : Option Addr} {cap n : Nat} {w3 : World} (ha : Aside (· = g) w w3) (h : KDev w3 B g (.slice q n cap) { s with b := s.b.take n, safe := s.safe } x k) (hF : (Dv.fails s).b = s.b.take n) :
    ∃ v', KDev ((((w3.setCell ⟨g, 5, none⟩ (.bool true)).setCell ⟨g, 6, none⟩ (.bool false)).setCell ⟨g, 7, none⟩ (.int .i64 0)).setCell ⟨g, 8, none⟩ (.int .i64 0)).drew B g v' (Dv.fails s) 0 0 ∧ Aside (fun i => i = g) w ((((w3.setCell ⟨g, 5, none⟩ (.bool true)).setCell ⟨g, 6, none⟩ (.bool false)).setCell ⟨g, 7, none⟩ (.int .i64 0)).setCell ⟨g, 8, none⟩ (.int .i64 0)).drew ∧ v'.ownBlock = (Value.slice q s.b.length cap).ownBlock := by
  have l1 : (w3.setCell ⟨g, 5, none⟩ (.bool true)).heap[g]? = some (.cells (kCells (.slice q n cap) { s with down := true } x k .nilFunc) 102) := k_set h.lies 5 _ rfl
  have l2 : ((w3.setCell ⟨g, 5, none⟩ (.bool true)).setCell ⟨g, 6, none⟩ (.bool false)).heap[g]? = some (.cells (kCells (.slice q n cap) { s with down := true, bound := false } x k .nilFunc) 102) := k_set l1 6 _ rfl
  have l3 : (((w3.setCell ⟨g, 5, none⟩ (.bool true)).setCell ⟨g, 6, none⟩ (.bool false)).setCell ⟨g, 7, none⟩ (.int .i64 0)).heap[g]? = some (.cells (kCells (.slice q n cap) { s with down := true, bound := false } 0 k .nilFunc) 102) := k_set l2 7 _ rfl
  have l4 : ((((w3.setCell ⟨g, 5, none⟩ (.bool true)).setCell ⟨g, 6, none⟩ (.bool false)).setCell ⟨g, 7, none⟩ (.int .i64 0)).setCell ⟨g, 8, none⟩ (.int .i64 0)).heap[g]? = some (.cells (kCells (.slice q n cap) (Dv.fails s) 0 0 .nilFunc) 102) := k_set l3 8 _ rfl
  have ha3 : Aside (fun i => i = g) w3 ((((w3.setCell ⟨g, 5, none⟩ (.bool true)).setCell ⟨g, 6, none⟩ (.bool false)).setCell ⟨g, 7, none⟩ (.int .i64 0)).setCell ⟨g, 8, none⟩ (.int .i64 0)).drew :=
    (((((Aside.refl (fun i => i = g) w3).setCell (p := ⟨g, 5, none⟩) (.inl rfl) _).setCell (p := ⟨g, 6, none⟩) (.inl rfl) _).setCell (p := ⟨g, 7, none⟩) (.inl rfl) _).setCell (p := ⟨g, 8, none⟩) (.inl rfl) _).drew
  refine ⟨.slice q n cap, ⟨l4, ?_, h.base, fun hc => by simp [Dv.fails] at hc, by omega, by omega⟩, ha.trans ha3 (fun _ _ h => h), by cases q <;> rfl⟩
  rw [hF]
  exact h.has.aside ha3 (fun j hj hc => h.apart (by rw [hj, hc]))

set_option maxRecDepth 100000 in
set_option maxHeartbeats 1000000 in
theorem kPower (h : KDev w B g v s x k) (hs : s.safe ≤ s.b.length) (hlen : s.b.length ≤ 2097152) (hk : k = s.keep) :
    Calls Tryz.prog 134 #[.pointer (some ⟨g, 0, none⟩)] w fun e w' => e = .returned (.tuple #[]) ∧ ∃ v', KDev w' B g v' (Dv.fails s) 0 0 ∧ Aside (· = g) w w' ∧ v'.ownBlock = v.ownBlock := by
  obtain ⟨q, cap, hv, -, hcap⟩ := h.has.at
  subst hv
  obtain ⟨n, hn⟩ : ∃ n, n = s.safe + min k (s.b.length - s.safe) := ⟨_, rfl⟩
  have hnl : n ≤ s.b.length := by omega
  have hsn : s.safe ≤ n := by omega
  have HF : Hid ((Dv.fails s).b = s.b.take n) := by show _ = _; rw [hn]; exact fails_take hs hk
  have hg := h.lt
  have hK1 : KDev (w.alloc (.cells #[.pointer (some ⟨g, 0, none⟩)] 24)) B g (.slice q s.b.length cap) s x k := h.below ((Below.refl _ _).alloc (Nat.le_refl _) _)
  have hbx := heap_new w (.cells #[.pointer (some ⟨g, 0, none⟩)] 24)
  have HC := Lib.hid (change_any 176 #[.pointer (some ⟨w.heap.size, 0, none⟩)] (fun u l w'' => u = .slice q n cap ∧ l = s.b.take n ∧ Aside (· = g) (w.alloc (.cells #[.pointer (some ⟨g, 0, none⟩)] 24)) w'') hK1 (fun args w => enters_bodyD Tryz.func176 (by kernel_rfl) rfl args w) (fun w' hl' ha' => by
    have hb' : w'.heap[w.heap.size]? = some (.cells #[.pointer (some ⟨g, 0, none⟩)] 24) := by rw [ha'.block _ (box_lt hbx) (by omega)]; exact hbx
    refine (kLoose hl' hb' hs hlen hcap h.keep n hn).mono ?_
    rintro e w'' ⟨rfl, m, rfl⟩
    exact ⟨_, s.b.take n, rfl, ((hK1.has.aside ha' (fun j hj hc => hK1.apart (by rw [hj, hc]))).drewN m).cut hnl, hl', rfl, rfl, ha'.drewN m⟩))
  have HR := Lib.hid h
  have HBx := Lib.hid hbx
  have HS : Hid (min s.safe (s.b.take n).length = s.safe) := by show _ = _; rw [List.length_take]; omega
  clear h hK1 hbx hn
  go_enter Tryz.func134, Tryz.ntmps134
  go_wp2_with fail
  refine HC.out.mono ?_
  rintro e w3 ⟨rfl, u, l, w2, ⟨rfl, rfl, ha2⟩, ha3, hK3⟩
  rw [HS.out] at hK3
  have ha13 := ha2.trans ha3 (fun _ _ h => h)
  have hb3 : w3.heap[w.heap.size]? = some (.cells #[.pointer (some ⟨g, 0, none⟩)] 24) := by rw [ha13.block _ (box_lt HBx.out) (by omega)]; exact HBx.out
  have cb := box_cell hb3
  have c5 : w3.cell? ⟨g, 5, none⟩ = some (.bool s.down) := hK3.cell 5
  have c6 : w3.cell? ⟨g, 6, none⟩ = some (.bool s.bound) := hK3.cell 6
  have c7 : w3.cell? ⟨g, 7, none⟩ = some (.int .i64 x) := hK3.cell 7
  have c8 : w3.cell? ⟨g, 8, none⟩ = some (.int .i64 k) := hK3.cell 8
  have f5 := hK3.thawed 5
  have f6 := hK3.thawed 6
  have f7 := hK3.thawed 7
  have f8 := hK3.thawed 8
  have HA3 : Hid (Aside (· = g) w w3) := ((Aside.refl (· = g) w).alloc _).trans ha13 (fun _ _ h => h)
  have HEnd := Lib.hid (power_end HA3.out hK3 HF.out)
  have hne : w.heap.size ≠ g := by omega
  clear ha2 ha3 hK3 ha13 hb3 HC HBx
  go_wp2
  go_region_law (fail)
  all_goals
    go_wp2
    go_end0
    exact ⟨rfl, HEnd.out⟩

set_option maxRecDepth 100000 in
set_option maxHeartbeats 1000000 in
theorem deed_fails (fv : Value) (h : KDev w B g v s x k) (hm : Dv.may s = false) (hs : s.safe ≤ s.b.length) (hlen : s.b.length ≤ 2097152) :
    Calls Tryz.prog 98 #[.pointer (some ⟨g, 0, none⟩), fv] w fun e w' => e = .returned (.int .i64 51) ∧ ∃ v', KDev w' B g v' (Dv.fails s) 0 0 ∧ Aside (· = g) w w' ∧ v'.ownBlock = v.ownBlock := by
  have hbd : s.bound = true := by
    cases hb : s.bound with
    | true => rfl
    | false => simp [Dv.may, hb] at hm
  have haft : s.after = 0 := by simpa [Dv.may, hbd] using hm
  have c6 : w.cell? ⟨g, 6, none⟩ = some (.bool true) := by rw [← hbd]; exact h.cell 6
  have c7 : w.cell? ⟨g, 7, none⟩ = some (.int .i64 0) := by have := h.cell 7; rw [this]; simp [kCells, (h.due hbd).1, haft]
  have HP := Lib.hid (kPower h hs hlen (h.due hbd).2)
  clear h hm hbd haft
  go_enter Tryz.func98, Tryz.ntmps98
  go_wp2_with fail
  refine HP.out.mono ?_
  rintro e w1 ⟨rfl, hP⟩
  have HP1 := Lib.hid hP
  clear hP
  go_wp2
  go_ret
  exact ⟨rfl, HP1.out⟩

set_option maxRecDepth 100000 in
set_option maxHeartbeats 1000000 in
theorem deed_did (f : FuncId) (env : Array Value) (Q : Value → List UInt8 → World → Prop) (h : KDev w B g v s x k) (hm : Dv.may s = true) (hd : s.done < 4611686018427387904) (hE : ∀ (args : Array Value) (w : World), (callFunc f args).run Tryz.prog w = .ok (.enter f args) w) (hT : Meets f env w B g v s k Q) :
    Calls Tryz.prog 98 #[.pointer (some ⟨g, 0, none⟩), .func (.func f) #[] env] w fun e w3 => e = .returned (.int .i64 0) ∧ ∃ u l w'' x', Q u l w'' ∧ Aside (· = g) w'' w3 ∧ KDev w3 B g u { Dv.did s with b := l, safe := min s.safe l.length } x' k := by
  have c6 : w.cell? ⟨g, 6, none⟩ = some (.bool s.bound) := h.cell 6
  have c7 : w.cell? ⟨g, 7, none⟩ = some (.int .i64 x) := h.cell 7
  have f7 := h.thawed 7
  have hx := h.left
  cases hbd : s.bound with
  | false =>
    rw [hbd] at c6
    have HC := Lib.hid (change_any f env Q h hE (fun w' hl ha => hT w' x hl ha))
    have HB := Lib.hid hbd
    clear h hT hE hbd
    go_enter Tryz.func98, Tryz.ntmps98
    go_wp2_with fail
    refine HC.out.mono ?_
    rintro e w3 ⟨rfl, u, l, w2, hq, ha, hK⟩
    have c4 : w3.cell? ⟨g, 4, none⟩ = some (.int .i64 s.done) := hK.cell 4
    have f4 := hK.thawed 4
    have HK : Hid (KDev (w3.setCell ⟨g, 4, none⟩ (.int .i64 ((s.done : Int) + 1))) B g u { Dv.did s with b := l, safe := min s.safe l.length } x k) := hK.put 4 _ (by simp [kCells, Dv.did]) rfl (fun hc => by simp [Dv.did, HB.out] at hc) hK.left hK.keep
    have HA := Lib.hid (ha.setCell (p := ⟨g, 4, none⟩) (.inl rfl) (.int .i64 ((s.done : Int) + 1)))
    have HQ := Lib.hid hq
    clear hq ha hK HC
    go_wp2
    go_ret
    exact ⟨rfl, u, l, w2, x, HQ.out, HA.out, HK.out⟩
  | true =>
    have hpos : 0 < s.after := by simpa [Dv.may, hbd] using hm
    have hx0 : x = s.after := (h.due hbd).1
    have hxp : 0 < x := by omega
    have hpos1 : (0 : Int) < (x : Int) := by omega
    have hz : ((x : Int) == 0) = false := by simp; omega
    have h1 : KDev (w.setCell ⟨g, 7, none⟩ (.int .i64 ((x : Int) - 1))) B g v { s with after := s.after - 1 } (x - 1) k := h.put 7 _ (by simp [kCells]; omega) rfl (fun _ => ⟨by simp [hx0], (h.due hbd).2⟩) (by omega) h.keep
    rw [hbd] at c6
    have HC := Lib.hid (change_any f env Q h1 hE (fun w' hl ha => hT w' (x - 1) hl (((Aside.refl (· = g) w).setCell (p := ⟨g, 7, none⟩) (.inl rfl) _).trans ha (fun _ _ h => h))))
    have HB := Lib.hid hbd
    clear h hT hE hbd h1 hpos hx0
    go_enter Tryz.func98, Tryz.ntmps98
    go_wp2_with fail
    refine HC.out.mono ?_
    rintro e w3 ⟨rfl, u, l, w2, hq, ha, hK⟩
    have c4 : w3.cell? ⟨g, 4, none⟩ = some (.int .i64 s.done) := hK.cell 4
    have f4 := hK.thawed 4
    have HK : Hid (KDev (w3.setCell ⟨g, 4, none⟩ (.int .i64 ((s.done : Int) + 1))) B g u { Dv.did s with b := l, safe := min s.safe l.length } (x - 1) k) := hK.put 4 _ (by simp [kCells, Dv.did]) rfl (fun _ => by have := hK.due HB.out; simpa [Dv.did, HB.out] using this) hK.left hK.keep
    have HA := Lib.hid (ha.setCell (p := ⟨g, 4, none⟩) (.inl rfl) (.int .i64 ((s.done : Int) + 1)))
    have HQ := Lib.hid hq
    clear hq ha hK HC
    go_wp2
    go_ret
    exact ⟨rfl, u, l, w2, x - 1, HQ.out, HA.out, HK.out⟩
end
end Go.Proofs.YtmgcfkpmknogaaaGreatDoor

/- Package dev's file: Cut, Damage, Tail. -/
namespace Go.Proofs.YtmgcfkpmknogaaaGreatDoor
open Go.RowKit
attribute [local go_sem] runK_store_func runK_store_nil

theorem KDev.drewN {w : World} {B g : Nat} {v : Value} {s : Dv.St} {x k : Nat} (h : KDev w B g v s x k) (j : Nat) : KDev (w.drewN j) B g v s x k := ⟨h.lies, h.has.drewN j, h.base, h.due, h.left, h.keep⟩

section
variable {B g : Nat} {v : Value} {s : Dv.St} {x k : Nat} {w : World}

set_option maxRecDepth 100000 in
set_option maxHeartbeats 1000000 in
theorem kCut1 {q : Option Addr} {cap bx n m : Nat} (hb : w.heap[bx]? = some (.cells #[.int .i64 n] 3)) (hn : n ≤ m) (hcap : m ≤ cap) :
    Calls Tryz.prog 145 #[.slice q m cap, .pointer (some ⟨bx, 0, none⟩)] w fun e w' => e = .returned (.slice q n cap) ∧ ∃ j, w' = w.drewN j := by
  have cb := box_cell hb
  have hnc : n ≤ cap := by omega
  clear hb
  go_enter Tryz.func145, Tryz.ntmps145
  go_wp2
  go_ret
  exact ⟨rfl, 0, rfl⟩

theorem cut_end {n : Nat} (hn : n ≤ s.b.length) : min s.safe (s.b.take n).length = (if n < s.safe then n else s.safe) ∨ ¬ s.safe ≤ s.b.length := by
  by_cases h : s.safe ≤ s.b.length
  · left
    rw [List.length_take]
    split <;> omega
  · exact .inr h

set_option maxRecDepth 100000 in
set_option maxHeartbeats 1000000 in
theorem kCut (h : KDev w B g v s x k) (n : Int) (hs : s.safe ≤ s.b.length) (hlen : s.b.length ≤ 2097152) (hd0 : s.done < 4611686018427387904) :
    Calls Tryz.prog 110 #[.pointer (some ⟨g, 0, none⟩), .int .i64 n] w (KPost w B g v (Dv.cut s n)) := by
  obtain ⟨q, cap, hv, -, hcap⟩ := h.has.at
  subst hv
  have hg := h.lt
  have hB1 : Below w.heap.size w (w.alloc (.cells #[.int .i64 n] 3)) := (Below.refl _ _).alloc (Nat.le_refl _) _
  have hK1 : KDev (w.alloc (.cells #[.int .i64 n] 3)) B g (.slice q s.b.length cap) s x k := h.below hB1
  have HK1 := Lib.hid hK1
  have HA1 : Hid (Aside (fun i => i = g ∨ (Value.slice q s.b.length cap).ownBlock = some i) w (w.alloc (.cells #[.int .i64 n] 3))) := aside_new hB1 _
  have c5 : w.cell? ⟨g, 5, none⟩ = some (.bool s.down) := h.cell 5
  have c0 : w.cell? ⟨g, 0, none⟩ = some (.slice q s.b.length cap) := h.cell 0
  have hbx := heap_new w (.cells #[.int .i64 n] 3)
  by_cases hd : s.down = true
  · have HE : Hid (Dv.cut s n = (50, s)) := by show _ = _; unfold Dv.cut; rw [if_pos hd]
    rw [hd] at c5
    clear hd h hK1 hbx hB1
    go_enter Tryz.func110, Tryz.ntmps110
    go_wp2
    go_ret
    unfold KPost
    rw [HE.out]
    exact ⟨rfl, _, _, _, HK1.out, HA1.out, fun _ h => .inl h⟩
  · have hd' : s.down = false := by simpa using hd
    rw [hd'] at c5
    by_cases hx : n < 0 ∨ (s.b.length : Int) < n
    · have HE : Hid (Dv.cut s n = (7, s)) := by show _ = _; unfold Dv.cut; rw [if_neg hd, if_pos hx]
      clear hd hd' h hK1 hbx hB1
      by_cases h0 : n < 0
      · have hb0 : decide (n < 0) = true := decide_eq_true h0
        clear hx
        go_enter Tryz.func110, Tryz.ntmps110
        go_wp2
        go_quiet (fail)
        go_wp2
        go_ret
        unfold KPost
        rw [HE.out]
        exact ⟨rfl, _, _, _, HK1.out.drewN _, HA1.out.drewN _, fun _ h => .inl h⟩
      · have hb0 : decide (n < 0) = false := decide_eq_false h0
        have h1 : (s.b.length : Int) < n := by omega
        clear hx
        go_enter Tryz.func110, Tryz.ntmps110
        go_wp2
        go_quiet (fail)
        go_wp2
        go_ret
        unfold KPost
        rw [HE.out]
        exact ⟨rfl, _, _, _, HK1.out.drewN _, HA1.out.drewN _, fun _ h => .inl h⟩
    · obtain ⟨m, rfl⟩ : ∃ m : Nat, n = (m : Int) := ⟨n.toNat, by omega⟩
      have hml : m ≤ s.b.length := by omega
      have hb0 : decide ((m : Int) < 0) = false := decide_eq_false (by omega)
      have hb1 : decide (s.b.length < m) = false := decide_eq_false (by omega)
      cases hm : Dv.may s with
      | false =>
        have HE : Hid (Dv.cut s m = (51, Dv.fails s)) := by show _ = _; unfold Dv.cut; rw [if_neg hd, if_neg hx, if_neg (by rw [hm]; simp)]
        have HD := Lib.hid (fun j => deed_fails (.func (.func 145) #[] #[.pointer (some ⟨w.heap.size, 0, none⟩)]) (hK1.drewN j) hm hs hlen)
        clear hd hd' hx hm h hK1 hbx hB1
        go_enter Tryz.func110, Tryz.ntmps110
        go_wp2_with fail
        go_quiet (fail)
        go_wp2_with fail
        refine (HD.out _).mono ?_
        rintro e w1 ⟨rfl, v', hK, ha, ho⟩
        have HK := Lib.hid hK
        have HA := Lib.hid ((HA1.out.drewN _).trans ha (fun _ _ h => .inl h))
        have HO := Lib.hid ho
        clear hK ha ho
        go_wp2
        go_ret
        unfold KPost
        rw [HE.out]
        exact ⟨rfl, _, _, _, HK.out, HA.out, fun i hi => .inl (by rw [← HO.out]; exact hi)⟩
      | true =>
        have HE : Hid (Dv.cut s m = (0, { Dv.did s with b := s.b.take m, safe := min s.safe (s.b.take m).length })) := by
          show _ = _
          unfold Dv.cut
          rw [if_neg hd, if_neg hx, if_pos (by rw [hm]), Int.toNat_natCast]
          rcases cut_end (s := s) hml with h | h
          · rw [h]
          · exact absurd hs h
        have HD := Lib.hid (fun j0 => deed_did 145 #[.pointer (some ⟨w.heap.size, 0, none⟩)] (fun u l w'' => u = .slice q m cap ∧ l = s.b.take m ∧ Aside (· = g) ((w.alloc (.cells #[.int .i64 (m : Int)] 3)).drewN j0) w'') (hK1.drewN j0) hm hd0 (fun args w => enters_bodyD Tryz.func145 (by kernel_rfl) rfl args w) (fun w' x' hl' ha' => by
          have hb' : w'.heap[w.heap.size]? = some (.cells #[.int .i64 (m : Int)] 3) := by rw [ha'.block _ (box_lt hbx) (by omega)]; exact hbx
          refine (kCut1 hb' hml hcap).mono ?_
          rintro e w'' ⟨rfl, j, rfl⟩
          exact ⟨_, s.b.take m, rfl, (((hK1.drewN j0).has.aside ha' (fun j hj hc => hK1.apart (by rw [hj, hc]))).drewN j).cut hml, hl', rfl, rfl, ha'.drewN j⟩))
        clear hd hd' hx hm h hK1 hbx hB1
        go_enter Tryz.func110, Tryz.ntmps110
        go_wp2_with fail
        go_quiet (fail)
        go_wp2_with fail
        refine (HD.out _).mono ?_
        rintro e w1 ⟨rfl, u, l, w2, x', ⟨rfl, rfl, ha2⟩, ha3, hK⟩
        have HK := Lib.hid hK
        have HA := Lib.hid ((HA1.out.drewN _).trans (ha2.trans ha3 (fun _ _ h => h)) (fun _ _ h => .inl h))
        clear hK ha2 ha3
        go_wp2
        go_ret
        unfold KPost
        rw [HE.out]
        exact ⟨rfl, _, _, _, HK.out, HA.out, fun i hi => .inl (by cases q <;> exact hi)⟩
end
end Go.Proofs.YtmgcfkpmknogaaaGreatDoor

/- Package dev's file: Damage, Tail; copies. -/
namespace Go.Proofs.YtmgcfkpmknogaaaGreatDoor
open Go.RowKit
attribute [local go_sem] runK_store_func runK_store_nil

/-- append of bytes onto a slice of the call's own, which may be nil, as they may be none -/
theorem onto_any (B : Nat) (v : Value) (xs l : List UInt8) (p : Option Addr) (c : Nat) (w : World) (hown : Has w B v xs) (h : At w p l) (hlen : xs.length + l.length ≤ 140737488355328) (hB : B ≤ w.heap.size) :
    ∃ (q : Option Addr) (cap : Nat) (W : World), AppRun Tryz.prog 22 22 22 v (.slice p l.length c) w (.slice q (xs ++ l).length cap) W ∧ Has W B (.slice q (xs ++ l).length cap) (xs ++ l) ∧ Aside (fun k => v.ownBlock = some k) w W ∧ (xs ++ l).length ≤ cap ∧ ∀ k, (Value.slice q (xs ++ l).length cap).ownBlock = some k → v.ownBlock = some k ∨ w.heap.size ≤ k := by
  obtain ⟨i, hi, hz, hsz, hby⟩ := info_parts info8
  by_cases h0 : l = []
  · subst h0
    obtain ⟨q, cap, rfl, -, hcap⟩ := hown.at
    rw [List.append_nil]
    exact ⟨q, cap, w, ⟨run_append_nothing (P := Tryz.prog) w 22 22 22 5 i Tryz.underlying22 hi q xs.length cap hcap (.slice p 0 c) (by rw [hsz]; exact src_bytes c h)⟩, hown, Aside.refl _ _, hcap, fun k hk => .inl hk⟩
  · obtain ⟨b, o, rfl, hbl, hc⟩ := at_some h (List.length_pos_iff.2 h0)
    obtain ⟨g, cap, W, hr, hm, hgr, hgb, _⟩ := run_append_lies (P := Tryz.prog) w 22 22 B 5 i (.int .u8 0) 1 1 Tryz.underlying22 hi hz hsz hby rfl (by decide) v xs.length (cellsOf xs) hown ⟨b, o, none⟩ l.length c (cellsOf l) (by rw [cellsOf_length, Nat.mul_one])
      (fun j u hj => by
        have hj2 : j < l.length := by
          have := (List.getElem?_eq_some_iff.1 hj).1
          simpa [cellsOf] using this
        rw [cellsOf_get l j hj2] at hj
        cases hj
        rw [Lib.add_plain]
        exact hc j hj2)
      (fun u hu => by obtain ⟨_, _, rfl⟩ := List.mem_map.1 hu; rfl) (List.length_pos_iff.2 h0) (by unfold maxLen; omega) (by omega) hB w.heap.size rfl
    rw [← cellsOf_append, ← List.length_append] at hm
    rw [← List.length_append] at hr
    have hH : Has W B (.slice (some ⟨g, 0, none⟩) (xs ++ l).length cap) (xs ++ l) := hm
    refine ⟨some ⟨g, 0, none⟩, cap, W, ⟨hr⟩, hH, aside_grown hgr, ?_, ?_⟩
    · obtain ⟨q', cap', he, _, h2⟩ := hH.at
      injection he with _ _ e2
      omega
    · intro k hk
      simp only [Value.ownBlock, Option.some.injEq] at hk
      subst hk
      rcases hgb with h1 | h1
      · exact .inl h1
      · exact .inr (by omega)

/-- in the walk -/
theorem wp_ontoA {B : Nat} {v : Value} {xs l : List UInt8} {p : Option Addr} {c : Nat} {w : World} (hown : Has w B v xs) (h : At w p l) (hlen : xs.length + l.length ≤ 140737488355328) (hB : B ≤ w.heap.size)
    {ops : Array Oper} {rest : List Oper} {o : Oper} {a : Act} {Q : Exit → Act → World → Prop} {y x : Operand}
    (ht : o.type = 22) (hg : o.guard = none) (hop : o.op = Op.call { callee := Callee.builtin Builtin.append, args := #[y, x], argTypes := #[22, 22] })
    (hs : a.eval y = v) (hx : a.eval x = .slice p l.length c)
    (hK : ∀ ys q cap W, Hid (ys = xs ++ l) → Has W B (.slice q ys.length cap) ys → Aside (fun k => v.ownBlock = some k) w W → (∀ k, (Value.slice q ys.length cap).ownBlock = some k → v.ownBlock = some k ∨ w.heap.size ≤ k) → wpList Tryz.prog ops Q rest (a.put o.dst (.slice q ys.length cap)) W) :
    wpList Tryz.prog ops Q (o :: rest) a w := by
  obtain ⟨q, cap, W, hr, hm, ha, -, hb⟩ := onto_any B v xs l p c w hown h hlen hB
  have hr' : AppRun Tryz.prog 22 22 o.type v (.slice p l.length c) w (.slice q (xs ++ l).length cap) W := by rw [ht]; exact hr
  exact wpList_append_ran hr' hg hop hs hx (hK _ q cap W (Lib.hid rfl) hm ha hb)

set_option maxRecDepth 100000 in
set_option maxHeartbeats 1000000 in
/-- copied(b): bytes of the caller's own -/
theorem kCopied (p : Option Addr) (c : Nat) (l : List UInt8) (hl : l.length ≤ 140737488351232) (w : World) (h : At w p l) :
    Calls Tryz.prog 68 #[.slice p l.length c] w fun e w' => ∃ q cap, e = .returned (.slice q l.length cap) ∧ Has w' w.heap.size (.slice q l.length cap) l ∧ Below w.heap.size w w' := by
  have HA := Lib.hid h
  clear h
  go_enter Tryz.func68, Tryz.ntmps68
  go_wp2_with (at_builtin; refine wp_ontoA (xs := []) (v := .slice none 0 0) (has_nil _ _) HA.out (by simp; omega) (Nat.le_refl _) rfl rfl rfl rfl rfl ?_; intro ys q cap W HY hH ha _)
  go_ret
  have hy : ys = l := HY.out
  subst hy
  exact ⟨q, cap, rfl, hH, ha.below (Nat.le_refl _) (fun k _ hk => by cases hk)⟩

section
variable {B g : Nat} {v : Value} {s : Dv.St} {x k : Nat} {w : World}

theorem kAll (h : KDev w B g v s x k) (hl : s.b.length ≤ 2097152) : Calls Tryz.prog 17 #[.pointer (some ⟨g, 0, none⟩)] w fun e w' => ∃ q cap, e = .returned (.slice q s.b.length cap) ∧ Has w' w.heap.size (.slice q s.b.length cap) s.b ∧ Below w.heap.size w w' := by
  have c0 : w.cell? ⟨g, 0, none⟩ = some v := h.cell 0
  obtain ⟨p, cap, hv, hA, -⟩ := h.has.at
  subst hv
  have HC := Lib.hid (kCopied p cap s.b (by omega) w hA)
  clear h hA
  go_enter Tryz.func17, Tryz.ntmps17
  go_wp2_with fail
  refine HC.out.mono ?_
  rintro e w1 ⟨q1, c1, rfl, hu, hb⟩
  have HU := Lib.hid hu
  have HB := Lib.hid hb
  clear hu hb
  go_wp2
  go_ret
  exact ⟨q1, c1, rfl, HU.out, HB.out⟩

end
end Go.Proofs.YtmgcfkpmknogaaaGreatDoor

/- Package dev's file: Damage, Tail. -/
namespace Go.Proofs.YtmgcfkpmknogaaaGreatDoor
open Go.RowKit
attribute [local go_sem] runK_store_func runK_store_nil

section
variable {B g : Nat} {v : Value} {s : Dv.St} {x k : Nat} {w : World}

set_option maxRecDepth 100000 in
set_option maxHeartbeats 1000000 in
theorem kTail1 {bx c : Nat} {l : List UInt8} {p : Option Addr} (hH : Has w B v s.b) (hb : w.heap[bx]? = some (.cells #[.slice p l.length c] 22)) (hA : At w p l) (hlen : s.b.length + l.length ≤ 140737488355328) (hB : B ≤ w.heap.size) :
    Calls Tryz.prog 100 #[v, .pointer (some ⟨bx, 0, none⟩)] w fun e w' => ∃ q cap, e = .returned (.slice q (s.b ++ l).length cap) ∧ Has w' B (.slice q (s.b ++ l).length cap) (s.b ++ l) ∧ Aside (fun k => v.ownBlock = some k) w w' ∧ ∀ k, (Value.slice q (s.b ++ l).length cap).ownBlock = some k → v.ownBlock = some k ∨ w.heap.size ≤ k := by
  have cb := box_cell hb
  have HH := Lib.hid hH
  have HA := Lib.hid hA
  obtain ⟨q0, cap0, hv, -, -⟩ := hH.at
  subst hv
  clear hb hH hA
  go_enter Tryz.func100, Tryz.ntmps100
  go_wp2_with (at_builtin; refine wp_ontoA HH.out HA.out (by omega) hB rfl rfl rfl rfl rfl ?_; intro ys q cap W HY hH2 ha hk)
  go_ret
  rw [← HY.out]
  exact ⟨q, cap, rfl, hH2, ha, hk⟩

/-- what Tail asks of change -/
theorem tail_change {bx c : Nat} {l : List UInt8} {p : Option Addr} (h : KDev w B g v s x k) (hb : w.heap[bx]? = some (.cells #[.slice p l.length c] 22)) (hx : bx ≠ g) (hA : At w p l) (hp : l ≠ [] → ∀ b o, p = some ⟨b, o, none⟩ → b ≠ g) (hlen : s.b.length + l.length ≤ 2097152) (hB : B ≤ w.heap.size) :
    Calls Tryz.prog 99 #[.pointer (some ⟨g, 0, none⟩), .func (.func 100) #[] #[.pointer (some ⟨bx, 0, none⟩)]] w fun e w3 => e = .returned (.tuple #[]) ∧ ∃ q cap, KDev w3 B g (.slice q (s.b ++ l).length cap) { s with b := s.b ++ l, safe := min s.safe (s.b ++ l).length } x k ∧ Aside (fun j => j = g ∨ v.ownBlock = some j) w w3 ∧ ∀ i, (Value.slice q (s.b ++ l).length cap).ownBlock = some i → v.ownBlock = some i ∨ w.heap.size ≤ i := by
  refine (change_any 100 #[.pointer (some ⟨bx, 0, none⟩)] (fun u l' w'' => l' = s.b ++ l ∧ Aside (fun j => j = g ∨ v.ownBlock = some j) w w'' ∧ ∃ q cap, u = .slice q (s.b ++ l).length cap ∧ ∀ i, u.ownBlock = some i → v.ownBlock = some i ∨ w.heap.size ≤ i) h (fun args w => enters_bodyD Tryz.func100 (by kernel_rfl) rfl args w) (fun w' hl' ha' => ?_)).mono ?_
  · have hb' : w'.heap[bx]? = some (.cells #[.slice p l.length c] 22) := by rw [ha'.block _ (box_lt hb) hx]; exact hb
    have hH := h.has.aside ha' (fun j hj hc => h.apart (by rw [hj, hc]))
    have hA' : At w' p l := by
      by_cases h0 : l = []
      · exact .inl h0
      · exact hA.aside ha' (fun b o he => hp h0 b o he)
    refine (kTail1 hH hb' hA' (by omega) (Nat.le_trans hB ha'.size)).mono ?_
    rintro e w'' ⟨q, cap, rfl, hH2, ha2, hk⟩
    refine ⟨_, s.b ++ l, rfl, hH2, ?_, rfl, (ha'.mono (fun i _ hi => .inl hi)).trans ha2 (fun _ _ h => .inr h), q, cap, rfl, fun i hi => ?_⟩
    · rw [ha2.block g (box_lt hl') h.apart]; exact hl'
    · rcases hk i hi with h1 | h1
      · exact .inl h1
      · exact .inr (Nat.le_trans ha'.size h1)
  · rintro e w3 ⟨rfl, u, l', w2, ⟨rfl, ha2, q, cap, rfl, hk⟩, ha3, hK⟩
    exact ⟨rfl, q, cap, hK, ha2.trans ha3 (fun _ _ h => .inl h), hk⟩

set_option maxRecDepth 100000 in
set_option maxHeartbeats 1000000 in
theorem kTail (h : KDev w B g v s x k) (p : Option Addr) (c : Nat) (l : List UInt8) (hA : At w p l) (hp : l ≠ [] → ∀ b o, p = some ⟨b, o, none⟩ → b ≠ g) (hb : s.b.length ≤ 2097152) (hB : B ≤ w.heap.size) :
    Calls Tryz.prog 51 #[.pointer (some ⟨g, 0, none⟩), .slice p l.length c] w (KPost w B g v (Dv.tail s l)) := by
  have hg := h.lt
  have hB1 : Below w.heap.size w (w.alloc (.cells #[.slice p l.length c] 22)) := (Below.refl _ _).alloc (Nat.le_refl _) _
  have hK1 := h.below hB1
  have HK1 := Lib.hid hK1
  have HA1 : Hid (Aside (fun i => i = g ∨ v.ownBlock = some i) w (w.alloc (.cells #[.slice p l.length c] 22))) := aside_new hB1 _
  have c0 : w.cell? ⟨g, 0, none⟩ = some v := h.cell 0
  obtain ⟨q, cap, hv, -, hcap⟩ := h.has.at
  subst hv
  by_cases hx : 2097152 < s.b.length + l.length
  · have HE : Hid (Dv.tail s l = (2, s)) := by show _ = _; unfold Dv.tail; rw [if_pos hx]
    have hx1 : (2097152 : Int) - (s.b.length : Int) < (l.length : Int) := by omega
    clear h hA hp hB hK1 hB1
    go_enter Tryz.func51, Tryz.ntmps51
    go_wp2
    go_quiet (fail)
    go_wp2
    go_ret
    unfold KPost
    rw [HE.out]
    exact ⟨rfl, _, _, _, HK1.out.drewN _, HA1.out.drewN _, fun _ h => .inl h⟩
  · have HE : Hid (Dv.tail s l = (0, { s with b := s.b ++ l, safe := (s.b ++ l).length })) := by show _ = _; unfold Dv.tail; rw [if_neg hx]
    have hx1 : ¬ (2097152 : Int) - (s.b.length : Int) < (l.length : Int) := by omega
    have HC := Lib.hid (fun j => tail_change (c := c) (bx := w.heap.size) (hK1.drewN j) (heap_new w _) (by omega) ((hA.on hB1).drewN j) hp (by omega) (by simp; omega))
    clear h hA hp hK1 hB1
    go_enter Tryz.func51, Tryz.ntmps51
    go_wp2_with fail
    go_quiet (fail)
    go_wp2_with fail
    refine (HC.out _).mono ?_
    rintro e w3 ⟨rfl, q3, cap3, hK, ha, hk⟩
    have HA := Lib.hid ((HA1.out.drewN _).trans ha (fun _ _ h => h))
    have HKk : Hid (∀ i, (Value.slice q3 (s.b ++ l).length cap3).ownBlock = some i → (Value.slice q s.b.length cap).ownBlock = some i ∨ w.heap.size ≤ i) := fun i hi => by
      rcases hk i hi with h1 | h1
      · exact .inl h1
      · exact .inr (by simp at h1; omega)
    have c3 : w3.cell? ⟨g, 0, none⟩ = some (.slice q3 (s.b ++ l).length cap3) := hK.cell 0
    have c2 : w3.cell? ⟨g, 2, none⟩ = some (.int .i64 ((min s.safe (s.b ++ l).length : Nat) : Int)) := hK.cell 2
    have f2 := hK.thawed 2
    have HK : Hid (KDev (w3.setCell ⟨g, 2, none⟩ (.int .i64 ((s.b ++ l).length : Nat))) B g (.slice q3 (s.b ++ l).length cap3) { s with b := s.b ++ l, safe := (s.b ++ l).length } x k) := hK.put 2 _ rfl rfl hK.due hK.left hK.keep
    generalize s.b ++ l = ys at HK HKk HE c3 c2 ⊢
    generalize min s.safe ys.length = mm at c2
    clear hK ha hk
    go_wp2
    go_ret
    unfold KPost
    rw [HE.out]
    exact ⟨rfl, _, _, _, HK.out, HA.out.setCell (.inl (.inl rfl)) _, HKk.out⟩
end
end Go.Proofs.YtmgcfkpmknogaaaGreatDoor

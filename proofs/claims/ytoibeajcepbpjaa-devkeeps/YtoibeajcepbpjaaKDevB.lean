/- Package dev's file: whatever changes its bytes goes through change, handed a function value. -/
import Derived.Test.YtoibeajcepbpjaaKDevA
namespace Go.Proofs.Ytoibeajcepbpjaa
open Go.RowKit

/-- a call of a function that has a body enters it -/
theorem enters_body {P : Program} {f : FuncId} {fn : Func} {c : Code} (hf : P.funcs[f]? = some fn) (hname : (fn.name == "runtime.NumGoroutine") = false) (hb : fn.body = some c) (args : Array Value) (w : World) :
    (callFunc f args).run P w = .ok (.enter f args) w := by
  have h1 : fn.name ≠ "runtime.NumGoroutine" := by simpa using hname
  simp [callFunc, hf, h1, hb]

/-- a beginning of a slice of one's own -/
theorem Has.cut {w : World} {B n cap m : Nat} {q : Option Addr} {l : List UInt8} (h : Has w B (.slice q m cap) l) (hn : n ≤ l.length) : Has w B (.slice q n cap) (l.take n) := by
  have el : (l.take n).length = n := by rw [List.length_take]; omega
  unfold Has World.ownsRow
  rw [el]
  refine ⟨by rw [cellsOf_length, el, Nat.mul_one], ?_⟩
  rcases h.2 with ⟨h1, h0⟩ | ⟨g', cap', cur, h1, h2, h3, h4, h5, h6, h7⟩
  · have : n = 0 := by omega
    subst this
    cases h1
    exact .inl ⟨rfl, rfl⟩
  · cases h1
    refine .inr ⟨g', cap, cur, rfl, h2, h3, by omega, h5, h6, ?_⟩
    have : cur.toList.take (n * 1) = (cur.toList.take (l.length * 1)).take (n * 1) := by rw [List.take_take, Nat.min_eq_left (by omega)]
    rw [this, h7]
    simp [cellsOf, List.map_take]

theorem runK_store_func (P : Program) (w : World) (a : Addr) (m : Mode) (fn : Fn) (first captured : Array Value) : (store a (.func fn first captured) m).run P w = stored P w a (.func fn first captured) m := run_store P w a _ m rfl
theorem runK_store_nil (P : Program) (w : World) (a : Addr) (m : Mode) : (store a .nilFunc m).run P w = stored P w a .nilFunc m := run_store P w a _ m rfl
attribute [local go_sem] runK_store_func runK_store_nil

/-- a call of a function value of one argument, at a step of a region that draws -/
theorem step_callv {w : World} {ops : Array Oper} {o : Oper} {a : Act} {K : Act → World → Prop} {Q : Exit → Act → World → Prop} {E : Prop} {f : FuncId} {env : Array Value} {u : Value} {R : Ending → World → Prop} (y x : Operand) (t : TypeId)
    (hg : o.guard = none) (hop : o.op = Op.call { callee := .value y, args := #[x], argTypes := #[t] }) (hy : a.eval y = .func (.func f) #[] env) (hx : a.eval x = u)
    (hE : ∀ (args : Array Value) (w : World), (callFunc f args).run Try.prog w = .ok (.enter f args) w)
    (hc : Calls Try.prog f (#[u] ++ env) w R) (hR : ∀ e w', R e w' → ∃ v, e = .returned v ∧ K (a.put o.dst v) w') :
    if Region.wanted o (yielded ops a.tmps) = true then Oper.wp Try.prog o a w K Q else E := by
  have hw : Region.wanted o (yielded ops a.tmps) = true := by simp [Region.wanted, hg]
  rw [if_pos hw]
  unfold Oper.wp
  have he : (execOp a.eval o).run Try.prog w = .ok (.enter f (#[u] ++ env)) w := by
    simp [execOp, hop, resolve, invoke, hx, hy, Deferred.ofValue, hE]
  rw [he, Oper.upon_enter]
  refine hc.mono ?_
  intro e w' hr
  obtain ⟨v, rfl, hk⟩ := hR e w' hr
  exact hk

/-- what change does behind the call -/
theorem change_end {B g : Nat} {v : Value} {s : Dv.St} {x k cap : Nat} {q : Option Addr} {l : List UInt8} {fv : Value} {w2 : World} (hu : Has w2 B (.slice q l.length cap) l) (hl2 : w2.heap[g]? = some (.cells (kCells v s x k fv) 53)) (hB : B ≤ g) (hd : s.bound = true → x = s.after ∧ k = s.keep) (hx : x < 9223372036854775808) (hk : k < 9223372036854775808) (m : Nat) (hm : m = min s.safe l.length) :
    Aside (· = g) w2 (((w2.setCell ⟨g, 0, none⟩ (.slice q l.length cap)).setCell ⟨g, 9, none⟩ .nilFunc).setCell ⟨g, 2, none⟩ (.int .i64 (m : Int))).drew ∧ KDev (((w2.setCell ⟨g, 0, none⟩ (.slice q l.length cap)).setCell ⟨g, 9, none⟩ .nilFunc).setCell ⟨g, 2, none⟩ (.int .i64 (m : Int))).drew B g (.slice q l.length cap) { s with b := l, safe := min s.safe l.length } x k := by
  have l3 : (w2.setCell ⟨g, 0, none⟩ (.slice q l.length cap)).heap[g]? = some (.cells (kCells (.slice q l.length cap) s x k fv) 53) := k_set hl2 0 _ rfl
  have l4 : ((w2.setCell ⟨g, 0, none⟩ (.slice q l.length cap)).setCell ⟨g, 9, none⟩ .nilFunc).heap[g]? = some (.cells (kCells (.slice q l.length cap) s x k .nilFunc) 53) := k_set l3 9 _ rfl
  have l5 : (((w2.setCell ⟨g, 0, none⟩ (.slice q l.length cap)).setCell ⟨g, 9, none⟩ .nilFunc).setCell ⟨g, 2, none⟩ (.int .i64 (m : Int))).drew.heap[g]? = some (.cells (kCells (.slice q l.length cap) { s with b := l, safe := min s.safe l.length } x k .nilFunc) 53) := by
    rw [← hm]
    exact k_set l4 2 _ rfl
  have ha : Aside (· = g) w2 (((w2.setCell ⟨g, 0, none⟩ (.slice q l.length cap)).setCell ⟨g, 9, none⟩ .nilFunc).setCell ⟨g, 2, none⟩ (.int .i64 (m : Int))).drew := ((((Aside.refl (· = g) w2).setCell (p := ⟨g, 0, none⟩) (.inl rfl) _).setCell (p := ⟨g, 9, none⟩) (.inl rfl) _).setCell (p := ⟨g, 2, none⟩) (.inl rfl) _).drew
  exact ⟨ha, l5, hu.aside ha (fun j hj hc => has_apart hu hl2 (by decide) (by rw [hj, hc])), hB, hd, hx, hk⟩

section
variable {B g : Nat} {v : Value} {s : Dv.St} {x k : Nat} {w : World}

set_option maxHeartbeats 1000000 in
theorem change_any (f : FuncId) (env : Array Value) (Q : Value → List UInt8 → World → Prop) (h : KDev w B g v s x k) (hE : ∀ (args : Array Value) (w : World), (callFunc f args).run Try.prog w = .ok (.enter f args) w)
    (hT : ∀ w', w'.heap[g]? = some (.cells (kCells v s x k (.func (.func f) #[] env)) 53) → Aside (· = g) w w' → Calls Try.prog f (#[v] ++ env) w' fun e w'' => ∃ u l, e = .returned u ∧ Has w'' B u l ∧ w''.heap[g]? = some (.cells (kCells v s x k (.func (.func f) #[] env)) 53) ∧ Q u l w'') :
    Calls Try.prog 51 #[.pointer (some ⟨g, 0, none⟩), .func (.func f) #[] env] w fun e w3 => e = .returned (.tuple #[]) ∧ ∃ u l w'', Q u l w'' ∧ Aside (· = g) w'' w3 ∧ KDev w3 B g u { s with b := l, safe := min s.safe l.length } x k := by
  have c9 : w.cell? ⟨g, 9, none⟩ = some .nilFunc := h.cell 9
  have f9 := h.thawed 9
  have HR := Lib.hid h
  have l1 : (w.setCell ⟨g, 9, none⟩ (.func (.func f) #[] env)).heap[g]? = some (.cells (kCells v s x k (.func (.func f) #[] env)) 53) := k_set h.lies 9 _ rfl
  have d0 : (w.setCell ⟨g, 9, none⟩ (.func (.func f) #[] env)).cell? ⟨g, 0, none⟩ = some v := k_cell l1 0
  have d9 : (w.setCell ⟨g, 9, none⟩ (.func (.func f) #[] env)).cell? ⟨g, 9, none⟩ = some (.func (.func f) #[] env) := k_cell l1 9
  have HT := Lib.hid (hT (w.setCell ⟨g, 9, none⟩ (.func (.func f) #[] env)).drew l1 (((Aside.refl (· = g) w).setCell (p := ⟨g, 9, none⟩) (.inl rfl) _).drew))
  have HE := Lib.hid hE
  clear hT h l1 hE
  go_enter Try.func51, Try.ntmps51
  go_wp2_with fail
  go_region_law (refine step_callv (.tmp 12) (.tmp 16) 32 (by rfl) (by rfl) (by rfl) (by rfl) HE.out HT.out ?_; rintro e w2 ⟨u, l, rfl, hu, hl2, hQ⟩; refine ⟨_, rfl, ?_⟩; obtain ⟨q, cap, hvu, -, -⟩ := hu.at; subst hvu; have c0 : w2.cell? ⟨g, 0, none⟩ = some v := k_cell hl2 0; have f0 := k_free hl2 0; have HU := Lib.hid hu; have HL2 := Lib.hid hl2; have HQ := Lib.hid hQ; clear hu hl2 hQ)
  all_goals
    have f9' := k_free HL2.out 9
    have f2 := k_free HL2.out 2
    have e2 : w2.cell? ⟨g, 2, none⟩ = some (.int .i64 s.safe) := k_cell HL2.out 2
    have e99 : w2.cell? ⟨g, 9, none⟩ = some (.func (.func f) #[] env) := k_cell HL2.out 9
    have HEn := Lib.hid (change_end HU.out HL2.out HR.out.base HR.out.due HR.out.left HR.out.keep)
    by_cases hlt : l.length < s.safe
    · have hlt1 : (l.length : Int) < (s.safe : Int) := by omega
      have HM : Hid (l.length = min s.safe l.length) := by show _ = _; omega
      clear HT HU HL2 HR
      go_wp2
      go_region_law (fail)
      all_goals
        go_wp2
        go_end0
        exact ⟨rfl, _, l, w2, HQ.out, HEn.out _ HM.out⟩
    · have HM : Hid (s.safe = min s.safe l.length) := by show _ = _; omega
      have hlt1 : ¬ (l.length : Int) < (s.safe : Int) := by omega
      clear HT HU HL2 HR
      go_wp2
      go_region_law (fail)
      all_goals
        go_wp2
        go_end0
        exact ⟨rfl, _, l, w2, HQ.out, HEn.out _ HM.out⟩
end
end Go.Proofs.Ytoibeajcepbpjaa

/- A call of a Go function without an argument, at a step of a region that draws. -/
import Derived.Test.YtdahackmmhcjoaaM11
namespace Go.Proofs.Ytdahackmmhcjoaa
open Go.RowKit

theorem step_call0 {w : World} {ops : Array Oper} {o : Oper} {a : Act} {K : Act → World → Prop} {Q : Exit → Act → World → Prop} {E : Prop} {f : FuncId} {fn : Func} {code : Code} {R : Ending → World → Prop}
    (hg : o.guard = none) (hop : o.op = Op.call { callee := .value (.func f), args := #[], argTypes := #[] })
    (hf : Try.prog.funcs[f]? = some fn) (hname : (fn.name == "runtime.NumGoroutine") = false) (hb : fn.body = some code)
    (hc : Calls Try.prog f #[] w R) (hR : ∀ e w', R e w' → ∃ z, e = .returned z ∧ K (a.put o.dst z) w') :
    if Region.wanted o (yielded ops a.tmps) = true then Oper.wp Try.prog o a w K Q else E := by
  have hw : Region.wanted o (yielded ops a.tmps) = true := by simp [Region.wanted, hg]
  rw [if_pos hw]
  have h1 : fn.name ≠ "runtime.NumGoroutine" := by simpa using hname
  unfold Oper.wp
  have he : (execOp a.eval o).run Try.prog w = .ok (.enter f #[]) w := by
    have hev : a.eval (.func f) = .func (.func f) #[] #[] := rfl
    simp [execOp, hop, resolve, invoke, hev, Deferred.ofValue, callFunc, hf, h1, hb]
  rw [he, Oper.upon_enter]
  refine hc.mono ?_
  intro e w' hr
  obtain ⟨z, rfl, hk⟩ := hR e w' hr
  exact hk
end Go.Proofs.Ytdahackmmhcjoaa

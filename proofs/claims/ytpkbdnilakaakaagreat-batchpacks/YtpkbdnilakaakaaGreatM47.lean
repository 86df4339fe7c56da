/- K11A: put together. -/
import Derived.RangeFuncNested
import Derived.RangeFuncBound
import Derived.RangeFuncCalls
import Derived.RangeFuncLeaves
import Derived.Shelf.Abstract
import Derived.Shelf.RegionOpen
import Derived.WalkKit
import Derived.OwnWalkIn
import Derived.TacticsInMore
import Derived.LoopNIn
import Derived.LoopIn
import Derived.Test.YtpkbdnilakaakaaGreatM02

/- A range over a function, where what is told in a round lies in the world: the statement, a round, an append within a round. -/
namespace Go.Proofs.YtpkbdnilakaakaaGreat
open Go.RowKit Go.Shelf

/-- the record of a loop over a function -/
abbrev recd (fn : FuncId) (tmps : Array Value) (ps : Array Tmp) (assign body : Code) (D : Nat) (st : LoopState) (pe : Option Code) : Loop := { state := st, pending := pe, fn := fn, tmps := tmps, params := ps, assign := assign, body := body, defers := D }

/-- how a round's body ends: it goes on, or it returns -/
def bodyEnd (l : Nat) (L : LoopState → Option Code → Loop) (R : Bool → World → Prop) : Exit → Act → World → Prop
  | .normal, _, W => W.heap[l]? = some (.loop (L .busy none)) ∧ R true (W.putObj l (.loop (L .ready none)))
  | .ret, _, W => W.heap[l]? = some (.loop (L .busy none)) ∧ R false (W.putObj l (.loop (L .done (some .ret))))
  | _, _, _ => False

/-- a round -/
theorem round_ran {m : Nat} {P : Program} {l D : Nat} {fn : FuncId} {tmps : Array Value} {ps : Array Tmp} {assign body : Code} {args : Array Value} {W : World} {R : Bool → World → Prop}
    (hl : W.heap[l]? = some (.loop (recd fn tmps ps assign body D .ready none))) (hs : args.size = ps.size)
    (h : assign.wpIn (Fence.wide.inRound l) m P (Exit.then (fun a1 W1 => W1.heap[l]? = some (.loop (recd fn tmps ps assign body D .ready none)) ∧
        body.wpIn (Fence.wide.inRound l) m P (bodyEnd l (recd fn tmps ps assign body D) R) a1 (W1.putObj l (.loop (recd fn tmps ps assign body D .busy none)))) (fun _ _ _ => False))
      { tmps := (ps.zip args).foldl (fun t (p, v) => t.setIfInBounds p v) tmps, defers := [] } W) :
    YieldAt Fence.wide m P l args W fun e W' => ∃ b, e = .returned (.bool b) ∧ R b W' := by
  refine ⟨_, _, _, _, run_yield hl hs, roundIn_of_wpIn trivial (wpIn_mono h ?_)⟩
  intro e a1 W1 h1
  cases e with
  | normal =>
    obtain ⟨hl1, hb⟩ := h1
    refine ⟨_, run_beginRound hl1 rfl, wpIn_mono hb ?_⟩
    intro e2 a2 W2 h2
    cases e2 with
    | normal => exact ⟨_, _, run_endRound none h2.1, true, rfl, h2.2⟩
    | ret => exact ⟨_, _, run_endRound (some .ret) h2.1, false, rfl, h2.2⟩
    | exit i => exact h2.elim
    | goto t => exact h2.elim
    | panic c => exact h2.elim
    | outgrown => exact h2.elim
  | exit i => exact h1.elim
  | goto t => exact h1.elim
  | ret => exact h1.elim
  | panic c => exact h1.elim
  | outgrown => exact h1.elim

/-- the statement -/
theorem range_ran {n : Nat} {P : Program} {g : Operand} {ps : Array Tmp} {assign body : Code} {Q : Exit → Act → World → Prop} {a : Act} {w : World} {gf : FuncId} {lb : Array Value}
    (hg : a.eval g = .func (.func gf) #[] lb) (eg : ∀ args w, (callFunc gf args).run P w = .ok (.enter gf args) w)
    (h : ∀ fn, Calls P gf (#[.func (.yield (w.heap.size + 1)) #[] #[]] ++ lb) ((w.alloc (.deferred (some []))).alloc (.loop (recd fn a.tmps ps assign body w.heap.size .ready none))) fun e W => (∃ v, e = .returned v) ∧
      ((W.heap[w.heap.size + 1]? = some (.loop (recd fn a.tmps ps assign body w.heap.size .ready none)) ∧ Q .normal { a with defers := { target := .collected w.heap.size, args := #[] } :: a.defers } (W.putObj (w.heap.size + 1) (.loop (recd fn a.tmps ps assign body w.heap.size .exhausted none)))) ∨
       (W.heap[w.heap.size + 1]? = some (.loop (recd fn a.tmps ps assign body w.heap.size .done (some .ret))) ∧ Code.ret.wpIn Fence.wide n P Q { a with defers := { target := .collected w.heap.size, args := #[] } :: a.defers } (W.putObj (w.heap.size + 1) (.loop (recd fn a.tmps ps assign body w.heap.size .exhausted (some .ret))))))) :
    (Code.rangeFunc g ps assign body).wpIn Fence.wide n P Q a w := by
  refine wpIn_rangeFunc ?_
  intro fn _
  obtain ⟨W1, hW1⟩ : ∃ W1, W1 = (w.alloc (.deferred (some []))).alloc (.loop (recd fn a.tmps ps assign body w.heap.size .ready none)) := ⟨_, rfl⟩
  have h' := h fn
  rw [← hW1] at h'
  refine ⟨w.heap.size + 1, [{ target := .collected w.heap.size, args := #[] }], W1, { target := .fn (.func gf) lb, args := #[.func (.yield (w.heap.size + 1)) #[] #[]] }, W1, gf, #[.func (.yield (w.heap.size + 1)) #[] #[]] ++ lb, W1, by rw [hW1]; exact run_enterLoop_outer _ _ _ _ _, ?_, fun _ _ => trivial, ?_, fun hc => by simp [Fence.wide] at hc, ?_⟩
  · simp only [resolve, hg]
    simp [go_sem]
  · simp [invoke, go_sem, eg]
  · refine (callsIn_wide.2 h').mono ?_
    rintro e W ⟨⟨v, rfl⟩, ⟨hl, hq⟩ | ⟨hl, hq⟩⟩
    · exact ⟨none, _, run_endLoop hl (by simp), hq⟩
    · exact ⟨some .ret, _, run_endLoop hl (by simp), hq⟩

theorem wpListIn_append_ran {F : Fence} {n : Nat} {P : Program} {w : World} {ops : Array Oper} {rest : List Oper} {o : Oper} {a : Act} {Q : Exit → Act → World → Prop} {s x : Operand} {t tx : TypeId} {vs vx v' : Value} {w' : World}
    (h : AppRun P t tx o.type vs vx w v' w') (hg : o.guard = none) (hop : o.op = Op.call { callee := Callee.builtin Builtin.append, args := #[s, x], argTypes := #[t, tx] })
    (hs : a.eval s = vs) (hx : a.eval x = vx) (hK : wpListIn F n P ops Q rest (a.put o.dst v') w') : wpListIn F n P ops Q (o :: rest) a w := by
  refine wpListIn_plain hg fun K hK' => ?_
  have hrun := h.run
  unfold Oper.wpIn
  refine ⟨?_, ?_⟩
  · simp [Oper.about, hop, resolve, Target.leads, Sem.run_pure]
  · rw [Oper.semAt_plain F _ _ (by rw [hop]; intro c hc'; cases hc')]
    simp [execOp, hop, resolve, invoke, builtin, hs, hx, hrun, Result.andThen]
    exact hK' _ _ hK
/-- append onto bytes of one's own, in a round -/
theorem wpIn_ontoL {F : Fence} {n : Nat} {B : Nat} {v : Value} {xs l : List UInt8} {p : Option Addr} {c : Nat} {w : World} (hown : Has w B v xs) (h : At w p l) (hlen : xs.length + l.length ≤ 140737488355328) (hB : B ≤ w.heap.size)
    {ops : Array Oper} {rest : List Oper} {o : Oper} {a : Act} {Q : Exit → Act → World → Prop} {y x : Operand}
    (ht : o.type = 29) (hg : o.guard = none) (hop : o.op = Op.call { callee := Callee.builtin Builtin.append, args := #[y, x], argTypes := #[29, 29] })
    (hs : a.eval y = v) (hx : a.eval x = .slice p l.length c)
    (hK : ∀ ys q cap W, Hid (ys = xs ++ l) → Has W B (.slice q ys.length cap) ys → Aside (fun k => v.ownBlock = some k) w W → (∀ k, (Value.slice q ys.length cap).ownBlock = some k → v.ownBlock = some k ∨ w.heap.size ≤ k) → wpListIn F n Tryz.prog ops Q rest (a.put o.dst (.slice q ys.length cap)) W) :
    wpListIn F n Tryz.prog ops Q (o :: rest) a w := by
  obtain ⟨q, cap, W, hr, hm, ha, -, hb⟩ := onto_all B v xs l p c w hown h hlen hB
  have hr' : AppRun Tryz.prog 29 29 o.type v (.slice p l.length c) w (.slice q (xs ++ l).length cap) W := by rw [ht]; exact hr
  exact wpListIn_append_ran hr' hg hop hs hx (hK _ q cap W (Lib.hid rfl) hm ha hb)

theorem aside_put {W : World} {l : Nat} (o : Obj) : Aside (fun k => k = l) W (W.putObj l o) := ⟨rfl, rfl, rfl, by simp, fun k _ hne => World.putObj_heap_other hne⟩
theorem below_put {n : Nat} {W : World} {l : Nat} (o : Obj) (h : n ≤ l) (hn : n ≤ W.heap.size) : Below n W (W.putObj l o) := (aside_put o).below hn (fun k hk hc => by subst hc; omega)
theorem At.turn {W : World} {L : Nat} {r : Loop} {p : Option Addr} {l : List UInt8} (h : At W p l) (hl : W.heap[L]? = some (.loop r)) (o : Obj) : At (W.putObj L o) p l := by
  rcases h with rfl | ⟨b, oo, rfl, h1, h2⟩
  · exact .inl rfl
  · by_cases he : l = []
    · exact .inl he
    · have hne : b ≠ L := fun hc => by
        subst hc
        have h0 : 0 < l.length := List.length_pos_iff.2 he
        have := h2 0 h0
        simp [World.cell?, hl] at this
      refine .inr ⟨b, oo, rfl, by simpa using h1, fun j hj => ?_⟩
      rw [World.cell?_of_block (w := W) (World.putObj_heap_other hne)]
      exact h2 j hj
end Go.Proofs.YtpkbdnilakaakaaGreat

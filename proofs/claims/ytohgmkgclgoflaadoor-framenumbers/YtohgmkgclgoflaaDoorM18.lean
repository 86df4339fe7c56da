/- K7U: put together. -/
import Derived.Test.YtohgmkgclgoflaaDoorM17
import Derived.Test.YtohgmkgclgoflaaDoorTBuilt
import Derived.Test.YtohgmkgclgoflaaDoorM08
import Derived.Deep.RegionLaw

/- The landed schema's reader: typeAt. -/
namespace Go.Proofs.YtohgmkgclgoflaaDoor
open Go.RowKit

/-- what changed in block R alone, and then new blocks -/
theorem Aside.split {w w2 : World} {R : Nat} (h : Aside (fun i => i = R) w w2) (hR : R < w.heap.size) : ∃ w1, Aside (fun i => i = R) w w1 ∧ w1.heap.size = w.heap.size ∧ Below w1.heap.size w1 w2 := by
  have hs := h.size
  refine ⟨{ w with heap := w.heap.setIfInBounds R (w2.heap[R]'(by omega)) }, ⟨rfl, rfl, rfl, by simp, fun k hk hf => ?_⟩, by simp, ⟨h.os, h.tape, h.output, by simpa using hs, fun k hk => ?_⟩⟩
  · show (w.heap.setIfInBounds R _)[k]? = _
    rw [Array.getElem?_setIfInBounds_ne (fun e => hf e.symm)]
  · have hk' : k < w.heap.size := by simpa using hk
    show _ = (w.heap.setIfInBounds R _)[k]?
    by_cases e : k = R
    · subst e
      rw [Array.getElem?_setIfInBounds_self_of_lt hk']
      exact Array.getElem?_eq_getElem _
    · rw [Array.getElem?_setIfInBounds_ne (fun e2 => e e2.symm)]
      exact h.block k hk' e

/-- a call of a Go function of two arguments that panics, at a step of a region that draws -/
theorem step_call2b {w : World} {ops : Array Oper} {o : Oper} {a : Act} {K : Act → World → Prop} {Q : Exit → Act → World → Prop} {E : Prop} {f : FuncId} {fn : Func} {code : Code} {u v : Value} {R : Ending → World → Prop} (x y : Operand) (t t' : TypeId)
    (hg : o.guard = none) (hop : o.op = Op.call { callee := .value (.func f), args := #[x, y], argTypes := #[t, t'] }) (hx : a.eval x = u) (hy : a.eval y = v)
    (hf : Tryd.prog.funcs[f]? = some fn) (hname : (fn.name == "runtime.NumGoroutine") = false) (hb : fn.body = some code)
    (hc : Calls Tryd.prog f #[u, v] w R) (hR : ∀ e w', R e w' → ∃ ch, e = .panicked ch ∧ Q (.panic ch) a w') (v' : Value) (_ : Hid False → K (a.put o.dst v') w) :
    if Region.wanted o (yielded ops a.tmps) = true then Oper.wp Tryd.prog o a w K Q else E := by
  have hw : Region.wanted o (yielded ops a.tmps) = true := by simp [Region.wanted, hg]
  rw [if_pos hw]
  have h1 : fn.name ≠ "runtime.NumGoroutine" := by simpa using hname
  unfold Oper.wp
  have he : (execOp a.eval o).run Tryd.prog w = .ok (.enter f #[u, v]) w := by
    have hev : a.eval (.func f) = .func (.func f) #[] #[] := rfl
    simp [execOp, hop, resolve, invoke, hx, hy, hev, Deferred.ofValue, callFunc, hf, h1, hb]
  rw [he, Oper.upon_enter]
  refine hc.mono ?_
  intro e w' hr
  obtain ⟨z, rfl, hk⟩ := hR e w' hr
  exact hk
/-- where no run comes -/
theorem step_never {w : World} {ops : Array Oper} {o : Oper} {a : Act} {K : Act → World → Prop} {Q : Exit → Act → World → Prop} {E : Prop} (h : Hid False) (v' : Value) (_ : K (a.put o.dst v') w) :
    if Region.wanted o (yielded ops a.tmps) = true then Oper.wp Tryd.prog o a w K Q else E := h.out.elim
/-- and one that returns -/
theorem step_call2g {w : World} {ops : Array Oper} {o : Oper} {a : Act} {K : Act → World → Prop} {Q : Exit → Act → World → Prop} {E : Prop} {f : FuncId} {fn : Func} {code : Code} {u v : Value} {R : Ending → World → Prop} (x y : Operand) (t t' : TypeId)
    (hg : o.guard = none) (hop : o.op = Op.call { callee := .value (.func f), args := #[x, y], argTypes := #[t, t'] }) (hx : a.eval x = u) (hy : a.eval y = v)
    (hf : Tryd.prog.funcs[f]? = some fn) (hname : (fn.name == "runtime.NumGoroutine") = false) (hb : fn.body = some code)
    (hc : Calls Tryd.prog f #[u, v] w R) (hR : ∀ e w', R e w' → ∃ z, e = .returned z ∧ K (a.put o.dst z) w') :
    if Region.wanted o (yielded ops a.tmps) = true then Oper.wp Tryd.prog o a w K Q else E := by
  have hw : Region.wanted o (yielded ops a.tmps) = true := by simp [Region.wanted, hg]
  rw [if_pos hw]
  have h1 : fn.name ≠ "runtime.NumGoroutine" := by simpa using hname
  unfold Oper.wp
  have he : (execOp a.eval o).run Tryd.prog w = .ok (.enter f #[u, v]) w := by
    have hev : a.eval (.func f) = .func (.func f) #[] #[] := rfl
    simp [execOp, hop, resolve, invoke, hx, hy, hev, Deferred.ofValue, callFunc, hf, h1, hb]
  rw [he, Oper.upon_enter]
  refine hc.mono ?_
  intro e w' hr
  obtain ⟨z, rfl, hk⟩ := hR e w' hr
  exact hk

theorem Rdr.drew {w : World} {A R : Nat} {l : List UInt8} (h : Rdr w A R l) : Rdr w.drew A R l := h.keep (fun _ _ => rfl) (Nat.le_refl _)
theorem RdA.undrew {α : Type} {w w' : World} {A R : Nat} {l : List UInt8} {r : Except Nat (α × Nat)} {V : α → Value → World → Prop} {e : Ending} (h : RdA w.drew A R l r V e w') : RdA w A R l r V e w' := by
  cases r with
  | error k =>
    obtain ⟨h1, h2⟩ := h.bad
    exact ⟨h1, ⟨h2.os, h2.tape, h2.output, h2.size, h2.block⟩⟩
  | ok aj =>
    obtain ⟨a, j⟩ := aj
    obtain ⟨v, h1, h2, h3, h4⟩ := h.good
    exact ⟨v, h1, h2, h3, ⟨h4.os, h4.tape, h4.output, h4.size, h4.block⟩⟩

/-- a type in blocks that are new since w -/
def isTy (w : World) (t : Ty) (v : Value) (w' : World) : Prop := ∃ u, v = .agg u ∧ TOwn w' (fun k => w.heap.size ≤ k ∧ k < w'.heap.size) u t
theorem isTy.open {w w' : World} {t : Ty} {v : Value} (h : isTy w t v w') : ∃ u, v = .agg u ∧ TOwn w' (fun k => w.heap.size ≤ k ∧ k < w'.heap.size) u t := h
theorem rdT_cons (f : Nat) (c : UInt8) (r : List UInt8) : Sch.rdT (f + 1) (c :: r) = if c.toNat < 1 ∨ 7 < c.toNat then .error 60 else if c.toNat ≠ 6 ∧ c.toNat ≠ 7 then .ok (⟨(c.toNat : Int), []⟩, 1) else thenR (Sch.rdT f r) fun t j => .ok (⟨(c.toNat : Int), [t]⟩, j + 1) := by
  rw [Sch.rdT]
  split
  · rfl
  · split
    · rfl
    · cases Sch.rdT f r with
      | error e => rfl
      | ok p => rfl

/-- one type more: what holds behind the store -/
theorem moreT {w W w2 w4 : World} {A R T N : Nat} {b : Int} {t' : Ty} {u : Array Value} {g cap : Nat} {lr : List UInt8} (hR : R < w.heap.size) (hN0 : w.heap.size ≤ N) (hNT : N < T) (hT : T < W.heap.size)
    (bT : W.heap[T]? = some (.cells #[.int .i64 b, .slice none 0 0] 66 (0, 0))) (bN : W.heap[N]? = some (.cells #[.int .i64 0, .slice none 0 0] 66 (0, 0))) (ha0 : Aside (fun i => i = R) w W)
    (ha : Aside (fun i => i = R) W w2) (hown : TOwn w2 (fun k => W.heap.size ≤ k ∧ k < w2.heap.size) u t') (hrd : Rdr w2 A R lr)
    (hr : w4.ownsRow W.heap.size 66 2 (.slice (some ⟨g, 0, none⟩) 1 cap) 1 (flat (fun _ => #[]) 0 ++ u.toList)) (hg : (w2.alloc (.cells u 66)).grownBy w4 none) (hn : g = w2.heap.size + 1) :
    w4.frozen? ⟨T, 1, none⟩ = false ∧ w4.cell? ⟨T, 1, none⟩ = some (.slice none 0 0) ∧ ∀ w5, w5 = w4.setCell ⟨T, 1, none⟩ (.slice (some ⟨g, 0, none⟩) 1 cap) → w5.cell? ⟨T, 0, none⟩ = some (.int .i64 b) ∧ w5.cell? ⟨T, 1, none⟩ = some (.slice (some ⟨g, 0, none⟩) 1 cap) ∧
      w5.heap[N]? = some (.cells #[.int .i64 0, .slice none 0 0] 66 (0, 0)) ∧ TOwn w5 (fun k => W.heap.size ≤ k ∧ k < w5.heap.size) (cells2 b (some ⟨g, 0, none⟩) 1 cap) ⟨b, [t']⟩ ∧ Rdr w5 A R lr ∧ Aside (fun i => i = R) w w5 ∧ W.heap.size ≤ w5.heap.size := by
  have hs2 := ha.size
  have hsz0 := ha0.size
  have hb3 : Below w2.heap.size w2 (w2.alloc (.cells u 66)) := (Below.refl _ _).alloc (Nat.le_refl _) _
  have hs3 := hb3.size
  have hs4 := hg.size
  obtain ⟨wx, hx1, hx2, hx3⟩ := ha.split (by omega)
  have hst := (tbuilt_nil wx W.heap.size).step hx3 hown (fun k hk => ⟨by rw [hx2]; exact hk.1, hk.2⟩) hb3 (by rw [hx2]; exact Nat.le_refl _) hr hg (.inr (by rw [hn]; simp))
  obtain ⟨p3, c3, he3, hown3⟩ := hst.done (by omega) b
  injection he3 with e1 e2 e3
  subst e1 e3
  -- what stands in w4
  have keep : ∀ k, k < W.heap.size → k ≠ R → w4.heap[k]? = W.heap[k]? := fun k hk hne => by
    rw [hg.block k (by omega) (by simp), hb3.block k (by omega), ha.block k hk hne]
  have bT4 : w4.heap[T]? = some (.cells #[.int .i64 b, .slice none 0 0] 66 (0, 0)) := (keep T hT (by omega)).trans bT
  have bN4 : w4.heap[N]? = some (.cells #[.int .i64 0, .slice none 0 0] 66 (0, 0)) := (keep N (by omega) (by omega)).trans bN
  refine ⟨blk_free bT4 1, blk_cell bT4 1, fun w5 hw5 => ?_⟩
  have ha5 : Aside (fun i => i = T) w4 w5 := by rw [hw5]; exact aside_set _ _ _ _
  have hs5 := ha5.size
  have hs5' : w5.heap.size = w4.heap.size := by rw [hw5]; simp [World.setCell]
  have bT5 : w5.heap[T]? = some (.cells #[.int .i64 b, .slice (some ⟨g, 0, none⟩) 1 cap] 66 (0, 0)) := by rw [hw5, blk_set bT4 1]; rfl
  have a24 : Aside (fun _ => False) w2 w4 := (aside_new hb3 (fun _ => False)).trans (G := fun _ => False) ⟨hg.os, hg.tape, hg.output, hg.size, fun k hk _ => hg.block k hk (by simp)⟩ (fun _ _ h => h)
  refine ⟨blk_cell bT5 0, blk_cell bT5 1, ?_, ?_, ?_, ?_, by omega⟩
  · rw [ha5.block N (by omega) (by omega)]; exact bN4
  · rw [hs5']
    exact hown3.aside ha5 (fun k hk => by omega)
  · exact (hrd.aside a24 (fun _ h => h.elim)).aside ha5 (fun k hk => by rw [hk]; omega)
  · refine ((ha0.trans ha (fun _ _ h => h)).trans a24 (fun _ _ h => h.elim)).trans ha5 (fun i hi he => ?_)
    rw [he] at hi; omega

/-- the answer is laid into its place -/
theorem finT {w wr : World} {A R : Nat} {b : Int} {q : Option Addr} {n c : Nat} {x : Ty} {l : List UInt8} {F : Nat → Prop} (hR : R < w.heap.size) (bN : wr.heap[w.heap.size]? = some (.cells #[.int .i64 0, .slice none 0 0] 66 (0, 0)))
    (hown : TOwn wr F (cells2 b q n c) x) (hF : ∀ k, F k → w.heap.size < k ∧ k < wr.heap.size) (hrd : Rdr wr A R l) (ha : Aside (fun i => i = R) w wr) {w5 : World} (hw5 : w5 = (wr.setCell ⟨w.heap.size, 0, none⟩ (.int .i64 b)).setCell ⟨w.heap.size, 1, none⟩ (.slice q n c)) :
    w5.heap[w.heap.size]? = some (.cells (cells2 b q n c) 66 (0, 0)) ∧ isTy w x (.agg (cells2 b q n c)) w5 ∧ Rdr w5 A R l ∧ Aside (fun i => i = R) w w5 := by
  have h1 : Aside (fun i => i = w.heap.size) wr (wr.setCell ⟨w.heap.size, 0, none⟩ (.int .i64 b)) := aside_set _ _ _ _
  have h2 : Aside (fun i => i = w.heap.size) wr w5 := by rw [hw5]; exact h1.trans (aside_set _ _ _ _) (fun _ _ h => h)
  have hs : w5.heap.size = wr.heap.size := by rw [hw5]; simp [World.setCell]
  refine ⟨?_, ⟨_, rfl, ?_⟩, hrd.aside h2 (fun k hk => by rw [hk]; exact hR), ha.trans h2 (fun i hi he => by rw [he] at hi; omega)⟩
  · rw [hw5, blk_set (blk_set bN 0 _) 1]; rfl
  · exact (hown.aside h2 (fun k hk he => by have := hF k hk; omega)).mono (fun k hk => by have := hF k hk; omega)

set_option maxRecDepth 100000 in
set_option maxHeartbeats 2000000 in
theorem typeAtK : ∀ (f d : Nat) (l : List UInt8) (A R : Nat) (w : World), d + f = 5 → Rdr w A R l → Calls Tryd.prog 51 #[.pointer (some ⟨R, 0, none⟩), .int .i64 d] w (RdA w A R l (Sch.rdT f l) (isTy w)) := by
  intro f
  induction f with
  | zero =>
    intro d l A R w hd h
    have g0 : decide ((d : Int) ≤ 4) = false := decide_eq_false (by omega)
    have HB1 : Hid (Below w.heap.size w (w.alloc (.cells #[.int .i64 0, .slice none 0 0] 66))) := (Below.refl _ _).alloc (Nat.le_refl _) _
    have e1 : Sch.rdT 0 l = .error 62 := rfl
    rw [e1]
    clear h e1
    go_enter Tryd.func51, Tryd.ntmps51
    go_wp2_with fail
    try rw [g0]
    refine (need_f _ 62 _).mono ?_
    rintro e w2 ⟨rfl, hw2⟩
    rw [hw2]
    clear hw2 w2
    go_wp2
    exact ⟨rfl, rfl, aside_new HB1.out _⟩
  | succ f ih =>
    intro d l A R w hd h
    have g0 : decide ((d : Int) ≤ 4) = true := decide_eq_true (by omega)
    have hdi : (d : Int) ≤ 4 := by omega
    obtain ⟨W0, hW0⟩ : ∃ W0, W0 = w.alloc (.cells #[.int .i64 0, .slice none 0 0] 66) := ⟨_, rfl⟩
    have HB1 : Hid (Below w.heap.size w W0) := by rw [hW0]; exact (Below.refl _ _).alloc (Nat.le_refl _) _
    have HN0 : Hid (W0.heap[w.heap.size]? = some (.cells #[.int .i64 0, .slice none 0 0] 66 (0, 0))) := by rw [hW0]; exact blk_new w _
    have HW0 := Lib.hid hW0
    have HT := Lib.hid (takeK 1 l A R W0 (h.on HB1.out))
    have hRlt := h.lt
    have HIH := Lib.hid ih
    clear h hW0 ih
    cases l with
    | nil =>
      have e1 : takeR 1 [] = .error 30 := rfl
      have e2 : Sch.rdT (f + 1) [] = .error 30 := rfl
      rw [e1] at HT
      rw [e2]
      clear e1 e2
      go_enter Tryd.func51, Tryd.ntmps51
      go_wp2_with fail
      rw [← HW0.out]
      try rw [g0]
      refine (need_t _ 62 _).mono ?_
      rintro e w2 ⟨rfl, hw2⟩
      rw [hw2]
      clear hw2 w2
      go_wp2_with fail
      refine HT.out.mono ?_
      intro e w1 hh
      obtain ⟨he, ha⟩ := hh.bad
      subst he
      clear hh
      have HA := Lib.hid ((aside_new HB1.out _).trans ha (fun _ _ h => h))
      clear ha HT
      go_wp2
      exact ⟨rfl, rfl, HA.out⟩
    | cons b t =>
      have e1 : takeR 1 (b :: t) = .ok ([b], 1) := by
        unfold takeR
        rw [if_neg (by simp)]
        rfl
      rw [e1] at HT
      obtain ⟨r, hr⟩ : ∃ r, r = Sch.rdT (f + 1) (b :: t) := ⟨_, rfl⟩
      have HR := Lib.hid (hr.trans (rdT_cons f b t))
      rw [← hr]
      clear hr e1
      have hb8 := b.toNat_lt
      go_enter Tryd.func51, Tryd.ntmps51
      go_wp2_with fail
      rw [← HW0.out]
      try rw [g0]
      refine (need_t _ 62 _).mono ?_
      rintro e w2 ⟨rfl, hw2⟩
      rw [hw2]
      clear hw2 w2 HW0
      go_wp2_with fail
      refine HT.out.mono ?_
      intro e w1 hh
      obtain ⟨v, he, hv, hrd, ha⟩ := hh.good
      obtain ⟨q, c, hv2, hat, -⟩ := hv.open
      clear hh hv
      subst hv2
      subst he
      obtain ⟨bq, oq, hq, -, hcs⟩ := at_some hat (by simp)
      subst hq
      have d0 : w1.cell? ⟨bq, oq, none⟩ = some (.int .u8 (b.toNat : Int)) := hcs 0 (by simp)
      have HRd : Hid (Rdr w1 A R t) := hrd
      have HA1 := Lib.hid ((aside_new HB1.out (fun i => i = R)).trans ha (fun _ _ h => h))
      have HNlt := Lib.hid (blk_lt HN0.out)
      have HN1 : Hid (w1.heap[w.heap.size]? = some (.cells #[.int .i64 0, .slice none 0 0] 66 (0, 0))) := by
        show _ = _
        rw [ha.block _ HNlt.out (by omega)]
        exact HN0.out
      have hsz1 : w.heap.size < w1.heap.size := Nat.lt_of_lt_of_le HNlt.out ha.size
      clear ha hat hrd hcs HT HN0 HB1
      obtain ⟨W, hW⟩ : ∃ W, W = w1.alloc (.cells #[.int .i64 (b.toNat : Int), .slice none 0 0] 66) := ⟨_, rfl⟩
      have HBW : Hid (Below w1.heap.size w1 W) := by rw [hW]; exact (Below.refl _ _).alloc (Nat.le_refl _) _
      have HTb : Hid (W.heap[w1.heap.size]? = some (.cells #[.int .i64 (b.toNat : Int), .slice none 0 0] 66 (0, 0))) := by rw [hW]; exact blk_new w1 _
      have HNb : Hid (W.heap[w.heap.size]? = some (.cells #[.int .i64 0, .slice none 0 0] 66 (0, 0))) := blk_on HN1.out HBW.out hsz1
      have HAW := Lib.hid (HA1.out.trans (aside_new HBW.out (fun _ => False)) (fun _ _ h => h.elim))
      have HRdW := Lib.hid (HRd.out.on HBW.out)
      have hszW : w1.heap.size < W.heap.size := blk_lt HTb.out
      have HW := Lib.hid hW
      clear hW HN1 HA1 HRd
      by_cases hkind : b.toNat < 1 ∨ 7 < b.toNat
      · have HR2 : Hid (r = .error 60) := HR.out.trans (if_pos hkind)
        clear HR
        rcases hkind with hk | hk
        · have g1 : decide ((1 : Int) ≤ (b.toNat : Int)) = false := decide_eq_false (by omega)
          go_wp2_with fail
          rw [← HW.out]
          refine (need_f _ 60 _).mono ?_
          rintro e w2 ⟨rfl, hw2⟩
          rw [hw2]
          clear hw2 w2
          go_wp2
          rw [HR2.out]
          exact ⟨rfl, rfl, HAW.out⟩
        · have g1 : decide ((1 : Int) ≤ (b.toNat : Int)) = true := decide_eq_true (by omega)
          have g2 : decide ((b.toNat : Int) ≤ 7) = false := decide_eq_false (by omega)
          go_wp2_with fail
          rw [← HW.out]
          refine (need_f _ 60 _).mono ?_
          rintro e w2 ⟨rfl, hw2⟩
          rw [hw2]
          clear hw2 w2
          go_wp2
          rw [HR2.out]
          exact ⟨rfl, rfl, HAW.out⟩
      have g1 : decide ((1 : Int) ≤ (b.toNat : Int)) = true := decide_eq_true (by omega)
      have g2 : decide ((b.toNat : Int) ≤ 7) = true := decide_eq_true (by omega)
      have HR1 := Lib.hid (HR.out.trans (if_neg hkind))
      clear HR
      go_wp2_with fail
      rw [← HW.out]
      refine (need_t _ 60 _).mono ?_
      rintro e w2 ⟨rfl, hw2⟩
      rw [hw2]
      clear hw2 w2 HW d0
      have c0 : W.cell? ⟨w1.heap.size, 0, none⟩ = some (.int .i64 (b.toNat : Int)) := blk_cell HTb.out 0
      have c1 : W.cell? ⟨w1.heap.size, 1, none⟩ = some (.slice none 0 0) := blk_cell HTb.out 1
      have n0 : W.cell? ⟨w.heap.size, 0, none⟩ = some (.int .i64 0) := blk_cell HNb.out 0
      have n1 : W.cell? ⟨w.heap.size, 1, none⟩ = some (.slice none 0 0) := blk_cell HNb.out 1
      have nf0 := blk_free HNb.out 0
      have nf1 := blk_free HNb.out 1
      have tf1 := blk_free HTb.out 1
      have HOc := Lib.hid (ofCountK (b.toNat : Int) W)
      go_wp2_with fail
      refine HOc.out.mono ?_
      rintro e w2 ⟨rfl, hw2⟩
      rw [hw2]
      clear hw2 w2 HOc
      by_cases h67 : b.toNat = 6 ∨ b.toNat = 7
      · have hw : Ty.want (b.toNat : Int) = 1 := by unfold Ty.want; rw [if_pos (by omega)]
        rw [hw]
        have HR2 : Hid (r = thenR (Sch.rdT f t) fun t j => .ok (⟨(b.toNat : Int), [t]⟩, j + 1)) := HR1.out.trans (if_neg (by omega))
        have ew : IntKind.i64.wrap ((d : Int) + 1) = ((d + 1 : Nat) : Int) := by rw [IntKind.wrap_i64]; omega
        have HC : Hid (∀ w', Rdr w' A R t → Calls Tryd.prog 51 #[.pointer (some ⟨R, 0, none⟩), .int .i64 (IntKind.i64.wrap ((d : Int) + 1))] w'.drew (RdA w' A R t (Sch.rdT f t) (isTy w'))) := fun w' hr => by
          rw [ew]
          exact (HIH.out (d + 1) t A R w'.drew (by omega) hr.drew).mono fun _ _ h => h.undrew
        obtain ⟨m, hm⟩ : ∃ m, m = Sch.rdT f t := ⟨_, rfl⟩
        rw [← hm] at HR2 HC
        clear hw HR1 hm HIH ew
        cases m with
        | error er =>
          have HErr : Hid (∀ w2, Aside (fun i => i = R) W w2 → RdA w A R (b :: t) r (isTy w) (.panicked (errV er)) w2) := fun w2 ha => by
            rw [HR2.out]
            exact ⟨rfl, HAW.out.trans ha (fun _ _ h => h)⟩
          go_wp2_with fail
          go_loopw [29] (fun v29 wr => v29 = .int .i64 0 ∧ wr = W) (fun _ _ => 0)
          case atStart => exact ⟨rfl, rfl⟩
          case round =>
            obtain ⟨rfl, rfl⟩ := hrel
            go_wp2_with fail
            go_region_law (first
              | (refine step_call2b (.tmp 33) (.tmp 35) 96 3 (by rfl) (by rfl) (by rfl) (by rfl) Tryd.func51 (by kernel_rfl) (by rfl) (HC.out _ HRdW.out) (fun e w2 hh => ⟨_, hh.bad.1, rfl, HErr.out w2 hh.bad.2⟩) (.agg #[.int .i64 0, .slice none 0 0]) ?_
                 intro HF)
              | (refine step_never HF (.slice none 0 0) ?_))
            all_goals exact HF.out.elim
        | ok tj =>
          obtain ⟨t', j'⟩ := tj
          have HRok : Hid (r = .ok (⟨(b.toNat : Int), [t']⟩, j' + 1)) := HR2.out
          have HS0 := Lib.hid (tbuilt_nil W W.heap.size)
          clear HR2
          go_wp2_with fail
          go_loopw [29] (fun v29 wr => (v29 = .int .i64 0 ∧ wr = W) ∨ (v29 = .int .i64 1 ∧ ∃ q c, wr.cell? ⟨w1.heap.size, 0, none⟩ = some (.int .i64 (b.toNat : Int)) ∧ wr.cell? ⟨w1.heap.size, 1, none⟩ = some (.slice q 1 c) ∧ Hid (wr.heap[w.heap.size]? = some (.cells #[.int .i64 0, .slice none 0 0] 66 (0, 0)) ∧ TOwn wr (fun k => W.heap.size ≤ k ∧ k < wr.heap.size) (cells2 (b.toNat : Int) q 1 c) ⟨(b.toNat : Int), [t']⟩ ∧ Rdr wr A R ((b :: t).drop (j' + 1)) ∧ Aside (fun i => i = R) w wr ∧ W.heap.size ≤ wr.heap.size))) (fun v29 _ => 1 - (intOf v29).toNat)
          case atStart => exact .inl ⟨rfl, rfl⟩
          case round =>
            rcases hrel with ⟨rfl, rfl⟩ | ⟨rfl, q, c2, e0, e1, HS⟩
            · go_wp2_with fail
              go_region_law (first
                | (refine step_call2g (.tmp 33) (.tmp 35) 96 3 (by rfl) (by rfl) (by rfl) (by rfl) Tryd.func51 (by kernel_rfl) (by rfl) (HC.out _ HRdW.out) ?_
                   intro e w2 hh
                   obtain ⟨v2, he, hv, hrd, ha⟩ := hh.good
                   obtain ⟨u2, hv2, hown⟩ := hv.open
                   clear hh hv
                   obtain ⟨k2, p2, n2, c2, hu2⟩ := hown.shape
                   subst hu2
                   subst hv2
                   refine ⟨_, he, ?_⟩
                   clear he
                   unfold cells2
                   have z1 : w2.cell? ⟨w1.heap.size, 1, none⟩ = some (.slice none 0 0) := by (rw [ha.cell hszW (by show ¬ w1.heap.size = R; omega)]; exact c1)
                   have z2 : ∀ o, (w2.alloc o).cell? ⟨w1.heap.size, 1, none⟩ = some (.slice none 0 0) := fun o => by (rw [World.cell?_alloc_past _ _ _ (by have := ha.size; show w1.heap.size < _; omega)]; exact z1)
                   have HOwn := Lib.hid hown
                   have HRd2 := Lib.hid hrd
                   have HA2 := Lib.hid ha
                   have HB3 : Hid (Below w2.heap.size w2 (w2.alloc (.cells #[.int .i64 k2, .slice p2 n2 c2] 66))) := (Below.refl _ _).alloc (Nat.le_refl _) _
                   have hs2 := ha.size
                   clear hown hrd ha)
                | (refine step_moreT (B := wr.heap.size) (us := fun _ => #[]) (v := .slice none 0 0) (n := 0) (World.ownsRow_nil _ _ _ _) (u := #[.int .i64 k2, .slice p2 n2 c2]) rfl (one2 HOwn.out) (ad := w2.heap.size) (by exact blk_new w2 _) (by omega) (by simp; omega) (H := w2.heap.size + 1) (by simp) (.tmp 32) (.tmp 37) (by rfl) (by rfl) (by rfl) (by rfl) ?_
                   intro g2 cap2 w4 hr4 hg4 hn4
                   obtain ⟨f4, g4, hmk⟩ := moreT (N := w.heap.size) (T := w1.heap.size) hRlt (Nat.le_refl _) hsz1 hszW HTb.out HNb.out HAW.out HA2.out HOwn.out HRd2.out hr4 hg4 (hn4.resolve_left (by simp [Value.ownBlock]))
                   have HMK := Lib.hid hmk
                   clear hmk hr4 hg4 hn4))
              all_goals
                go_wp2
                go_roundw
                case rel =>
                  obtain ⟨m0, m1, m2, m3, m4, m5, m6⟩ := HMK.out _ rfl
                  refine .inr ⟨by go_num, some ⟨g2, 0, none⟩, cap2, m0, m1, m2, m3, ?_, m5, m6⟩
                  rw [List.drop_succ_cons]
                  exact m4
                case measure => simp [intOf]
            · have z0 := blk_cell HS.out.1 0
              have z1 := blk_cell HS.out.1 1
              have zf0 := blk_free HS.out.1 0
              have zf1 := blk_free HS.out.1 1
              clear c0 c1 n0 n1 nf0 nf1 tf1
              have HFin := Lib.hid (fun w5 hw5 => finT (w5 := w5) hRlt HS.out.1 HS.out.2.1 (fun k hk => ⟨by omega, hk.2⟩) HS.out.2.2.1 HS.out.2.2.2.1 hw5)
              go_wp2
              obtain ⟨f1, f2, f3, f4⟩ := HFin.out _ rfl
              refine bodyPost_ret (v := .agg (cells2 (b.toNat : Int) q 1 c2)) (results_cell_row rfl _ _ w.heap.size _ _ _ _ rfl f1 Tryd.underlying66 rfl (by kernel_rfl)) rfl ?_
              rw [HRok.out]
              exact ⟨_, rfl, f2, f3, f4⟩
      · have hw : Ty.want (b.toNat : Int) = 0 := by unfold Ty.want; rw [if_neg (by omega)]
        rw [hw]
        have HRok : Hid (r = .ok (⟨(b.toNat : Int), []⟩, 1)) := HR1.out.trans (if_pos (by omega))
        have HFin := Lib.hid (fun w5 hw5 => finT (w5 := w5) (b := (b.toNat : Int)) (q := none) (n := 0) (c := 0) (x := ⟨(b.toNat : Int), []⟩) (F := fun _ => False) hRlt HNb.out .none (fun _ h => h.elim) HRdW.out HAW.out hw5)
        clear hw HR1 HIH
        go_wp2_with fail
        go_loopw [29] (fun v29 wr => v29 = .int .i64 0 ∧ wr = W) (fun _ _ => 0)
        case atStart => exact ⟨rfl, rfl⟩
        case round =>
          obtain ⟨rfl, rfl⟩ := hrel
          go_wp2
          obtain ⟨f1, f2, f3, f4⟩ := HFin.out _ rfl
          refine bodyPost_ret (v := .agg (cells2 (b.toNat : Int) none 0 0)) (results_cell_row rfl _ _ w.heap.size _ _ _ _ rfl f1 Tryd.underlying66 rfl (by kernel_rfl)) rfl ?_
          rw [HRok.out]
          exact ⟨_, rfl, f2, f3, f4⟩
end Go.Proofs.YtohgmkgclgoflaaDoor

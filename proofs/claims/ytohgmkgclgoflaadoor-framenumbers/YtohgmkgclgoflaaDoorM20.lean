/- K7X, K7Y: put together. -/
import Derived.Test.YtohgmkgclgoflaaDoorM19

/- The landed schema's reader: value, of each kind. -/
namespace Go.Proofs.YtohgmkgclgoflaaDoor
open Go.RowKit

attribute [local go_sem] run_store_float

theorem step_call1b {w : World} {ops : Array Oper} {o : Oper} {a : Act} {K : Act → World → Prop} {Q : Exit → Act → World → Prop} {E : Prop} {f : FuncId} {fn : Func} {code : Code} {u0 : Value} {R : Ending → World → Prop} (x : Operand) (t0 : TypeId)
    (hg : o.guard = none) (hop : o.op = Op.call { callee := .value (.func f), args := #[x], argTypes := #[t0] }) (hx : a.eval x = u0)
    (hf : Tryd.prog.funcs[f]? = some fn) (hname : (fn.name == "runtime.NumGoroutine") = false) (hb : fn.body = some code)
    (hc : Calls Tryd.prog f #[u0] w R) (hR : ∀ e w', R e w' → ∃ ch, e = .panicked ch ∧ Q (.panic ch) a w') (v' : Value) (_ : Hid False → K (a.put o.dst v') w) :
    if Region.wanted o (yielded ops a.tmps) = true then Oper.wp Tryd.prog o a w K Q else E := by
  have hw : Region.wanted o (yielded ops a.tmps) = true := by simp [Region.wanted, hg]
  rw [if_pos hw]
  have h1 : fn.name ≠ "runtime.NumGoroutine" := by simpa using hname
  unfold Oper.wp
  have he : (execOp a.eval o).run Tryd.prog w = .ok (.enter f #[u0]) w := by
    have hev : a.eval (.func f) = .func (.func f) #[] #[] := rfl
    simp [execOp, hop, resolve, invoke, hx, hev, Deferred.ofValue, callFunc, hf, h1, hb]
  rw [he, Oper.upon_enter]
  refine hc.mono ?_
  intro e w' hr
  obtain ⟨z, rfl, hk⟩ := hR e w' hr
  exact hk
theorem step_call1g {w : World} {ops : Array Oper} {o : Oper} {a : Act} {K : Act → World → Prop} {Q : Exit → Act → World → Prop} {E : Prop} {f : FuncId} {fn : Func} {code : Code} {u0 : Value} {R : Ending → World → Prop} (x : Operand) (t0 : TypeId)
    (hg : o.guard = none) (hop : o.op = Op.call { callee := .value (.func f), args := #[x], argTypes := #[t0] }) (hx : a.eval x = u0)
    (hf : Tryd.prog.funcs[f]? = some fn) (hname : (fn.name == "runtime.NumGoroutine") = false) (hb : fn.body = some code)
    (hc : Calls Tryd.prog f #[u0] w R) (hR : ∀ e w', R e w' → ∃ z, e = .returned z ∧ K (a.put o.dst z) w') :
    if Region.wanted o (yielded ops a.tmps) = true then Oper.wp Tryd.prog o a w K Q else E := by
  have hw : Region.wanted o (yielded ops a.tmps) = true := by simp [Region.wanted, hg]
  rw [if_pos hw]
  have h1 : fn.name ≠ "runtime.NumGoroutine" := by simpa using hname
  unfold Oper.wp
  have he : (execOp a.eval o).run Tryd.prog w = .ok (.enter f #[u0]) w := by
    have hev : a.eval (.func f) = .func (.func f) #[] #[] := rfl
    simp [execOp, hop, resolve, invoke, hx, hev, Deferred.ofValue, callFunc, hf, h1, hb]
  rw [he, Oper.upon_enter]
  refine hc.mono ?_
  intro e w' hr
  obtain ⟨z, rfl, hk⟩ := hR e w' hr
  exact hk
theorem step_call3b {w : World} {ops : Array Oper} {o : Oper} {a : Act} {K : Act → World → Prop} {Q : Exit → Act → World → Prop} {E : Prop} {f : FuncId} {fn : Func} {code : Code} {u0 u1 u2 : Value} {R : Ending → World → Prop} (x y z : Operand) (t0 t1 t2 : TypeId)
    (hg : o.guard = none) (hop : o.op = Op.call { callee := .value (.func f), args := #[x, y, z], argTypes := #[t0, t1, t2] }) (hx : a.eval x = u0) (hy : a.eval y = u1) (hz : a.eval z = u2)
    (hf : Tryd.prog.funcs[f]? = some fn) (hname : (fn.name == "runtime.NumGoroutine") = false) (hb : fn.body = some code)
    (hc : Calls Tryd.prog f #[u0, u1, u2] w R) (hR : ∀ e w', R e w' → ∃ ch, e = .panicked ch ∧ Q (.panic ch) a w') (v' : Value) (_ : Hid False → K (a.put o.dst v') w) :
    if Region.wanted o (yielded ops a.tmps) = true then Oper.wp Tryd.prog o a w K Q else E := by
  have hw : Region.wanted o (yielded ops a.tmps) = true := by simp [Region.wanted, hg]
  rw [if_pos hw]
  have h1 : fn.name ≠ "runtime.NumGoroutine" := by simpa using hname
  unfold Oper.wp
  have he : (execOp a.eval o).run Tryd.prog w = .ok (.enter f #[u0, u1, u2]) w := by
    have hev : a.eval (.func f) = .func (.func f) #[] #[] := rfl
    simp [execOp, hop, resolve, invoke, hx, hy, hz, hev, Deferred.ofValue, callFunc, hf, h1, hb]
  rw [he, Oper.upon_enter]
  refine hc.mono ?_
  intro e w' hr
  obtain ⟨z, rfl, hk⟩ := hR e w' hr
  exact hk
theorem step_call3g {w : World} {ops : Array Oper} {o : Oper} {a : Act} {K : Act → World → Prop} {Q : Exit → Act → World → Prop} {E : Prop} {f : FuncId} {fn : Func} {code : Code} {u0 u1 u2 : Value} {R : Ending → World → Prop} (x y z : Operand) (t0 t1 t2 : TypeId)
    (hg : o.guard = none) (hop : o.op = Op.call { callee := .value (.func f), args := #[x, y, z], argTypes := #[t0, t1, t2] }) (hx : a.eval x = u0) (hy : a.eval y = u1) (hz : a.eval z = u2)
    (hf : Tryd.prog.funcs[f]? = some fn) (hname : (fn.name == "runtime.NumGoroutine") = false) (hb : fn.body = some code)
    (hc : Calls Tryd.prog f #[u0, u1, u2] w R) (hR : ∀ e w', R e w' → ∃ z, e = .returned z ∧ K (a.put o.dst z) w') :
    if Region.wanted o (yielded ops a.tmps) = true then Oper.wp Tryd.prog o a w K Q else E := by
  have hw : Region.wanted o (yielded ops a.tmps) = true := by simp [Region.wanted, hg]
  rw [if_pos hw]
  have h1 : fn.name ≠ "runtime.NumGoroutine" := by simpa using hname
  unfold Oper.wp
  have he : (execOp a.eval o).run Tryd.prog w = .ok (.enter f #[u0, u1, u2]) w := by
    have hev : a.eval (.func f) = .func (.func f) #[] #[] := rfl
    simp [execOp, hop, resolve, invoke, hx, hy, hz, hev, Deferred.ofValue, callFunc, hf, h1, hb]
  rw [he, Oper.upon_enter]
  refine hc.mono ?_
  intro e w' hr
  obtain ⟨z, rfl, hk⟩ := hR e w' hr
  exact hk

/-- the value's own block holds D -/
structure ValD (w W : World) (A R : Nat) (D : Array Value) (l : List UInt8) : Prop where
  b1 : W.heap[w.heap.size + 1]? = some (.cells #[.int .i64 0, .int .i64 0, .float .f64 0, .string ⟨#[]⟩, .slice none 0 0] 70 (0, 0))
  b2 : W.heap[w.heap.size + 1 + 1]? = some (.cells D 70 (0, 0))
  rd : Rdr W A R l
  aside : Aside (fun i => i = R) w W
  size : w.heap.size + 3 ≤ W.heap.size
theorem ValIn.set {w W : World} {A R : Nat} {k : Int} {C0 : Array Value} {l : List UInt8} (h : ValIn w W A R k C0 l) (hR : R < w.heap.size) (m : Nat) (u : Value) : ValD w (W.setCell ⟨w.heap.size + 1 + 1, m, none⟩ u) A R ((#[.int .i64 k, .int .i64 0, .float .f64 0, .string ⟨#[]⟩, .slice none 0 0] : Array Value).set! m u) l := by
  have h2 : Aside (fun i => i = w.heap.size + 1 + 1) W (W.setCell ⟨w.heap.size + 1 + 1, m, none⟩ u) := aside_set _ _ _ _
  have hs := h.size
  refine ⟨?_, blk_set h.b2 m u, h.rd.aside h2 (fun j hj => by rw [hj]; omega), h.aside.trans h2 (fun j hj he => by rw [he] at hj; omega), Nat.le_trans hs h2.size⟩
  rw [h2.block _ (by omega) (by omega)]
  exact h.b1
theorem ValD.on {w W W' : World} {A R : Nat} {D : Array Value} {l : List UInt8} (h : ValD w W A R D l) (hb : Below W.heap.size W W') : ValD w W' A R D l := by
  have hs := h.size
  exact ⟨blk_on h.b1 hb (by omega), blk_on h.b2 hb (by omega), h.rd.on hb, h.aside.trans (aside_new hb (fun _ => False)) (fun _ _ h => h.elim), Nat.le_trans hs hb.size⟩

set_option maxRecDepth 100000 in
set_option maxHeartbeats 1000000 in
theorem value_4 (l : List UInt8) (A R : Nat) (w : World) (p : Option Addr) (n c : Nat) (h : Rdr w A R l) : Calls Tryd.prog 53 #[.pointer (some ⟨R, 0, none⟩), .agg #[.int .i64 4, .slice p n c]] w (RdA w A R l (Sch.scalar 4 l) (isV w)) := by
  have hR := h.lt
  obtain ⟨W, hW⟩ : ∃ W, W = ((w.alloc (.cells #[.int .i64 4, .slice p n c] 66)).alloc (.cells #[.int .i64 0, .int .i64 0, .float .f64 0, .string ⟨#[]⟩, .slice none 0 0] 70)).alloc (.cells #[.int .i64 4, .int .i64 0, .float .f64 0, .string ⟨#[]⟩, .slice none 0 0] 70) := ⟨_, rfl⟩
  have HI : Hid (ValIn w W A R 4 #[.int .i64 4, .slice p n c] l) := by rw [hW]; exact valIn_start 4 _ h
  have HW := Lib.hid hW
  obtain ⟨r, hr⟩ : ∃ r, r = Sch.scalar 4 l := ⟨_, rfl⟩
  have HR := Lib.hid (hr.trans (scalar_4 l))
  rw [← hr]
  have HC := Lib.hid (textK l A R W HI.out.rd)
  obtain ⟨m, hm⟩ : ∃ m, m = Sch.text 1024 2 l := ⟨_, rfl⟩
  rw [← hm] at HR HC
  have HM := Lib.hid hm
  clear hr hm h hW
  cases m with
  | error er =>
    have HR2 : Hid (r = .error er) := HR.out
    clear HR
    go_enter Tryd.func53, Tryd.ntmps53
    go_wp2_with fail
    rw [← HW.out]
    refine HC.out.mono ?_
    intro e w1 hh
    obtain ⟨he, ha⟩ := hh.bad
    subst he
    clear hh
    have HA := Lib.hid (HI.out.aside.trans ha (fun _ _ h => h))
    clear ha HC
    go_wp2
    rw [HR2.out]
    exact ⟨rfl, rfl, HA.out⟩
  | ok xj =>
    obtain ⟨x, j⟩ := xj
    have HR2 : Hid (r = if utfT x = false then .error 61 else .ok (.mk 4 0 0 x [], j)) := HR.out
    have hx : x.size ≤ 1024 := (Sch.text_ok HM.out.symm).1
    clear HR HM
    go_enter Tryd.func53, Tryd.ntmps53
    go_wp2_with fail
    rw [← HW.out]
    refine HC.out.mono ?_
    intro e w1 hh
    obtain ⟨v, he, hv, hrd, ha⟩ := hh.good
    clear hh
    replace hv : v = .string x := hv
    subst hv
    subst he
    have HI1 := Lib.hid (HI.out.step ha hrd hR)
    clear ha hrd HC HW HI
    have q3 : w1.cell? ⟨w.heap.size + 1 + 1, 3, none⟩ = some (.string ⟨#[]⟩) := blk_cell HI1.out.b2 3
    have qf3 := blk_free HI1.out.b2 3
    obtain ⟨W1, hW1⟩ : ∃ W1, W1 = w1.setCell ⟨w.heap.size + 1 + 1, 3, none⟩ (.string x) := ⟨_, rfl⟩
    have HD1 : Hid (ValD w W1 A R #[.int .i64 4, .int .i64 0, .float .f64 0, .string x, .slice none 0 0] (l.drop j)) := by rw [hW1]; exact HI1.out.set hR 3 (.string x)
    have HU := Lib.hid (utfK x (by omega) W1)
    have HW1 := Lib.hid hW1
    obtain ⟨ru, hru⟩ : ∃ b, b = utfT x := ⟨_, rfl⟩
    rw [← hru] at HU HR2
    clear hW1 hru
    go_wp2_with fail
    rw [← HW1.out]
    refine HU.out.mono ?_
    rintro e w2 ⟨rfl, hb2⟩
    have HD2 := Lib.hid (HD1.out.on hb2)
    clear hb2 HU HD1 HW1 q3 qf3 HI1
    cases ru with
    | false =>
      have HR3 : Hid (r = .error 61) := HR2.out.trans (if_pos (by first | rfl | trivial))
      clear HR2
      go_wp2_with fail
      refine (need_f _ 61 _).mono ?_
      rintro e w3 ⟨rfl, hw3⟩
      rw [hw3]
      clear hw3 w3
      go_wp2
      rw [HR3.out]
      exact ⟨rfl, rfl, HD2.out.aside⟩
    | true =>
      have HR3 : Hid (r = .ok (.mk 4 0 0 x [], j)) := HR2.out.trans (if_neg (by first | decide | simp))
      clear HR2
      go_wp2_with fail
      refine (need_t _ 61 _).mono ?_
      rintro e w3 ⟨rfl, hw3⟩
      rw [hw3]
      clear hw3 w3
      have q0 : w2.cell? ⟨w.heap.size + 1 + 1, 0, none⟩ = some (.int .i64 4) := blk_cell HD2.out.b2 0
      have q1 : w2.cell? ⟨w.heap.size + 1 + 1, 1, none⟩ = some (.int .i64 0) := blk_cell HD2.out.b2 1
      have q2 : w2.cell? ⟨w.heap.size + 1 + 1, 2, none⟩ = some (.float .f64 0) := blk_cell HD2.out.b2 2
      have q3 : w2.cell? ⟨w.heap.size + 1 + 1, 3, none⟩ = some (.string x) := blk_cell HD2.out.b2 3
      have q4 : w2.cell? ⟨w.heap.size + 1 + 1, 4, none⟩ = some (.slice none 0 0) := blk_cell HD2.out.b2 4
      have t0 : w2.cell? ⟨w.heap.size + 1, 0, none⟩ = some (.int .i64 0) := blk_cell HD2.out.b1 0
      have tf0 := blk_free HD2.out.b1 0
      have t1 : w2.cell? ⟨w.heap.size + 1, 1, none⟩ = some (.int .i64 0) := blk_cell HD2.out.b1 1
      have tf1 := blk_free HD2.out.b1 1
      have t2 : w2.cell? ⟨w.heap.size + 1, 2, none⟩ = some (.float .f64 0) := blk_cell HD2.out.b1 2
      have tf2 := blk_free HD2.out.b1 2
      have t3 : w2.cell? ⟨w.heap.size + 1, 3, none⟩ = some (.string ⟨#[]⟩) := blk_cell HD2.out.b1 3
      have tf3 := blk_free HD2.out.b1 3
      have t4 : w2.cell? ⟨w.heap.size + 1, 4, none⟩ = some (.slice none 0 0) := blk_cell HD2.out.b1 4
      have tf4 := blk_free HD2.out.b1 4
      have HFin := Lib.hid (finV (k := 4) (i := 0) (b := 0) (t := x) (q := none) (n := 0) (c := 0) (x := .mk 4 0 0 x []) (F := fun _ => False) (N := w.heap.size + 1) hR (by omega) HD2.out.b1 .none (fun _ h => h.elim) HD2.out.rd HD2.out.aside)
      go_wp2
      obtain ⟨f1, f2, f3, f4⟩ := HFin.out
      refine bodyPost_ret (v := .agg (cells5 4 0 0 x none 0 0)) (results_cell_row rfl _ _ (w.heap.size + 1) _ _ _ _ rfl f1 Tryd.underlying70 rfl (by kernel_rfl)) rfl ?_
      rw [HR3.out]
      exact ⟨_, rfl, f2, f3, f4⟩
end Go.Proofs.YtohgmkgclgoflaaDoor

/- The landed schema's reader: value, of kinds that have items; of each kind. -/
namespace Go.Proofs.YtohgmkgclgoflaaDoor
open Go.RowKit

attribute [local go_sem] run_store_float

theorem many_6 (l : List UInt8) : Sch.many 6 l = Sch.bit l := rfl
theorem many_7 (l : List UInt8) : Sch.many 7 l = countR 256 3 l := by
  unfold Sch.many countR
  rw [if_neg (by decide)]
  rfl
theorem rdV_67 (k : Int) (h : k = 6 ∨ k = 7) (x : Ty) (l : List UInt8) : Sch.rdV (.mk k [x]) l = thenR (Sch.many k l) fun m j => thenR (Sch.rdN (Sch.rdV x) m (l.drop j)) fun vs j2 => .ok (.mk k 0 0 ⟨#[]⟩ vs, j + j2) := by
  rw [Sch.rdV_mk, if_neg (by omega)]
  cases Sch.many k l with
  | error e => rfl
  | ok p =>
    obtain ⟨m, j⟩ := p
    rw [thenR_ok]
    have e : (([x] : List Ty).map Sch.rdV).headD (fun _ => .error 0) = Sch.rdV x := rfl
    dsimp only
    rw [e]
    cases Sch.rdN (Sch.rdV x) m (l.drop j) with
    | error e => rfl
    | ok q => rfl
theorem count_le {most er : Nat} {l : List UInt8} {n k : Nat} (h : countR most er l = .ok (n, k)) : n ≤ most := by
  unfold countR at h
  split at h
  · cases h
  · split at h
    · cases h
    · injection h with h
      injection h with h1 _
      omega

set_option maxRecDepth 100000 in
set_option maxHeartbeats 2000000 in
theorem value_6 (x : Ty) (hx : ValOk x) (l : List UInt8) (A R : Nat) (w : World) (u : Array Value) (hf : TFar w R u (.mk 6 [x])) (h : Rdr w A R l) : Calls Tryd.prog 53 #[.pointer (some ⟨R, 0, none⟩), .agg u] w (RdA w A R l (Sch.rdV (.mk 6 [x]) l) (isV w)) := by
  have hR := h.lt
  obtain ⟨g, off, c, k', q', n', c', rfl, hfx, hRg, hgw, y0, y1⟩ := hf.one
  unfold cells2
  obtain ⟨W, hW⟩ : ∃ W, W = ((w.alloc (.cells #[.int .i64 6, .slice (some ⟨g, off, none⟩) 1 c] 66)).alloc (.cells #[.int .i64 0, .int .i64 0, .float .f64 0, .string ⟨#[]⟩, .slice none 0 0] 70)).alloc (.cells #[.int .i64 6, .int .i64 0, .float .f64 0, .string ⟨#[]⟩, .slice none 0 0] 70) := ⟨_, rfl⟩
  have HI : Hid (ValIn w W A R 6 #[.int .i64 6, .slice (some ⟨g, off, none⟩) 1 c] l) := by rw [hW]; exact valIn_start 6 _ h
  have HW := Lib.hid hW
  obtain ⟨r, hr⟩ : ∃ r, r = Sch.rdV (.mk 6 [x]) l := ⟨_, rfl⟩
  have HR0 := Lib.hid (hr.trans (rdV_67 6 (by omega) x l))
  rw [← hr]
  have HR : Hid (r = thenR (Sch.bit l) fun m j => thenR (Sch.rdN (Sch.rdV x) m (l.drop j)) fun vs j2 => .ok (.mk 6 0 0 ⟨#[]⟩ vs, j + j2)) := by show _ = _; rw [HR0.out, many_6]
  have HC : Hid (Calls Tryd.prog 52 #[.pointer (some ⟨R, 0, none⟩)] W.drew (RdA W A R l (Sch.bit l) isI)) := (flagK l A R W.drew HI.out.rd.drew).mono fun _ _ h => h.undrew
  have HFx := Lib.hid hfx
  have HX := Lib.hid hx
  -- the cells that are read, wherever only the reader has changed
  have HCells : Hid (∀ W', Aside (fun i => i = R) W W' → W'.cell? ⟨w.heap.size, 1, none⟩ = some (.slice (some ⟨g, off, none⟩) 1 c) ∧ W'.cell? ⟨g, off, none⟩ = some (.int .i64 k') ∧ W'.cell? ⟨g, off + 1, none⟩ = some (.slice q' n' c')) := fun W' ha => by
    have hs := HI.out.size
    have hgW : g < W.heap.size := by omega
    refine ⟨?_, ?_, ?_⟩
    · rw [ha.cell (show w.heap.size < W.heap.size by omega) (show ¬ w.heap.size = R by omega)]; exact blk_cell HI.out.b0 1
    · rw [ha.cell (show g < W.heap.size from hgW) (show ¬ g = R by omega), HI.out.aside.cell hgw (show ¬ g = R by omega)]; exact y0
    · rw [ha.cell (show g < W.heap.size from hgW) (show ¬ g = R by omega), HI.out.aside.cell hgw (show ¬ g = R by omega)]; exact y1
  obtain ⟨x1, x2, x3⟩ := HCells.out W (Aside.refl _ _)
  have q4 : W.cell? ⟨w.heap.size + 1 + 1, 4, none⟩ = some (.slice none 0 0) := blk_cell HI.out.b2 4
  have qf4 := blk_free HI.out.b2 4
  obtain ⟨m0, hm0⟩ : ∃ m, m = Sch.bit l := ⟨_, rfl⟩
  rw [← hm0] at HR HC
  have HM := Lib.hid hm0
  clear hr hm0 h hW hfx hx y0 y1 hf HR0
  cases m0 with
  | error er =>
    have HErr : Hid (∀ w2, Aside (fun i => i = R) W w2 → RdA w A R l r (isV w) (.panicked (errV er)) w2) := fun w2 ha => by
      have e : r = .error er := HR.out
      rw [e]
      exact ⟨rfl, HI.out.aside.trans ha (fun _ _ h => h)⟩
    clear HR
    go_enter Tryd.func53, Tryd.ntmps53
    go_wp2_with fail
    rw [← HW.out]
    go_region_law (first
      | (refine step_call1b (.tmp 45) 96 (by rfl) (by rfl) (by rfl) Tryd.func52 (by kernel_rfl) (by rfl) HC.out (fun e w2 hh => ⟨_, hh.bad.1, rfl, HErr.out w2 hh.bad.2⟩) (.int .i64 0) ?_
         intro HF)
      | (refine step_never HF (.slice none 0 0) ?_))
    all_goals exact HF.out.elim
  | ok mj =>
    obtain ⟨m, j⟩ := mj
    have hm256 : m ≤ 256 := by have := (Sch.bit_ok HM.out.symm).1; omega
    have HR2 : Hid (r = thenR (Sch.rdN (Sch.rdV x) m (l.drop j)) fun vs j2 => .ok (.mk 6 0 0 ⟨#[]⟩ vs, j + j2)) := HR.out
    have HCi := Lib.hid (fun w1 (ha : Aside (fun i => i = R) W w1) (hrd : Rdr w1 A R (l.drop j)) => itemsK x HX.out m hm256 (l.drop j) A R w1 _ ((HFx.out.aside HI.out.aside).aside ha) hrd)
    unfold cells2 at HCi
    obtain ⟨m1, hm1⟩ : ∃ m1, m1 = Sch.rdN (Sch.rdV x) m (l.drop j) := ⟨_, rfl⟩
    rw [← hm1] at HR2 HCi
    clear HR hm1 HM HX HFx
    cases m1 with
    | error er =>
      have HErr : Hid (∀ w1 w2, Aside (fun i => i = R) W w1 → Aside (fun i => i = R) w1 w2 → RdA w A R l r (isV w) (.panicked (errV er)) w2) := fun w1 w2 ha ha2 => by
        have e : r = .error er := HR2.out
        rw [e]
        exact ⟨rfl, (HI.out.aside.trans ha (fun _ _ h => h)).trans ha2 (fun _ _ h => h)⟩
      clear HR2
      go_enter Tryd.func53, Tryd.ntmps53
      go_wp2_with fail
      rw [← HW.out]
      go_region_law (first
        | (refine step_call1g (.tmp 45) 96 (by rfl) (by rfl) (by rfl) Tryd.func52 (by kernel_rfl) (by rfl) HC.out ?_
           intro e w1 hh
           obtain ⟨v, he, hv, hrd, ha⟩ := hh.good
           clear hh
           replace hv : v = .int .i64 (m : Nat) := hv
           subst hv
           refine ⟨_, he, ?_⟩
           clear he
           have HA1 := Lib.hid ha
           have HRd1 := Lib.hid hrd
           obtain ⟨x1', x2', x3'⟩ := HCells.out w1 ha
           have HI1 := Lib.hid (HI.out.step ha hrd hR)
           have q4' : w1.cell? ⟨w.heap.size + 1 + 1, 4, none⟩ = some (.slice none 0 0) := blk_cell HI1.out.b2 4
           have qf4' := blk_free HI1.out.b2 4
           clear ha hrd)
        | (refine step_call3b (.tmp 44) (.tmp 46) (.tmp 50) 96 3 66 (by rfl) (by rfl) (by rfl) (by rfl) (by rfl) Tryd.func61 (by kernel_rfl) (by rfl) (HCi.out w1 HA1.out HRd1.out) (fun e w2 hh => ⟨_, hh.bad.1, rfl, HErr.out w1 w2 HA1.out hh.bad.2⟩) (.slice none 0 0) ?_
           intro HF))
      all_goals exact HF.out.elim
    | ok vj =>
      obtain ⟨vs, j2⟩ := vj
      have HRok : Hid (r = .ok (.mk 6 0 0 ⟨#[]⟩ vs, j + j2)) := HR2.out
      clear HR2
      go_enter Tryd.func53, Tryd.ntmps53
      go_wp2_with fail
      rw [← HW.out]
      go_region_law (first
        | (refine step_call1g (.tmp 45) 96 (by rfl) (by rfl) (by rfl) Tryd.func52 (by kernel_rfl) (by rfl) HC.out ?_
           intro e w1 hh
           obtain ⟨v, he, hv, hrd, ha⟩ := hh.good
           clear hh
           replace hv : v = .int .i64 (m : Nat) := hv
           subst hv
           refine ⟨_, he, ?_⟩
           clear he
           have HA1 := Lib.hid ha
           have HRd1 := Lib.hid hrd
           obtain ⟨x1', x2', x3'⟩ := HCells.out w1 ha
           have HI1 := Lib.hid (HI.out.step ha hrd hR)
           clear ha hrd)
        | (refine step_call3g (.tmp 44) (.tmp 46) (.tmp 50) 96 3 66 (by rfl) (by rfl) (by rfl) (by rfl) (by rfl) Tryd.func61 (by kernel_rfl) (by rfl) (HCi.out w1 HA1.out HRd1.out) ?_
           intro e w2 hh
           obtain ⟨v, he, hv, hrd, ha⟩ := hh.good
           obtain ⟨qi, ci, hv2, hown⟩ := hv.open
           clear hh hv
           subst hv2
           refine ⟨_, he, ?_⟩
           clear he
           have HI2 := Lib.hid (HI1.out.step ha hrd hR)
           have HOn := Lib.hid hown
           have hs1 := HI1.out.size
           have hs2 := ha.size
           have z4 : w2.cell? ⟨w.heap.size + 1 + 1, 4, none⟩ = some (.slice none 0 0) := blk_cell HI2.out.b2 4
           have zf4 := blk_free HI2.out.b2 4
           clear ha hrd hown))
      all_goals
        have HD := Lib.hid (HI2.out.set hR 4 (.slice qi vs.length ci))
        have HFin := Lib.hid (finV (k := 6) (i := 0) (b := 0) (t := ⟨#[]⟩) (q := qi) (n := vs.length) (c := ci) (x := .mk 6 0 0 ⟨#[]⟩ vs) (N := w.heap.size + 1) hR (by omega) HD.out.b1 ((HOn.out 6).aside (aside_set w2 (w.heap.size + 1 + 1) 4 (.slice qi vs.length ci)) (fun i hi he => by omega)) (fun i hi => ⟨by omega, by have := (aside_set w2 (w.heap.size + 1 + 1) 4 (.slice qi vs.length ci)).size; omega⟩) HD.out.rd HD.out.aside)
        have z0 : w2.cell? ⟨w.heap.size + 1 + 1, 0, none⟩ = some (.int .i64 6) := blk_cell HI2.out.b2 0
        have z1 : w2.cell? ⟨w.heap.size + 1 + 1, 1, none⟩ = some (.int .i64 0) := blk_cell HI2.out.b2 1
        have z2 : w2.cell? ⟨w.heap.size + 1 + 1, 2, none⟩ = some (.float .f64 0) := blk_cell HI2.out.b2 2
        have z3 : w2.cell? ⟨w.heap.size + 1 + 1, 3, none⟩ = some (.string ⟨#[]⟩) := blk_cell HI2.out.b2 3
        have t0 : w2.cell? ⟨w.heap.size + 1, 0, none⟩ = some (.int .i64 0) := blk_cell HI2.out.b1 0
        have tf0 := blk_free HI2.out.b1 0
        have t1 : w2.cell? ⟨w.heap.size + 1, 1, none⟩ = some (.int .i64 0) := blk_cell HI2.out.b1 1
        have tf1 := blk_free HI2.out.b1 1
        have t2 : w2.cell? ⟨w.heap.size + 1, 2, none⟩ = some (.float .f64 0) := blk_cell HI2.out.b1 2
        have tf2 := blk_free HI2.out.b1 2
        have t3 : w2.cell? ⟨w.heap.size + 1, 3, none⟩ = some (.string ⟨#[]⟩) := blk_cell HI2.out.b1 3
        have tf3 := blk_free HI2.out.b1 3
        have t4 : w2.cell? ⟨w.heap.size + 1, 4, none⟩ = some (.slice none 0 0) := blk_cell HI2.out.b1 4
        have tf4 := blk_free HI2.out.b1 4
        clear x1 x2 x3 q4 qf4 x1' x2' x3'
        go_wp2
        obtain ⟨f1, f2, f3, f4⟩ := HFin.out
        refine bodyPost_ret (v := .agg (cells5 6 0 0 ⟨#[]⟩ qi vs.length ci)) (results_cell_row rfl _ _ (w.heap.size + 1) _ _ _ _ rfl f1 Tryd.underlying70 rfl (by kernel_rfl)) rfl ?_
        rw [HRok.out]
        refine ⟨_, rfl, f2, ?_, f4⟩
        rw [← List.drop_drop]
        exact f3

set_option maxRecDepth 100000 in
set_option maxHeartbeats 2000000 in
theorem value_7 (x : Ty) (hx : ValOk x) (l : List UInt8) (A R : Nat) (w : World) (u : Array Value) (hf : TFar w R u (.mk 7 [x])) (h : Rdr w A R l) : Calls Tryd.prog 53 #[.pointer (some ⟨R, 0, none⟩), .agg u] w (RdA w A R l (Sch.rdV (.mk 7 [x]) l) (isV w)) := by
  have hR := h.lt
  obtain ⟨g, off, c, k', q', n', c', rfl, hfx, hRg, hgw, y0, y1⟩ := hf.one
  unfold cells2
  obtain ⟨W, hW⟩ : ∃ W, W = ((w.alloc (.cells #[.int .i64 7, .slice (some ⟨g, off, none⟩) 1 c] 66)).alloc (.cells #[.int .i64 0, .int .i64 0, .float .f64 0, .string ⟨#[]⟩, .slice none 0 0] 70)).alloc (.cells #[.int .i64 7, .int .i64 0, .float .f64 0, .string ⟨#[]⟩, .slice none 0 0] 70) := ⟨_, rfl⟩
  have HI : Hid (ValIn w W A R 7 #[.int .i64 7, .slice (some ⟨g, off, none⟩) 1 c] l) := by rw [hW]; exact valIn_start 7 _ h
  have HW := Lib.hid hW
  obtain ⟨r, hr⟩ : ∃ r, r = Sch.rdV (.mk 7 [x]) l := ⟨_, rfl⟩
  have HR0 := Lib.hid (hr.trans (rdV_67 7 (by omega) x l))
  rw [← hr]
  have HR : Hid (r = thenR (countR 256 3 l) fun m j => thenR (Sch.rdN (Sch.rdV x) m (l.drop j)) fun vs j2 => .ok (.mk 7 0 0 ⟨#[]⟩ vs, j + j2)) := by show _ = _; rw [HR0.out, many_7]
  have HC : Hid (Calls Tryd.prog 45 #[.pointer (some ⟨R, 0, none⟩), .int .u64 256, .int .i64 3] W.drew (RdA W A R l (countR 256 3 l) isI)) := (countK 256 3 (by omega) l A R W.drew HI.out.rd.drew).mono fun _ _ h => h.undrew
  have HFx := Lib.hid hfx
  have HX := Lib.hid hx
  -- the cells that are read, wherever only the reader has changed
  have HCells : Hid (∀ W', Aside (fun i => i = R) W W' → W'.cell? ⟨w.heap.size, 1, none⟩ = some (.slice (some ⟨g, off, none⟩) 1 c) ∧ W'.cell? ⟨g, off, none⟩ = some (.int .i64 k') ∧ W'.cell? ⟨g, off + 1, none⟩ = some (.slice q' n' c')) := fun W' ha => by
    have hs := HI.out.size
    have hgW : g < W.heap.size := by omega
    refine ⟨?_, ?_, ?_⟩
    · rw [ha.cell (show w.heap.size < W.heap.size by omega) (show ¬ w.heap.size = R by omega)]; exact blk_cell HI.out.b0 1
    · rw [ha.cell (show g < W.heap.size from hgW) (show ¬ g = R by omega), HI.out.aside.cell hgw (show ¬ g = R by omega)]; exact y0
    · rw [ha.cell (show g < W.heap.size from hgW) (show ¬ g = R by omega), HI.out.aside.cell hgw (show ¬ g = R by omega)]; exact y1
  obtain ⟨x1, x2, x3⟩ := HCells.out W (Aside.refl _ _)
  have q4 : W.cell? ⟨w.heap.size + 1 + 1, 4, none⟩ = some (.slice none 0 0) := blk_cell HI.out.b2 4
  have qf4 := blk_free HI.out.b2 4
  obtain ⟨m0, hm0⟩ : ∃ m, m = countR 256 3 l := ⟨_, rfl⟩
  rw [← hm0] at HR HC
  have HM := Lib.hid hm0
  clear hr hm0 h hW hfx hx y0 y1 hf HR0
  cases m0 with
  | error er =>
    have HErr : Hid (∀ w2, Aside (fun i => i = R) W w2 → RdA w A R l r (isV w) (.panicked (errV er)) w2) := fun w2 ha => by
      have e : r = .error er := HR.out
      rw [e]
      exact ⟨rfl, HI.out.aside.trans ha (fun _ _ h => h)⟩
    clear HR
    go_enter Tryd.func53, Tryd.ntmps53
    go_wp2_with fail
    rw [← HW.out]
    go_region_law (first
      | (refine step_call3b (.tmp 56) (.const (.int .u64 256)) (.const (.int .i64 3)) 96 81 23 (by rfl) (by rfl) (by rfl) (by rfl) (by rfl) Tryd.func45 (by kernel_rfl) (by rfl) HC.out (fun e w2 hh => ⟨_, hh.bad.1, rfl, HErr.out w2 hh.bad.2⟩) (.int .i64 0) ?_
         intro HF)
      | (refine step_never HF (.slice none 0 0) ?_))
    all_goals exact HF.out.elim
  | ok mj =>
    obtain ⟨m, j⟩ := mj
    have hm256 : m ≤ 256 := count_le HM.out.symm
    have HR2 : Hid (r = thenR (Sch.rdN (Sch.rdV x) m (l.drop j)) fun vs j2 => .ok (.mk 7 0 0 ⟨#[]⟩ vs, j + j2)) := HR.out
    have HCi := Lib.hid (fun w1 (ha : Aside (fun i => i = R) W w1) (hrd : Rdr w1 A R (l.drop j)) => itemsK x HX.out m hm256 (l.drop j) A R w1 _ ((HFx.out.aside HI.out.aside).aside ha) hrd)
    unfold cells2 at HCi
    obtain ⟨m1, hm1⟩ : ∃ m1, m1 = Sch.rdN (Sch.rdV x) m (l.drop j) := ⟨_, rfl⟩
    rw [← hm1] at HR2 HCi
    clear HR hm1 HM HX HFx
    cases m1 with
    | error er =>
      have HErr : Hid (∀ w1 w2, Aside (fun i => i = R) W w1 → Aside (fun i => i = R) w1 w2 → RdA w A R l r (isV w) (.panicked (errV er)) w2) := fun w1 w2 ha ha2 => by
        have e : r = .error er := HR2.out
        rw [e]
        exact ⟨rfl, (HI.out.aside.trans ha (fun _ _ h => h)).trans ha2 (fun _ _ h => h)⟩
      clear HR2
      go_enter Tryd.func53, Tryd.ntmps53
      go_wp2_with fail
      rw [← HW.out]
      go_region_law (first
        | (refine step_call3g (.tmp 56) (.const (.int .u64 256)) (.const (.int .i64 3)) 96 81 23 (by rfl) (by rfl) (by rfl) (by rfl) (by rfl) Tryd.func45 (by kernel_rfl) (by rfl) HC.out ?_
           intro e w1 hh
           obtain ⟨v, he, hv, hrd, ha⟩ := hh.good
           clear hh
           replace hv : v = .int .i64 (m : Nat) := hv
           subst hv
           refine ⟨_, he, ?_⟩
           clear he
           have HA1 := Lib.hid ha
           have HRd1 := Lib.hid hrd
           obtain ⟨x1', x2', x3'⟩ := HCells.out w1 ha
           have HI1 := Lib.hid (HI.out.step ha hrd hR)
           have q4' : w1.cell? ⟨w.heap.size + 1 + 1, 4, none⟩ = some (.slice none 0 0) := blk_cell HI1.out.b2 4
           have qf4' := blk_free HI1.out.b2 4
           clear ha hrd)
        | (refine step_call3b (.tmp 55) (.tmp 57) (.tmp 61) 96 3 66 (by rfl) (by rfl) (by rfl) (by rfl) (by rfl) Tryd.func61 (by kernel_rfl) (by rfl) (HCi.out w1 HA1.out HRd1.out) (fun e w2 hh => ⟨_, hh.bad.1, rfl, HErr.out w1 w2 HA1.out hh.bad.2⟩) (.slice none 0 0) ?_
           intro HF))
      all_goals exact HF.out.elim
    | ok vj =>
      obtain ⟨vs, j2⟩ := vj
      have HRok : Hid (r = .ok (.mk 7 0 0 ⟨#[]⟩ vs, j + j2)) := HR2.out
      clear HR2
      go_enter Tryd.func53, Tryd.ntmps53
      go_wp2_with fail
      rw [← HW.out]
      go_region_law (first
        | (refine step_call3g (.tmp 56) (.const (.int .u64 256)) (.const (.int .i64 3)) 96 81 23 (by rfl) (by rfl) (by rfl) (by rfl) (by rfl) Tryd.func45 (by kernel_rfl) (by rfl) HC.out ?_
           intro e w1 hh
           obtain ⟨v, he, hv, hrd, ha⟩ := hh.good
           clear hh
           replace hv : v = .int .i64 (m : Nat) := hv
           subst hv
           refine ⟨_, he, ?_⟩
           clear he
           have HA1 := Lib.hid ha
           have HRd1 := Lib.hid hrd
           obtain ⟨x1', x2', x3'⟩ := HCells.out w1 ha
           have HI1 := Lib.hid (HI.out.step ha hrd hR)
           clear ha hrd)
        | (refine step_call3g (.tmp 55) (.tmp 57) (.tmp 61) 96 3 66 (by rfl) (by rfl) (by rfl) (by rfl) (by rfl) Tryd.func61 (by kernel_rfl) (by rfl) (HCi.out w1 HA1.out HRd1.out) ?_
           intro e w2 hh
           obtain ⟨v, he, hv, hrd, ha⟩ := hh.good
           obtain ⟨qi, ci, hv2, hown⟩ := hv.open
           clear hh hv
           subst hv2
           refine ⟨_, he, ?_⟩
           clear he
           have HI2 := Lib.hid (HI1.out.step ha hrd hR)
           have HOn := Lib.hid hown
           have hs1 := HI1.out.size
           have hs2 := ha.size
           have z4 : w2.cell? ⟨w.heap.size + 1 + 1, 4, none⟩ = some (.slice none 0 0) := blk_cell HI2.out.b2 4
           have zf4 := blk_free HI2.out.b2 4
           clear ha hrd hown))
      all_goals
        have HD := Lib.hid (HI2.out.set hR 4 (.slice qi vs.length ci))
        have HFin := Lib.hid (finV (k := 7) (i := 0) (b := 0) (t := ⟨#[]⟩) (q := qi) (n := vs.length) (c := ci) (x := .mk 7 0 0 ⟨#[]⟩ vs) (N := w.heap.size + 1) hR (by omega) HD.out.b1 ((HOn.out 7).aside (aside_set w2 (w.heap.size + 1 + 1) 4 (.slice qi vs.length ci)) (fun i hi he => by omega)) (fun i hi => ⟨by omega, by have := (aside_set w2 (w.heap.size + 1 + 1) 4 (.slice qi vs.length ci)).size; omega⟩) HD.out.rd HD.out.aside)
        have z0 : w2.cell? ⟨w.heap.size + 1 + 1, 0, none⟩ = some (.int .i64 7) := blk_cell HI2.out.b2 0
        have z1 : w2.cell? ⟨w.heap.size + 1 + 1, 1, none⟩ = some (.int .i64 0) := blk_cell HI2.out.b2 1
        have z2 : w2.cell? ⟨w.heap.size + 1 + 1, 2, none⟩ = some (.float .f64 0) := blk_cell HI2.out.b2 2
        have z3 : w2.cell? ⟨w.heap.size + 1 + 1, 3, none⟩ = some (.string ⟨#[]⟩) := blk_cell HI2.out.b2 3
        have t0 : w2.cell? ⟨w.heap.size + 1, 0, none⟩ = some (.int .i64 0) := blk_cell HI2.out.b1 0
        have tf0 := blk_free HI2.out.b1 0
        have t1 : w2.cell? ⟨w.heap.size + 1, 1, none⟩ = some (.int .i64 0) := blk_cell HI2.out.b1 1
        have tf1 := blk_free HI2.out.b1 1
        have t2 : w2.cell? ⟨w.heap.size + 1, 2, none⟩ = some (.float .f64 0) := blk_cell HI2.out.b1 2
        have tf2 := blk_free HI2.out.b1 2
        have t3 : w2.cell? ⟨w.heap.size + 1, 3, none⟩ = some (.string ⟨#[]⟩) := blk_cell HI2.out.b1 3
        have tf3 := blk_free HI2.out.b1 3
        have t4 : w2.cell? ⟨w.heap.size + 1, 4, none⟩ = some (.slice none 0 0) := blk_cell HI2.out.b1 4
        have tf4 := blk_free HI2.out.b1 4
        clear x1 x2 x3 q4 qf4 x1' x2' x3'
        go_wp2
        obtain ⟨f1, f2, f3, f4⟩ := HFin.out
        refine bodyPost_ret (v := .agg (cells5 7 0 0 ⟨#[]⟩ qi vs.length ci)) (results_cell_row rfl _ _ (w.heap.size + 1) _ _ _ _ rfl f1 Tryd.underlying70 rfl (by kernel_rfl)) rfl ?_
        rw [HRok.out]
        refine ⟨_, rfl, f2, ?_, f4⟩
        rw [← List.drop_drop]
        exact f3

theorem valueK : ∀ (t : Ty) (d : Nat), Ty.check d t = 0 → ValOk t := by
  intro t
  refine Ty.ind (P := fun t => ∀ d, Ty.check d t = 0 → ValOk t) ?_ t
  intro k xs ih d hd l A R w u hf h
  obtain ⟨-, hk, hct⟩ := Sch.ty_open hd
  rcases hct with ⟨h6, rfl⟩ | ⟨h6, x, rfl, hx⟩
  · obtain ⟨k', p, n, c, rfl⟩ := hf.shape
    obtain ⟨F, hown, -⟩ := hf.out
    have hkk : k' = k := by
      obtain ⟨p2, c2, he, -⟩ := hown.lies.open
      simp only [cells2] at he
      injection he with he
      injection he with he _
      injection he with _ he
    subst hkk
    rw [Sch.rdV_mk, if_pos (by omega)]
    unfold cells2
    have hcase : k' = 1 ∨ k' = 2 ∨ k' = 3 ∨ k' = 4 ∨ k' = 5 := by omega
    rcases hcase with rfl | rfl | rfl | rfl | rfl
    · exact value_1 l A R w p n c h
    · exact value_2 l A R w p n c h
    · exact value_3 l A R w p n c h
    · exact value_4 l A R w p n c h
    · exact value_5 l A R w p n c h
  · rcases h6 with rfl | rfl
    · exact value_6 x (ih x (by simp) (d + 1) hx) l A R w u hf h
    · exact value_7 x (ih x (by simp) (d + 1) hx) l A R w u hf h
end Go.Proofs.YtohgmkgclgoflaaDoor

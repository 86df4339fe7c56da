/- The landed splitter: hold. -/
import Derived.Test.YtpgilfglfcnihaaK13B
namespace Go.Proofs.Ytpgilfglfcnihaa
open Go.RowKit
attribute [local go_sem] runK_store_func

theorem step_call1 {w : World} {ops : Array Oper} {o : Oper} {a : Act} {K : Act → World → Prop} {Q : Exit → Act → World → Prop} {E : Prop} {f : FuncId} {fn : Func} {code : Code} {u : Value} {R : Ending → World → Prop} (x : Operand) (t : TypeId)
    (hg : o.guard = none) (hop : o.op = Op.call { callee := .value (.func f), args := #[x], argTypes := #[t] }) (hx : a.eval x = u)
    (hf : Try.prog.funcs[f]? = some fn) (hname : (fn.name == "runtime.NumGoroutine") = false) (hb : fn.body = some code)
    (hc : Calls Try.prog f #[u] w R) (hR : ∀ e w', R e w' → ∃ v, e = .returned v ∧ K (a.put o.dst v) w') :
    if Region.wanted o (yielded ops a.tmps) = true then Oper.wp Try.prog o a w K Q else E := by
  have hw : Region.wanted o (yielded ops a.tmps) = true := by simp [Region.wanted, hg]
  rw [if_pos hw]
  have h1 : fn.name ≠ "runtime.NumGoroutine" := by simpa using hname
  unfold Oper.wp
  have he : (execOp a.eval o).run Try.prog w = .ok (.enter f #[u]) w := by
    have hev : a.eval (.func f) = .func (.func f) #[] #[] := rfl
    simp [execOp, hop, resolve, invoke, hx, hev, Deferred.ofValue, callFunc, hf, h1, hb]
  rw [he, Oper.upon_enter]
  refine hc.mono ?_
  intro e w' hr
  obtain ⟨v, rfl, hk⟩ := hR e w' hr
  exact hk

/-- a fence: the run is made, what is held is not yet cut -/
structure Mid (w W : World) (B g N k : Nat) (v u : Value) (d : Sp) : Prop where
  spl : Spl W B g v d
  has : Has W w.heap.size u d.held
  var : W.heap[N]? = some (.cells #[.int .i64 k, u] 39)
  res : W.heap[w.heap.size]? = some (.cells #[.int .i64 0, .slice none 0 0] 39)
  low : Below w.heap.size w W
  far : w.heap.size < N
theorem mid_late {w w1 : World} {B g k n : Nat} {v u : Value} {d : Sp} {o : Obj} (ho : o = .cells #[.int .i64 0, .slice none 0 0] 39) (h : Spl (w.alloc o) B g v d) (hu : Has w1 n u d.held) (hn : n = (w.alloc o).heap.size) (hb : Below (w.alloc o).heap.size (w.alloc o) w1) : Mid w (w1.alloc (.cells #[.int .i64 k, u] 39)) B g w1.heap.size k v u d := by
  have hb2 : Below w1.heap.size w1 (w1.alloc (.cells #[.int .i64 k, u] 39)) := (Below.refl _ _).alloc (Nat.le_refl _) _
  have hsz := hb.size
  simp at hsz
  refine ⟨(h.on hb).on hb2, ?_, heap_new _ _, ?_, ?_, by omega⟩
  · exact (hu.low (by rw [hn]; simp)).on hb2
  · rw [hb2.block _ (by omega), hb.block _ (by simp), ho]
    exact run_zero w
  · exact ((Below.refl w.heap.size w).alloc (Nat.le_refl _) _).trans ((hb.mono (by simp)).trans (hb2.mono (by omega)))
theorem mid_soon {w w1 : World} {B g k n : Nat} {v u : Value} {d : Sp} {o : Obj} (ho : o = .cells #[.int .i64 0, .slice none 0 0] 39) (h : Spl (w.alloc o) B g v d) (hg : g < w.heap.size) (hu : Has w1 n u d.held) (hn : n = ((w.alloc o).alloc o).heap.size) (hb : Below ((w.alloc o).alloc o).heap.size ((w.alloc o).alloc o) w1) : Mid w (set2 w1 (w.heap.size + 1) (.int .i64 k) u) B g (w.heap.size + 1) k v u d := by
  have hb0 : Below (w.alloc o).heap.size (w.alloc o) ((w.alloc o).alloc o) := (Below.refl _ _).alloc (Nat.le_refl _) _
  have hsz := hb.size
  simp at hsz
  have hx : w1.heap[w.heap.size + 1]? = some (.cells #[.int .i64 0, .slice none 0 0] 39) := by
    rw [hb.block _ (by simp), ho]
    have := run_zero (w.alloc o)
    simpa [ho] using this
  have ha := set2_aside w1 (w.heap.size + 1) (.int .i64 k) u
  have h1 := (h.on hb0).on hb
  refine ⟨h1.aside ha (by omega) (fun j hj hc => has_apart h1.held hx (by decide) (by rw [hj, hc])), ?_, set2_block hx _ _, ?_, ?_, by omega⟩
  · have := hu.low (B' := w.heap.size) (by rw [hn]; simp; omega)
    exact this.aside ha (fun j hj hc => has_apart this hx (by decide) (by rw [hj, hc]))
  · rw [ha.block _ (by omega) (by omega), hb.block _ (by simp; omega), hb0.block _ (by simp), ho]
    exact run_zero w
  · have h2 : Below w.heap.size w w1 := ((Below.refl w.heap.size w).alloc (Nat.le_refl _) _).trans ((hb0.mono (by simp)).trans (hb.mono (by simp; omega)))
    exact h2.trans (ha.below (by omega) (fun j hj => by omega))

set_option maxHeartbeats 2000000 in
theorem hold_fence (w : World) (B g : Nat) (v : Value) (d : Sp) (k : Nat) (h : Spl w B g v d) (hk : d.op = some k) : Calls Try.prog 23 #[.pointer (some ⟨g, 0, none⟩), .int .u8 0] w fun e w' => ∃ v' a u, e = .returned (.agg #[.int .i64 a, u]) ∧ Nxt w w' B g v v' d 0 ∧ RunV w' w.heap.size v' (d.told 0) a u := by
  obtain ⟨p, cap, hv, -, -⟩ := h.held.at
  subst hv
  obtain ⟨W0, hW0⟩ : ∃ W0, W0 = w.alloc (.cells #[.int .i64 0, .slice none 0 0] 39) := ⟨_, rfl⟩
  have hb : Below w.heap.size w W0 := by rw [hW0]; exact (Below.refl _ _).alloc (Nat.le_refl _) _
  have hr : W0.heap[w.heap.size]? = some (.cells #[.int .i64 0, .slice none 0 0] 39) := by rw [hW0]; exact run_zero w
  have h0 := h.on hb
  have hlt := h.lt
  have hgn : g ≠ w.heap.size := by omega
  have HS := Lib.hid h0
  have HB := Lib.hid hb
  have c0 : W0.cell? ⟨g, 0, none⟩ = some (.int .i64 d.n) := s_cell h0.lies 0
  have c1 : W0.cell? ⟨g, 1, none⟩ = some (.int .i64 k) := by have := s_cell h0.lies 1; rw [hk] at this; exact this
  have c2 : W0.cell? ⟨g, 2, none⟩ = some (.slice p d.held.length cap) := s_cell h0.lies 2
  have HR := Lib.hid hr
  obtain ⟨W1, hW1⟩ : ∃ W1, W1 = W0.alloc (.cells #[.int .i64 0, .slice none 0 0] 39) := ⟨_, rfl⟩
  have hb1 : Below W0.heap.size W0 W1 := by rw [hW1]; exact (Below.refl _ _).alloc (Nat.le_refl _) _
  have h1 := h0.on hb1
  have d1 : W1.cell? ⟨g, 1, none⟩ = some (.int .i64 k) := by have := s_cell h1.lies 1; rw [hk] at this; exact this
  have d2 : W1.cell? ⟨g, 2, none⟩ = some (.slice p d.held.length cap) := s_cell h1.lies 2
  have HC : Hid (∀ W, Below W0.heap.size W0 W → Calls Try.prog 22 #[.slice p d.held.length cap] W fun e w' => ∃ q cap, e = .returned (.slice q d.held.length cap) ∧ Has w' W.heap.size (.slice q d.held.length cap) d.held ∧ Below W.heap.size W w') := by
    intro W hW
    obtain ⟨p', c', he, hA, -⟩ := h0.held.at
    injection he with e1
    subst e1
    exact cloneK p cap d.held (by have := d.held_le; omega) W (hA.on hW)
  have hgn1 : ¬ w.heap.size + 1 = g := by omega
  have hgn2 : ¬ w.heap.size = g := by omega
  have HX : Hid (W1.heap[w.heap.size + 1]? = some (.cells #[.int .i64 0, .slice none 0 0] 39)) := by
    show _ = _
    rw [hW1]
    have := run_zero W0
    rw [hW0] at this ⊢
    simpa using this
  have HOwn := Lib.hid (fun j (hj : (Value.slice p d.held.length cap).ownBlock = some j) => (h.held.lt j hj).2)
  clear h hb h0 hr h1
  subst hW1
  subst hW0
  go_enter Try.func23, Try.ntmps23
  go_wp2_with fail
  go_region_held3 (fun w' => w'.cell? ⟨g, 1, none⟩ = some (.int .i64 k) ∧ w'.cell? ⟨g, 2, none⟩ = some (.slice p d.held.length cap)) (first | go_keep | exact ⟨by assumption, by assumption⟩ | (refine ⟨?_, ?_⟩ <;> first | assumption | (simp; assumption)))
    (first
     | (go_at_call 22
        refine (HC.out _ (by first | exact Below.refl _ _ | exact (Below.refl _ _).drew)).mono ?_
        rintro e w1 ⟨q, cq, rfl, hh, hb2⟩
        have a1 : w1.cell? ⟨g, 1, none⟩ = some (.int .i64 k) := by rw [hb2.cell (p := ⟨g, 1, none⟩) (by simp; omega)]; exact c1
        have a2 : w1.cell? ⟨g, 2, none⟩ = some (.slice p d.held.length cap) := by rw [hb2.cell (p := ⟨g, 2, none⟩) (by simp; omega)]; exact c2
        have hg1 : ¬ w1.heap.size = g := by have := hb2.size; simp at this; omega
        have HH := Lib.hid hh
        have HB2 := Lib.hid hb2
        clear hh hb2)
     | (go_at_call 22
        refine (HC.out _ (by first | exact hb1 | exact hb1.drew)).mono ?_
        rintro e w1 ⟨q, cq, rfl, hh, hb2⟩
        have a1 : w1.cell? ⟨g, 1, none⟩ = some (.int .i64 k) := by rw [hb2.cell (p := ⟨g, 1, none⟩) (by simp; omega)]; exact d1
        have a2 : w1.cell? ⟨g, 2, none⟩ = some (.slice p d.held.length cap) := by rw [hb2.cell (p := ⟨g, 2, none⟩) (by simp; omega)]; exact d2
        have hx : w1.heap[w.heap.size + 1]? = some (.cells #[.int .i64 0, .slice none 0 0] 39) := (hb2.block (w.heap.size + 1) (by simp)).trans HX.out
        have x0 : w1.cell? ⟨w.heap.size + 1, 0, none⟩ = some (.int .i64 0) := by simp [World.cell?, hx]
        have x1 : w1.cell? ⟨w.heap.size + 1, 1, none⟩ = some (.slice none 0 0) := by simp [World.cell?, hx]
        have y0 : w1.frozen? ⟨w.heap.size + 1, 0, none⟩ = false := by simp [World.frozen?, hx]
        have y1 : w1.frozen? ⟨w.heap.size + 1, 1, none⟩ = false := by simp [World.frozen?, hx]
        have HX1 := Lib.hid hx
        clear hx
        have HH := Lib.hid hh
        have HB2 := Lib.hid hb2
        clear hh hb2))
  case' refine_2.refine_3.refine_3.refine_3.refine_3.refine_3.refine_3.refine_3.refine_3.refine_1.refine_2.refine_3.refine_1.refine_2.refine_1.refine_2 =>
    have HM := Lib.hid (mid_late (k := k) rfl HS.out HH.out rfl ⟨HB2.out.os, HB2.out.tape, HB2.out.output, HB2.out.size, HB2.out.block⟩)
    generalize w1.alloc (.cells #[.int .i64 k, .slice q d.held.length cq] 39) = W2 at HM ⊢
    generalize w1.heap.size = N2 at HM ⊢
  case' refine_2.refine_3.refine_3.refine_3.refine_3.refine_3.refine_3.refine_3.refine_3.refine_2.refine_1.refine_2.refine_1.refine_2.refine_3.refine_1.refine_2 =>
    have HM := Lib.hid (mid_soon (k := k) rfl HS.out hlt HH.out rfl ⟨HB2.out.os, HB2.out.tape, HB2.out.output, HB2.out.size, HB2.out.block⟩)
    unfold set2 at HM
    generalize (w1.setCell ⟨w.heap.size + 1, 0, none⟩ (.int .i64 k)).setCell ⟨w.heap.size + 1, 1, none⟩ (.slice q d.held.length cq) = W2 at HM ⊢
    generalize w.heap.size + 1 = N2 at HM ⊢
  all_goals
    clear c0 c1 c2 d1 d2 a1 a2 HX HC HR HB hb1
    have b0 : W2.cell? ⟨g, 0, none⟩ = some (.int .i64 d.n) := s_cell HM.out.spl.lies 0
    have HF := Lib.hid (followK g d.n d.held.length (opI d.op) p cap (nextF g d.op) W2 (some d.n) HM.out.spl.lies)
    simp only [opI] at HF
    go_wp2_with fail
    refine HF.out.mono ?_
    rintro e W3 ⟨rfl, hl3, ha3⟩
    have hv3 : W3.heap[N2]? = some (.cells #[.int .i64 k, .slice q d.held.length cq] 39) := by
      rw [ha3.block _ (lies_lt HM.out.var) (by have := HM.out.far; omega)]
      exact HM.out.var
    have hr3 : W3.heap[w.heap.size]? = some (.cells #[.int .i64 0, .slice none 0 0] 39) := by
      rw [ha3.block _ (lies_lt HM.out.res) (by omega)]
      exact HM.out.res
    have z0 : W3.cell? ⟨N2, 0, none⟩ = some (.int .i64 k) := by simp [World.cell?, hv3]
    have z1 : W3.cell? ⟨N2, 1, none⟩ = some (.slice q d.held.length cq) := by simp [World.cell?, hv3]
    have x0 : W3.cell? ⟨w.heap.size, 0, none⟩ = some (.int .i64 0) := by simp [World.cell?, hr3]
    have x1 : W3.cell? ⟨w.heap.size, 1, none⟩ = some (.slice none 0 0) := by simp [World.cell?, hr3]
    have y0 : W3.frozen? ⟨w.heap.size, 0, none⟩ = false := by simp [World.frozen?, hr3]
    have y1 : W3.frozen? ⟨w.heap.size, 1, none⟩ = false := by simp [World.frozen?, hr3]
    have HN := Lib.hid (nxt_follow (c := 0) HM.out.spl HM.out.low hl3 ha3 (Sp.fence_op d) (Sp.fence_held d))
    have HH3 := Lib.hid (HM.out.has.aside ha3 (fun j hj hc => has_apart HM.out.has HM.out.spl.lies (by decide) (by rw [hj, hc])))
    have HR3 := Lib.hid hr3
    clear hv3 hr3 hl3 ha3 HF b0 HM
    go_wp2
    refine bodyPost_ret (v := .agg #[.int .i64 k, .slice q d.held.length cq]) (results_cell_row rfl _ _ w.heap.size _ _ _ _ rfl (set2_block HR3.out _ _) Try.underlying39 rfl (by kernel_rfl)) rfl ?_
    refine ⟨_, _, _, rfl, nxt_end HN.out HR3.out (Nat.le_refl _) hlt _ _, ?_⟩
    rw [Sp.told_some hk]
    by_cases hh : d.held = []
    · rw [if_pos hh]
      exact .inl ⟨rfl, q, cq, by rw [hh]; rfl⟩
    · rw [if_neg hh]
      rcases HH3.out.form with ⟨_, h2⟩ | ⟨g2, c2, he, hm⟩
      · exact absurd h2 hh
      · injection he with e1 _ e2
        subst e1 e2
        refine .inr ⟨k, d.held, g2, cq, rfl, hh, rfl, rfl, set2_mine hm HR3.out _ _, fun hc => ?_⟩
        have h3 := hm.base.1
        have h4 := HOwn.out g2 (by rw [← hc]; cases p <;> rfl)
        omega

set_option maxHeartbeats 1000000 in
theorem hold_full (w : World) (B g : Nat) (v : Value) (d : Sp) (k : Nat) (c : UInt8) (h : Spl w B g v d) (hk : d.op = some k) (hc : c ≠ 0) (hf : d.held.length = 2200) : Calls Try.prog 23 #[.pointer (some ⟨g, 0, none⟩), .int .u8 (c.toNat : Int)] w fun e w' => ∃ v' a u, e = .returned (.agg #[.int .i64 a, u]) ∧ Nxt w w' B g v v' d c ∧ RunV w' w.heap.size v' (d.told c) a u := by
  obtain ⟨p, cap, hv, -, -⟩ := h.held.at
  subst hv
  have HT : Hid (d.told c = []) := Sp.told_else hc
  have HO : Hid ((d.step c).op = none) := Sp.step_op_full hk hc hf
  have hb0 : ((c.toNat : Int) == 0) = false := by
    rw [beq_eq_false_iff_ne]
    intro hc2
    exact hc (UInt8.toNat_inj.1 (by simp; omega))
  rw [hf] at h ⊢
  obtain ⟨W0, hW0⟩ : ∃ W0, W0 = w.alloc (.cells #[.int .i64 0, .slice none 0 0] 39) := ⟨_, rfl⟩
  have hb : Below w.heap.size w W0 := by rw [hW0]; exact (Below.refl _ _).alloc (Nat.le_refl _) _
  have hr : W0.heap[w.heap.size]? = some (.cells #[.int .i64 0, .slice none 0 0] 39) := by rw [hW0]; exact run_zero w
  have h0 := h.on hb
  have hlt := h.lt
  have hgn : g ≠ w.heap.size := by omega
  have HS := Lib.hid h0
  have HB := Lib.hid hb
  have c2 : W0.cell? ⟨g, 2, none⟩ = some (.slice p 2200 cap) := s_cell h0.lies 2
  have HF := Lib.hid (followK g d.n 2200 (opI d.op) p cap (nextF g d.op) W0 none h0.lies)
  simp only [opI] at HF
  have HR := Lib.hid hr
  clear h hb h0 hr hc hf
  subst hW0
  go_enter Try.func23, Try.ntmps23
  go_wp2_with fail
  refine HF.out.mono ?_
  rintro e w1 ⟨rfl, hl1, ha1⟩
  have hr1 : w1.heap[w.heap.size]? = some (.cells #[.int .i64 0, .slice none 0 0] 39) := by rw [ha1.block _ (lies_lt HR.out) (fun hc => hgn hc.symm)]; exact HR.out
  have HR1 := Lib.hid hr1
  have HN := Lib.hid (nxt_follow (c := c) HS.out HB.out hl1 ha1 HO.out (Sp.held_none HO.out))
  have x0 : w1.cell? ⟨w.heap.size, 0, none⟩ = some (.int .i64 0) := by simp [World.cell?, hr1]
  have x1 : w1.cell? ⟨w.heap.size, 1, none⟩ = some (.slice none 0 0) := by simp [World.cell?, hr1]
  have y0 : w1.frozen? ⟨w.heap.size, 0, none⟩ = false := by simp [World.frozen?, hr1]
  have y1 : w1.frozen? ⟨w.heap.size, 1, none⟩ = false := by simp [World.frozen?, hr1]
  clear hr1 hl1 ha1 HF
  go_wp2
  refine bodyPost_ret (v := .agg #[.int .i64 0, .slice none 0 0]) (results_cell_row rfl _ _ w.heap.size _ _ _ _ rfl (set2_block HR1.out _ _) Try.underlying39 rfl (by kernel_rfl)) rfl ?_
  exact ⟨_, _, _, rfl, nxt_end HN.out HR1.out (Nat.le_refl _) hlt _ _, .inl ⟨HT.out, _, _, rfl⟩⟩

theorem more_end {w W1 W : World} {B g k : Nat} {m cap : Nat} {p q : Option Addr} {cq : Nat} {ys : List UInt8} {d : Sp} {c : UInt8} (hb : Below w.heap.size w W1) (hl : W.heap[g]? = some (.cells (sCells d.n (opI d.op) (.slice p m cap) (nextF g d.op)) 42)) (hH : Has W B (.slice q ys.length cq) ys) (ha : Aside (fun k => (Value.slice p m cap).ownBlock = some k) W1 W) (ho : ∀ k, (Value.slice q ys.length cq).ownBlock = some k → (Value.slice p m cap).ownBlock = some k ∨ W1.heap.size ≤ k) (hy : ys = d.held ++ [c]) (hk : d.op = some k) (h1 : (d.step c).op = some k) (h2 : (d.step c).held = d.held ++ [c]) :
    Nxt w (W.setCell ⟨g, 2, none⟩ (.slice q ys.length cq)) B g (.slice p m cap) (.slice q ys.length cq) d c := by
  have hs := hb.size
  refine ⟨?_, ?_, ?_, fun i hi => ?_⟩
  · rw [h1]
    rw [hk] at hl
    exact s_set hl 2 _ rfl
  · rw [h2, ← hy]
    exact hH.aside ((Aside.refl (· = g) W).setCell (p := ⟨g, 2, none⟩) (.inl rfl) _) (fun j hj hc => has_apart hH hl (by decide) (by rw [hj, hc]))
  · have e1 : Aside (fun i => i = g ∨ (Value.slice p m cap).ownBlock = some i) w W := (aside_new hb _).trans ha (fun i _ hc => .inr hc)
    exact e1.setCell (p := ⟨g, 2, none⟩) (.inl (.inl rfl)) _
  · rcases ho i hi with h3 | h3
    · exact .inl h3
    · exact .inr (by omega)

set_option maxHeartbeats 1000000 in
theorem hold_more (w : World) (B g : Nat) (v : Value) (d : Sp) (k : Nat) (c : UInt8) (h : Spl w B g v d) (hk : d.op = some k) (hc : c ≠ 0) (hf : d.held.length ≠ 2200) : Calls Try.prog 23 #[.pointer (some ⟨g, 0, none⟩), .int .u8 (c.toNat : Int)] w fun e w' => ∃ v' a u, e = .returned (.agg #[.int .i64 a, u]) ∧ Nxt w w' B g v v' d c ∧ RunV w' w.heap.size v' (d.told c) a u := by
  obtain ⟨p, cap, hv, -, -⟩ := h.held.at
  subst hv
  have HT : Hid (d.told c = []) := Sp.told_else hc
  have HO := Lib.hid (Sp.step_op_some hk hc hf)
  have hb0 : ((c.toNat : Int) == 0) = false := by
    rw [beq_eq_false_iff_ne]
    intro hc2
    exact hc (UInt8.toNat_inj.1 (by simp; omega))
  have hb1 : ((d.held.length : Int) == 2200) = false := by
    rw [beq_eq_false_iff_ne]
    omega
  have hle := d.held_le
  obtain ⟨W0, hW0⟩ : ∃ W0, W0 = w.alloc (.cells #[.int .i64 0, .slice none 0 0] 39) := ⟨_, rfl⟩
  have hb : Below w.heap.size w W0 := by rw [hW0]; exact (Below.refl _ _).alloc (Nat.le_refl _) _
  have hr : W0.heap[w.heap.size]? = some (.cells #[.int .i64 0, .slice none 0 0] 39) := by rw [hW0]; exact run_zero w
  have h0 := h.on hb
  have hlt := h.lt
  have hgn : g ≠ w.heap.size := by omega
  have HS := Lib.hid h0
  have HB := Lib.hid hb
  have c2 : W0.cell? ⟨g, 2, none⟩ = some (.slice p d.held.length cap) := s_cell h0.lies 2
  have hb2 : Below W0.heap.size W0 (W0.alloc (.cells #[.int .u8 (c.toNat : Int)] 5)) := (Below.refl _ _).alloc (Nat.le_refl _) _
  have HS1 := Lib.hid (h0.on hb2)
  have HA1 : Hid (At (W0.alloc (.cells #[.int .u8 (c.toNat : Int)] 5)) (some ⟨w.heap.size + 1, 0, none⟩) [c]) := by
    have e : W0.heap.size = w.heap.size + 1 := by rw [hW0]; simp
    have := (Own.at (w := W0.alloc (.cells #[.int .u8 (c.toNat : Int)] 5)) (b := W0.heap.size) (l := [c]) ⟨#[], heap_new W0 _⟩)
    rw [e] at this
    exact this
  have HB1 := Lib.hid (hb.trans (hb2.mono hb.size))
  have HR1 := Lib.hid (lies_on hr hb2)
  have hv0 := h.held.lt
  have HV0 : Hid (∀ j, (Value.slice p d.held.length cap).ownBlock = some j → j < w.heap.size) := fun j hj => (hv0 j hj).2
  have hbs : B ≤ w.heap.size := by have := h.base; omega
  clear h hb h0 hr hc hf hb2 hv0 HS HB
  subst hW0
  go_enter Try.func23, Try.ntmps23
  go_wp2_with (at_builtin
               refine wp_ontoL HS1.out.held HA1.out (by simp; omega) (by simp; omega) rfl rfl rfl rfl rfl ?_
               intro ys q cq W HY hH ha ho
               have hg' := HS1.out.apart
               have hl : W.heap[g]? = _ := (ha.block g HS1.out.lt hg').trans HS1.out.lies
               have hr1 : W.heap[w.heap.size]? = _ := (ha.block w.heap.size (lies_lt HR1.out) (fun hc => by have := HV0.out _ hc; omega)).trans HR1.out
               have m2 : W.cell? ⟨g, 2, none⟩ = some (.slice p d.held.length cap) := s_cell hl 2
               have f2 := s_free hl 2
               have n2 : ¬ g = w.heap.size := hgn
               have x0 : W.cell? ⟨w.heap.size, 0, none⟩ = some (.int .i64 0) := by simp [World.cell?, hr1]
               have x1 : W.cell? ⟨w.heap.size, 1, none⟩ = some (.slice none 0 0) := by simp [World.cell?, hr1]
               have y0 : W.frozen? ⟨w.heap.size, 0, none⟩ = false := by simp [World.frozen?, hr1]
               have y1 : W.frozen? ⟨w.heap.size, 1, none⟩ = false := by simp [World.frozen?, hr1]
               have HL := Lib.hid hl
               have HRW := Lib.hid hr1
               have HHW := Lib.hid hH
               have HAW := Lib.hid ha
               have HOW := Lib.hid ho
               clear hl hr1 hH ha ho hg')
  have HK := Lib.hid (more_end (c := c) HB1.out HL.out HHW.out HAW.out HOW.out HY.out hk HO.out.1 HO.out.2)
  have hr2 : (W.setCell ⟨g, 2, none⟩ (.slice q ys.length cq)).heap[w.heap.size]? = some (.cells #[.int .i64 0, .slice none 0 0] 39) := by
    rw [Below.heap_setCell _ _ _ _ (fun hc => n2 hc.symm)]
    exact HRW.out
  refine bodyPost_ret (v := .agg #[.int .i64 0, .slice none 0 0]) (results_cell_row rfl _ _ w.heap.size _ _ _ _ rfl (set2_block hr2 _ _) Try.underlying39 rfl (by kernel_rfl)) rfl ?_
  exact ⟨_, _, _, rfl, nxt_end HK.out hr2 (Nat.le_refl _) hlt _ _, .inl ⟨HT.out, _, _, rfl⟩⟩

/-- a byte goes to whatever comes next -/
theorem holdK (w : World) (B g : Nat) (v : Value) (d : Sp) (k : Nat) (c : UInt8) (h : Spl w B g v d) (hk : d.op = some k) : Calls Try.prog 23 #[.pointer (some ⟨g, 0, none⟩), .int .u8 (c.toNat : Int)] w fun e w' => ∃ v' a u, e = .returned (.agg #[.int .i64 a, u]) ∧ Nxt w w' B g v v' d c ∧ RunV w' w.heap.size v' (d.told c) a u := by
  by_cases hc : c = 0
  · subst hc
    exact hold_fence w B g v d k h hk
  · by_cases hf : d.held.length = 2200
    · exact hold_full w B g v d k c h hk hc hf
    · exact hold_more w B g v d k c h hk hc hf
end Go.Proofs.Ytpgilfglfcnihaa

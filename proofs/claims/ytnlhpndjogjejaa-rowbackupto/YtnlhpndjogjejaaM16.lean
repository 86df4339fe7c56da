/- K8Dd, K8Db, RowsK: put together. -/
import Derived.Test.YtnlhpndjogjejaaM15
import Derived.Orders
import Derived.Test.YtnlhpndjogjejaaM10
import Derived.Test.YtnlhpndjogjejaaM13

/- A region that draws its order, in a function with deferred calls, in which one call panics, whatever the order. -/
namespace Go.Proofs.Ytnlhpndjogjejaa
open Go.RowKit

/-- so many operations are not listed yet -/
def unl (listed : Array Bool) : Nat → Nat
  | 0 => 0
  | n + 1 => unl listed n + if listed.getD n true then 0 else 1
theorem unl_set (listed : Array Bool) (i : Nat) (hi : listed.getD i true = false) : ∀ n, (i < n → unl (listed.setIfInBounds i true) n + 1 ≤ unl listed n) ∧ unl (listed.setIfInBounds i true) n ≤ unl listed n := by
  have hs : i < listed.size := by
    by_cases h : i < listed.size
    · exact h
    · simp [Array.getD, h] at hi
  intro n
  induction n with
  | zero => exact ⟨fun h => absurd h (by omega), Nat.le_refl _⟩
  | succ n ih =>
    have e : (listed.setIfInBounds i true).getD n true = if n = i then true else listed.getD n true := by
      by_cases hn : n = i
      · subst hn; simp [Array.getD, hs]
      · rw [if_neg hn]
        by_cases hl : n < listed.size
        · simp [Array.getD, hl, Ne.symm hn]
        · simp [Array.getD, hl]
    simp only [unl, e]
    by_cases hn : n = i
    · subst hn
      rw [if_pos rfl, hi]
      simp only [Bool.false_eq_true, if_false, if_true]
      exact ⟨fun _ => by have := ih.2; omega, by have := ih.2; omega⟩
    · rw [if_neg hn]
      exact ⟨fun h => by have := ih.1 (by omega); omega, by have := ih.2; omega⟩
theorem unl_pos (listed : Array Bool) (c : Nat) (hc : listed.getD c true = false) : ∀ n, c < n → 0 < unl listed n := by
  intro n
  induction n with
  | zero => intro h; omega
  | succ n ih =>
    intro h
    rw [unl]
    by_cases hn : c = n
    · subst hn; rw [hc]; simp
    · have := ih (by omega); omega

section
variable {P : Program} {ops : Array Oper} {Q : Exit → Act → World → Prop}

/-- the least operation that is not listed may come up -/
theorem ready_ex (hfw : ∀ (i : Nat) o, ops[i]? = some o → ∀ e ∈ o.after, Region.binds .any e = true → e.on < i) (listed : Array Bool) (hsz : listed.size = ops.size) : ∀ c, c < ops.size → listed.getD c true = false → Region.ready .any ops listed ≠ [] := by
  intro c
  induction c using Nat.strongRecOn with
  | _ c ih =>
    intro hc hl
    by_cases h : ∃ j, j < c ∧ listed.getD j true = false
    · obtain ⟨j, hj, hjl⟩ := h
      exact ih j hj (by omega) hjl
    · intro he
      have hmem : c ∈ Region.ready .any ops listed := by
        rw [mem_ready]
        refine ⟨hl, ops[c], Array.getElem?_eq_getElem hc, fun e hee hbe => ?_⟩
        have hlt := hfw c _ (Array.getElem?_eq_getElem hc) e hee hbe
        cases hb : listed.getD e.on true with
        | false => exact absurd ⟨e.on, hlt, hb⟩ h
        | true =>
          have hlt2 : e.on < listed.size := by omega
          simp [Array.getD, hlt2] at hb ⊢
          exact hb
      rw [he] at hmem
      cases hmem

/-- what is asked of the region's text -/
def stopChk (ops : Array Oper) (c : Nat) (late : Nat → Bool) : Bool := (List.range ops.size).all fun i => match ops[i]? with
  | some o => o.guard.isNone && o.after.all (fun e => !Region.binds .any e || decide (e.on < i)) && (!late i || o.after.any (fun e => Region.binds .any e && e.on == c))
  | none => true
theorem stopChk_open {c : Nat} {late : Nat → Bool} (h : stopChk ops c late = true) (i : Nat) (o : Oper) (ho : ops[i]? = some o) : o.guard = none ∧ (∀ e ∈ o.after, Region.binds .any e = true → e.on < i) ∧ (late i = true → ∃ e ∈ o.after, Region.binds .any e = true ∧ e.on = c) := by
  unfold stopChk at h
  have h1 := List.all_eq_true.1 h i (List.mem_range.2 (Array.getElem?_eq_some_iff.1 ho).1)
  rw [ho] at h1
  simp only [Bool.and_eq_true, Bool.or_eq_true, Bool.not_eq_true', Array.all_eq_true_iff_forall_mem, decide_eq_true_eq, Array.any_eq_true', beq_iff_eq, Option.isNone_iff_eq_none] at h1
  refine ⟨h1.1.1, fun e he hb => (h1.1.2 e he).resolve_left (by rw [hb]; exact Bool.noConfusion), fun hl => ?_⟩
  rcases h1.2 with h2 | ⟨e, he, hb, hon⟩
  · rw [hl] at h2; cases h2
  · exact ⟨e, he, hb, hon⟩

theorem wpAny_stop (c : Nat) (hc : c < ops.size) (G : Act → World → Prop) (D : Nat → Act → Prop) (late : Nat → Bool)
    (hchk : stopChk ops c late = true)
    (hstep : ∀ (i : Nat) o, ops[i]? = some o → i ≠ c → late i = false → ∀ a w, G a w → (∀ e ∈ o.after, Region.binds .any e = true → D e.on a) → ∃ v w', (execOp a.eval o).run P w = .ok (.value v) w' ∧ G (a.put o.dst v) w' ∧ D i (a.put o.dst v) ∧ ∀ j, j ≠ i → D j a → D j (a.put o.dst v))
    (hcall : ∀ o, ops[c]? = some o → ∀ a w, G a w → (∀ e ∈ o.after, Region.binds .any e = true → D e.on a) → ∀ K, o.wp P a w K Q) :
    ∀ fuel listed a w, listed.size = ops.size → listed.getD c true = false → unl listed ops.size ≤ fuel → (∀ j, listed.getD j false = true → D j a) → G a w → wpAny P .any ops Q fuel listed a w := by
  have hfw := fun i o ho => (stopChk_open hchk i o ho).2.1
  have hlate := fun i o ho => (stopChk_open hchk i o ho).2.2
  have hguard := fun i o ho => (stopChk_open hchk i o ho).1
  intro fuel
  induction fuel with
  | zero =>
    intro listed a w _ hl hu _ _
    have := unl_pos listed c hl ops.size hc
    omega
  | succ fuel ih =>
    intro listed a w hsz hl hu hd hg
    refine ⟨fun h0 => absurd h0 (ready_ex hfw listed hsz c hc hl), fun i hi => ?_⟩
    obtain ⟨hil, o, ho, hdeps⟩ := mem_ready.1 hi
    have hiw : i < ops.size := (Array.getElem?_eq_some_iff.1 ho).1
    have hdep : ∀ e ∈ o.after, Region.binds .any e = true → D e.on a := fun e he hb => hd _ (hdeps e he hb)
    have hwant : Region.wanted o (yielded ops a.tmps) = true := by simp [Region.wanted, hguard i o ho]
    unfold wpOp
    rw [ho]
    dsimp only
    rw [if_pos hwant]
    refine .inl ?_
    by_cases hic : i = c
    · subst hic
      exact hcall o ho a w hg hdep _
    · have hlt : late i = false := by
        cases hb : late i with
        | false => rfl
        | true =>
          obtain ⟨e, he, hb2, hon⟩ := hlate i o ho hb
          have := hdeps e he hb2
          rw [hon] at this
          have hcs : c < listed.size := by omega
          simp [Array.getD, hcs] at this hl
          rw [this] at hl
          cases hl
      obtain ⟨v, w', hrun, hg', hdi, hdj⟩ := hstep i o ho hic hlt a w hg hdep
      unfold Oper.wp
      rw [hrun]
      refine ih _ _ _ (by simpa using hsz) ?_ (by have := (unl_set listed i hil ops.size).1 hiw; omega) (fun j hj => ?_) hg'
      · have hcs : c < listed.size := by omega
        simp [Array.getD, hcs, hic] at hl ⊢
        exact hl
      · by_cases hji : j = i
        · subst hji; exact hdi
        · refine hdj j hji (hd j ?_)
          by_cases hjs : j < listed.size
          · simp [Array.getD, hjs, Ne.symm hji] at hj ⊢
            exact hj
          · simp [Array.getD, hjs] at hj

theorem put_other (a : Act) (d j : Nat) (v : Value) (h : j ≠ d) : (a.put (some d) v).tmps.getD j undef = a.tmps.getD j undef := by
  simp [Act.put, Array.getD_eq_getD_getElem?, Array.getElem?_setIfInBounds_ne (Ne.symm h)]
theorem put_self (a : Act) (d : Nat) (v : Value) (h : d < a.tmps.size) : (a.put (some d) v).tmps.getD d undef = v := by
  simp [Act.put, Array.getD_eq_getD_getElem?, h]
theorem put_defers (a : Act) (d : Option Nat) (v : Value) : (a.put d v).defers = a.defers := by cases d <;> rfl

/-- the slots that an operation yields, from b0 on; those that were set ahead of the region -/
theorem wpAny_stops (c : Nat) (hc : c < ops.size) (b0 nt : Nat) (hnt : b0 + ops.size ≤ nt) (S : List (Nat × Value)) (ds : List Deferred) (W : World → Prop) (exp : Nat → Option Value) (late : Nat → Bool) (hchk : stopChk ops c late = true) (hS : ∀ p ∈ S, p.1 < b0)
    (hdst : ∀ (i : Nat) o, ops[i]? = some o → i ≠ c → late i = false → o.dst = some (b0 + i))
    (hstep : ∀ (i : Nat) o, ops[i]? = some o → i ≠ c → late i = false → ∀ (a : Act) (w : World), (∀ p ∈ S, a.tmps.getD p.1 undef = p.2) → W w → (∀ e ∈ o.after, Region.binds .any e = true → ∀ u, exp e.on = some u → a.tmps.getD (b0 + e.on) undef = u) → ∃ v w', (execOp a.eval o).run P w = .ok (.value v) w' ∧ W w' ∧ ∀ u, exp i = some u → v = u)
    (hcall : ∀ o, ops[c]? = some o → ∀ (a : Act) (w : World), (∀ p ∈ S, a.tmps.getD p.1 undef = p.2) → a.defers = ds → W w → (∀ e ∈ o.after, Region.binds .any e = true → ∀ u, exp e.on = some u → a.tmps.getD (b0 + e.on) undef = u) → ∀ K, o.wp P a w K Q)
    (a : Act) (w : World) (h1 : a.tmps.size = nt) (h2 : a.defers = ds) (h3 : ∀ p ∈ S, a.tmps.getD p.1 undef = p.2) (h4 : W w) : wpAny P .any ops Q ops.size (Array.replicate ops.size false) a w := by
  refine wpAny_stop c hc (fun a w => a.tmps.size = nt ∧ a.defers = ds ∧ (∀ p ∈ S, a.tmps.getD p.1 undef = p.2) ∧ W w) (fun i a => ∀ u, exp i = some u → a.tmps.getD (b0 + i) undef = u) late hchk ?_ ?_ _ _ _ _ (by simp) (by simp [Array.getD, hc]) ?_ ?_ ⟨h1, h2, h3, h4⟩
  · intro i o ho hic hl a w ⟨g1, g2, g3, g4⟩ hdep
    obtain ⟨v, w', r1, r2, r3⟩ := hstep i o ho hic hl a w g3 g4 hdep
    have hd := hdst i o ho hic hl
    have hiw : i < ops.size := (Array.getElem?_eq_some_iff.1 ho).1
    rw [hd]
    refine ⟨v, w', r1, ⟨by simpa [Act.put] using g1, g2, fun p hp => ?_, r2⟩, fun u hu => ?_, fun j hj hdj u hu => ?_⟩
    · rw [put_other _ _ _ _ (by have := hS p hp; omega)]
      exact g3 p hp
    · rw [put_self _ _ _ (by omega)]
      exact r3 u hu
    · rw [put_other _ _ _ _ (by omega)]
      exact hdj u hu
  · intro o ho a w ⟨g1, g2, g3, g4⟩ hdep K
    exact hcall o ho a w g3 g2 g4 hdep K
  · have : ∀ n, unl (Array.replicate ops.size false) n ≤ n := by
      intro n
      induction n with
      | zero => exact Nat.le_refl _
      | succ n ih =>
        rw [unl]
        split <;> omega
    exact this _
  · intro j hj
    exfalso
    by_cases h : j < ops.size
    · simp [Array.getD, h] at hj
    · simp [Array.getD, h] at hj

/-- the same, and no panic -/
def calm (Q : Exit → Act → World → Prop) : Exit → Act → World → Prop
  | .panic _, _, _ => False
  | e, a, w => Q e a w
theorem calm_normal (a : Act) (w : World) : calm Q .normal a w = Q .normal a w := rfl
theorem wp_calm {c : Code} {a : Act} {w : World} (h : c.wp P (calm Q) a w) : c.wp P Q a w := Code.wp_mono (fun e a w he => by cases e <;> first | exact he | exact he.elim) h
end
end Go.Proofs.Ytnlhpndjogjejaa

/- The landed row: Decode. -/
namespace Go.Proofs.Ytnlhpndjogjejaa
open Go.RowKit

attribute [local go_sem] run_store_float

theorem run_assert (k : Int) (w : World) : (Instr.typeAssert (.iface 31 (.int .i64 k)) 20 31 false).run Try.prog w = .ok (.int .i64 k) w := by kernel_rfl

set_option maxHeartbeats 1000000 in
theorem catch8_panicking (p q s : Addr) (x : Value) (y z : Int) (k : Int) (w : World) (hc : w.cell? p = some x) (hz : w.frozen? p = false) (hc2 : w.cell? q = some (.int .i64 y)) (hz2 : w.frozen? q = false) (hc3 : w.cell? s = some (.int .i64 z)) (hz3 : w.frozen? s = false) (hpq : p ≠ q) (hps : p ≠ s) (hqs : q ≠ s) :
    CallsD Try.prog 25 #[.pointer (some p), .pointer (some q), .pointer (some s)] (.panicking [{ v := .iface 31 (.int .i64 k), recovered := false }]) w fun e u' w' =>
      e = .returned (.tuple #[]) ∧ u' = .panicking [{ v := .iface 31 (.int .i64 k), recovered := true }] ∧ w' = (((w.setCell p (.slice none 0 0)).setCell q (.int .i64 0)).setCell s (.int .i64 k)).drew := by
  have hta := run_assert k
  refine callsD_of_wpS Try.func25 rfl fun c₀ cs hu => ?_
  apply wpS_seq
  apply wpS_region
  simp [wpOpsS, go_sem, recoverD, hu, Try.ntmps25, Exit.thenS]
  refine wpS_of_wp ?_
  go_wp2_with fail
  go_region_law (fail)
  all_goals
    show bodyPostS Try.prog Try.f25 c₀ cs _ Exit.normal _ _ _
    simp [bodyPostS, results, Try.results25]

set_option maxHeartbeats 1000000 in
theorem catch8_idle (p q s : Addr) (w : World) :
    CallsD Try.prog 25 #[.pointer (some p), .pointer (some q), .pointer (some s)] .returning w fun e u' w' => e = .returned (.tuple #[]) ∧ u' = .returning ∧ w' = w := by
  refine callsD_of_wpS Try.func25 rfl fun c₀ cs hu => ?_
  apply wpS_seq
  apply wpS_region
  simp [wpOpsS, go_sem, recoverD, hu, Try.ntmps25, Exit.thenS]
  refine wpS_of_wp ?_
  go_wp2_with fail
  cases c₀
  simp_all [bodyPostS, results, Try.results25]

theorem results_row8 {P : Program} {fn : Func} {p q s : Tmp} {ty ty2 ty3 : TypeId} (h : fn.results = #[.cell p ty, .cell q ty2, .cell s ty3]) (tmps : Array Value) (w : World) (g g2 g3 : Nat) (t : TypeId) (cs : Array Value) (fr : Nat × Nat) (d : TypeDesc) (x y : Int)
    (hp : tmps.getD p undef = .pointer (some ⟨g, 0, none⟩)) (hg : w.heap[g]? = some (.cells cs t fr)) (hu : P.underlying ty = some d) (hd : (match d with | .struct _ | .array _ _ => true | _ => false) = true) (hi : (P.info? ty).map (·.size) = some cs.size)
    (hq : tmps.getD q undef = .pointer (some ⟨g2, 0, none⟩)) (hg2 : w.cell? ⟨g2, 0, none⟩ = some (.int .i64 x)) (hu2 : P.underlying ty2 = some (.int .i64))
    (hs : tmps.getD s undef = .pointer (some ⟨g3, 0, none⟩)) (hg3 : w.cell? ⟨g3, 0, none⟩ = some (.int .i64 y)) (hu3 : P.underlying ty3 = some (.int .i64)) :
    (results fn tmps).run P w = .ok (.tuple #[.agg cs, .int .i64 x, .int .i64 y]) w := by
  have hp' : tmps[p]?.getD undef = .pointer (some ⟨g, 0, none⟩) := by simpa using hp
  have hq' : tmps[q]?.getD undef = .pointer (some ⟨g2, 0, none⟩) := by simpa using hq
  have hs' : tmps[s]?.getD undef = .pointer (some ⟨g3, 0, none⟩) := by simpa using hs
  have h1 := run_loadVar_row w g t ty cs fr d hg hu hd hi
  have h2 : (loadVar ty2 ⟨g2, 0, none⟩).run P w = .ok (.int .i64 x) w := by
    simp [go_sem, isAgg, run_underlying hu2, hg2]
  have h3 : (loadVar ty3 ⟨g3, 0, none⟩).run P w = .ok (.int .i64 y) w := by
    simp [go_sem, isAgg, run_underlying hu3, hg3]
  simp [results, h, hp', hq', hs', asAddr, h1, h2, h3]

/-- the results' places, while Decode runs -/
structure DecD (w W : World) (v : Value) (x y : Int) : Prop where
  b1 : W.heap[w.heap.size + 1]? = some (.cells #[v] 27 (0, 0))
  b2 : W.heap[w.heap.size + 2]? = some (.cells #[.int .i64 x] 3 (0, 0))
  b3 : W.heap[w.heap.size + 3]? = some (.cells #[.int .i64 y] 31 (0, 0))
  below : Below w.heap.size w W
theorem DecD.on {w W W' : World} {v : Value} {x y : Int} (h : DecD w W v x y) (hb : Below W.heap.size W W') : DecD w W' v x y := by
  have l1 := blk_lt h.b1
  have l2 := blk_lt h.b2
  have l3 := blk_lt h.b3
  exact ⟨by rw [hb.block _ l1]; exact h.b1, by rw [hb.block _ l2]; exact h.b2, by rw [hb.block _ l3]; exact h.b3, h.below.trans (hb.mono h.below.size)⟩
theorem DecD.aside {w W W' : World} {v : Value} {x y : Int} {F : Nat → Prop} (h : DecD w W v x y) (ha : Aside F W W') (hF : ∀ k, F k → w.heap.size + 4 ≤ k) : DecD w W' v x y := by
  have l1 := blk_lt h.b1
  have l2 := blk_lt h.b2
  have l3 := blk_lt h.b3
  exact ⟨by rw [ha.block _ l1 (fun hc => by have := hF _ hc; omega)]; exact h.b1, by rw [ha.block _ l2 (fun hc => by have := hF _ hc; omega)]; exact h.b2, by rw [ha.block _ l3 (fun hc => by have := hF _ hc; omega)]; exact h.b3, h.below.trans (ha.below h.below.size (fun k hk hc => by have := hF _ hc; omega))⟩
theorem DecD.set1 {w W : World} {v : Value} {x y : Int} (h : DecD w W v x y) (v' : Value) : DecD w (W.setCell ⟨w.heap.size + 1, 0, none⟩ v') v' x y := by
  have l1 := blk_lt h.b1
  have l2 := blk_lt h.b2
  have l3 := blk_lt h.b3
  have ha : Aside (fun i => i = w.heap.size + 1) W (W.setCell ⟨w.heap.size + 1, 0, none⟩ v') := aside_set _ _ _ _
  exact ⟨by rw [blk_set h.b1 0]; rfl, by rw [ha.block _ l2 (by omega)]; exact h.b2, by rw [ha.block _ l3 (by omega)]; exact h.b3, h.below.trans (ha.below h.below.size (fun k hk => by omega))⟩
theorem DecD.set2 {w W : World} {v : Value} {x y : Int} (h : DecD w W v x y) (x' : Int) : DecD w (W.setCell ⟨w.heap.size + 2, 0, none⟩ (.int .i64 x')) v x' y := by
  have l1 := blk_lt h.b1
  have l2 := blk_lt h.b2
  have l3 := blk_lt h.b3
  have ha : Aside (fun i => i = w.heap.size + 2) W (W.setCell ⟨w.heap.size + 2, 0, none⟩ (.int .i64 x')) := aside_set _ _ _ _
  exact ⟨by rw [ha.block _ l1 (by omega)]; exact h.b1, by rw [blk_set h.b2 0]; rfl, by rw [ha.block _ l3 (by omega)]; exact h.b3, h.below.trans (ha.below h.below.size (fun k hk => by omega))⟩
theorem DecD.set3 {w W : World} {v : Value} {x y : Int} (h : DecD w W v x y) (y' : Int) : DecD w (W.setCell ⟨w.heap.size + 3, 0, none⟩ (.int .i64 y')) v x y' := by
  have l1 := blk_lt h.b1
  have l2 := blk_lt h.b2
  have l3 := blk_lt h.b3
  have ha : Aside (fun i => i = w.heap.size + 3) W (W.setCell ⟨w.heap.size + 3, 0, none⟩ (.int .i64 y')) := aside_set _ _ _ _
  exact ⟨by rw [ha.block _ l1 (by omega)]; exact h.b1, by rw [ha.block _ l2 (by omega)]; exact h.b2, by rw [blk_set h.b3 0]; rfl, h.below.trans (ha.below h.below.size (fun k hk => by omega))⟩
theorem DecD.drew {w W : World} {v : Value} {x y : Int} (h : DecD w W v x y) : DecD w W.drew v x y := ⟨h.b1, h.b2, h.b3, h.below.drew⟩
theorem DecL.d {L : List UInt8} {w wr : World} {R : Nat} {s : List Col} {m : List UInt8} {r : Except Nat (List V × Nat)} {ys : List V} {v : Value} (h : DecL L w wr R s m r ys v) : DecD w wr v 0 0 := ⟨h.b1, h.b2, h.b3, h.below⟩

/-- at the end: nothing changed since wr but the results' places -/
structure DecF (w wr W : World) (v : Value) (x y : Int) : Prop where
  d : DecD w W v x y
  aside : Aside (fun i => w.heap.size < i ∧ i < w.heap.size + 4) wr W
theorem DecF.set1 {w wr W : World} {v : Value} {x y : Int} (h : DecF w wr W v x y) (v' : Value) : DecF w wr (W.setCell ⟨w.heap.size + 1, 0, none⟩ v') v' x y := ⟨h.d.set1 v', h.aside.trans (aside_set _ _ _ _) (fun i _ hi => by rw [hi]; omega)⟩
theorem DecF.set2 {w wr W : World} {v : Value} {x y : Int} (h : DecF w wr W v x y) (x' : Int) : DecF w wr (W.setCell ⟨w.heap.size + 2, 0, none⟩ (.int .i64 x')) v x' y := ⟨h.d.set2 x', h.aside.trans (aside_set _ _ _ _) (fun i _ hi => by rw [hi]; omega)⟩
theorem DecF.set3 {w wr W : World} {v : Value} {x y : Int} (h : DecF w wr W v x y) (y' : Int) : DecF w wr (W.setCell ⟨w.heap.size + 3, 0, none⟩ (.int .i64 y')) v x y' := ⟨h.d.set3 y', h.aside.trans (aside_set _ _ _ _) (fun i _ hi => by rw [hi]; omega)⟩
theorem DecF.drew {w wr W : World} {v : Value} {x y : Int} (h : DecF w wr W v x y) : DecF w wr W.drew v x y := ⟨h.d.drew, h.aside.drew⟩

set_option maxRecDepth 100000 in
set_option maxHeartbeats 20000000 in
theorem decodeRK (s : List Col) (p : Option Addr) (cp : Nat) (l : List UInt8) (q : Option Addr) (d : Nat) (a : Int) (w : World) (hS : SchL w p cp s) (hl : l.length ≤ 140737488351232) (hld : l.length ≤ d) (hat : At w q l) (ha1 : -9223372036854775808 ≤ a) (ha2 : a ≤ 9223372036854775807) :
    Calls Try.prog 8 #[.agg #[.slice p s.length cp], .slice q l.length d, .int .i64 a] w (RowA w (Rw.read s l a)) := by
  have hmf : ∀ (fn : Fn) (first cap : Array Value) (w : World), (Instr.makeFunc fn first cap).run Try.prog w = .ok (.func fn first cap) w := fun _ _ _ _ => rfl
  obtain ⟨hsl, hcp, hx, hwf⟩ := hS
  obtain ⟨r, hr⟩ : ∃ r, r = Rw.read s l a := ⟨_, rfl⟩
  have HR := Lib.hid (hr.trans (by rw [Rw.read] : Rw.read s l a = _))
  rw [← hr]
  obtain ⟨W0, hW0⟩ : ∃ W0, W0 = (((w.alloc (.cells #[.slice p s.length cp] 24)).alloc (.cells #[.slice none 0 0] 27)).alloc (.cells #[.int .i64 0] 3)).alloc (.cells #[.int .i64 0] 31) := ⟨_, rfl⟩
  have hB0 : Below w.heap.size w W0 := by rw [hW0]; exact ((((Below.refl _ _).alloc (Nat.le_refl _) _).alloc (by simp) _).alloc (by simp <;> omega) _).alloc (by simp <;> omega) _
  have HD0 : Hid (DecD w W0 (.slice none 0 0) 0 0) := by
    refine ⟨?_, ?_, ?_, hB0⟩
    · rw [hW0, blk_old _ _ (by simp <;> omega), blk_old _ _ (by simp)]
      have := blk_new (w.alloc (.cells #[.slice p s.length cp] 24)) (.cells #[.slice none 0 0] 27)
      simpa using this
    · rw [hW0, blk_old _ _ (by simp)]
      have := blk_new ((w.alloc (.cells #[.slice p s.length cp] 24)).alloc (.cells #[.slice none 0 0] 27)) (.cells #[.int .i64 0] 3)
      simpa using this
    · have := blk_new (((w.alloc (.cells #[.slice p s.length cp] 24)).alloc (.cells #[.slice none 0 0] 27)).alloc (.cells #[.int .i64 0] 3)) (.cells #[.int .i64 0] 31)
      rw [hW0]; simpa using this
  have HY0 : Hid (W0.cell? ⟨w.heap.size, 0, none⟩ = some (.slice p s.length cp)) := by
    show W0.cell? _ = _
    have h0 : (w.alloc (.cells #[.slice p s.length cp] 24)).cell? ⟨w.heap.size, 0, none⟩ = some (.slice p s.length cp) := by simp
    rw [hW0]
    exact cell_on ((Below.refl _ _).alloc (Nat.le_refl _) _) (cell_on ((Below.refl _ _).alloc (Nat.le_refl _) _) (cell_on ((Below.refl _ _).alloc (Nat.le_refl _) _) h0))
  have hs0 : w.heap.size + 4 ≤ W0.heap.size := by rw [hW0]; simp
  have HB0 := Lib.hid hB0
  have HX := Lib.hid hx
  have HAt := Lib.hid hat
  have HC := Lib.hid (checkSK s p cp W0 hsl (hx.on hB0) hwf)
  have HOp := Lib.hid (fun h => Sch.err_open (s := s) h)
  have HTy := Lib.hid (fun h => Rw.types_ok (s := s) h)
  obtain ⟨er, her⟩ : ∃ er, er = Sch.err s := ⟨_, rfl⟩
  rw [← her] at HC HR HOp HTy
  have HW0 := Lib.hid hW0
  clear hW0 hr hx hwf hat her hB0
  go_enter_defers Try.func8, Try.ntmps8
  go_wp2_with fail
  rw [← HW0.out]
  clear HW0
  refine HC.out.mono ?_
  rintro e w1 ⟨rfl, hb1⟩
  have HD1 := Lib.hid (HD0.out.on hb1)
  have y1 := cell_on hb1 HY0.out
  have hs1 : w.heap.size + 4 ≤ w1.heap.size := Nat.le_trans hs0 hb1.size
  have HBw1 : Hid (Below w.heap.size w w1) := HD1.out.below
  clear hb1 HC HY0 HB0 HD0
  have m1 : w1.cell? ⟨w.heap.size + 1, 0, none⟩ = some (.slice none 0 0) := blk_cell HD1.out.b1 0
  have m2 : w1.cell? ⟨w.heap.size + 2, 0, none⟩ = some (.int .i64 0) := blk_cell HD1.out.b2 0
  have m3 : w1.cell? ⟨w.heap.size + 3, 0, none⟩ = some (.int .i64 0) := blk_cell HD1.out.b3 0
  have mf1 := blk_free HD1.out.b1 0
  have mf2 := blk_free HD1.out.b2 0
  have mf3 := blk_free HD1.out.b3 0
  by_cases h0 : ¬ er = 0
  · have g0 : ((er : Int) != 0) = true := bne_t (by omega)
    have HE : Hid (r = .error er) := by show _ = _; rw [HR.out, if_pos h0]
    have HD2 := Lib.hid (((HD1.out.set1 (.slice none 0 0)).set2 0).set3 er)
    clear HR h0 HOp HTy
    go_wp2
    have d2 := HD2.out
    refine ⟨_, results_row8 rfl _ _ (w.heap.size + 1) (w.heap.size + 2) (w.heap.size + 3) _ #[.slice none 0 0] _ _ 0 er rfl d2.b1 Try.underlying27 rfl (by kernel_rfl) rfl (blk_cell d2.b2 0) Try.underlying3 rfl (blk_cell d2.b3 0) Try.underlying31, ?_⟩
    rw [HE.out]
    exact ⟨rfl, d2.below⟩
  have g0 : ((er : Int) != 0) = false := bne_f (by omega)
  have HR1 := Lib.hid (HR.out.trans (if_neg h0))
  have hn16 : s.length ≤ 16 := (HOp.out (by omega)).2.1
  have HTy1 := Lib.hid (HTy.out (by omega))
  clear HR HOp h0 HTy
  -- a panic that goes through the door
  have HDoor : Hid (∀ (er : Nat) (W2 : World) (v : Value) (x y : Int), r = .error er → DecD w W2 v x y → ∀ (tmps : Array Value) (ds : List Deferred), tmps.getD 6 undef = .pointer (some ⟨w.heap.size + 1, 0, none⟩) → tmps.getD 7 undef = .pointer (some ⟨w.heap.size + 2, 0, none⟩) → tmps.getD 8 undef = .pointer (some ⟨w.heap.size + 3, 0, none⟩) → ds = [{ target := .fn (.func 25) #[.pointer (some ⟨w.heap.size + 1, 0, none⟩), .pointer (some ⟨w.heap.size + 2, 0, none⟩), .pointer (some ⟨w.heap.size + 3, 0, none⟩)], args := #[] }] → bodyPostD Try.prog Try.f8 (RowA w r) (Exit.panic (errV er)) { tmps := tmps, defers := ds } W2) := by
    intro er W2 v x y he hI tmps ds h2 h3 h4 hds
    subst hds
    refine leaves_cons (f := 25) (args := #[.pointer (some ⟨w.heap.size + 1, 0, none⟩), .pointer (some ⟨w.heap.size + 2, 0, none⟩), .pointer (some ⟨w.heap.size + 3, 0, none⟩)]) (by simp) (by simp [go_sem]) ?_
    refine (catch8_panicking ⟨w.heap.size + 1, 0, none⟩ ⟨w.heap.size + 2, 0, none⟩ ⟨w.heap.size + 3, 0, none⟩ v x y er W2 (blk_cell hI.b1 0) (blk_free hI.b1 0) (blk_cell hI.b2 0) (blk_free hI.b2 0) (blk_cell hI.b3 0) (blk_free hI.b3 0) (by intro hc; injection hc; omega) (by intro hc; injection hc; omega) (by intro hc; injection hc; omega)).mono ?_
    rintro e u' w'' ⟨rfl, rfl, rfl⟩
    have d3 := (((hI.set1 (.slice none 0 0)).set2 0).set3 er).drew
    refine ⟨_, results_row8 rfl tmps _ (w.heap.size + 1) (w.heap.size + 2) (w.heap.size + 3) _ #[.slice none 0 0] _ _ 0 (er : Int) h2 d3.b1 Try.underlying27 rfl (by kernel_rfl) h3 (blk_cell d3.b2 0) Try.underlying3 h4 (blk_cell d3.b3 0) Try.underlying31, ?_⟩
    rw [he]
    exact ⟨rfl, d3.below⟩
  have HF := Lib.hid (readFromK l q d a w.heap.size w1 hl hld (HAt.out.on HBw1.out) (by omega) (fun hne ad had => by
    obtain ⟨b, o, hq, hb, _⟩ := at_some HAt.out (List.length_pos_iff.2 hne)
    rw [hq] at had
    injection had with had
    subst had
    exact hb) ha1 ha2)
  unfold FromA at HF
  by_cases h1 : a < 0 ∨ (l.length : Int) < a
  · have HE : Hid (r = .error 30) := by show _ = _; rw [HR1.out, if_pos h1]
    simp only [if_pos h1] at HF
    clear HR1 HTy1
    go_wp2_with fail
    refine HF.out.mono ?_
    rintro e w2 ⟨rfl, hb2⟩
    have HD2 := Lib.hid (HD1.out.on hb2)
    clear hb2
    go_wp2
    exact HDoor.out 30 w2 _ _ _ HE.out HD2.out _ _ rfl rfl rfl rfl
  have HR2 := Lib.hid (HR1.out.trans (if_neg h1))
  simp only [if_neg h1] at HF
  have ea : ((a.toNat : Nat) : Int) = a := by omega
  have ha3 : a ≤ (l.length : Int) := by omega
  have ha4 : 0 ≤ a := by omega
  have HEa := Lib.hid ea
  clear HR1 h1 ea
  go_wp2_with fail
  refine HF.out.mono ?_
  rintro e w2 ⟨rfl, hrd2, hb2, hs2⟩
  obtain ⟨m, hm⟩ : ∃ m, m = l.drop a.toNat := ⟨_, rfl⟩
  rw [← hm] at HR2 hrd2
  obtain ⟨rr, hrr⟩ : ∃ rr, rr = Rw.rd s m := ⟨_, rfl⟩
  rw [← hrr] at HR2
  have HDL : Hid (DecL l w w2 (w1.heap.size + 1) s m rr [] (.slice none 0 0)) := by
    have hd := HD1.out.on hb2
    refine ⟨hd.b1, hd.b2, hd.b3, hd.below, by omega, by omega, ⟨_, _, built_nil _ _⟩, ⟨0, by rw [List.drop_zero]; exact hrd2, ?_⟩, Nat.zero_le _⟩
    rw [List.drop_zero, List.length_nil, List.drop_zero, ← hrr]
    cases rr with
    | error e => rfl
    | ok p => simp [glue]
  have y2 := cell_on hb2 y1
  have HM := Lib.hid hm
  have HRr := Lib.hid hrr
  clear hrd2 hb2 HF m1 m2 m3 mf1 mf2 mf3 y1 hm hrr
  go_wp2_with fail
  go_loopw [26] (fun v26 wr => ∃ (ys : List V) (q9 : Option Addr) (c9 : Nat), v26 = .int .i64 ys.length ∧ ys.length ≤ s.length ∧ Hid (DecL l w wr (w1.heap.size + 1) s m rr ys (.slice q9 ys.length c9))) (fun v26 _ => s.length - (intOf v26).toNat)
  case atStart => exact ⟨[], none, 0, rfl, Nat.zero_le _, HDL.out⟩
  case round =>
    obtain ⟨ys, q9, c9, rfl, hyl, HL⟩ := hrel
    clear HDL y2
    by_cases hlt : ys.length < s.length
    · have hj1 : (ys.length : Int) < (s.length : Int) := by omega
      have hbw := HL.out.below
      obtain ⟨bx, ox, k, tp, tn, tc, vk, vi, vb, vt, vp, vn, vc, rfl, hbx, h9, hty, -⟩ := HX.out.at ys.length hlt
      obtain ⟨a0, a1, a2, a3, a4, a5, a6, a7, a8⟩ := h9.on hbw
      obtain ⟨wa, hwa⟩ : ∃ wa, wa = wr.alloc (.cells #[.string s[ys.length].name, .int .i64 k, .slice tp tn tc, .bool s[ys.length].has, .int .i64 vk, .int .i64 vi, .float .f64 vb, .string vt, .slice vp vn vc] 61) := ⟨_, rfl⟩
      have hba : Below wr.heap.size wr wa := by rw [hwa]; exact (Below.refl _ _).alloc (Nat.le_refl _) _
      have HSa : Hid (wa.heap.size = wr.heap.size + 1) := by show _ = _; rw [hwa]; simp
      have t1 : wa.cell? ⟨wr.heap.size, 1, none⟩ = some (.int .i64 k) := by rw [hwa]; simp
      have t2 : wa.cell? ⟨wr.heap.size, 2, none⟩ = some (.slice tp tn tc) := by rw [hwa]; simp
      have t1a : ∀ o, (wa.alloc o).cell? ⟨wr.heap.size, 1, none⟩ = some (.int .i64 k) := fun o => cell_on ((Below.refl _ _).alloc (Nat.le_refl _) _) t1
      have t2a : ∀ o, (wa.alloc o).cell? ⟨wr.heap.size, 2, none⟩ = some (.slice tp tn tc) := fun o => cell_on ((Below.refl _ _).alloc (Nat.le_refl _) _) t2
      have d1 : wa.cell? ⟨w.heap.size + 1, 0, none⟩ = some (.slice q9 ys.length c9) := cell_on hba (blk_cell HL.out.b1 0)
      have d1a : ∀ o, (wa.alloc o).cell? ⟨w.heap.size + 1, 0, none⟩ = some (.slice q9 ys.length c9) := fun o => cell_on ((Below.refl _ _).alloc (Nat.le_refl _) _) d1
      obtain ⟨n, hrd, hrn⟩ := HL.out.left
      obtain ⟨us, Fs, hbt⟩ := HL.out.built
      have HBt := Lib.hid hbt
      have HRn := Lib.hid hrn
      have HBa := Lib.hid hba
      have HC : Hid (∀ W', Below wr.heap.size wr W' → Calls Try.prog 27 #[.pointer (some ⟨w1.heap.size + 1, 0, none⟩), .agg #[.int .i64 k, .slice tp tn tc]] W' (RdA l W' w.heap.size (w1.heap.size + 1) (m.drop n) (Sch.rdV s[ys.length].ty (m.drop n)) (isV W'))) := fun W' hb => valueR _ 1 (HTy1.out _ (List.getElem_mem hlt)) l (m.drop n) _ _ W' _ ⟨w, hty, hbw.trans (hb.mono hbw.size), by omega⟩ (hrd.on hb)
      obtain ⟨mx, hmx⟩ : ∃ x, x = Sch.rdV s[ys.length].ty (m.drop n) := ⟨_, rfl⟩
      rw [← hmx] at HC
      have HMx := Lib.hid hmx
      have HTt : Hid (Rw.rd (s.drop ys.length) (m.drop n) = stepRd (s.drop (ys.length + 1)) (m.drop n) mx) := by
        show _ = _
        rw [List.drop_eq_getElem_cons hlt, rd_cons, hmx]
      generalize s[ys.length].name = nm at *
      generalize s[ys.length].has = hs9 at *
      have HEw := Lib.hid hwa
      clear h9 hty hbw hwa hba hrd hrn hbt hmx hbx
      cases mx with
      | error er2 =>
        have HE : Hid (r = .error er2) := by
          show _ = _
          have e1 : rr = .error er2 := by rw [HRn.out, HTt.out]; rfl
          rw [HR2.out, e1]
        obtain ⟨g0, -⟩ : ∃ g0 : Nat, g0 = 0 := ⟨_, rfl⟩
        have HDd : Hid (∀ W' w2', Below wr.heap.size wr W' → Aside (fun i => i = w1.heap.size + 1) W' w2' → DecD w w2' (.slice q9 ys.length c9) 0 0) := fun W' w2' hb ha => (HL.out.d.on hb).aside ha (fun k hk => by rw [hk]; omega)
        go_wp2_with fail
        rw [← HEw.out]
        clear HEw a0 a1 a2 a3 a4 a5 a6 a7 a8
        refine wp_region_any (by kernel_rfl) ?_
        refine wpAny_stops 5 (by simp) 30 56 (by simp) [(6, .pointer (some ⟨w.heap.size + 1, 0, none⟩)), (7, .pointer (some ⟨w.heap.size + 2, 0, none⟩)), (8, .pointer (some ⟨w.heap.size + 3, 0, none⟩)), (10, .pointer (some ⟨w1.heap.size + 1, 0, none⟩)), (12, .pointer (some ⟨wr.heap.size, 0, none⟩))]
          [{ target := .fn (.func 25) #[.pointer (some ⟨w.heap.size + 1, 0, none⟩), .pointer (some ⟨w.heap.size + 2, 0, none⟩), .pointer (some ⟨w.heap.size + 3, 0, none⟩)], args := #[] }] (fun w' => Below wa.heap.size wa w')
          (fun i => match i with
            | 0 => some (.pointer (some ⟨w.heap.size + 1, 0, none⟩))
            | 1 => some (.slice q9 ys.length c9)
            | 2 => some (.pointer (some ⟨w1.heap.size + 1, 0, none⟩))
            | 3 => some (.pointer (some ⟨wr.heap.size, 1, none⟩))
            | 4 => some (.agg #[.int .i64 k, .slice tp tn tc])
            | _ => none) (fun i => decide (7 < i)) (by kernel_rfl) (by simp) ?_ ?_ ?_ _ _ (by rfl) (by rfl) (by simp) (Below.refl _ _).drew
        · intro i o ho hic hlate
          have hi7 : ¬ 7 < i := by simpa using hlate
          rcases (by omega : i = 0 ∨ i = 1 ∨ i = 2 ∨ i = 3 ∨ i = 4 ∨ i = 6 ∨ i = 7) with rfl | rfl | rfl | rfl | rfl | rfl | rfl <;> (obtain rfl := Option.some.inj ho; rfl)
        · intro i o ho hic hlate a' w' hSl hbel hdep
          have hi7 : ¬ 7 < i := by simpa using hlate
          have e6 : a'.tmps[6]?.getD undef = .pointer (some ⟨w.heap.size + 1, 0, none⟩) := by simpa using hSl (6, .pointer (some ⟨w.heap.size + 1, 0, none⟩)) (by simp)
          have e10 : a'.tmps[10]?.getD undef = .pointer (some ⟨w1.heap.size + 1, 0, none⟩) := by simpa using hSl (10, .pointer (some ⟨w1.heap.size + 1, 0, none⟩)) (by simp)
          have e12 : a'.tmps[12]?.getD undef = .pointer (some ⟨wr.heap.size, 0, none⟩) := by simpa using hSl (12, .pointer (some ⟨wr.heap.size, 0, none⟩)) (by simp)
          have x1 := cell_on hbel d1
          have x2 := cell_on hbel t1
          have x3 := cell_on hbel t2
          rcases (by omega : i = 0 ∨ i = 1 ∨ i = 2 ∨ i = 3 ∨ i = 4 ∨ i = 6 ∨ i = 7) with rfl | rfl | rfl | rfl | rfl | rfl | rfl
          all_goals simp only [List.getElem?_toArray, List.getElem?_cons_zero, List.getElem?_cons_succ, Option.some.injEq] at ho
          all_goals subst ho
          · exact ⟨.pointer (some ⟨w.heap.size + 1, 0, none⟩), w', by simp [execOp, e6, go_sem], hbel, fun u hu => by injection hu⟩
          · have e30 : a'.tmps[30]?.getD undef = .pointer (some ⟨w.heap.size + 1, 0, none⟩) := by simpa using hdep ⟨0, .data⟩ (by simp) rfl _ rfl
            exact ⟨.slice q9 ys.length c9, w', by simp [execOp, e30, x1, go_sem], hbel, fun u hu => by injection hu⟩
          · exact ⟨.pointer (some ⟨w1.heap.size + 1, 0, none⟩), w', by simp [execOp, e10, go_sem], hbel, fun u hu => by injection hu⟩
          · exact ⟨.pointer (some ⟨wr.heap.size, 1, none⟩), w', by simp [execOp, e12, go_sem], hbel, fun u hu => by injection hu⟩
          · have e33 : a'.tmps[33]?.getD undef = .pointer (some ⟨wr.heap.size, 1, none⟩) := by simpa using hdep ⟨3, .data⟩ (by simp) rfl _ rfl
            exact ⟨.agg #[.int .i64 k, .slice tp tn tc], w', by simp [execOp, e33, x2, x3, go_sem], hbel, fun u hu => by injection hu⟩
          · have e31 : a'.tmps[31]?.getD undef = .slice q9 ys.length c9 := by simpa using hdep ⟨1, .data⟩ (by simp) rfl _ rfl
            exact ⟨.int .i64 ys.length, w', by simp [e31, go_sem], hbel, fun u hu => by cases hu⟩
          · exact ⟨.slice (some ⟨w'.heap.size, 0, none⟩) 1 1, w'.alloc (.cells zero5 46), by simp [execOp, zero5, go_sem], hbel.alloc hbel.size _, fun u hu => by cases hu⟩
        · intro o ho a' w' hSl hds hbel hdep K
          have e32 : a'.eval (.tmp 32) = .pointer (some ⟨w1.heap.size + 1, 0, none⟩) := by
            simp only [List.getElem?_toArray, List.getElem?_cons_zero, List.getElem?_cons_succ, Option.some.injEq] at ho
            subst ho
            simpa [Act.eval] using hdep ⟨2, .data⟩ (by simp) rfl _ rfl
          have e34 : a'.eval (.tmp 34) = .agg #[.int .i64 k, .slice tp tn tc] := by
            simp only [List.getElem?_toArray, List.getElem?_cons_zero, List.getElem?_cons_succ, Option.some.injEq] at ho
            subst ho
            simpa [Act.eval] using hdep ⟨4, .data⟩ (by simp) rfl _ rfl
          simp only [List.getElem?_toArray, List.getElem?_cons_zero, List.getElem?_cons_succ, Option.some.injEq] at ho
          subst ho
          have hbw' := HBa.out.trans (hbel.mono HBa.out.size)
          unfold Oper.wp
          have he : (execOp a'.eval { dst := some 35, op := Op.call { callee := .value (.func 27), args := #[.tmp 32, .tmp 34], argTypes := #[71, 43] }, type := 46, pos := "row.go:75", after := #[{ on := 2, ground := .data }, { on := 4, ground := .data }], guard := none }).run Try.prog w' = .ok (.enter 27 #[.pointer (some ⟨w1.heap.size + 1, 0, none⟩), .agg #[.int .i64 k, .slice tp tn tc]]) w' := by
            have hev : a'.eval (.func 27) = .func (.func 27) #[] #[] := rfl
            have hen := enters Try.func27 (by kernel_rfl) rfl
            simp [execOp, resolve, invoke, e32, e34, hev, Deferred.ofValue, hen]
          rw [he, Oper.upon_enter]
          refine (HC.out w' hbw').mono ?_
          intro e w5 hh
          obtain ⟨h5, h6⟩ := hh.bad
          subst h5
          exact HDoor.out er2 w5 _ _ _ HE.out (HDd.out _ _ hbw' h6) _ _ (hSl (6, _) (by simp)) (hSl (7, _) (by simp)) (hSl (8, _) (by simp)) hds
      | ok xj =>
        obtain ⟨x, j⟩ := xj
        have hlow := HL.out.low
        have hhigh := HL.out.high
        have hix : (ys.length : Int) < (ys.length : Int) + 1 := by omega
        have HOne : Hid (∀ a ∈ zero5.toList, a.oneCell' = true) := by
          show ∀ a ∈ zero5.toList, a.oneCell' = true
          simp [zero5, Value.oneCell']
        have HCall : Hid (∀ W' w5 (u : Array Value), Below wr.heap.size wr W' → Aside (fun i => i = w1.heap.size + 1) W' w5 → VOwn w5 (fun k => W'.heap.size ≤ k ∧ k < w5.heap.size) u x → Rdr l w5 w.heap.size (w1.heap.size + 1) ((m.drop n).drop j) → w5.heap[w.heap.size + 1]? = some (.cells #[.slice q9 ys.length c9] 27 (0, 0)) ∧ ∀ w6, Below w5.heap.size w5 w6 → w6.ownsRow (w1.heap.size + 1 + 1) 46 5 (.slice q9 ys.length c9) ys.length (flat us ys.length)) := fun W' w5 u hb ha _ _ => ⟨(HL.out.row HBt.out hb ha (Below.refl _ _)).2, fun w6 hb6 => (HL.out.row HBt.out hb ha hb6).1⟩
        go_wp2_with fail
        rw [← HEw.out]
        clear HEw a0 a1 a2 a3 a4 a5 a6 a7 a8
        refine wp_calm ?_
        go_region_law (first
          | (refine step_call2g (.tmp 32) (.tmp 34) 71 43 (by rfl) (by rfl) (by rfl) (by rfl) Try.func27 (by kernel_rfl) (by rfl) (HC.out _ (by first | exact HBa.out.drew | exact (HBa.out.alloc HBa.out.size _).drew | exact HBa.out.drew.alloc HBa.out.size _)) ?_
             intro e w5 hh
             obtain ⟨v, he, hv, hrd, ha⟩ := hh.good
             obtain ⟨u, hv, hown⟩ := hv.open
             clear hh
             obtain ⟨kx, ix, bx5, tx, px, nx, cx, hu⟩ := hown.shape
             subst hu
             subst hv
             have HP : Hid (∃ W', Below wr.heap.size wr W' ∧ Aside (fun i => i = w1.heap.size + 1) W' w5 ∧ VOwn w5 (fun k => W'.heap.size ≤ k ∧ k < w5.heap.size) (cells5 kx ix bx5 tx px nx cx) x ∧ Rdr l w5 w.heap.size (w1.heap.size + 1) ((m.drop n).drop j)) := ⟨_, by first | exact HBa.out.drew | exact (HBa.out.alloc HBa.out.size _).drew | exact HBa.out.drew.alloc HBa.out.size _, ha, hown, hrd⟩
             have HZ : Hid (∀ k C, _ → k ≠ w1.heap.size + 1 → w5.heap[k]? = some C) := fun k C hk hne => (ha.block k (blk_lt hk) hne).trans hk
             unfold cells5 at he
             refine ⟨_, he, ?_⟩
             clear he hrd ha hown
             obtain ⟨W9, hb9, ha9, hown9, hrd9⟩ := HP.out
             have hk9 := HCall.out _ _ _ hb9 ha9 hown9 hrd9
             have y5 : w5.cell? ⟨w.heap.size + 1, 0, none⟩ = some (.slice q9 ys.length c9) := blk_cell hk9.1 0
             have y5a : ∀ o, (w5.alloc o).cell? ⟨w.heap.size + 1, 0, none⟩ = some (.slice q9 ys.length c9) := fun o => cell_on ((Below.refl _ _).alloc (Nat.le_refl _) _) y5
             have HRow := Lib.hid hk9.2
             have HS5 : Hid (wr.heap.size ≤ w5.heap.size) := Nat.le_trans hb9.size ha9.size
             clear hb9 ha9 hown9 hrd9 hk9)
          | (refine step_more (B := w1.heap.size + 1 + 1) (us := us) (v := .slice q9 ys.length c9) (n := ys.length) (u := zero5) (ad := wa.heap.size) (H := w5.heap.size) (HRow.out _ (Below.refl _ _)) rfl HOne.out (HZ.out wa.heap.size _ (blk_new wa _) (by have := HSa.out; omega)) (by omega) (by have := HS5.out; omega) rfl (.tmp 31) (.tmp 37) (by rfl) (by rfl) (by rfl) (by rfl) ?_
             intro g cap w6 hr hg hn
             obtain ⟨W9, hb9, ha9, hown9, hrd9⟩ := HP.out
             obtain ⟨p1, p2, p3, p4, p5⟩ := HL.out.next HBt.out hlt HRn.out HMx.out.symm hb9 ha9 hown9 hrd9 (Below.refl _ _) hr hg hn
             obtain ⟨cv0, c0⟩ := p1 0 (by omega)
             obtain ⟨cv1, c1⟩ := p1 1 (by omega)
             obtain ⟨cv2, c2⟩ := p1 2 (by omega)
             obtain ⟨cv3, c3⟩ := p1 3 (by omega)
             obtain ⟨cv4, c4⟩ := p1 4 (by omega)
             rw [Nat.add_zero] at c0
             have f0 := p2 (ys.length * 5)
             have f1 := p2 (ys.length * 5 + 1)
             have f2 := p2 (ys.length * 5 + 2)
             have f3 := p2 (ys.length * 5 + 3)
             have f4 := p2 (ys.length * 5 + 4)
             have e1 : w6.cell? ⟨w.heap.size + 1, 0, none⟩ = some (.slice q9 ys.length c9) := blk_cell p4 0
             have e1f := blk_free p4 0
             have hne1 : ¬ g = w.heap.size + 1 := by omega
             have hne2 : ¬ w.heap.size + 1 = g := by omega
             have q5 := p5
             rw [← lay5o_comm _ _ _ _ _ _ _ _ _ _ (by omega)] at q5
             unfold lay5o at p5 q5
             have HN := Lib.hid p5
             have HN2 := Lib.hid q5
             clear p1 p2 p4 p5 q5 hr hg hn hb9 ha9 hown9 hrd9)
          | (refine step_more (B := w1.heap.size + 1 + 1) (us := us) (v := .slice q9 ys.length c9) (n := ys.length) (u := zero5) (ad := w5.heap.size) (H := w5.heap.size + 1) (HRow.out _ ((Below.refl _ _).alloc (Nat.le_refl _) _)) rfl HOne.out (blk_new w5 _) (by omega) (by have := HS5.out; simp; omega) (by simp) (.tmp 31) (.tmp 37) (by rfl) (by rfl) (by rfl) (by rfl) ?_
             intro g cap w6 hr hg hn
             obtain ⟨W9, hb9, ha9, hown9, hrd9⟩ := HP.out
             obtain ⟨p1, p2, p3, p4, p5⟩ := HL.out.next HBt.out hlt HRn.out HMx.out.symm hb9 ha9 hown9 hrd9 ((Below.refl _ _).alloc (Nat.le_refl _) _) hr hg (by simpa using hn)
             obtain ⟨cv0, c0⟩ := p1 0 (by omega)
             obtain ⟨cv1, c1⟩ := p1 1 (by omega)
             obtain ⟨cv2, c2⟩ := p1 2 (by omega)
             obtain ⟨cv3, c3⟩ := p1 3 (by omega)
             obtain ⟨cv4, c4⟩ := p1 4 (by omega)
             rw [Nat.add_zero] at c0
             have f0 := p2 (ys.length * 5)
             have f1 := p2 (ys.length * 5 + 1)
             have f2 := p2 (ys.length * 5 + 2)
             have f3 := p2 (ys.length * 5 + 3)
             have f4 := p2 (ys.length * 5 + 4)
             have e1 : w6.cell? ⟨w.heap.size + 1, 0, none⟩ = some (.slice q9 ys.length c9) := blk_cell p4 0
             have e1f := blk_free p4 0
             have hne1 : ¬ g = w.heap.size + 1 := by omega
             have hne2 : ¬ w.heap.size + 1 = g := by omega
             have q5 := p5
             rw [← lay5o_comm _ _ _ _ _ _ _ _ _ _ (by omega)] at q5
             unfold lay5o at p5 q5
             have HN := Lib.hid p5
             have HN2 := Lib.hid q5
             clear p1 p2 p4 p5 q5 hr hg hn hb9 ha9 hown9 hrd9)
          | fail)
        all_goals
          rw [calm_normal]
          clear c0 c1 c2 c3 c4 f0 f1 f2 f3 f4 e1 e1f y5 y5a HRow HZ HS5 HP t1 t2 t1a t2a d1 d1a hix
          go_wp2
          go_roundw
          case rel =>
            refine ⟨ys ++ [x], some ⟨g, 0, none⟩, cap, by simp, by simp; omega, ?_⟩
            rw [List.length_append, List.length_singleton]
            first
              | with_reducible exact HN
              | with_reducible exact HN2
          case measure => simp [intOf]; omega
    · have hjn : ¬ (ys.length : Int) < (s.length : Int) := by omega
      have hys : ys.length = s.length := by omega
      obtain ⟨n, hrd, hrn⟩ := HL.out.left
      have hrr : rr = .ok (ys, n) := by
        rw [hrn, List.drop_eq_nil_of_le (by omega)]
        simp [Rw.rd, glue]
      have hrd0 : Rw.rd s m = .ok (ys, n) := by rw [← HRr.out]; exact hrr
      obtain ⟨-, hnb, ⟨rest, hmb⟩, -, -⟩ := Rw.rd_ok s m ys n HTy1.out hrd0
      have hnm : n ≤ m.length := by rw [hmb, List.length_append]; omega
      obtain ⟨T, pb, cb, pos, hAt9, hpos⟩ := hrd.out
      have hml : m.length = l.length - a.toNat := by rw [HM.out, List.length_drop]
      have hp : pos = a.toNat + n := by
        have h1 := congrArg List.length hpos
        rw [List.length_drop, List.length_drop] at h1
        have h2 := hAt9.pos
        have h3 := HEa.out
        omega
      have r2 : wr.cell? ⟨w1.heap.size + 1, 2, none⟩ = some (.int .i64 ((pos : Nat) : Int)) := blk_cell hAt9.b0 2
      have hwr : IntKind.i64.wrap ((pos : Int) - a) = (n : Int) := by rw [IntKind.wrap_i64]; have := HEa.out; omega
      have HR3 : Hid (r = if 1024 < n then .error 2 else .ok (ys, a.toNat + n)) := by show _ = _; rw [HR2.out, hrr]
      have HPos := Lib.hid hp
      have hpz : -9223372036854775808 ≤ (pos : Int) - a := by have := HEa.out; omega
      have hpz2 : (pos : Int) - a ≤ 9223372036854775807 := by have := HEa.out; omega
      have hpn : (pos : Int) - a = (n : Int) := by have := HEa.out; omega
      have HFn : Hid (DecF w wr wr (.slice q9 ys.length c9) 0 0) := ⟨HL.out.d, Aside.refl _ _⟩
      have hlow := HL.out.low
      obtain ⟨us, Fs, hbt⟩ := HL.out.built
      have HBt := Lib.hid hbt
      have HDd := Lib.hid HL.out.d
      have m1 : wr.cell? ⟨w.heap.size + 1, 0, none⟩ = some (.slice q9 ys.length c9) := blk_cell HDd.out.b1 0
      have m2 : wr.cell? ⟨w.heap.size + 2, 0, none⟩ = some (.int .i64 0) := blk_cell HDd.out.b2 0
      have m3 : wr.cell? ⟨w.heap.size + 3, 0, none⟩ = some (.int .i64 0) := blk_cell HDd.out.b3 0
      have mf1 := blk_free HDd.out.b1 0
      have mf2 := blk_free HDd.out.b2 0
      have mf3 := blk_free HDd.out.b3 0
      clear hrd hrn hrr hrd0 hnb hmb hnm hAt9 hpos hml hp hbt HL HR2 hys
      by_cases hbig : 1024 < n
      · have HE : Hid (r = .error 2) := HR3.out.trans (if_pos hbig)
        have g1 : decide ((n : Int) ≤ 1024) = false := decide_eq_false (by omega)
        have g2 : decide ((pos : Int) - a ≤ 1024) = false := decide_eq_false (by omega)
        clear HR3 hbig
        go_wp2_with fail
        refine (need_f _ 2 _).mono ?_
        rintro e w5 ⟨rfl, hw5⟩
        rw [hw5]
        clear hw5 w5
        go_wp2
        exact HDoor.out 2 wr _ _ _ HE.out HDd.out _ _ rfl rfl rfl rfl
      · have HE : Hid (r = .ok (ys, a.toNat + n)) := HR3.out.trans (if_neg hbig)
        have g1 : decide ((n : Int) ≤ 1024) = true := decide_eq_true (by omega)
        have g2 : decide ((pos : Int) - a ≤ 1024) = true := decide_eq_true (by omega)
        have HEnd : Hid (∀ (W3 : World) (tmps : Array Value), DecF w wr W3 (.slice q9 ys.length c9) pos 0 → tmps.getD 6 undef = .pointer (some ⟨w.heap.size + 1, 0, none⟩) → tmps.getD 7 undef = .pointer (some ⟨w.heap.size + 2, 0, none⟩) → tmps.getD 8 undef = .pointer (some ⟨w.heap.size + 3, 0, none⟩) → ∃ v, (results Try.f8 tmps).run Try.prog W3 = .ok v W3 ∧ RowA w r (.returned v) W3) := by
          intro W3 tmps hF h2 h3 h4
          refine ⟨_, results_row8 rfl tmps _ (w.heap.size + 1) (w.heap.size + 2) (w.heap.size + 3) _ #[.slice q9 ys.length c9] _ _ pos 0 h2 hF.d.b1 Try.underlying27 rfl (by kernel_rfl) h3 (blk_cell hF.d.b2 0) Try.underlying3 h4 (blk_cell hF.d.b3 0) Try.underlying31, ?_⟩
          rw [HE.out]
          have hb3 := HBt.out.aside hF.aside (fun g hg he => by have := (HBt.out.lt g hg).1; omega) (fun i hi k hk he => by have := (HBt.out.range i hi k hk).1; omega)
          obtain ⟨p2, c2, he, hown⟩ := hb3.done (by omega) 0 0 0 ⟨#[]⟩
          injection he with e1 e2 e3
          subst e1 e3
          exact ⟨q9, c9, by rw [HPos.out], hown.mono (fun i hi => ⟨by omega, hi.2⟩), hF.d.below⟩
        clear HR3 hbig
        go_wp2_with fail
        refine (need_t _ 2 _).mono ?_
        rintro e w5 ⟨rfl, hw5⟩
        rw [hw5]
        clear hw5 w5
        go_wp2_with fail
        refine wp_calm ?_
        go_region_law (fail)
        all_goals
          rw [calm_normal]
          go_wp2
          refine leaves_cons (f := 25) (args := #[.pointer (some ⟨w.heap.size + 1, 0, none⟩), .pointer (some ⟨w.heap.size + 2, 0, none⟩), .pointer (some ⟨w.heap.size + 3, 0, none⟩)]) (by simp) (by simp [go_sem]) ?_
          refine (catch8_idle ⟨w.heap.size + 1, 0, none⟩ ⟨w.heap.size + 2, 0, none⟩ ⟨w.heap.size + 3, 0, none⟩ _).mono ?_
          rintro e u' w'' ⟨rfl, rfl, rfl⟩
          refine HEnd.out _ _ ?_ rfl rfl rfl
          exact (((HFn.out.set1 _).set2 _).set3 _).drew
end Go.Proofs.Ytnlhpndjogjejaa

/- Package row's functions answer as the laws ask, in any world. -/
namespace Go.Proofs.Ytnlhpndjogjejaa
open Go.RowKit

/-- no package variable is read -/
def RowsI (_ : World) : Prop := True

set_option maxRecDepth 100000 in
set_option maxHeartbeats 400000 in
theorem checkRK (s : List Col) (p : Option Addr) (cp : Nat) (vs : List V) (q : Option Addr) (cq : Nat) (w : World) (hS : SchL w p cp s) (hR : RLies w q cq vs) :
    Calls Try.prog 7 #[.agg #[.slice p s.length cp], .agg #[.slice q vs.length cq]] w fun e w' => e = .returned (.int .i64 (Rw.err s vs : Nat)) ∧ Below w.heap.size w w' := by
  obtain ⟨W0, hW0⟩ : ∃ W0, W0 = (w.alloc (.cells #[.slice p s.length cp] 24)).alloc (.cells #[.slice q vs.length cq] 27) := ⟨_, rfl⟩
  have HB1 : Hid (Below w.heap.size w W0) := by rw [hW0]; exact ((Below.refl _ _).alloc (Nat.le_refl _) _).alloc (by simp) _
  have HC := Lib.hid (encodeRK s p cp vs q cq W0 (hS.on HB1.out) (hR.on HB1.out))
  obtain ⟨R, hR'⟩ : ∃ R, R = Rw.err s vs := ⟨_, rfl⟩
  obtain ⟨L, hL⟩ : ∃ R, R = Rw.out s vs := ⟨_, rfl⟩
  rw [← hR', ← hL] at HC
  rw [← hR']
  have HW0 := Lib.hid hW0
  clear hR' hL hS hR hW0
  go_enter Try.func7, Try.ntmps7
  go_wp2_with fail
  rw [← HW0.out]
  refine HC.out.mono ?_
  rintro e w2 ⟨q2, cap, rfl, -, -, hb2⟩
  have HB2 := Lib.hid (HB1.out.trans (hb2.mono HB1.out.size))
  clear hb2 HC
  go_wp2
  go_ret
  exact ⟨rfl, HB2.out⟩

theorem EncR.toldK {w w' : World} {y : Ty} {x : V} {e : Ending} (h : EncR w (Rw.encErr y x) (Sch.vB x) e w') : Told w (Rw.encErr y x) (Rw.encB y x) e w' := by
  rcases h with ⟨h0, q, cap, rfl, hh, hb⟩ | ⟨h0, rfl, hb⟩
  · have e1 : Rw.encB y x = Sch.vB x := by rw [Rw.encB, if_pos h0]
    obtain ⟨q', cap', he, hat, hcap⟩ := hh.at
    injection he with e2 _ e3
    subst e2 e3
    rw [e1, h0]
    exact ⟨q, cap, rfl, hat, hcap, hb⟩
  · have e1 : Rw.encB y x = [] := by rw [Rw.encB, if_neg h0]
    rw [e1]
    exact ⟨none, 0, rfl, .inl rfl, Nat.le_refl _, hb⟩

theorem rowsK : RowsOk RowsI where
  on := fun _ _ => trivial
  check := fun s p c vs q d w hs hr _ => checkRK s p c vs q d w hs hr
  encode := fun s p c vs q d w hs hr _ => encodeRK s p c vs q d w hs hr
  decode := fun s p c l q d a w hs hl hld hat h1 h2 _ => decodeRK s p c l q d a w hs hl hld hat h1 h2
  encodeValue := fun y x u v w hy _ hx wx _ => (encodeValueK y x w u v hy hx wx).mono fun _ _ h => h.toldK
end Go.Proofs.Ytnlhpndjogjejaa

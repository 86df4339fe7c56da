/- The landed splitter: slices.Clone, pass, hold. -/
import Derived.Test.YtpgilfglfcnihaaK13A
namespace Go.Proofs.Ytpgilfglfcnihaa
open Go.RowKit
attribute [local go_sem] runK_store_func

/-- a splitter lies in block g, what it holds in v -/
structure Spl (w : World) (B g : Nat) (v : Value) (d : Sp) : Prop where
  lies : w.heap[g]? = some (.cells (sCells d.n (opI d.op) v (nextF g d.op)) 42)
  held : Has w B v d.held
  base : B ≤ g

theorem has_apart {w : World} {B g : Nat} {v : Value} {l : List UInt8} (h : Has w B v l) {C : Array Value} {T : TypeId} (hg : w.heap[g]? = some (.cells C T)) (hT : T ≠ 5) : v.ownBlock ≠ some g := by
  intro hc
  rcases h.2 with ⟨h1, _⟩ | ⟨g', cap, cur, h1, _, h3, _⟩
  · rw [h1] at hc; cases hc
  · rw [h1] at hc
    simp only [Value.ownBlock, Option.some.injEq] at hc
    subst hc
    rw [h3] at hg
    injection hg with h4
    injection h4 with _ h5
    exact hT h5.symm

/-- the answer of a call that tells a run, or none -/
def RunV (w' : World) (Z : Nat) (v' : Value) (rs : List Run) (a : Int) (u : Value) : Prop :=
  (rs = [] ∧ ∃ p c, u = .slice p 0 c) ∨ ∃ k l g cap, rs = [(k, l)] ∧ l ≠ [] ∧ a = (k : Int) ∧ u = .slice (some ⟨g, 0, none⟩) l.length cap ∧ Mine w' Z g cap l ∧ v'.ownBlock ≠ some g
/-- what a byte leaves: all but the count is as behind it -/
structure Nxt (w w' : World) (B g : Nat) (v v' : Value) (d : Sp) (c : UInt8) : Prop where
  lies : w'.heap[g]? = some (.cells (sCells d.n (opI (d.step c).op) v' (nextF g (d.step c).op)) 42)
  held : Has w' B v' (d.step c).held
  aside : Aside (fun i => i = g ∨ v.ownBlock = some i) w w'
  own : ∀ i, v'.ownBlock = some i → v.ownBlock = some i ∨ w.heap.size ≤ i

theorem nil_none (n c : Nat) (w : World) : (binOp .eql 22 (.slice none n c) (.slice none 0 0)).run Try.prog w = .ok (.bool true) w := by kernel_rfl
theorem nil_some (a : Addr) (n c : Nat) (w : World) : (binOp .eql 22 (.slice (some a) n c) (.slice none 0 0)).run Try.prog w = .ok (.bool false) w := by kernel_rfl

set_option maxHeartbeats 1000000 in
/-- slices.Clone -/
theorem cloneK (p : Option Addr) (c : Nat) (l : List UInt8) (hl : l.length ≤ 1000000) (w : World) (h : At w p l) : Calls Try.prog 22 #[.slice p l.length c] w fun e w' => ∃ q cap, e = .returned (.slice q l.length cap) ∧ Has w' w.heap.size (.slice q l.length cap) l ∧ Below w.heap.size w w' := by
  cases p with
  | none =>
    have h0 : l = [] := by
      rcases h with rfl | ⟨b, o, hp, _, _⟩
      · rfl
      · cases hp
    subst h0
    have hq := nil_none 0 c w
    go_enter Try.func22, Try.ntmps22
    go_wp2
    go_ret
    exact ⟨none, 0, rfl, has_nil _ _, Below.refl _ _⟩
  | some a =>
    have HA := Lib.hid (h.on ((Below.refl _ w).alloc (Nat.le_refl _) (.cells #[] 5)))
    have HM := Lib.hid (mine_new w).has
    have HB : Hid (Below w.heap.size w (w.alloc (.cells #[] 5))) := (Below.refl _ _).alloc (Nat.le_refl _) _
    have hq := nil_some a l.length c w
    clear h
    go_enter Try.func22, Try.ntmps22
    go_wp2_with (first
      | (at_builtin
         refine wp_ontoL (xs := []) HM.out HA.out (by simp; omega) (by simp) rfl rfl rfl rfl rfl ?_
         intro ys q cap W HY hh ha hk2
         have HB2 := Lib.hid (aside_low ha HM.out (by simp))
         have HYs := Lib.hid hh
         clear ha hk2 hh)
      | fail)
    go_ret
    have e : ys = l := HY.out
    rw [e] at HYs
    rw [e]
    exact ⟨q, cap, rfl, HYs.out, HB.out.trans HB2.out⟩

theorem lies_on {w w' : World} {g : Nat} {C : Array Value} {T : TypeId} (h : w.heap[g]? = some (.cells C T)) (hb : Below w.heap.size w w') : w'.heap[g]? = some (.cells C T) := by
  rw [hb.block g (Array.getElem?_eq_some_iff.1 h).1]
  exact h
theorem lies_lt {w : World} {g : Nat} {o : Obj} (h : w.heap[g]? = some o) : g < w.heap.size := (Array.getElem?_eq_some_iff.1 h).1
def set2 (w : World) (g : Nat) (a b : Value) : World := (w.setCell ⟨g, 0, none⟩ a).setCell ⟨g, 1, none⟩ b
theorem set2_block {w : World} {g : Nat} {T : TypeId} {x y : Value} (h : w.heap[g]? = some (.cells #[x, y] T)) (a b : Value) : (set2 w g a b).heap[g]? = some (.cells #[a, b] T) := by
  have h1 : (w.setCell ⟨g, 0, none⟩ a).heap[g]? = some (.cells #[a, y] T) := by
    simp only [World.setCell, Array.getElem?_modify, h, if_true, Option.map_some]
    rfl
  unfold set2
  simp only [World.setCell, Array.getElem?_modify] at h1 ⊢
  simp only [h1, if_true, Option.map_some]
  rfl
theorem set2_aside (w : World) (g : Nat) (a b : Value) : Aside (fun j => j = g) w (set2 w g a b) := ((Aside.refl (fun j => j = g) w).setCell (p := ⟨g, 0, none⟩) (.inl rfl) _).setCell (p := ⟨g, 1, none⟩) (.inl rfl) _
theorem run_zero (w : World) : (w.alloc (.cells #[.int .i64 0, .slice none 0 0] 39)).heap[w.heap.size]? = some (.cells #[.int .i64 0, .slice none 0 0] 39) := heap_new w _
section
variable {w w' : World} {B g : Nat} {v v' : Value} {d : Sp} {c : UInt8}
theorem Spl.lt (h : Spl w B g v d) : g < w.heap.size := lies_lt h.lies
theorem Spl.apart (h : Spl w B g v d) : v.ownBlock ≠ some g := has_apart h.held h.lies (by decide)
theorem Spl.aside {F : Nat → Prop} (h : Spl w B g v d) (ha : Aside F w w') (hg : ¬ F g) (hv : ∀ k, v.ownBlock = some k → ¬ F k) : Spl w' B g v d :=
  ⟨by rw [ha.block g h.lt hg]; exact h.lies, h.held.aside ha hv, h.base⟩
theorem Spl.on (h : Spl w B g v d) (hb : Below w.heap.size w w') : Spl w' B g v d := h.aside (aside_new hb (fun _ => False)) (fun h => h) (fun _ _ h => h)
theorem Nxt.beside {w1 : World} {F : Nat → Prop} (h : Nxt w w' B g v v' d c) (ha : Aside F w' w1) (hg : ¬ F g) (hv : ∀ k, v'.ownBlock = some k → ¬ F k) (hF : ∀ k, k < w.heap.size → ¬ F k) : Nxt w w1 B g v v' d c :=
  ⟨by rw [ha.block g (lies_lt h.lies) hg]; exact h.lies, h.held.aside ha hv, h.aside.trans ha (fun i hi hc => absurd hc (hF i hi)), h.own⟩
theorem Nxt.spl (h : Nxt w w' B g v v' d c) (hs : Spl w B g v d) : Spl (w'.setCell ⟨g, 0, none⟩ (.int .i64 ((d.n + 1 : Nat) : Int))) B g v' (d.step c) := by
  refine ⟨?_, ?_, hs.base⟩
  · refine s_set h.lies 0 _ ?_
    rw [Sp.step_n]
    rfl
  · exact h.held.aside ((Aside.refl (· = g) w').setCell (p := ⟨g, 0, none⟩) (.inl rfl) _) (fun j hj hc => has_apart h.held h.lies (by decide) (by rw [hj, hc]))
end
/-- a slice cut to nothing -/
theorem Has.cut0 {w : World} {B m cap : Nat} {q : Option Addr} {l : List UInt8} (h : Has w B (.slice q m cap) l) : Has w B (.slice q 0 cap) [] := by
  refine ⟨rfl, ?_⟩
  rcases h.2 with ⟨h1, h0⟩ | ⟨g', cap', cur, h1, h2, h3, h4, h5, h6, h7⟩
  · cases h1
    exact .inl ⟨rfl, rfl⟩
  · cases h1
    exact .inr ⟨g', cap, cur, rfl, h2, h3, by simp, h5, h6, by simp [cellsOf]⟩
/-- behind follow -/
theorem nxt_follow {w w1 w2 : World} {B g : Nat} {m cap : Nat} {q : Option Addr} {d : Sp} {c : UInt8} {op : Option Nat} (h : Spl w1 B g (.slice q m cap) d) (h1 : Below w.heap.size w w1) (h2 : w2.heap[g]? = some (.cells (sCells d.n (opI op) (.slice q 0 cap) (nextF g op)) 42)) (h3 : Aside (· = g) w1 w2) (hop : (d.step c).op = op) (hh : (d.step c).held = []) : Nxt w w2 B g (.slice q m cap) (.slice q 0 cap) d c := by
  refine ⟨by rw [hop]; exact h2, ?_, ?_, fun i hi => ?_⟩
  · rw [hh]
    exact (h.held.cut0).aside h3 (fun j hj hc => h.apart (by rw [← hc, ← hj]; cases q <;> rfl))
  · have := (aside_new h1 (fun i => i = g ∨ (Value.slice q m cap).ownBlock = some i)).trans h3 (fun i _ hc => .inl hc)
    exact this
  · left
    rw [← hi]
    cases q <;> rfl

/-- the answer's cells are written -/
theorem nxt_end {w w1 : World} {B g N : Nat} {v v' x y : Value} {d : Sp} {c : UInt8} (h : Nxt w w1 B g v v' d c) (hN : w1.heap[N]? = some (.cells #[x, y] 39)) (hn : w.heap.size ≤ N) (hg : g < w.heap.size) (a b : Value) : Nxt w (set2 w1 N a b) B g v v' d c :=
  h.beside (set2_aside w1 N a b) (by omega) (fun k hk hc => has_apart h.held hN (by decide) (by rw [hk, hc])) (fun k hk hc => by omega)
theorem set2_mine {w1 : World} {Z g cap N : Nat} {l : List UInt8} {x y : Value} (h : Mine w1 Z g cap l) (hN : w1.heap[N]? = some (.cells #[x, y] 39)) (a b : Value) : Mine (set2 w1 N a b) Z g cap l :=
  Has.aside (v := .slice (some ⟨g, 0, none⟩) l.length cap) h (set2_aside w1 N a b) (fun k hk hc => has_apart (v := .slice (some ⟨g, 0, none⟩) l.length cap) h hN (by decide) (by rw [hk, hc]))

set_option maxHeartbeats 1000000 in
theorem passK (w : World) (B g : Nat) (v : Value) (d : Sp) (c : UInt8) (h : Spl w B g v d) (ho : d.op = none) : Calls Try.prog 24 #[.pointer (some ⟨g, 0, none⟩), .int .u8 (c.toNat : Int)] w fun e w' => ∃ v' a u, e = .returned (.agg #[.int .i64 a, u]) ∧ Nxt w w' B g v v' d c ∧ RunV w' w.heap.size v' (d.told c) a u := by
  obtain ⟨p, cap, hv, -, -⟩ := h.held.at
  subst hv
  obtain ⟨W0, hW0⟩ : ∃ W0, W0 = w.alloc (.cells #[.int .i64 0, .slice none 0 0] 39) := ⟨_, rfl⟩
  have hb : Below w.heap.size w W0 := by rw [hW0]; exact (Below.refl _ _).alloc (Nat.le_refl _) _
  have hr : W0.heap[w.heap.size]? = some (.cells #[.int .i64 0, .slice none 0 0] 39) := by rw [hW0]; exact run_zero w
  have h0 := h.on hb
  have HT : Hid (d.told c = []) := Sp.told_none ho c
  have hlt := h.lt
  have hgn : g ≠ w.heap.size := by omega
  have HS := Lib.hid h0
  have HB := Lib.hid hb
  by_cases hc : c = 0
  · have c0 : W0.cell? ⟨g, 0, none⟩ = some (.int .i64 d.n) := s_cell h0.lies 0
    have HF := Lib.hid (followK g d.n d.held.length (opI d.op) p cap (nextF g d.op) W0 (some d.n) h0.lies)
    simp only [opI] at HF
    have hc0 : (c.toNat : Int) = 0 := by rw [hc]; rfl
    have HR := Lib.hid hr
    rw [hc0, hc]
    rw [hc] at HT
    clear h hc hb h0 hr hc0
    subst hW0
    go_enter Try.func24, Try.ntmps24
    go_wp2_with fail
    refine HF.out.mono ?_
    rintro e w1 ⟨rfl, hl1, ha1⟩
    have hr1 : w1.heap[w.heap.size]? = some (.cells #[.int .i64 0, .slice none 0 0] 39) := by rw [ha1.block _ (lies_lt HR.out) (fun hc => hgn hc.symm)]; exact HR.out
    have HR1 := Lib.hid hr1
    have HN := Lib.hid (nxt_follow (c := 0) HS.out HB.out hl1 ha1 (Sp.fence_op d) (Sp.fence_held d))
    have x0 : w1.cell? ⟨w.heap.size, 0, none⟩ = some (.int .i64 0) := by simp [World.cell?, hr1]
    have x1 : w1.cell? ⟨w.heap.size, 1, none⟩ = some (.slice none 0 0) := by simp [World.cell?, hr1]
    have y0 : w1.frozen? ⟨w.heap.size, 0, none⟩ = false := by simp [World.frozen?, hr1]
    have y1 : w1.frozen? ⟨w.heap.size, 1, none⟩ = false := by simp [World.frozen?, hr1]
    clear hr1 hl1 ha1 HF
    go_wp2
    refine bodyPost_ret (v := .agg #[.int .i64 0, .slice none 0 0]) (results_cell_row rfl _ _ w.heap.size _ _ _ _ rfl (set2_block HR1.out _ _) Try.underlying39 rfl (by kernel_rfl)) rfl ?_
    exact ⟨_, _, _, rfl, nxt_end HN.out HR1.out (Nat.le_refl _) hlt _ _, .inl ⟨HT.out, _, _, rfl⟩⟩
  · have hb0 : ((c.toNat : Int) == 0) = false := by
      rw [beq_eq_false_iff_ne]
      intro hc2
      exact hc (UInt8.toNat_inj.1 (by simp; omega))
    have x0 : W0.cell? ⟨w.heap.size, 0, none⟩ = some (.int .i64 0) := by simp [World.cell?, hr]
    have x1 : W0.cell? ⟨w.heap.size, 1, none⟩ = some (.slice none 0 0) := by simp [World.cell?, hr]
    have y0 : W0.frozen? ⟨w.heap.size, 0, none⟩ = false := by simp [World.frozen?, hr]
    have y1 : W0.frozen? ⟨w.heap.size, 1, none⟩ = false := by simp [World.frozen?, hr]
    have h1 : (d.step c).op = none := Sp.step_op_none ho hc
    have HN : Hid (Nxt w W0 B g (.slice p d.held.length cap) (.slice p d.held.length cap) d c) := by
      refine ⟨?_, ?_, aside_new hb _, fun i hi => .inl hi⟩
      · rw [h1]
        have := h0.lies
        rw [ho] at this
        exact this
      · have := h0.held
        rw [Sp.held_none h1]
        rw [Sp.held_none ho] at this ⊢
        exact this
    have HR := Lib.hid hr
    clear h hc hb h0 hr h1
    subst hW0
    go_enter Try.func24, Try.ntmps24
    go_wp2
    refine bodyPost_ret (v := .agg #[.int .i64 0, .slice none 0 0]) (results_cell_row rfl _ _ w.heap.size _ _ _ _ rfl HR.out Try.underlying39 rfl (by kernel_rfl)) rfl ?_
    exact ⟨_, _, _, rfl, HN.out, .inl ⟨HT.out, _, _, rfl⟩⟩
end Go.Proofs.Ytpgilfglfcnihaa

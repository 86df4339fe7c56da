/- K9B, K8Q: put together. -/
import Derived.Test.YtbedlaaedefclaaM32
import Derived.Test.YtbedlaaedefclaaM17
import Derived.Test.YtbedlaaedefclaaM06
import Derived.Test.YtbedlaaedefclaaM02
import Derived.Deep.RegionLaw
import Derived.Test.YtbedlaaedefclaaM05

/- The landed resolve: a value without items, read as one of another kind. -/
namespace Go.Proofs.Ytbedlaaedefclaa
open Go.RowKit

attribute [local go_sem] run_store_float eqKinds

/-- the zero value's cells -/
def zero5 : Array Value := cells5 0 0 0 ⟨#[]⟩ none 0 0
/-- a value and an error are answered -/
def ValR (w : World) (r : Except Nat V) (e : Ending) (w' : World) : Prop := match r with
  | .error er => e = .returned (.tuple #[.agg zero5, .int .i64 (er : Nat)]) ∧ Below w.heap.size w w'
  | .ok y => ∃ u, e = .returned (.tuple #[.agg u, .int .i64 0]) ∧ VOwn w' (fun k => w.heap.size ≤ k ∧ k < w'.heap.size) u y ∧ Below w.heap.size w w'

section
variable {w w1 w2 : World} {g : Nat} {a0 a1 a2 a3 a4 : Value} {T : TypeId} {k i : Int} {b : Nat} {t : ByteArray} {p : Option Addr} {n c : Nat}
/-- a value is written into a place of the call's own -/
theorem put5_block (h : w1.heap[g]? = some (.cells #[a0, a1, a2, a3, a4] T (0, 0))) : (put5 w1 g k i b t (.slice p n c)).heap[g]? = some (.cells (cells5 k i b t p n c) T (0, 0)) := by
  unfold put5
  rw [blk_set (blk_set (blk_set (blk_set (blk_set h 0 _) 1 _) 2 _) 3 _) 4 _]
  rfl
theorem put5_aside (v : Value) : Aside (fun j => j = g) w1 (put5 w1 g k i b t v) := by
  unfold put5
  have h0 : Aside (fun j => j = g) w1 (w1.setCell ⟨g, 0, none⟩ (.int .i64 k)) := (Aside.refl (fun j => j = g) w1).setCell (p := ⟨g, 0, none⟩) (.inl rfl) _
  have h1 := h0.setCell (p := ⟨g, 1, none⟩) (.inl rfl) (.int .i64 i)
  have h2 := h1.setCell (p := ⟨g, 2, none⟩) (.inl rfl) (.float .f64 b)
  have h3 := h2.setCell (p := ⟨g, 3, none⟩) (.inl rfl) (.string t)
  exact h3.setCell (p := ⟨g, 4, none⟩) (.inl rfl) v
theorem put5_below {B : Nat} {v : Value} (h : Below B w w1) (hg : B ≤ g) : Below B w (put5 w1 g k i b t v) := by
  unfold put5
  exact ((((h.setCell (p := ⟨g, 0, none⟩) hg _).setCell (p := ⟨g, 1, none⟩) hg _).setCell (p := ⟨g, 2, none⟩) hg _).setCell (p := ⟨g, 3, none⟩) hg _).setCell (p := ⟨g, 4, none⟩) hg _
theorem put5_size {v : Value} : (put5 w1 g k i b t v).heap.size = w1.heap.size := by
  simp [put5, World.setCell]
/-- the end: a value's place and an error -/
theorem end5 {fn : Func} {R : Ending → World → Prop} {a : Act} {W : World} {q u : Tmp} {cs : Array Value} {fr : Nat × Nat} {x : Value} (h : fn.results = #[.cell q 28, .tmp u]) (hp : a.tmps.getD q undef = .pointer (some ⟨g, 0, none⟩)) (hx : a.tmps.getD u undef = x) (hd : a.defers = []) (hg : W.heap[g]? = some (.cells cs T fr)) (hs : cs.size = 5) (hR : R (.returned (.tuple #[.agg cs, x])) W) : bodyPost Try.prog fn R .ret a W := by
  refine bodyPost_ret (results_row2 h _ _ g _ _ _ _ hp hg Try.underlying28 rfl ?_) hd (by rw [hx]; exact hR)
  rw [hs]
  kernel_rfl
/-- what a call answered is answered on, through a place of one's own -/
theorem valR_ok {u : Array Value} {y : V} {B : Nat} {v : Value} (hb : Below w.heap.size w w2) (hg : w.heap.size ≤ g) (hB : g < B) (hv : VOwn w2 (fun j => B ≤ j ∧ j < w2.heap.size) u y) : ValR w (.ok y) (.returned (.tuple #[.agg u, .int .i64 0])) (put5 w2 g k i b t v) := by
  refine ⟨u, rfl, ?_, put5_below hb hg⟩
  rw [put5_size]
  exact (hv.aside (put5_aside v) (fun j hj hc => by omega)).mono fun j hj => by omega
theorem valR_err {er : Nat} {v : Value} (hb : Below w.heap.size w w2) (hg : w.heap.size ≤ g) : ValR w (.error er) (.returned (.tuple #[.agg zero5, .int .i64 (er : Nat)])) (put5 w2 g k i b t v) := ⟨rfl, put5_below hb hg⟩
end

set_option maxRecDepth 100000 in
set_option maxHeartbeats 400000 in
theorem asTextK (t : ByteArray) (ht : t.size ≤ 281474976702464) (w : World) : Calls Try.prog 70 #[.string t] w fun e w' => e = .returned (.tuple #[.string (if utfT t then t else ⟨#[]⟩), .int .i64 (if utfT t then 0 else 61)]) ∧ Below w.heap.size w w' := by
  have HU := Lib.hid (utfK t ht w)
  cases h : utfT t with
  | true =>
    rw [h] at HU
    clear ht h
    go_enter Try.func70, Try.ntmps70
    go_wp2_with fail
    refine HU.out.mono ?_
    rintro e w1 ⟨rfl, hb1⟩
    have HB := Lib.hid hb1
    clear hb1
    go_wp2
    go_ret2
    exact ⟨rfl, HB.out⟩
  | false =>
    rw [h] at HU
    clear ht h
    go_enter Try.func70, Try.ntmps70
    go_wp2_with fail
    refine HU.out.mono ?_
    rintro e w1 ⟨rfl, hb1⟩
    have HB := Lib.hid hb1
    clear hb1
    go_wp2
    go_ret2
    exact ⟨rfl, HB.out⟩

/-- a leaf that is answered -/
theorem leaf_told {w W : World} {k i : Int} {b : Nat} {t : ByteArray} {p : Option Addr} {c : Nat} (hb : Below w.heap.size w W) : ValR w (.ok (.mk k i b t [])) (.returned (.tuple #[.agg (cells5 k i b t p 0 c), .int .i64 0])) W := ⟨_, rfl, VOwn.none, hb⟩

set_option maxRecDepth 100000 in
set_option maxHeartbeats 2000000 in
theorem plain_23 (i : Int) (b : Nat) (t : ByteArray) (p : Option Addr) (n c : Nat) (w : World) : Calls Try.prog 51 #[.agg #[.int .i64 2, .int .i64 3], .agg (cells5 2 i b t p n c)] w (ValR w (if fromE i = 0 then .ok (.mk 3 0 (fromB i) ⟨#[]⟩ []) else .error 10)) := by
  unfold cells5
  obtain ⟨r, hr⟩ : ∃ r : Except Nat V, r = (if fromE i = 0 then .ok (.mk 3 0 (fromB i) ⟨#[]⟩ []) else .error 10) := ⟨_, rfl⟩
  rw [← hr]
  have HR := Lib.hid hr
  clear hr
  by_cases h0 : fromE i = 0
  · have HF : Hid (∀ w, Calls Try.prog 68 #[.int .i64 i] w fun e w' => e = .returned (.tuple #[.float .f64 (fromB i), .int .i64 0]) ∧ w' = w) := fun w => by have := realFromInt_any i w; rw [h0] at this; exact this
    have HR2 : Hid (r = .ok (.mk 3 0 (fromB i) ⟨#[]⟩ [])) := by show _ = _; rw [HR.out, if_pos h0]
    clear HR h0
    go_enter Try.func51, Try.ntmps51
    go_wp2_with fail
    refine (HF.out _).mono ?_
    rintro e w1 ⟨rfl, hw1⟩
    rw [hw1]
    clear hw1 w1
    go_wp2
    refine bodyPost_ret (results_row2 rfl _ _ (w.heap.size + 1 + 1) _ _ _ _ rfl (al4 w _ _ _ _).2.2.1 Try.underlying28 rfl (by kernel_rfl)) rfl ?_
    rw [HR2.out]
    exact leaf_told (al4 w _ _ _ _).2.2.2.2.1
  · have h1 : fromE i = 10 := by
      unfold fromE at h0 ⊢
      split
      · next h => rw [if_pos h] at h0; exact absurd rfl h0
      · rfl
    have HF : Hid (∀ w, Calls Try.prog 68 #[.int .i64 i] w fun e w' => e = .returned (.tuple #[.float .f64 (fromB i), .int .i64 10]) ∧ w' = w) := fun w => by have := realFromInt_any i w; rw [h1] at this; exact this
    have HR2 : Hid (r = .error 10) := by show _ = _; rw [HR.out, if_neg h0]
    clear HR h0 h1
    go_enter Try.func51, Try.ntmps51
    go_wp2_with fail
    refine (HF.out _).mono ?_
    rintro e w1 ⟨rfl, hw1⟩
    rw [hw1]
    clear hw1 w1
    go_wp2
    refine bodyPost_ret (results_row2 rfl _ _ (w.heap.size + 1 + 1) _ _ _ _ rfl (al4 w _ _ _ _).2.2.1 Try.underlying28 rfl (by kernel_rfl)) rfl ?_
    rw [HR2.out]
    exact ⟨rfl, (al4 w _ _ _ _).2.2.2.2.1⟩

set_option maxRecDepth 100000 in
set_option maxHeartbeats 2000000 in
theorem plain_32 (i : Int) (b : Nat) (t : ByteArray) (p : Option Addr) (n c : Nat) (w : World) : Calls Try.prog 51 #[.agg #[.int .i64 3, .int .i64 2], .agg (cells5 3 i b t p n c)] w (ValR w (if toE b = 0 then .ok (.mk 2 (toN b) 0 ⟨#[]⟩ []) else .error 10)) := by
  unfold cells5
  obtain ⟨r, hr⟩ : ∃ r : Except Nat V, r = (if toE b = 0 then .ok (.mk 2 (toN b) 0 ⟨#[]⟩ []) else .error 10) := ⟨_, rfl⟩
  rw [← hr]
  have HR := Lib.hid hr
  clear hr
  by_cases h0 : toE b = 0
  · have HF : Hid (∀ w, Calls Try.prog 69 #[.float .f64 b] w fun e w' => e = .returned (.tuple #[.int .i64 (toN b), .int .i64 0]) ∧ w' = w) := fun w => by have := realToInt_any b w; rw [h0] at this; exact this
    have HR2 : Hid (r = .ok (.mk 2 (toN b) 0 ⟨#[]⟩ [])) := by show _ = _; rw [HR.out, if_pos h0]
    clear HR h0
    go_enter Try.func51, Try.ntmps51
    go_wp2_with fail
    refine (HF.out _).mono ?_
    rintro e w1 ⟨rfl, hw1⟩
    rw [hw1]
    clear hw1 w1
    go_wp2
    refine bodyPost_ret (results_row2 rfl _ _ (w.heap.size + 1 + 1) _ _ _ _ rfl (al4 w _ _ _ _).2.2.1 Try.underlying28 rfl (by kernel_rfl)) rfl ?_
    rw [HR2.out]
    exact leaf_told (al4 w _ _ _ _).2.2.2.2.1
  · have h1 : toE b = 10 := by
      unfold toE at h0 ⊢
      split
      · next h => rw [if_pos h] at h0; exact absurd rfl h0
      · rfl
    have HF : Hid (∀ w, Calls Try.prog 69 #[.float .f64 b] w fun e w' => e = .returned (.tuple #[.int .i64 (toN b), .int .i64 10]) ∧ w' = w) := fun w => by have := realToInt_any b w; rw [h1] at this; exact this
    have HR2 : Hid (r = .error 10) := by show _ = _; rw [HR.out, if_neg h0]
    clear HR h0 h1
    go_enter Try.func51, Try.ntmps51
    go_wp2_with fail
    refine (HF.out _).mono ?_
    rintro e w1 ⟨rfl, hw1⟩
    rw [hw1]
    clear hw1 w1
    go_wp2
    refine bodyPost_ret (results_row2 rfl _ _ (w.heap.size + 1 + 1) _ _ _ _ rfl (al4 w _ _ _ _).2.2.1 Try.underlying28 rfl (by kernel_rfl)) rfl ?_
    rw [HR2.out]
    exact ⟨rfl, (al4 w _ _ _ _).2.2.2.2.1⟩

set_option maxRecDepth 100000 in
set_option maxHeartbeats 2000000 in
theorem plain_54 (i : Int) (b : Nat) (t : ByteArray) (ht : t.size ≤ 281474976702464) (p : Option Addr) (n c : Nat) (w : World) : Calls Try.prog 51 #[.agg #[.int .i64 5, .int .i64 4], .agg (cells5 5 i b t p n c)] w (ValR w (if utfT t = false then .error 61 else .ok (.mk 4 0 0 t []))) := by
  unfold cells5
  obtain ⟨r, hr⟩ : ∃ r : Except Nat V, r = (if utfT t = false then .error 61 else .ok (.mk 4 0 0 t [])) := ⟨_, rfl⟩
  rw [← hr]
  have HR := Lib.hid hr
  clear hr
  obtain ⟨W0, hW0⟩ : ∃ W0, W0 = (((w.alloc (.cells #[.int .i64 5, .int .i64 4] 79)).alloc (.cells #[.int .i64 5, .int .i64 i, .float .f64 b, .string t, .slice p n c] 28)).alloc (.cells #[.int .i64 0, .int .i64 0, .float .f64 0, .string ⟨#[]⟩, .slice none 0 0] 28)).alloc (.cells #[.int .i64 4, .int .i64 0, .float .f64 0, .string ⟨#[]⟩, .slice none 0 0] 28) := ⟨_, rfl⟩
  obtain ⟨l0, l1, l2, l3, lb, ls⟩ := al4 w (.cells #[.int .i64 5, .int .i64 4] 79) (.cells #[.int .i64 5, .int .i64 i, .float .f64 b, .string t, .slice p n c] 28) (.cells #[.int .i64 0, .int .i64 0, .float .f64 0, .string ⟨#[]⟩, .slice none 0 0] 28) (.cells #[.int .i64 4, .int .i64 0, .float .f64 0, .string ⟨#[]⟩, .slice none 0 0] 28)
  rw [← hW0] at l0 l1 l2 l3 lb ls
  have HW0 := Lib.hid hW0
  have HB0 := Lib.hid lb
  have HL := Lib.hid (And.intro l2 l3)
  have HA := Lib.hid (asTextK t ht W0)
  clear hW0 l0 l1 l2 l3 lb ht
  cases hu : utfT t with
  | true =>
    have HR2 : Hid (r = .ok (.mk 4 0 0 t [])) := by show _ = _; rw [HR.out, hu]; rfl
    rw [hu] at HA
    clear HR hu
    go_enter Try.func51, Try.ntmps51
    go_wp2_with fail
    rw [← HW0.out]
    clear HW0
    refine HA.out.mono ?_
    rintro e w1 ⟨rfl, hb1⟩
    have d2 := (hb1.block _ (blk_lt HL.out.1)).trans HL.out.1
    have d3 := (hb1.block _ (blk_lt HL.out.2)).trans HL.out.2
    have e0 : w1.cell? ⟨w.heap.size + 1 + 1, 0, none⟩ = some (.int .i64 0) := blk_cell d2 0
    have e1 : w1.cell? ⟨w.heap.size + 1 + 1, 1, none⟩ = some (.int .i64 0) := blk_cell d2 1
    have e2 : w1.cell? ⟨w.heap.size + 1 + 1, 2, none⟩ = some (.float .f64 0) := blk_cell d2 2
    have e3 : w1.cell? ⟨w.heap.size + 1 + 1, 3, none⟩ = some (.string ⟨#[]⟩) := blk_cell d2 3
    have e4 : w1.cell? ⟨w.heap.size + 1 + 1, 4, none⟩ = some (.slice none 0 0) := blk_cell d2 4
    have f0 : w1.cell? ⟨w.heap.size + 1 + 1 + 1, 0, none⟩ = some (.int .i64 4) := blk_cell d3 0
    have f1 : w1.cell? ⟨w.heap.size + 1 + 1 + 1, 1, none⟩ = some (.int .i64 0) := blk_cell d3 1
    have f2 : w1.cell? ⟨w.heap.size + 1 + 1 + 1, 2, none⟩ = some (.float .f64 0) := blk_cell d3 2
    have f3 : w1.cell? ⟨w.heap.size + 1 + 1 + 1, 3, none⟩ = some (.string ⟨#[]⟩) := blk_cell d3 3
    have f4 : w1.cell? ⟨w.heap.size + 1 + 1 + 1, 4, none⟩ = some (.slice none 0 0) := blk_cell d3 4
    have g0 := blk_free d2 0
    have g1 := blk_free d2 1
    have g2 := blk_free d2 2
    have g3 := blk_free d2 3
    have g4 := blk_free d2 4
    have k3 := blk_free d3 3
    have hne : ¬ w.heap.size + 1 + 1 = w.heap.size + 1 + 1 + 1 := by omega
    have HD := Lib.hid (blk_set_far d2 ⟨w.heap.size + 1 + 1 + 1, 3, none⟩ (.string t) (by show ¬ w.heap.size + 1 + 1 = w.heap.size + 1 + 1 + 1; omega))
    have HB1 : Hid (Below w.heap.size w (w1.setCell ⟨w.heap.size + 1 + 1 + 1, 3, none⟩ (.string t))) := (HB0.out.trans (hb1.mono HB0.out.size)).setCell (p := ⟨w.heap.size + 1 + 1 + 1, 3, none⟩) (by show w.heap.size ≤ w.heap.size + 1 + 1 + 1; omega) _
    clear hb1 HA HL d2 d3
    go_wp2
    refine end5 rfl rfl rfl rfl (put5_block HD.out) rfl ?_
    rw [HR2.out]
    exact leaf_told (put5_below HB1.out (by omega))
  | false =>
    have HR2 : Hid (r = .error 61) := by show _ = _; rw [HR.out, hu]; rfl
    rw [hu] at HA
    clear HR hu
    go_enter Try.func51, Try.ntmps51
    go_wp2_with fail
    rw [← HW0.out]
    clear HW0
    refine HA.out.mono ?_
    rintro e w1 ⟨rfl, hb1⟩
    have d2 := (hb1.block _ (blk_lt HL.out.1)).trans HL.out.1
    have d3 := (hb1.block _ (blk_lt HL.out.2)).trans HL.out.2
    have e0 : w1.cell? ⟨w.heap.size + 1 + 1, 0, none⟩ = some (.int .i64 0) := blk_cell d2 0
    have e1 : w1.cell? ⟨w.heap.size + 1 + 1, 1, none⟩ = some (.int .i64 0) := blk_cell d2 1
    have e2 : w1.cell? ⟨w.heap.size + 1 + 1, 2, none⟩ = some (.float .f64 0) := blk_cell d2 2
    have e3 : w1.cell? ⟨w.heap.size + 1 + 1, 3, none⟩ = some (.string ⟨#[]⟩) := blk_cell d2 3
    have e4 : w1.cell? ⟨w.heap.size + 1 + 1, 4, none⟩ = some (.slice none 0 0) := blk_cell d2 4
    have f3 : w1.cell? ⟨w.heap.size + 1 + 1 + 1, 3, none⟩ = some (.string ⟨#[]⟩) := blk_cell d3 3
    have g0 := blk_free d2 0
    have g1 := blk_free d2 1
    have g2 := blk_free d2 2
    have g3 := blk_free d2 3
    have g4 := blk_free d2 4
    have k3 := blk_free d3 3
    have hne : ¬ w.heap.size + 1 + 1 = w.heap.size + 1 + 1 + 1 := by omega
    have HD := Lib.hid (blk_set_far d2 ⟨w.heap.size + 1 + 1 + 1, 3, none⟩ (.string ⟨#[]⟩) (by show ¬ w.heap.size + 1 + 1 = w.heap.size + 1 + 1 + 1; omega))
    have HB1 : Hid (Below w.heap.size w (w1.setCell ⟨w.heap.size + 1 + 1 + 1, 3, none⟩ (.string ⟨#[]⟩))) := (HB0.out.trans (hb1.mono HB0.out.size)).setCell (p := ⟨w.heap.size + 1 + 1 + 1, 3, none⟩) (by show w.heap.size ≤ w.heap.size + 1 + 1 + 1; omega) _
    clear hb1 HA HL d2 d3
    go_wp2
    refine end5 rfl rfl rfl rfl (put5_block HD.out) rfl ?_
    rw [HR2.out]
    exact valR_err HB1.out (by omega)

set_option maxRecDepth 100000 in
set_option maxHeartbeats 2000000 in
theorem plain_else (j k i : Int) (b : Nat) (t : ByteArray) (p : Option Addr) (n c : Nat) (w : World) (h1 : ¬ (j = 2 ∧ k = 3)) (h2 : ¬ (j = 3 ∧ k = 2)) (h3 : ¬ (j = 5 ∧ k = 4)) : Calls Try.prog 51 #[.agg #[.int .i64 j, .int .i64 k], .agg (cells5 j i b t p n c)] w (ValR w (.ok (.mk k i (fixB b) t []))) := by
  unfold cells5
  have g1 : (j == 2 && k == 3) = false := by rw [Bool.and_eq_false_iff, beq_eq_false_iff_ne, beq_eq_false_iff_ne]; omega
  have g2 : (j == 3 && k == 2) = false := by rw [Bool.and_eq_false_iff, beq_eq_false_iff_ne, beq_eq_false_iff_ne]; omega
  have g3 : (j == 5 && k == 4) = false := by rw [Bool.and_eq_false_iff, beq_eq_false_iff_ne, beq_eq_false_iff_ne]; omega
  have HF := Lib.hid (fun w => realFix_any b w)
  clear h1 h2 h3
  go_enter Try.func51, Try.ntmps51
  go_wp2_with fail
  go_region_law (first
    | (refine step_call1 (.tmp 15) 25 (by rfl) (by rfl) (by rfl) Try.func71 (by kernel_rfl) (by rfl) (HF.out _) ?_
       rintro e w2 ⟨rfl, hw2⟩
       refine ⟨_, rfl, ?_⟩
       rw [hw2]
       clear hw2 w2)
    | fail)
  all_goals
    go_wp2
    refine bodyPost_ret (results_row2 rfl _ _ (w.heap.size + 1 + 1) _ _ _ _ rfl (al4 w _ _ _ _).2.2.1 Try.underlying28 rfl (by kernel_rfl)) rfl ?_
    exact leaf_told (al4 w _ _ _ _).2.2.2.2.1.drew
end Go.Proofs.Ytbedlaaedefclaa

/- Calls at a step of a region that draws, which return or panic. -/
namespace Go.Proofs.Ytbedlaaedefclaa
open Go.RowKit

theorem step_call1b {w : World} {ops : Array Oper} {o : Oper} {a : Act} {K : Act → World → Prop} {Q : Exit → Act → World → Prop} {E : Prop} {f : FuncId} {fn : Func} {code : Code} {u0 : Value} {R : Ending → World → Prop} (x : Operand) (t0 : TypeId)
    (hg : o.guard = none) (hop : o.op = Op.call { callee := .value (.func f), args := #[x], argTypes := #[t0] }) (hx : a.eval x = u0)
    (hf : Try.prog.funcs[f]? = some fn) (hname : (fn.name == "runtime.NumGoroutine") = false) (hb : fn.body = some code)
    (hc : Calls Try.prog f #[u0] w R) (hR : ∀ e w', R e w' → ∃ ch, e = .panicked ch ∧ Q (.panic ch) a w') (v' : Value) (_ : Hid False → K (a.put o.dst v') w) :
    if Region.wanted o (yielded ops a.tmps) = true then Oper.wp Try.prog o a w K Q else E := by
  have hw : Region.wanted o (yielded ops a.tmps) = true := by simp [Region.wanted, hg]
  rw [if_pos hw]
  have h1 : fn.name ≠ "runtime.NumGoroutine" := by simpa using hname
  unfold Oper.wp
  have he : (execOp a.eval o).run Try.prog w = .ok (.enter f #[u0]) w := by
    have hev : a.eval (.func f) = .func (.func f) #[] #[] := rfl
    simp [execOp, hop, resolve, invoke, hx, hev, Deferred.ofValue, callFunc, hf, h1, hb]
  rw [he, Oper.upon_enter]
  refine hc.mono ?_
  intro e w' hr
  obtain ⟨z, rfl, hk⟩ := hR e w' hr
  exact hk
theorem step_call1g {w : World} {ops : Array Oper} {o : Oper} {a : Act} {K : Act → World → Prop} {Q : Exit → Act → World → Prop} {E : Prop} {f : FuncId} {fn : Func} {code : Code} {u0 : Value} {R : Ending → World → Prop} (x : Operand) (t0 : TypeId)
    (hg : o.guard = none) (hop : o.op = Op.call { callee := .value (.func f), args := #[x], argTypes := #[t0] }) (hx : a.eval x = u0)
    (hf : Try.prog.funcs[f]? = some fn) (hname : (fn.name == "runtime.NumGoroutine") = false) (hb : fn.body = some code)
    (hc : Calls Try.prog f #[u0] w R) (hR : ∀ e w', R e w' → ∃ z, e = .returned z ∧ K (a.put o.dst z) w') :
    if Region.wanted o (yielded ops a.tmps) = true then Oper.wp Try.prog o a w K Q else E := by
  have hw : Region.wanted o (yielded ops a.tmps) = true := by simp [Region.wanted, hg]
  rw [if_pos hw]
  have h1 : fn.name ≠ "runtime.NumGoroutine" := by simpa using hname
  unfold Oper.wp
  have he : (execOp a.eval o).run Try.prog w = .ok (.enter f #[u0]) w := by
    have hev : a.eval (.func f) = .func (.func f) #[] #[] := rfl
    simp [execOp, hop, resolve, invoke, hx, hev, Deferred.ofValue, callFunc, hf, h1, hb]
  rw [he, Oper.upon_enter]
  refine hc.mono ?_
  intro e w' hr
  obtain ⟨z, rfl, hk⟩ := hR e w' hr
  exact hk
theorem step_call3b {w : World} {ops : Array Oper} {o : Oper} {a : Act} {K : Act → World → Prop} {Q : Exit → Act → World → Prop} {E : Prop} {f : FuncId} {fn : Func} {code : Code} {u0 u1 u2 : Value} {R : Ending → World → Prop} (x y z : Operand) (t0 t1 t2 : TypeId)
    (hg : o.guard = none) (hop : o.op = Op.call { callee := .value (.func f), args := #[x, y, z], argTypes := #[t0, t1, t2] }) (hx : a.eval x = u0) (hy : a.eval y = u1) (hz : a.eval z = u2)
    (hf : Try.prog.funcs[f]? = some fn) (hname : (fn.name == "runtime.NumGoroutine") = false) (hb : fn.body = some code)
    (hc : Calls Try.prog f #[u0, u1, u2] w R) (hR : ∀ e w', R e w' → ∃ ch, e = .panicked ch ∧ Q (.panic ch) a w') (v' : Value) (_ : Hid False → K (a.put o.dst v') w) :
    if Region.wanted o (yielded ops a.tmps) = true then Oper.wp Try.prog o a w K Q else E := by
  have hw : Region.wanted o (yielded ops a.tmps) = true := by simp [Region.wanted, hg]
  rw [if_pos hw]
  have h1 : fn.name ≠ "runtime.NumGoroutine" := by simpa using hname
  unfold Oper.wp
  have he : (execOp a.eval o).run Try.prog w = .ok (.enter f #[u0, u1, u2]) w := by
    have hev : a.eval (.func f) = .func (.func f) #[] #[] := rfl
    simp [execOp, hop, resolve, invoke, hx, hy, hz, hev, Deferred.ofValue, callFunc, hf, h1, hb]
  rw [he, Oper.upon_enter]
  refine hc.mono ?_
  intro e w' hr
  obtain ⟨z, rfl, hk⟩ := hR e w' hr
  exact hk
theorem step_call3g {w : World} {ops : Array Oper} {o : Oper} {a : Act} {K : Act → World → Prop} {Q : Exit → Act → World → Prop} {E : Prop} {f : FuncId} {fn : Func} {code : Code} {u0 u1 u2 : Value} {R : Ending → World → Prop} (x y z : Operand) (t0 t1 t2 : TypeId)
    (hg : o.guard = none) (hop : o.op = Op.call { callee := .value (.func f), args := #[x, y, z], argTypes := #[t0, t1, t2] }) (hx : a.eval x = u0) (hy : a.eval y = u1) (hz : a.eval z = u2)
    (hf : Try.prog.funcs[f]? = some fn) (hname : (fn.name == "runtime.NumGoroutine") = false) (hb : fn.body = some code)
    (hc : Calls Try.prog f #[u0, u1, u2] w R) (hR : ∀ e w', R e w' → ∃ z, e = .returned z ∧ K (a.put o.dst z) w') :
    if Region.wanted o (yielded ops a.tmps) = true then Oper.wp Try.prog o a w K Q else E := by
  have hw : Region.wanted o (yielded ops a.tmps) = true := by simp [Region.wanted, hg]
  rw [if_pos hw]
  have h1 : fn.name ≠ "runtime.NumGoroutine" := by simpa using hname
  unfold Oper.wp
  have he : (execOp a.eval o).run Try.prog w = .ok (.enter f #[u0, u1, u2]) w := by
    have hev : a.eval (.func f) = .func (.func f) #[] #[] := rfl
    simp [execOp, hop, resolve, invoke, hx, hy, hz, hev, Deferred.ofValue, callFunc, hf, h1, hb]
  rw [he, Oper.upon_enter]
  refine hc.mono ?_
  intro e w' hr
  obtain ⟨z, rfl, hk⟩ := hR e w' hr
  exact hk

theorem step_call2b {w : World} {ops : Array Oper} {o : Oper} {a : Act} {K : Act → World → Prop} {Q : Exit → Act → World → Prop} {E : Prop} {f : FuncId} {fn : Func} {code : Code} {u v : Value} {R : Ending → World → Prop} (x y : Operand) (t t' : TypeId)
    (hg : o.guard = none) (hop : o.op = Op.call { callee := .value (.func f), args := #[x, y], argTypes := #[t, t'] }) (hx : a.eval x = u) (hy : a.eval y = v)
    (hf : Try.prog.funcs[f]? = some fn) (hname : (fn.name == "runtime.NumGoroutine") = false) (hb : fn.body = some code)
    (hc : Calls Try.prog f #[u, v] w R) (hR : ∀ e w', R e w' → ∃ ch, e = .panicked ch ∧ Q (.panic ch) a w') (v' : Value) (_ : Hid False → K (a.put o.dst v') w) :
    if Region.wanted o (yielded ops a.tmps) = true then Oper.wp Try.prog o a w K Q else E := by
  have hw : Region.wanted o (yielded ops a.tmps) = true := by simp [Region.wanted, hg]
  rw [if_pos hw]
  have h1 : fn.name ≠ "runtime.NumGoroutine" := by simpa using hname
  unfold Oper.wp
  have he : (execOp a.eval o).run Try.prog w = .ok (.enter f #[u, v]) w := by
    have hev : a.eval (.func f) = .func (.func f) #[] #[] := rfl
    simp [execOp, hop, resolve, invoke, hx, hy, hev, Deferred.ofValue, callFunc, hf, h1, hb]
  rw [he, Oper.upon_enter]
  refine hc.mono ?_
  intro e w' hr
  obtain ⟨z, rfl, hk⟩ := hR e w' hr
  exact hk
theorem step_never {w : World} {ops : Array Oper} {o : Oper} {a : Act} {K : Act → World → Prop} {Q : Exit → Act → World → Prop} {E : Prop} (h : Hid False) (v' : Value) (_ : K (a.put o.dst v') w) :
    if Region.wanted o (yielded ops a.tmps) = true then Oper.wp Try.prog o a w K Q else E := h.out.elim
theorem step_call2g {w : World} {ops : Array Oper} {o : Oper} {a : Act} {K : Act → World → Prop} {Q : Exit → Act → World → Prop} {E : Prop} {f : FuncId} {fn : Func} {code : Code} {u v : Value} {R : Ending → World → Prop} (x y : Operand) (t t' : TypeId)
    (hg : o.guard = none) (hop : o.op = Op.call { callee := .value (.func f), args := #[x, y], argTypes := #[t, t'] }) (hx : a.eval x = u) (hy : a.eval y = v)
    (hf : Try.prog.funcs[f]? = some fn) (hname : (fn.name == "runtime.NumGoroutine") = false) (hb : fn.body = some code)
    (hc : Calls Try.prog f #[u, v] w R) (hR : ∀ e w', R e w' → ∃ z, e = .returned z ∧ K (a.put o.dst z) w') :
    if Region.wanted o (yielded ops a.tmps) = true then Oper.wp Try.prog o a w K Q else E := by
  have hw : Region.wanted o (yielded ops a.tmps) = true := by simp [Region.wanted, hg]
  rw [if_pos hw]
  have h1 : fn.name ≠ "runtime.NumGoroutine" := by simpa using hname
  unfold Oper.wp
  have he : (execOp a.eval o).run Try.prog w = .ok (.enter f #[u, v]) w := by
    have hev : a.eval (.func f) = .func (.func f) #[] #[] := rfl
    simp [execOp, hop, resolve, invoke, hx, hy, hev, Deferred.ofValue, callFunc, hf, h1, hb]
  rw [he, Oper.upon_enter]
  refine hc.mono ?_
  intro e w' hr
  obtain ⟨z, rfl, hk⟩ := hR e w' hr
  exact hk

end Go.Proofs.Ytbedlaaedefclaa

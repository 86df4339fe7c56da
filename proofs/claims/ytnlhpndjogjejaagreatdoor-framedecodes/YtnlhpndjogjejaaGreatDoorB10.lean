/- K7V, K7W, K7X, K7Y, K7Za, K7Zb, K7Zc: put together. -/
import Derived.Test.YtnlhpndjogjejaaGreatDoorB09
import Derived.Test.YtnlhpndjogjejaaGreatDoorB06
import Derived.Test.YtnlhpndjogjejaaGreatDoorB02
import Derived.Test.YtnlhpndjogjejaaGreatDoorB07
import Derived.Test.YtnlhpndjogjejaaGreatDoorB08

/- The landed schema's reader: value, of kinds that have no items. -/
namespace Go.Proofs.YtnlhpndjogjejaaGreatDoor
open Go.RowKit

attribute [local go_sem] run_store_float

/-- a value in blocks that are new since w -/
def isV (w : World) (x : V) (v : Value) (w' : World) : Prop := ∃ u, v = .agg u ∧ VOwn w' (fun k => w.heap.size ≤ k ∧ k < w'.heap.size) u x
theorem isV.open {w w' : World} {x : V} {v : Value} (h : isV w x v w') : ∃ u, v = .agg u ∧ VOwn w' (fun k => w.heap.size ≤ k ∧ k < w'.heap.size) u x := h
/-- a value's five cells are laid into a place -/
def lay5 (w : World) (N : Nat) (k i : Int) (b : Nat) (t : ByteArray) (s : Value) : World := ((((w.setCell ⟨N, 0, none⟩ (.int .i64 k)).setCell ⟨N, 1, none⟩ (.int .i64 i)).setCell ⟨N, 2, none⟩ (.float .f64 b)).setCell ⟨N, 3, none⟩ (.string t)).setCell ⟨N, 4, none⟩ s
theorem lay5_aside (w : World) (N : Nat) (k i : Int) (b : Nat) (t : ByteArray) (s : Value) : Aside (fun j => j = N) w (lay5 w N k i b t s) := by
  have h0 : Aside (fun j => j = N) w (w.setCell ⟨N, 0, none⟩ (.int .i64 k)) := aside_set _ _ _ _
  have h1 := h0.trans (aside_set _ N 1 (.int .i64 i)) (fun _ _ h => h)
  have h2 := h1.trans (aside_set _ N 2 (.float .f64 b)) (fun _ _ h => h)
  have h3 := h2.trans (aside_set _ N 3 (.string t)) (fun _ _ h => h)
  exact h3.trans (aside_set _ N 4 s) (fun _ _ h => h)
theorem lay5_blk {w : World} {N : Nat} {C : Array Value} (h : w.heap[N]? = some (.cells C 65 (0, 0))) (hC : C.size = 5) (k i : Int) (b : Nat) (t : ByteArray) (q : Option Addr) (n c : Nat) : (lay5 w N k i b t (.slice q n c)).heap[N]? = some (.cells (cells5 k i b t q n c) 65 (0, 0)) := by
  have e : ((((C.set! 0 (.int .i64 k)).set! 1 (.int .i64 i)).set! 2 (.float .f64 b)).set! 3 (.string t)).set! 4 (.slice q n c) = cells5 k i b t q n c := by
    obtain ⟨L⟩ := C
    match L, hC with
    | [a0, a1, a2, a3, a4], _ => rfl
  have h4 := blk_set (blk_set (blk_set (blk_set (blk_set h 0 (.int .i64 k)) 1 (.int .i64 i)) 2 (.float .f64 b)) 3 (.string t)) 4 (.slice q n c)
  rw [e] at h4
  exact h4
theorem lay5_size (w : World) (N : Nat) (k i : Int) (b : Nat) (t : ByteArray) (s : Value) : (lay5 w N k i b t s).heap.size = w.heap.size := by simp [lay5, World.setCell]
/-- the answer is laid into its place -/
theorem finV {w wr : World} {A R N : Nat} {k i : Int} {b : Nat} {t : ByteArray} {q : Option Addr} {n c : Nat} {x : V} {l : List UInt8} {F : Nat → Prop} (hR : R < w.heap.size) (hN : w.heap.size ≤ N) (bN : wr.heap[N]? = some (.cells #[.int .i64 0, .int .i64 0, .float .f64 0, .string ⟨#[]⟩, .slice none 0 0] 65 (0, 0)))
    (hown : VOwn wr F (cells5 k i b t q n c) x) (hF : ∀ j, F j → N < j ∧ j < wr.heap.size) (hrd : Rdr wr A R l) (ha : Aside (fun j => j = R) w wr) :
    (lay5 wr N k i b t (.slice q n c)).heap[N]? = some (.cells (cells5 k i b t q n c) 65 (0, 0)) ∧ isV w x (.agg (cells5 k i b t q n c)) (lay5 wr N k i b t (.slice q n c)) ∧ Rdr (lay5 wr N k i b t (.slice q n c)) A R l ∧ Aside (fun j => j = R) w (lay5 wr N k i b t (.slice q n c)) := by
  have h2 := lay5_aside wr N k i b t (.slice q n c)
  have hs := lay5_size wr N k i b t (.slice q n c)
  refine ⟨lay5_blk bN rfl k i b t q n c, ⟨_, rfl, ?_⟩, hrd.aside h2 (fun j hj => by rw [hj]; omega), ha.trans h2 (fun j hj he => by rw [he] at hj; omega)⟩
  rw [hs]
  exact (hown.aside h2 (fun j hj he => by have := hF j hj; omega)).mono (fun j hj => by have := hF j hj; omega)

/-- what stands when the value of a kind is about to be read: the type's copy, the answer's place, the value -/
structure ValIn (w W : World) (A R : Nat) (k : Int) (C0 : Array Value) (l : List UInt8) : Prop where
  b0 : W.heap[w.heap.size]? = some (.cells C0 61 (0, 0))
  b1 : W.heap[w.heap.size + 1]? = some (.cells #[.int .i64 0, .int .i64 0, .float .f64 0, .string ⟨#[]⟩, .slice none 0 0] 65 (0, 0))
  b2 : W.heap[w.heap.size + 1 + 1]? = some (.cells #[.int .i64 k, .int .i64 0, .float .f64 0, .string ⟨#[]⟩, .slice none 0 0] 65 (0, 0))
  rd : Rdr W A R l
  aside : Aside (fun i => i = R) w W
  size : w.heap.size + 3 ≤ W.heap.size
theorem valIn_start {w : World} {A R : Nat} (k : Int) (C0 : Array Value) {l : List UInt8} (h : Rdr w A R l) : ValIn w (((w.alloc (.cells C0 61)).alloc (.cells #[.int .i64 0, .int .i64 0, .float .f64 0, .string ⟨#[]⟩, .slice none 0 0] 65)).alloc (.cells #[.int .i64 k, .int .i64 0, .float .f64 0, .string ⟨#[]⟩, .slice none 0 0] 65)) A R k C0 l := by
  have hb : Below w.heap.size w (((w.alloc (.cells C0 61)).alloc (.cells #[.int .i64 0, .int .i64 0, .float .f64 0, .string ⟨#[]⟩, .slice none 0 0] 65)).alloc (.cells #[.int .i64 k, .int .i64 0, .float .f64 0, .string ⟨#[]⟩, .slice none 0 0] 65)) := (((Below.refl _ _).alloc (Nat.le_refl _) _).alloc (by simp) _).alloc (by simp; omega) _
  refine ⟨?_, ?_, ?_, h.on hb, aside_new hb _, by simp⟩
  · rw [blk_old _ _ (by simp; omega), blk_old _ _ (by simp)]; exact blk_new w _
  · rw [blk_old _ _ (by simp)]
    have := blk_new (w.alloc (.cells C0 61)) (.cells #[.int .i64 0, .int .i64 0, .float .f64 0, .string ⟨#[]⟩, .slice none 0 0] 65)
    simpa using this
  · have := blk_new ((w.alloc (.cells C0 61)).alloc (.cells #[.int .i64 0, .int .i64 0, .float .f64 0, .string ⟨#[]⟩, .slice none 0 0] 65)) (.cells #[.int .i64 k, .int .i64 0, .float .f64 0, .string ⟨#[]⟩, .slice none 0 0] 65)
    simpa using this
/-- behind a call of the reader -/
theorem ValIn.step {w W W' : World} {A R : Nat} {k : Int} {C0 : Array Value} {l l' : List UInt8} (h : ValIn w W A R k C0 l) (ha : Aside (fun i => i = R) W W') (hrd : Rdr W' A R l') (hR : R < w.heap.size) : ValIn w W' A R k C0 l' := by
  have hs := h.size
  refine ⟨?_, ?_, ?_, hrd, h.aside.trans ha (fun _ _ h => h), Nat.le_trans hs ha.size⟩
  · rw [ha.block _ (by omega) (by omega)]; exact h.b0
  · rw [ha.block _ (by omega) (by omega)]; exact h.b1
  · rw [ha.block _ (by omega) (by omega)]; exact h.b2
/-- a field of the value is set, and it is told -/
theorem ValIn.fin {w W : World} {A R : Nat} {k : Int} {C0 : Array Value} {l : List UInt8} (h : ValIn w W A R k C0 l) (hR : R < w.heap.size) (m : Nat) (u : Value) (i : Int) (b : Nat) (t : ByteArray) :
    (lay5 (W.setCell ⟨w.heap.size + 1 + 1, m, none⟩ u) (w.heap.size + 1) k i b t (.slice none 0 0)).heap[w.heap.size + 1]? = some (.cells (cells5 k i b t none 0 0) 65 (0, 0)) ∧ isV w (.mk k i b t []) (.agg (cells5 k i b t none 0 0)) (lay5 (W.setCell ⟨w.heap.size + 1 + 1, m, none⟩ u) (w.heap.size + 1) k i b t (.slice none 0 0)) ∧ Rdr (lay5 (W.setCell ⟨w.heap.size + 1 + 1, m, none⟩ u) (w.heap.size + 1) k i b t (.slice none 0 0)) A R l ∧ Aside (fun j => j = R) w (lay5 (W.setCell ⟨w.heap.size + 1 + 1, m, none⟩ u) (w.heap.size + 1) k i b t (.slice none 0 0)) := by
  have h2 : Aside (fun i => i = w.heap.size + 1 + 1) W (W.setCell ⟨w.heap.size + 1 + 1, m, none⟩ u) := aside_set _ _ _ _
  have hs := h.size
  refine finV (F := fun _ => False) hR (by omega) ?_ .none (fun _ h => h.elim) (h.rd.aside h2 (fun j hj => by rw [hj]; omega)) (h.aside.trans h2 (fun j hj he => by rw [he] at hj; omega))
  rw [h2.block _ (by omega) (by omega)]
  exact h.b1

theorem scalar_1 (l : List UInt8) : Sch.scalar 1 l = thenR (Sch.bit l) fun n j => .ok (.mk 1 n 0 ⟨#[]⟩ [], j) := by
  unfold Sch.scalar
  rw [if_pos rfl]
  cases Sch.bit l with
  | error e => rfl
  | ok p => rfl
theorem scalar_2 (l : List UInt8) : Sch.scalar 2 l = thenR (Sch.num l) fun n j => .ok (.mk 2 (Leb.zag n) 0 ⟨#[]⟩ [], j) := by
  unfold Sch.scalar
  rw [if_neg (by decide), if_pos rfl]
  cases Sch.num l with
  | error e => rfl
  | ok p => rfl
theorem scalar_3 (l : List UInt8) : Sch.scalar 3 l = thenR (Sch.float l) fun n j => .ok (.mk 3 0 n ⟨#[]⟩ [], j) := by
  unfold Sch.scalar
  rw [if_neg (by decide), if_neg (by decide), if_pos rfl]
  cases Sch.float l with
  | error e => rfl
  | ok p => rfl
theorem scalar_4 (l : List UInt8) : Sch.scalar 4 l = thenR (Sch.text 1024 2 l) fun t j => if utfT t = false then .error 61 else .ok (.mk 4 0 0 t [], j) := by
  unfold Sch.scalar
  rw [if_neg (by decide), if_neg (by decide), if_neg (by decide)]
  cases Sch.text 1024 2 l with
  | error e => rfl
  | ok p =>
    obtain ⟨t, j⟩ := p
    rw [thenR_ok]
    dsimp only
    by_cases h : utfT t = false
    · rw [if_pos ⟨rfl, h⟩, if_pos h]
    · rw [if_neg (fun hc => h hc.2), if_neg h]
theorem scalar_5 (l : List UInt8) : Sch.scalar 5 l = thenR (Sch.text 1024 2 l) fun t j => .ok (.mk 5 0 0 t [], j) := by
  unfold Sch.scalar
  rw [if_neg (by decide), if_neg (by decide), if_neg (by decide)]
  cases Sch.text 1024 2 l with
  | error e => rfl
  | ok p =>
    obtain ⟨t, j⟩ := p
    rw [thenR_ok]
    dsimp only
    rw [if_neg (fun hc => by have := hc.1; omega)]

set_option maxRecDepth 100000 in
set_option maxHeartbeats 1000000 in
theorem value_1 (l : List UInt8) (A R : Nat) (w : World) (p : Option Addr) (n c : Nat) (h : Rdr w A R l) : Calls Tryz.prog 82 #[.pointer (some ⟨R, 0, none⟩), .agg #[.int .i64 1, .slice p n c]] w (RdA w A R l (Sch.scalar 1 l) (isV w)) := by
  have hR := h.lt
  obtain ⟨W, hW⟩ : ∃ W, W = ((w.alloc (.cells #[.int .i64 1, .slice p n c] 61)).alloc (.cells #[.int .i64 0, .int .i64 0, .float .f64 0, .string ⟨#[]⟩, .slice none 0 0] 65)).alloc (.cells #[.int .i64 1, .int .i64 0, .float .f64 0, .string ⟨#[]⟩, .slice none 0 0] 65) := ⟨_, rfl⟩
  have HI : Hid (ValIn w W A R 1 #[.int .i64 1, .slice p n c] l) := by rw [hW]; exact valIn_start 1 _ h
  have HW := Lib.hid hW
  obtain ⟨r, hr⟩ : ∃ r, r = Sch.scalar 1 l := ⟨_, rfl⟩
  have HR := Lib.hid (hr.trans (scalar_1 l))
  rw [← hr]
  have HC := Lib.hid (flagK l A R W HI.out.rd)
  obtain ⟨m, hm⟩ : ∃ m, m = Sch.bit l := ⟨_, rfl⟩
  rw [← hm] at HR HC
  have HM := Lib.hid hm
  clear hr hm h hW
  cases m with
  | error er =>
    have HR2 : Hid (r = .error er) := HR.out
    clear HR
    go_enter Tryz.func82, Tryz.ntmps82
    go_wp2_with fail
    rw [← HW.out]
    refine HC.out.mono ?_
    intro e w1 hh
    obtain ⟨he, ha⟩ := hh.bad
    subst he
    clear hh
    have HA := Lib.hid (HI.out.aside.trans ha (fun _ _ h => h))
    clear ha HC
    go_wp2
    rw [HR2.out]
    exact ⟨rfl, rfl, HA.out⟩
  | ok xj =>
    obtain ⟨x, j⟩ := xj
    have HR2 : Hid (r = .ok (.mk 1 (x : Nat) 0 ⟨#[]⟩ [], j)) := HR.out
    clear HR
    go_enter Tryz.func82, Tryz.ntmps82
    go_wp2_with fail
    rw [← HW.out]
    refine HC.out.mono ?_
    intro e w1 hh
    obtain ⟨v, he, hv, hrd, ha⟩ := hh.good
    clear hh
    replace hv : v = .int .i64 (x : Nat) := hv
    subst hv
    subst he
    have HI1 := Lib.hid (HI.out.step ha hrd hR)
    clear ha hrd HC HW HI
    have q0 : w1.cell? ⟨w.heap.size + 1 + 1, 0, none⟩ = some (.int .i64 1) := blk_cell HI1.out.b2 0
    have q1 : w1.cell? ⟨w.heap.size + 1 + 1, 1, none⟩ = some (.int .i64 0) := blk_cell HI1.out.b2 1
    have q2 : w1.cell? ⟨w.heap.size + 1 + 1, 2, none⟩ = some (.float .f64 0) := blk_cell HI1.out.b2 2
    have q3 : w1.cell? ⟨w.heap.size + 1 + 1, 3, none⟩ = some (.string ⟨#[]⟩) := blk_cell HI1.out.b2 3
    have q4 : w1.cell? ⟨w.heap.size + 1 + 1, 4, none⟩ = some (.slice none 0 0) := blk_cell HI1.out.b2 4
    have t0 : w1.cell? ⟨w.heap.size + 1, 0, none⟩ = some (.int .i64 0) := blk_cell HI1.out.b1 0
    have t1 : w1.cell? ⟨w.heap.size + 1, 1, none⟩ = some (.int .i64 0) := blk_cell HI1.out.b1 1
    have t2 : w1.cell? ⟨w.heap.size + 1, 2, none⟩ = some (.float .f64 0) := blk_cell HI1.out.b1 2
    have t3 : w1.cell? ⟨w.heap.size + 1, 3, none⟩ = some (.string ⟨#[]⟩) := blk_cell HI1.out.b1 3
    have t4 : w1.cell? ⟨w.heap.size + 1, 4, none⟩ = some (.slice none 0 0) := blk_cell HI1.out.b1 4
    have qf0 := blk_free HI1.out.b2 0
    have qf1 := blk_free HI1.out.b2 1
    have qf2 := blk_free HI1.out.b2 2
    have qf3 := blk_free HI1.out.b2 3
    have qf4 := blk_free HI1.out.b2 4
    have tf0 := blk_free HI1.out.b1 0
    have tf1 := blk_free HI1.out.b1 1
    have tf2 := blk_free HI1.out.b1 2
    have tf3 := blk_free HI1.out.b1 3
    have tf4 := blk_free HI1.out.b1 4
    have HFin := Lib.hid (HI1.out.fin hR 1 (.int .i64 (x : Nat)) (x : Nat) 0 ⟨#[]⟩)
    go_wp2
    obtain ⟨f1, f2, f3, f4⟩ := HFin.out
    refine bodyPost_ret (v := .agg (cells5 1 (x : Nat) 0 ⟨#[]⟩ none 0 0)) (results_cell_row rfl _ _ (w.heap.size + 1) _ _ _ _ rfl f1 Tryz.underlying65 rfl (by kernel_rfl)) rfl ?_
    rw [HR2.out]
    exact ⟨_, rfl, f2, f3, f4⟩

set_option maxRecDepth 100000 in
set_option maxHeartbeats 1000000 in
theorem value_3 (l : List UInt8) (A R : Nat) (w : World) (p : Option Addr) (n c : Nat) (h : Rdr w A R l) : Calls Tryz.prog 82 #[.pointer (some ⟨R, 0, none⟩), .agg #[.int .i64 3, .slice p n c]] w (RdA w A R l (Sch.scalar 3 l) (isV w)) := by
  have hR := h.lt
  obtain ⟨W, hW⟩ : ∃ W, W = ((w.alloc (.cells #[.int .i64 3, .slice p n c] 61)).alloc (.cells #[.int .i64 0, .int .i64 0, .float .f64 0, .string ⟨#[]⟩, .slice none 0 0] 65)).alloc (.cells #[.int .i64 3, .int .i64 0, .float .f64 0, .string ⟨#[]⟩, .slice none 0 0] 65) := ⟨_, rfl⟩
  have HI : Hid (ValIn w W A R 3 #[.int .i64 3, .slice p n c] l) := by rw [hW]; exact valIn_start 3 _ h
  have HW := Lib.hid hW
  obtain ⟨r, hr⟩ : ∃ r, r = Sch.scalar 3 l := ⟨_, rfl⟩
  have HR := Lib.hid (hr.trans (scalar_3 l))
  rw [← hr]
  have HC := Lib.hid (floatK l A R W HI.out.rd)
  obtain ⟨m, hm⟩ : ∃ m, m = Sch.float l := ⟨_, rfl⟩
  rw [← hm] at HR HC
  have HM := Lib.hid hm
  clear hr hm h hW
  cases m with
  | error er =>
    have HR2 : Hid (r = .error er) := HR.out
    clear HR
    go_enter Tryz.func82, Tryz.ntmps82
    go_wp2_with fail
    rw [← HW.out]
    refine HC.out.mono ?_
    intro e w1 hh
    obtain ⟨he, ha⟩ := hh.bad
    subst he
    clear hh
    have HA := Lib.hid (HI.out.aside.trans ha (fun _ _ h => h))
    clear ha HC
    go_wp2
    rw [HR2.out]
    exact ⟨rfl, rfl, HA.out⟩
  | ok xj =>
    obtain ⟨x, j⟩ := xj
    have HR2 : Hid (r = .ok (.mk 3 0 x ⟨#[]⟩ [], j)) := HR.out
    clear HR
    go_enter Tryz.func82, Tryz.ntmps82
    go_wp2_with fail
    rw [← HW.out]
    refine HC.out.mono ?_
    intro e w1 hh
    obtain ⟨v, he, hv, hrd, ha⟩ := hh.good
    clear hh
    replace hv : v = .float .f64 x := hv
    subst hv
    subst he
    have HI1 := Lib.hid (HI.out.step ha hrd hR)
    clear ha hrd HC HW HI
    have q0 : w1.cell? ⟨w.heap.size + 1 + 1, 0, none⟩ = some (.int .i64 3) := blk_cell HI1.out.b2 0
    have q1 : w1.cell? ⟨w.heap.size + 1 + 1, 1, none⟩ = some (.int .i64 0) := blk_cell HI1.out.b2 1
    have q2 : w1.cell? ⟨w.heap.size + 1 + 1, 2, none⟩ = some (.float .f64 0) := blk_cell HI1.out.b2 2
    have q3 : w1.cell? ⟨w.heap.size + 1 + 1, 3, none⟩ = some (.string ⟨#[]⟩) := blk_cell HI1.out.b2 3
    have q4 : w1.cell? ⟨w.heap.size + 1 + 1, 4, none⟩ = some (.slice none 0 0) := blk_cell HI1.out.b2 4
    have t0 : w1.cell? ⟨w.heap.size + 1, 0, none⟩ = some (.int .i64 0) := blk_cell HI1.out.b1 0
    have t1 : w1.cell? ⟨w.heap.size + 1, 1, none⟩ = some (.int .i64 0) := blk_cell HI1.out.b1 1
    have t2 : w1.cell? ⟨w.heap.size + 1, 2, none⟩ = some (.float .f64 0) := blk_cell HI1.out.b1 2
    have t3 : w1.cell? ⟨w.heap.size + 1, 3, none⟩ = some (.string ⟨#[]⟩) := blk_cell HI1.out.b1 3
    have t4 : w1.cell? ⟨w.heap.size + 1, 4, none⟩ = some (.slice none 0 0) := blk_cell HI1.out.b1 4
    have qf0 := blk_free HI1.out.b2 0
    have qf1 := blk_free HI1.out.b2 1
    have qf2 := blk_free HI1.out.b2 2
    have qf3 := blk_free HI1.out.b2 3
    have qf4 := blk_free HI1.out.b2 4
    have tf0 := blk_free HI1.out.b1 0
    have tf1 := blk_free HI1.out.b1 1
    have tf2 := blk_free HI1.out.b1 2
    have tf3 := blk_free HI1.out.b1 3
    have tf4 := blk_free HI1.out.b1 4
    have HFin := Lib.hid (HI1.out.fin hR 2 (.float .f64 x) 0 x ⟨#[]⟩)
    go_wp2
    obtain ⟨f1, f2, f3, f4⟩ := HFin.out
    refine bodyPost_ret (v := .agg (cells5 3 0 x ⟨#[]⟩ none 0 0)) (results_cell_row rfl _ _ (w.heap.size + 1) _ _ _ _ rfl f1 Tryz.underlying65 rfl (by kernel_rfl)) rfl ?_
    rw [HR2.out]
    exact ⟨_, rfl, f2, f3, f4⟩

set_option maxRecDepth 100000 in
set_option maxHeartbeats 1000000 in
theorem value_5 (l : List UInt8) (A R : Nat) (w : World) (p : Option Addr) (n c : Nat) (h : Rdr w A R l) : Calls Tryz.prog 82 #[.pointer (some ⟨R, 0, none⟩), .agg #[.int .i64 5, .slice p n c]] w (RdA w A R l (Sch.scalar 5 l) (isV w)) := by
  have hR := h.lt
  obtain ⟨W, hW⟩ : ∃ W, W = ((w.alloc (.cells #[.int .i64 5, .slice p n c] 61)).alloc (.cells #[.int .i64 0, .int .i64 0, .float .f64 0, .string ⟨#[]⟩, .slice none 0 0] 65)).alloc (.cells #[.int .i64 5, .int .i64 0, .float .f64 0, .string ⟨#[]⟩, .slice none 0 0] 65) := ⟨_, rfl⟩
  have HI : Hid (ValIn w W A R 5 #[.int .i64 5, .slice p n c] l) := by rw [hW]; exact valIn_start 5 _ h
  have HW := Lib.hid hW
  obtain ⟨r, hr⟩ : ∃ r, r = Sch.scalar 5 l := ⟨_, rfl⟩
  have HR := Lib.hid (hr.trans (scalar_5 l))
  rw [← hr]
  have HC := Lib.hid (textK l A R W HI.out.rd)
  obtain ⟨m, hm⟩ : ∃ m, m = Sch.text 1024 2 l := ⟨_, rfl⟩
  rw [← hm] at HR HC
  have HM := Lib.hid hm
  clear hr hm h hW
  cases m with
  | error er =>
    have HR2 : Hid (r = .error er) := HR.out
    clear HR
    go_enter Tryz.func82, Tryz.ntmps82
    go_wp2_with fail
    rw [← HW.out]
    refine HC.out.mono ?_
    intro e w1 hh
    obtain ⟨he, ha⟩ := hh.bad
    subst he
    clear hh
    have HA := Lib.hid (HI.out.aside.trans ha (fun _ _ h => h))
    clear ha HC
    go_wp2
    rw [HR2.out]
    exact ⟨rfl, rfl, HA.out⟩
  | ok xj =>
    obtain ⟨x, j⟩ := xj
    have HR2 : Hid (r = .ok (.mk 5 0 0 x [], j)) := HR.out
    clear HR
    go_enter Tryz.func82, Tryz.ntmps82
    go_wp2_with fail
    rw [← HW.out]
    refine HC.out.mono ?_
    intro e w1 hh
    obtain ⟨v, he, hv, hrd, ha⟩ := hh.good
    clear hh
    replace hv : v = .string x := hv
    subst hv
    subst he
    have HI1 := Lib.hid (HI.out.step ha hrd hR)
    clear ha hrd HC HW HI
    have q0 : w1.cell? ⟨w.heap.size + 1 + 1, 0, none⟩ = some (.int .i64 5) := blk_cell HI1.out.b2 0
    have q1 : w1.cell? ⟨w.heap.size + 1 + 1, 1, none⟩ = some (.int .i64 0) := blk_cell HI1.out.b2 1
    have q2 : w1.cell? ⟨w.heap.size + 1 + 1, 2, none⟩ = some (.float .f64 0) := blk_cell HI1.out.b2 2
    have q3 : w1.cell? ⟨w.heap.size + 1 + 1, 3, none⟩ = some (.string ⟨#[]⟩) := blk_cell HI1.out.b2 3
    have q4 : w1.cell? ⟨w.heap.size + 1 + 1, 4, none⟩ = some (.slice none 0 0) := blk_cell HI1.out.b2 4
    have t0 : w1.cell? ⟨w.heap.size + 1, 0, none⟩ = some (.int .i64 0) := blk_cell HI1.out.b1 0
    have t1 : w1.cell? ⟨w.heap.size + 1, 1, none⟩ = some (.int .i64 0) := blk_cell HI1.out.b1 1
    have t2 : w1.cell? ⟨w.heap.size + 1, 2, none⟩ = some (.float .f64 0) := blk_cell HI1.out.b1 2
    have t3 : w1.cell? ⟨w.heap.size + 1, 3, none⟩ = some (.string ⟨#[]⟩) := blk_cell HI1.out.b1 3
    have t4 : w1.cell? ⟨w.heap.size + 1, 4, none⟩ = some (.slice none 0 0) := blk_cell HI1.out.b1 4
    have qf0 := blk_free HI1.out.b2 0
    have qf1 := blk_free HI1.out.b2 1
    have qf2 := blk_free HI1.out.b2 2
    have qf3 := blk_free HI1.out.b2 3
    have qf4 := blk_free HI1.out.b2 4
    have tf0 := blk_free HI1.out.b1 0
    have tf1 := blk_free HI1.out.b1 1
    have tf2 := blk_free HI1.out.b1 2
    have tf3 := blk_free HI1.out.b1 3
    have tf4 := blk_free HI1.out.b1 4
    have HFin := Lib.hid (HI1.out.fin hR 3 (.string x) 0 0 x)
    go_wp2
    obtain ⟨f1, f2, f3, f4⟩ := HFin.out
    refine bodyPost_ret (v := .agg (cells5 5 0 0 x none 0 0)) (results_cell_row rfl _ _ (w.heap.size + 1) _ _ _ _ rfl f1 Tryz.underlying65 rfl (by kernel_rfl)) rfl ?_
    rw [HR2.out]
    exact ⟨_, rfl, f2, f3, f4⟩

set_option maxRecDepth 100000 in
set_option maxHeartbeats 1000000 in
theorem value_2 (l : List UInt8) (A R : Nat) (w : World) (p : Option Addr) (n c : Nat) (h : Rdr w A R l) : Calls Tryz.prog 82 #[.pointer (some ⟨R, 0, none⟩), .agg #[.int .i64 2, .slice p n c]] w (RdA w A R l (Sch.scalar 2 l) (isV w)) := by
  have hR := h.lt
  obtain ⟨W, hW⟩ : ∃ W, W = ((w.alloc (.cells #[.int .i64 2, .slice p n c] 61)).alloc (.cells #[.int .i64 0, .int .i64 0, .float .f64 0, .string ⟨#[]⟩, .slice none 0 0] 65)).alloc (.cells #[.int .i64 2, .int .i64 0, .float .f64 0, .string ⟨#[]⟩, .slice none 0 0] 65) := ⟨_, rfl⟩
  have HI : Hid (ValIn w W A R 2 #[.int .i64 2, .slice p n c] l) := by rw [hW]; exact valIn_start 2 _ h
  have HW := Lib.hid hW
  obtain ⟨r, hr⟩ : ∃ r, r = Sch.scalar 2 l := ⟨_, rfl⟩
  have HR := Lib.hid (hr.trans (scalar_2 l))
  rw [← hr]
  have HC := Lib.hid (numberK l A R W HI.out.rd)
  obtain ⟨m, hm⟩ : ∃ m, m = Sch.num l := ⟨_, rfl⟩
  rw [← hm] at HR HC
  have HM := Lib.hid hm
  clear hr hm h hW
  cases m with
  | error er =>
    have HR2 : Hid (r = .error er) := HR.out
    clear HR
    go_enter Tryz.func82, Tryz.ntmps82
    go_wp2_with fail
    rw [← HW.out]
    refine HC.out.mono ?_
    intro e w1 hh
    obtain ⟨he, ha⟩ := hh.bad
    subst he
    clear hh
    have HA := Lib.hid (HI.out.aside.trans ha (fun _ _ h => h))
    clear ha HC
    go_wp2
    rw [HR2.out]
    exact ⟨rfl, rfl, HA.out⟩
  | ok xj =>
    obtain ⟨x, j⟩ := xj
    have HR2 : Hid (r = .ok (.mk 2 (Leb.zag x) 0 ⟨#[]⟩ [], j)) := HR.out
    clear HR
    go_enter Tryz.func82, Tryz.ntmps82
    go_wp2_with fail
    rw [← HW.out]
    refine HC.out.mono ?_
    intro e w1 hh
    obtain ⟨v, he, hv, hrd, ha⟩ := hh.good
    clear hh
    replace hv : v = .int .u64 (x : Nat) := hv
    subst hv
    subst he
    have HI1 := Lib.hid (HI.out.step ha hrd hR)
    clear ha hrd HC HW HI
    have HZ := Lib.hid (zag_any x (num_le HM.out.symm).2)
    obtain ⟨z, hz⟩ : ∃ z, z = Leb.zag x := ⟨_, rfl⟩
    rw [← hz] at HZ HR2
    clear hz HM
    go_wp2_with fail
    refine (HZ.out _).mono ?_
    rintro e w2 ⟨rfl, hw2⟩
    rw [hw2]
    clear hw2 w2 HZ
    have q0 : w1.cell? ⟨w.heap.size + 1 + 1, 0, none⟩ = some (.int .i64 2) := blk_cell HI1.out.b2 0
    have q1 : w1.cell? ⟨w.heap.size + 1 + 1, 1, none⟩ = some (.int .i64 0) := blk_cell HI1.out.b2 1
    have q2 : w1.cell? ⟨w.heap.size + 1 + 1, 2, none⟩ = some (.float .f64 0) := blk_cell HI1.out.b2 2
    have q3 : w1.cell? ⟨w.heap.size + 1 + 1, 3, none⟩ = some (.string ⟨#[]⟩) := blk_cell HI1.out.b2 3
    have q4 : w1.cell? ⟨w.heap.size + 1 + 1, 4, none⟩ = some (.slice none 0 0) := blk_cell HI1.out.b2 4
    have t0 : w1.cell? ⟨w.heap.size + 1, 0, none⟩ = some (.int .i64 0) := blk_cell HI1.out.b1 0
    have t1 : w1.cell? ⟨w.heap.size + 1, 1, none⟩ = some (.int .i64 0) := blk_cell HI1.out.b1 1
    have t2 : w1.cell? ⟨w.heap.size + 1, 2, none⟩ = some (.float .f64 0) := blk_cell HI1.out.b1 2
    have t3 : w1.cell? ⟨w.heap.size + 1, 3, none⟩ = some (.string ⟨#[]⟩) := blk_cell HI1.out.b1 3
    have t4 : w1.cell? ⟨w.heap.size + 1, 4, none⟩ = some (.slice none 0 0) := blk_cell HI1.out.b1 4
    have qf0 := blk_free HI1.out.b2 0
    have qf1 := blk_free HI1.out.b2 1
    have qf2 := blk_free HI1.out.b2 2
    have qf3 := blk_free HI1.out.b2 3
    have qf4 := blk_free HI1.out.b2 4
    have tf0 := blk_free HI1.out.b1 0
    have tf1 := blk_free HI1.out.b1 1
    have tf2 := blk_free HI1.out.b1 2
    have tf3 := blk_free HI1.out.b1 3
    have tf4 := blk_free HI1.out.b1 4
    have HFin := Lib.hid (HI1.out.fin hR 1 (.int .i64 z) z 0 ⟨#[]⟩)
    go_wp2
    obtain ⟨f1, f2, f3, f4⟩ := HFin.out
    refine bodyPost_ret (v := .agg (cells5 2 z 0 ⟨#[]⟩ none 0 0)) (results_cell_row rfl _ _ (w.heap.size + 1) _ _ _ _ rfl f1 Tryz.underlying65 rfl (by kernel_rfl)) rfl ?_
    rw [HR2.out]
    exact ⟨_, rfl, f2, f3, f4⟩

end Go.Proofs.YtnlhpndjogjejaaGreatDoor

/- The landed schema's reader: items. -/
namespace Go.Proofs.YtnlhpndjogjejaaGreatDoor
open Go.RowKit

attribute [local go_sem] run_store_float

/-- a type in blocks above R -/
structure TFar (w : World) (R : Nat) (u : Array Value) (t : Ty) : Prop where
  out : ∃ F : Nat → Prop, TOwn w F u t ∧ ∀ k, F k → R < k ∧ k < w.heap.size
theorem TFar.aside {w w' : World} {R : Nat} {u : Array Value} {t : Ty} (h : TFar w R u t) (ha : Aside (fun i => i = R) w w') : TFar w' R u t := by
  obtain ⟨F, h1, h2⟩ := h.out
  have hs := ha.size
  exact ⟨F, h1.aside ha (fun k hk he => by have := h2 k hk; omega), fun k hk => ⟨(h2 k hk).1, by have := h2 k hk; omega⟩⟩
theorem TFar.on {w w' : World} {R : Nat} {u : Array Value} {t : Ty} (h : TFar w R u t) (hb : Below w.heap.size w w') : TFar w' R u t := by
  obtain ⟨F, h1, h2⟩ := h.out
  have hs := hb.size
  exact ⟨F, h1.under hb (fun k hk => (h2 k hk).2), fun k hk => ⟨(h2 k hk).1, by have := h2 k hk; omega⟩⟩
theorem TFar.one {w : World} {R : Nat} {u : Array Value} {k : Int} {x : Ty} (h : TFar w R u (.mk k [x])) : ∃ g off c k' q n' c', u = cells2 k (some ⟨g, off, none⟩) 1 c ∧ TFar w R (cells2 k' q n' c') x ∧ R < g ∧ g < w.heap.size ∧ w.cell? ⟨g, off, none⟩ = some (.int .i64 k') ∧ w.cell? ⟨g, off + 1, none⟩ = some (.slice q n' c') := by
  obtain ⟨F, h1, h2⟩ := h.out
  rcases h1.inv with ⟨k0, p, c, hu, hx⟩ | ⟨k0, g, off, c, xs, us, Fs, hu, hx, s⟩
  · simp only [Ty.mk.injEq] at hx
    exact absurd hx.2 (by simp)
  · simp only [Ty.mk.injEq] at hx
    obtain ⟨rfl, rfl⟩ := hx
    have hown := s.hr 0 (by simp)
    obtain ⟨k', q, n', c', hu'⟩ := hown.shape
    have c0 := s.hp.2 0 (by simp) 0 (by omega)
    have c1 := s.hp.2 0 (by simp) 1 (by omega)
    rw [hu'] at c0 c1
    rw [hu'] at hown
    exact ⟨g, off, c, k', q, n', c', hu, ⟨Fs 0, hown, fun j hj => h2 j (s.hs 0 (by simp) j hj)⟩, (h2 g s.hg).1, s.hp.1, by simpa [cells2] using c0, by simpa [cells2] using c1⟩
theorem TFar.shape {w : World} {R : Nat} {u : Array Value} {t : Ty} (h : TFar w R u t) : ∃ k p n c, u = cells2 k p n c := by
  obtain ⟨F, h1, _⟩ := h.out
  exact h1.shape

/-- items in a row of the call's own -/
def isIts (w : World) (vs : List V) (v : Value) (w' : World) : Prop := ∃ q c, v = .slice q vs.length c ∧ ∀ k, VOwn w' (fun i => w.heap.size ≤ i ∧ i < w'.heap.size) (cells5 k 0 0 ⟨#[]⟩ q vs.length c) (.mk k 0 0 ⟨#[]⟩ vs)
theorem isIts.open {w w' : World} {vs : List V} {v : Value} (h : isIts w vs v w') : ∃ q c, v = .slice q vs.length c ∧ ∀ k, VOwn w' (fun i => w.heap.size ≤ i ∧ i < w'.heap.size) (cells5 k 0 0 ⟨#[]⟩ q vs.length c) (.mk k 0 0 ⟨#[]⟩ vs) := h
/-- what is asked of value, at a type -/
def ValOk (t : Ty) : Prop := ∀ (l : List UInt8) (A R : Nat) (w : World) (u : Array Value), TFar w R u t → Rdr w A R l → Calls Tryz.prog 82 #[.pointer (some ⟨R, 0, none⟩), .agg u] w (RdA w A R l (Sch.rdV t l) (isV w))

/-- while items are read -/
structure ItsIn (w wr : World) (A R : Nat) (u : Array Value) (t : Ty) (m : Nat) (l : List UInt8) (r : Except Nat (List V × Nat)) (ys : List V) (v : Value) : Prop where
  built : ∃ us Fs, Built wr (w.heap.size + 1) v ys.length us Fs ys
  b0 : wr.heap[w.heap.size]? = some (.cells u 61 (0, 0))
  far : TFar w R u t
  left : ∃ n, Rdr wr A R (l.drop n) ∧ r = glue ys n (Sch.rdN (Sch.rdV t) (m - ys.length) (l.drop n))
  aside : Aside (fun i => i = R) w wr
  low : R < w.heap.size
  size : w.heap.size + 1 ≤ wr.heap.size
  len : ys.length ≤ m
theorem itsIn_start {w : World} {A R : Nat} {u : Array Value} {t : Ty} {m : Nat} {l : List UInt8} (hf : TFar w R u t) (h : Rdr w A R l) : ItsIn w (w.alloc (.cells u 61)) A R u t m l (Sch.rdN (Sch.rdV t) m l) [] (.slice none 0 0) := by
  have hb : Below w.heap.size w (w.alloc (.cells u 61)) := (Below.refl _ _).alloc (Nat.le_refl _) _
  refine ⟨⟨_, _, built_nil _ _⟩, blk_new w _, hf, ⟨0, h.on hb, ?_⟩, aside_new hb _, h.lt, by simp, Nat.zero_le _⟩
  rw [List.drop_zero, List.length_nil, Nat.sub_zero]
  cases Sch.rdN (Sch.rdV t) m l with
  | error e => rfl
  | ok p => simp [glue]
/-- one more -/
theorem ItsIn.next {w wr w2 w4 : World} {A R : Nat} {u : Array Value} {t : Ty} {m : Nat} {l : List UInt8} {r : Except Nat (List V × Nat)} {ys : List V} {v : Value} (h : ItsIn w wr A R u t m l r ys v) {us : Nat → Array Value} {Fs : Nat → Nat → Prop} (hbt : Built wr (w.heap.size + 1) v ys.length us Fs ys) {n j : Nat} {x : V} {u' : Array Value} (hlt : ys.length < m)
    (hl : r = glue ys n (Sch.rdN (Sch.rdV t) (m - ys.length) (l.drop n))) (hx : Sch.rdV t (l.drop n) = .ok (x, j)) (ha : Aside (fun i => i = R) wr w2) (hown : VOwn w2 (fun k => wr.heap.size ≤ k ∧ k < w2.heap.size) u' x) (hrd : Rdr w2 A R ((l.drop n).drop j)) :
    (w2.alloc (.cells u' 65)).ownsRow (w.heap.size + 1) 65 5 v ys.length (flat us ys.length) ∧
    ∀ g cap, w4.ownsRow (w.heap.size + 1) 65 5 (.slice (some ⟨g, 0, none⟩) (ys.length + 1) cap) (ys.length + 1) (flat us ys.length ++ u'.toList) → (w2.alloc (.cells u' 65)).grownBy w4 v.ownBlock → (v.ownBlock = some g ∨ g = (w2.alloc (.cells u' 65)).heap.size) →
      ItsIn w w4 A R u t m l r (ys ++ [x]) (.slice (some ⟨g, 0, none⟩) (ys.length + 1) cap) := by
  have hs := h.size
  have hlow := h.low
  have hs2 := ha.size
  have hb3 : Below w2.heap.size w2 (w2.alloc (.cells u' 65)) := (Below.refl _ _).alloc (Nat.le_refl _) _
  have hs3 := hb3.size
  obtain ⟨wx, hx1, hx2, hx3⟩ := ha.split (by omega)
  have hbx : Built wx (w.heap.size + 1) v ys.length us Fs ys := hbt.aside hx1 (fun g hg he => by have := (hbt.lt g hg).1; omega) (fun i hi k hk he => by have := (hbt.range i hi k hk).1; omega)
  refine ⟨((hbx.on hx3).on hb3).row, fun g cap hr hg hn => ?_⟩
  have hst := hbx.step hx3 hown (fun k hk => ⟨by rw [hx2]; exact hk.1, hk.2⟩) hb3 (by rw [hx2]; exact hs) hr hg hn
  have hs4 := hg.size
  have hv := fun k (hk : v.ownBlock = some k) => (hbx.lt k hk)
  have a34 : Aside (fun k => v.ownBlock = some k) w2 w4 := (aside_new hb3 _).trans (G := fun k => v.ownBlock = some k) ⟨hg.os, hg.tape, hg.output, hg.size, fun k hk hf => hg.block k hk (fun hc => hf hc.symm)⟩ (fun _ _ h => h)
  have keep : ∀ k, k ≤ w.heap.size → k ≠ R → w4.heap[k]? = wr.heap[k]? := fun k hk hne => by
    rw [a34.block k (by omega) (fun hc => by have := (hv k hc).1; omega), ha.block k (by omega) hne]
  have har : Aside (fun i => i = R) w w4 := by
    refine (h.aside.trans ha (fun _ _ h => h)).trans a34 (fun i hi hc => ?_)
    have := (hv i hc).1
    omega
  refine ⟨⟨_, _, by rw [List.length_append, List.length_singleton]; exact hst⟩, (keep _ (Nat.le_refl _) (by omega)).trans h.b0, ?_, ⟨n + j, ?_, ?_⟩, har, hlow, by omega, by rw [List.length_append, List.length_singleton]; omega⟩
  · exact h.far
  · rw [← List.drop_drop]
    exact hrd.aside a34 (fun k hk => by have := (hv k hk).1; omega)
  · rw [hl, show m - ys.length = (m - (ys ++ [x]).length) + 1 by rw [List.length_append, List.length_singleton]; omega, rdN_succ, hx, stepR, glue_glue, List.drop_drop]

set_option maxRecDepth 100000 in
set_option maxHeartbeats 2000000 in
theorem itemsK (t : Ty) (hv : ValOk t) (m : Nat) (hm : m ≤ 256) (l : List UInt8) (A R : Nat) (w : World) (u : Array Value) (hf : TFar w R u t) (h : Rdr w A R l) : Calls Tryz.prog 91 #[.pointer (some ⟨R, 0, none⟩), .int .i64 m, .agg u] w (RdA w A R l (Sch.rdN (Sch.rdV t) m l) (isIts w)) := by
  obtain ⟨k0, p0, n0, c0, hu⟩ := hf.shape
  have HS := Lib.hid (itsIn_start (m := m) hf h)
  have HV := Lib.hid hv
  have hlow := h.lt
  obtain ⟨r, hr⟩ : ∃ r, r = Sch.rdN (Sch.rdV t) m l := ⟨_, rfl⟩
  rw [← hr] at HS ⊢
  subst hu
  unfold cells2 at HS ⊢
  clear hr hf h hv
  go_enter Tryz.func91, Tryz.ntmps91
  go_wp2_with fail
  go_loopw [7, 9] (fun v7 v9 wr => ∃ (ys : List V) (q : Option Addr) (c : Nat), v9 = .int .i64 ys.length ∧ v7 = .slice q ys.length c ∧ ys.length ≤ m ∧ Hid (ItsIn w wr A R #[.int .i64 k0, .slice p0 n0 c0] t m l r ys (.slice q ys.length c))) (fun _ v9 _ => m - (intOf v9).toNat)
  case atStart => exact ⟨[], none, 0, rfl, rfl, Nat.zero_le _, HS.out⟩
  case round =>
    obtain ⟨ys, q, c, rfl, rfl, hyl, HI⟩ := hrel
    by_cases hlt : ys.length < m
    · have hj1 : (ys.length : Int) < (m : Int) := by omega
      have b0 : wr.cell? ⟨w.heap.size, 0, none⟩ = some (.int .i64 k0) := blk_cell HI.out.b0 0
      have b1 : wr.cell? ⟨w.heap.size, 1, none⟩ = some (.slice p0 n0 c0) := blk_cell HI.out.b0 1
      obtain ⟨n, hrd, hrr⟩ := HI.out.left
      obtain ⟨us, Fs, hbt⟩ := HI.out.built
      have HC := Lib.hid (HV.out (l.drop n) A R wr _ (HI.out.far.aside HI.out.aside) hrd)
      have HRr := Lib.hid hrr
      have HBt := Lib.hid hbt
      obtain ⟨mx, hmx⟩ : ∃ x, x = Sch.rdV t (l.drop n) := ⟨_, rfl⟩
      rw [← hmx] at HC
      have HMx := Lib.hid hmx
      clear hrd hrr hbt hmx
      cases mx with
      | error er =>
        have HRe : Hid (r = .error er) := by
          show _ = _
          rw [HRr.out, show m - ys.length = (m - ys.length - 1) + 1 by omega, rdN_succ, ← HMx.out]
          rfl
        go_wp2_with fail
        refine HC.out.mono ?_
        intro e w1 hh
        obtain ⟨he, ha⟩ := hh.bad
        subst he
        clear hh
        have HA := Lib.hid (HI.out.aside.trans ha (fun _ _ h => h))
        clear ha HC
        go_wp2
        rw [HRe.out]
        exact ⟨rfl, rfl, HA.out⟩
      | ok xj =>
        obtain ⟨x, j⟩ := xj
        go_wp2_with fail
        refine HC.out.mono ?_
        intro e w2 hh
        obtain ⟨v, he, hv, hrd, ha⟩ := hh.good
        obtain ⟨u', hv2, hown⟩ := hv.open
        clear hh hv
        obtain ⟨k', i', b', t', p', n', c', hu'⟩ := hown.shape
        subst hu'
        subst hv2
        subst he
        unfold cells5 at hown ⊢
        have HNx := Lib.hid (fun w4 => HI.out.next (w4 := w4) HBt.out hlt HRr.out HMx.out.symm ha hown hrd)
        have HOn := Lib.hid hown
        have hsz : w.heap.size + 1 ≤ w2.heap.size + 1 := by have := HI.out.size; have := ha.size; omega
        clear ha hrd hown HC b0 b1
        go_wp2_with (first
          | (at_builtin; refine wp_more (B := w.heap.size + 1) (us := us) (v := .slice q ys.length c) (n := ys.length) (HNx.out w2).1 (u := #[.int .i64 k', .int .i64 i', .float .f64 b', .string t', .slice p' n' c']) rfl (one5 HOn.out) (ad := w2.heap.size) (blk_new w2 _) (by omega) (by simpa using hsz) (H := w2.heap.size + 1) (by simp) rfl rfl rfl rfl ?_
             intro g2 cap2 w4 hr4 hg4 hn4
             have HI4 := Lib.hid ((HNx.out w4).2 g2 cap2 hr4 hg4 (by simpa using hn4))
             clear hr4 hg4 hn4))
        go_roundw
        case rel =>
          refine ⟨ys ++ [x], some ⟨g2, 0, none⟩, cap2, by simp, by simp, by simp; omega, ?_⟩
          have := HI4.out
          rw [List.length_append, List.length_singleton]
          exact this
        case measure => simp [intOf]; omega
    · have hjn : ¬ (ys.length : Int) < (m : Int) := by omega
      have hm0 : m - ys.length = 0 := by omega
      obtain ⟨n, hrd, hrr⟩ := HI.out.left
      obtain ⟨us, Fs, hbt⟩ := HI.out.built
      have HRok : Hid (r = .ok (ys, n)) := by
        show _ = _
        rw [hrr, hm0, Sch.rdN, glue, List.append_nil, Nat.add_zero]
      have HIts : Hid (isIts w ys (.slice q ys.length c) wr) := by
        refine ⟨q, c, rfl, fun k => ?_⟩
        obtain ⟨p2, c2, he, hown⟩ := hbt.done (by omega) k 0 0 ⟨#[]⟩
        injection he with e1 e2 e3
        subst e1 e3
        exact hown.mono (fun i hi => ⟨by omega, hi.2⟩)
      have HRd := Lib.hid hrd
      have HA := Lib.hid HI.out.aside
      clear hrd hrr hbt HI hm0
      go_wp2
      go_ret
      rw [HRok.out]
      exact ⟨_, rfl, HIts.out, HRd.out, HA.out⟩
end Go.Proofs.YtnlhpndjogjejaaGreatDoor

/- The landed schema's reader: value, of each kind. -/
namespace Go.Proofs.YtnlhpndjogjejaaGreatDoor
open Go.RowKit

attribute [local go_sem] run_store_float

theorem step_call1b {w : World} {ops : Array Oper} {o : Oper} {a : Act} {K : Act → World → Prop} {Q : Exit → Act → World → Prop} {E : Prop} {f : FuncId} {fn : Func} {code : Code} {u0 : Value} {R : Ending → World → Prop} (x : Operand) (t0 : TypeId)
    (hg : o.guard = none) (hop : o.op = Op.call { callee := .value (.func f), args := #[x], argTypes := #[t0] }) (hx : a.eval x = u0)
    (hf : Tryz.prog.funcs[f]? = some fn) (hname : (fn.name == "runtime.NumGoroutine") = false) (hb : fn.body = some code)
    (hc : Calls Tryz.prog f #[u0] w R) (hR : ∀ e w', R e w' → ∃ ch, e = .panicked ch ∧ Q (.panic ch) a w') (v' : Value) (_ : Hid False → K (a.put o.dst v') w) :
    if Region.wanted o (yielded ops a.tmps) = true then Oper.wp Tryz.prog o a w K Q else E := by
  have hw : Region.wanted o (yielded ops a.tmps) = true := by simp [Region.wanted, hg]
  rw [if_pos hw]
  have h1 : fn.name ≠ "runtime.NumGoroutine" := by simpa using hname
  unfold Oper.wp
  have he : (execOp a.eval o).run Tryz.prog w = .ok (.enter f #[u0]) w := by
    have hev : a.eval (.func f) = .func (.func f) #[] #[] := rfl
    simp [execOp, hop, resolve, invoke, hx, hev, Deferred.ofValue, callFunc, hf, h1, hb]
  rw [he, Oper.upon_enter]
  refine hc.mono ?_
  intro e w' hr
  obtain ⟨z, rfl, hk⟩ := hR e w' hr
  exact hk
theorem step_call1g {w : World} {ops : Array Oper} {o : Oper} {a : Act} {K : Act → World → Prop} {Q : Exit → Act → World → Prop} {E : Prop} {f : FuncId} {fn : Func} {code : Code} {u0 : Value} {R : Ending → World → Prop} (x : Operand) (t0 : TypeId)
    (hg : o.guard = none) (hop : o.op = Op.call { callee := .value (.func f), args := #[x], argTypes := #[t0] }) (hx : a.eval x = u0)
    (hf : Tryz.prog.funcs[f]? = some fn) (hname : (fn.name == "runtime.NumGoroutine") = false) (hb : fn.body = some code)
    (hc : Calls Tryz.prog f #[u0] w R) (hR : ∀ e w', R e w' → ∃ z, e = .returned z ∧ K (a.put o.dst z) w') :
    if Region.wanted o (yielded ops a.tmps) = true then Oper.wp Tryz.prog o a w K Q else E := by
  have hw : Region.wanted o (yielded ops a.tmps) = true := by simp [Region.wanted, hg]
  rw [if_pos hw]
  have h1 : fn.name ≠ "runtime.NumGoroutine" := by simpa using hname
  unfold Oper.wp
  have he : (execOp a.eval o).run Tryz.prog w = .ok (.enter f #[u0]) w := by
    have hev : a.eval (.func f) = .func (.func f) #[] #[] := rfl
    simp [execOp, hop, resolve, invoke, hx, hev, Deferred.ofValue, callFunc, hf, h1, hb]
  rw [he, Oper.upon_enter]
  refine hc.mono ?_
  intro e w' hr
  obtain ⟨z, rfl, hk⟩ := hR e w' hr
  exact hk
theorem step_call3b {w : World} {ops : Array Oper} {o : Oper} {a : Act} {K : Act → World → Prop} {Q : Exit → Act → World → Prop} {E : Prop} {f : FuncId} {fn : Func} {code : Code} {u0 u1 u2 : Value} {R : Ending → World → Prop} (x y z : Operand) (t0 t1 t2 : TypeId)
    (hg : o.guard = none) (hop : o.op = Op.call { callee := .value (.func f), args := #[x, y, z], argTypes := #[t0, t1, t2] }) (hx : a.eval x = u0) (hy : a.eval y = u1) (hz : a.eval z = u2)
    (hf : Tryz.prog.funcs[f]? = some fn) (hname : (fn.name == "runtime.NumGoroutine") = false) (hb : fn.body = some code)
    (hc : Calls Tryz.prog f #[u0, u1, u2] w R) (hR : ∀ e w', R e w' → ∃ ch, e = .panicked ch ∧ Q (.panic ch) a w') (v' : Value) (_ : Hid False → K (a.put o.dst v') w) :
    if Region.wanted o (yielded ops a.tmps) = true then Oper.wp Tryz.prog o a w K Q else E := by
  have hw : Region.wanted o (yielded ops a.tmps) = true := by simp [Region.wanted, hg]
  rw [if_pos hw]
  have h1 : fn.name ≠ "runtime.NumGoroutine" := by simpa using hname
  unfold Oper.wp
  have he : (execOp a.eval o).run Tryz.prog w = .ok (.enter f #[u0, u1, u2]) w := by
    have hev : a.eval (.func f) = .func (.func f) #[] #[] := rfl
    simp [execOp, hop, resolve, invoke, hx, hy, hz, hev, Deferred.ofValue, callFunc, hf, h1, hb]
  rw [he, Oper.upon_enter]
  refine hc.mono ?_
  intro e w' hr
  obtain ⟨z, rfl, hk⟩ := hR e w' hr
  exact hk
theorem step_call3g {w : World} {ops : Array Oper} {o : Oper} {a : Act} {K : Act → World → Prop} {Q : Exit → Act → World → Prop} {E : Prop} {f : FuncId} {fn : Func} {code : Code} {u0 u1 u2 : Value} {R : Ending → World → Prop} (x y z : Operand) (t0 t1 t2 : TypeId)
    (hg : o.guard = none) (hop : o.op = Op.call { callee := .value (.func f), args := #[x, y, z], argTypes := #[t0, t1, t2] }) (hx : a.eval x = u0) (hy : a.eval y = u1) (hz : a.eval z = u2)
    (hf : Tryz.prog.funcs[f]? = some fn) (hname : (fn.name == "runtime.NumGoroutine") = false) (hb : fn.body = some code)
    (hc : Calls Tryz.prog f #[u0, u1, u2] w R) (hR : ∀ e w', R e w' → ∃ z, e = .returned z ∧ K (a.put o.dst z) w') :
    if Region.wanted o (yielded ops a.tmps) = true then Oper.wp Tryz.prog o a w K Q else E := by
  have hw : Region.wanted o (yielded ops a.tmps) = true := by simp [Region.wanted, hg]
  rw [if_pos hw]
  have h1 : fn.name ≠ "runtime.NumGoroutine" := by simpa using hname
  unfold Oper.wp
  have he : (execOp a.eval o).run Tryz.prog w = .ok (.enter f #[u0, u1, u2]) w := by
    have hev : a.eval (.func f) = .func (.func f) #[] #[] := rfl
    simp [execOp, hop, resolve, invoke, hx, hy, hz, hev, Deferred.ofValue, callFunc, hf, h1, hb]
  rw [he, Oper.upon_enter]
  refine hc.mono ?_
  intro e w' hr
  obtain ⟨z, rfl, hk⟩ := hR e w' hr
  exact hk

/-- the value's own block holds D -/
structure ValD (w W : World) (A R : Nat) (D : Array Value) (l : List UInt8) : Prop where
  b1 : W.heap[w.heap.size + 1]? = some (.cells #[.int .i64 0, .int .i64 0, .float .f64 0, .string ⟨#[]⟩, .slice none 0 0] 65 (0, 0))
  b2 : W.heap[w.heap.size + 1 + 1]? = some (.cells D 65 (0, 0))
  rd : Rdr W A R l
  aside : Aside (fun i => i = R) w W
  size : w.heap.size + 3 ≤ W.heap.size
theorem ValIn.set {w W : World} {A R : Nat} {k : Int} {C0 : Array Value} {l : List UInt8} (h : ValIn w W A R k C0 l) (hR : R < w.heap.size) (m : Nat) (u : Value) : ValD w (W.setCell ⟨w.heap.size + 1 + 1, m, none⟩ u) A R ((#[.int .i64 k, .int .i64 0, .float .f64 0, .string ⟨#[]⟩, .slice none 0 0] : Array Value).set! m u) l := by
  have h2 : Aside (fun i => i = w.heap.size + 1 + 1) W (W.setCell ⟨w.heap.size + 1 + 1, m, none⟩ u) := aside_set _ _ _ _
  have hs := h.size
  refine ⟨?_, blk_set h.b2 m u, h.rd.aside h2 (fun j hj => by rw [hj]; omega), h.aside.trans h2 (fun j hj he => by rw [he] at hj; omega), Nat.le_trans hs h2.size⟩
  rw [h2.block _ (by omega) (by omega)]
  exact h.b1
theorem ValD.on {w W W' : World} {A R : Nat} {D : Array Value} {l : List UInt8} (h : ValD w W A R D l) (hb : Below W.heap.size W W') : ValD w W' A R D l := by
  have hs := h.size
  exact ⟨blk_on h.b1 hb (by omega), blk_on h.b2 hb (by omega), h.rd.on hb, h.aside.trans (aside_new hb (fun _ => False)) (fun _ _ h => h.elim), Nat.le_trans hs hb.size⟩

set_option maxRecDepth 100000 in
set_option maxHeartbeats 1000000 in
theorem value_4 (l : List UInt8) (A R : Nat) (w : World) (p : Option Addr) (n c : Nat) (h : Rdr w A R l) : Calls Tryz.prog 82 #[.pointer (some ⟨R, 0, none⟩), .agg #[.int .i64 4, .slice p n c]] w (RdA w A R l (Sch.scalar 4 l) (isV w)) := by
  have hR := h.lt
  obtain ⟨W, hW⟩ : ∃ W, W = ((w.alloc (.cells #[.int .i64 4, .slice p n c] 61)).alloc (.cells #[.int .i64 0, .int .i64 0, .float .f64 0, .string ⟨#[]⟩, .slice none 0 0] 65)).alloc (.cells #[.int .i64 4, .int .i64 0, .float .f64 0, .string ⟨#[]⟩, .slice none 0 0] 65) := ⟨_, rfl⟩
  have HI : Hid (ValIn w W A R 4 #[.int .i64 4, .slice p n c] l) := by rw [hW]; exact valIn_start 4 _ h
  have HW := Lib.hid hW
  obtain ⟨r, hr⟩ : ∃ r, r = Sch.scalar 4 l := ⟨_, rfl⟩
  have HR := Lib.hid (hr.trans (scalar_4 l))
  rw [← hr]
  have HC := Lib.hid (textK l A R W HI.out.rd)
  obtain ⟨m, hm⟩ : ∃ m, m = Sch.text 1024 2 l := ⟨_, rfl⟩
  rw [← hm] at HR HC
  have HM := Lib.hid hm
  clear hr hm h hW
  cases m with
  | error er =>
    have HR2 : Hid (r = .error er) := HR.out
    clear HR
    go_enter Tryz.func82, Tryz.ntmps82
    go_wp2_with fail
    rw [← HW.out]
    refine HC.out.mono ?_
    intro e w1 hh
    obtain ⟨he, ha⟩ := hh.bad
    subst he
    clear hh
    have HA := Lib.hid (HI.out.aside.trans ha (fun _ _ h => h))
    clear ha HC
    go_wp2
    rw [HR2.out]
    exact ⟨rfl, rfl, HA.out⟩
  | ok xj =>
    obtain ⟨x, j⟩ := xj
    have HR2 : Hid (r = if utfT x = false then .error 61 else .ok (.mk 4 0 0 x [], j)) := HR.out
    have hx : x.size ≤ 1024 := (Sch.text_ok HM.out.symm).1
    clear HR HM
    go_enter Tryz.func82, Tryz.ntmps82
    go_wp2_with fail
    rw [← HW.out]
    refine HC.out.mono ?_
    intro e w1 hh
    obtain ⟨v, he, hv, hrd, ha⟩ := hh.good
    clear hh
    replace hv : v = .string x := hv
    subst hv
    subst he
    have HI1 := Lib.hid (HI.out.step ha hrd hR)
    clear ha hrd HC HW HI
    have q3 : w1.cell? ⟨w.heap.size + 1 + 1, 3, none⟩ = some (.string ⟨#[]⟩) := blk_cell HI1.out.b2 3
    have qf3 := blk_free HI1.out.b2 3
    obtain ⟨W1, hW1⟩ : ∃ W1, W1 = w1.setCell ⟨w.heap.size + 1 + 1, 3, none⟩ (.string x) := ⟨_, rfl⟩
    have HD1 : Hid (ValD w W1 A R #[.int .i64 4, .int .i64 0, .float .f64 0, .string x, .slice none 0 0] (l.drop j)) := by rw [hW1]; exact HI1.out.set hR 3 (.string x)
    have HU := Lib.hid (utfK x (by omega) W1)
    have HW1 := Lib.hid hW1
    obtain ⟨ru, hru⟩ : ∃ b, b = utfT x := ⟨_, rfl⟩
    rw [← hru] at HU HR2
    clear hW1 hru
    go_wp2_with fail
    rw [← HW1.out]
    refine HU.out.mono ?_
    rintro e w2 ⟨rfl, hb2⟩
    have HD2 := Lib.hid (HD1.out.on hb2)
    clear hb2 HU HD1 HW1 q3 qf3 HI1
    cases ru with
    | false =>
      have HR3 : Hid (r = .error 61) := HR2.out.trans (if_pos (by first | rfl | trivial))
      clear HR2
      go_wp2_with fail
      refine (need_f _ 61 _).mono ?_
      rintro e w3 ⟨rfl, hw3⟩
      rw [hw3]
      clear hw3 w3
      go_wp2
      rw [HR3.out]
      exact ⟨rfl, rfl, HD2.out.aside⟩
    | true =>
      have HR3 : Hid (r = .ok (.mk 4 0 0 x [], j)) := HR2.out.trans (if_neg (by first | decide | simp))
      clear HR2
      go_wp2_with fail
      refine (need_t _ 61 _).mono ?_
      rintro e w3 ⟨rfl, hw3⟩
      rw [hw3]
      clear hw3 w3
      have q0 : w2.cell? ⟨w.heap.size + 1 + 1, 0, none⟩ = some (.int .i64 4) := blk_cell HD2.out.b2 0
      have q1 : w2.cell? ⟨w.heap.size + 1 + 1, 1, none⟩ = some (.int .i64 0) := blk_cell HD2.out.b2 1
      have q2 : w2.cell? ⟨w.heap.size + 1 + 1, 2, none⟩ = some (.float .f64 0) := blk_cell HD2.out.b2 2
      have q3 : w2.cell? ⟨w.heap.size + 1 + 1, 3, none⟩ = some (.string x) := blk_cell HD2.out.b2 3
      have q4 : w2.cell? ⟨w.heap.size + 1 + 1, 4, none⟩ = some (.slice none 0 0) := blk_cell HD2.out.b2 4
      have t0 : w2.cell? ⟨w.heap.size + 1, 0, none⟩ = some (.int .i64 0) := blk_cell HD2.out.b1 0
      have tf0 := blk_free HD2.out.b1 0
      have t1 : w2.cell? ⟨w.heap.size + 1, 1, none⟩ = some (.int .i64 0) := blk_cell HD2.out.b1 1
      have tf1 := blk_free HD2.out.b1 1
      have t2 : w2.cell? ⟨w.heap.size + 1, 2, none⟩ = some (.float .f64 0) := blk_cell HD2.out.b1 2
      have tf2 := blk_free HD2.out.b1 2
      have t3 : w2.cell? ⟨w.heap.size + 1, 3, none⟩ = some (.string ⟨#[]⟩) := blk_cell HD2.out.b1 3
      have tf3 := blk_free HD2.out.b1 3
      have t4 : w2.cell? ⟨w.heap.size + 1, 4, none⟩ = some (.slice none 0 0) := blk_cell HD2.out.b1 4
      have tf4 := blk_free HD2.out.b1 4
      have HFin := Lib.hid (finV (k := 4) (i := 0) (b := 0) (t := x) (q := none) (n := 0) (c := 0) (x := .mk 4 0 0 x []) (F := fun _ => False) (N := w.heap.size + 1) hR (by omega) HD2.out.b1 .none (fun _ h => h.elim) HD2.out.rd HD2.out.aside)
      go_wp2
      obtain ⟨f1, f2, f3, f4⟩ := HFin.out
      refine bodyPost_ret (v := .agg (cells5 4 0 0 x none 0 0)) (results_cell_row rfl _ _ (w.heap.size + 1) _ _ _ _ rfl f1 Tryz.underlying65 rfl (by kernel_rfl)) rfl ?_
      rw [HR3.out]
      exact ⟨_, rfl, f2, f3, f4⟩
end Go.Proofs.YtnlhpndjogjejaaGreatDoor

/- The landed schema's reader: value, of kinds that have items; of each kind. -/
namespace Go.Proofs.YtnlhpndjogjejaaGreatDoor
open Go.RowKit

attribute [local go_sem] run_store_float

theorem many_6 (l : List UInt8) : Sch.many 6 l = Sch.bit l := rfl
theorem many_7 (l : List UInt8) : Sch.many 7 l = countR 256 3 l := by
  unfold Sch.many countR
  rw [if_neg (by decide)]
  rfl
theorem rdV_67 (k : Int) (h : k = 6 ∨ k = 7) (x : Ty) (l : List UInt8) : Sch.rdV (.mk k [x]) l = thenR (Sch.many k l) fun m j => thenR (Sch.rdN (Sch.rdV x) m (l.drop j)) fun vs j2 => .ok (.mk k 0 0 ⟨#[]⟩ vs, j + j2) := by
  rw [Sch.rdV_mk, if_neg (by omega)]
  cases Sch.many k l with
  | error e => rfl
  | ok p =>
    obtain ⟨m, j⟩ := p
    rw [thenR_ok]
    have e : (([x] : List Ty).map Sch.rdV).headD (fun _ => .error 0) = Sch.rdV x := rfl
    dsimp only
    rw [e]
    cases Sch.rdN (Sch.rdV x) m (l.drop j) with
    | error e => rfl
    | ok q => rfl
theorem count_le {most er : Nat} {l : List UInt8} {n k : Nat} (h : countR most er l = .ok (n, k)) : n ≤ most := by
  unfold countR at h
  split at h
  · cases h
  · split at h
    · cases h
    · injection h with h
      injection h with h1 _
      omega

set_option maxRecDepth 100000 in
set_option maxHeartbeats 2000000 in
theorem value_6 (x : Ty) (hx : ValOk x) (l : List UInt8) (A R : Nat) (w : World) (u : Array Value) (hf : TFar w R u (.mk 6 [x])) (h : Rdr w A R l) : Calls Tryz.prog 82 #[.pointer (some ⟨R, 0, none⟩), .agg u] w (RdA w A R l (Sch.rdV (.mk 6 [x]) l) (isV w)) := by
  have hR := h.lt
  obtain ⟨g, off, c, k', q', n', c', rfl, hfx, hRg, hgw, y0, y1⟩ := hf.one
  unfold cells2
  obtain ⟨W, hW⟩ : ∃ W, W = ((w.alloc (.cells #[.int .i64 6, .slice (some ⟨g, off, none⟩) 1 c] 61)).alloc (.cells #[.int .i64 0, .int .i64 0, .float .f64 0, .string ⟨#[]⟩, .slice none 0 0] 65)).alloc (.cells #[.int .i64 6, .int .i64 0, .float .f64 0, .string ⟨#[]⟩, .slice none 0 0] 65) := ⟨_, rfl⟩
  have HI : Hid (ValIn w W A R 6 #[.int .i64 6, .slice (some ⟨g, off, none⟩) 1 c] l) := by rw [hW]; exact valIn_start 6 _ h
  have HW := Lib.hid hW
  obtain ⟨r, hr⟩ : ∃ r, r = Sch.rdV (.mk 6 [x]) l := ⟨_, rfl⟩
  have HR0 := Lib.hid (hr.trans (rdV_67 6 (by omega) x l))
  rw [← hr]
  have HR : Hid (r = thenR (Sch.bit l) fun m j => thenR (Sch.rdN (Sch.rdV x) m (l.drop j)) fun vs j2 => .ok (.mk 6 0 0 ⟨#[]⟩ vs, j + j2)) := by show _ = _; rw [HR0.out, many_6]
  have HC : Hid (Calls Tryz.prog 81 #[.pointer (some ⟨R, 0, none⟩)] W.drew (RdA W A R l (Sch.bit l) isI)) := (flagK l A R W.drew HI.out.rd.drew).mono fun _ _ h => h.undrew
  have HFx := Lib.hid hfx
  have HX := Lib.hid hx
  -- the cells that are read, wherever only the reader has changed
  have HCells : Hid (∀ W', Aside (fun i => i = R) W W' → W'.cell? ⟨w.heap.size, 1, none⟩ = some (.slice (some ⟨g, off, none⟩) 1 c) ∧ W'.cell? ⟨g, off, none⟩ = some (.int .i64 k') ∧ W'.cell? ⟨g, off + 1, none⟩ = some (.slice q' n' c')) := fun W' ha => by
    have hs := HI.out.size
    have hgW : g < W.heap.size := by omega
    refine ⟨?_, ?_, ?_⟩
    · rw [ha.cell (show w.heap.size < W.heap.size by omega) (show ¬ w.heap.size = R by omega)]; exact blk_cell HI.out.b0 1
    · rw [ha.cell (show g < W.heap.size from hgW) (show ¬ g = R by omega), HI.out.aside.cell hgw (show ¬ g = R by omega)]; exact y0
    · rw [ha.cell (show g < W.heap.size from hgW) (show ¬ g = R by omega), HI.out.aside.cell hgw (show ¬ g = R by omega)]; exact y1
  obtain ⟨x1, x2, x3⟩ := HCells.out W (Aside.refl _ _)
  have q4 : W.cell? ⟨w.heap.size + 1 + 1, 4, none⟩ = some (.slice none 0 0) := blk_cell HI.out.b2 4
  have qf4 := blk_free HI.out.b2 4
  obtain ⟨m0, hm0⟩ : ∃ m, m = Sch.bit l := ⟨_, rfl⟩
  rw [← hm0] at HR HC
  have HM := Lib.hid hm0
  clear hr hm0 h hW hfx hx y0 y1 hf HR0
  cases m0 with
  | error er =>
    have HErr : Hid (∀ w2, Aside (fun i => i = R) W w2 → RdA w A R l r (isV w) (.panicked (errV er)) w2) := fun w2 ha => by
      have e : r = .error er := HR.out
      rw [e]
      exact ⟨rfl, HI.out.aside.trans ha (fun _ _ h => h)⟩
    clear HR
    go_enter Tryz.func82, Tryz.ntmps82
    go_wp2_with fail
    rw [← HW.out]
    go_region_law (first
      | (refine step_call1b (.tmp 45) 120 (by rfl) (by rfl) (by rfl) Tryz.func81 (by kernel_rfl) (by rfl) HC.out (fun e w2 hh => ⟨_, hh.bad.1, rfl, HErr.out w2 hh.bad.2⟩) (.int .i64 0) ?_
         intro HF)
      | (refine step_never HF (.slice none 0 0) ?_))
    all_goals exact HF.out.elim
  | ok mj =>
    obtain ⟨m, j⟩ := mj
    have hm256 : m ≤ 256 := by have := (Sch.bit_ok HM.out.symm).1; omega
    have HR2 : Hid (r = thenR (Sch.rdN (Sch.rdV x) m (l.drop j)) fun vs j2 => .ok (.mk 6 0 0 ⟨#[]⟩ vs, j + j2)) := HR.out
    have HCi := Lib.hid (fun w1 (ha : Aside (fun i => i = R) W w1) (hrd : Rdr w1 A R (l.drop j)) => itemsK x HX.out m hm256 (l.drop j) A R w1 _ ((HFx.out.aside HI.out.aside).aside ha) hrd)
    unfold cells2 at HCi
    obtain ⟨m1, hm1⟩ : ∃ m1, m1 = Sch.rdN (Sch.rdV x) m (l.drop j) := ⟨_, rfl⟩
    rw [← hm1] at HR2 HCi
    clear HR hm1 HM HX HFx
    cases m1 with
    | error er =>
      have HErr : Hid (∀ w1 w2, Aside (fun i => i = R) W w1 → Aside (fun i => i = R) w1 w2 → RdA w A R l r (isV w) (.panicked (errV er)) w2) := fun w1 w2 ha ha2 => by
        have e : r = .error er := HR2.out
        rw [e]
        exact ⟨rfl, (HI.out.aside.trans ha (fun _ _ h => h)).trans ha2 (fun _ _ h => h)⟩
      clear HR2
      go_enter Tryz.func82, Tryz.ntmps82
      go_wp2_with fail
      rw [← HW.out]
      go_region_law (first
        | (refine step_call1g (.tmp 45) 120 (by rfl) (by rfl) (by rfl) Tryz.func81 (by kernel_rfl) (by rfl) HC.out ?_
           intro e w1 hh
           obtain ⟨v, he, hv, hrd, ha⟩ := hh.good
           clear hh
           replace hv : v = .int .i64 (m : Nat) := hv
           subst hv
           refine ⟨_, he, ?_⟩
           clear he
           have HA1 := Lib.hid ha
           have HRd1 := Lib.hid hrd
           obtain ⟨x1', x2', x3'⟩ := HCells.out w1 ha
           have HI1 := Lib.hid (HI.out.step ha hrd hR)
           have q4' : w1.cell? ⟨w.heap.size + 1 + 1, 4, none⟩ = some (.slice none 0 0) := blk_cell HI1.out.b2 4
           have qf4' := blk_free HI1.out.b2 4
           clear ha hrd)
        | (refine step_call3b (.tmp 44) (.tmp 46) (.tmp 50) 120 3 61 (by rfl) (by rfl) (by rfl) (by rfl) (by rfl) Tryz.func91 (by kernel_rfl) (by rfl) (HCi.out w1 HA1.out HRd1.out) (fun e w2 hh => ⟨_, hh.bad.1, rfl, HErr.out w1 w2 HA1.out hh.bad.2⟩) (.slice none 0 0) ?_
           intro HF))
      all_goals exact HF.out.elim
    | ok vj =>
      obtain ⟨vs, j2⟩ := vj
      have HRok : Hid (r = .ok (.mk 6 0 0 ⟨#[]⟩ vs, j + j2)) := HR2.out
      clear HR2
      go_enter Tryz.func82, Tryz.ntmps82
      go_wp2_with fail
      rw [← HW.out]
      go_region_law (first
        | (refine step_call1g (.tmp 45) 120 (by rfl) (by rfl) (by rfl) Tryz.func81 (by kernel_rfl) (by rfl) HC.out ?_
           intro e w1 hh
           obtain ⟨v, he, hv, hrd, ha⟩ := hh.good
           clear hh
           replace hv : v = .int .i64 (m : Nat) := hv
           subst hv
           refine ⟨_, he, ?_⟩
           clear he
           have HA1 := Lib.hid ha
           have HRd1 := Lib.hid hrd
           obtain ⟨x1', x2', x3'⟩ := HCells.out w1 ha
           have HI1 := Lib.hid (HI.out.step ha hrd hR)
           clear ha hrd)
        | (refine step_call3g (.tmp 44) (.tmp 46) (.tmp 50) 120 3 61 (by rfl) (by rfl) (by rfl) (by rfl) (by rfl) Tryz.func91 (by kernel_rfl) (by rfl) (HCi.out w1 HA1.out HRd1.out) ?_
           intro e w2 hh
           obtain ⟨v, he, hv, hrd, ha⟩ := hh.good
           obtain ⟨qi, ci, hv2, hown⟩ := hv.open
           clear hh hv
           subst hv2
           refine ⟨_, he, ?_⟩
           clear he
           have HI2 := Lib.hid (HI1.out.step ha hrd hR)
           have HOn := Lib.hid hown
           have hs1 := HI1.out.size
           have hs2 := ha.size
           have z4 : w2.cell? ⟨w.heap.size + 1 + 1, 4, none⟩ = some (.slice none 0 0) := blk_cell HI2.out.b2 4
           have zf4 := blk_free HI2.out.b2 4
           clear ha hrd hown))
      all_goals
        have HD := Lib.hid (HI2.out.set hR 4 (.slice qi vs.length ci))
        have HFin := Lib.hid (finV (k := 6) (i := 0) (b := 0) (t := ⟨#[]⟩) (q := qi) (n := vs.length) (c := ci) (x := .mk 6 0 0 ⟨#[]⟩ vs) (N := w.heap.size + 1) hR (by omega) HD.out.b1 ((HOn.out 6).aside (aside_set w2 (w.heap.size + 1 + 1) 4 (.slice qi vs.length ci)) (fun i hi he => by omega)) (fun i hi => ⟨by omega, by have := (aside_set w2 (w.heap.size + 1 + 1) 4 (.slice qi vs.length ci)).size; omega⟩) HD.out.rd HD.out.aside)
        have z0 : w2.cell? ⟨w.heap.size + 1 + 1, 0, none⟩ = some (.int .i64 6) := blk_cell HI2.out.b2 0
        have z1 : w2.cell? ⟨w.heap.size + 1 + 1, 1, none⟩ = some (.int .i64 0) := blk_cell HI2.out.b2 1
        have z2 : w2.cell? ⟨w.heap.size + 1 + 1, 2, none⟩ = some (.float .f64 0) := blk_cell HI2.out.b2 2
        have z3 : w2.cell? ⟨w.heap.size + 1 + 1, 3, none⟩ = some (.string ⟨#[]⟩) := blk_cell HI2.out.b2 3
        have t0 : w2.cell? ⟨w.heap.size + 1, 0, none⟩ = some (.int .i64 0) := blk_cell HI2.out.b1 0
        have tf0 := blk_free HI2.out.b1 0
        have t1 : w2.cell? ⟨w.heap.size + 1, 1, none⟩ = some (.int .i64 0) := blk_cell HI2.out.b1 1
        have tf1 := blk_free HI2.out.b1 1
        have t2 : w2.cell? ⟨w.heap.size + 1, 2, none⟩ = some (.float .f64 0) := blk_cell HI2.out.b1 2
        have tf2 := blk_free HI2.out.b1 2
        have t3 : w2.cell? ⟨w.heap.size + 1, 3, none⟩ = some (.string ⟨#[]⟩) := blk_cell HI2.out.b1 3
        have tf3 := blk_free HI2.out.b1 3
        have t4 : w2.cell? ⟨w.heap.size + 1, 4, none⟩ = some (.slice none 0 0) := blk_cell HI2.out.b1 4
        have tf4 := blk_free HI2.out.b1 4
        clear x1 x2 x3 q4 qf4 x1' x2' x3'
        go_wp2
        obtain ⟨f1, f2, f3, f4⟩ := HFin.out
        refine bodyPost_ret (v := .agg (cells5 6 0 0 ⟨#[]⟩ qi vs.length ci)) (results_cell_row rfl _ _ (w.heap.size + 1) _ _ _ _ rfl f1 Tryz.underlying65 rfl (by kernel_rfl)) rfl ?_
        rw [HRok.out]
        refine ⟨_, rfl, f2, ?_, f4⟩
        rw [← List.drop_drop]
        exact f3

set_option maxRecDepth 100000 in
set_option maxHeartbeats 2000000 in
theorem value_7 (x : Ty) (hx : ValOk x) (l : List UInt8) (A R : Nat) (w : World) (u : Array Value) (hf : TFar w R u (.mk 7 [x])) (h : Rdr w A R l) : Calls Tryz.prog 82 #[.pointer (some ⟨R, 0, none⟩), .agg u] w (RdA w A R l (Sch.rdV (.mk 7 [x]) l) (isV w)) := by
  have hR := h.lt
  obtain ⟨g, off, c, k', q', n', c', rfl, hfx, hRg, hgw, y0, y1⟩ := hf.one
  unfold cells2
  obtain ⟨W, hW⟩ : ∃ W, W = ((w.alloc (.cells #[.int .i64 7, .slice (some ⟨g, off, none⟩) 1 c] 61)).alloc (.cells #[.int .i64 0, .int .i64 0, .float .f64 0, .string ⟨#[]⟩, .slice none 0 0] 65)).alloc (.cells #[.int .i64 7, .int .i64 0, .float .f64 0, .string ⟨#[]⟩, .slice none 0 0] 65) := ⟨_, rfl⟩
  have HI : Hid (ValIn w W A R 7 #[.int .i64 7, .slice (some ⟨g, off, none⟩) 1 c] l) := by rw [hW]; exact valIn_start 7 _ h
  have HW := Lib.hid hW
  obtain ⟨r, hr⟩ : ∃ r, r = Sch.rdV (.mk 7 [x]) l := ⟨_, rfl⟩
  have HR0 := Lib.hid (hr.trans (rdV_67 7 (by omega) x l))
  rw [← hr]
  have HR : Hid (r = thenR (countR 256 3 l) fun m j => thenR (Sch.rdN (Sch.rdV x) m (l.drop j)) fun vs j2 => .ok (.mk 7 0 0 ⟨#[]⟩ vs, j + j2)) := by show _ = _; rw [HR0.out, many_7]
  have HC : Hid (Calls Tryz.prog 70 #[.pointer (some ⟨R, 0, none⟩), .int .u64 256, .int .i64 3] W.drew (RdA W A R l (countR 256 3 l) isI)) := (countK 256 3 (by omega) l A R W.drew HI.out.rd.drew).mono fun _ _ h => h.undrew
  have HFx := Lib.hid hfx
  have HX := Lib.hid hx
  -- the cells that are read, wherever only the reader has changed
  have HCells : Hid (∀ W', Aside (fun i => i = R) W W' → W'.cell? ⟨w.heap.size, 1, none⟩ = some (.slice (some ⟨g, off, none⟩) 1 c) ∧ W'.cell? ⟨g, off, none⟩ = some (.int .i64 k') ∧ W'.cell? ⟨g, off + 1, none⟩ = some (.slice q' n' c')) := fun W' ha => by
    have hs := HI.out.size
    have hgW : g < W.heap.size := by omega
    refine ⟨?_, ?_, ?_⟩
    · rw [ha.cell (show w.heap.size < W.heap.size by omega) (show ¬ w.heap.size = R by omega)]; exact blk_cell HI.out.b0 1
    · rw [ha.cell (show g < W.heap.size from hgW) (show ¬ g = R by omega), HI.out.aside.cell hgw (show ¬ g = R by omega)]; exact y0
    · rw [ha.cell (show g < W.heap.size from hgW) (show ¬ g = R by omega), HI.out.aside.cell hgw (show ¬ g = R by omega)]; exact y1
  obtain ⟨x1, x2, x3⟩ := HCells.out W (Aside.refl _ _)
  have q4 : W.cell? ⟨w.heap.size + 1 + 1, 4, none⟩ = some (.slice none 0 0) := blk_cell HI.out.b2 4
  have qf4 := blk_free HI.out.b2 4
  obtain ⟨m0, hm0⟩ : ∃ m, m = countR 256 3 l := ⟨_, rfl⟩
  rw [← hm0] at HR HC
  have HM := Lib.hid hm0
  clear hr hm0 h hW hfx hx y0 y1 hf HR0
  cases m0 with
  | error er =>
    have HErr : Hid (∀ w2, Aside (fun i => i = R) W w2 → RdA w A R l r (isV w) (.panicked (errV er)) w2) := fun w2 ha => by
      have e : r = .error er := HR.out
      rw [e]
      exact ⟨rfl, HI.out.aside.trans ha (fun _ _ h => h)⟩
    clear HR
    go_enter Tryz.func82, Tryz.ntmps82
    go_wp2_with fail
    rw [← HW.out]
    go_region_law (first
      | (refine step_call3b (.tmp 56) (.const (.int .u64 256)) (.const (.int .i64 3)) 120 82 31 (by rfl) (by rfl) (by rfl) (by rfl) (by rfl) Tryz.func70 (by kernel_rfl) (by rfl) HC.out (fun e w2 hh => ⟨_, hh.bad.1, rfl, HErr.out w2 hh.bad.2⟩) (.int .i64 0) ?_
         intro HF)
      | (refine step_never HF (.slice none 0 0) ?_))
    all_goals exact HF.out.elim
  | ok mj =>
    obtain ⟨m, j⟩ := mj
    have hm256 : m ≤ 256 := count_le HM.out.symm
    have HR2 : Hid (r = thenR (Sch.rdN (Sch.rdV x) m (l.drop j)) fun vs j2 => .ok (.mk 7 0 0 ⟨#[]⟩ vs, j + j2)) := HR.out
    have HCi := Lib.hid (fun w1 (ha : Aside (fun i => i = R) W w1) (hrd : Rdr w1 A R (l.drop j)) => itemsK x HX.out m hm256 (l.drop j) A R w1 _ ((HFx.out.aside HI.out.aside).aside ha) hrd)
    unfold cells2 at HCi
    obtain ⟨m1, hm1⟩ : ∃ m1, m1 = Sch.rdN (Sch.rdV x) m (l.drop j) := ⟨_, rfl⟩
    rw [← hm1] at HR2 HCi
    clear HR hm1 HM HX HFx
    cases m1 with
    | error er =>
      have HErr : Hid (∀ w1 w2, Aside (fun i => i = R) W w1 → Aside (fun i => i = R) w1 w2 → RdA w A R l r (isV w) (.panicked (errV er)) w2) := fun w1 w2 ha ha2 => by
        have e : r = .error er := HR2.out
        rw [e]
        exact ⟨rfl, (HI.out.aside.trans ha (fun _ _ h => h)).trans ha2 (fun _ _ h => h)⟩
      clear HR2
      go_enter Tryz.func82, Tryz.ntmps82
      go_wp2_with fail
      rw [← HW.out]
      go_region_law (first
        | (refine step_call3g (.tmp 56) (.const (.int .u64 256)) (.const (.int .i64 3)) 120 82 31 (by rfl) (by rfl) (by rfl) (by rfl) (by rfl) Tryz.func70 (by kernel_rfl) (by rfl) HC.out ?_
           intro e w1 hh
           obtain ⟨v, he, hv, hrd, ha⟩ := hh.good
           clear hh
           replace hv : v = .int .i64 (m : Nat) := hv
           subst hv
           refine ⟨_, he, ?_⟩
           clear he
           have HA1 := Lib.hid ha
           have HRd1 := Lib.hid hrd
           obtain ⟨x1', x2', x3'⟩ := HCells.out w1 ha
           have HI1 := Lib.hid (HI.out.step ha hrd hR)
           have q4' : w1.cell? ⟨w.heap.size + 1 + 1, 4, none⟩ = some (.slice none 0 0) := blk_cell HI1.out.b2 4
           have qf4' := blk_free HI1.out.b2 4
           clear ha hrd)
        | (refine step_call3b (.tmp 55) (.tmp 57) (.tmp 61) 120 3 61 (by rfl) (by rfl) (by rfl) (by rfl) (by rfl) Tryz.func91 (by kernel_rfl) (by rfl) (HCi.out w1 HA1.out HRd1.out) (fun e w2 hh => ⟨_, hh.bad.1, rfl, HErr.out w1 w2 HA1.out hh.bad.2⟩) (.slice none 0 0) ?_
           intro HF))
      all_goals exact HF.out.elim
    | ok vj =>
      obtain ⟨vs, j2⟩ := vj
      have HRok : Hid (r = .ok (.mk 7 0 0 ⟨#[]⟩ vs, j + j2)) := HR2.out
      clear HR2
      go_enter Tryz.func82, Tryz.ntmps82
      go_wp2_with fail
      rw [← HW.out]
      go_region_law (first
        | (refine step_call3g (.tmp 56) (.const (.int .u64 256)) (.const (.int .i64 3)) 120 82 31 (by rfl) (by rfl) (by rfl) (by rfl) (by rfl) Tryz.func70 (by kernel_rfl) (by rfl) HC.out ?_
           intro e w1 hh
           obtain ⟨v, he, hv, hrd, ha⟩ := hh.good
           clear hh
           replace hv : v = .int .i64 (m : Nat) := hv
           subst hv
           refine ⟨_, he, ?_⟩
           clear he
           have HA1 := Lib.hid ha
           have HRd1 := Lib.hid hrd
           obtain ⟨x1', x2', x3'⟩ := HCells.out w1 ha
           have HI1 := Lib.hid (HI.out.step ha hrd hR)
           clear ha hrd)
        | (refine step_call3g (.tmp 55) (.tmp 57) (.tmp 61) 120 3 61 (by rfl) (by rfl) (by rfl) (by rfl) (by rfl) Tryz.func91 (by kernel_rfl) (by rfl) (HCi.out w1 HA1.out HRd1.out) ?_
           intro e w2 hh
           obtain ⟨v, he, hv, hrd, ha⟩ := hh.good
           obtain ⟨qi, ci, hv2, hown⟩ := hv.open
           clear hh hv
           subst hv2
           refine ⟨_, he, ?_⟩
           clear he
           have HI2 := Lib.hid (HI1.out.step ha hrd hR)
           have HOn := Lib.hid hown
           have hs1 := HI1.out.size
           have hs2 := ha.size
           have z4 : w2.cell? ⟨w.heap.size + 1 + 1, 4, none⟩ = some (.slice none 0 0) := blk_cell HI2.out.b2 4
           have zf4 := blk_free HI2.out.b2 4
           clear ha hrd hown))
      all_goals
        have HD := Lib.hid (HI2.out.set hR 4 (.slice qi vs.length ci))
        have HFin := Lib.hid (finV (k := 7) (i := 0) (b := 0) (t := ⟨#[]⟩) (q := qi) (n := vs.length) (c := ci) (x := .mk 7 0 0 ⟨#[]⟩ vs) (N := w.heap.size + 1) hR (by omega) HD.out.b1 ((HOn.out 7).aside (aside_set w2 (w.heap.size + 1 + 1) 4 (.slice qi vs.length ci)) (fun i hi he => by omega)) (fun i hi => ⟨by omega, by have := (aside_set w2 (w.heap.size + 1 + 1) 4 (.slice qi vs.length ci)).size; omega⟩) HD.out.rd HD.out.aside)
        have z0 : w2.cell? ⟨w.heap.size + 1 + 1, 0, none⟩ = some (.int .i64 7) := blk_cell HI2.out.b2 0
        have z1 : w2.cell? ⟨w.heap.size + 1 + 1, 1, none⟩ = some (.int .i64 0) := blk_cell HI2.out.b2 1
        have z2 : w2.cell? ⟨w.heap.size + 1 + 1, 2, none⟩ = some (.float .f64 0) := blk_cell HI2.out.b2 2
        have z3 : w2.cell? ⟨w.heap.size + 1 + 1, 3, none⟩ = some (.string ⟨#[]⟩) := blk_cell HI2.out.b2 3
        have t0 : w2.cell? ⟨w.heap.size + 1, 0, none⟩ = some (.int .i64 0) := blk_cell HI2.out.b1 0
        have tf0 := blk_free HI2.out.b1 0
        have t1 : w2.cell? ⟨w.heap.size + 1, 1, none⟩ = some (.int .i64 0) := blk_cell HI2.out.b1 1
        have tf1 := blk_free HI2.out.b1 1
        have t2 : w2.cell? ⟨w.heap.size + 1, 2, none⟩ = some (.float .f64 0) := blk_cell HI2.out.b1 2
        have tf2 := blk_free HI2.out.b1 2
        have t3 : w2.cell? ⟨w.heap.size + 1, 3, none⟩ = some (.string ⟨#[]⟩) := blk_cell HI2.out.b1 3
        have tf3 := blk_free HI2.out.b1 3
        have t4 : w2.cell? ⟨w.heap.size + 1, 4, none⟩ = some (.slice none 0 0) := blk_cell HI2.out.b1 4
        have tf4 := blk_free HI2.out.b1 4
        clear x1 x2 x3 q4 qf4 x1' x2' x3'
        go_wp2
        obtain ⟨f1, f2, f3, f4⟩ := HFin.out
        refine bodyPost_ret (v := .agg (cells5 7 0 0 ⟨#[]⟩ qi vs.length ci)) (results_cell_row rfl _ _ (w.heap.size + 1) _ _ _ _ rfl f1 Tryz.underlying65 rfl (by kernel_rfl)) rfl ?_
        rw [HRok.out]
        refine ⟨_, rfl, f2, ?_, f4⟩
        rw [← List.drop_drop]
        exact f3

theorem valueK : ∀ (t : Ty) (d : Nat), Ty.check d t = 0 → ValOk t := by
  intro t
  refine Ty.ind (P := fun t => ∀ d, Ty.check d t = 0 → ValOk t) ?_ t
  intro k xs ih d hd l A R w u hf h
  obtain ⟨-, hk, hct⟩ := Sch.ty_open hd
  rcases hct with ⟨h6, rfl⟩ | ⟨h6, x, rfl, hx⟩
  · obtain ⟨k', p, n, c, rfl⟩ := hf.shape
    obtain ⟨F, hown, -⟩ := hf.out
    have hkk : k' = k := by
      obtain ⟨p2, c2, he, -⟩ := hown.lies.open
      simp only [cells2] at he
      injection he with he
      injection he with he _
      injection he with _ he
    subst hkk
    rw [Sch.rdV_mk, if_pos (by omega)]
    unfold cells2
    have hcase : k' = 1 ∨ k' = 2 ∨ k' = 3 ∨ k' = 4 ∨ k' = 5 := by omega
    rcases hcase with rfl | rfl | rfl | rfl | rfl
    · exact value_1 l A R w p n c h
    · exact value_2 l A R w p n c h
    · exact value_3 l A R w p n c h
    · exact value_4 l A R w p n c h
    · exact value_5 l A R w p n c h
  · rcases h6 with rfl | rfl
    · exact value_6 x (ih x (by simp) (d + 1) hx) l A R w u hf h
    · exact value_7 x (ih x (by simp) (d + 1) hx) l A R w u hf h
end Go.Proofs.YtnlhpndjogjejaaGreatDoor

/- The landed schema's reader: column. -/
namespace Go.Proofs.YtnlhpndjogjejaaGreatDoor
open Go.RowKit

attribute [local go_sem] run_store_float

/-- a column behind its name -/
def colR (s : ByteArray) (l : List UInt8) : Except Nat (Col × Nat) := thenR (Sch.rdT 4 l) fun t j2 => thenR (Sch.bit (l.drop j2)) fun h j3 => if h = 0 then .ok (⟨s, t, false, V0⟩, j2 + j3) else thenR (Sch.rdV t (l.drop (j2 + j3))) fun v j4 => .ok (⟨s, t, true, v⟩, j2 + j3 + j4)
/-- a column in blocks that are new since w -/
def isC (w : World) (c : Col) (v : Value) (w' : World) : Prop := ∃ u, v = .agg u ∧ COwn w' (fun k => w.heap.size ≤ k ∧ k < w'.heap.size) u c
theorem isC.open {w w' : World} {c : Col} {v : Value} (h : isC w c v w') : ∃ u, v = .agg u ∧ COwn w' (fun k => w.heap.size ≤ k ∧ k < w'.heap.size) u c := h
/-- the answer is laid into its place -/
theorem finC {w wr : World} {A R : Nat} {n : ByteArray} {k : Int} {tp : Option Addr} {tn tc : Nat} {h : Bool} {vk vi : Int} {vb : Nat} {vt : ByteArray} {vp : Option Addr} {vn vc : Nat} {c : Col} {F : Nat → Prop} {l : List UInt8} (hR : R < w.heap.size) (bN : wr.heap[w.heap.size]? = some (.cells #[.string ⟨#[]⟩, .int .i64 0, .slice none 0 0, .bool false, .int .i64 0, .int .i64 0, .float .f64 0, .string ⟨#[]⟩, .slice none 0 0] 67 (0, 0))) (hs : w.heap.size + 1 ≤ wr.heap.size)
    (hown : COwn wr F (cells9 n k tp tn tc h vk vi vb vt vp vn vc) c) (hF : ∀ j, F j → w.heap.size + 1 ≤ j ∧ j < wr.heap.size) (hrd : Rdr wr A R l) (ha : Aside (fun i => i = R) w wr) {P : World} (hP : P = put9 wr w.heap.size n k (.slice tp tn tc) h vk vi vb vt (.slice vp vn vc)) :
    P.heap[w.heap.size]? = some (.cells (cells9 n k tp tn tc h vk vi vb vt vp vn vc) 67 (0, 0)) ∧ isC w c (.agg (cells9 n k tp tn tc h vk vi vb vt vp vn vc)) P ∧ Rdr P A R l ∧ Aside (fun i => i = R) w P := by
  obtain ⟨wx, hx1, hx2, hx3⟩ := ha.split hR
  obtain ⟨h1, h2, h3⟩ := put9_fin (w := wx) (w1 := wr) (by rw [hx2]; exact bN) hx3 (by rw [hx2]; exact hs) hown (by rw [hx2]; exact hF)
  rw [hx2] at h1 h2 h3
  rw [← hP] at h1 h2 h3
  refine ⟨h1, ⟨_, rfl, h2⟩, hrd.keep (fun j hj => ?_) ?_, hx1.trans (aside_new (by rw [hx2]; exact h3) (fun _ => False)) (fun _ _ h => h.elim)⟩
  · rw [h3.block j (by omega), hx3.block j (by omega)]
  · rw [hP]; simp [put9, World.setCell]

/-- while a column is read: the answer's place, and the column itself -/
structure ColIn (w W : World) (A R T : Nat) (D : Array Value) (l : List UInt8) : Prop where
  bN : W.heap[w.heap.size]? = some (.cells #[.string ⟨#[]⟩, .int .i64 0, .slice none 0 0, .bool false, .int .i64 0, .int .i64 0, .float .f64 0, .string ⟨#[]⟩, .slice none 0 0] 67 (0, 0))
  bT : W.heap[T]? = some (.cells D 67 (0, 0))
  rd : Rdr W A R l
  aside : Aside (fun i => i = R) w W
  low : R < w.heap.size
  mid : w.heap.size < T
theorem ColIn.lt {w W : World} {A R T : Nat} {D : Array Value} {l : List UInt8} (h : ColIn w W A R T D l) : T < W.heap.size := blk_lt h.bT
theorem ColIn.step {w W W' : World} {A R T : Nat} {D : Array Value} {l l' : List UInt8} (h : ColIn w W A R T D l) (ha : Aside (fun i => i = R) W W') (hrd : Rdr W' A R l') : ColIn w W' A R T D l' := by
  have h1 := h.lt
  have h2 := h.mid
  have h3 := h.low
  exact ⟨by rw [ha.block _ (by omega) (by omega)]; exact h.bN, by rw [ha.block _ h1 (by omega)]; exact h.bT, hrd, h.aside.trans ha (fun _ _ h => h), h3, h2⟩
theorem ColIn.set {w W : World} {A R T : Nat} {D : Array Value} {l : List UInt8} (h : ColIn w W A R T D l) (m : Nat) (u : Value) : ColIn w (W.setCell ⟨T, m, none⟩ u) A R T (D.set! m u) l := by
  have h1 := h.lt
  have h2 := h.mid
  have h3 := h.low
  have ha : Aside (fun i => i = T) W (W.setCell ⟨T, m, none⟩ u) := aside_set _ _ _ _
  exact ⟨by rw [ha.block _ (by omega) (by omega)]; exact h.bN, blk_set h.bT m u, h.rd.aside ha (fun j hj => by rw [hj]; omega), h.aside.trans ha (fun j hj he => by rw [he] at hj; omega), h3, h2⟩

set_option maxRecDepth 100000 in
set_option maxHeartbeats 2000000 in
theorem columnK (nm : ByteArray) (l : List UInt8) (A R : Nat) (w : World) (h : Rdr w A R l) : Calls Tryz.prog 72 #[.pointer (some ⟨R, 0, none⟩), .string nm] w (RdA w A R l (colR nm l) (isC w)) := by
  have hR := h.lt
  obtain ⟨W0, hW0⟩ : ∃ W0, W0 = w.alloc (.cells #[.string ⟨#[]⟩, .int .i64 0, .slice none 0 0, .bool false, .int .i64 0, .int .i64 0, .float .f64 0, .string ⟨#[]⟩, .slice none 0 0] 67) := ⟨_, rfl⟩
  have HB0 : Hid (Below w.heap.size w W0) := by rw [hW0]; exact (Below.refl _ _).alloc (Nat.le_refl _) _
  have HN0 : Hid (W0.heap[w.heap.size]? = some (.cells #[.string ⟨#[]⟩, .int .i64 0, .slice none 0 0, .bool false, .int .i64 0, .int .i64 0, .float .f64 0, .string ⟨#[]⟩, .slice none 0 0] 67 (0, 0))) := by rw [hW0]; exact blk_new w _
  have HW0 := Lib.hid hW0
  have HCt := Lib.hid (typeAtK 4 1 l A R W0 rfl (h.on HB0.out))
  obtain ⟨r, hr⟩ : ∃ r, r = colR nm l := ⟨_, rfl⟩
  have HR : Hid (r = thenR (Sch.rdT 4 l) fun t j2 => thenR (Sch.bit (l.drop j2)) fun h j3 => if h = 0 then .ok (⟨nm, t, false, V0⟩, j2 + j3) else thenR (Sch.rdV t (l.drop (j2 + j3))) fun v j4 => .ok (⟨nm, t, true, v⟩, j2 + j3 + j4)) := hr
  rw [← hr]
  obtain ⟨mt, hmt⟩ : ∃ m, m = Sch.rdT 4 l := ⟨_, rfl⟩
  rw [← hmt] at HR HCt
  have HMt := Lib.hid hmt
  clear hr hmt h hW0
  cases mt with
  | error er =>
    have HR2 : Hid (r = .error er) := HR.out
    clear HR
    go_enter Tryz.func72, Tryz.ntmps72
    go_wp2_with fail
    rw [← HW0.out]
    refine HCt.out.mono ?_
    intro e w1 hh
    obtain ⟨he, ha⟩ := hh.bad
    subst he
    clear hh
    have HA := Lib.hid ((aside_new HB0.out _).trans ha (fun _ _ h => h))
    clear ha HCt
    go_wp2
    rw [HR2.out]
    exact ⟨rfl, rfl, HA.out⟩
  | ok tj =>
    obtain ⟨t, j2⟩ := tj
    have HR1 : Hid (r = thenR (Sch.bit (l.drop j2)) fun h j3 => if h = 0 then .ok (⟨nm, t, false, V0⟩, j2 + j3) else thenR (Sch.rdV t (l.drop (j2 + j3))) fun v j4 => .ok (⟨nm, t, true, v⟩, j2 + j3 + j4)) := HR.out
    have HTc : Hid (Ty.check 1 t = 0) := (Sch.rdT_ok 4 _ _ _ (by omega) HMt.out.symm).2.2.1
    clear HR HMt
    go_enter Tryz.func72, Tryz.ntmps72
    go_wp2_with fail
    rw [← HW0.out]
    refine HCt.out.mono ?_
    intro e w1 hh
    obtain ⟨v, he, hv, hrd, ha⟩ := hh.good
    obtain ⟨u, hv2, hown⟩ := hv.open
    clear hh hv
    obtain ⟨k, tp, tn, tc, hu⟩ := hown.shape
    subst hu
    subst hv2
    subst he
    unfold cells2
    have hNlt := blk_lt HN0.out
    have hs1 : w.heap.size < w1.heap.size := Nat.lt_of_lt_of_le hNlt ha.size
    have hs01 : w.heap.size + 1 ≤ W0.heap.size := hNlt
    have HA1 := Lib.hid ((aside_new HB0.out (fun i => i = R)).trans ha (fun _ _ h => h))
    have HN1 : Hid (w1.heap[w.heap.size]? = some (.cells #[.string ⟨#[]⟩, .int .i64 0, .slice none 0 0, .bool false, .int .i64 0, .int .i64 0, .float .f64 0, .string ⟨#[]⟩, .slice none 0 0] 67 (0, 0))) := by
      show _ = _
      rw [ha.block _ hNlt (by omega)]
      exact HN0.out
    obtain ⟨W, hW⟩ : ∃ W, W = w1.alloc (.cells #[.string nm, .int .i64 k, .slice tp tn tc, .bool false, .int .i64 0, .int .i64 0, .float .f64 0, .string ⟨#[]⟩, .slice none 0 0] 67) := ⟨_, rfl⟩
    have HBW : Hid (Below w1.heap.size w1 W) := by rw [hW]; exact (Below.refl _ _).alloc (Nat.le_refl _) _
    have HI : Hid (ColIn w W A R w1.heap.size #[.string nm, .int .i64 k, .slice tp tn tc, .bool false, .int .i64 0, .int .i64 0, .float .f64 0, .string ⟨#[]⟩, .slice none 0 0] (l.drop j2)) := by
      refine ⟨blk_on HN1.out HBW.out hs1, by rw [hW]; exact blk_new w1 _, hrd.on HBW.out, HA1.out.trans (aside_new HBW.out (fun _ => False)) (fun _ _ h => h.elim), hR, hs1⟩
    -- the type, wherever the reader and the column alone have changed
    have HOwn : Hid (∀ W' (F : Nat → Prop), (∀ j, F j → j = R ∨ w1.heap.size ≤ j) → Aside F W W' → TOwn W' (fun j => W0.heap.size ≤ j ∧ j < w1.heap.size) (cells2 k tp tn tc) t) := fun W' F hF ha' =>
      (hown.under HBW.out (fun j hj => hj.2)).aside ha' (fun j hj hc => by
        rcases hF j hc with h1 | h1
        · omega
        · omega)
    have HCb := Lib.hid (flagK (l.drop j2) A R W HI.out.rd)
    have HW := Lib.hid hW
    obtain ⟨mb, hmb⟩ : ∃ m, m = Sch.bit (l.drop j2) := ⟨_, rfl⟩
    rw [← hmb] at HR1 HCb
    have HMb := Lib.hid hmb
    clear ha hrd hown HCt HN0 HN1 HA1 HW0 HB0 hW hmb hNlt
    go_wp2_with fail
    rw [← HW.out]
    clear HW
    refine HCb.out.mono ?_
    intro e w2 hh
    cases mb with
    | error er =>
      have HR2 : Hid (r = .error er) := HR1.out
      obtain ⟨he, ha⟩ := hh.bad
      subst he
      clear hh HR1
      have HA := Lib.hid (HI.out.aside.trans ha (fun _ _ h => h))
      clear ha HCb
      go_wp2
      rw [HR2.out]
      exact ⟨rfl, rfl, HA.out⟩
    | ok hj =>
      obtain ⟨hf, j3⟩ := hj
      have hf1 : hf ≤ 1 := (Sch.bit_ok HMb.out.symm).1
      have HR2 : Hid (r = if hf = 0 then .ok (⟨nm, t, false, V0⟩, j2 + j3) else thenR (Sch.rdV t (l.drop (j2 + j3))) fun v j4 => .ok (⟨nm, t, true, v⟩, j2 + j3 + j4)) := HR1.out
      obtain ⟨v, he, hv, hrd, ha⟩ := hh.good
      clear hh HR1 HMb
      replace hv : v = .int .i64 (hf : Nat) := hv
      subst hv
      subst he
      have HA2 := Lib.hid ha
      have HI2 := Lib.hid (HI.out.step ha hrd)
      have hsW : w1.heap.size < W.heap.size := HI.out.lt
      clear ha hrd HCb HI
      have d3 : w2.cell? ⟨w1.heap.size, 3, none⟩ = some (.bool false) := blk_cell HI2.out.bT 3
      have df3 := blk_free HI2.out.bT 3
      have hcase : hf = 0 ∨ hf = 1 := by omega
      rcases hcase with h0 | h1
      · subst h0
        have HR3 : Hid (r = .ok (⟨nm, t, false, V0⟩, j2 + j3)) := HR2.out.trans (if_pos rfl)
        clear HR2
        have HI3 := Lib.hid (HI2.out.set 3 (.bool false))
        have HO3 : Hid (COwn (w2.setCell ⟨w1.heap.size, 3, none⟩ (.bool false)) (fun j => W0.heap.size ≤ j ∧ j < w1.heap.size) (cells9 nm k tp tn tc false 0 0 0 ⟨#[]⟩ none 0 0) ⟨nm, t, false, V0⟩) := by
          refine ⟨fun j => W0.heap.size ≤ j ∧ j < w1.heap.size, fun _ => False, k, tp, tn, tc, 0, 0, 0, ⟨#[]⟩, none, 0, 0, rfl, ?_, VOwn.none, fun _ h => h, fun _ h => h.elim, fun _ _ h => h⟩
          exact HOwn.out _ (fun j => j = R ∨ j = w1.heap.size) (fun j hj => hj.elim .inl (fun h => .inr (by omega))) ((HA2.out.mono (fun _ _ h => .inl h)).trans (aside_set w2 w1.heap.size 3 (.bool false)) (fun _ _ h => .inr h))
        have HFin := Lib.hid (fun P hP => finC (P := P) hR HI3.out.bN (by have := HI3.out.lt; have := HI3.out.mid; omega) HO3.out (fun j hj => ⟨by omega, by have := HI3.out.lt; omega⟩) HI3.out.rd HI3.out.aside hP)
        have d0 : w2.cell? ⟨w1.heap.size, 0, none⟩ = some (.string nm) := blk_cell HI2.out.bT 0
        have d1 : w2.cell? ⟨w1.heap.size, 1, none⟩ = some (.int .i64 k) := blk_cell HI2.out.bT 1
        have d2 : w2.cell? ⟨w1.heap.size, 2, none⟩ = some (.slice tp tn tc) := blk_cell HI2.out.bT 2
        have d4 : w2.cell? ⟨w1.heap.size, 4, none⟩ = some (.int .i64 0) := blk_cell HI2.out.bT 4
        have d5 : w2.cell? ⟨w1.heap.size, 5, none⟩ = some (.int .i64 0) := blk_cell HI2.out.bT 5
        have d6 : w2.cell? ⟨w1.heap.size, 6, none⟩ = some (.float .f64 0) := blk_cell HI2.out.bT 6
        have d7 : w2.cell? ⟨w1.heap.size, 7, none⟩ = some (.string ⟨#[]⟩) := blk_cell HI2.out.bT 7
        have d8 : w2.cell? ⟨w1.heap.size, 8, none⟩ = some (.slice none 0 0) := blk_cell HI2.out.bT 8
        have n0 : w2.cell? ⟨w.heap.size, 0, none⟩ = some (.string ⟨#[]⟩) := blk_cell HI2.out.bN 0
        have nf0 := blk_free HI2.out.bN 0
        have n1 : w2.cell? ⟨w.heap.size, 1, none⟩ = some (.int .i64 0) := blk_cell HI2.out.bN 1
        have nf1 := blk_free HI2.out.bN 1
        have n2 : w2.cell? ⟨w.heap.size, 2, none⟩ = some (.slice none 0 0) := blk_cell HI2.out.bN 2
        have nf2 := blk_free HI2.out.bN 2
        have n3 : w2.cell? ⟨w.heap.size, 3, none⟩ = some (.bool false) := blk_cell HI2.out.bN 3
        have nf3 := blk_free HI2.out.bN 3
        have n4 : w2.cell? ⟨w.heap.size, 4, none⟩ = some (.int .i64 0) := blk_cell HI2.out.bN 4
        have nf4 := blk_free HI2.out.bN 4
        have n5 : w2.cell? ⟨w.heap.size, 5, none⟩ = some (.int .i64 0) := blk_cell HI2.out.bN 5
        have nf5 := blk_free HI2.out.bN 5
        have n6 : w2.cell? ⟨w.heap.size, 6, none⟩ = some (.float .f64 0) := blk_cell HI2.out.bN 6
        have nf6 := blk_free HI2.out.bN 6
        have n7 : w2.cell? ⟨w.heap.size, 7, none⟩ = some (.string ⟨#[]⟩) := blk_cell HI2.out.bN 7
        have nf7 := blk_free HI2.out.bN 7
        have n8 : w2.cell? ⟨w.heap.size, 8, none⟩ = some (.slice none 0 0) := blk_cell HI2.out.bN 8
        have nf8 := blk_free HI2.out.bN 8
        go_wp2
        obtain ⟨f1, f2, f3, f4⟩ := HFin.out _ rfl
        refine bodyPost_ret (v := .agg (cells9 nm k tp tn tc false 0 0 0 ⟨#[]⟩ none 0 0)) (results_cell_row rfl _ _ w.heap.size _ _ _ _ rfl f1 Tryz.underlying67 rfl (by kernel_rfl)) rfl ?_
        rw [HR3.out]
        refine ⟨_, rfl, f2, ?_, f4⟩
        rw [← List.drop_drop]
        exact f3
      · subst h1
        obtain ⟨W3, hW3⟩ : ∃ W3, W3 = w2.setCell ⟨w1.heap.size, 3, none⟩ (.bool true) := ⟨_, rfl⟩
        have HI3 : Hid (ColIn w W3 A R w1.heap.size #[.string nm, .int .i64 k, .slice tp tn tc, .bool true, .int .i64 0, .int .i64 0, .float .f64 0, .string ⟨#[]⟩, .slice none 0 0] (l.drop (j2 + j3))) := by
          rw [hW3, ← List.drop_drop]
          exact HI2.out.set 3 (.bool true)
        have HA3 : Hid (Aside (fun j => j = R ∨ j = w1.heap.size) W W3) := by
          rw [hW3]
          exact (HA2.out.mono (fun _ _ h => .inl h)).trans (aside_set w2 w1.heap.size 3 (.bool true)) (fun _ _ h => .inr h)
        have HFar : Hid (TFar W3 R (cells2 k tp tn tc) t) := by
          refine ⟨fun j => W0.heap.size ≤ j ∧ j < w1.heap.size, HOwn.out _ _ (fun j hj => hj.elim .inl (fun h => .inr (by omega))) HA3.out, fun j hj => ⟨by omega, ?_⟩⟩
          have := HI3.out.lt
          omega
        have HCv := Lib.hid (valueK t 1 HTc.out (l.drop (j2 + j3)) A R W3 _ HFar.out HI3.out.rd)
        have HR3 : Hid (r = thenR (Sch.rdV t (l.drop (j2 + j3))) fun v j4 => .ok (⟨nm, t, true, v⟩, j2 + j3 + j4)) := HR2.out.trans (if_neg (by decide))
        obtain ⟨mv, hmv⟩ : ∃ m, m = Sch.rdV t (l.drop (j2 + j3)) := ⟨_, rfl⟩
        rw [← hmv] at HR3 HCv
        have HW3 := Lib.hid hW3
        unfold cells2 at HCv
        have d1 : w2.cell? ⟨w1.heap.size, 1, none⟩ = some (.int .i64 k) := blk_cell HI2.out.bT 1
        have d2 : w2.cell? ⟨w1.heap.size, 2, none⟩ = some (.slice tp tn tc) := blk_cell HI2.out.bT 2
        clear HR2 hmv hW3 HA2 HFar
        cases mv with
        | error er =>
          have HR4 : Hid (r = .error er) := HR3.out
          clear HR3
          go_wp2_with fail
          rw [← HW3.out]
          refine HCv.out.mono ?_
          intro e w4 hh
          obtain ⟨he, ha⟩ := hh.bad
          subst he
          clear hh
          have HA := Lib.hid (HI3.out.aside.trans ha (fun _ _ h => h))
          clear ha HCv
          go_wp2
          rw [HR4.out]
          exact ⟨rfl, rfl, HA.out⟩
        | ok vj =>
          obtain ⟨x, j4⟩ := vj
          have HR4 : Hid (r = .ok (⟨nm, t, true, x⟩, j2 + j3 + j4)) := HR3.out
          clear HR3
          go_wp2_with fail
          rw [← HW3.out]
          refine HCv.out.mono ?_
          intro e w4 hh
          obtain ⟨v, he, hv, hrd, ha⟩ := hh.good
          obtain ⟨u', hv2, hown⟩ := hv.open
          clear hh hv
          obtain ⟨vk, vi, vb, vt, vp, vn, vc, hu'⟩ := hown.shape
          subst hu'
          subst hv2
          subst he
          unfold cells5
          have HI4 := Lib.hid (HI3.out.step ha hrd)
          have HA4 : Hid (Aside (fun j => j = R ∨ j = w1.heap.size) W w4) := HA3.out.trans ha (fun _ _ h => .inl h)
          have HOv := Lib.hid hown
          have hs3 := HI3.out.lt
          have hs4 := ha.size
          clear ha hrd hown HCv HW3 d1 d2 d3 df3 HI2
          have HI5 := Lib.hid (((((HI4.out.set 4 (.int .i64 vk)).set 5 (.int .i64 vi)).set 6 (.float .f64 vb)).set 7 (.string vt)).set 8 (.slice vp vn vc))
          obtain ⟨w5, hw5⟩ : ∃ w5, w5 = ((((w4.setCell ⟨w1.heap.size, 4, none⟩ (.int .i64 vk)).setCell ⟨w1.heap.size, 5, none⟩ (.int .i64 vi)).setCell ⟨w1.heap.size, 6, none⟩ (.float .f64 vb)).setCell ⟨w1.heap.size, 7, none⟩ (.string vt)).setCell ⟨w1.heap.size, 8, none⟩ (.slice vp vn vc) := ⟨_, rfl⟩
          have HA5 : Hid (Aside (fun j => j = w1.heap.size) w4 w5) := by
            rw [hw5]
            have a0 : Aside (fun j => j = w1.heap.size) w4 (w4.setCell ⟨w1.heap.size, 4, none⟩ (.int .i64 vk)) := aside_set _ _ _ _
            have a1 := a0.trans (aside_set _ w1.heap.size 5 (.int .i64 vi)) (fun _ _ h => h)
            have a2 := a1.trans (aside_set _ w1.heap.size 6 (.float .f64 vb)) (fun _ _ h => h)
            have a3 := a2.trans (aside_set _ w1.heap.size 7 (.string vt)) (fun _ _ h => h)
            exact a3.trans (aside_set _ w1.heap.size 8 (.slice vp vn vc)) (fun _ _ h => h)
          rw [← hw5] at HI5
          have hs5 := HA5.out.size
          have HO5 : Hid (COwn w5 (fun j => w.heap.size + 1 ≤ j ∧ j < w5.heap.size) (cells9 nm k tp tn tc true vk vi vb vt vp vn vc) ⟨nm, t, true, x⟩) := by
            refine ⟨fun j => W0.heap.size ≤ j ∧ j < w1.heap.size, fun j => W3.heap.size ≤ j ∧ j < w4.heap.size, k, tp, tn, tc, vk, vi, vb, vt, vp, vn, vc, rfl, ?_, ?_, fun j hj => by omega, fun j hj => by omega, fun j h1 h2 => by omega⟩
            · exact HOwn.out _ _ (fun j hj => hj.elim .inl (fun h => .inr (by omega))) (HA4.out.trans HA5.out (fun _ _ h => .inr h))
            · exact HOv.out.aside HA5.out (fun j hj he => by omega)
          have HFin := Lib.hid (fun P hP => finC (P := P) hR HI5.out.bN (by omega) HO5.out (fun j hj => hj) HI5.out.rd HI5.out.aside hP)
          rw [hw5] at HFin
          clear hw5 HI5 HO5 HA5 HA4 HOv
          have d0 : w4.cell? ⟨w1.heap.size, 0, none⟩ = some (.string nm) := blk_cell HI4.out.bT 0
          have d1 : w4.cell? ⟨w1.heap.size, 1, none⟩ = some (.int .i64 k) := blk_cell HI4.out.bT 1
          have d2 : w4.cell? ⟨w1.heap.size, 2, none⟩ = some (.slice tp tn tc) := blk_cell HI4.out.bT 2
          have d3 : w4.cell? ⟨w1.heap.size, 3, none⟩ = some (.bool true) := blk_cell HI4.out.bT 3
          have d4 : w4.cell? ⟨w1.heap.size, 4, none⟩ = some (.int .i64 0) := blk_cell HI4.out.bT 4
          have df4 := blk_free HI4.out.bT 4
          have d5 : w4.cell? ⟨w1.heap.size, 5, none⟩ = some (.int .i64 0) := blk_cell HI4.out.bT 5
          have df5 := blk_free HI4.out.bT 5
          have d6 : w4.cell? ⟨w1.heap.size, 6, none⟩ = some (.float .f64 0) := blk_cell HI4.out.bT 6
          have df6 := blk_free HI4.out.bT 6
          have d7 : w4.cell? ⟨w1.heap.size, 7, none⟩ = some (.string ⟨#[]⟩) := blk_cell HI4.out.bT 7
          have df7 := blk_free HI4.out.bT 7
          have d8 : w4.cell? ⟨w1.heap.size, 8, none⟩ = some (.slice none 0 0) := blk_cell HI4.out.bT 8
          have df8 := blk_free HI4.out.bT 8
          have n0 : w4.cell? ⟨w.heap.size, 0, none⟩ = some (.string ⟨#[]⟩) := blk_cell HI4.out.bN 0
          have nf0 := blk_free HI4.out.bN 0
          have n1 : w4.cell? ⟨w.heap.size, 1, none⟩ = some (.int .i64 0) := blk_cell HI4.out.bN 1
          have nf1 := blk_free HI4.out.bN 1
          have n2 : w4.cell? ⟨w.heap.size, 2, none⟩ = some (.slice none 0 0) := blk_cell HI4.out.bN 2
          have nf2 := blk_free HI4.out.bN 2
          have n3 : w4.cell? ⟨w.heap.size, 3, none⟩ = some (.bool false) := blk_cell HI4.out.bN 3
          have nf3 := blk_free HI4.out.bN 3
          have n4 : w4.cell? ⟨w.heap.size, 4, none⟩ = some (.int .i64 0) := blk_cell HI4.out.bN 4
          have nf4 := blk_free HI4.out.bN 4
          have n5 : w4.cell? ⟨w.heap.size, 5, none⟩ = some (.int .i64 0) := blk_cell HI4.out.bN 5
          have nf5 := blk_free HI4.out.bN 5
          have n6 : w4.cell? ⟨w.heap.size, 6, none⟩ = some (.float .f64 0) := blk_cell HI4.out.bN 6
          have nf6 := blk_free HI4.out.bN 6
          have n7 : w4.cell? ⟨w.heap.size, 7, none⟩ = some (.string ⟨#[]⟩) := blk_cell HI4.out.bN 7
          have nf7 := blk_free HI4.out.bN 7
          have n8 : w4.cell? ⟨w.heap.size, 8, none⟩ = some (.slice none 0 0) := blk_cell HI4.out.bN 8
          have nf8 := blk_free HI4.out.bN 8
          clear HI4
          go_wp2
          obtain ⟨f1, f2, f3, f4⟩ := HFin.out _ rfl
          refine bodyPost_ret (v := .agg (cells9 nm k tp tn tc true vk vi vb vt vp vn vc)) (results_cell_row rfl _ _ w.heap.size _ _ _ _ rfl f1 Tryz.underlying67 rfl (by kernel_rfl)) rfl ?_
          rw [HR4.out]
          refine ⟨_, rfl, f2, ?_, f4⟩
          rw [← List.drop_drop]
          exact f3
end Go.Proofs.YtnlhpndjogjejaaGreatDoor

/- The landed schema's reader: columns. -/
namespace Go.Proofs.YtnlhpndjogjejaaGreatDoor
open Go.RowKit Go.Maps

attribute [local go_sem] run_store_float

theorem Named.names {w : World} {M n : Nat} {l l' : List Col} (h : Named w M n l) (he : l.map Col.name = l'.map Col.name) : Named w M n l' := by
  obtain ⟨D, h1, h2⟩ := h.out
  refine ⟨D, h1, fun t => ?_⟩
  rw [h2 t]
  have e : ∀ l : List Col, l.any (fun x => decide (x.name = t)) = (l.map Col.name).any (fun x => decide (x = t)) := fun l => by rw [List.any_map]; rfl
  rw [e l, e l', he]
theorem name_nil : Sch.name ⟨#[]⟩ = false := by kernel_rfl
theorem rdC_eq (s : List Col) (b : List UInt8) : Sch.rdC s b = thenR (nameR b) fun nm j => if s.any (fun x => decide (x.name = nm)) then .error 71 else thenR (colR nm (b.drop j)) fun c j' => .ok (c, j + j') := by
  unfold Sch.rdC nameR
  cases hn : Sch.num b with
  | error e =>
    have e1 : Sch.text 16 70 b = .error e := by unfold Sch.text; rw [hn]
    rw [e1]
    rfl
  | ok nk =>
    obtain ⟨n, k⟩ := nk
    dsimp only
    by_cases h0 : n = 0
    · subst h0
      have e1 : Sch.text 16 70 b = .ok (⟨#[]⟩, k + 0) := by
        unfold Sch.text
        rw [hn]
        dsimp only
        rw [if_neg (by omega), if_neg (by omega)]
        simp
      rw [if_pos rfl, e1]
      dsimp only
      rw [if_pos name_nil]
      rfl
    · rw [if_neg h0]
      cases Sch.text 16 70 b with
      | error e => rfl
      | ok sj =>
        obtain ⟨t, j⟩ := sj
        dsimp only
        by_cases hnm : Sch.name t = false
        · rw [if_pos hnm, if_pos hnm]; rfl
        · rw [if_neg hnm, if_neg hnm, thenR_ok]
          by_cases ha : (s.any (fun x => decide (x.name = t))) = true
          · rw [if_pos ha, if_pos ha]
          · rw [if_neg ha, if_neg ha]
            unfold colR
            cases Sch.rdT 4 (b.drop j) with
            | error e => rfl
            | ok tj =>
              obtain ⟨ty, j2⟩ := tj
              rw [thenR_ok, List.drop_drop]
              dsimp only
              cases Sch.bit (b.drop (j + j2)) with
              | error e => rfl
              | ok hj =>
                obtain ⟨h, j3⟩ := hj
                rw [thenR_ok]
                dsimp only
                by_cases hh : h = 0
                · rw [if_pos hh, if_pos hh, thenR_ok, Nat.add_assoc]
                · rw [if_neg hh, if_neg hh, List.drop_drop, Nat.add_assoc]
                  cases Sch.rdV ty (b.drop (j + (j2 + j3))) with
                  | error e => rfl
                  | ok vj =>
                    obtain ⟨v, j4⟩ := vj
                    rw [thenR_ok, thenR_ok]
                    dsimp only
                    rw [Nat.add_assoc, Nat.add_assoc]
theorem colR_name {nm : ByteArray} {l : List UInt8} {c : Col} {j : Nat} (h : colR nm l = .ok (c, j)) : c.name = nm := by
  unfold colR at h
  cases h1 : Sch.rdT 4 l with
  | error e => rw [h1] at h; cases h
  | ok tj =>
    obtain ⟨t, j2⟩ := tj
    rw [h1, thenR_ok] at h
    cases h2 : Sch.bit (l.drop j2) with
    | error e => rw [h2] at h; cases h
    | ok hj =>
      obtain ⟨hf, j3⟩ := hj
      rw [h2, thenR_ok] at h
      split at h
      · injection h with h
        injection h with h _
        rw [← h]
      · cases h3 : Sch.rdV t (l.drop (j2 + j3)) with
        | error e => rw [h3] at h; cases h
        | ok vj =>
          obtain ⟨v, j4⟩ := vj
          rw [h3, thenR_ok] at h
          injection h with h
          injection h with h _
          rw [← h]

/-- columns in a row of the call's own -/
def isCs (w : World) (s : List Col) (v : Value) (w' : World) : Prop := ∃ us Fs, CBuilt w' w.heap.size v s.length us Fs s
/-- what is told -/
def colsR (l : List UInt8) : Except Nat (List Col × Nat) := thenR (countR 16 3 l) fun n k => if n = 0 then .error 4 else thenR (Sch.rdCs n [] (l.drop k)) fun s j => .ok (s, k + j)

/-- while columns are read -/
structure ColsIn (w wr : World) (A R M n : Nat) (l : List UInt8) (r : Except Nat (List Col × Nat)) (s : List Col) (v : Value) : Prop where
  built : ∃ us Fs, CBuilt wr (M + 1) v s.length us Fs s
  names : Named wr M s.length s
  left : ∃ k, Rdr wr A R (l.drop k) ∧ r = shift k (Sch.rdCs (n - s.length) s (l.drop k))
  aside : Aside (fun i => i = R) w wr
  low : R < w.heap.size
  mid : w.heap.size ≤ M
  len : s.length ≤ n
theorem colsIn_start {w w1 : World} {A R n : Nat} {l : List UInt8} (h : Rdr w1 A R l) (ha : Aside (fun i => i = R) w w1) (hlow : R < w.heap.size) : ColsIn w (w1.alloc (.map #[] 0)) A R w1.heap.size n l (Sch.rdCs n [] l) [] (.slice none 0 0) := by
  have hb : Below w1.heap.size w1 (w1.alloc (.map #[] 0)) := (Below.refl _ _).alloc (Nat.le_refl _) _
  refine ⟨⟨_, _, cbuilt_nil _ _⟩, named_made w1, ⟨0, h.on hb, ?_⟩, ha.trans (aside_new hb (fun _ => False)) (fun _ _ h => h.elim), hlow, ha.size, Nat.zero_le _⟩
  rw [List.drop_zero, List.length_nil, Nat.sub_zero]
  cases Sch.rdCs n [] l with
  | error e => rfl
  | ok p => simp [shift]
/-- one more -/
theorem ColsIn.next {w wr w2 w3 w4 : World} {A R M n : Nat} {l : List UInt8} {r : Except Nat (List Col × Nat)} {s : List Col} {v : Value} (h : ColsIn w wr A R M n l r s v) {us : Nat → Array Value} {Fs : Nat → Nat → Prop} (hbt : CBuilt wr (M + 1) v s.length us Fs s) {k j : Nat} {c : Col} {u : Array Value} (hlt : s.length < n)
    (hl : r = shift k (Sch.rdCs (n - s.length) s (l.drop k))) (hc : Sch.rdC s (l.drop k) = .ok (c, j)) (a12 : Aside (fun i => i = R ∨ i = M) wr w2) (hN : Named w2 M (s.length + 1) (s ++ [c])) (ha : Aside (fun i => i = R) w2 w3) (hown : COwn w3 (fun i => w2.heap.size ≤ i ∧ i < w3.heap.size) u c) (hrd : Rdr w3 A R ((l.drop k).drop j)) :
    (w3.alloc (.cells u 67)).ownsRow (M + 1) 67 9 v s.length (flat us s.length) ∧
    ∀ g cap, w4.ownsRow (M + 1) 67 9 (.slice (some ⟨g, 0, none⟩) (s.length + 1) cap) (s.length + 1) (flat us s.length ++ u.toList) → (w3.alloc (.cells u 67)).grownBy w4 v.ownBlock → (v.ownBlock = some g ∨ g = (w3.alloc (.cells u 67)).heap.size) →
      ColsIn w w4 A R M n l r (s ++ [c]) (.slice (some ⟨g, 0, none⟩) (s.length + 1) cap) := by
  have hlow := h.low
  have hmid := h.mid
  have hMlt := h.names.lt
  have hs2 := a12.size
  have hs3 := ha.size
  have hb3 : Below w3.heap.size w3 (w3.alloc (.cells u 67)) := (Below.refl _ _).alloc (Nat.le_refl _) _
  have hs4 := hb3.size
  have hb2 : CBuilt w2 (M + 1) v s.length us Fs s := hbt.aside a12 (fun g hg he => by have := (hbt.lt g hg).1; omega) (fun i hi k hk he => by have := (hbt.range i hi k hk).1; omega)
  obtain ⟨wx, hx1, hx2, hx3⟩ := ha.split (by omega)
  have hbx : CBuilt wx (M + 1) v s.length us Fs s := hb2.aside hx1 (fun g hg he => by have := (hb2.lt g hg).1; omega) (fun i hi k hk he => by have := (hb2.range i hi k hk).1; omega)
  refine ⟨((hbx.on hx3).on hb3).row, fun g cap hr hg hn => ?_⟩
  have hst := hbx.step hx3 hown (fun k hk => ⟨by rw [hx2]; exact hk.1, hk.2⟩) hb3 (by rw [hx2]; omega) hr hg hn
  have hs5 := hg.size
  have hv := fun k (hk : v.ownBlock = some k) => (hbx.lt k hk)
  have a34 : Aside (fun k => v.ownBlock = some k) w3 w4 := (aside_new hb3 _).trans (G := fun k => v.ownBlock = some k) ⟨hg.os, hg.tape, hg.output, hg.size, fun k hk hf => hg.block k hk (fun hc => hf hc.symm)⟩ (fun _ _ h => h)
  refine ⟨⟨_, _, by rw [List.length_append, List.length_singleton]; exact hst⟩, ?_, ⟨k + j, ?_, ?_⟩, ?_, hlow, hmid, by rw [List.length_append, List.length_singleton]; omega⟩
  · rw [List.length_append, List.length_singleton]
    refine hN.keep ?_
    rw [a34.block M (by omega) (fun hc => by have := (hv M hc).1; omega), ha.block M (by omega) (by omega)]
  · rw [← List.drop_drop]
    exact hrd.aside a34 (fun i hi => by have := (hv i hi).1; omega)
  · rw [hl, show n - s.length = (n - (s ++ [c]).length) + 1 by rw [List.length_append, List.length_singleton]; omega, rdCs_succ, hc, stepC, shift_shift, List.drop_drop]
  · refine ((h.aside.trans a12 (fun i hi hc => hc.elim id (fun h => by omega))).trans ha (fun _ _ h => h)).trans a34 (fun i hi hc => ?_)
    have := (hv i hc).1
    omega
end Go.Proofs.YtnlhpndjogjejaaGreatDoor

/- The landed schema's reader: columns. -/
namespace Go.Proofs.YtnlhpndjogjejaaGreatDoor
open Go.RowKit Go.Maps

attribute [local go_sem] run_store_float

set_option maxRecDepth 100000 in
set_option maxHeartbeats 2000000 in
theorem columnsK (l : List UInt8) (A R : Nat) (w : World) (h : Rdr w A R l) : Calls Tryz.prog 61 #[.pointer (some ⟨R, 0, none⟩)] w (RdA w A R l (colsR l) (isCs w)) := by
  have hmm := @run_makeMap Tryz.prog
  have hR := h.lt
  have HC0 := Lib.hid (countK 16 3 (by omega) l A R w h)
  obtain ⟨r, hr⟩ : ∃ r, r = colsR l := ⟨_, rfl⟩
  have HR : Hid (r = thenR (countR 16 3 l) fun n k => if n = 0 then .error 4 else thenR (Sch.rdCs n [] (l.drop k)) fun s j => .ok (s, k + j)) := hr
  rw [← hr]
  obtain ⟨m0, hm0⟩ : ∃ m, m = countR 16 3 l := ⟨_, rfl⟩
  rw [← hm0] at HR HC0
  have HM := Lib.hid hm0
  clear hr hm0 h
  cases m0 with
  | error er =>
    have HR2 : Hid (r = .error er) := HR.out
    clear HR
    go_enter Tryz.func61, Tryz.ntmps61
    go_wp2_with fail
    refine HC0.out.mono ?_
    intro e w1 hh
    obtain ⟨he, ha⟩ := hh.bad
    subst he
    clear hh
    have HA := Lib.hid ha
    clear ha HC0
    go_wp2
    rw [HR2.out]
    exact ⟨rfl, rfl, HA.out⟩
  | ok nk =>
    obtain ⟨n, k⟩ := nk
    have hn16 : n ≤ 16 := count_le HM.out.symm
    have HR1 : Hid (r = if n = 0 then .error 4 else thenR (Sch.rdCs n [] (l.drop k)) fun s j => .ok (s, k + j)) := HR.out
    clear HR HM
    go_enter Tryz.func61, Tryz.ntmps61
    go_wp2_with fail
    refine HC0.out.mono ?_
    intro e w1 hh
    obtain ⟨v, he, hv, hrd, ha⟩ := hh.good
    clear hh
    replace hv : v = .int .i64 (n : Nat) := hv
    subst hv
    subst he
    have HA1 := Lib.hid ha
    have HRd1 := Lib.hid hrd
    clear ha hrd HC0
    by_cases hn0 : n = 0
    · have HR2 : Hid (r = .error 4) := HR1.out.trans (if_pos hn0)
      have g0 : decide ((0 : Int) < (n : Int)) = false := decide_eq_false (by omega)
      clear HR1
      subst hn0
      go_wp2_with fail
      refine (need_f _ 4 _).mono ?_
      rintro e w2 ⟨rfl, hw2⟩
      rw [hw2]
      clear hw2 w2
      go_wp2
      rw [HR2.out]
      exact ⟨rfl, rfl, HA1.out⟩
    have HR2 : Hid (r = thenR (Sch.rdCs n [] (l.drop k)) fun s j => .ok (s, k + j)) := HR1.out.trans (if_neg hn0)
    have g0 : decide (0 < n) = true := decide_eq_true (by omega)
    have hnI : (n : Int) ≤ 16 := by omega
    clear HR1
    go_wp2_with fail
    try rw [g0]
    refine (need_t _ 4 _).mono ?_
    rintro e w2 ⟨rfl, hw2⟩
    rw [hw2]
    clear hw2 w2
    obtain ⟨L, hL⟩ : ∃ L, L = l.drop k := ⟨_, rfl⟩
    rw [← hL] at HR2 HRd1
    have HL := Lib.hid hL
    obtain ⟨rr, hrr⟩ : ∃ rr, rr = Sch.rdCs n [] L := ⟨_, rfl⟩
    have HS0 := Lib.hid (colsIn_start (n := n) HRd1.out HA1.out hR)
    rw [← hrr] at HR2 HS0
    clear hrr hL HRd1
    go_wp2_with fail
    go_loopw [4, 18] (fun v4 v18 wr => ∃ (s : List Col) (q : Option Addr) (c : Nat), v18 = .int .i64 s.length ∧ v4 = .slice q s.length c ∧ s.length ≤ n ∧ Hid (ColsIn w wr A R w1.heap.size n L rr s (.slice q s.length c))) (fun _ v18 _ => n - (intOf v18).toNat)
    case atStart => exact ⟨[], none, 0, rfl, rfl, Nat.zero_le _, HS0.out⟩
    case round =>
      obtain ⟨s, q, c, rfl, rfl, hsl, HI⟩ := hrel
      by_cases hlt : s.length < n
      · have hj1 : (s.length : Int) < (n : Int) := by omega
        obtain ⟨k1, hrd, hl⟩ := HI.out.left
        obtain ⟨us, Fs, hbt⟩ := HI.out.built
        have HBt := Lib.hid hbt
        have HLl := Lib.hid hl
        have HCn := Lib.hid (nameRK (L.drop k1) A R wr hrd)
        have HRc := Lib.hid (rdC_eq s (L.drop k1))
        -- where the column can't be read
        have HBad : Hid (∀ er, Sch.rdC s (L.drop k1) = .error er → r = .error er) := fun er he => by
          have e1 : rr = .error er := by
            rw [hl, show n - s.length = (n - s.length - 1) + 1 by omega, rdCs_succ, he]
            rfl
          rw [HR2.out, e1]
          rfl
        obtain ⟨mn, hmn⟩ : ∃ m, m = nameR (L.drop k1) := ⟨_, rfl⟩
        rw [← hmn] at HCn HRc
        have HMn := Lib.hid hmn
        clear hrd hl hbt hmn
        go_wp2_with fail
        refine HCn.out.mono ?_
        intro e w2 hh
        cases mn with
        | error er =>
          have HRe : Hid (r = .error er) := HBad.out er HRc.out
          obtain ⟨he, ha⟩ := hh.bad
          subst he
          clear hh
          have HA := Lib.hid (HI.out.aside.trans ha (fun _ _ h => h))
          clear ha HCn
          go_wp2
          rw [HRe.out]
          exact ⟨rfl, rfl, HA.out⟩
        | ok nj =>
          obtain ⟨nm, j⟩ := nj
          obtain ⟨v, he, hv, hrd, ha⟩ := hh.good
          clear hh
          replace hv : v = .string nm := hv
          subst hv
          subst he
          have hnm : nm.size ≤ 140737488351232 := by
            have h1 := HMn.out.symm
            unfold nameR at h1
            split at h1
            · cases h1
            · next t k2 ht =>
              split at h1
              · cases h1
              · injection h1 with h1
                injection h1 with h1 _
                have := (Sch.text_ok ht).1
                rw [← h1]
                omega
          have HRc1 : Hid (Sch.rdC s (L.drop k1) = if s.any (fun x => decide (x.name = nm)) then .error 71 else thenR (colR nm ((L.drop k1).drop j)) fun c j' => .ok (c, j + j')) := HRc.out
          have HA2 := Lib.hid ha
          have HRd2 := Lib.hid hrd
          have hMlt := HI.out.names.lt
          have hmid := HI.out.mid
          have HN2 : Hid (Named w2 w1.heap.size s.length s) := HI.out.names.keep (ha.block _ hMlt (by omega))
          have HKey := Lib.hid (keyL_of hnm)
          obtain ⟨D, hown, hhas⟩ := HN2.out.out
          have HOa := Lib.hid hown
          have HHas := Lib.hid (hhas nm)
          have HPut := Lib.hid (fun d t => has_put hown hhas ⟨nm, ⟨0, []⟩, false, V0⟩ d t)
          obtain ⟨ra, hra⟩ : ∃ b, b = s.any (fun x => decide (x.name = nm)) := ⟨_, rfl⟩
          rw [← hra] at HHas HRc1
          have hs2 := ha.size
          clear ha hrd hown hhas HCn HRc HMn hra
          cases ra with
          | true =>
            have HRe : Hid (r = .error 71) := HBad.out 71 (HRc1.out.trans (if_pos (by first | rfl | trivial)))
            have HA := Lib.hid (HI.out.aside.trans HA2.out (fun _ _ h => h))
            clear HRc1
            go_wp2_with (first | (at_lookup; refine wpList_lookup_own_ok_int _ rfl _ _ 122 rfl 9 3 .i64 lawS Tryz.underlying122 Tryz.underlying3 (zeroI _) w1.heap.size s.length D rfl HOa.out _ _ rfl HKey.out ?_; intro cc hat hwc; rw [HHas.out]; clear hat hwc))
            refine (need_f _ 71 _).mono ?_
            rintro e w3 ⟨rfl, hw3⟩
            rw [hw3]
            clear hw3 w3
            go_wp2
            rw [HRe.out]
            exact ⟨rfl, rfl, HA.out⟩
          | false =>
            have HRc2 : Hid (Sch.rdC s (L.drop k1) = thenR (colR nm ((L.drop k1).drop j)) fun c j' => .ok (c, j + j')) := HRc1.out.trans (if_neg (by first | decide | simp))
            clear HRc1
            go_wp2_with (first | (at_lookup; refine wpList_lookup_own_ok_int _ rfl _ _ 122 rfl 9 3 .i64 lawS Tryz.underlying122 Tryz.underlying3 (zeroI _) w1.heap.size s.length D rfl HOa.out _ _ rfl HKey.out ?_; intro cc hat hwc; rw [HHas.out]; clear hat hwc))
            refine (need_t _ 71 _).mono ?_
            rintro e w3 ⟨rfl, hw3⟩
            rw [hw3]
            clear hw3 w3
            go_wp2_with (first
              | (at_mapUpdate; refine wpList_mapUpdate_own _ rfl _ _ _ 122 rfl 9 3 lawS Tryz.underlying122 _ w1.heap.size s.length D rfl HOa.out (by unfold maxLen; omega) _ _ _ rfl rfl HKey.out _ [] (plainElem_int Tryz.underlying3 (WalkArith.wf_i64 (by omega))) ?_; intro w3 hown1 hgr1
                 have HO1 := Lib.hid hown1
                 have HG1 := Lib.hid hgr1
                 clear hown1 hgr1))
            have HA3 : Hid (Aside (fun i => i = R ∨ i = w1.heap.size) wr w3) := by
              refine (HA2.out.mono (fun _ _ h => .inl h)).trans (G := fun i => i = w1.heap.size) ⟨HG1.out.os, HG1.out.tape, HG1.out.output, HG1.out.size, fun i hi hf => HG1.out.block i hi (fun hc => hf (by injection hc))⟩ (fun _ _ h => .inr h)
            have HRd3 : Hid (Rdr w3 A R ((L.drop k1).drop j)) := HRd2.out.keep (fun i hi => HG1.out.block i (by have := HRd2.out.lt; omega) (fun hc => by injection hc with hc; omega)) HG1.out.size
            have HAw3 : Hid (Aside (fun i => i = R) w w3) := HI.out.aside.trans HA3.out (fun i hi hc => hc.elim id (fun h => by omega))
            have HCc := Lib.hid (columnK nm ((L.drop k1).drop j) A R w3 HRd3.out)
            obtain ⟨mc, hmc⟩ : ∃ m, m = colR nm ((L.drop k1).drop j) := ⟨_, rfl⟩
            rw [← hmc] at HCc HRc2
            have HMc := Lib.hid hmc
            clear hmc HRd2 HA2 HOa HHas HN2 HKey HG1
            go_wp2_with fail
            refine HCc.out.mono ?_
            intro e w4 hh
            cases mc with
            | error er =>
              have HRe : Hid (r = .error er) := HBad.out er HRc2.out
              obtain ⟨he, ha⟩ := hh.bad
              subst he
              clear hh
              have HA := Lib.hid (HAw3.out.trans ha (fun _ _ h => h))
              clear ha HCc
              go_wp2
              rw [HRe.out]
              exact ⟨rfl, rfl, HA.out⟩
            | ok cj =>
              obtain ⟨col, j'⟩ := cj
              have HRc3 : Hid (Sch.rdC s (L.drop k1) = .ok (col, j + j')) := HRc2.out
              obtain ⟨v, he, hv, hrd, ha⟩ := hh.good
              obtain ⟨u, hv2, hown⟩ := hv.open
              clear hh hv
              have hcn : col.name = nm := colR_name HMc.out.symm
              have HN3 : Hid (Named w3 w1.heap.size (s.length + 1) (s ++ [col])) := by
                refine Named.names (l := s ++ [⟨nm, ⟨0, []⟩, false, V0⟩]) ⟨_, HO1.out, HPut.out _⟩ ?_
                simp [hcn]
              have HNx := Lib.hid (fun w5 => HI.out.next (w4 := w5) HBt.out hlt HLl.out HRc3.out HA3.out HN3.out ha hown (by rw [← List.drop_drop]; exact hrd))
              have HOn := Lib.hid hown
              obtain ⟨F1, F2, k', tp', tn', tc', vk', vi', vb', vt', vp', vn', vc', hu, -⟩ := hown.out
              subst hu
              subst hv2
              subst he
              unfold cells9 at HOn HNx ⊢
              have hs4 := ha.size
              have hs3 := HA3.out.size
              have hszB : w1.heap.size + 1 ≤ w4.heap.size + 1 := by omega
              clear ha hrd hown HCc HRc2 HMc HO1 HPut hcn
              go_wp2_with (first
                | (at_builtin; refine wp_moreC (B := w1.heap.size + 1) (us := us) (v := .slice q s.length c) (n := s.length) (HNx.out w4).1 (u := #[.string col.name, .int .i64 k', .slice tp' tn' tc', .bool col.has, .int .i64 vk', .int .i64 vi', .float .f64 vb', .string vt', .slice vp' vn' vc']) rfl HOn.out.one9 (ad := w4.heap.size) (blk_new w4 _) (by omega) (by simpa using hszB) (H := w4.heap.size + 1) (by simp) rfl rfl rfl rfl ?_
                   intro g2 cap2 w5 hr5 hg5 hn5
                   have HI5 := Lib.hid ((HNx.out w5).2 g2 cap2 hr5 hg5 (by simpa using hn5))
                   clear hr5 hg5 hn5))
              go_roundw
              case rel =>
                refine ⟨s ++ [col], some ⟨g2, 0, none⟩, cap2, by simp, by simp, by simp; omega, ?_⟩
                have := HI5.out
                rw [List.length_append, List.length_singleton]
                exact this
              case measure => simp [intOf]; omega
      · have hjn : ¬ (s.length : Int) < (n : Int) := by omega
        have hm0 : n - s.length = 0 := by omega
        obtain ⟨k1, hrd, hl⟩ := HI.out.left
        obtain ⟨us, Fs, hbt⟩ := HI.out.built
        have HRok : Hid (r = .ok (s, k + k1)) := by
          show _ = _
          rw [HR2.out, hl, hm0]
          rfl
        have HCs : Hid (isCs w s (.slice q s.length c) wr) := ⟨us, Fs, hbt.low (by have := HI.out.mid; omega)⟩
        have HRd : Hid (Rdr wr A R (l.drop (k + k1))) := by
          show Rdr _ _ _ _
          rw [← List.drop_drop, ← HL.out]
          exact hrd
        have HA := Lib.hid HI.out.aside
        clear hrd hl hbt HI hm0
        go_wp2
        go_ret
        rw [HRok.out]
        exact ⟨_, rfl, HCs.out, HRd.out, HA.out⟩
end Go.Proofs.YtnlhpndjogjejaaGreatDoor

/- K8T: put together. -/
import Derived.Test.YticmkgbjannkkaaM30
import Derived.Test.YticmkgbjannkkaaM13
import Derived.Test.YticmkgbjannkkaaM05

/- The landed row's reader: values that have no items. -/
namespace Go.Proofs.Yticmkgbjannkkaa
open Go.RowKit

attribute [local go_sem] run_store_float

/-- a value in blocks that are new since w -/
def isV (w : World) (x : V) (v : Value) (w' : World) : Prop := ∃ u, v = .agg u ∧ VOwn w' (fun k => w.heap.size ≤ k ∧ k < w'.heap.size) u x
theorem isV.open {w w' : World} {x : V} {v : Value} (h : isV w x v w') : ∃ u, v = .agg u ∧ VOwn w' (fun k => w.heap.size ≤ k ∧ k < w'.heap.size) u x := h
/-- a value's five cells are laid into a place -/
def lay5 (w : World) (N : Nat) (k i : Int) (b : Nat) (t : ByteArray) (s : Value) : World := ((((w.setCell ⟨N, 0, none⟩ (.int .i64 k)).setCell ⟨N, 1, none⟩ (.int .i64 i)).setCell ⟨N, 2, none⟩ (.float .f64 b)).setCell ⟨N, 3, none⟩ (.string t)).setCell ⟨N, 4, none⟩ s
theorem lay5_aside (w : World) (N : Nat) (k i : Int) (b : Nat) (t : ByteArray) (s : Value) : Aside (fun j => j = N) w (lay5 w N k i b t s) := by
  have h0 : Aside (fun j => j = N) w (w.setCell ⟨N, 0, none⟩ (.int .i64 k)) := aside_set _ _ _ _
  have h1 := h0.trans (aside_set _ N 1 (.int .i64 i)) (fun _ _ h => h)
  have h2 := h1.trans (aside_set _ N 2 (.float .f64 b)) (fun _ _ h => h)
  have h3 := h2.trans (aside_set _ N 3 (.string t)) (fun _ _ h => h)
  exact h3.trans (aside_set _ N 4 s) (fun _ _ h => h)
theorem lay5_blk {w : World} {N : Nat} {C : Array Value} (h : w.heap[N]? = some (.cells C 53 (0, 0))) (hC : C.size = 5) (k i : Int) (b : Nat) (t : ByteArray) (q : Option Addr) (n c : Nat) : (lay5 w N k i b t (.slice q n c)).heap[N]? = some (.cells (cells5 k i b t q n c) 53 (0, 0)) := by
  have e : ((((C.set! 0 (.int .i64 k)).set! 1 (.int .i64 i)).set! 2 (.float .f64 b)).set! 3 (.string t)).set! 4 (.slice q n c) = cells5 k i b t q n c := by
    obtain ⟨L⟩ := C
    match L, hC with
    | [a0, a1, a2, a3, a4], _ => rfl
  have h4 := blk_set (blk_set (blk_set (blk_set (blk_set h 0 (.int .i64 k)) 1 (.int .i64 i)) 2 (.float .f64 b)) 3 (.string t)) 4 (.slice q n c)
  rw [e] at h4
  exact h4
theorem lay5_size (w : World) (N : Nat) (k i : Int) (b : Nat) (t : ByteArray) (s : Value) : (lay5 w N k i b t s).heap.size = w.heap.size := by simp [lay5, World.setCell]
/-- the answer is laid into its place -/
theorem finV {L : List UInt8} {w wr : World} {A R N : Nat} {k i : Int} {b : Nat} {t : ByteArray} {q : Option Addr} {n c : Nat} {x : V} {l : List UInt8} {F : Nat → Prop} (hR : R < w.heap.size) (hN : w.heap.size ≤ N) (bN : wr.heap[N]? = some (.cells #[.int .i64 0, .int .i64 0, .float .f64 0, .string ⟨#[]⟩, .slice none 0 0] 53 (0, 0)))
    (hown : VOwn wr F (cells5 k i b t q n c) x) (hF : ∀ j, F j → N < j ∧ j < wr.heap.size) (hrd : Rdr L wr A R l) (ha : Aside (fun j => j = R) w wr) :
    (lay5 wr N k i b t (.slice q n c)).heap[N]? = some (.cells (cells5 k i b t q n c) 53 (0, 0)) ∧ isV w x (.agg (cells5 k i b t q n c)) (lay5 wr N k i b t (.slice q n c)) ∧ Rdr L (lay5 wr N k i b t (.slice q n c)) A R l ∧ Aside (fun j => j = R) w (lay5 wr N k i b t (.slice q n c)) := by
  have h2 := lay5_aside wr N k i b t (.slice q n c)
  have hs := lay5_size wr N k i b t (.slice q n c)
  refine ⟨lay5_blk bN rfl k i b t q n c, ⟨_, rfl, ?_⟩, hrd.aside h2 (fun j hj => by rw [hj]; omega), ha.trans h2 (fun j hj he => by rw [he] at hj; omega)⟩
  rw [hs]
  exact (hown.aside h2 (fun j hj he => by have := hF j hj; omega)).mono (fun j hj => by have := hF j hj; omega)

/-- what stands when the value of a kind is about to be read: the type's copy, the answer's place -/
structure ValIn (L : List UInt8) (w W : World) (A R : Nat) (C0 : Array Value) (l : List UInt8) : Prop where
  b0 : W.heap[w.heap.size]? = some (.cells C0 50 (0, 0))
  b1 : W.heap[w.heap.size + 1]? = some (.cells #[.int .i64 0, .int .i64 0, .float .f64 0, .string ⟨#[]⟩, .slice none 0 0] 53 (0, 0))
  rd : Rdr L W A R l
  aside : Aside (fun i => i = R) w W
  size : w.heap.size + 2 ≤ W.heap.size
section
variable {L : List UInt8}
theorem valIn_start {w : World} {A R : Nat} (C0 : Array Value) {l : List UInt8} (h : Rdr L w A R l) : ValIn L w ((w.alloc (.cells C0 50)).alloc (.cells #[.int .i64 0, .int .i64 0, .float .f64 0, .string ⟨#[]⟩, .slice none 0 0] 53)) A R C0 l := by
  have hb : Below w.heap.size w ((w.alloc (.cells C0 50)).alloc (.cells #[.int .i64 0, .int .i64 0, .float .f64 0, .string ⟨#[]⟩, .slice none 0 0] 53)) := ((Below.refl _ _).alloc (Nat.le_refl _) _).alloc (by simp) _
  refine ⟨?_, ?_, h.on hb, aside_new hb _, by simp⟩
  · rw [blk_old _ _ (by simp)]; exact blk_new w _
  · have := blk_new (w.alloc (.cells C0 50)) (.cells #[.int .i64 0, .int .i64 0, .float .f64 0, .string ⟨#[]⟩, .slice none 0 0] 53)
    simpa using this
theorem ValIn.drew {w W : World} {A R : Nat} {C0 : Array Value} {l : List UInt8} (h : ValIn L w W A R C0 l) : ValIn L w W.drew A R C0 l := ⟨h.b0, h.b1, h.rd.drew, h.aside.drew, h.size⟩
theorem ValIn.on {w W W' : World} {A R : Nat} {C0 : Array Value} {l : List UInt8} (h : ValIn L w W A R C0 l) (hb : Below W.heap.size W W') : ValIn L w W' A R C0 l := by
  have hs := h.size
  exact ⟨by rw [hb.block _ (by omega)]; exact h.b0, by rw [hb.block _ (by omega)]; exact h.b1, h.rd.on hb, h.aside.trans (aside_new hb (fun i => i = R)) (fun _ _ h => h), Nat.le_trans hs hb.size⟩
/-- behind a call of the reader -/
theorem ValIn.step {w W W' : World} {A R : Nat} {C0 : Array Value} {l l' : List UInt8} (h : ValIn L w W A R C0 l) (ha : Aside (fun i => i = R) W W') (hrd : Rdr L W' A R l') (hR : R < w.heap.size) : ValIn L w W' A R C0 l' := by
  have hs := h.size
  refine ⟨?_, ?_, hrd, h.aside.trans ha (fun _ _ h => h), Nat.le_trans hs ha.size⟩
  · rw [ha.block _ (by omega) (by omega)]; exact h.b0
  · rw [ha.block _ (by omega) (by omega)]; exact h.b1
/-- it is told -/
theorem ValIn.fin {w W : World} {A R : Nat} {C0 : Array Value} {l : List UInt8} (h : ValIn L w W A R C0 l) (hR : R < w.heap.size) (k i : Int) (b : Nat) (t : ByteArray) :
    (lay5 W (w.heap.size + 1) k i b t (.slice none 0 0)).heap[w.heap.size + 1]? = some (.cells (cells5 k i b t none 0 0) 53 (0, 0)) ∧ isV w (.mk k i b t []) (.agg (cells5 k i b t none 0 0)) (lay5 W (w.heap.size + 1) k i b t (.slice none 0 0)) ∧ Rdr L (lay5 W (w.heap.size + 1) k i b t (.slice none 0 0)) A R l ∧ Aside (fun j => j = R) w (lay5 W (w.heap.size + 1) k i b t (.slice none 0 0)) :=
  finV (F := fun _ => False) hR (by omega) h.b1 .none (fun _ h => h.elim) h.rd h.aside

theorem scalar_1 (l : List UInt8) : Sch.scalar 1 l = thenR (Sch.bit l) fun n j => .ok (.mk 1 n 0 ⟨#[]⟩ [], j) := by
  unfold Sch.scalar
  rw [if_pos rfl]
  cases Sch.bit l with
  | error e => rfl
  | ok p => rfl
theorem scalar_2 (l : List UInt8) : Sch.scalar 2 l = thenR (Sch.num l) fun n j => .ok (.mk 2 (Leb.zag n) 0 ⟨#[]⟩ [], j) := by
  unfold Sch.scalar
  rw [if_neg (by decide), if_pos rfl]
  cases Sch.num l with
  | error e => rfl
  | ok p => rfl
theorem scalar_3 (l : List UInt8) : Sch.scalar 3 l = thenR (Sch.float l) fun n j => .ok (.mk 3 0 n ⟨#[]⟩ [], j) := by
  unfold Sch.scalar
  rw [if_neg (by decide), if_neg (by decide), if_pos rfl]
  cases Sch.float l with
  | error e => rfl
  | ok p => rfl
theorem scalar_4 (l : List UInt8) : Sch.scalar 4 l = thenR (Sch.text 1024 2 l) fun t j => if utfT t = false then .error 61 else .ok (.mk 4 0 0 t [], j) := by
  unfold Sch.scalar
  rw [if_neg (by decide), if_neg (by decide), if_neg (by decide)]
  cases Sch.text 1024 2 l with
  | error e => rfl
  | ok p =>
    obtain ⟨t, j⟩ := p
    rw [thenR_ok]
    dsimp only
    by_cases h : utfT t = false
    · rw [if_pos ⟨rfl, h⟩, if_pos h]
    · rw [if_neg (fun hc => h hc.2), if_neg h]
theorem scalar_5 (l : List UInt8) : Sch.scalar 5 l = thenR (Sch.text 1024 2 l) fun t j => .ok (.mk 5 0 0 t [], j) := by
  unfold Sch.scalar
  rw [if_neg (by decide), if_neg (by decide), if_neg (by decide)]
  cases Sch.text 1024 2 l with
  | error e => rfl
  | ok p =>
    obtain ⟨t, j⟩ := p
    rw [thenR_ok]
    dsimp only
    rw [if_neg (fun hc => by have := hc.1; omega)]


set_option maxRecDepth 100000 in
set_option maxHeartbeats 1000000 in
theorem readBoolK (l : List UInt8) (A R : Nat) (w : World) (p : Option Addr) (n c : Nat) (h : Rdr L w A R l) : Calls Try.prog 43 #[.pointer (some ⟨R, 0, none⟩), .agg #[.int .i64 1, .slice p n c]] w (RdA L w A R l (Sch.scalar 1 l) (isV w)) := by
  have hR := h.lt
  obtain ⟨W, hW⟩ : ∃ W, W = (w.alloc (.cells #[.int .i64 1, .slice p n c] 50)).alloc (.cells #[.int .i64 0, .int .i64 0, .float .f64 0, .string ⟨#[]⟩, .slice none 0 0] 53) := ⟨_, rfl⟩
  have HI : Hid (ValIn L w W A R #[.int .i64 1, .slice p n c] l) := by rw [hW]; exact valIn_start _ h
  have HW := Lib.hid hW
  obtain ⟨r, hr⟩ : ∃ r, r = Sch.scalar 1 l := ⟨_, rfl⟩
  have HR := Lib.hid (hr.trans (scalar_1 l))
  rw [← hr]
  have HC := Lib.hid (flagK l A R W.drew HI.out.rd.drew)
  obtain ⟨m, hm⟩ : ∃ m, m = Sch.bit l := ⟨_, rfl⟩
  rw [← hm] at HR HC
  have HM := Lib.hid hm
  have k0 : W.cell? ⟨w.heap.size, 0, none⟩ = some (.int .i64 1) := blk_cell HI.out.b0 0
  have q0 : W.cell? ⟨w.heap.size + 1, 0, none⟩ = some (.int .i64 0) := blk_cell HI.out.b1 0
  have qf0 : W.frozen? ⟨w.heap.size + 1, 0, none⟩ = false := blk_free HI.out.b1 0
  have q1 : W.cell? ⟨w.heap.size + 1, 1, none⟩ = some (.int .i64 0) := blk_cell HI.out.b1 1
  have qf1 : W.frozen? ⟨w.heap.size + 1, 1, none⟩ = false := blk_free HI.out.b1 1
  have q2 : W.cell? ⟨w.heap.size + 1, 2, none⟩ = some (.float .f64 0) := blk_cell HI.out.b1 2
  have qf2 : W.frozen? ⟨w.heap.size + 1, 2, none⟩ = false := blk_free HI.out.b1 2
  have q3 : W.cell? ⟨w.heap.size + 1, 3, none⟩ = some (.string ⟨#[]⟩) := blk_cell HI.out.b1 3
  have qf3 : W.frozen? ⟨w.heap.size + 1, 3, none⟩ = false := blk_free HI.out.b1 3
  have q4 : W.cell? ⟨w.heap.size + 1, 4, none⟩ = some (.slice none 0 0) := blk_cell HI.out.b1 4
  have qf4 : W.frozen? ⟨w.heap.size + 1, 4, none⟩ = false := blk_free HI.out.b1 4
  clear hr hm h hW
  cases m with
  | error er =>
    have HR2 : Hid (r = .error er) := HR.out
    clear HR HM
    go_enter Try.func43, Try.ntmps43
    go_wp2_with fail
    rw [← HW.out]
    clear HW
    go_region_law (first
      | (refine step_call1b (.tmp 7) 58 (by rfl) (by rfl) (by rfl) Try.func62 (by kernel_rfl) (by rfl) HC.out (fun e w1 hh => ⟨_, hh.bad.1, rfl, by rw [HR2.out]; exact ⟨rfl, HI.out.aside.drew.trans hh.bad.2 (fun _ _ h => h)⟩⟩) (.int .i64 0) ?_
         intro HF)
      | (refine step_never HF (.int .i64 0) ?_)
      | fail)
    all_goals exact HF.out.elim
  | ok xj =>
    obtain ⟨x, j⟩ := xj
    have HR2 : Hid (r = .ok (.mk 1 (x : Nat) 0 ⟨#[]⟩ [], j)) := HR.out
    clear HR
    clear HM
    go_enter Try.func43, Try.ntmps43
    go_wp2_with fail
    rw [← HW.out]
    clear HW
    go_region_law (first
      | (refine step_call1g (.tmp 7) 58 (by rfl) (by rfl) (by rfl) Try.func62 (by kernel_rfl) (by rfl) HC.out ?_
         intro e w1 hh
         obtain ⟨v, he, hv, hrd, ha⟩ := hh.good
         clear hh
         replace hv : v = .int .i64 (x : Nat) := hv
         subst hv
         refine ⟨_, he, ?_⟩
         clear he
         have HI1 := Lib.hid (HI.out.drew.step ha hrd hR)
         clear ha hrd
         have k1 : w1.cell? ⟨w.heap.size, 0, none⟩ = some (.int .i64 1) := blk_cell HI1.out.b0 0
         have t0 : w1.cell? ⟨w.heap.size + 1, 0, none⟩ = some (.int .i64 0) := blk_cell HI1.out.b1 0
         have tf0 : w1.frozen? ⟨w.heap.size + 1, 0, none⟩ = false := blk_free HI1.out.b1 0
         have t1 : w1.cell? ⟨w.heap.size + 1, 1, none⟩ = some (.int .i64 0) := blk_cell HI1.out.b1 1
         have tf1 : w1.frozen? ⟨w.heap.size + 1, 1, none⟩ = false := blk_free HI1.out.b1 1
         have t2 : w1.cell? ⟨w.heap.size + 1, 2, none⟩ = some (.float .f64 0) := blk_cell HI1.out.b1 2
         have tf2 : w1.frozen? ⟨w.heap.size + 1, 2, none⟩ = false := blk_free HI1.out.b1 2
         have t3 : w1.cell? ⟨w.heap.size + 1, 3, none⟩ = some (.string ⟨#[]⟩) := blk_cell HI1.out.b1 3
         have tf3 : w1.frozen? ⟨w.heap.size + 1, 3, none⟩ = false := blk_free HI1.out.b1 3
         have t4 : w1.cell? ⟨w.heap.size + 1, 4, none⟩ = some (.slice none 0 0) := blk_cell HI1.out.b1 4
         have tf4 : w1.frozen? ⟨w.heap.size + 1, 4, none⟩ = false := blk_free HI1.out.b1 4
         have HFin := Lib.hid (HI1.out.fin hR 1 (x : Nat) 0 ⟨#[]⟩))
      | fail)
    all_goals
      go_wp2
      obtain ⟨f1, f2, f3, f4⟩ := HFin.out
      refine bodyPost_ret (v := .agg (cells5 1 (x : Nat) 0 ⟨#[]⟩ none 0 0)) (results_cell_row rfl _ _ (w.heap.size + 1) _ _ _ _ rfl f1 Try.underlying53 rfl (by kernel_rfl)) rfl ?_
      rw [HR2.out]
      exact ⟨_, rfl, f2, f3, f4⟩

set_option maxRecDepth 100000 in
set_option maxHeartbeats 1000000 in
theorem readIntK (l : List UInt8) (A R : Nat) (w : World) (p : Option Addr) (n c : Nat) (h : Rdr L w A R l) : Calls Try.prog 44 #[.pointer (some ⟨R, 0, none⟩), .agg #[.int .i64 2, .slice p n c]] w (RdA L w A R l (Sch.scalar 2 l) (isV w)) := by
  have hR := h.lt
  obtain ⟨W, hW⟩ : ∃ W, W = (w.alloc (.cells #[.int .i64 2, .slice p n c] 50)).alloc (.cells #[.int .i64 0, .int .i64 0, .float .f64 0, .string ⟨#[]⟩, .slice none 0 0] 53) := ⟨_, rfl⟩
  have HI : Hid (ValIn L w W A R #[.int .i64 2, .slice p n c] l) := by rw [hW]; exact valIn_start _ h
  have HW := Lib.hid hW
  obtain ⟨r, hr⟩ : ∃ r, r = Sch.scalar 2 l := ⟨_, rfl⟩
  have HR := Lib.hid (hr.trans (scalar_2 l))
  rw [← hr]
  have HC := Lib.hid (numberK l A R W.drew HI.out.rd.drew)
  obtain ⟨m, hm⟩ : ∃ m, m = Sch.num l := ⟨_, rfl⟩
  rw [← hm] at HR HC
  have HM := Lib.hid hm
  have k0 : W.cell? ⟨w.heap.size, 0, none⟩ = some (.int .i64 2) := blk_cell HI.out.b0 0
  have q0 : W.cell? ⟨w.heap.size + 1, 0, none⟩ = some (.int .i64 0) := blk_cell HI.out.b1 0
  have qf0 : W.frozen? ⟨w.heap.size + 1, 0, none⟩ = false := blk_free HI.out.b1 0
  have q1 : W.cell? ⟨w.heap.size + 1, 1, none⟩ = some (.int .i64 0) := blk_cell HI.out.b1 1
  have qf1 : W.frozen? ⟨w.heap.size + 1, 1, none⟩ = false := blk_free HI.out.b1 1
  have q2 : W.cell? ⟨w.heap.size + 1, 2, none⟩ = some (.float .f64 0) := blk_cell HI.out.b1 2
  have qf2 : W.frozen? ⟨w.heap.size + 1, 2, none⟩ = false := blk_free HI.out.b1 2
  have q3 : W.cell? ⟨w.heap.size + 1, 3, none⟩ = some (.string ⟨#[]⟩) := blk_cell HI.out.b1 3
  have qf3 : W.frozen? ⟨w.heap.size + 1, 3, none⟩ = false := blk_free HI.out.b1 3
  have q4 : W.cell? ⟨w.heap.size + 1, 4, none⟩ = some (.slice none 0 0) := blk_cell HI.out.b1 4
  have qf4 : W.frozen? ⟨w.heap.size + 1, 4, none⟩ = false := blk_free HI.out.b1 4
  clear hr hm h hW
  cases m with
  | error er =>
    have HR2 : Hid (r = .error er) := HR.out
    clear HR HM
    go_enter Try.func44, Try.ntmps44
    go_wp2_with fail
    rw [← HW.out]
    clear HW
    go_region_law (first
      | (refine step_call1b (.tmp 7) 58 (by rfl) (by rfl) (by rfl) Try.func64 (by kernel_rfl) (by rfl) HC.out (fun e w1 hh => ⟨_, hh.bad.1, rfl, by rw [HR2.out]; exact ⟨rfl, HI.out.aside.drew.trans hh.bad.2 (fun _ _ h => h)⟩⟩) (.int .u64 0) ?_
         intro HF)
      | (refine step_never HF (.int .i64 0) ?_)
      | fail)
    all_goals exact HF.out.elim
  | ok xj =>
    obtain ⟨x, j⟩ := xj
    have HR2 : Hid (r = .ok (.mk 2 (Leb.zag x) 0 ⟨#[]⟩ [], j)) := HR.out
    clear HR
    have HZ := Lib.hid (zag_any x (num_le HM.out.symm).2)
    obtain ⟨z, hz⟩ : ∃ z, z = Leb.zag x := ⟨_, rfl⟩
    rw [← hz] at HZ HR2
    clear hz HM
    go_enter Try.func44, Try.ntmps44
    go_wp2_with fail
    rw [← HW.out]
    clear HW
    go_region_law (first
      | (refine step_call1g (.tmp 7) 58 (by rfl) (by rfl) (by rfl) Try.func64 (by kernel_rfl) (by rfl) HC.out ?_
         intro e w1 hh
         obtain ⟨v, he, hv, hrd, ha⟩ := hh.good
         clear hh
         replace hv : v = .int .u64 (x : Nat) := hv
         subst hv
         refine ⟨_, he, ?_⟩
         clear he
         have HI1 := Lib.hid (HI.out.drew.step ha hrd hR)
         clear ha hrd
         have k1 : w1.cell? ⟨w.heap.size, 0, none⟩ = some (.int .i64 2) := blk_cell HI1.out.b0 0
         have t0 : w1.cell? ⟨w.heap.size + 1, 0, none⟩ = some (.int .i64 0) := blk_cell HI1.out.b1 0
         have tf0 : w1.frozen? ⟨w.heap.size + 1, 0, none⟩ = false := blk_free HI1.out.b1 0
         have t1 : w1.cell? ⟨w.heap.size + 1, 1, none⟩ = some (.int .i64 0) := blk_cell HI1.out.b1 1
         have tf1 : w1.frozen? ⟨w.heap.size + 1, 1, none⟩ = false := blk_free HI1.out.b1 1
         have t2 : w1.cell? ⟨w.heap.size + 1, 2, none⟩ = some (.float .f64 0) := blk_cell HI1.out.b1 2
         have tf2 : w1.frozen? ⟨w.heap.size + 1, 2, none⟩ = false := blk_free HI1.out.b1 2
         have t3 : w1.cell? ⟨w.heap.size + 1, 3, none⟩ = some (.string ⟨#[]⟩) := blk_cell HI1.out.b1 3
         have tf3 : w1.frozen? ⟨w.heap.size + 1, 3, none⟩ = false := blk_free HI1.out.b1 3
         have t4 : w1.cell? ⟨w.heap.size + 1, 4, none⟩ = some (.slice none 0 0) := blk_cell HI1.out.b1 4
         have tf4 : w1.frozen? ⟨w.heap.size + 1, 4, none⟩ = false := blk_free HI1.out.b1 4
         have HFin := Lib.hid (HI1.out.fin hR 2 z 0 ⟨#[]⟩))
      | (refine step_call1g (.tmp 8) 79 (by rfl) (by rfl) (by rfl) Try.func63 (by kernel_rfl) (by rfl) (HZ.out _) ?_
         rintro e w2 ⟨rfl, hw2⟩
         refine ⟨_, rfl, ?_⟩
         rw [hw2]
         clear hw2 w2)
      | fail)
    all_goals
      go_wp2
      obtain ⟨f1, f2, f3, f4⟩ := HFin.out
      refine bodyPost_ret (v := .agg (cells5 2 z 0 ⟨#[]⟩ none 0 0)) (results_cell_row rfl _ _ (w.heap.size + 1) _ _ _ _ rfl f1 Try.underlying53 rfl (by kernel_rfl)) rfl ?_
      rw [HR2.out]
      exact ⟨_, rfl, f2, f3, f4⟩
end
end Go.Proofs.Yticmkgbjannkkaa

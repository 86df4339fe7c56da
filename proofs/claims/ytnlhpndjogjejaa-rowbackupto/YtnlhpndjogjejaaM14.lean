/- K8S, K8T, K8U, K8V: put together. -/
import Derived.Test.YtnlhpndjogjejaaM13
import Derived.Test.YtnlhpndjogjejaaM08
import Derived.Test.YtnlhpndjogjejaaM03

/- The landed row's reader: take, number, count, flag. -/
namespace Go.Proofs.Ytnlhpndjogjejaa
open Go.RowKit

/-- so many bytes -/
def takeR (n : Nat) (l : List UInt8) : Except Nat (List UInt8 × Nat) := if l.length < n then .error 30 else .ok (l.take n, n)
/-- a number of at most that many -/
def countR (most er : Nat) (l : List UInt8) : Except Nat (Nat × Nat) := match Sch.num l with
  | .error e => .error e
  | .ok (n, k) => if most < n then .error er else .ok (n, k)

section
variable {L : List UInt8}

set_option maxRecDepth 100000 in
set_option maxHeartbeats 1000000 in
theorem takeK (n : Nat) (l : List UInt8) (A R : Nat) (w : World) (h : Rdr L w A R l) : Calls Try.prog 105 #[.pointer (some ⟨R, 0, none⟩), .int .i64 n] w (RdA L w A R l (takeR n l) isB) := by
  obtain ⟨T, p, c, a, h1, hla⟩ := h.out
  have hsm := h.small
  have hlow := h.low
  have hpos := h1.pos
  have hcap := h1.cap
  have hll : l.length = L.length - a := by rw [hla, List.length_drop]
  have c1 : w.cell? ⟨R, 1, none⟩ = some (.slice p L.length c) := blk_cell h1.b0 1
  have c2 : w.cell? ⟨R, 2, none⟩ = some (.int .i64 ((a : Nat) : Int)) := blk_cell h1.b0 2
  have f2 := blk_free h1.b0 2
  obtain ⟨r, hr⟩ : ∃ r, r = takeR n l := ⟨_, rfl⟩
  rw [← hr]
  have i1 : (a : Int) ≤ (L.length : Int) := by omega
  have i2 : (L.length : Int) ≤ 140737488351232 := by omega
  have hwr : IntKind.i64.wrap ((L.length : Int) - (a : Int)) = (L.length : Int) - (a : Int) := by rw [IntKind.wrap_i64]; omega
  by_cases hlt : l.length < n
  · have g0 : decide ((n : Int) ≤ (L.length : Int) - (a : Int)) = false := decide_eq_false (by omega)
    have HR : Hid (r = .error 30) := by show _ = _; rw [hr, takeR, if_pos hlt]
    clear hr hlt h1 h hla hll hsm hpos hcap
    go_enter Try.func105, Try.ntmps105
    go_wp2_with fail
    go_region_law (first
      | (refine step_call3b (.tmp 6) (.tmp 18) (.const (.int .i64 30)) 71 4 31 (by rfl) (by rfl) (by rfl) (by rfl) (by rfl) Try.func28 (by kernel_rfl) (by rfl) (need_f _ 30 _) (fun e w1 hh => ⟨_, hh.1, rfl, by rw [HR.out, hh.2]; exact ⟨rfl, (Aside.refl _ _).drew⟩⟩) (.tuple #[]) ?_
         intro HF)
      | (refine step_never HF (.tuple #[]) ?_)
      | fail)
    all_goals exact HF.out.elim
  · have g0 : decide ((n : Int) ≤ (L.length : Int) - (a : Int)) = true := decide_eq_true (by omega)
    have HR : Hid (r = .ok (l.take n, n)) := by show _ = _; rw [hr, takeR, if_neg hlt]
    have i3 : (a : Int) + (n : Int) ≤ 140737488351232 := by omega
    have ecast : (a : Int) + (n : Int) = ((a + n : Nat) : Int) := by omega
    have hwr2 : IntKind.i64.wrap ((a : Int) + (n : Int)) = (a : Int) + (n : Int) := by rw [IntKind.wrap_i64]; omega
    have s1 : ∀ w, (Instr.slice 28 (.slice p L.length c) (some (.int .i64 (a : Int))) (some (.int .i64 ((a : Int) + (n : Int)))) none).run Try.prog w = .ok (.slice (cutP p a c) n (c - a)) w := fun w => by
      have := run_cut_lh p L.length c a (a + n) (by omega) (by omega) w
      rw [Nat.add_sub_cancel_left, ← ecast] at this
      exact this
    have HFin : Hid (∀ W, Below w.heap.size w W → isB (l.take n) (.slice (cutP p a c) n (c - a)) (W.setCell ⟨R, 2, none⟩ (.int .i64 ((a : Int) + (n : Int)))) ∧ Rdr L (W.setCell ⟨R, 2, none⟩ (.int .i64 ((a : Int) + (n : Int)))) A R (l.drop n) ∧ Aside (fun i => i = R) w (W.setCell ⟨R, 2, none⟩ (.int .i64 ((a : Int) + (n : Int))))) := by
      intro W hb
      have hR := blk_lt h1.b0
      have h2 := h1.keep hlow (w' := W) (fun k hk => hb.block k (by omega)) hb.size
      have hM := h2.move hlow (a + n) (by omega)
      rw [ecast]
      refine ⟨?_, ⟨⟨T, p, c, a + n, hM, by rw [hla, List.drop_drop]⟩, hsm, hlow⟩, (aside_new hb _).trans (aside_set _ _ _ _) (fun _ _ h => h)⟩
      have e1 : (l.take n).length = n := by rw [List.length_take]; omega
      refine ⟨cutP p a c, c - a, by rw [e1], ?_, by omega⟩
      rw [hla]
      have h3 := hM.lies.cut a c hcap
      rcases h3 with h3 | ⟨b, o, h3, hb, hcs⟩
      · exact .inl (by rw [h3, List.take_nil])
      · exact .inr ⟨b, o, h3, hb, cells_take hcs n⟩
    clear hr hlt h1 h hla hll hsm hpos hcap ecast
    go_enter Try.func105, Try.ntmps105
    go_wp2_with fail
    go_region_law (first
      | (refine step_call3g (.tmp 6) (.tmp 18) (.const (.int .i64 30)) 71 4 31 (by rfl) (by rfl) (by rfl) (by rfl) (by rfl) Try.func28 (by kernel_rfl) (by rfl) (need_t _ 30 _) ?_
         rintro e w1 ⟨rfl, hw1⟩
         refine ⟨_, rfl, ?_⟩
         rw [hw1]
         clear hw1 w1)
      | fail)
    all_goals
      go_wp2_with fail
      go_region_law (fail)
      all_goals
        go_wp2
        go_ret
        obtain ⟨f1, f2, f3⟩ := HFin.out w.drew.drew (Below.refl _ _).drew.drew
        rw [HR.out]
        exact ⟨_, rfl, f1, f2, f3⟩

theorem RdA.good {α : Type} {w w' : World} {A R : Nat} {l : List UInt8} {a : α} {j : Nat} {V : α → Value → World → Prop} {e : Ending} (h : RdA L w A R l (.ok (a, j)) V e w') : ∃ v, e = .returned v ∧ V a v w' ∧ Rdr L w' A R (l.drop j) ∧ Aside (fun i => i = R) w w' := h
theorem RdA.bad {α : Type} {w w' : World} {A R : Nat} {l : List UInt8} {k : Nat} {V : α → Value → World → Prop} {e : Ending} (h : RdA L w A R l (.error k) V e w') : e = .panicked (errV k) ∧ Aside (fun i => i = R) w w' := h
theorem isB.open {b : List UInt8} {v : Value} {w : World} (h : isB b v w) : ∃ q c, v = .slice q b.length c ∧ At w q b ∧ b.length ≤ c := h
theorem num_le {l : List UInt8} {n k : Nat} (h : Sch.num l = .ok (n, k)) : k ≤ l.length ∧ n < 18446744073709551616 := by
  obtain ⟨h1, r, h2, h3⟩ := Sch.num_ok h
  refine ⟨?_, h1⟩
  rw [h3, h2, List.length_append]
  omega

set_option maxRecDepth 100000 in
set_option maxHeartbeats 1000000 in
theorem numberK (l : List UInt8) (A R : Nat) (w : World) (h : Rdr L w A R l) : Calls Try.prog 104 #[.pointer (some ⟨R, 0, none⟩)] w (RdA L w A R l (Sch.num l) isU) := by
  obtain ⟨T, p, c, a, h1, hla⟩ := h.out
  have hsm := h.small
  have hlow := h.low
  have hpos := h1.pos
  have c1 : w.cell? ⟨R, 1, none⟩ = some (.slice p L.length c) := blk_cell h1.b0 1
  have c2 : w.cell? ⟨R, 2, none⟩ = some (.int .i64 ((a : Nat) : Int)) := blk_cell h1.b0 2
  have f2 := blk_free h1.b0 2
  have HG := Lib.hid (fun w hat => get_any p c L (a : Int) (by omega) h1.cap w hat)
  have hat' : At w.drew p L := h1.lies
  have h2d := Lib.hid hat'
  clear hat'
  rw [gotV_num, ← hla] at HG
  obtain ⟨r, hr⟩ : ∃ r, r = Sch.num l := ⟨_, rfl⟩
  rw [← hr] at HG ⊢
  cases r with
  | error er =>
    have he0 : er ≠ 0 := by
      intro he
      have := hr.symm
      unfold Sch.num at this
      split at this
      · cases this
      · next h0 => injection this with this; omega
    have g0 : ((er : Int) == 0) = false := beq_f (by omega)
    have e1 : numV a (.error er) = .tuple #[.int .u64 0, .int .i64 0, .int .i64 (er : Nat)] := rfl
    rw [e1] at HG
    clear e1 hr h1 h he0 hla hpos hsm
    go_enter Try.func104, Try.ntmps104
    go_wp2_with fail
    go_region_law (first
      | (refine step_call2g (.tmp 10) (.tmp 14) 28 3 (by rfl) (by rfl) (by rfl) (by rfl) Try.func120 (by kernel_rfl) (by rfl) (HG.out _ h2d.out) ?_
         rintro e w1 ⟨rfl, hw1⟩
         refine ⟨_, rfl, ?_⟩
         rw [hw1]
         clear hw1 w1)
      | fail)
    all_goals
      go_wp2_with fail
      refine (need_f _ er _).mono ?_
      rintro e w1 ⟨rfl, hw1⟩
      rw [hw1]
      clear hw1 w1
      go_wp2
      exact ⟨rfl, rfl, (Aside.refl _ _).drew⟩
  | ok nk =>
    obtain ⟨n, k⟩ := nk
    have e1 : numV a (.ok (n, k)) = .tuple #[.int .u64 (n : Nat), .int .i64 ((a + k : Nat) : Int), .int .i64 0] := rfl
    rw [e1] at HG
    clear e1
    obtain ⟨hk, -⟩ := num_le hr.symm
    have HFin : Hid (∀ W, Below w.heap.size w W → Rdr L (W.setCell ⟨R, 2, none⟩ (.int .i64 ((a + k : Nat) : Int))) A R (l.drop k) ∧ Aside (fun i => i = R) w (W.setCell ⟨R, 2, none⟩ (.int .i64 ((a + k : Nat) : Int)))) := by
      intro W hb
      have hR := blk_lt h1.b0
      have h2 := h1.keep hlow (w' := W) (fun k hk => hb.block k (by omega)) hb.size
      exact ⟨⟨⟨T, p, c, a + k, h2.move hlow (a + k) (by rw [hla, List.length_drop] at hk; omega), by rw [hla, List.drop_drop]⟩, hsm, hlow⟩, (aside_new hb _).trans (aside_set _ _ _ _) (fun _ _ h => h)⟩
    obtain ⟨m, hm⟩ : ∃ m, m = a + k := ⟨_, rfl⟩
    rw [← hm] at HG HFin
    clear hr h1 h hk hla hpos hsm hm
    go_enter Try.func104, Try.ntmps104
    go_wp2_with fail
    go_region_law (first
      | (refine step_call2g (.tmp 10) (.tmp 14) 28 3 (by rfl) (by rfl) (by rfl) (by rfl) Try.func120 (by kernel_rfl) (by rfl) (HG.out _ h2d.out) ?_
         rintro e w1 ⟨rfl, hw1⟩
         refine ⟨_, rfl, ?_⟩
         rw [hw1]
         clear hw1 w1)
      | fail)
    all_goals
      go_wp2_with fail
      refine (need_t _ 0 _).mono ?_
      rintro e w1 ⟨rfl, hw1⟩
      rw [hw1]
      clear hw1 w1
      go_wp2
      go_ret
      obtain ⟨f1, f2⟩ := HFin.out w.drew (Below.refl _ _).drew
      exact ⟨_, rfl, rfl, f1, f2⟩

set_option maxRecDepth 100000 in
set_option maxHeartbeats 1000000 in
theorem countK (most er : Nat) (hm : most ≤ 1024) (l : List UInt8) (A R : Nat) (w : World) (h : Rdr L w A R l) : Calls Try.prog 108 #[.pointer (some ⟨R, 0, none⟩), .int .u64 most, .int .i64 er] w (RdA L w A R l (countR most er l) isI) := by
  have HN := Lib.hid (numberK l A R w h)
  obtain ⟨r, hr⟩ : ∃ r, r = countR most er l := ⟨_, rfl⟩
  have HR : Hid (r = match Sch.num l with
    | .error e => .error e
    | .ok (n, k) => if most < n then .error er else .ok (n, k)) := hr
  rw [← hr]
  clear h hr
  obtain ⟨m, hm0⟩ : ∃ m, m = Sch.num l := ⟨_, rfl⟩
  rw [← hm0] at HN HR
  have HM := Lib.hid hm0
  clear hm0
  cases m with
  | error e0 =>
    go_enter Try.func108, Try.ntmps108
    go_wp2_with fail
    refine HN.out.mono ?_
    intro e w1 hh
    obtain ⟨he, ha⟩ := hh.bad
    subst he
    clear hh
    have HA := Lib.hid ha
    clear ha HN
    go_wp2
    rw [HR.out]
    exact ⟨rfl, rfl, HA.out⟩
  | ok nk =>
    obtain ⟨n, k⟩ := nk
    have hn64 := (num_le HM.out.symm).2
    by_cases hlt : most < n
    · have HR2 : Hid (r = .error er) := by show _ = _; rw [HR.out]; exact if_pos hlt
      have g0 : ¬ n ≤ most := by omega
      clear HR hlt
      go_enter Try.func108, Try.ntmps108
      go_wp2_with fail
      refine HN.out.mono ?_
      intro e w1 hh
      obtain ⟨v, he, hv, -, ha⟩ := hh.good
      clear hh
      replace hv : v = .int .u64 (n : Nat) := hv
      subst hv
      subst he
      have HA := Lib.hid ha
      clear ha HN
      go_wp2_with fail
      refine (need_f _ er _).mono ?_
      rintro e w2 ⟨rfl, hw2⟩
      rw [hw2]
      clear hw2 w2
      go_wp2
      rw [HR2.out]
      exact ⟨rfl, rfl, HA.out⟩
    · have HR2 : Hid (r = .ok (n, k)) := by show _ = _; rw [HR.out]; exact if_neg hlt
      have g0 : n ≤ most := by omega
      have g1 : (n : Int) ≤ 1024 := by omega
      clear HR hlt
      go_enter Try.func108, Try.ntmps108
      go_wp2_with fail
      refine HN.out.mono ?_
      intro e w1 hh
      obtain ⟨v, he, hv, hrd, ha⟩ := hh.good
      clear hh
      replace hv : v = .int .u64 (n : Nat) := hv
      subst hv
      subst he
      have HA := Lib.hid ha
      have HRd := Lib.hid hrd
      clear ha HN hrd
      go_wp2_with fail
      refine (need_t _ er _).mono ?_
      rintro e w2 ⟨rfl, hw2⟩
      rw [hw2]
      clear hw2 w2
      go_wp2
      go_ret
      rw [HR2.out]
      exact ⟨_, rfl, rfl, HRd.out, HA.out⟩

set_option maxRecDepth 100000 in
set_option maxHeartbeats 1000000 in
theorem flagK (l : List UInt8) (A R : Nat) (w : World) (h : Rdr L w A R l) : Calls Try.prog 102 #[.pointer (some ⟨R, 0, none⟩)] w (RdA L w A R l (Sch.bit l) isI) := by
  have HT := Lib.hid (takeK 1 l A R w h)
  clear h
  cases l with
  | nil =>
    have e1 : takeR 1 [] = .error 30 := rfl
    rw [e1] at HT
    go_enter Try.func102, Try.ntmps102
    go_wp2_with fail
    refine HT.out.mono ?_
    intro e w1 hh
    obtain ⟨he, ha⟩ := hh.bad
    subst he
    clear hh
    have HA := Lib.hid ha
    clear ha HT
    go_wp2
    exact ⟨rfl, rfl, HA.out⟩
  | cons b t =>
    have e1 : takeR 1 (b :: t) = .ok ([b], 1) := by
      unfold takeR
      rw [if_neg (by simp)]
      rfl
    rw [e1] at HT
    have hb := b.toNat_lt
    by_cases hlt : 1 < b.toNat
    · have e2 : Sch.bit (b :: t) = .error 5 := by rw [Sch.bit, if_pos hlt]
      have g0 : decide ((b.toNat : Int) ≤ 1) = false := decide_eq_false (by omega)
      rw [e2]
      clear e1 e2
      go_enter Try.func102, Try.ntmps102
      go_wp2_with fail
      refine HT.out.mono ?_
      intro e w1 hh
      obtain ⟨v, he, hv, -, ha⟩ := hh.good
      obtain ⟨q, c, hv, hat, -⟩ := hv.open
      clear hh
      subst hv
      subst he
      obtain ⟨bq, oq, rfl, -, hcs⟩ := at_some hat (by simp)
      have d0 : w1.cell? ⟨bq, oq, none⟩ = some (.int .u8 (b.toNat : Int)) := hcs 0 (by simp)
      have HA := Lib.hid ha
      clear ha HT hat hcs
      go_wp2_with fail
      refine (need_f _ 5 _).mono ?_
      rintro e w2 ⟨rfl, hw2⟩
      rw [hw2]
      clear hw2 w2
      go_wp2
      exact ⟨rfl, rfl, HA.out⟩
    · have e2 : Sch.bit (b :: t) = .ok (b.toNat, 1) := by rw [Sch.bit, if_neg hlt]
      have g0 : decide ((b.toNat : Int) ≤ 1) = true := decide_eq_true (by omega)
      rw [e2]
      clear e1 e2
      go_enter Try.func102, Try.ntmps102
      go_wp2_with fail
      refine HT.out.mono ?_
      intro e w1 hh
      obtain ⟨v, he, hv, hrd, ha⟩ := hh.good
      obtain ⟨q, c, hv, hat, -⟩ := hv.open
      clear hh
      subst hv
      subst he
      obtain ⟨bq, oq, rfl, -, hcs⟩ := at_some hat (by simp)
      have d0 : w1.cell? ⟨bq, oq, none⟩ = some (.int .u8 (b.toNat : Int)) := hcs 0 (by simp)
      have HA := Lib.hid ha
      have HRd := Lib.hid hrd
      clear ha HT hat hcs hrd
      go_wp2_with fail
      refine (need_t _ 5 _).mono ?_
      rintro e w2 ⟨rfl, hw2⟩
      rw [hw2]
      clear hw2 w2
      go_wp2
      go_ret
      exact ⟨_, rfl, rfl, HRd.out, HA.out⟩

/-- what was read, then what comes of it -/
def thenR {α β : Type} (r : Except Nat (α × Nat)) (f : α → Nat → Except Nat β) : Except Nat β := match r with
  | .error e => .error e
  | .ok (a, k) => f a k
theorem thenR_ok {α β : Type} (a : α) (k : Nat) (f : α → Nat → Except Nat β) : thenR (.ok (a, k)) f = f a k := rfl
theorem thenR_error {α β : Type} (e : Nat) (f : α → Nat → Except Nat β) : thenR (.error e) f = .error e := rfl
theorem text_count (most er : Nat) (l : List UInt8) : Sch.text most er l = thenR (countR most er l) fun n k => thenR (takeR n (l.drop k)) fun b j => .ok (textOf b, k + j) := by
  unfold Sch.text countR
  cases Sch.num l with
  | error e => rfl
  | ok nk =>
    obtain ⟨n, k⟩ := nk
    dsimp only
    by_cases h : most < n
    · rw [if_pos h, if_pos h]; rfl
    · rw [if_neg h, if_neg h, thenR_ok]
      unfold takeR
      rw [List.length_drop]
      by_cases h2 : l.length - k < n
      · rw [if_pos h2, if_pos h2]; rfl
      · rw [if_neg h2, if_neg h2]
        rfl
end
end Go.Proofs.Ytnlhpndjogjejaa

/- The landed row's reader: values that have no items. -/
namespace Go.Proofs.Ytnlhpndjogjejaa
open Go.RowKit

attribute [local go_sem] run_store_float

/-- a value in blocks that are new since w -/
def isV (w : World) (x : V) (v : Value) (w' : World) : Prop := ∃ u, v = .agg u ∧ VOwn w' (fun k => w.heap.size ≤ k ∧ k < w'.heap.size) u x
theorem isV.open {w w' : World} {x : V} {v : Value} (h : isV w x v w') : ∃ u, v = .agg u ∧ VOwn w' (fun k => w.heap.size ≤ k ∧ k < w'.heap.size) u x := h
/-- a value's five cells are laid into a place -/
def lay5 (w : World) (N : Nat) (k i : Int) (b : Nat) (t : ByteArray) (s : Value) : World := ((((w.setCell ⟨N, 0, none⟩ (.int .i64 k)).setCell ⟨N, 1, none⟩ (.int .i64 i)).setCell ⟨N, 2, none⟩ (.float .f64 b)).setCell ⟨N, 3, none⟩ (.string t)).setCell ⟨N, 4, none⟩ s
theorem lay5_aside (w : World) (N : Nat) (k i : Int) (b : Nat) (t : ByteArray) (s : Value) : Aside (fun j => j = N) w (lay5 w N k i b t s) := by
  have h0 : Aside (fun j => j = N) w (w.setCell ⟨N, 0, none⟩ (.int .i64 k)) := aside_set _ _ _ _
  have h1 := h0.trans (aside_set _ N 1 (.int .i64 i)) (fun _ _ h => h)
  have h2 := h1.trans (aside_set _ N 2 (.float .f64 b)) (fun _ _ h => h)
  have h3 := h2.trans (aside_set _ N 3 (.string t)) (fun _ _ h => h)
  exact h3.trans (aside_set _ N 4 s) (fun _ _ h => h)
theorem lay5_blk {w : World} {N : Nat} {C : Array Value} (h : w.heap[N]? = some (.cells C 46 (0, 0))) (hC : C.size = 5) (k i : Int) (b : Nat) (t : ByteArray) (q : Option Addr) (n c : Nat) : (lay5 w N k i b t (.slice q n c)).heap[N]? = some (.cells (cells5 k i b t q n c) 46 (0, 0)) := by
  have e : ((((C.set! 0 (.int .i64 k)).set! 1 (.int .i64 i)).set! 2 (.float .f64 b)).set! 3 (.string t)).set! 4 (.slice q n c) = cells5 k i b t q n c := by
    obtain ⟨L⟩ := C
    match L, hC with
    | [a0, a1, a2, a3, a4], _ => rfl
  have h4 := blk_set (blk_set (blk_set (blk_set (blk_set h 0 (.int .i64 k)) 1 (.int .i64 i)) 2 (.float .f64 b)) 3 (.string t)) 4 (.slice q n c)
  rw [e] at h4
  exact h4
theorem lay5_size (w : World) (N : Nat) (k i : Int) (b : Nat) (t : ByteArray) (s : Value) : (lay5 w N k i b t s).heap.size = w.heap.size := by simp [lay5, World.setCell]
/-- the answer is laid into its place -/
theorem finV {L : List UInt8} {w wr : World} {A R N : Nat} {k i : Int} {b : Nat} {t : ByteArray} {q : Option Addr} {n c : Nat} {x : V} {l : List UInt8} {F : Nat → Prop} (hR : R < w.heap.size) (hN : w.heap.size ≤ N) (bN : wr.heap[N]? = some (.cells #[.int .i64 0, .int .i64 0, .float .f64 0, .string ⟨#[]⟩, .slice none 0 0] 46 (0, 0)))
    (hown : VOwn wr F (cells5 k i b t q n c) x) (hF : ∀ j, F j → N < j ∧ j < wr.heap.size) (hrd : Rdr L wr A R l) (ha : Aside (fun j => j = R) w wr) :
    (lay5 wr N k i b t (.slice q n c)).heap[N]? = some (.cells (cells5 k i b t q n c) 46 (0, 0)) ∧ isV w x (.agg (cells5 k i b t q n c)) (lay5 wr N k i b t (.slice q n c)) ∧ Rdr L (lay5 wr N k i b t (.slice q n c)) A R l ∧ Aside (fun j => j = R) w (lay5 wr N k i b t (.slice q n c)) := by
  have h2 := lay5_aside wr N k i b t (.slice q n c)
  have hs := lay5_size wr N k i b t (.slice q n c)
  refine ⟨lay5_blk bN rfl k i b t q n c, ⟨_, rfl, ?_⟩, hrd.aside h2 (fun j hj => by rw [hj]; omega), ha.trans h2 (fun j hj he => by rw [he] at hj; omega)⟩
  rw [hs]
  exact (hown.aside h2 (fun j hj he => by have := hF j hj; omega)).mono (fun j hj => by have := hF j hj; omega)

/-- what stands when the value of a kind is about to be read: the type's copy, the answer's place -/
structure ValIn (L : List UInt8) (w W : World) (A R : Nat) (C0 : Array Value) (l : List UInt8) : Prop where
  b0 : W.heap[w.heap.size]? = some (.cells C0 43 (0, 0))
  b1 : W.heap[w.heap.size + 1]? = some (.cells #[.int .i64 0, .int .i64 0, .float .f64 0, .string ⟨#[]⟩, .slice none 0 0] 46 (0, 0))
  rd : Rdr L W A R l
  aside : Aside (fun i => i = R) w W
  size : w.heap.size + 2 ≤ W.heap.size
section
variable {L : List UInt8}
theorem valIn_start {w : World} {A R : Nat} (C0 : Array Value) {l : List UInt8} (h : Rdr L w A R l) : ValIn L w ((w.alloc (.cells C0 43)).alloc (.cells #[.int .i64 0, .int .i64 0, .float .f64 0, .string ⟨#[]⟩, .slice none 0 0] 46)) A R C0 l := by
  have hb : Below w.heap.size w ((w.alloc (.cells C0 43)).alloc (.cells #[.int .i64 0, .int .i64 0, .float .f64 0, .string ⟨#[]⟩, .slice none 0 0] 46)) := ((Below.refl _ _).alloc (Nat.le_refl _) _).alloc (by simp) _
  refine ⟨?_, ?_, h.on hb, aside_new hb _, by simp⟩
  · rw [blk_old _ _ (by simp)]; exact blk_new w _
  · have := blk_new (w.alloc (.cells C0 43)) (.cells #[.int .i64 0, .int .i64 0, .float .f64 0, .string ⟨#[]⟩, .slice none 0 0] 46)
    simpa using this
theorem ValIn.drew {w W : World} {A R : Nat} {C0 : Array Value} {l : List UInt8} (h : ValIn L w W A R C0 l) : ValIn L w W.drew A R C0 l := ⟨h.b0, h.b1, h.rd.drew, h.aside.drew, h.size⟩
theorem ValIn.on {w W W' : World} {A R : Nat} {C0 : Array Value} {l : List UInt8} (h : ValIn L w W A R C0 l) (hb : Below W.heap.size W W') : ValIn L w W' A R C0 l := by
  have hs := h.size
  exact ⟨by rw [hb.block _ (by omega)]; exact h.b0, by rw [hb.block _ (by omega)]; exact h.b1, h.rd.on hb, h.aside.trans (aside_new hb (fun i => i = R)) (fun _ _ h => h), Nat.le_trans hs hb.size⟩
/-- behind a call of the reader -/
theorem ValIn.step {w W W' : World} {A R : Nat} {C0 : Array Value} {l l' : List UInt8} (h : ValIn L w W A R C0 l) (ha : Aside (fun i => i = R) W W') (hrd : Rdr L W' A R l') (hR : R < w.heap.size) : ValIn L w W' A R C0 l' := by
  have hs := h.size
  refine ⟨?_, ?_, hrd, h.aside.trans ha (fun _ _ h => h), Nat.le_trans hs ha.size⟩
  · rw [ha.block _ (by omega) (by omega)]; exact h.b0
  · rw [ha.block _ (by omega) (by omega)]; exact h.b1
/-- it is told -/
theorem ValIn.fin {w W : World} {A R : Nat} {C0 : Array Value} {l : List UInt8} (h : ValIn L w W A R C0 l) (hR : R < w.heap.size) (k i : Int) (b : Nat) (t : ByteArray) :
    (lay5 W (w.heap.size + 1) k i b t (.slice none 0 0)).heap[w.heap.size + 1]? = some (.cells (cells5 k i b t none 0 0) 46 (0, 0)) ∧ isV w (.mk k i b t []) (.agg (cells5 k i b t none 0 0)) (lay5 W (w.heap.size + 1) k i b t (.slice none 0 0)) ∧ Rdr L (lay5 W (w.heap.size + 1) k i b t (.slice none 0 0)) A R l ∧ Aside (fun j => j = R) w (lay5 W (w.heap.size + 1) k i b t (.slice none 0 0)) :=
  finV (F := fun _ => False) hR (by omega) h.b1 .none (fun _ h => h.elim) h.rd h.aside

theorem scalar_1 (l : List UInt8) : Sch.scalar 1 l = thenR (Sch.bit l) fun n j => .ok (.mk 1 n 0 ⟨#[]⟩ [], j) := by
  unfold Sch.scalar
  rw [if_pos rfl]
  cases Sch.bit l with
  | error e => rfl
  | ok p => rfl
theorem scalar_2 (l : List UInt8) : Sch.scalar 2 l = thenR (Sch.num l) fun n j => .ok (.mk 2 (Leb.zag n) 0 ⟨#[]⟩ [], j) := by
  unfold Sch.scalar
  rw [if_neg (by decide), if_pos rfl]
  cases Sch.num l with
  | error e => rfl
  | ok p => rfl
theorem scalar_3 (l : List UInt8) : Sch.scalar 3 l = thenR (Sch.float l) fun n j => .ok (.mk 3 0 n ⟨#[]⟩ [], j) := by
  unfold Sch.scalar
  rw [if_neg (by decide), if_neg (by decide), if_pos rfl]
  cases Sch.float l with
  | error e => rfl
  | ok p => rfl
theorem scalar_4 (l : List UInt8) : Sch.scalar 4 l = thenR (Sch.text 1024 2 l) fun t j => if utfT t = false then .error 61 else .ok (.mk 4 0 0 t [], j) := by
  unfold Sch.scalar
  rw [if_neg (by decide), if_neg (by decide), if_neg (by decide)]
  cases Sch.text 1024 2 l with
  | error e => rfl
  | ok p =>
    obtain ⟨t, j⟩ := p
    rw [thenR_ok]
    dsimp only
    by_cases h : utfT t = false
    · rw [if_pos ⟨rfl, h⟩, if_pos h]
    · rw [if_neg (fun hc => h hc.2), if_neg h]
theorem scalar_5 (l : List UInt8) : Sch.scalar 5 l = thenR (Sch.text 1024 2 l) fun t j => .ok (.mk 5 0 0 t [], j) := by
  unfold Sch.scalar
  rw [if_neg (by decide), if_neg (by decide), if_neg (by decide)]
  cases Sch.text 1024 2 l with
  | error e => rfl
  | ok p =>
    obtain ⟨t, j⟩ := p
    rw [thenR_ok]
    dsimp only
    rw [if_neg (fun hc => by have := hc.1; omega)]


set_option maxRecDepth 100000 in
set_option maxHeartbeats 1000000 in
theorem readBoolK (l : List UInt8) (A R : Nat) (w : World) (p : Option Addr) (n c : Nat) (h : Rdr L w A R l) : Calls Try.prog 78 #[.pointer (some ⟨R, 0, none⟩), .agg #[.int .i64 1, .slice p n c]] w (RdA L w A R l (Sch.scalar 1 l) (isV w)) := by
  have hR := h.lt
  obtain ⟨W, hW⟩ : ∃ W, W = (w.alloc (.cells #[.int .i64 1, .slice p n c] 43)).alloc (.cells #[.int .i64 0, .int .i64 0, .float .f64 0, .string ⟨#[]⟩, .slice none 0 0] 46) := ⟨_, rfl⟩
  have HI : Hid (ValIn L w W A R #[.int .i64 1, .slice p n c] l) := by rw [hW]; exact valIn_start _ h
  have HW := Lib.hid hW
  obtain ⟨r, hr⟩ : ∃ r, r = Sch.scalar 1 l := ⟨_, rfl⟩
  have HR := Lib.hid (hr.trans (scalar_1 l))
  rw [← hr]
  have HC := Lib.hid (flagK l A R W.drew HI.out.rd.drew)
  obtain ⟨m, hm⟩ : ∃ m, m = Sch.bit l := ⟨_, rfl⟩
  rw [← hm] at HR HC
  have HM := Lib.hid hm
  have k0 : W.cell? ⟨w.heap.size, 0, none⟩ = some (.int .i64 1) := blk_cell HI.out.b0 0
  have q0 : W.cell? ⟨w.heap.size + 1, 0, none⟩ = some (.int .i64 0) := blk_cell HI.out.b1 0
  have qf0 : W.frozen? ⟨w.heap.size + 1, 0, none⟩ = false := blk_free HI.out.b1 0
  have q1 : W.cell? ⟨w.heap.size + 1, 1, none⟩ = some (.int .i64 0) := blk_cell HI.out.b1 1
  have qf1 : W.frozen? ⟨w.heap.size + 1, 1, none⟩ = false := blk_free HI.out.b1 1
  have q2 : W.cell? ⟨w.heap.size + 1, 2, none⟩ = some (.float .f64 0) := blk_cell HI.out.b1 2
  have qf2 : W.frozen? ⟨w.heap.size + 1, 2, none⟩ = false := blk_free HI.out.b1 2
  have q3 : W.cell? ⟨w.heap.size + 1, 3, none⟩ = some (.string ⟨#[]⟩) := blk_cell HI.out.b1 3
  have qf3 : W.frozen? ⟨w.heap.size + 1, 3, none⟩ = false := blk_free HI.out.b1 3
  have q4 : W.cell? ⟨w.heap.size + 1, 4, none⟩ = some (.slice none 0 0) := blk_cell HI.out.b1 4
  have qf4 : W.frozen? ⟨w.heap.size + 1, 4, none⟩ = false := blk_free HI.out.b1 4
  clear hr hm h hW
  cases m with
  | error er =>
    have HR2 : Hid (r = .error er) := HR.out
    clear HR HM
    go_enter Try.func78, Try.ntmps78
    go_wp2_with fail
    rw [← HW.out]
    clear HW
    go_region_law (first
      | (refine step_call1b (.tmp 7) 71 (by rfl) (by rfl) (by rfl) Try.func102 (by kernel_rfl) (by rfl) HC.out (fun e w1 hh => ⟨_, hh.bad.1, rfl, by rw [HR2.out]; exact ⟨rfl, HI.out.aside.drew.trans hh.bad.2 (fun _ _ h => h)⟩⟩) (.int .i64 0) ?_
         intro HF)
      | (refine step_never HF (.int .i64 0) ?_)
      | fail)
    all_goals exact HF.out.elim
  | ok xj =>
    obtain ⟨x, j⟩ := xj
    have HR2 : Hid (r = .ok (.mk 1 (x : Nat) 0 ⟨#[]⟩ [], j)) := HR.out
    clear HR
    clear HM
    go_enter Try.func78, Try.ntmps78
    go_wp2_with fail
    rw [← HW.out]
    clear HW
    go_region_law (first
      | (refine step_call1g (.tmp 7) 71 (by rfl) (by rfl) (by rfl) Try.func102 (by kernel_rfl) (by rfl) HC.out ?_
         intro e w1 hh
         obtain ⟨v, he, hv, hrd, ha⟩ := hh.good
         clear hh
         replace hv : v = .int .i64 (x : Nat) := hv
         subst hv
         refine ⟨_, he, ?_⟩
         clear he
         have HI1 := Lib.hid (HI.out.drew.step ha hrd hR)
         clear ha hrd
         have k1 : w1.cell? ⟨w.heap.size, 0, none⟩ = some (.int .i64 1) := blk_cell HI1.out.b0 0
         have t0 : w1.cell? ⟨w.heap.size + 1, 0, none⟩ = some (.int .i64 0) := blk_cell HI1.out.b1 0
         have tf0 : w1.frozen? ⟨w.heap.size + 1, 0, none⟩ = false := blk_free HI1.out.b1 0
         have t1 : w1.cell? ⟨w.heap.size + 1, 1, none⟩ = some (.int .i64 0) := blk_cell HI1.out.b1 1
         have tf1 : w1.frozen? ⟨w.heap.size + 1, 1, none⟩ = false := blk_free HI1.out.b1 1
         have t2 : w1.cell? ⟨w.heap.size + 1, 2, none⟩ = some (.float .f64 0) := blk_cell HI1.out.b1 2
         have tf2 : w1.frozen? ⟨w.heap.size + 1, 2, none⟩ = false := blk_free HI1.out.b1 2
         have t3 : w1.cell? ⟨w.heap.size + 1, 3, none⟩ = some (.string ⟨#[]⟩) := blk_cell HI1.out.b1 3
         have tf3 : w1.frozen? ⟨w.heap.size + 1, 3, none⟩ = false := blk_free HI1.out.b1 3
         have t4 : w1.cell? ⟨w.heap.size + 1, 4, none⟩ = some (.slice none 0 0) := blk_cell HI1.out.b1 4
         have tf4 : w1.frozen? ⟨w.heap.size + 1, 4, none⟩ = false := blk_free HI1.out.b1 4
         have HFin := Lib.hid (HI1.out.fin hR 1 (x : Nat) 0 ⟨#[]⟩))
      | fail)
    all_goals
      go_wp2
      obtain ⟨f1, f2, f3, f4⟩ := HFin.out
      refine bodyPost_ret (v := .agg (cells5 1 (x : Nat) 0 ⟨#[]⟩ none 0 0)) (results_cell_row rfl _ _ (w.heap.size + 1) _ _ _ _ rfl f1 Try.underlying46 rfl (by kernel_rfl)) rfl ?_
      rw [HR2.out]
      exact ⟨_, rfl, f2, f3, f4⟩

set_option maxRecDepth 100000 in
set_option maxHeartbeats 1000000 in
theorem readIntK (l : List UInt8) (A R : Nat) (w : World) (p : Option Addr) (n c : Nat) (h : Rdr L w A R l) : Calls Try.prog 79 #[.pointer (some ⟨R, 0, none⟩), .agg #[.int .i64 2, .slice p n c]] w (RdA L w A R l (Sch.scalar 2 l) (isV w)) := by
  have hR := h.lt
  obtain ⟨W, hW⟩ : ∃ W, W = (w.alloc (.cells #[.int .i64 2, .slice p n c] 43)).alloc (.cells #[.int .i64 0, .int .i64 0, .float .f64 0, .string ⟨#[]⟩, .slice none 0 0] 46) := ⟨_, rfl⟩
  have HI : Hid (ValIn L w W A R #[.int .i64 2, .slice p n c] l) := by rw [hW]; exact valIn_start _ h
  have HW := Lib.hid hW
  obtain ⟨r, hr⟩ : ∃ r, r = Sch.scalar 2 l := ⟨_, rfl⟩
  have HR := Lib.hid (hr.trans (scalar_2 l))
  rw [← hr]
  have HC := Lib.hid (numberK l A R W.drew HI.out.rd.drew)
  obtain ⟨m, hm⟩ : ∃ m, m = Sch.num l := ⟨_, rfl⟩
  rw [← hm] at HR HC
  have HM := Lib.hid hm
  have k0 : W.cell? ⟨w.heap.size, 0, none⟩ = some (.int .i64 2) := blk_cell HI.out.b0 0
  have q0 : W.cell? ⟨w.heap.size + 1, 0, none⟩ = some (.int .i64 0) := blk_cell HI.out.b1 0
  have qf0 : W.frozen? ⟨w.heap.size + 1, 0, none⟩ = false := blk_free HI.out.b1 0
  have q1 : W.cell? ⟨w.heap.size + 1, 1, none⟩ = some (.int .i64 0) := blk_cell HI.out.b1 1
  have qf1 : W.frozen? ⟨w.heap.size + 1, 1, none⟩ = false := blk_free HI.out.b1 1
  have q2 : W.cell? ⟨w.heap.size + 1, 2, none⟩ = some (.float .f64 0) := blk_cell HI.out.b1 2
  have qf2 : W.frozen? ⟨w.heap.size + 1, 2, none⟩ = false := blk_free HI.out.b1 2
  have q3 : W.cell? ⟨w.heap.size + 1, 3, none⟩ = some (.string ⟨#[]⟩) := blk_cell HI.out.b1 3
  have qf3 : W.frozen? ⟨w.heap.size + 1, 3, none⟩ = false := blk_free HI.out.b1 3
  have q4 : W.cell? ⟨w.heap.size + 1, 4, none⟩ = some (.slice none 0 0) := blk_cell HI.out.b1 4
  have qf4 : W.frozen? ⟨w.heap.size + 1, 4, none⟩ = false := blk_free HI.out.b1 4
  clear hr hm h hW
  cases m with
  | error er =>
    have HR2 : Hid (r = .error er) := HR.out
    clear HR HM
    go_enter Try.func79, Try.ntmps79
    go_wp2_with fail
    rw [← HW.out]
    clear HW
    go_region_law (first
      | (refine step_call1b (.tmp 7) 71 (by rfl) (by rfl) (by rfl) Try.func104 (by kernel_rfl) (by rfl) HC.out (fun e w1 hh => ⟨_, hh.bad.1, rfl, by rw [HR2.out]; exact ⟨rfl, HI.out.aside.drew.trans hh.bad.2 (fun _ _ h => h)⟩⟩) (.int .u64 0) ?_
         intro HF)
      | (refine step_never HF (.int .i64 0) ?_)
      | fail)
    all_goals exact HF.out.elim
  | ok xj =>
    obtain ⟨x, j⟩ := xj
    have HR2 : Hid (r = .ok (.mk 2 (Leb.zag x) 0 ⟨#[]⟩ [], j)) := HR.out
    clear HR
    have HZ := Lib.hid (zag_any x (num_le HM.out.symm).2)
    obtain ⟨z, hz⟩ : ∃ z, z = Leb.zag x := ⟨_, rfl⟩
    rw [← hz] at HZ HR2
    clear hz HM
    go_enter Try.func79, Try.ntmps79
    go_wp2_with fail
    rw [← HW.out]
    clear HW
    go_region_law (first
      | (refine step_call1g (.tmp 7) 71 (by rfl) (by rfl) (by rfl) Try.func104 (by kernel_rfl) (by rfl) HC.out ?_
         intro e w1 hh
         obtain ⟨v, he, hv, hrd, ha⟩ := hh.good
         clear hh
         replace hv : v = .int .u64 (x : Nat) := hv
         subst hv
         refine ⟨_, he, ?_⟩
         clear he
         have HI1 := Lib.hid (HI.out.drew.step ha hrd hR)
         clear ha hrd
         have k1 : w1.cell? ⟨w.heap.size, 0, none⟩ = some (.int .i64 2) := blk_cell HI1.out.b0 0
         have t0 : w1.cell? ⟨w.heap.size + 1, 0, none⟩ = some (.int .i64 0) := blk_cell HI1.out.b1 0
         have tf0 : w1.frozen? ⟨w.heap.size + 1, 0, none⟩ = false := blk_free HI1.out.b1 0
         have t1 : w1.cell? ⟨w.heap.size + 1, 1, none⟩ = some (.int .i64 0) := blk_cell HI1.out.b1 1
         have tf1 : w1.frozen? ⟨w.heap.size + 1, 1, none⟩ = false := blk_free HI1.out.b1 1
         have t2 : w1.cell? ⟨w.heap.size + 1, 2, none⟩ = some (.float .f64 0) := blk_cell HI1.out.b1 2
         have tf2 : w1.frozen? ⟨w.heap.size + 1, 2, none⟩ = false := blk_free HI1.out.b1 2
         have t3 : w1.cell? ⟨w.heap.size + 1, 3, none⟩ = some (.string ⟨#[]⟩) := blk_cell HI1.out.b1 3
         have tf3 : w1.frozen? ⟨w.heap.size + 1, 3, none⟩ = false := blk_free HI1.out.b1 3
         have t4 : w1.cell? ⟨w.heap.size + 1, 4, none⟩ = some (.slice none 0 0) := blk_cell HI1.out.b1 4
         have tf4 : w1.frozen? ⟨w.heap.size + 1, 4, none⟩ = false := blk_free HI1.out.b1 4
         have HFin := Lib.hid (HI1.out.fin hR 2 z 0 ⟨#[]⟩))
      | (refine step_call1g (.tmp 8) 101 (by rfl) (by rfl) (by rfl) Try.func103 (by kernel_rfl) (by rfl) (HZ.out _) ?_
         rintro e w2 ⟨rfl, hw2⟩
         refine ⟨_, rfl, ?_⟩
         rw [hw2]
         clear hw2 w2)
      | fail)
    all_goals
      go_wp2
      obtain ⟨f1, f2, f3, f4⟩ := HFin.out
      refine bodyPost_ret (v := .agg (cells5 2 z 0 ⟨#[]⟩ none 0 0)) (results_cell_row rfl _ _ (w.heap.size + 1) _ _ _ _ rfl f1 Try.underlying46 rfl (by kernel_rfl)) rfl ?_
      rw [HR2.out]
      exact ⟨_, rfl, f2, f3, f4⟩
end
end Go.Proofs.Ytnlhpndjogjejaa

/- The landed row's reader: bytes and texts. -/
namespace Go.Proofs.Ytnlhpndjogjejaa
open Go.RowKit

attribute [local go_sem] run_store_float

section
variable {L : List UInt8}

/-- what readBytes reads -/
def bytesR (k : Int) (l : List UInt8) : Except Nat (V × Nat) := thenR (Sch.text 1024 2 l) fun t j => .ok (.mk k 0 0 t [], j)
theorem bytesR_count (k : Int) (l : List UInt8) : bytesR k l = thenR (countR 1024 2 l) fun n j => thenR (takeR n (l.drop j)) fun b i => .ok (.mk k 0 0 (textOf b) [], j + i) := by
  unfold bytesR
  rw [text_count]
  cases countR 1024 2 l with
  | error e => rfl
  | ok nk =>
    obtain ⟨n, k⟩ := nk
    rw [thenR_ok, thenR_ok]
    cases takeR n (l.drop k) with
    | error e => rfl
    | ok bj => rfl

set_option maxRecDepth 100000 in
set_option maxHeartbeats 1000000 in
theorem readBytesK (k : Int) (l : List UInt8) (A R : Nat) (w : World) (p : Option Addr) (n c : Nat) (h : Rdr L w A R l) : Calls Try.prog 82 #[.pointer (some ⟨R, 0, none⟩), .agg #[.int .i64 k, .slice p n c]] w (RdA L w A R l (bytesR k l) (isV w)) := by
  have hR := h.lt
  obtain ⟨W, hW⟩ : ∃ W, W = (w.alloc (.cells #[.int .i64 k, .slice p n c] 43)).alloc (.cells #[.int .i64 0, .int .i64 0, .float .f64 0, .string ⟨#[]⟩, .slice none 0 0] 46) := ⟨_, rfl⟩
  have HI : Hid (ValIn L w W A R #[.int .i64 k, .slice p n c] l) := by rw [hW]; exact valIn_start _ h
  have HW := Lib.hid hW
  obtain ⟨r, hr⟩ : ∃ r, r = bytesR k l := ⟨_, rfl⟩
  have HR := Lib.hid (hr.trans (bytesR_count k l))
  rw [← hr]
  have HC := Lib.hid (countK 1024 2 (by omega) l A R W HI.out.rd)
  obtain ⟨m, hm⟩ : ∃ m, m = countR 1024 2 l := ⟨_, rfl⟩
  rw [← hm] at HR HC
  clear hr hm h hW
  cases m with
  | error er =>
    have HR2 : Hid (r = .error er) := HR.out
    clear HR
    go_enter Try.func82, Try.ntmps82
    go_wp2_with fail
    rw [← HW.out]
    refine HC.out.mono ?_
    intro e w1 hh
    obtain ⟨he, ha⟩ := hh.bad
    subst he
    clear hh
    have HA := Lib.hid (HI.out.aside.trans ha (fun _ _ h => h))
    clear ha HC
    go_wp2
    rw [HR2.out]
    exact ⟨rfl, rfl, HA.out⟩
  | ok xj =>
    obtain ⟨x, j⟩ := xj
    have HR1 : Hid (r = thenR (takeR x (l.drop j)) fun b i => .ok (.mk k 0 0 (textOf b) [], j + i)) := HR.out
    obtain ⟨m, hm⟩ : ∃ m, m = takeR x (l.drop j) := ⟨_, rfl⟩
    have HM := Lib.hid hm
    clear HR hm
    go_enter Try.func82, Try.ntmps82
    go_wp2_with fail
    rw [← HW.out]
    refine HC.out.mono ?_
    intro e w1 hh
    obtain ⟨v, he, hv, hrd, ha⟩ := hh.good
    clear hh
    replace hv : v = .int .i64 (x : Nat) := hv
    subst hv
    subst he
    have HI1 := Lib.hid (HI.out.step ha hrd hR)
    clear ha hrd HC HW HI
    have HT := Lib.hid (takeK x (l.drop j) A R w1.drew HI1.out.rd.drew)
    rw [← HM.out] at HT HR1
    have k0 : w1.cell? ⟨w.heap.size, 0, none⟩ = some (.int .i64 k) := blk_cell HI1.out.b0 0
    have q0 : w1.cell? ⟨w.heap.size + 1, 0, none⟩ = some (.int .i64 0) := blk_cell HI1.out.b1 0
    have qf0 : w1.frozen? ⟨w.heap.size + 1, 0, none⟩ = false := blk_free HI1.out.b1 0
    have q1 : w1.cell? ⟨w.heap.size + 1, 1, none⟩ = some (.int .i64 0) := blk_cell HI1.out.b1 1
    have qf1 : w1.frozen? ⟨w.heap.size + 1, 1, none⟩ = false := blk_free HI1.out.b1 1
    have q2 : w1.cell? ⟨w.heap.size + 1, 2, none⟩ = some (.float .f64 0) := blk_cell HI1.out.b1 2
    have qf2 : w1.frozen? ⟨w.heap.size + 1, 2, none⟩ = false := blk_free HI1.out.b1 2
    have q3 : w1.cell? ⟨w.heap.size + 1, 3, none⟩ = some (.string ⟨#[]⟩) := blk_cell HI1.out.b1 3
    have qf3 : w1.frozen? ⟨w.heap.size + 1, 3, none⟩ = false := blk_free HI1.out.b1 3
    have q4 : w1.cell? ⟨w.heap.size + 1, 4, none⟩ = some (.slice none 0 0) := blk_cell HI1.out.b1 4
    have qf4 : w1.frozen? ⟨w.heap.size + 1, 4, none⟩ = false := blk_free HI1.out.b1 4
    clear HM
    cases m with
    | error er =>
      have HR2 : Hid (r = .error er) := HR1.out
      have hcv0 := conv_str (w := w1.drew) (p := none) (l := []) (.inl rfl) 0
      simp only [List.length_nil] at hcv0
      clear HR1
      go_wp2_with fail
      go_region_law (first
        | (refine step_call2b (.tmp 10) (.tmp 11) 71 3 (by rfl) (by rfl) (by rfl) (by rfl) Try.func105 (by kernel_rfl) (by rfl) HT.out (fun e w2 hh => ⟨_, hh.bad.1, rfl, by rw [HR2.out]; exact ⟨rfl, HI1.out.aside.drew.trans hh.bad.2 (fun _ _ h => h)⟩⟩) (.slice none 0 0) ?_
           intro HF)
        | (refine step_never HF (.string ⟨#[]⟩) ?_)
        | fail)
      all_goals exact HF.out.elim
    | ok bi =>
      obtain ⟨b, i⟩ := bi
      have HR2 : Hid (r = .ok (.mk k 0 0 (textOf b) [], j + i)) := HR1.out
      clear HR1
      go_wp2_with fail
      go_region_law (first
        | (refine step_call2g (.tmp 10) (.tmp 11) 71 3 (by rfl) (by rfl) (by rfl) (by rfl) Try.func105 (by kernel_rfl) (by rfl) HT.out ?_
           intro e w2 hh
           obtain ⟨v, he, hv, hrd, ha⟩ := hh.good
           obtain ⟨q, c2, hv, hat, -⟩ := hv.open
           clear hh
           subst hv
           refine ⟨_, he, ?_⟩
           clear he
           have hcv := conv_str hat c2
           have HI2 := Lib.hid (HI1.out.drew.step ha hrd hR)
           clear ha hrd hat
           have k1 : w2.cell? ⟨w.heap.size, 0, none⟩ = some (.int .i64 k) := blk_cell HI2.out.b0 0
           have t0 : w2.cell? ⟨w.heap.size + 1, 0, none⟩ = some (.int .i64 0) := blk_cell HI2.out.b1 0
           have tf0 : w2.frozen? ⟨w.heap.size + 1, 0, none⟩ = false := blk_free HI2.out.b1 0
           have t1 : w2.cell? ⟨w.heap.size + 1, 1, none⟩ = some (.int .i64 0) := blk_cell HI2.out.b1 1
           have tf1 : w2.frozen? ⟨w.heap.size + 1, 1, none⟩ = false := blk_free HI2.out.b1 1
           have t2 : w2.cell? ⟨w.heap.size + 1, 2, none⟩ = some (.float .f64 0) := blk_cell HI2.out.b1 2
           have tf2 : w2.frozen? ⟨w.heap.size + 1, 2, none⟩ = false := blk_free HI2.out.b1 2
           have t3 : w2.cell? ⟨w.heap.size + 1, 3, none⟩ = some (.string ⟨#[]⟩) := blk_cell HI2.out.b1 3
           have tf3 : w2.frozen? ⟨w.heap.size + 1, 3, none⟩ = false := blk_free HI2.out.b1 3
           have t4 : w2.cell? ⟨w.heap.size + 1, 4, none⟩ = some (.slice none 0 0) := blk_cell HI2.out.b1 4
           have tf4 : w2.frozen? ⟨w.heap.size + 1, 4, none⟩ = false := blk_free HI2.out.b1 4
           have HFin := Lib.hid (HI2.out.fin hR k 0 0 (textOf b)))
        | fail)
      all_goals
        go_wp2
        obtain ⟨f1, f2, f3, f4⟩ := HFin.out
        refine bodyPost_ret (v := .agg (cells5 k 0 0 (textOf b) none 0 0)) (results_cell_row rfl _ _ (w.heap.size + 1) _ _ _ _ rfl f1 Try.underlying46 rfl (by kernel_rfl)) rfl ?_
        rw [HR2.out]
        exact ⟨_, rfl, f2, by rw [← List.drop_drop]; exact f3, f4⟩

theorem utf_small {l : List UInt8} {t : ByteArray} {j : Nat} (h : Sch.text 1024 2 l = .ok (t, j)) : t.size ≤ 1024 := by
  unfold Sch.text at h
  split at h
  · cases h
  · next n k hn =>
    split at h
    · cases h
    · next h0 =>
      split at h
      · cases h
      · next h1 =>
        injection h with h
        injection h with h2 h3
        subst h2
        show (textOf _).size ≤ 1024
        have : (textOf ((l.drop k).take n)).size = ((l.drop k).take n).length := by simp [textOf, ByteArray.size]
        rw [this, List.length_take]
        omega

set_option maxRecDepth 100000 in
set_option maxHeartbeats 1000000 in
theorem readTextK (l : List UInt8) (A R : Nat) (w : World) (p : Option Addr) (n c : Nat) (h : Rdr L w A R l) : Calls Try.prog 81 #[.pointer (some ⟨R, 0, none⟩), .agg #[.int .i64 4, .slice p n c]] w (RdA L w A R l (Sch.scalar 4 l) (isV w)) := by
  have hR := h.lt
  obtain ⟨W, hW⟩ : ∃ W, W = (w.alloc (.cells #[.int .i64 4, .slice p n c] 43)).alloc (.cells #[.int .i64 0, .int .i64 0, .float .f64 0, .string ⟨#[]⟩, .slice none 0 0] 46) := ⟨_, rfl⟩
  have HI : Hid (ValIn L w W A R #[.int .i64 4, .slice p n c] l) := by rw [hW]; exact valIn_start _ h
  have HW := Lib.hid hW
  obtain ⟨r, hr⟩ : ∃ r, r = Sch.scalar 4 l := ⟨_, rfl⟩
  have HR := Lib.hid (hr.trans (scalar_4 l))
  rw [← hr]
  have HC := Lib.hid (readBytesK 4 l A R W p n c HI.out.rd)
  unfold bytesR at HC
  obtain ⟨m, hm⟩ : ∃ m, m = Sch.text 1024 2 l := ⟨_, rfl⟩
  have HM := Lib.hid hm
  rw [← hm] at HR HC
  clear hr hm h hW
  cases m with
  | error er =>
    have HR2 : Hid (r = .error er) := HR.out
    rw [thenR_error] at HC
    clear HR
    go_enter Try.func81, Try.ntmps81
    go_wp2_with fail
    rw [← HW.out]
    refine HC.out.mono ?_
    intro e w1 hh
    obtain ⟨he, ha⟩ := hh.bad
    subst he
    clear hh
    have HA := Lib.hid (HI.out.aside.trans ha (fun _ _ h => h))
    clear ha HC
    go_wp2
    rw [HR2.out]
    exact ⟨rfl, rfl, HA.out⟩
  | ok xj =>
    obtain ⟨x, j⟩ := xj
    have hx := utf_small HM.out.symm
    have HR2 : Hid (r = if utfT x = false then .error 61 else .ok (.mk 4 0 0 x [], j)) := HR.out
    rw [thenR_ok] at HC
    clear HR
    go_enter Try.func81, Try.ntmps81
    go_wp2_with fail
    rw [← HW.out]
    refine HC.out.mono ?_
    intro e w1 hh
    obtain ⟨v, he, hv, hrd, ha⟩ := hh.good
    obtain ⟨u, hv, hown⟩ := hv.open
    clear hh
    subst hv
    subst he
    obtain ⟨p5, c5, hu, -⟩ := hown.lies.open
    subst hu
    have HI1 := Lib.hid (HI.out.step ha hrd hR)
    obtain ⟨wa, hwa⟩ : ∃ wa, wa = w1.alloc (.cells (cells5 4 0 0 x p5 0 c5) 46) := ⟨_, rfl⟩
    have HBa : Hid (Below w1.heap.size w1 wa) := by rw [hwa]; exact (Below.refl _ _).alloc (Nat.le_refl _) _
    have hblk : wa.heap[w1.heap.size]? = some (.cells (cells5 4 0 0 x p5 0 c5) 46 (0, 0)) := by rw [hwa]; exact blk_new w1 _
    have HBk := Lib.hid hblk
    have HU := Lib.hid (utfK x (by omega) wa)
    have HWa := Lib.hid hwa
    have hsw : w.heap.size + 2 ≤ w1.heap.size := HI1.out.size
    clear ha hrd hown hwa hblk HC HI HW HM
    unfold cells5 at HWa HBk ⊢
    obtain ⟨ub, hub⟩ : ∃ b, b = utfT x := ⟨_, rfl⟩
    rw [← hub] at HU HR2
    clear hub
    go_wp2_with fail
    rw [← HWa.out]
    refine HU.out.mono ?_
    rintro e w2 ⟨rfl, hb2⟩
    have HI2 := Lib.hid ((HI1.out.on HBa.out).on hb2)
    have hs2 := hb2.size
    have hsa := HBa.out.size
    have hbk2 : w2.heap[w1.heap.size]? = some (.cells (cells5 4 0 0 x p5 0 c5) 46 (0, 0)) := by
      rw [hb2.block _ (blk_lt HBk.out)]
      exact HBk.out
    have v0 : w2.cell? ⟨w1.heap.size, 0, none⟩ = some (.int .i64 4) := blk_cell hbk2 0
    have v1 : w2.cell? ⟨w1.heap.size, 1, none⟩ = some (.int .i64 0) := blk_cell hbk2 1
    have v2 : w2.cell? ⟨w1.heap.size, 2, none⟩ = some (.float .f64 0) := blk_cell hbk2 2
    have v3 : w2.cell? ⟨w1.heap.size, 3, none⟩ = some (.string x) := blk_cell hbk2 3
    have v4 : w2.cell? ⟨w1.heap.size, 4, none⟩ = some (.slice p5 0 c5) := blk_cell hbk2 4
    have t0 : w2.cell? ⟨w.heap.size + 1, 0, none⟩ = some (.int .i64 0) := blk_cell HI2.out.b1 0
    have tf0 : w2.frozen? ⟨w.heap.size + 1, 0, none⟩ = false := blk_free HI2.out.b1 0
    have t1 : w2.cell? ⟨w.heap.size + 1, 1, none⟩ = some (.int .i64 0) := blk_cell HI2.out.b1 1
    have tf1 : w2.frozen? ⟨w.heap.size + 1, 1, none⟩ = false := blk_free HI2.out.b1 1
    have t2 : w2.cell? ⟨w.heap.size + 1, 2, none⟩ = some (.float .f64 0) := blk_cell HI2.out.b1 2
    have tf2 : w2.frozen? ⟨w.heap.size + 1, 2, none⟩ = false := blk_free HI2.out.b1 2
    have t3 : w2.cell? ⟨w.heap.size + 1, 3, none⟩ = some (.string ⟨#[]⟩) := blk_cell HI2.out.b1 3
    have tf3 : w2.frozen? ⟨w.heap.size + 1, 3, none⟩ = false := blk_free HI2.out.b1 3
    have t4 : w2.cell? ⟨w.heap.size + 1, 4, none⟩ = some (.slice none 0 0) := blk_cell HI2.out.b1 4
    have tf4 : w2.frozen? ⟨w.heap.size + 1, 4, none⟩ = false := blk_free HI2.out.b1 4
    have HFin := Lib.hid (finV (F := fun _ => False) hR (by omega) HI2.out.b1 (VOwn.none (k := 4) (i := 0) (b := 0) (t := x) (p := p5) (c := c5)) (fun _ h => h.elim) HI2.out.rd HI2.out.aside)
    clear hb2 hbk2 HWa HU
    cases ub with
    | false =>
      have HR4 : Hid (r = .error 61) := HR2.out.trans (if_pos (by first | rfl | trivial))
      clear HR2
      go_wp2_with fail
      refine (need_f _ 61 _).mono ?_
      rintro e w3 ⟨rfl, hw3⟩
      rw [hw3]
      clear hw3 w3
      go_wp2
      rw [HR4.out]
      exact ⟨rfl, rfl, HI2.out.aside⟩
    | true =>
      have HR4 : Hid (r = .ok (.mk 4 0 0 x [], j)) := HR2.out.trans (if_neg (by first | decide | simp))
      clear HR2
      go_wp2_with fail
      refine (need_t _ 61 _).mono ?_
      rintro e w3 ⟨rfl, hw3⟩
      rw [hw3]
      clear hw3 w3
      go_wp2
      obtain ⟨f1, f2, f3, f4⟩ := HFin.out
      refine bodyPost_ret (v := .agg (cells5 4 0 0 x p5 0 c5)) (results_cell_row rfl _ _ (w.heap.size + 1) _ _ _ _ rfl f1 Try.underlying46 rfl (by kernel_rfl)) rfl ?_
      rw [HR4.out]
      exact ⟨_, rfl, f2, f3, f4⟩
end
end Go.Proofs.Ytnlhpndjogjejaa

/- The landed row's reader: floats. -/
namespace Go.Proofs.Ytnlhpndjogjejaa
open Go.RowKit

attribute [local go_sem] run_store_float

/-- eight bits put behind those that stand -/
theorem or_join8 (m x k : Nat) (hm : m < 256 ^ k) (hx : m + x * 256 ^ k < 18446744073709551616) : bits .or .u64 (m : Int) (IntKind.u64.wrap ((x : Int) * 2 ^ (8 * k))) = ((m + x * 256 ^ k : Nat) : Int) := by
  have e : (2 : Nat) ^ (8 * k) = 256 ^ k := by rw [Nat.pow_mul]
  have e2 : ((x : Int) * 2 ^ (8 * k)) = ((x * 256 ^ k : Nat) : Int) := by
    rw [← e]; push_cast; rfl
  have e3 : IntKind.u64.wrap (((x * 256 ^ k : Nat) : Int)) = ((x * 256 ^ k : Nat) : Int) := by
    rw [IntKind.wrap_u64]; omega
  rw [e2, e3, bits_join_low .u64 64 (by decide) wraps_u64 (8 * k) (m : Int) _ (by omega) (by rw [← e] at hm; exact_mod_cast hm) (by omega) (by omega) (by rw [← e]; push_cast; exact Int.mul_emod_left _ _) (by omega)]
  omega
theorem un_take_succ (r : List UInt8) (k : Nat) (h : k < r.length) : Sch.un (r.take (k + 1)) = Sch.un (r.take k) + r[k].toNat * 256 ^ k := by
  induction r generalizing k with
  | nil => simp at h
  | cons c r ih =>
    cases k with
    | zero => simp [Sch.un]
    | succ k =>
      have hk : k < r.length := by simpa using h
      have := ih k hk
      simp only [List.take_succ_cons, Sch.un, List.getElem_cons_succ, this, Nat.pow_succ]
      generalize (256 : Nat) ^ k = P
      generalize r[k].toNat = x
      rw [Nat.add_mul, Nat.mul_assoc]
      omega
theorem un_take_lt (r : List UInt8) (k : Nat) (h : k ≤ r.length) : Sch.un (r.take k) < 256 ^ k := by
  have := Sch.un_lt (r.take k)
  rw [List.length_take, Nat.min_eq_left h] at this
  exact this

section
variable {L : List UInt8}

set_option maxRecDepth 100000 in
set_option maxHeartbeats 1000000 in
theorem readFloatK (l : List UInt8) (A R : Nat) (w : World) (p : Option Addr) (n c : Nat) (h : Rdr L w A R l) : Calls Try.prog 80 #[.pointer (some ⟨R, 0, none⟩), .agg #[.int .i64 3, .slice p n c]] w (RdA L w A R l (Sch.scalar 3 l) (isV w)) := by
  have hR := h.lt
  obtain ⟨W, hW⟩ : ∃ W, W = (w.alloc (.cells #[.int .i64 3, .slice p n c] 43)).alloc (.cells #[.int .i64 0, .int .i64 0, .float .f64 0, .string ⟨#[]⟩, .slice none 0 0] 46) := ⟨_, rfl⟩
  have HI : Hid (ValIn L w W A R #[.int .i64 3, .slice p n c] l) := by rw [hW]; exact valIn_start _ h
  have HW := Lib.hid hW
  obtain ⟨r, hr⟩ : ∃ r, r = Sch.scalar 3 l := ⟨_, rfl⟩
  have HR0 := Lib.hid (hr.trans (scalar_3 l))
  rw [← hr]
  have HT := Lib.hid (takeK 8 l A R W HI.out.rd)
  clear h hr hW
  by_cases hlt : l.length < 8
  · have e1 : takeR 8 l = .error 30 := by rw [takeR, if_pos hlt]
    have HR : Hid (r = .error 30) := by show _ = _; rw [HR0.out, Sch.float, if_pos hlt]; rfl
    rw [e1] at HT
    clear e1 hlt HR0
    go_enter Try.func80, Try.ntmps80
    go_wp2_with fail
    rw [← HW.out]
    refine HT.out.mono ?_
    intro e w1 hh
    obtain ⟨he, ha⟩ := hh.bad
    subst he
    clear hh
    have HA := Lib.hid (HI.out.aside.trans ha (fun _ _ h => h))
    clear ha HT
    go_wp2
    rw [HR.out]
    exact ⟨rfl, rfl, HA.out⟩
  · have e1 : takeR 8 l = .ok (l.take 8, 8) := by rw [takeR, if_neg hlt]
    have HR : Hid (r = if fixB (Sch.un (l.take 8)) = Sch.un (l.take 8) then .ok (.mk 3 0 (Sch.un (l.take 8)) ⟨#[]⟩ [], 8) else .error 5) := by
      show _ = _
      rw [HR0.out, Sch.float, if_neg hlt]
      split
      · rw [thenR_ok]
      · rfl
    rw [e1] at HT
    have hb8 : (l.take 8).length = 8 := by rw [List.length_take]; omega
    obtain ⟨b, hb⟩ : ∃ b, b = l.take 8 := ⟨_, rfl⟩
    rw [← hb] at HT HR hb8
    have HB8 := Lib.hid hb8
    have HU : Hid (Sch.un (b.take 0) = 0) := by show _ = _; simp [Sch.un]
    clear e1 hlt HR0 hb hb8
    go_enter Try.func80, Try.ntmps80
    go_wp2_with fail
    rw [← HW.out]
    refine HT.out.mono ?_
    intro e w1 hh
    obtain ⟨v, he, hv, hrd, ha⟩ := hh.good
    obtain ⟨q, c8, hv2, hat, -⟩ := hv.open
    clear hh hv
    subst hv2
    subst he
    rw [HB8.out]
    have HI1 := Lib.hid (HI.out.step ha hrd hR)
    obtain ⟨bq, oq, hq, -, hcs⟩ := at_some hat (by rw [HB8.out]; decide)
    subst hq
    have HCs := Lib.hid hcs
    clear ha HT hat hrd hcs HI HW
    go_wp2_with fail
    go_loop [5, 12] (fun v3 v10 => ∃ (k m : Nat), k ≤ 8 ∧ v10 = .int .i64 k ∧ v3 = .int .u64 m ∧ m < 18446744073709551616 ∧ Hid (m = Sch.un (b.take k))) (fun _ v10 => 8 - (intOf v10).toNat)
    case atStart => exact ⟨0, 0, by omega, rfl, rfl, by omega, HU.out.symm⟩
    case round =>
      obtain ⟨k, m, hk, rfl, rfl, hm, HK⟩ := hrel
      by_cases hk8 : k < 8
      · have hk1 : (k : Int) < 8 := by omega
        have hkb : k < b.length := by rw [HB8.out]; exact hk8
        have d0 := HCs.out k hkb
        have hs := un_take_succ b k hkb
        have hlt2 := un_take_lt b (k + 1) (by omega)
        obtain ⟨x, hx⟩ : ∃ x, x = b[k].toNat := ⟨_, rfl⟩
        rw [← hx] at d0 hs
        have hx8 : x < 256 := by rw [hx]; exact b[k].toNat_lt
        have hlim : m + x * 256 ^ k < 18446744073709551616 := by
          rw [HK.out, ← hs]
          have e : (256 : Nat) ^ (k + 1) ≤ 256 ^ 8 := Nat.pow_le_pow_right (by decide) (by omega)
          have e2 : (256 : Nat) ^ 8 = 18446744073709551616 := by decide
          omega
        have hor := or_join8 m x k (by rw [HK.out]; exact un_take_lt b k (by omega)) hlim
        have HN : Hid (m + x * 256 ^ k = Sch.un (b.take (k + 1))) := by show _ = _; rw [hs, HK.out]
        clear hs hlt2 hx HK hkb
        obtain ⟨y, hy⟩ : ∃ y, y = m + x * 256 ^ k := ⟨_, rfl⟩
        rw [← hy] at hor HN hlim
        clear hy
        go_wp2
        go_round
        case rel => exact ⟨k + 1, y, by omega, by go_num, rfl, hlim, HN.out⟩
        case measure => simp [intOf]; omega
      · have hkn : ¬ (k : Int) < 8 := by omega
        have hk9 : k = 8 := by omega
        subst hk9
        have HN : Hid (m = Sch.un b) := by
          show _ = _
          rw [HK.out, List.take_of_length_le (by rw [HB8.out]; exact Nat.le_refl _)]
        clear HK
        have HOf := Lib.hid (realOf_any (m : Int))
        have em : ((m : Int)).toNat = m := by omega
        rw [em] at HOf
        have HBi := Lib.hid (realBits_any (fixB m))
        rw [fixB_idem] at HBi
        have HR2 : Hid (r = if fixB m = m then .ok (.mk 3 0 m ⟨#[]⟩ [], 8) else .error 5) := by show _ = _; rw [HR.out, HN.out]
        clear HR HN em
        have k0 : w1.cell? ⟨w.heap.size, 0, none⟩ = some (.int .i64 3) := blk_cell HI1.out.b0 0
        have q0 : w1.cell? ⟨w.heap.size + 1, 0, none⟩ = some (.int .i64 0) := blk_cell HI1.out.b1 0
        have qf0 : w1.frozen? ⟨w.heap.size + 1, 0, none⟩ = false := blk_free HI1.out.b1 0
        have q1 : w1.cell? ⟨w.heap.size + 1, 1, none⟩ = some (.int .i64 0) := blk_cell HI1.out.b1 1
        have qf1 : w1.frozen? ⟨w.heap.size + 1, 1, none⟩ = false := blk_free HI1.out.b1 1
        have q2 : w1.cell? ⟨w.heap.size + 1, 2, none⟩ = some (.float .f64 0) := blk_cell HI1.out.b1 2
        have qf2 : w1.frozen? ⟨w.heap.size + 1, 2, none⟩ = false := blk_free HI1.out.b1 2
        have q3 : w1.cell? ⟨w.heap.size + 1, 3, none⟩ = some (.string ⟨#[]⟩) := blk_cell HI1.out.b1 3
        have qf3 : w1.frozen? ⟨w.heap.size + 1, 3, none⟩ = false := blk_free HI1.out.b1 3
        have q4 : w1.cell? ⟨w.heap.size + 1, 4, none⟩ = some (.slice none 0 0) := blk_cell HI1.out.b1 4
        have qf4 : w1.frozen? ⟨w.heap.size + 1, 4, none⟩ = false := blk_free HI1.out.b1 4
        go_wp2_with fail
        refine (HOf.out _).mono ?_
        rintro e w2 ⟨rfl, hw2⟩
        rw [hw2]
        clear hw2 w2
        go_wp2_with fail
        refine (HBi.out _).mono ?_
        rintro e w2 ⟨rfl, hw2⟩
        rw [hw2]
        clear hw2 w2
        by_cases hfx : fixB m = m
        · have HR4 : Hid (r = .ok (.mk 3 0 m ⟨#[]⟩ [], 8)) := HR2.out.trans (if_pos hfx)
          have HFin := Lib.hid (HI1.out.fin hR 3 0 m ⟨#[]⟩)
          rw [hfx]
          clear HR2
          go_wp2_with fail
          refine (need_t _ 5 _).mono ?_
          rintro e w2 ⟨rfl, hw2⟩
          rw [hw2]
          clear hw2 w2
          go_wp2
          obtain ⟨f1, f2, f3, f4⟩ := HFin.out
          refine bodyPost_ret (v := .agg (cells5 3 0 m ⟨#[]⟩ none 0 0)) (results_cell_row rfl _ _ (w.heap.size + 1) _ _ _ _ rfl f1 Try.underlying46 rfl (by kernel_rfl)) rfl ?_
          rw [HR4.out]
          exact ⟨_, rfl, f2, f3, f4⟩
        · have HR4 : Hid (r = .error 5) := HR2.out.trans (if_neg hfx)
          have g0 : ((fixB m : Int) == (m : Int)) = false := beq_f (by omega)
          clear HR2
          go_wp2_with fail
          refine (need_f _ 5 _).mono ?_
          rintro e w2 ⟨rfl, hw2⟩
          rw [hw2]
          clear hw2 w2
          go_wp2
          rw [HR4.out]
          exact ⟨rfl, rfl, HI1.out.aside⟩
end
end Go.Proofs.Ytnlhpndjogjejaa

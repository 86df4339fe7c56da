/- K8S: put together. -/
import Derived.Test.YticmkgbjannkkaaM29

/- The landed row's reader: take, number, count, flag. -/
namespace Go.Proofs.Yticmkgbjannkkaa
open Go.RowKit

/-- so many bytes -/
def takeR (n : Nat) (l : List UInt8) : Except Nat (List UInt8 × Nat) := if l.length < n then .error 30 else .ok (l.take n, n)
/-- a number of at most that many -/
def countR (most er : Nat) (l : List UInt8) : Except Nat (Nat × Nat) := match Sch.num l with
  | .error e => .error e
  | .ok (n, k) => if most < n then .error er else .ok (n, k)

section
variable {L : List UInt8}

set_option maxRecDepth 100000 in
set_option maxHeartbeats 1000000 in
theorem takeK (n : Nat) (l : List UInt8) (A R : Nat) (w : World) (h : Rdr L w A R l) : Calls Try.prog 65 #[.pointer (some ⟨R, 0, none⟩), .int .i64 n] w (RdA L w A R l (takeR n l) isB) := by
  obtain ⟨T, p, c, a, h1, hla⟩ := h.out
  have hsm := h.small
  have hlow := h.low
  have hpos := h1.pos
  have hcap := h1.cap
  have hll : l.length = L.length - a := by rw [hla, List.length_drop]
  have c1 : w.cell? ⟨R, 1, none⟩ = some (.slice p L.length c) := blk_cell h1.b0 1
  have c2 : w.cell? ⟨R, 2, none⟩ = some (.int .i64 ((a : Nat) : Int)) := blk_cell h1.b0 2
  have f2 := blk_free h1.b0 2
  obtain ⟨r, hr⟩ : ∃ r, r = takeR n l := ⟨_, rfl⟩
  rw [← hr]
  have i1 : (a : Int) ≤ (L.length : Int) := by omega
  have i2 : (L.length : Int) ≤ 140737488351232 := by omega
  have hwr : IntKind.i64.wrap ((L.length : Int) - (a : Int)) = (L.length : Int) - (a : Int) := by rw [IntKind.wrap_i64]; omega
  by_cases hlt : l.length < n
  · have g0 : decide ((n : Int) ≤ (L.length : Int) - (a : Int)) = false := decide_eq_false (by omega)
    have HR : Hid (r = .error 30) := by show _ = _; rw [hr, takeR, if_pos hlt]
    clear hr hlt h1 h hla hll hsm hpos hcap
    go_enter Try.func65, Try.ntmps65
    go_wp2_with fail
    go_region_law (first
      | (refine step_call3b (.tmp 6) (.tmp 18) (.const (.int .i64 30)) 58 4 31 (by rfl) (by rfl) (by rfl) (by rfl) (by rfl) Try.func18 (by kernel_rfl) (by rfl) (need_f _ 30 _) (fun e w1 hh => ⟨_, hh.1, rfl, by rw [HR.out, hh.2]; exact ⟨rfl, (Aside.refl _ _).drew⟩⟩) (.tuple #[]) ?_
         intro HF)
      | (refine step_never HF (.tuple #[]) ?_)
      | fail)
    all_goals exact HF.out.elim
  · have g0 : decide ((n : Int) ≤ (L.length : Int) - (a : Int)) = true := decide_eq_true (by omega)
    have HR : Hid (r = .ok (l.take n, n)) := by show _ = _; rw [hr, takeR, if_neg hlt]
    have i3 : (a : Int) + (n : Int) ≤ 140737488351232 := by omega
    have ecast : (a : Int) + (n : Int) = ((a + n : Nat) : Int) := by omega
    have hwr2 : IntKind.i64.wrap ((a : Int) + (n : Int)) = (a : Int) + (n : Int) := by rw [IntKind.wrap_i64]; omega
    have s1 : ∀ w, (Instr.slice 28 (.slice p L.length c) (some (.int .i64 (a : Int))) (some (.int .i64 ((a : Int) + (n : Int)))) none).run Try.prog w = .ok (.slice (cutP p a c) n (c - a)) w := fun w => by
      have := run_cut_lh p L.length c a (a + n) (by omega) (by omega) w
      rw [Nat.add_sub_cancel_left, ← ecast] at this
      exact this
    have HFin : Hid (∀ W, Below w.heap.size w W → isB (l.take n) (.slice (cutP p a c) n (c - a)) (W.setCell ⟨R, 2, none⟩ (.int .i64 ((a : Int) + (n : Int)))) ∧ Rdr L (W.setCell ⟨R, 2, none⟩ (.int .i64 ((a : Int) + (n : Int)))) A R (l.drop n) ∧ Aside (fun i => i = R) w (W.setCell ⟨R, 2, none⟩ (.int .i64 ((a : Int) + (n : Int))))) := by
      intro W hb
      have hR := blk_lt h1.b0
      have h2 := h1.keep hlow (w' := W) (fun k hk => hb.block k (by omega)) hb.size
      have hM := h2.move hlow (a + n) (by omega)
      rw [ecast]
      refine ⟨?_, ⟨⟨T, p, c, a + n, hM, by rw [hla, List.drop_drop]⟩, hsm, hlow⟩, (aside_new hb _).trans (aside_set _ _ _ _) (fun _ _ h => h)⟩
      have e1 : (l.take n).length = n := by rw [List.length_take]; omega
      refine ⟨cutP p a c, c - a, by rw [e1], ?_, by omega⟩
      rw [hla]
      have h3 := hM.lies.cut a c hcap
      rcases h3 with h3 | ⟨b, o, h3, hb, hcs⟩
      · exact .inl (by rw [h3, List.take_nil])
      · exact .inr ⟨b, o, h3, hb, cells_take hcs n⟩
    clear hr hlt h1 h hla hll hsm hpos hcap ecast
    go_enter Try.func65, Try.ntmps65
    go_wp2_with fail
    go_region_law (first
      | (refine step_call3g (.tmp 6) (.tmp 18) (.const (.int .i64 30)) 58 4 31 (by rfl) (by rfl) (by rfl) (by rfl) (by rfl) Try.func18 (by kernel_rfl) (by rfl) (need_t _ 30 _) ?_
         rintro e w1 ⟨rfl, hw1⟩
         refine ⟨_, rfl, ?_⟩
         rw [hw1]
         clear hw1 w1)
      | fail)
    all_goals
      go_wp2_with fail
      go_region_law (fail)
      all_goals
        go_wp2
        go_ret
        obtain ⟨f1, f2, f3⟩ := HFin.out w.drew.drew (Below.refl _ _).drew.drew
        rw [HR.out]
        exact ⟨_, rfl, f1, f2, f3⟩

theorem RdA.good {α : Type} {w w' : World} {A R : Nat} {l : List UInt8} {a : α} {j : Nat} {V : α → Value → World → Prop} {e : Ending} (h : RdA L w A R l (.ok (a, j)) V e w') : ∃ v, e = .returned v ∧ V a v w' ∧ Rdr L w' A R (l.drop j) ∧ Aside (fun i => i = R) w w' := h
theorem RdA.bad {α : Type} {w w' : World} {A R : Nat} {l : List UInt8} {k : Nat} {V : α → Value → World → Prop} {e : Ending} (h : RdA L w A R l (.error k) V e w') : e = .panicked (errV k) ∧ Aside (fun i => i = R) w w' := h
theorem isB.open {b : List UInt8} {v : Value} {w : World} (h : isB b v w) : ∃ q c, v = .slice q b.length c ∧ At w q b ∧ b.length ≤ c := h
theorem num_le {l : List UInt8} {n k : Nat} (h : Sch.num l = .ok (n, k)) : k ≤ l.length ∧ n < 18446744073709551616 := by
  obtain ⟨h1, r, h2, h3⟩ := Sch.num_ok h
  refine ⟨?_, h1⟩
  rw [h3, h2, List.length_append]
  omega

set_option maxRecDepth 100000 in
set_option maxHeartbeats 1000000 in
theorem numberK (l : List UInt8) (A R : Nat) (w : World) (h : Rdr L w A R l) : Calls Try.prog 64 #[.pointer (some ⟨R, 0, none⟩)] w (RdA L w A R l (Sch.num l) isU) := by
  obtain ⟨T, p, c, a, h1, hla⟩ := h.out
  have hsm := h.small
  have hlow := h.low
  have hpos := h1.pos
  have c1 : w.cell? ⟨R, 1, none⟩ = some (.slice p L.length c) := blk_cell h1.b0 1
  have c2 : w.cell? ⟨R, 2, none⟩ = some (.int .i64 ((a : Nat) : Int)) := blk_cell h1.b0 2
  have f2 := blk_free h1.b0 2
  have HG := Lib.hid (fun w hat => get_any p c L (a : Int) (by omega) h1.cap w hat)
  have hat' : At w.drew p L := h1.lies
  have h2d := Lib.hid hat'
  clear hat'
  rw [gotV_num, ← hla] at HG
  obtain ⟨r, hr⟩ : ∃ r, r = Sch.num l := ⟨_, rfl⟩
  rw [← hr] at HG ⊢
  cases r with
  | error er =>
    have he0 : er ≠ 0 := by
      intro he
      have := hr.symm
      unfold Sch.num at this
      split at this
      · cases this
      · next h0 => injection this with this; omega
    have g0 : ((er : Int) == 0) = false := beq_f (by omega)
    have e1 : numV a (.error er) = .tuple #[.int .u64 0, .int .i64 0, .int .i64 (er : Nat)] := rfl
    rw [e1] at HG
    clear e1 hr h1 h he0 hla hpos hsm
    go_enter Try.func64, Try.ntmps64
    go_wp2_with fail
    go_region_law (first
      | (refine step_call2g (.tmp 10) (.tmp 14) 28 3 (by rfl) (by rfl) (by rfl) (by rfl) Try.func81 (by kernel_rfl) (by rfl) (HG.out _ h2d.out) ?_
         rintro e w1 ⟨rfl, hw1⟩
         refine ⟨_, rfl, ?_⟩
         rw [hw1]
         clear hw1 w1)
      | fail)
    all_goals
      go_wp2_with fail
      refine (need_f _ er _).mono ?_
      rintro e w1 ⟨rfl, hw1⟩
      rw [hw1]
      clear hw1 w1
      go_wp2
      exact ⟨rfl, rfl, (Aside.refl _ _).drew⟩
  | ok nk =>
    obtain ⟨n, k⟩ := nk
    have e1 : numV a (.ok (n, k)) = .tuple #[.int .u64 (n : Nat), .int .i64 ((a + k : Nat) : Int), .int .i64 0] := rfl
    rw [e1] at HG
    clear e1
    obtain ⟨hk, -⟩ := num_le hr.symm
    have HFin : Hid (∀ W, Below w.heap.size w W → Rdr L (W.setCell ⟨R, 2, none⟩ (.int .i64 ((a + k : Nat) : Int))) A R (l.drop k) ∧ Aside (fun i => i = R) w (W.setCell ⟨R, 2, none⟩ (.int .i64 ((a + k : Nat) : Int)))) := by
      intro W hb
      have hR := blk_lt h1.b0
      have h2 := h1.keep hlow (w' := W) (fun k hk => hb.block k (by omega)) hb.size
      exact ⟨⟨⟨T, p, c, a + k, h2.move hlow (a + k) (by rw [hla, List.length_drop] at hk; omega), by rw [hla, List.drop_drop]⟩, hsm, hlow⟩, (aside_new hb _).trans (aside_set _ _ _ _) (fun _ _ h => h)⟩
    obtain ⟨m, hm⟩ : ∃ m, m = a + k := ⟨_, rfl⟩
    rw [← hm] at HG HFin
    clear hr h1 h hk hla hpos hsm hm
    go_enter Try.func64, Try.ntmps64
    go_wp2_with fail
    go_region_law (first
      | (refine step_call2g (.tmp 10) (.tmp 14) 28 3 (by rfl) (by rfl) (by rfl) (by rfl) Try.func81 (by kernel_rfl) (by rfl) (HG.out _ h2d.out) ?_
         rintro e w1 ⟨rfl, hw1⟩
         refine ⟨_, rfl, ?_⟩
         rw [hw1]
         clear hw1 w1)
      | fail)
    all_goals
      go_wp2_with fail
      refine (need_t _ 0 _).mono ?_
      rintro e w1 ⟨rfl, hw1⟩
      rw [hw1]
      clear hw1 w1
      go_wp2
      go_ret
      obtain ⟨f1, f2⟩ := HFin.out w.drew (Below.refl _ _).drew
      exact ⟨_, rfl, rfl, f1, f2⟩

set_option maxRecDepth 100000 in
set_option maxHeartbeats 1000000 in
theorem countK (most er : Nat) (hm : most ≤ 1024) (l : List UInt8) (A R : Nat) (w : World) (h : Rdr L w A R l) : Calls Try.prog 68 #[.pointer (some ⟨R, 0, none⟩), .int .u64 most, .int .i64 er] w (RdA L w A R l (countR most er l) isI) := by
  have HN := Lib.hid (numberK l A R w h)
  obtain ⟨r, hr⟩ : ∃ r, r = countR most er l := ⟨_, rfl⟩
  have HR : Hid (r = match Sch.num l with
    | .error e => .error e
    | .ok (n, k) => if most < n then .error er else .ok (n, k)) := hr
  rw [← hr]
  clear h hr
  obtain ⟨m, hm0⟩ : ∃ m, m = Sch.num l := ⟨_, rfl⟩
  rw [← hm0] at HN HR
  have HM := Lib.hid hm0
  clear hm0
  cases m with
  | error e0 =>
    go_enter Try.func68, Try.ntmps68
    go_wp2_with fail
    refine HN.out.mono ?_
    intro e w1 hh
    obtain ⟨he, ha⟩ := hh.bad
    subst he
    clear hh
    have HA := Lib.hid ha
    clear ha HN
    go_wp2
    rw [HR.out]
    exact ⟨rfl, rfl, HA.out⟩
  | ok nk =>
    obtain ⟨n, k⟩ := nk
    have hn64 := (num_le HM.out.symm).2
    by_cases hlt : most < n
    · have HR2 : Hid (r = .error er) := by show _ = _; rw [HR.out]; exact if_pos hlt
      have g0 : ¬ n ≤ most := by omega
      clear HR hlt
      go_enter Try.func68, Try.ntmps68
      go_wp2_with fail
      refine HN.out.mono ?_
      intro e w1 hh
      obtain ⟨v, he, hv, -, ha⟩ := hh.good
      clear hh
      replace hv : v = .int .u64 (n : Nat) := hv
      subst hv
      subst he
      have HA := Lib.hid ha
      clear ha HN
      go_wp2_with fail
      refine (need_f _ er _).mono ?_
      rintro e w2 ⟨rfl, hw2⟩
      rw [hw2]
      clear hw2 w2
      go_wp2
      rw [HR2.out]
      exact ⟨rfl, rfl, HA.out⟩
    · have HR2 : Hid (r = .ok (n, k)) := by show _ = _; rw [HR.out]; exact if_neg hlt
      have g0 : n ≤ most := by omega
      have g1 : (n : Int) ≤ 1024 := by omega
      clear HR hlt
      go_enter Try.func68, Try.ntmps68
      go_wp2_with fail
      refine HN.out.mono ?_
      intro e w1 hh
      obtain ⟨v, he, hv, hrd, ha⟩ := hh.good
      clear hh
      replace hv : v = .int .u64 (n : Nat) := hv
      subst hv
      subst he
      have HA := Lib.hid ha
      have HRd := Lib.hid hrd
      clear ha HN hrd
      go_wp2_with fail
      refine (need_t _ er _).mono ?_
      rintro e w2 ⟨rfl, hw2⟩
      rw [hw2]
      clear hw2 w2
      go_wp2
      go_ret
      rw [HR2.out]
      exact ⟨_, rfl, rfl, HRd.out, HA.out⟩

set_option maxRecDepth 100000 in
set_option maxHeartbeats 1000000 in
theorem flagK (l : List UInt8) (A R : Nat) (w : World) (h : Rdr L w A R l) : Calls Try.prog 62 #[.pointer (some ⟨R, 0, none⟩)] w (RdA L w A R l (Sch.bit l) isI) := by
  have HT := Lib.hid (takeK 1 l A R w h)
  clear h
  cases l with
  | nil =>
    have e1 : takeR 1 [] = .error 30 := rfl
    rw [e1] at HT
    go_enter Try.func62, Try.ntmps62
    go_wp2_with fail
    refine HT.out.mono ?_
    intro e w1 hh
    obtain ⟨he, ha⟩ := hh.bad
    subst he
    clear hh
    have HA := Lib.hid ha
    clear ha HT
    go_wp2
    exact ⟨rfl, rfl, HA.out⟩
  | cons b t =>
    have e1 : takeR 1 (b :: t) = .ok ([b], 1) := by
      unfold takeR
      rw [if_neg (by simp)]
      rfl
    rw [e1] at HT
    have hb := b.toNat_lt
    by_cases hlt : 1 < b.toNat
    · have e2 : Sch.bit (b :: t) = .error 5 := by rw [Sch.bit, if_pos hlt]
      have g0 : decide ((b.toNat : Int) ≤ 1) = false := decide_eq_false (by omega)
      rw [e2]
      clear e1 e2
      go_enter Try.func62, Try.ntmps62
      go_wp2_with fail
      refine HT.out.mono ?_
      intro e w1 hh
      obtain ⟨v, he, hv, -, ha⟩ := hh.good
      obtain ⟨q, c, hv, hat, -⟩ := hv.open
      clear hh
      subst hv
      subst he
      obtain ⟨bq, oq, rfl, -, hcs⟩ := at_some hat (by simp)
      have d0 : w1.cell? ⟨bq, oq, none⟩ = some (.int .u8 (b.toNat : Int)) := hcs 0 (by simp)
      have HA := Lib.hid ha
      clear ha HT hat hcs
      go_wp2_with fail
      refine (need_f _ 5 _).mono ?_
      rintro e w2 ⟨rfl, hw2⟩
      rw [hw2]
      clear hw2 w2
      go_wp2
      exact ⟨rfl, rfl, HA.out⟩
    · have e2 : Sch.bit (b :: t) = .ok (b.toNat, 1) := by rw [Sch.bit, if_neg hlt]
      have g0 : decide ((b.toNat : Int) ≤ 1) = true := decide_eq_true (by omega)
      rw [e2]
      clear e1 e2
      go_enter Try.func62, Try.ntmps62
      go_wp2_with fail
      refine HT.out.mono ?_
      intro e w1 hh
      obtain ⟨v, he, hv, hrd, ha⟩ := hh.good
      obtain ⟨q, c, hv, hat, -⟩ := hv.open
      clear hh
      subst hv
      subst he
      obtain ⟨bq, oq, rfl, -, hcs⟩ := at_some hat (by simp)
      have d0 : w1.cell? ⟨bq, oq, none⟩ = some (.int .u8 (b.toNat : Int)) := hcs 0 (by simp)
      have HA := Lib.hid ha
      have HRd := Lib.hid hrd
      clear ha HT hat hcs hrd
      go_wp2_with fail
      refine (need_t _ 5 _).mono ?_
      rintro e w2 ⟨rfl, hw2⟩
      rw [hw2]
      clear hw2 w2
      go_wp2
      go_ret
      exact ⟨_, rfl, rfl, HRd.out, HA.out⟩

/-- what was read, then what comes of it -/
def thenR {α β : Type} (r : Except Nat (α × Nat)) (f : α → Nat → Except Nat β) : Except Nat β := match r with
  | .error e => .error e
  | .ok (a, k) => f a k
theorem thenR_ok {α β : Type} (a : α) (k : Nat) (f : α → Nat → Except Nat β) : thenR (.ok (a, k)) f = f a k := rfl
theorem thenR_error {α β : Type} (e : Nat) (f : α → Nat → Except Nat β) : thenR (.error e) f = .error e := rfl
theorem text_count (most er : Nat) (l : List UInt8) : Sch.text most er l = thenR (countR most er l) fun n k => thenR (takeR n (l.drop k)) fun b j => .ok (textOf b, k + j) := by
  unfold Sch.text countR
  cases Sch.num l with
  | error e => rfl
  | ok nk =>
    obtain ⟨n, k⟩ := nk
    dsimp only
    by_cases h : most < n
    · rw [if_pos h, if_pos h]; rfl
    · rw [if_neg h, if_neg h, thenR_ok]
      unfold takeR
      rw [List.length_drop]
      by_cases h2 : l.length - k < n
      · rw [if_pos h2, if_pos h2]; rfl
      · rw [if_neg h2, if_neg h2]
        rfl
end
end Go.Proofs.Yticmkgbjannkkaa

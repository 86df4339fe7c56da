/- DevKeeps, walked. -/
import Derived.Test.YtoibeajcepbpjaaLDKeep
namespace Go.Proofs.Ytoibeajcepbpjaa
open Go.RowKit

section
variable {I : Nat → World → Prop} {Rep : DRep}

set_option maxRecDepth 100000 in
set_option maxHeartbeats 2000000 in
theorem keeps_ok (K : DevOk I Rep) (q : Nat) (hq : q ≤ 1048576) (p : Option Addr) (c : Nat) (ops : List DOp) (hl : ops.length ≤ 2932031007403) (w : World) (hS : Script w p ops) (hI : I w.heap.size w) :
    Calls Try.prog 5 #[.int .i64 q, .slice p ops.length c] w fun e w' => e = .returned (.bool true) ∧ Below w.heap.size w w' := by
  have HK := Lib.hid K
  have HI := Lib.hid hI
  have HS := Lib.hid hS
  have g1 : decide ((q : Int) < 0) = false := decide_eq_false (by omega)
  have g2 : decide ((1048576 : Int) < (q : Int)) = false := decide_eq_false (by omega)
  clear hI hS K
  go_enter Try.func5, Try.ntmps5
  go_wp2_with fail
  refine (devLive_ok HK.out w HI.out).mono ?_
  rintro e w1 ⟨rfl, hb⟩
  have B1 := Lib.hid hb
  clear hb
  go_wp2_with fail
  refine (HK.out.newOk q w.heap.size w1 hq (HK.out.on HI.out B1.out) B1.out.size).mono ?_
  rintro e w2 ⟨a, F, rfl, hR, hF, hb⟩
  have HR2 : Hid (KeepR Rep q a w 0 false w2 (Dv.new q)) := ⟨F, ⟨hR, B1.out.trans (hb.mono B1.out.size), Nat.le_trans B1.out.size hb.size⟩, Dv.near_new q hq, rfl, fun _ => by simp [Dv.new]⟩
  clear hR hb hF B1
  go_wp2
  go_loopw [8, 49] (fun v8 v49 wr => ∃ (i : Nat) (τ : Bool) (s : Dv.St), i ≤ ops.length ∧ v8 = .bool τ ∧ v49 = .int .i64 i ∧ Hid (KeepR Rep q a w i τ wr s)) (fun _ v49 _ => ops.length - (intOf v49).toNat)
  case atStart => exact ⟨0, false, _, by omega, rfl, rfl, HR2.out⟩
  case round =>
    obtain ⟨i, τ, s, hi, rfl, rfl, HL⟩ := hrel
    by_cases hlt : i < ops.length
    · have hbw : Below w.heap.size w wr := by obtain ⟨F, hO, _⟩ := HL.out; exact hO.world
      obtain ⟨bS, oS, rfl, hbl, hcs⟩ := script_some HS.out (by omega)
      obtain ⟨hOk, k0, k1, k2, k3⟩ := hcs i hlt
      obtain ⟨o, ho⟩ : ∃ o, o = ops[i] := ⟨_, rfl⟩
      rw [← ho] at hOk k0 k1 k2 k3
      have c0 : wr.cell? ⟨bS, oS + i * 4, none⟩ = some (.int .i64 o.kd) := by rw [hbw.cell (p := ⟨bS, oS + i * 4, none⟩) hbl]; exact k0
      have c1 : wr.cell? ⟨bS, oS + i * 4 + 1, none⟩ = some (.int .i64 o.n) := by rw [hbw.cell (p := ⟨bS, oS + i * 4 + 1, none⟩) hbl]; exact k1
      have c2 : wr.cell? ⟨bS, oS + i * 4 + 2, none⟩ = some (.int .i64 o.m) := by rw [hbw.cell (p := ⟨bS, oS + i * 4 + 2, none⟩) hbl]; exact k2
      have c3 : wr.cell? ⟨bS, oS + i * 4 + 3, none⟩ = some (.slice o.p o.l.length o.c) := by rw [hbw.cell (p := ⟨bS, oS + i * 4 + 3, none⟩) hbl]; exact k3
      have HOk := Lib.hid hOk
      have hi1 : (i : Int) < (ops.length : Int) := by omega
      clear k0 k1 k2 k3 hOk ho hbw hbl hcs
      obtain ⟨F, hO0, hN, hm, hr⟩ := HL.out
      have bx : Below wr.heap.size wr (wr.alloc (.cells #[.int .i64 o.kd, .int .i64 o.n, .int .i64 o.m, .slice o.p o.l.length o.c] 34)) := (Below.refl _ _).alloc (Nat.le_refl _) _
      have O0 := Lib.hid (hO0.on HK.out bx)
      have HF0 : Hid (∀ k, F k → k < wr.heap.size) := fun k hk => (HK.out.lies hO0.rep k hk).2
      have HN := Lib.hid hN
      have HM := Lib.hid hm
      have HRm := Lib.hid hr
      have HFit := Lib.hid (hN.fit (by omega))
      clear hO0 hN hm hr bx HL
      go_wp2_with fail
      have H1 := Lib.hid (HK.out.all O0.out.rep HFit.out (HK.out.on HI.out O0.out.world) O0.out.room)
      refine H1.out.mono ?_
      rintro e w3 ⟨qb, cb, rfl, hcb, hT, hb⟩
      have O1 := Lib.hid (O0.out.on HK.out hb)
      have C1 := Lib.hid hT.clear
      have X1 := Lib.hid (hb.block wr.heap.size (by simp))
      have hx1 : wr.heap.size < w3.heap.size := by have := hb.size; simp at this; omega
      have HCb := Lib.hid hcb
      clear hT hb hcb H1 O0
      go_wp2_with fail
      have H2 := Lib.hid (HK.out.synced O1.out.rep HFit.out (HK.out.on HI.out O1.out.world) O1.out.room)
      refine H2.out.mono ?_
      rintro e w4 ⟨rfl, hb⟩
      have O2 := Lib.hid (O1.out.on HK.out hb)
      have C2 := Lib.hid (C1.out.below hb)
      have X2 := Lib.hid ((hb.block wr.heap.size hx1).trans X1.out)
      have hx2 : wr.heap.size < w4.heap.size := by have := hb.size; omega
      clear hb H2 O1 C1 X1 hx1
      go_wp2_with fail
      have H3 := Lib.hid (HK.out.up O2.out.rep HFit.out (HK.out.on HI.out O2.out.world) O2.out.room)
      refine H3.out.mono ?_
      rintro e w5 ⟨rfl, hb⟩
      have O3 := Lib.hid (O2.out.on HK.out hb)
      have C3 := Lib.hid (C2.out.below hb)
      have X3 := Lib.hid ((hb.block wr.heap.size hx2).trans X2.out)
      have hx3 : wr.heap.size < w5.heap.size := by have := hb.size; omega
      obtain ⟨x0, x1, x2, x3⟩ := box_on X3.out
      clear hb H3 O2 C2 X2 hx2 c0 c1 c2 c3
      go_upto_block 2 with fail
      go_cut [8, 14, 15, 16] from 50 to 185 (fun v8 v14 v15 v16 wx => ∃ (er : Nat) (ch τ' : Bool) (pa : Option Addr) (ca : Nat) (all : List UInt8) (s' : Dv.St) (F' : Nat → Prop), v8 = .bool τ' ∧ v14 = .int .i64 er ∧ v15 = .bool ch ∧ v16 = .slice pa all.length ca ∧ Hid (AfterR Rep q a w (i + 1) s qb wx er ch τ' pa ca all s' F'))
      case first =>
        by_cases e2 : o.kd = 2
        · as_aux_lemma =>
          rw [e2] at x0
          have H4 := Lib.hid (HK.out.sync O3.out.rep HFit.out (HK.out.on HI.out O3.out.world) O3.out.room)
          go_wp2_with fail
          refine H4.out.mono ?_
          rintro e w6 ⟨rfl, F6, hR, hA, _⟩
          have A6 := Lib.hid (after_held (cb := cb) (qb := qb) (τ := τ) HK.out O3.out HM.out HRm.out C3.out HCb.out HN.out.len (Dv.near_sync HN.out) (Dv.sync_held HN.out.sound) hR hA)
          clear hR hA H4
          go_wp2
          go_meet
          case rel => exact ⟨_, _, _, _, _, _, _, _, rfl, rfl, rfl, rfl, A6⟩
        by_cases e6 : o.kd = 6
        · as_aux_lemma =>
          rw [e6] at x0
          have H4 := Lib.hid (HK.out.start O3.out.rep HFit.out (HK.out.on HI.out O3.out.world) O3.out.room)
          go_wp2_with fail
          refine H4.out.mono ?_
          rintro e w6 ⟨rfl, F6, hR, hA, _⟩
          have A6 := Lib.hid (after_held (cb := cb) (qb := qb) (τ := τ) HK.out O3.out HM.out HRm.out C3.out HCb.out HN.out.len (Dv.near_start HN.out) (Dv.start_held HN.out.sound) hR hA)
          clear hR hA H4
          go_wp2
          go_meet
          case rel => exact ⟨_, _, _, _, _, _, _, _, rfl, rfl, rfl, rfl, A6⟩
        by_cases e5 : o.kd = 5
        · as_aux_lemma =>
          rw [e5] at x0
          have H4 := Lib.hid (HK.out.fail o.n o.m HOk.out.n1 HOk.out.n2 HOk.out.m1 HOk.out.m2 O3.out.rep HFit.out (HK.out.on HI.out O3.out.world) O3.out.room)
          go_wp2_with fail
          refine H4.out.mono ?_
          rintro e w6 ⟨rfl, F6, hR, hA, _⟩
          have A6 := Lib.hid (after_held (cb := cb) (qb := qb) (τ := τ) HK.out O3.out HM.out HRm.out C3.out HCb.out HN.out.len (Dv.near_fail HN.out o.n o.m HOk.out.n2 HOk.out.m2) (Dv.fail_held HN.out.sound o.n o.m) hR hA)
          clear hR hA H4
          go_wp2
          go_meet
          case rel => exact ⟨_, _, _, _, _, _, _, _, rfl, rfl, rfl, rfl, A6⟩
        by_cases e3 : o.kd = 3
        · as_aux_lemma =>
          rw [e3] at x0
          have H4 := Lib.hid (HK.out.cut o.n HOk.out.n1 HOk.out.n2 O3.out.rep HFit.out (HK.out.on HI.out O3.out.world) O3.out.room)
          have hcut := Dv.cut_held HN.out.sound o.n
          go_wp2_with fail
          refine H4.out.mono ?_
          rintro e w6 ⟨rfl, F6, hR, hA, _⟩
          by_cases h0 : (Dv.cut s o.n).1 = 0
          · obtain ⟨y1, y2, y3, y4, -⟩ := hcut.2 h0
            have A6 := Lib.hid (after_change (cb := cb) (qb := qb) (τ := τ) HK.out O3.out HRm.out C3.out HCb.out HN.out.len (Dv.near_cut HN.out o.n) h0 y2 (by rw [y3]; exact HM.out) y4 hR hA)
            have hb0 : (((Dv.cut s o.n).1 : Int) == 0) = true := by rw [h0]; rfl
            clear hR hA H4 hcut y1 y2 y3 y4 h0
            generalize (Dv.cut s o.n).1 = er at *
            generalize (Dv.cut s o.n).2 = s6 at *
            go_wp2
            go_meet
            case rel => exact ⟨_, _, _, _, _, _, _, _, rfl, rfl, rfl, rfl, A6⟩
          · have A6 := Lib.hid (after_held (cb := cb) (qb := qb) (τ := τ) HK.out O3.out HM.out HRm.out C3.out HCb.out HN.out.len (Dv.near_cut HN.out o.n) (hcut.1 h0) hR hA)
            have hb0 : (((Dv.cut s o.n).1 : Int) == 0) = false := by rw [beq_eq_false_iff_ne]; omega
            clear hR hA H4 hcut h0
            generalize (Dv.cut s o.n).1 = er at *
            generalize (Dv.cut s o.n).2 = s6 at *
            go_wp2
            go_meet
            case rel => exact ⟨_, _, _, _, _, _, _, _, rfl, rfl, rfl, rfl, A6⟩
        by_cases e7 : o.kd = 7
        · as_aux_lemma =>
          rw [e7] at x0
          obtain ⟨v, hv⟩ := byte_of o.m
          have HD : Hid (∀ w5', Like w5 w5' → Calls Try.prog 23 #[.pointer (some a), .int .i64 o.n, .int .u8 (o.m % 256)] w5' fun e w6 => ∃ er ch s6 F6, e = .returned (.int .i64 (er : Nat)) ∧ ch = ((er : Int) == 0) ∧ AfterR Rep q a w (i + 1) s qb w6 er ch τ qb cb s.b s6 F6 ∧ w6.heap[wr.heap.size]? = w5.heap[wr.heap.size]?) := by
            intro w5' hlk
            have hO5 := O3.out.on HK.out (hlk.below _)
            have hC5 := C3.out.below (hlk.below _)
            rw [← hv]
            refine (HK.out.damage o.n v HOk.out.n1 HOk.out.n2 hO5.rep HFit.out (HK.out.on HI.out hO5.world) hO5.room).mono ?_
            rintro e w6 ⟨rfl, F6, hR, hA, _⟩
            have hkeep : w6.heap[wr.heap.size]? = w5.heap[wr.heap.size]? := by
              rw [hA.block wr.heap.size (by rw [hlk.heap]; exact hx3) (fun hf => by have := HF0.out _ hf; omega), hlk.heap]
            by_cases h0 : (Dv.damage s o.n v).1 = 0
            · obtain ⟨_, _, y3, y4, y5, _, _⟩ := Dv.damage_held HN.out.sound o.n v
              refine ⟨_, true, _, F6, rfl, by rw [h0]; rfl, after_change (cb := cb) (qb := qb) (τ := τ) HK.out hO5 HRm.out hC5 HCb.out HN.out.len (Dv.near_damage HN.out o.n v) h0 (by omega) (by rw [y4]; exact HM.out) y5 hR hA, hkeep⟩
            · exact ⟨_, false, _, F6, rfl, by symm; rw [beq_eq_false_iff_ne]; omega, after_held (cb := cb) (qb := qb) (τ := τ) HK.out hO5 HM.out HRm.out hC5 HCb.out HN.out.len (Dv.near_damage HN.out o.n v) (damage_err HN.out.sound o.n v h0) hR hA, hkeep⟩
          clear hv
          go_wp2_with fail
          go_region_held3 (fun w' => w'.cell? ⟨wr.heap.size, 1, none⟩ = some (.int .i64 o.n) ∧ w'.cell? ⟨wr.heap.size, 2, none⟩ = some (.int .i64 o.m)) (go_keep) (first
            | (go_at_call 24; refine (byteOf_any _ _).mono ?_; rintro e w' ⟨rfl, rfl⟩)
            | (go_at_call 23; refine (HD.out _ ⟨by rfl, by rfl, by rfl, by rfl⟩).mono ?_; rintro e w6 ⟨er, ch, s6, F6, rfl, hch, hA6, hk6⟩; have A6 := Lib.hid hA6; have hch' := hch.symm; obtain ⟨z0, z1, z2, z3⟩ := box_on (hk6.trans X3.out); clear hA6 hk6 hch))
          go_wp2
          go_meet
          case rel => exact ⟨_, _, _, _, _, _, _, _, rfl, rfl, rfl, rfl, A6⟩
        by_cases e1 : o.kd = 1
        · as_aux_lemma =>
          rw [e1] at x0
          have H4 := Lib.hid (HK.out.write o.p o.c o.l HOk.out.len HOk.out.cap (HOk.out.lies.on O3.out.world) (fun hne b p hp hf => by have := HOk.out.low hne b p hp; have := (HK.out.lies O3.out.rep b hf).1; omega) O3.out.rep HFit.out (HK.out.on HI.out O3.out.world) O3.out.room)
          have hsumV : s.b.length + o.l.length ≤ 200000000000000 := by have := HN.out.len; have := HOk.out.len; omega
          have L6n : s.b.length ≤ 200000000000000 := by have := HN.out.len; omega
          go_wp2_with fail
          refine H4.out.mono ?_
          rintro e w6 ⟨rfl, F6, hR, hA, _⟩
          have HRr := Lib.hid hR
          have HAa := Lib.hid hA
          have AB6 := Lib.hid (C3.out.on hA)
          have AL6 := Lib.hid (HOk.out.lies.on (O3.out.step HK.out hR hA).world)
          obtain ⟨z0, z1, z2, z3⟩ := box_on ((hA.block wr.heap.size hx3 (fun hf => by have := HF0.out _ hf; omega)).trans X3.out)
          have hx6 : wr.heap.size < w6.heap.size := by have := hA.size; omega
          have B6n : Hid (Below w6.heap.size w6 (w6.alloc (.cells #[] 5))) := (Below.refl _ _).alloc (Nat.le_refl _) _
          have M6n := Lib.hid (mine_new w6)
          have A6n := Lib.hid (AB6.out.on B6n.out)
          have z6n : w6.heap.size ≤ (w6.alloc (.cells #[] 5)).heap.size := B6n.out.size
          clear hR hA H4 x0 x1 x2 x3
          go_wp2_with fail
          go_region_law (first
            | (refine step_onto0 (B := w6.heap.size) (g := w6.heap.size) (l := s.b) (p := qb) (c := cb) (by exact M6n.out) (by exact A6n.out) L6n (by exact z6n) (.tmp 68) (.tmp 69) (by rfl) (by rfl) (by rfl) (by rfl) (by rfl) ?_; intro g9 c9 W9 hm9 hb9; have HM9 := Lib.hid hm9; have HB9 := Lib.hid (B6n.out.trans (below_via hb9 (by rfl) (by rfl) (by rfl) (by rfl))); have y3 : W9.cell? ⟨wr.heap.size, 3, none⟩ = some (.slice o.p o.l.length o.c) := (by rw [HB9.out.cell (p := ⟨wr.heap.size, 3, none⟩) hx6]; exact z3); clear hm9 hb9)
            | (refine step_onto (B := w6.heap.size) (g := g9) (cap := c9) (xs := s.b) (l := o.l) (p := o.p) (c := o.c) (by exact HM9.out) (by exact AL6.out.on HB9.out) hsumV (by exact HB9.out.size) (.tmp 70) (.tmp 72) (by rfl) (by rfl) (by rfl) (by rfl) (by rfl) ?_; intro g10 c10 W10 hm10 hb10; have HM10 := Lib.hid hm10; have HB10 := Lib.hid (HB9.out.trans (below_via hb10 (by rfl) (by rfl) (by rfl) (by rfl))); clear hm10 hb10))
          all_goals
            have A10 := Lib.hid (after_write (qb := qb) (τ := τ) HK.out O3.out HM.out HRm.out C3.out o.l HN.out HRr.out HAa.out HB10.out HM10.out.at HM10.out.base.2.2 (by rw [List.length_append]; exact hsumV))
            go_wp2
            go_meet
            case rel => exact ⟨_, _, _, _, _, _, _, _, rfl, rfl, rfl, by simp, A10⟩
        by_cases e8 : o.kd = 8
        · rw [e8] at x0
          have H4 := Lib.hid (HK.out.tail o.p o.c o.l HOk.out.len HOk.out.cap (HOk.out.lies.on O3.out.world) (fun hne b p hp hf => by have := HOk.out.low hne b p hp; have := (HK.out.lies O3.out.rep b hf).1; omega) O3.out.rep HFit.out (HK.out.on HI.out O3.out.world) O3.out.room)
          have hsumV : s.b.length + o.l.length ≤ 200000000000000 := by have := HN.out.len; have := HOk.out.len; omega
          have L6n : s.b.length ≤ 200000000000000 := by have := HN.out.len; omega
          go_wp2_with fail
          refine H4.out.mono ?_
          rintro e w6 ⟨rfl, F6, hR, hA, _⟩
          have HRr := Lib.hid hR
          have HAa := Lib.hid hA
          have AB6 := Lib.hid (C3.out.on hA)
          have AL6 := Lib.hid (HOk.out.lies.on (O3.out.step HK.out hR hA).world)
          obtain ⟨z0, z1, z2, z3⟩ := box_on ((hA.block wr.heap.size hx3 (fun hf => by have := HF0.out _ hf; omega)).trans X3.out)
          have hx6 : wr.heap.size < w6.heap.size := by have := hA.size; omega
          have B6n : Hid (Below w6.heap.size w6 (w6.alloc (.cells #[] 5))) := (Below.refl _ _).alloc (Nat.le_refl _) _
          have M6n := Lib.hid (mine_new w6)
          have A6n := Lib.hid (AB6.out.on B6n.out)
          have z6n : w6.heap.size ≤ (w6.alloc (.cells #[] 5)).heap.size := B6n.out.size
          clear hR hA H4 x0 x1 x2 x3
          cases τ with
          | true =>
            as_aux_lemma =>
            go_wp2_with fail
            go_region_law (first
            | (refine step_onto0 (B := w6.heap.size) (g := w6.heap.size) (l := s.b) (p := qb) (c := cb) (by exact M6n.out) (by exact A6n.out) L6n (by exact z6n) (.tmp 120) (.tmp 121) (by rfl) (by rfl) (by rfl) (by rfl) (by rfl) ?_; intro g9 c9 W9 hm9 hb9; have HM9 := Lib.hid hm9; have HB9 := Lib.hid (B6n.out.trans (below_via hb9 (by rfl) (by rfl) (by rfl) (by rfl))); have y3 : W9.cell? ⟨wr.heap.size, 3, none⟩ = some (.slice o.p o.l.length o.c) := (by rw [HB9.out.cell (p := ⟨wr.heap.size, 3, none⟩) hx6]; exact z3); clear hm9 hb9)
            | (refine step_onto (B := w6.heap.size) (g := g9) (cap := c9) (xs := s.b) (l := o.l) (p := o.p) (c := o.c) (by exact HM9.out) (by exact AL6.out.on HB9.out) hsumV (by exact HB9.out.size) (.tmp 122) (.tmp 124) (by rfl) (by rfl) (by rfl) (by rfl) (by rfl) ?_; intro g10 c10 W10 hm10 hb10; have HM10 := Lib.hid hm10; have HB10 := Lib.hid (HB9.out.trans (below_via hb10 (by rfl) (by rfl) (by rfl) (by rfl))); clear hm10 hb10))
            all_goals
              have A10 := Lib.hid (after_tail (qb := qb) (τ := true) HK.out O3.out HM.out HRm.out C3.out o.l HN.out HRr.out HAa.out HB10.out HM10.out.at HM10.out.base.2.2 (by rw [List.length_append]; exact hsumV) (τ' := true) (fun h => by cases h))
              go_wp2
              go_meet
              case rel => exact ⟨_, _, _, _, _, _, _, _, rfl, rfl, rfl, by simp, A10⟩
          | false =>
            as_aux_lemma =>
            have hτ : ((((Dv.tail s o.l).1 : Nat) : Int) == 0) = false → (Dv.tail s o.l).1 ≠ 0 := fun h h0 => by rw [h0] at h; cases h
            have HT := Lib.hid hτ
            clear hτ
            obtain ⟨b8, hb8⟩ : ∃ b8, ((((Dv.tail s o.l).1 : Nat) : Int) == 0) = b8 := ⟨_, rfl⟩
            rw [hb8] at HT
            go_wp2_with fail
            go_region_law (first
            | (refine step_onto0 (B := w6.heap.size) (g := w6.heap.size) (l := s.b) (p := qb) (c := cb) (by exact M6n.out) (by exact A6n.out) L6n (by exact z6n) (.tmp 120) (.tmp 121) (by rfl) (by rfl) (by rfl) (by rfl) (by rfl) ?_; intro g9 c9 W9 hm9 hb9; have HM9 := Lib.hid hm9; have HB9 := Lib.hid (B6n.out.trans (below_via hb9 (by rfl) (by rfl) (by rfl) (by rfl))); have y3 : W9.cell? ⟨wr.heap.size, 3, none⟩ = some (.slice o.p o.l.length o.c) := (by rw [HB9.out.cell (p := ⟨wr.heap.size, 3, none⟩) hx6]; exact z3); clear hm9 hb9)
            | (refine step_onto (B := w6.heap.size) (g := g9) (cap := c9) (xs := s.b) (l := o.l) (p := o.p) (c := o.c) (by exact HM9.out) (by exact AL6.out.on HB9.out) hsumV (by exact HB9.out.size) (.tmp 122) (.tmp 124) (by rfl) (by rfl) (by rfl) (by rfl) (by rfl) ?_; intro g10 c10 W10 hm10 hb10; have HM10 := Lib.hid hm10; have HB10 := Lib.hid (HB9.out.trans (below_via hb10 (by rfl) (by rfl) (by rfl) (by rfl))); clear hm10 hb10))
            all_goals
              have A10 := Lib.hid (after_tail (qb := qb) (τ := false) HK.out O3.out HM.out (fun _ => HRm.out (by trivial)) C3.out o.l HN.out HRr.out HAa.out HB10.out HM10.out.at HM10.out.base.2.2 (by rw [List.length_append]; exact hsumV) (τ' := b8) (fun h => ⟨rfl, HT.out h⟩))
              go_wp2
              go_meet
              case rel => exact ⟨_, _, _, _, _, _, _, _, rfl, rfl, rfl, by simp, A10⟩
        have f1 : (o.kd == 1) = false := by rw [beq_eq_false_iff_ne]; exact e1
        have f2 : (o.kd == 2) = false := by rw [beq_eq_false_iff_ne]; exact e2
        have f3 : (o.kd == 3) = false := by rw [beq_eq_false_iff_ne]; exact e3
        have f5 : (o.kd == 5) = false := by rw [beq_eq_false_iff_ne]; exact e5
        have f6 : (o.kd == 6) = false := by rw [beq_eq_false_iff_ne]; exact e6
        have f7 : (o.kd == 7) = false := by rw [beq_eq_false_iff_ne]; exact e7
        have f8 : (o.kd == 8) = false := by rw [beq_eq_false_iff_ne]; exact e8
        have A6 := Lib.hid (after_none (cb := cb) (qb := qb) (τ := τ) O3.out HN.out HM.out HRm.out C3.out HCb.out)
        clear e1 e2 e3 e5 e6 e7 e8
        go_wp2
        go_meet
        case rel => exact ⟨_, _, _, _, _, _, _, _, rfl, rfl, rfl, rfl, A6⟩
      case rest =>
        obtain ⟨er, ch, τ', pa, ca, all, s', F', rfl, rfl, rfl, rfl, HAf⟩ := hcut
        have HFit2 := Lib.hid (HAf.out.near.fit (by omega))
        have P0 := Lib.hid HAf.out.one
        have AB0 := Lib.hid HAf.out.before
        have AA0 := Lib.hid HAf.out.after
        have hsnd : s'.safe ≤ s'.b.length := HAf.out.near.sound
        have hsnd0 : s.safe ≤ s.b.length := HN.out.sound
        have hlen' := HAf.out.near.len
        have hlen0 := HN.out.len
        clear O3 C3 X3 hx3 x0 x1 x2 x3 HFit
        go_wp2_with fail
        have H1 := Lib.hid (HK.out.all P0.out.rep HFit2.out (HK.out.on HI.out P0.out.world) P0.out.room)
        refine H1.out.mono ?_
        rintro e w6 ⟨qc, cc, rfl, hcc, hT, hb⟩
        have P1 := Lib.hid (P0.out.on HK.out hb)
        have AB1 := Lib.hid (AB0.out.on hb)
        have AA1 := Lib.hid (AA0.out.on hb)
        have AC1 := Lib.hid hT.1
        have HCc := Lib.hid hcc
        have Q1 : Hid (One Rep w.heap.size a w w6 s' F' ∧ At w6 qb s.b ∧ At w6 pa all ∧ At w6 qc s'.b) := ⟨P1.out, AB1.out, AA1.out, AC1.out⟩
        clear hT hb hcc H1 P0 AB0 AA0 P1 AB1 AA1 AC1
        have QOn : Hid (∀ {u u' : World}, (One Rep w.heap.size a w u s' F' ∧ At u qb s.b ∧ At u pa all ∧ At u qc s'.b) → Below u.heap.size u u' → (One Rep w.heap.size a w u' s' F' ∧ At u' qb s.b ∧ At u' pa all ∧ At u' qc s'.b)) := fun h hb => ⟨h.1.on HK.out hb, h.2.1.on hb, h.2.2.1.on hb, h.2.2.2.on hb⟩
        go_upto_region 36 with fail
        go_cut [149] from 50 to 185 (fun v149 wx => v149 = .bool false ∧ Hid (One Rep w.heap.size a w wx s' F' ∧ At wx qb s.b ∧ At wx pa all ∧ At wx qc s'.b))
        case first =>
          as_aux_lemma =>
          have d1 : decide (s'.b.length < s'.safe) = false := decide_eq_false (by omega)
          go_wp2_with fail
          have H2 := Lib.hid (HK.out.synced Q1.out.1.rep HFit2.out (HK.out.on HI.out Q1.out.1.world) Q1.out.1.room)
          refine H2.out.mono ?_
          rintro e w7 ⟨rfl, hb⟩
          have Q2 := Lib.hid (QOn.out Q1.out hb)
          clear hb H2 Q1
          go_wp2_with fail
          have H3 := Lib.hid (HK.out.len Q2.out.1.rep HFit2.out (HK.out.on HI.out Q2.out.1.world) Q2.out.1.room)
          refine H3.out.mono ?_
          rintro e w8 ⟨rfl, hb⟩
          have Q3 := Lib.hid (QOn.out Q2.out hb)
          clear hb H3 Q2
          go_wp2_with fail
          have H4 := Lib.hid (HK.out.len Q3.out.1.rep HFit2.out (HK.out.on HI.out Q3.out.1.world) Q3.out.1.room)
          refine H4.out.mono ?_
          rintro e w9 ⟨rfl, hb⟩
          have Q4 := Lib.hid (QOn.out Q3.out hb)
          clear hb H4 Q3
          have HRoom := Lib.hid HAf.out.room
          cases τ' with
          | true =>
            go_wp2_with fail
            go_meet
            case rel => exact ⟨rfl, Q4⟩
          | false =>
            have hroom : s'.b.length ≤ q := HRoom.out (by trivial)
            have d2 : decide (q < s'.b.length) = false := decide_eq_false (by omega)
            go_wp2_with fail
            have H5 := Lib.hid (HK.out.len Q4.out.1.rep HFit2.out (HK.out.on HI.out Q4.out.1.world) Q4.out.1.room)
            refine H5.out.mono ?_
            rintro e w10 ⟨rfl, hb⟩
            have Q5 := Lib.hid (QOn.out Q4.out hb)
            clear hb H5 Q4
            go_wp2_with fail
            go_meet
            case rel => exact ⟨rfl, Q5⟩
        case rest =>
          obtain ⟨rfl, QC⟩ := hcut
          clear Q1
          go_upto_region 38 with fail
          go_cut [165] from 50 to 185 (fun v165 wx => v165 = .bool false ∧ Hid (One Rep w.heap.size a w wx s' F' ∧ At wx qb s.b ∧ At wx pa all ∧ At wx qc s'.b))
          case first =>
            as_aux_lemma =>
            have HKp := Lib.hid HAf.out.keeps
            cases ch with
            | true =>
              go_wp2_with fail
              go_meet
              case rel => exact ⟨rfl, QC⟩
            | false =>
              have hkp := HKp.out (by trivial)
              have hl : (s.b.take s.safe).length = s.safe := by rw [List.length_take]; omega
              have hS1 := begins_any qb qc cb cc (s.b.take s.safe) s'.b (by omega) HCc.out _ (QC.out.2.1.take s.safe) QC.out.2.2.2
              rw [hl, decide_eq_true hkp.1] at hS1
              have HS1 := Lib.hid hS1
              have HP2 := Lib.hid hkp.2
              have hsb : s.safe ≤ cb := by have := HCb.out; omega
              clear hS1 hkp hl
              go_wp2_with fail
              refine HS1.out.mono ?_
              rintro e w' ⟨rfl, m, hw⟩
              rw [hw]
              clear hw w' HS1
              have QD := Lib.hid (QOn.out QC.out (below_drewN (Below.refl _ wc) m))
              clear QC
              generalize wc.drewN m = wd at QD ⊢
              have hS2 := begins_any qc pa cc ca s'.b all (by omega) HAf.out.cap _ QD.out.2.2.2 QD.out.2.2.1
              rw [decide_eq_true HP2.out] at hS2
              have HS2 := Lib.hid hS2
              clear hS2 HP2
              go_wp2_with fail
              refine HS2.out.mono ?_
              rintro e w' ⟨rfl, m2, hw⟩
              rw [hw]
              clear hw w' HS2
              have QE := Lib.hid (QOn.out QD.out (below_drewN (Below.refl _ wd) m2))
              clear QD
              go_wp2_with fail
              go_meet
              case rel => exact ⟨rfl, QE⟩
          case rest =>
            obtain ⟨rfl, QF⟩ := hcut
            clear QC
            go_upto_region 40 with fail
            go_cut [13, 184] from 50 to 185 (fun _ v184 wx => v184 = .bool false ∧ Hid (One Rep w.heap.size a w wx s' F' ∧ At wx qb s.b ∧ At wx pa all ∧ At wx qc s'.b))
            case first =>
              have HPw := Lib.hid HAf.out.power
              cases hd : s.down with
              | true =>
                as_aux_lemma =>
                have f51 : ((er : Int) == 51) = false := by
                  rw [beq_eq_false_iff_ne]
                  intro hc
                  have := (HPw.out.1 (by omega)).1
                  rw [hd] at this
                  cases this
                have QG := QF
                clear QF HPw
                have HSp := Lib.hid (HAf.out.space)
                by_cases h52 : er = 52
                · have hsb := HSp.out h52
                  have f52 : ((er : Int) == 52) = true := by rw [h52]; rfl
                  have hS := same_any qb qc cb cc s.b s'.b (by omega) _ QG.out.2.1 QG.out.2.2.2
                  have ee : (s.b == s'.b) = true := by rw [hsb]; simp
                  rw [ee] at hS
                  have HSm := Lib.hid hS
                  clear hS ee hsb h52
                  go_wp2_with fail
                  refine HSm.out.mono ?_
                  rintro e w' ⟨rfl, m, hw⟩
                  rw [hw]
                  clear hw w' HSm
                  have QH := Lib.hid (QOn.out QG.out (below_drewN (Below.refl _ _) m))
                  go_wp2_with fail
                  go_meet
                  case rel => exact ⟨rfl, QH⟩
                · have f52 : ((er : Int) == 52) = false := by rw [beq_eq_false_iff_ne]; omega
                  clear h52
                  go_wp2_with fail
                  go_meet
                  case rel => exact ⟨rfl, QG⟩
              | false =>
                as_aux_lemma =>
                go_wp2_with fail
                have H5 := Lib.hid (HK.out.up QF.out.1.rep HFit2.out (HK.out.on HI.out QF.out.1.world) QF.out.1.room)
                refine H5.out.mono ?_
                rintro e w10 ⟨rfl, hb⟩
                have QG := Lib.hid (QOn.out QF.out hb)
                clear hb H5 QF
                cases hd' : s'.down with
                | true =>
                  have f51 : ((er : Int) == 51) = true := by rw [HPw.out.2 ⟨hd, hd'⟩]; rfl
                  clear HPw
                  have HSp := Lib.hid (HAf.out.space)
                  by_cases h52 : er = 52
                  · have hsb := HSp.out h52
                    have f52 : ((er : Int) == 52) = true := by rw [h52]; rfl
                    have hS := same_any qb qc cb cc s.b s'.b (by omega) _ QG.out.2.1 QG.out.2.2.2
                    have ee : (s.b == s'.b) = true := by rw [hsb]; simp
                    rw [ee] at hS
                    have HSm := Lib.hid hS
                    clear hS ee hsb h52
                    go_wp2_with fail
                    refine HSm.out.mono ?_
                    rintro e w' ⟨rfl, m, hw⟩
                    rw [hw]
                    clear hw w' HSm
                    have QH := Lib.hid (QOn.out QG.out (below_drewN (Below.refl _ _) m))
                    go_wp2_with fail
                    go_meet
                    case rel => exact ⟨rfl, QH⟩
                  · have f52 : ((er : Int) == 52) = false := by rw [beq_eq_false_iff_ne]; omega
                    clear h52
                    go_wp2_with fail
                    go_meet
                    case rel => exact ⟨rfl, QG⟩
                | false =>
                  have f51 : ((er : Int) == 51) = false := by
                    rw [beq_eq_false_iff_ne]
                    intro hc
                    have := (HPw.out.1 (by omega)).2
                    rw [hd'] at this
                    cases this
                  clear HPw
                  have HSp := Lib.hid (HAf.out.space)
                  by_cases h52 : er = 52
                  · have hsb := HSp.out h52
                    have f52 : ((er : Int) == 52) = true := by rw [h52]; rfl
                    have hS := same_any qb qc cb cc s.b s'.b (by omega) _ QG.out.2.1 QG.out.2.2.2
                    have ee : (s.b == s'.b) = true := by rw [hsb]; simp
                    rw [ee] at hS
                    have HSm := Lib.hid hS
                    clear hS ee hsb h52
                    go_wp2_with fail
                    refine HSm.out.mono ?_
                    rintro e w' ⟨rfl, m, hw⟩
                    rw [hw]
                    clear hw w' HSm
                    have QH := Lib.hid (QOn.out QG.out (below_drewN (Below.refl _ _) m))
                    go_wp2_with fail
                    go_meet
                    case rel => exact ⟨rfl, QH⟩
                  · have f52 : ((er : Int) == 52) = false := by rw [beq_eq_false_iff_ne]; omega
                    clear h52
                    go_wp2_with fail
                    go_meet
                    case rel => exact ⟨rfl, QG⟩
            case rest =>
              obtain ⟨rfl, QI⟩ := hcut
              have HFin : Hid (KeepR Rep q a w (i + 1) τ' wc s') := ⟨F', QI.out.1, HAf.out.near, HAf.out.most, HAf.out.room⟩
              clear QF QI HAf
              go_wp2
              go_roundw
              case rel => exact ⟨i + 1, τ', s', by omega, rfl, by go_num, HFin⟩
              case measure => simp [intOf]; omega
    · have hil : ¬ (i : Int) < (ops.length : Int) := by omega
      obtain ⟨F, hO, _⟩ := HL.out
      have HE := Lib.hid hO.world
      clear HL hO hlt
      go_wp2
      go_ret
      exact ⟨rfl, HE.out⟩
end
end Go.Proofs.Ytoibeajcepbpjaa

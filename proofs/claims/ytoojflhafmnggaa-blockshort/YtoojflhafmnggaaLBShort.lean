/- BlockShort, BlockNumbers. -/
import Derived.Test.YtoojflhafmnggaaWLive10
import Derived.Test.YtoojflhafmnggaaWRef10U
import Derived.Test.YtoojflhafmnggaaBlk3
namespace Go.Proofs.Ytoojflhafmnggaa
open Go.RowKit

theorem made_own (w : World) (n : Nat) : Own (w.alloc (.cells (madeCells #[.int .u8 0] n) 5)) w.heap.size (List.replicate n 0) := by
  refine ⟨#[], ?_⟩
  rw [blk_new]
  congr 2
  apply Array.ext_getElem?
  intro i
  by_cases h : i < n
  · simp [madeCells, cellsOf, h, Nat.mod_one]
  · simp [madeCells, cellsOf, h]

/-- the block holds the piece again and again, up to a place -/
def Again (w : World) (g n : Nat) (l : List UInt8) (i : Nat) (wr : World) : Prop := ∃ xs : List UInt8, Own wr g xs ∧ xs.length = n ∧ Below g w wr ∧ ∀ j, j < i → xs[j]? = l[j % l.length]?
theorem again_step {w wr : World} {g n i : Nat} {l : List UInt8} (h : Again w g n l i wr) (hi : i < n) (hl : i % l.length < l.length) :
    (∃ v, wr.cell? ⟨g, i, none⟩ = some v) ∧ wr.frozen? ⟨g, i, none⟩ = false ∧ Again w g n l (i + 1) (wr.setCell ⟨g, i, none⟩ (.int .u8 (l[i % l.length].toNat : Int))) := by
  obtain ⟨xs, hO, hx, hB, ht⟩ := h
  have hc := hO.cells i (by omega)
  rw [Nat.zero_add] at hc
  refine ⟨⟨_, hc⟩, hO.thawed i, _, hO.set i l[i % l.length] (by omega), by rw [List.length_set]; exact hx, hB.setCell (Nat.le_refl _) _, fun j hj => ?_⟩
  by_cases e : j = i
  · subst e
    rw [List.getElem?_set_self (by omega), List.getElem?_eq_getElem hl]
  · rw [List.getElem?_set_ne (fun h => e h.symm)]
    exact ht j (by omega)
theorem again_period {w wr : World} {g n : Nat} {l : List UInt8} (h : Again w g n l n wr) (h1 : 1 ≤ l.length) (h2 : l.length ≤ 1024) (h3 : l.length ≤ n) : ∃ xs : List UInt8, Own wr g xs ∧ xs.length = n ∧ Below g w wr ∧ Blk.Period xs l.length := by
  obtain ⟨xs, hO, hx, hB, ht⟩ := h
  refine ⟨xs, hO, hx, hB, h1, h2, by omega, fun i hi hlt => ?_⟩
  rw [ht i (by omega), ht (i - l.length) (by omega)]
  congr 1
  have e : i = i - l.length + l.length := by omega
  conv => lhs; rw [e]
  exact Nat.add_mod_right _ _

set_option maxRecDepth 100000 in
set_option maxHeartbeats 2000000 in
theorem blockShort_any (p : Option Addr) (c : Nat) (l : List UInt8) (n : Int) (hl : l.length ≤ 140737488351232) (hn1 : -9223372036854775808 ≤ n) (hn2 : n ≤ 9223372036854775807) (w : World) (h : At w p l) :
    Calls Try.prog 5 #[.slice p l.length c, .int .i64 n] w fun e w' => e = .returned (.bool true) ∧ Below w.heap.size w w' := by
  by_cases hbad : l.length = 0 ∨ 1024 < l.length ∨ n < l.length ∨ 2048 < n
  · have HL := Lib.hid (live10 w)
    have hcases : l.length = 0 ∨ (¬ l.length = 0 ∧ 1024 < l.length) ∨ (¬ l.length = 0 ∧ ¬ 1024 < l.length ∧ n < l.length) ∨ (¬ l.length = 0 ∧ ¬ 1024 < l.length ∧ ¬ n < l.length ∧ 2048 < n) := by omega
    clear hbad h
    rcases hcases with h0 | ⟨h0, h1⟩ | ⟨h0, h1, h2⟩ | ⟨h0, h1, h2, h3⟩
    · rw [h0]
      clear h0 hl
      go_enter Try.func5, Try.ntmps5
      go_wp2_with fail
      refine HL.out.mono ?_
      rintro e w1 ⟨rfl, hb⟩
      go_wp2
      go_ret
      exact ⟨rfl, hb⟩
    · have g0 : ((l.length : Int) == 0) = false := by rw [beq_eq_false_iff_ne]; omega
      go_enter Try.func5, Try.ntmps5
      go_wp2_with fail
      refine HL.out.mono ?_
      rintro e w1 ⟨rfl, hb⟩
      go_wp2
      go_ret
      exact ⟨rfl, hb⟩
    · have g0 : ((l.length : Int) == 0) = false := by rw [beq_eq_false_iff_ne]; omega
      go_enter Try.func5, Try.ntmps5
      go_wp2_with fail
      refine HL.out.mono ?_
      rintro e w1 ⟨rfl, hb⟩
      go_wp2
      go_ret
      exact ⟨rfl, hb⟩
    · have g0 : ((l.length : Int) == 0) = false := by rw [beq_eq_false_iff_ne]; omega
      go_enter Try.func5, Try.ntmps5
      go_wp2_with fail
      refine HL.out.mono ?_
      rintro e w1 ⟨rfl, hb⟩
      go_wp2
      go_ret
      exact ⟨rfl, hb⟩
  · obtain ⟨m, rfl⟩ : ∃ m : Nat, n = (m : Int) := ⟨n.toNat, by omega⟩
    have g0 : ((l.length : Int) == 0) = false := by rw [beq_eq_false_iff_ne]; omega
    have h0 : 1 ≤ l.length := by omega
    have h1 : l.length ≤ 1024 := by omega
    have h2 : l.length ≤ m := by omega
    have h3 : m ≤ 2048 := by omega
    clear hbad hn1 hn2 hl
    obtain ⟨b, o, rfl, hb, hcs⟩ := at_some h (by omega)
    have hmk : ∀ w : World, (Instr.makeSlice 22 (.int .i64 m) (.int .i64 m)).run Try.prog w = .ok (.slice (some ⟨w.heap.size, 0, none⟩) m m) (w.alloc (.cells (madeCells #[.int .u8 0] m) 5)) := run_make_row' (P := Try.prog) 22 5 (.int .u8 0) 1 Try.underlying22 info8 rfl .i64 .i64 m (by omega) (by omega)
    have HI : Hid (Again w w.heap.size m l 0 (w.alloc (.cells (madeCells #[.int .u8 0] m) 5))) := ⟨List.replicate m 0, made_own w m, by rw [List.length_replicate], (Below.refl _ _).alloc (Nat.le_refl _) _, fun j hj => by omega⟩
    have HC := Lib.hid hcs
    have HA := Lib.hid h
    clear hcs h
    go_enter Try.func5, Try.ntmps5
    go_wp2_with fail
    generalize w.alloc (.cells (madeCells #[.int .u8 0] m) 5) = w0 at HI ⊢
    go_loopw [6] (fun v6 wr => ∃ i : Nat, i ≤ m ∧ v6 = .int .i64 i ∧ Hid (Again w w.heap.size m l i wr)) (fun v6 _ => m - (intOf v6).toNat)
    case atStart => exact ⟨0, by omega, rfl, HI⟩
    case round =>
      obtain ⟨i, hi, rfl, HK⟩ := hrel
      by_cases hlt : i < m
      · have hmod : i % l.length < l.length := Nat.mod_lt _ (by omega)
        obtain ⟨⟨v, hv⟩, hfz, hn⟩ := again_step HK.out hlt hmod
        have hcell : wr.cell? ⟨b, o + i % l.length, none⟩ = some (.int .u8 (l[i % l.length].toNat : Int)) := by
          obtain ⟨xs, -, -, hB, -⟩ := HK.out
          rw [hB.cell (p := ⟨b, o + i % l.length, none⟩) hb]
          exact HC.out _ hmod
        have HN := Lib.hid hn
        have e1 : ((i : Int) % (l.length : Int)) = ((i % l.length : Nat) : Int) := by omega
        obtain ⟨k, hk⟩ : ∃ k, k = i % l.length := ⟨_, rfl⟩
        have hx := l[i % l.length].toNat_lt
        generalize l[i % l.length].toNat = x at hcell HN hx
        rw [← hk] at hcell hmod
        have e2 : ((i : Int) % (l.length : Int)) = (k : Int) := by rw [e1, hk]
        clear hn HK e1 hk
        go_wp2
        go_roundw
        case rel => exact ⟨i + 1, by omega, by go_num, HN⟩
        case measure => simp [intOf]; omega
      · have hii : i = m := by omega
        subst hii
        obtain ⟨xs, hO, hx, hB, hP⟩ := again_period HK.out h0 h1 h2
        obtain ⟨k1, k2, k3⟩ := Blk.pack_back (b := xs) (by omega)
        have k4 := Blk.pack_short hP (by omega)
        rw [hx] at k4
        have HP := Lib.hid (packK xs (some ⟨w.heap.size, 0, none⟩) i wr (by omega) (by omega) hO.at)
        obtain ⟨P, hPk⟩ : ∃ P, P = Blk.pack xs := ⟨_, rfl⟩
        rw [← hPk] at HP k1 k2 k3 k4
        obtain ⟨pe, po⟩ := P
        dsimp only at k1 k2 k3 k4
        subst k1
        rw [hx] at HP
        have K2 := Lib.hid k2
        have B1 := Lib.hid hB
        have X1 := Lib.hid hO.at
        have HX := Lib.hid hx
        have hpo : po.length ≤ 2049 := by omega
        have HF := Lib.hid (fun w => refFewK i l.length h3 h2 w)
        obtain ⟨F, hF⟩ : ∃ F, F = l.length + l.length / 8 + (i - l.length) / 32 + 16 := ⟨_, rfl⟩
        rw [← hF] at HF k4
        have k5 : po.length ≤ F := by omega
        have k6 : decide (po.length ≤ F) = true := decide_eq_true k5
        clear hPk k2 k3 hO hx hB hP HK hlt hi hF k4 HI hmk
        go_wp2_with fail
        refine HP.out.mono ?_
        rintro e w1 ⟨q1, m1, cap1, rfl, hm1, hh1, hb1⟩
        dsimp only at hm1 hh1
        subst hm1
        have B2 := Lib.hid (B1.out.trans (hb1.mono B1.out.size))
        have X2 := Lib.hid (X1.out.on hb1)
        have hu := unpackK po q1 cap1 w1 (by omega) hh1.at'.2 hh1.at'.1
        rw [K2.out] at hu
        have U1 := Lib.hid hu
        clear hh1 hb1 hu HP X1
        go_wp2_with fail
        refine (HF.out w1).mono ?_
        rintro e w2 ⟨rfl, hw2⟩
        rw [hw2]
        clear hw2 w2
        go_wp2_with fail
        refine U1.out.mono ?_
        rintro e w3 ⟨q3, m3, cap3, rfl, hm3, hh3, hb3⟩
        dsimp only at hm3 hh3
        have B3 := Lib.hid (B2.out.trans (hb3.mono B2.out.size))
        have X3 := Lib.hid (X2.out.on hb3)
        have Y3 := Lib.hid hh3.at'.1
        rw [hm3]
        clear hh3 hb3 U1 X2 hm3
        go_wp2_with fail
        refine (live10 w3).mono ?_
        rintro e w4 ⟨rfl, hb4⟩
        have B4 := Lib.hid (B3.out.trans (hb4.mono B3.out.size))
        have hsm := same_any q3 (some ⟨w.heap.size, 0, none⟩) cap3 i xs xs (by rw [HX.out]; omega) w4 (Y3.out.on hb4) (X3.out.on hb4)
        rw [HX.out] at hsm ⊢
        have HS := Lib.hid hsm
        clear hb4 X3 Y3 hsm
        go_wp2_with fail
        refine HS.out.mono ?_
        rintro e w5 ⟨rfl, k, hw5⟩
        have B5 : Hid (Below w.heap.size w w5) := by rw [hw5]; exact below_drewN B4.out k
        rw [beq_self_eq_true]
        clear hw5 HS
        go_wp2
        go_ret
        exact ⟨rfl, B5.out⟩

theorem blockShort_int (p : Option Addr) (c : Nat) (l : List UInt8) (n : Int) (hn : (Lit.int .i64 n).wf = true) (hl : l.length ≤ 140737488351232) (w : World) (h : At w p l) :
    Calls Try.prog 5 #[.slice p l.length c, .int .i64 n] w fun e w' => e = .returned (.bool true) ∧ Below w.heap.size w w' := by
  have e1 : IntKind.i64.min = -9223372036854775808 := by decide
  have e2 : IntKind.i64.max = 9223372036854775807 := by decide
  simp only [Lit.wf, e1, e2, Bool.and_eq_true, decide_eq_true_eq] at hn
  exact blockShort_any p c l n hl (by omega) (by omega) w h

theorem period_zero : Blk.Period (List.replicate 2048 0) 1 := by
  refine ⟨by decide, by decide, by rw [List.length_replicate]; decide, fun i h1 h2 => ?_⟩
  rw [List.length_replicate] at h2
  rw [List.getElem?_replicate, List.getElem?_replicate, if_pos h2, if_pos (by omega)]
set_option maxRecDepth 100000 in
set_option maxHeartbeats 1000000 in
theorem blockNumbers_any (w : World) :
    Calls Try.prog 3 #[] w fun e w' => e = .returned (.bool true) ∧ Below w.heap.size w w' := by
  have hmk : ∀ w : World, (Instr.makeSlice 22 (.int .i64 2048) (.int .i64 2048)).run Try.prog w = .ok (.slice (some ⟨w.heap.size, 0, none⟩) 2048 2048) (w.alloc (.cells (madeCells #[.int .u8 0] 2048) 5)) := run_make_row' (P := Try.prog) 22 5 (.int .u8 0) 1 Try.underlying22 info8 rfl .i64 .i64 2048 (by decide) (by decide)
  have hmk2 : ∀ w : World, (Instr.makeSlice 22 (.int .i64 2049) (.int .i64 2049)).run Try.prog w = .ok (.slice (some ⟨w.heap.size, 0, none⟩) 2049 2049) (w.alloc (.cells (madeCells #[.int .u8 0] 2049) 5)) := run_make_row' (P := Try.prog) 22 5 (.int .u8 0) 1 Try.underlying22 info8 rfl .i64 .i64 2049 (by decide) (by decide)
  have hl1 : (List.replicate 2048 (0 : UInt8)).length = 2048 := List.length_replicate
  have hl2 : (List.replicate 2049 (0 : UInt8)).length = 2049 := List.length_replicate
  have k1 := (Blk.pack_back (b := List.replicate 2048 0) (by rw [hl1]; exact Nat.le_refl _)).1
  have k4 := Blk.pack_short period_zero (by rw [hl1]; exact Nat.le_refl _)
  rw [hl1] at k4
  have hp := packK (List.replicate 2048 0) (some ⟨w.heap.size, 0, none⟩) 2048 (w.alloc (.cells (madeCells #[.int .u8 0] 2048) 5)) (by rw [hl1]; decide) (by rw [hl1]; exact Nat.le_refl _) (made_own w 2048).at
  rw [hl1] at hp
  have HP2 : Hid (∀ w : World, Calls Try.prog 9 #[.slice (some ⟨w.heap.size, 0, none⟩) 2049 2049] (w.alloc (.cells (madeCells #[.int .u8 0] 2049) 5)) (ResV (w.alloc (.cells (madeCells #[.int .u8 0] 2049) 5)) ⟨2, []⟩)) := fun w => by
    have h := packK (List.replicate 2049 0) (some ⟨w.heap.size, 0, none⟩) 2049 (w.alloc (.cells (madeCells #[.int .u8 0] 2049) 5)) (by rw [hl2]; decide) (by rw [hl2]; exact Nat.le_refl _) (made_own w 2049).at
    rw [hl2, Blk.pack_long (by rw [hl2]; decide)] at h
    exact h
  obtain ⟨P, hP⟩ : ∃ P, P = Blk.pack (List.replicate 2048 0) := ⟨_, rfl⟩
  rw [← hP] at hp k1 k4
  obtain ⟨pe, po⟩ := P
  dsimp only at k1 k4
  subst k1
  have HP := Lib.hid hp
  have k5 : po.length ≤ 80 := by omega
  have HB0 : Hid (Below w.heap.size w (w.alloc (.cells (madeCells #[.int .u8 0] 2048) 5))) := (Below.refl _ _).alloc (Nat.le_refl _) _
  clear hp hP hl1 hl2 k4
  go_enter Try.func3, Try.ntmps3
  go_wp2_with fail
  refine HP.out.mono ?_
  rintro e w1 ⟨q1, m1, cap1, rfl, hm1, -, hb1⟩
  dsimp only at hm1
  subst hm1
  have B1 := Lib.hid (HB0.out.trans (hb1.mono HB0.out.size))
  clear hb1 HP HB0
  go_wp2_with fail
  refine (HP2.out w1).mono ?_
  rintro e w2 ⟨q2, m2, cap2, rfl, -, -, hb2⟩
  have C2 : Below w1.heap.size w1 w2 := ((Below.refl _ _).alloc (Nat.le_refl _) _).trans (hb2.mono (by simp))
  have B2 := Lib.hid (B1.out.trans (C2.mono B1.out.size))
  clear hb2 C2 HP2
  go_wp2_with fail
  refine (live10 w2).mono ?_
  rintro e w3 ⟨rfl, hb3⟩
  have B3 := Lib.hid (B2.out.trans (hb3.mono B2.out.size))
  clear hb3
  go_wp2
  go_ret
  exact ⟨rfl, B3.out⟩
end Go.Proofs.Ytoojflhafmnggaa

/- ScanJoins, walked. -/
import Derived.Test.YtclhbhhlddbocaaGreatDoorA6
namespace Go.Proofs.YtclhbhhlddbocaaGreatDoor
open Go.RowKit

theorem Sc.goes_lt {b : List UInt8} : ∀ {j i : Nat} {X Y : Sc.Pos}, Sc.goes b i = some Y → Sc.goes b j = some X → i < j → ∃ Z, Sc.step b Y = .ok Z ∧ Sc.goes b (i + 1) = some Z ∧ Z.at_ ≤ X.at_ ∧ Y.at_ < X.at_
  | 0, i, X, Y, _, _, h => by omega
  | j + 1, i, X, Y, hi, hj, h => by
    obtain ⟨X0, h0, hs⟩ := Sc.goes_pred hj
    obtain ⟨f, h1, -, -, -⟩ := Sc.step_ok hs
    obtain ⟨a1, a2, a3, a4, a5, a6, a7⟩ := Sc.at_ok h1
    have hlt : X0.at_ < X.at_ := by rw [a5]; omega
    rcases Nat.lt_or_ge i j with hc | hc
    · obtain ⟨Z, z1, z2, z3, z4⟩ := Sc.goes_lt hi h0 hc
      exact ⟨Z, z1, z2, by omega, by omega⟩
    · have hij : i = j := by omega
      subst hij
      rw [hi] at h0
      injection h0 with h0
      subst h0
      exact ⟨X, hs, hj, Nat.le_refl _, hlt⟩
/-- what live tells, in every world -/
def Live14 : Prop := ∀ (w : World), Hv w → Calls Tryz.prog 22 #[] w fun e w' => e = .returned (.bool true) ∧ Below w.heap.size w w'

/-- while the frames are looked at once more -/
structure JnI (w wr : World) (g x k : Nat) (v : Value) (l : List UInt8) (T : Nat) (i : Nat) (Y : Sc.Pos) : Prop where
  dev : KDev wr w.heap.size g v { Dv.new 1048576 with b := l, safe := l.length, told := T + Y.read } x k
  below : Below w.heap.size w wr
  goes : Sc.goes l i = some Y

set_option maxRecDepth 100000 in
set_option maxHeartbeats 8000000 in
theorem scanJoins_any (LIVE : Live14) (p : Option Addr) (c : Nat) (l : List UInt8) (hl : l.length ≤ 140737488351232) (hc : l.length ≤ c) (w : World) (hv : Hv w) (hA : At w p l) :
    Calls Tryz.prog 11 #[.slice p l.length c] w fun e w' => e = .returned (.bool true) ∧ Below w.heap.size w w' := by
  have HLv := Lib.hid (LIVE w hv)
  have HHv := Lib.hid hv
  have HA := Lib.hid hA
  clear hv hA LIVE
  go_enter Tryz.func11, Tryz.ntmps11
  go_wp2_with fail
  refine HLv.out.mono ?_
  rintro e w1 ⟨rfl, hb1⟩
  have HB1 := Lib.hid hb1
  clear hb1 HLv
  by_cases hbig : 100000 < l.length
  · have g0 : (100000 : Int) < (l.length : Int) := by omega
    clear hbig
    go_wp2
    go_ret
    exact ⟨rfl, HB1.out⟩
  have g0 : ¬ (100000 : Int) < (l.length : Int) := by omega
  have HLd := Lib.hid (laid14 p c l (by omega) w1 (HA.out.on HB1.out))
  have hll : l.length ≤ 100000 := by omega
  clear hbig
  go_wp2_with fail
  refine HLd.out.mono ?_
  rintro e w2 ⟨g, r, v, u, x, k, rfl, h2⟩
  have hHv1 : Hv w1 := HHv.out.next HB1.out
  have hW := kWhole (G := fun i => i = g ∨ v.ownBlock = some i) h2.dev rfl (by show l.length ≤ _; omega) (by show 0 ≤ _; omega) (hHv1.next h2.below) hHv1.lt h2.below.size (fun i hi => hi) (fun i hi => by
    rcases hi with hi | hi
    · rw [hi]; exact h2.dev.lt
    · exact (h2.dev.has.lt i hi).2)
  have HW := Lib.hid hW
  have HB2 := Lib.hid h2.below
  have HLt : Hid (w1.heap.size ≤ g) := h2.dev.base
  clear hW h2 HLd hHv1
  go_wp2_with fail
  refine HW.out.mono ?_
  rintro e w3 ⟨j, X, er, v', g', hgo, hst, rfl, hwk, hdv, has⟩
  have hgd := Sc.goes_good hgo
  have hst2 := Sc.step_ne hgd.2.1 hst
  have hX : X.at_ ≤ l.length := hgd.2.1
  have hXr : X.read ≤ j * 2202 := hgd.2.2.2
  have h8 : 8 * j ≤ X.at_ := hgd.2.2.1
  have hrd := Sc.reads_le l (X.at_ : Nat)
  have HB3 : Hid (Below w1.heap.size w1 w3) := HB2.out.trans (has.below HB2.out.size (fun i hi hc => by have := HLt.out; omega))
  obtain ⟨T, hT⟩ : ∃ T, T = X.read + Sc.reads l (X.at_ : Nat) := ⟨_, rfl⟩
  have HD3 : Hid (KDev w3 w1.heap.size g v { Dv.new 1048576 with b := l, safe := l.length, told := T } x k) := by
    rw [hT]
    have := hdv
    simp only [Dv.new, Nat.zero_add] at this ⊢
    exact this
  have hTb : T ≤ j * 2202 + 2202 := by omega
  have HGo := Lib.hid hgo
  have d1 : decide ((X.at_ : Int) < 0) = false := decide_eq_false (by omega)
  have d2 : decide (l.length < X.at_) = false := decide_eq_false (by omega)
  have hcase : (((er : Int) == 140) = true ∧ ((X.at_ : Int) == (l.length : Int)) = true) ∨ (((er : Int) == 140) = false ∧ ((X.at_ : Int) == (l.length : Int)) = true) ∨ (((er : Int) == 140) = false ∧ ((X.at_ : Int) == (l.length : Int)) = false) := by
    by_cases h1 : er = 140
    · exact .inl ⟨by rw [h1]; rfl, by rw [beq_iff_eq]; have := hst2 h1; omega⟩
    · by_cases h2 : X.at_ = l.length
      · exact .inr (.inl ⟨by rw [beq_eq_false_iff_ne]; omega, by rw [beq_iff_eq]; omega⟩)
      · exact .inr (.inr ⟨by rw [beq_eq_false_iff_ne]; omega, by rw [beq_eq_false_iff_ne]; omega⟩)
  clear hgd hst hst2 hgo hwk hdv has hT hrd HW
  rcases hcase with ⟨d3, d4⟩ | ⟨d3, d4⟩ | ⟨d3, d4⟩
  all_goals
    go_wp2_with fail
    go_loopw [9, 10] (fun v9 v10 wr => ∃ i Y, v9 = .int .i64 (i : Nat) ∧ v10 = .int .i64 (Y.at_ : Nat) ∧ i ≤ j ∧ Hid (JnI w1 wr g x k v l T i Y)) (fun v9 _ _ => j - (intOf v9).toNat)
    case atStart => exact ⟨0, Sc.begin_, rfl, rfl, Nat.zero_le _, ⟨HD3.out, HB3.out, rfl⟩⟩
    case round =>
      obtain ⟨i, Y, rfl, rfl, hij, HI⟩ := hrel
      have hgd := Sc.goes_good HI.out.goes
      have hY : Y.at_ ≤ l.length := hgd.2.1
      have hYr : Y.read ≤ i * 2202 := hgd.2.2.2
      by_cases hlt : i < j
      · obtain ⟨Z, z1, z2, z3, z4⟩ := Sc.goes_lt HI.out.goes HGo.out hlt
        obtain ⟨f, y1, y2, y3, y4⟩ := Sc.step_ok z1
        obtain ⟨a1, a2, a3, a4, a5, a6, a7⟩ := Sc.at_ok y1
        have hHv1 : Hv w1 := HHv.out.next HB1.out
        have hAt := kAt HI.out.dev rfl (by show l.length ≤ _; omega) (by show T + Y.read + l.length ≤ _; omega) (hHv1.next HI.out.below) hHv1.lt (Y.at_ : Nat)
        have hAt2 : Calls Tryz.prog 25 #[.pointer (some ⟨g, 0, none⟩), .int .i64 (Y.at_ : Nat)] wr fun e w' => (∃ u, e = .returned (.tuple #[.agg u, .int .i64 (Z.at_ : Nat), .int .i64 0]) ∧ FOwn w' wr.heap.size u f) ∧ KDev w' w1.heap.size g v { Dv.new 1048576 with b := l, safe := l.length, told := T + Y.read + Sc.reads l (Y.at_ : Nat) } x k ∧ Aside (fun k => k = g) wr w' := by
          refine hAt.mono fun e w' ⟨h1, h2, h3⟩ => ⟨?_, h2, h3⟩
          have h4 : AtA (Sc.at_ l (Y.at_ : Nat)) wr e w' := h1
          rw [y1] at h4
          exact h4
        have HAt := Lib.hid hAt2
        have HZ2 := Lib.hid z2
        have HZr : Hid (Z.read = Y.read + Sc.reads l (Y.at_ : Nat)) := y4
        have HFe := Lib.hid a3
        have HFw := Lib.hid a4
        have hR22 := (Fr.err_open a3).2
        obtain ⟨rn, hrn⟩ : ∃ rn, rn = Fr.run f := ⟨_, rfl⟩
        rw [← hrn] at a5 a7 hR22
        have HRn := Lib.hid hrn
        have hZ : Z.at_ = Y.at_ + rn.length + 2 := by simpa using a5
        have hby : (l.drop Y.at_).take (rn.length + 2) = 0 :: (rn ++ [0]) := by simpa using a7
        have HBy := Lib.hid hby
        have g1 : (Y.at_ : Int) < (X.at_ : Int) := by omega
        have hZl : Z.at_ ≤ l.length := by omega
        have HLow : Hid (w1.heap.size ≤ g) := HLt
        have HZq := Lib.hid hZ
        clear hAt hAt2 z1 z2 y1 y2 y3 y4 a1 a2 a3 a4 a5 a6 a7 hrn hgd hHv1 hby hZ
        go_wp2_with fail
        refine HAt.out.mono ?_
        rintro e w4 ⟨⟨uu, rfl, hfo⟩, hdv4, has4⟩
        have hfl := hfo.lies
        obtain ⟨sp, sc, bp, bc, ep, ec, hu, -⟩ := hfo.out
        unfold cells11 at hu
        subst hu
        clear hfo
        obtain ⟨b0, hb0⟩ : ∃ x, x = f.kind := ⟨_, rfl⟩
        obtain ⟨b1, hb1⟩ : ∃ x, x = f.number := ⟨_, rfl⟩
        obtain ⟨b2, hbb2⟩ : ∃ x, x = f.cols.length := ⟨_, rfl⟩
        obtain ⟨b3, hb3⟩ : ∃ x, x = f.seq := ⟨_, rfl⟩
        obtain ⟨b4, hb4⟩ : ∃ x, x = f.first := ⟨_, rfl⟩
        obtain ⟨b5, hb5⟩ : ∃ x, x = f.rows := ⟨_, rfl⟩
        obtain ⟨b6, hb6⟩ : ∃ x, x = f.block.length := ⟨_, rfl⟩
        obtain ⟨b7, hb7⟩ : ∃ x, x = f.index.at_ := ⟨_, rfl⟩
        obtain ⟨b8, hb8⟩ : ∃ x, x = f.index.frames := ⟨_, rfl⟩
        obtain ⟨b9, hb9⟩ : ∃ x, x = f.index.rows := ⟨_, rfl⟩
        obtain ⟨b10, hb10⟩ : ∃ x, x = f.index.entries.length := ⟨_, rfl⟩
        rw [← hb0, ← hb1, ← hbb2, ← hb3, ← hb4, ← hb5, ← hb6, ← hb7, ← hb8, ← hb9, ← hb10] at hfl ⊢
        obtain ⟨w5, hw5⟩ : ∃ w5, w5 = w4.alloc (.cells #[.int .i64 b0, .int .i64 b1, .slice sp b2 sc, .int .i64 b3, .int .i64 b4, .int .i64 b5, .slice bp b6 bc, .int .i64 b7, .int .i64 b8, .int .i64 b9, .slice ep b10 ec] 30) := ⟨_, rfl⟩
        have hb45 : Below w4.heap.size w4 w5 := by rw [hw5]; exact (Below.refl _ _).alloc (Nat.le_refl _) _
        have HW5 : Hid (w4.alloc (.cells #[.int .i64 b0, .int .i64 b1, .slice sp b2 sc, .int .i64 b3, .int .i64 b4, .int .i64 b5, .slice bp b6 bc, .int .i64 b7, .int .i64 b8, .int .i64 b9, .slice ep b10 ec] 30) = w5) := hw5.symm
        have hB4 : Below w1.heap.size w1 w4 := HI.out.below.trans (has4.below HI.out.below.size (fun i hi hc => by have := HLow.out; omega))
        have hB5 : Below w1.heap.size w1 w5 := hB4.trans (hb45.mono hB4.size)
        have hE := encodeF f HFw.out _ w5 ((HHv.out.next HB1.out).next hB5) (hfl.on hb45)
        rw [HFe.out, ← HRn.out] at hE
        have HE := Lib.hid hE
        have HD5 := Lib.hid (hdv4.below hb45)
        have HB5 := Lib.hid hB5
        clear hE hB5 hB4 hb45 hw5 hfl hdv4 has4 HAt hb0 hb1 hbb2 hb3 hb4 hb5 hb6 hb7 hb8 hb9 hb10 HI
        go_wp2_with fail
        rw [HW5.out]
        refine HE.out.mono ?_
        rintro e w6 (⟨-, q, cap, rfl, hh, hb6⟩ | ⟨hcx, -⟩)
        case inr => exact absurd rfl hcx
        obtain ⟨q', cap', hcc, hat6, hcapl⟩ := hh.at
        injection hcc with hq1 _ hcc
        subst hq1
        subst hcc
        have hB6 : Below w1.heap.size w1 w6 := HB5.out.trans (hb6.mono HB5.out.size)
        have hAl : At w6 p l := (HA.out.on HB1.out).on hB6
        obtain ⟨pb, po, rfl, hpb, hpc⟩ := at_some hAl (by omega)
        have hsub : At w6 (some ⟨pb, po + Y.at_, none⟩) (0 :: (rn ++ [0])) := by
          rw [← HBy.out]
          exact .inr ⟨pb, po + Y.at_, rfl, hpb, cells_take (cells_drop hpc Y.at_) (rn.length + 2)⟩
        have hZ := HZq.out
        obtain ⟨TX, hTX⟩ : ∃ TX, TX = textOf (0 :: (rn ++ [0])) := ⟨_, rfl⟩
        have k1 : ∀ mm cc, (convert 25 9 (.slice (some ⟨pb, po + Y.at_, none⟩) (rn.length + 1 + 1) cc)).run Tryz.prog (w6.drewN mm) = .ok (.string TX) (w6.drewN mm) := fun mm cc => by
          have := conv_str (hsub.drewN mm) cc
          rw [← hTX] at this
          simpa using this
        have k2 : ∀ mm, (convert 25 9 (.slice q (rn.length + 1 + 1) cap)).run Tryz.prog (w6.drewN mm) = .ok (.string TX) (w6.drewN mm) := fun mm => by
          have := conv_str (hat6.drewN mm) cap
          rw [← hTX] at this
          simpa using this
        have s2 : ∀ w', (Instr.slice 25 (.slice (some ⟨pb, po, none⟩) l.length c) (some (.int .i64 (Y.at_ : Nat))) (some (.int .i64 (Z.at_ : Nat))) none).run Tryz.prog w' = .ok (.slice (some ⟨pb, po + Y.at_, none⟩) (rn.length + 1 + 1) (c - Y.at_)) w' := fun w' => by
          have hs : (sizeOf (Tryz.prog.elem 25)).run Tryz.prog w' = .ok 1 w' := by kernel_rfl
          rw [run_slice_lh w' 25 (some ⟨pb, po, none⟩) l.length c (by kernel_rfl) .i64 .i64 (Y.at_ : Nat) (Z.at_ : Nat) (by omega) (by omega) (by omega), hs]
          have e : c ≠ Y.at_ := by omega
          simp [sliced, Result.andThen, e, Addr.add]
          omega
        have m1 : ((Z.at_ : Int) != (Y.at_ : Int) + ((rn.length : Int) + 1 + 1)) = false := by rw [bne_eq_false_iff_eq]; omega
        have m2 : decide (X.at_ < Z.at_) = false := decide_eq_false (by omega)
        have m3 : ¬ (X.at_ : Int) < (Z.at_ : Int) := by omega
        have hYI : (Y.at_ : Int) ≤ 100000 := by omega
        have hRI : (rn.length : Int) ≤ 2200 := by omega
        have m4 : ((Z.at_ : Int) != (Y.at_ : Int) + ((rn.length : Int) + 2)) = false := by rw [bne_eq_false_iff_eq]; omega
        have HI2 : Hid (∀ mm, JnI w1 (w6.drewN mm) g x k v l T (i + 1) Z) := fun mm => by
          refine ⟨?_, below_drewN hB6 mm, HZ2.out⟩
          have h7 := (HD5.out.below hb6).drewN mm
          rw [HZr.out, ← Nat.add_assoc]
          exact h7
        have hiI : (i : Int) ≤ 100000 := by omega
        clear hh hb6 hat6 hcapl hB6 hAl hpb hpc hsub hTX HE HD5 HB5 HZ2 HZr HBy HRn HFe HFw HW5 hR22 HA hZ HZq
        go_wp2_with fail
        go_quiet (fail)
        go_wp2
        go_roundw
        case rel => exact ⟨i + 1, Z, by go_num, rfl, by omega, HI2.out _⟩
        case measure => simp [intOf]; omega
      · have hij2 : i = j := by omega
        subst hij2
        have hYX : Y = X := by
          have := HI.out.goes
          rw [HGo.out] at this
          injection this with this
          exact this.symm
        subst hYX
        have g1 : ¬ (Y.at_ : Int) < (Y.at_ : Int) := by omega
        have HCt := Lib.hid (kCounted HI.out.dev)
        have hle : (T : Int) + (Y.read : Int) ≤ (2 * (i : Int) + 1) * 2202 := by omega
        have hle2 : decide ((T : Int) + (Y.read : Int) ≤ (2 * (i : Int) + 1) * 2202) = true := decide_eq_true hle
        have hiI : (i : Int) ≤ 100000 := by omega
        have HBf := Lib.hid (HB1.out.trans (HI.out.below.mono HB1.out.size))
        clear hlt hij HI hgd HA
        go_wp2_with fail
        refine HCt.out.mono ?_
        rintro e w4 ⟨rfl, hw4⟩
        rw [hw4]
        clear hw4 w4
        go_wp2
        go_ret
        exact ⟨rfl, HBf.out⟩
end Go.Proofs.YtclhbhhlddbocaaGreatDoor
